import PyProof.Rows.All
import Wide.All
import OpenK.AllK
import Wide.FinOn
import HandS.ForMost
import HandS.ForExc
import HandS.EndBits
import HandS.IsInst
import PyProof.ReprRoads
import PyProof.ReprLen
import HandS.TupAny
import PyProof.Rows.IntBool
import KE.KRevSl
import HandS.Style
import PyProof.FitsInt
import PyProof.NeKinds
import HandS.Conv
import HandS.Text
import HandS.Zip
import KE.GoesZip
import KE.GoesMore
import HandS.Walk
import KE.GoesEnum
import PyProof.EnumFor
import HandS.TupLe
import KE.SortData
import PyProof.TableTree
import PyProof.FactsTree
import PyProof.PlainAttrs
import PyProof.CallType
import PyProof.TupleOfSeq
import HandS.Codes
import HandS.Strs
import HandS.DictComp
import HandS.Wide
import HandS.Base
import KE.KDictZip
import HandS.Iter
import HandS.List
import HandS.More
import HandS.SortInts
import KE.DataEq
import KE.LtData
import PySem.Challenge.RW_plansamid_k22_whole_guesses_beside_other

section
set_option Elab.async false
set_option linter.all false
set_option maxRecDepth 100000
set_option maxHeartbeats 4000000
/-! A def's promise where no text of a container is being put together around it (so that repr is served). -/
namespace Gd
open PySem PySem.Spec PyProof.Rows L2

/-- no container is amid its own text -/
def Free (A : Around) : Prop := A.guards = some []

structure FnG (P : Program) (w : World) (K : PySem.W.Frag) (mg : Str → Option Value)
    (base : Heap) (cx : CXT) (n : Nat) (f : Addr) (fd : FuncData) (ps : List Str) (sp : Sp) : Prop where
  len : ∀ vs H Q E, sp vs H Q E → vs.length = ps.length
  run : ∀ (A : Around) (out : List Env) (s : Shared) (H : Hp) (args : Args) (us : List Value)
      (vs : List V) (Q : VK) (E : XK), Free A → Room n A → Env0 P w K mg base A out s H →
      BindsTo s fd args (ps.zip us) → Vals vs us → sp vs H Q E →
      codeAny (model P w) A (.call (.ref f) args) (CR cx out P w H s Q E) s

section
variable {P : Program} {w : World} {K : PySem.W.Frag} {mg : Str → Option Value} {base : Heap} {cx : CXT}
theorem FnG.ofOk {n : Nat} {f : Addr} {fd : FuncData} {ps : List Str} {sp : Sp}
    (F : FnOk P w K mg base cx n f fd ps sp) : FnG P w K mg base cx n f fd ps sp :=
  ⟨F.len, fun A out s H args us vs Q E _ => F.run A out s H args us vs Q E⟩
theorem FnG.mono {m n : Nat} {f : Addr} {fd : FuncData} {ps : List Str} {sp : Sp}
    (F : FnG P w K mg base cx m f fd ps sp) (h : m ≤ n) : FnG P w K mg base cx n f fd ps sp :=
  ⟨F.len, fun A out s H args us vs Q E g r => F.run A out s H args us vs Q E g (r.mono h)⟩
end

section
variable {X : Cx} {cx : CXT} {n : Nat} {f : Addr} {fd : FuncData} {ps : List Str} {sp : Sp}
  {dvs : List V} {ds : List Value} {E : XK} {x : Str} {p pos : Pos} {e : Expr} {es : List Expr} {t : TA}

theorem run_g {pins : List (Addr × Obj)} {σ : L2.St} {H : Hp} {s : Shared} {Q : VK} {us : List Value} {vs : List V}
    (F : FnG X.prog X.w X.K X.mg X.base cx n f fd ps sp) (g : Free X.A) (hr : Room n X.A)
    (hb : Binds X.K fd ps ds) (hd : Vals dvs ds) (hx : Passes cx X E)
    (I : Inv X pins σ H s) (r : Vals vs us) (h : sp (vs ++ dvs) H Q E) :
    wpAny (model X.prog X.w) X.A (call (.ref f) us) (EP X pins σ Q) X.xe s := by
  have rr : Vals (vs ++ dvs) (us ++ ds) := r.append hd
  have hl : (us ++ ds).length = ps.length := (Paired.length rr).symm.trans (F.len _ _ _ _ h)
  have all := F.run X.A X.stack s H ⟨us, []⟩ (us ++ ds) (vs ++ dvs) Q E g hr I.env0 (hb s us I.kIn hl) rr h
  refine wpAny_call (codeAny_mono all ?_)
  intro o s' z
  cases o with
  | error er => exact hx pins σ H s er s' I z
  | ok fl =>
    cases fl with
    | ret u => exact I.after z
    | _ => exact False.elim z

theorem pe_callG (F : FnG X.prog X.w X.K X.mg X.base cx n f fd ps sp) (g : Free X.A) (hr : Room n X.A)
    (hg : Gl X x) (hm : X.mg x = some (.ref f)) (hk : PySem.W.keepIn X.K (.ref f) = true)
    (hb : Binds X.K fd ps ds) (hd : Vals dvs ds) (hx : Passes cx X E) (ha : PA X (e :: es) t)
    (hdb : (x == ("__debug__" : Str)) = false := by decide)
    (he : starEach (e :: es) X.env = (false, eval e X.env) :: starEach es X.env := by rfl)
    (hpl : (backTo pos (starEach es X.env)).any (·.1) = false := by rfl) :
    PE X (.Call (.Name x p) (e :: es) [] pos) (tCall sp dvs E t) := by
  constructor
  intro pins s σ H Q I h
  refine wpAny_Call_Name_kw (ld_glob I hg hm ?_ hdb)
  have args := ha.run pos pins s σ H _ I h
  refine PySem.W.callWith_K (h₀ := X.base) I.ok.mod.kin hk (thn args ?_) he hpl
  rintro us s1 ⟨vs, H1, J, r, q⟩
  exact ⟨J.kIn, run_g F g hr hb hd hx J r q⟩
end

/-! ### by the body -/
section
variable {P : Program} {w : World} {K : PySem.W.Frag} {mg : Str → Option Value} {base : Heap}
theorem FnG.body {cx : CXT} {n : Nat} {f : Addr} {nm ql : Str} {pr : Arguments} {bd : List Stmt} {sc : Scope}
    {dV kV dc pm cv ct oc : Value} {an od : Option Addr} {sl : Array (Option Value)} {N ps : List Str} {sp : Sp}
    (lk : K.lookup f = some ⟨oc, od, .func (PySem.W.fnOf nm ql pr bd sc dV kV dc pm an cv ct), sl⟩)
    (hc : PySem.W.codeIn K cv ql = true) (S : FnScope N ps sc) (len : ∀ vs H Q E, sp vs H Q E → vs.length = ps.length)
    (hb : ∀ (A : Around) (out : List Env) (s : Shared) (H : Hp) (vs : List V) (Q : VK) (E : XK),
      Free (A.deeper (envOfC ql sc s.heap.objs.size f cv)) → Room n (A.deeper (envOfC ql sc s.heap.objs.size f cv)) →
      sp vs H Q E → ∃ t, PSs (cxOf cx P w K mg base N ql sc f cv A out s H E) bd t ∧
        t { nx := fun _ H' => Q .non H', rt := Q } (start N vs) H) :
    FnG P w K mg base cx (n + 1) f (PySem.W.fnOf nm ql pr bd sc dV kV dc pm an cv ct) ps sp := by
  refine ⟨len, ?_⟩
  intro A out s H args us vs Q E g hr e0 hbd r hsp
  have hl := len _ _ _ _ hsp
  have KX : K.In s.heap := e0.mod.kin.keeps fun b o e => (e0.bs b o e).1
  have lim : s.heap.NoLimit := e0.mod.nolimit.keeps fun b o e => (e0.bs b o e).1
  have kinds : ∀ y ∈ ps.zip us, sc.names.lookup y.1 = some .local ∨
      (sc.names.lookup y.1 = some .cell ∧
        ((cellsFrom (s.heap.objs.size + 1) sc.names []).lookup y.1).isSome = true) := by
    rintro ⟨y, v⟩ hy
    rcases S.par y (List.of_mem_zip hy).1 with q | q
    · left; exact q
    · right; exact ⟨q, PySem.W.cellsFrom_some _ _ _ (.inl q)⟩
  have code := PySem.W.codeRec_of KX hc
  refine codeAny_call_function hr.depth (KX _ _ lk) rfl S.co S.gen rfl code (hbd _ _ _ _ ?_)
  refine wpAny_newFunctionEnv_cells S.kind kinds ?_
  intro env he s1 x
  subst he
  refine ⟨lim.keeps x.toInCall.keep, codeAny_func ?_⟩
  obtain ⟨t, ht, hq⟩ := hb A out s H vs Q E g (hr.deeper _) hsp
  have I := inv_start (CX := cx) (P := P) (w := w) (E := E) S hr.hd e0 hl r x
  refine wpAny_mono (ht.run [] s1 (start N vs) H _ I hq) ?_ fun er s' z => z
  intro fl s' z
  cases fl with
  | ret u =>
    obtain ⟨v, σ', H', J, rv, q⟩ := z
    exact ⟨v, H', J.os, J.bare, J.base, J.hok, rv, q⟩
  | next =>
    obtain ⟨σ', H', J, q⟩ := z
    exact ⟨V.non, H', J.os, J.bare, J.base, J.hok, rfl, q⟩
  | brk =>
    obtain ⟨_, _, _, q⟩ := z
    exact q.elim
  | cont =>
    obtain ⟨_, _, _, q⟩ := z
    exact q.elim

theorem okG {x ql : Str} {st : Stmt} {f : Addr} {fd : FuncData} {N ps : List Str} {n : Nat} {sp : Sp}
    (F : Fun K x ql st f fd) (S : FnScope N ps (defScope st)) (len : ∀ vs H Q E, sp vs H Q E → vs.length = ps.length)
    (hb : ∀ (cv : Value) (A : Around) (out : List Env) (s : Shared) (H : Hp) (vs : List V) (Q : VK) (E : XK),
      Free (A.deeper (envOfC ql (defScope st) s.heap.objs.size f cv)) →
      Room n (A.deeper (envOfC ql (defScope st) s.heap.objs.size f cv)) → sp vs H Q E →
      ∃ t, PSs (cxOf CX0 P w K mg base N ql (defScope st) f cv A out s H E).nox (defBody st) t ∧
        t { nx := fun _ H' => Q .non H', rt := Q } (start N vs) H) :
    FnG P w K mg base CX0 (n + 1) f fd ps sp := by
  obtain ⟨oc, od, kV, dc, pm, an, cv, ct, sl, rfl, lk, hc⟩ := F.ex
  refine FnG.body lk hc S len ?_
  intro A out s H vs Q E g hr hsp
  obtain ⟨t, h, q⟩ := hb cv A out s H vs Q E g hr hsp
  exact ⟨t, h.nox, q⟩
end
end Gd
end

section
set_option Elab.async false
set_option linter.all false
set_option maxRecDepth 100000
set_option maxHeartbeats 4000000
/-! The end of a law's row from a promise of Gd.FnG. -/
namespace Gd
open PySem PySem.Spec PyProof.Rows L2

/-- what is wanted of the law's own call -/
def Yes (s1 : Shared) (r : Result) (s' : Shared) : Prop :=
  r = .ok (.ret (.bool true)) ∧ OldK s1.heap s'.heap ∧ s'.os = s1.os ∧ AllBare s'.gens

section
variable {P : Program} {w : World} {K : PySem.W.Frag} {mg mb : Str → Option Value} {cx : CXT} {n : Nat}
  {fa a : Addr} {fd : FuncData} {x : Str} {sp : Sp} {s1 : Shared} {vs : List Value} {ns : List Int}

theorem begun (H : Hp) (only : Only H) (hS : SqL K H a (ns.map V.int)) (hok : HOk P w H s1.heap)
    (at_a : ∀ b, H b ≠ none → b = a) (noK : H a ≠ none → K.lookup a = none)
    (KX : K.In s1.heap) (hns : s1.heap.Ns mainGlobals mg) (hb : s1.heap.Ns builtinsNs mb)
    (hbb : ∀ y : Str, y ≠ "__name__" → mb y = bootBuiltins y) (hlim : s1.heap.NoLimit) (hg : s1.gens = #[])
    (ha : s1.heap.get? a = some { cls := .type "list", data := .seq vs.toArray }) (hr : Room n callerA)
    (F : ∀ base : Heap, K.In base → base.Ns mainGlobals mg → FnG P w K mg base cx n fa fd [x] sp)
    (hbind : ∀ (s : Shared) (u : Value), BindsTo s fd ⟨[u], []⟩ [(x, u)])
    (hsp : sp [.ref a] H (fun v _ => v = .bl true) fun _ _ _ => False)
    (hCX : ∀ e s', cx [] H s1 (fun _ _ _ => False) e s' → False) :
    codeAny (model P w) callerA (.call (.ref fa) ⟨[.ref a], []⟩) (Yes s1) s1 := by
  -- the base: what isn't tracked
  let B := hidT s1.heap H
  have toB : ∀ {b : Addr} {o : Obj}, s1.heap.get? b = some o → H b = none → B.get? b = some o :=
    fun e z => hidT_get e z
  have notDict : ∀ {b : Addr} {o : Obj} {es : Array DictEntry} {m : Nat},
      s1.heap.get? b = some o → o.data = .dict es m → H b = none := by
    intro b o es m e d
    cases q : H b with
    | none => rfl
    | some u =>
      exfalso
      have eb : b = a := at_a b (by simp [q])
      rw [eb, ha] at e
      cases Option.some.inj e
      cases d
  have nsB : ∀ {b : Addr} {m : Str → Option Value}, s1.heap.Ns b m → B.Ns b m := by
    rintro b m ⟨o, es, ep, e, d, r⟩
    exact ⟨o, es, ep, toB e (notDict e d), d, r⟩
  have inB : K.In B := by
    intro b o e
    refine toB (KX b o e) ?_
    cases q : H b with
    | none => rfl
    | some u =>
      have eb : b = a := at_a b (by simp [q])
      have z := noK (by rw [← eb, q]; simp)
      rw [eb, z] at e
      cases e
  have modB : Mod K mg B := by
    obtain ⟨mc, l1, l2⟩ := hlim
    exact ⟨inB, nsB hns, ⟨mb, nsB hb, hbb⟩, ⟨mc, nsB l1, l2⟩⟩
  have nil : ∀ {b : Addr}, b ∉ ([] : List Addr) := fun z => nomatch z
  have e0 : Env0 P w K mg B callerA [] s1 H :=
    ⟨rfl, modB, fun b o e => of_hidT e, Nat.le_of_eq (hidT_size _ _), trivial, fun b z => (nil z).elim, hok, .of_eq hg⟩
  have got := (F B inB (nsB hns)).run callerA [] s1 H ⟨[.ref a], []⟩ [.ref a] [.ref a] _ _ rfl hr e0
    (hbind s1 (.ref a)) (.cons rfl .nil) hsp
  refine codeAny_mono got ?_
  intro r s' z
  cases r with
  | error er => exact (hCX er s' z).elim
  | ok fl =>
    cases fl with
    | ret u =>
      obtain ⟨v, H', os, bare, un, hok', rv, q⟩ := z
      obtain rfl : v = .bl true := q
      obtain rfl : u = Value.bool true := rv
      refine ⟨rfl, OldK.of_keep ?_, os, bare⟩
      intro b o e
      cases q : H b with
      | none => exact un.keep b o e q (fun z => (nil z).elim) (fun z => (nil z).elim)
      | some u =>
        rcases only b with z | ⟨ob, xs, z⟩
        · exact nomatch q.symm.trans z
        · obtain ⟨g1, _⟩ := hok b _ z
          obtain ⟨g2, _⟩ := hok' b _ (un.frzs b ob _ z)
          exact g2.trans (g1.symm.trans e)
    | _ => exact False.elim z

theorem law_callG (KX : K.In s1.heap) (hns : s1.heap.Ns mainGlobals mg) (hb : s1.heap.Ns builtinsNs mb)
    (hbb : ∀ y : Str, y ≠ "__name__" → mb y = bootBuiltins y) (hlim : s1.heap.NoLimit) (hg : s1.gens = #[])
    (ha : s1.heap.get? a = some { cls := .type "list", data := .seq vs.toArray }) (hi : IntsAre vs ns)
    (hl : ns.length ≤ sizeLine) (hr : Room n callerA)
    (F : ∀ base : Heap, K.In base → base.Ns mainGlobals mg → FnG P w K mg base cx n fa fd [x] sp)
    (hbind : ∀ (s : Shared) (u : Value), BindsTo s fd ⟨[u], []⟩ [(x, u)])
    (hsp : ∀ H : Hp, Only H → SqL K H a (ns.map V.int) → sp [.ref a] H (fun v _ => v = .bl true) fun _ _ _ => False)
    (hCX : ∀ H e s', cx [] H s1 (fun _ _ _ => False) e s' → False) :
    codeAny (model P w) callerA (.call (.ref fa) ⟨[.ref a], []⟩) (Yes s1) s1 := by
  have rv := vals_ints hi
  have hz : vs.toArray.size ≤ sizeLine := by
    rw [List.size_toArray, hi.length]
    exact hl
  cases hk : K.lookup a with
  | some o =>
    have e : some o = some _ := (KX a o hk).symm.trans ha
    cases e
    have here : SqL K (fun _ => none) a (ns.map V.int) := .inr ⟨_, vs.toArray, _, hk, rfl, rfl, rfl, hz, by simpa using rv⟩
    have only : Only (fun _ => none) := fun _ => .inl rfl
    exact begun (fun _ => none) only here (fun b u z => nomatch z) (fun b z => absurd rfl z) (fun z => absurd rfl z)
      KX hns hb hbb hlim hg ha hr F hbind (hsp _ only here) (hCX _)
  | none =>
    let H : Hp := fun b => if b = a then some (.frz { cls := .type "list", data := .seq vs.toArray } (.lst (ns.map V.int))) else none
    have Ha : H a = some (.frz { cls := .type "list", data := .seq vs.toArray } (.lst (ns.map V.int))) := if_pos rfl
    have Hn : ∀ {b : Addr}, b ≠ a → H b = none := fun z => if_neg z
    have only : Only H := by
      intro b
      by_cases eb : b = a
      · right
        subst eb
        exact ⟨_, _, Ha⟩
      · left
        exact Hn eb
    have here : SqL K H a (ns.map V.int) := .inl (.inr ⟨_, Ha⟩)
    refine begun H only here ?_ ?_ (fun _ => hk) KX hns hb hbb hlim hg ha hr F hbind (hsp _ only here) (hCX _)
    · intro b u z
      by_cases eb : b = a
      · subst eb
        rw [Ha] at z
        cases z
        exact ⟨ha, by rw [List.length_map]; exact hl, vs, _, rv, ha⟩
      · rw [Hn eb] at z
        cases z
    · intro b z
      by_cases eb : b = a
      · exact eb
      · exact absurd (Hn eb) z
end

theorem walkG {l : PySem.W.OpenLaw} {m n : Nat} {q : Program} {loose : List Str} {XP : (Str → Option Value) → Heap → Prop}
    {YP : World → Heap → Prop} {d : DefRec} {K : Params → PySem.W.Frag} {sp : PySem.W.Frag → Sp} {x : Str}
    (hn : l.most = some m) (hm : m ≤ sizeLine) (hdf : d.params.defaults = []) (hr : Room n callerA)
    (hY : ∀ (w : World) (h : Heap), YP w h → (K w.params).In h)
    (F : ∀ (w : World) (mg : Str → Option Value) (fa : Addr) (h : Heap), (K w.params).In h → h.Ns mainGlobals mg →
      mg d.name = some (.ref fa) → ∃ fd : FuncData, (∀ (s : Shared) (u : Value), BindsTo s fd ⟨[u], []⟩ [(x, u)]) ∧
        ∀ base : Heap, (K w.params).In base → base.Ns mainGlobals mg →
          FnG l.prog w (K w.params) mg base CX0 n fa fd [x] (sp (K w.params)))
    (hsp : ∀ (K : PySem.W.Frag) (H : Hp) (a : Addr) (ns : List Int), ns.length ≤ m →
      (∀ z ∈ ns, Builtin.Int.intBits z ≤ 1048576) → Only H → SqL K H a (ns.map V.int) →
      sp K [.ref a] H (fun v _ => v = .bl true) fun _ _ _ => False) :
    PySem.W.WalkO q loose XP YP l.row.toRowW d [] (fun f vs => PySem.call f vs) := by
  refine Att.attach_callB hn hdf ?_
  intro w s0 s1 mg mb fa o pm cd dc a vs ns G Y ho hd hcd hmg hobj hints hlen hbits hg
  have KX := hY w _ Y
  obtain ⟨fd, hb, hF⟩ := F w mg fa _ KX G.T.g hmg
  exact law_callG KX G.T.g G.T.b G.T.builtins G.T.nolimit hg hobj hints (Nat.le_trans hlen hm) hr hF hb
    (fun H only hS => hsp _ H a ns hlen hbits only hS) fun H e s' z => z.elim
end Gd
end

section
set_option Elab.async false
set_option linter.all false
set_option maxRecDepth 100000
set_option maxHeartbeats 4000000
/-! What the laws draw from: a list of three numbers, of which each draw takes one more. -/
namespace Gd
open PySem PySem.Spec PyProof.Rows L2

/-- at p: what is left of a great number, the seed, how many were drawn, at most S -/
def Feed (H : Hp) (p : Addr) (S : Int) : Prop := ∃ g x s : Int, H p = some (.lst [.int g, .int x, .int s]) ∧ 0 ≤ s ∧ s ≤ S
theorem Feed.le {H : Hp} {p : Addr} {S T : Int} (h : Feed H p S) (l : S ≤ T) : Feed H p T := by
  obtain ⟨g, x, s, e, a, b⟩ := h
  exact ⟨g, x, s, e, a, by omega⟩
theorem Feed.here {H : Hp} {p : Addr} {S g x s : Int} (h0 : 0 ≤ s) (h : s ≤ S) : Feed (upd H p (.lst [.int g, .int x, .int s])) p S :=
  ⟨g, x, s, upd_same, h0, h⟩
theorem Feed.stays {H : Hp} {p q : Addr} {S : Int} {o : HO} (h : Feed H p S) (n : H q = none) : Feed (upd H q o) p S := by
  obtain ⟨g, x, s, e, a, b⟩ := h
  refine ⟨g, x, s, ?_, a, b⟩
  rw [upd_ne (ne_of_none e n)]
  exact e
/-- all is as it was, but at p -/
def Ex1 (p : Addr) (H H' : Hp) : Prop := ∀ a o, a ≠ p → H a = some o → H' a = some o
theorem Ex1.refl (p : Addr) (H : Hp) : Ex1 p H H := fun _ _ _ h => h
theorem Ex1.trans {p : Addr} {H H1 H2 : Hp} (a : Ex1 p H H1) (b : Ex1 p H1 H2) : Ex1 p H H2 := fun x o n h => b x o n (a x o n h)
theorem Ex1.at {p : Addr} {H : Hp} {o : HO} : Ex1 p H (upd H p o) := fun a u n e => by
  rw [upd_ne n]
  exact e
theorem Ex1.new {p q : Addr} {H : Hp} {o : HO} (n : H q = none) : Ex1 p H (upd H q o) := fun a u _ e => by
  rw [upd_ne (ne_of_none e n)]
  exact e

theorem Feed.lst {H : Hp} {p : Addr} {S : Int} (h : Feed H p S) : ∃ xs, H p = some (.lst xs) := by
  obtain ⟨g, x, s, e, _⟩ := h
  exact ⟨_, e⟩
theorem Feed.ne {H : Hp} {p q : Addr} {S : Int} (h : Feed H p S) (n : H q = none) : q ≠ p := fun z => by
  obtain ⟨xs, e⟩ := h.lst
  rw [z, e] at n
  cases n
def spTake : Sp := fun vs H Q _ => ∃ (p : Addr) (m S : Int), vs = [.ref p, .int m] ∧ Feed H p S ∧ 0 < m ∧ m < 1073741824 ∧
  S ≤ 1000000000 ∧ ∀ (r : Int) (H' : Hp), 0 ≤ r → r < m → Feed H' p (S + 1) → Ex1 p H H' → Q (.int r) H'

theorem fmod_in (a : Int) {b : Int} (h : 0 < b) : 0 ≤ a.fmod b ∧ a.fmod b < b :=
  ⟨Int.fmod_nonneg_of_pos a h, Int.fmod_lt_of_pos a h⟩
end Gd
end

section
set_option Elab.async false
set_option linter.all false
set_option maxRecDepth 100000
set_option maxHeartbeats 4000000
/-! Data: numbers, texts, truths, None, tuples of such. -/
namespace Gd
open PySem PySem.Spec PyProof.Rows L2

mutual
def tupOnly : PyData → Bool
  | .none => true
  | .bool _ => true
  | .int _ => true
  | .str _ => true
  | .tuple ds => decide (ds.length ≤ 1000) && tupOnlyAll ds
  | .list _ => false
  | .dict _ => false
def tupOnlyAll : List PyData → Bool
  | [] => true
  | d :: ds => tupOnly d && tupOnlyAll ds
end

/-- tuples stay -/
def Tups (K : PySem.W.Frag) (H H' : Hp) : Prop := ∀ a xs, SqT K H a xs → SqT K H' a xs
theorem Tups.refl {K : PySem.W.Frag} {H : Hp} : Tups K H H := fun _ _ h => h
theorem Tups.trans {K : PySem.W.Frag} {H H1 H2 : Hp} (a : Tups K H H1) (b : Tups K H1 H2) : Tups K H H2 := fun x y h => b x y (a x y h)
theorem Tups.upd_lst {K : PySem.W.Frag} {H : Hp} {D : Addr} {xs ys : List V} (e : H D = some (.lst xs)) : Tups K H (upd H D (.lst ys)) := by
  intro a zs h
  rcases h with (h | ⟨o, h⟩) | h
  · refine .inl (.inl ?_)
    rw [upd_ne (fun z => by rw [z, e] at h; cases h)]
    exact h
  · refine .inl (.inr ⟨o, ?_⟩)
    rw [upd_ne (fun z => by rw [z, e] at h; cases h)]
    exact h
  · exact .inr h
theorem Tups.of_same {K : PySem.W.Frag} {H H' : Hp} (s : Same H H') : Tups K H H' := by
  intro a zs h
  rcases h with (h | ⟨o, h⟩) | h
  · exact .inl (.inl (s _ _ h))
  · exact .inl (.inr ⟨o, s _ _ h⟩)
  · exact .inr h

theorem Tups.new {K : PySem.W.Frag} {H : Hp} {q : Addr} {o : HO} (n : H q = none) : Tups K H (upd H q o) :=
  .of_same fun b u e => by
    rw [upd_ne (ne_of_none e n)]
    exact e
theorem Ex1.tups {K : PySem.W.Frag} {H H' : Hp} {p : Addr} {xs : List V} (x : Ex1 p H H') (e : H p = some (.lst xs)) : Tups K H H' := by
  intro a zs h
  rcases h with (h | ⟨o, h⟩) | h
  · exact .inl (.inl (x _ _ (fun z => by rw [z, e] at h; cases h) h))
  · exact .inl (.inr ⟨o, x _ _ (fun z => by rw [z, e] at h; cases h) h⟩)
  · exact .inr h
section
variable {K : PySem.W.Frag} {H H' : Hp}
mutual
theorem Dp.tups (t : Tups K H H') : ∀ (d : PyData) {v : V}, tupOnly d = true → Dp K H v d → Dp K H' v d
  | .none, _, _, h => by cases h; exact .non
  | .bool _, _, _, h => by cases h; exact .bl _
  | .int _, _, _, h => by cases h; exact .int _
  | .str _, _, _, h => by cases h; exact .str _
  | .tuple ds, _, o, h => by
    cases h with
    | tup a b =>
      simp only [tupOnly, Bool.and_eq_true] at o
      exact .tup (t _ _ a) (DpAll.tups t ds o.2 b)
  | .list _, _, o, _ => by simp [tupOnly] at o
  | .dict _, _, _, h => by cases h
theorem DpAll.tups (t : Tups K H H') : ∀ (ds : List PyData) {vs : List V}, tupOnlyAll ds = true → DpAll K H vs ds → DpAll K H' vs ds
  | [], _, _, h => by cases h; exact .nil
  | d :: ds, _, o, h => by
    simp only [tupOnlyAll, Bool.and_eq_true] at o
    cases h with
    | cons a b => exact .cons (Dp.tups t d o.1 a) (DpAll.tups t ds o.2 b)
end
mutual
theorem Dp.same (s : Same H H') : ∀ (d : PyData) {v : V}, Dp K H v d → Dp K H' v d
  | .none, _, h => by cases h; exact .non
  | .bool _, _, h => by cases h; exact .bl _
  | .int _, _, h => by cases h; exact .int _
  | .str _, _, h => by cases h; exact .str _
  | .tuple ds, _, h => by
    cases h with
    | tup a b => exact .tup (Tups.of_same s _ _ a) (DpAll.same s ds b)
  | .list ds, _, h => by
    cases h with
    | lst a b => exact .lst (s.seq a) (DpAll.same s ds b)
  | .dict _, _, h => by cases h
theorem DpAll.same (s : Same H H') : ∀ (ds : List PyData) {vs : List V}, DpAll K H vs ds → DpAll K H' vs ds
  | [], _, h => by cases h; exact .nil
  | d :: ds, _, h => by
    cases h with
    | cons a b => exact .cons (Dp.same s d a) (DpAll.same s ds b)
end
theorem DpAll.len : ∀ {vs : List V} {ds : List PyData}, DpAll K H vs ds → vs.length = ds.length
  | _, _, .nil => rfl
  | _, _, .cons _ b => congrArg (· + 1) (DpAll.len b)
theorem DpAll.at_ : ∀ {vs : List V} {ds : List PyData} {i : Nat} {v : V}, DpAll K H vs ds → vs[i]? = some v → ∃ d, ds[i]? = some d ∧ Dp K H v d
  | _, _, _, _, .nil, e => by simp at e
  | _, _, 0, _, .cons a _, e => by
    cases Option.some.inj e
    exact ⟨_, rfl, a⟩
  | _, _, i + 1, _, .cons _ b, e => DpAll.at_ (i := i) b e
theorem DpAll.snoc : ∀ {vs : List V} {ds : List PyData} {v : V} {d : PyData}, DpAll K H vs ds → Dp K H v d → DpAll K H (vs ++ [v]) (ds ++ [d])
  | _, _, _, _, .nil, h => .cons h .nil
  | _, _, _, _, .cons a b, h => .cons a (DpAll.snoc b h)
theorem tupOnlyAll_at : ∀ {ds : List PyData} {i : Nat} {d : PyData}, tupOnlyAll ds = true → ds[i]? = some d → tupOnly d = true
  | [], _, _, _, e => by simp at e
  | x :: r, 0, d, o, e => by
    simp only [tupOnlyAll, Bool.and_eq_true] at o
    cases Option.some.inj e
    exact o.1
  | x :: r, i + 1, d, o, e => by
    simp only [tupOnlyAll, Bool.and_eq_true] at o
    exact tupOnlyAll_at (i := i) o.2 e
theorem tupOnlyAll_take : ∀ {ds : List PyData}, tupOnlyAll ds = true → ∀ i : Nat, tupOnlyAll (ds.take i) = true
  | [], _, i => by rw [List.take_nil] <;> rfl
  | x :: r, o, 0 => rfl
  | x :: r, o, i + 1 => by
    simp only [tupOnlyAll, Bool.and_eq_true] at o
    simp only [List.take_succ_cons, tupOnlyAll, Bool.and_eq_true]
    exact ⟨o.1, tupOnlyAll_take o.2 i⟩
theorem depth_at : ∀ {ds : List PyData} {i : Nat} {d : PyData}, ds[i]? = some d → d.depth ≤ PyData.depthAll ds
  | [], _, _, e => by simp at e
  | x :: r, 0, d, e => by
    cases Option.some.inj e
    simp only [PyData.depthAll]
    omega
  | x :: r, i + 1, d, e => by
    have h := depth_at (ds := r) (i := i) e
    simp only [PyData.depthAll]
    omega
end

/-- the built-in class of data -/
def kindN : PyData → String
  | .none => "NoneType"
  | .bool _ => "bool"
  | .int _ => "int"
  | .str _ => "str"
  | .list _ => "list"
  | .tuple _ => "tuple"
  | .dict _ => "dict"
theorem Dp.kind {K : PySem.W.Frag} {H : Hp} {v : V} {d : PyData} (h : Dp K H v d) (o : tupOnly d = true) : TyX K H v (.type (kindN d)) := by
  cases h with
  | non => exact .base .non
  | bl b => exact .base (.bl b)
  | int i => exact .base (.int i)
  | str x => exact .base (.str x)
  | lst _ _ => simp [tupOnly] at o
  | tup a _ =>
    rcases a with (a | ⟨z, a⟩) | ⟨z, its, n, a, c, _⟩
    · exact .base (.tup a)
    · exact .fTuple a
    · exact .kTuple a c
section
theorem kb0 : kitB "NoneType" "list" = some false ∧ kitB "NoneType" "tuple" = some false ∧ kitB "NoneType" "dict" = some false := by decide +kernel
theorem kb1 : kitB "bool" "list" = some false ∧ kitB "bool" "tuple" = some false ∧ kitB "bool" "dict" = some false := by decide +kernel
theorem kb2 : kitB "int" "list" = some false ∧ kitB "int" "tuple" = some false ∧ kitB "int" "dict" = some false := by decide +kernel
theorem kb3 : kitB "str" "list" = some false ∧ kitB "str" "tuple" = some false ∧ kitB "str" "dict" = some false := by decide +kernel
theorem kb4 : kitB "tuple" "list" = some false ∧ kitB "tuple" "tuple" = some true ∧ kitB "tuple" "dict" = some false := by decide +kernel
theorem kind_list {d : PyData} (o : tupOnly d = true) : kitB (kindN d) "list" = some false := by
  cases d with
  | none => exact kb0.1
  | bool b => exact kb1.1
  | int i => exact kb2.1
  | str x => exact kb3.1
  | tuple ds => exact kb4.1
  | list ds => simp [tupOnly] at o
  | dict ds => simp [tupOnly] at o
theorem kind_dict {d : PyData} (o : tupOnly d = true) : kitB (kindN d) "dict" = some false := by
  cases d with
  | none => exact kb0.2.2
  | bool b => exact kb1.2.2
  | int i => exact kb2.2.2
  | str x => exact kb3.2.2
  | tuple ds => exact kb4.2.2
  | list ds => simp [tupOnly] at o
  | dict ds => simp [tupOnly] at o
theorem kind_tuple {d : PyData} (o : tupOnly d = true) (n : ¬ ∃ ds, d = .tuple ds) : kitB (kindN d) "tuple" = some false := by
  cases d with
  | none => exact kb0.2.1
  | bool b => exact kb1.2.1
  | int i => exact kb2.2.1
  | str x => exact kb3.2.1
  | tuple ds => exact absurd ⟨ds, rfl⟩ n
  | list ds => simp [tupOnly] at o
  | dict ds => simp [tupOnly] at o
end
end Gd
end

section
set_option Elab.async false
set_option linter.all false
set_option maxRecDepth 100000
set_option maxHeartbeats 4000000
/-! repr of data, the reading of a promise that is free of texts under way. -/
namespace Gd
open PySem PySem.Spec PyProof.Rows L2

section
variable {K : PySem.W.Frag} {H : Hp}
mutual
theorem Dp.plain : ∀ (d : PyData) {v : V}, Dp K H v d → d.hasDict = false
  | .none, _, _ => by simp only [PyData.hasDict]
  | .bool _, _, _ => by simp only [PyData.hasDict]
  | .int _, _, _ => by simp only [PyData.hasDict]
  | .str _, _, _ => by simp only [PyData.hasDict]
  | .list ds, _, h => by
    cases h with
    | lst _ k =>
      simp only [PyData.hasDict]
      exact DpAll.plain ds k
  | .tuple ds, _, h => by
    cases h with
    | tup _ k =>
      simp only [PyData.hasDict]
      exact DpAll.plain ds k
  | .dict _, _, h => by cases h
theorem DpAll.plain : ∀ (ds : List PyData) {vs : List V}, DpAll K H vs ds → PyData.hasDictAll ds = false
  | [], _, _ => by simp only [PyData.hasDictAll]
  | d :: ds, _, h => by
    cases h with
    | cons a b =>
      simp only [PyData.hasDictAll, Dp.plain d a, DpAll.plain ds b, Bool.or_self]
end
end

/-- repr(x), x data -/
def rRepr (K : PySem.W.Frag) : List V → Hp → VK → Prop := fun xs H Q =>
  ∃ (x : V) (d : PyData), xs = [x] ∧ Dp K H x d ∧ d.showable = true ∧ d.shown.length ≤ sizeLine ∧ d.depth ≤ 60 ∧ Q (.str d.shown) H

section
variable {X : Cx}
theorem call_repr (g : Free X.A) (hu : X.A.units + 64 < cLine) : CallR X (.builtin "repr") (rRepr X.K) := by
  intro pins s σ H xs us Q I r h
  obtain ⟨x, d, rfl, hd, hs, hz, hdp, q⟩ := h
  obtain ⟨u, rfl, ru⟩ := r.one
  have pl := Dp.plain d hd
  obtain ⟨as, rd⟩ := Dp.reads I d x u hd ru
  have fin : ∀ (h' : Heap) (tk tk' : Nat), (∀ b o, s.heap.get? b = some o → h'.get? b = some o) →
      EP X pins σ Q (.str d.shown tk) { s with heap := h', toks := tk' } :=
    fun h' tk tk' k => ⟨.str d.shown, H, I.kept k, ⟨tk, rfl⟩, q⟩
  have fin0 : ∀ (tk tk' : Nat), EP X pins σ Q (.str d.shown tk) { s with toks := tk' } :=
    fun tk tk' => ⟨.str d.shown, H, I.tok tk', ⟨tk, rfl⟩, q⟩
  cases rd with
  | none => exact P.repr_of_none (fin0 _ _)
  | bool b => exact P.repr_of_bool (fin0 _ _)
  | int i t => exact P.repr_of_int (by simpa [PyData.showable] using hs) (fin0 _ _)
  | str z t => exact P.repr_of_str (fin0 _ _) hz
  | list h1 h2 h3 h4 =>
    exact repr_of_reads' (.list h1 h2 h3 h4) hs (PyData.noDict_hsm pl) g (by omega) (fun _ _ e => e) (fun h' u tk k => fin h' u tk k) hz
  | tuple h1 h2 h3 h4 =>
    exact repr_of_reads' (.tuple h1 h2 h3 h4) hs (PyData.noDict_hsm pl) g (by omega) (fun _ _ e => e) (fun h' u tk k => fin h' u tk k) hz
  | dict h1 h2 h3 h4 h5 => simp [PyData.hasDict] at pl
end
end Gd
end

section
set_option Elab.async false
set_option linter.all false
set_option maxRecDepth 100000
set_option maxHeartbeats 4000000
/-! Data with lists, and with two small dicts; what is not in it: the addresses of N. -/
namespace Gd
open PySem PySem.Spec PyProof.Rows L2

mutual
inductive Dd (K : PySem.W.Frag) (H : Hp) (N : Addr → Prop) : V → PyData → Prop
  | non : Dd K H N .non .none
  | bl (b : Bool) : Dd K H N (.bl b) (.bool b)
  | int (i : Int) : Dd K H N (.int i) (.int i)
  | str (x : Str) : Dd K H N (.str x) (.str x)
  | lst {a : Addr} {xs : List V} {ds : List PyData} : H a = some (.lst xs) → ¬ N a → a ≠ sysModules → DdAll K H N xs ds → Dd K H N (.ref a) (.list ds)
  | tup {a : Addr} {xs : List V} {ds : List PyData} : SqT K H a xs → DdAll K H N xs ds → Dd K H N (.ref a) (.tuple ds)
  | dct0 {a : Addr} : H a = some (.dK []) → ¬ N a → Dd K H N (.ref a) (.dict [])
  | dct1 {a : Addr} {x : Str} {i : Int} : H a = some (.dK [(Sum.inr x, .int i)]) → ¬ N a → Dd K H N (.ref a) (.dict [(.str x, .int i)])
inductive DdAll (K : PySem.W.Frag) (H : Hp) (N : Addr → Prop) : List V → List PyData → Prop
  | nil : DdAll K H N [] []
  | cons {v : V} {vs : List V} {d : PyData} {ds : List PyData} : Dd K H N v d → DdAll K H N vs ds → DdAll K H N (v :: vs) (d :: ds)
end

section
variable {K : PySem.W.Frag} {H H' : Hp} {N N' : Addr → Prop}
mutual
theorem Dd.stay (t : Tups K H H') (x : ∀ a o, ¬ N a → H a = some o → H' a = some o) (m : ∀ a, N' a → N a) : ∀ (d : PyData) {v : V}, Dd K H N v d → Dd K H' N' v d
  | .none, _, h => by cases h; exact .non
  | .bool _, _, h => by cases h; exact .bl _
  | .int _, _, h => by cases h; exact .int _
  | .str _, _, h => by cases h; exact .str _
  | .tuple ds, _, h => by
    cases h with
    | tup a b => exact .tup (t _ _ a) (DdAll.stay t x m ds b)
  | .list ds, _, h => by
    cases h with
    | lst a n g b => exact .lst (x _ _ n a) (fun z => n (m _ z)) g (DdAll.stay t x m ds b)
  | .dict ds, _, h => by
    cases h with
    | dct0 a n => exact .dct0 (x _ _ n a) (fun z => n (m _ z))
    | dct1 a n => exact .dct1 (x _ _ n a) (fun z => n (m _ z))
theorem DdAll.stay (t : Tups K H H') (x : ∀ a o, ¬ N a → H a = some o → H' a = some o) (m : ∀ a, N' a → N a) : ∀ (ds : List PyData) {vs : List V}, DdAll K H N vs ds → DdAll K H' N' vs ds
  | [], _, h => by cases h; exact .nil
  | d :: ds, _, h => by
    cases h with
    | cons a b => exact .cons (Dd.stay t x m d a) (DdAll.stay t x m ds b)
end
theorem Dd.same {v : V} {d : PyData} (s : Same H H') (h : Dd K H N v d) : Dd K H' N v d := Dd.stay (Tups.of_same s) (fun a o _ e => s a o e) (fun _ z => z) d h
theorem DdAll.same {vs : List V} {ds : List PyData} (s : Same H H') (h : DdAll K H N vs ds) : DdAll K H' N vs ds := DdAll.stay (Tups.of_same s) (fun a o _ e => s a o e) (fun _ z => z) ds h
theorem Dd.free {v : V} {d : PyData} (h : Dd K H N v d) : Dd K H (fun _ => False) v d := Dd.stay .refl (fun a o _ e => e) (fun _ z => z.elim) d h
theorem DdAll.free {vs : List V} {ds : List PyData} (h : DdAll K H N vs ds) : DdAll K H (fun _ => False) vs ds := DdAll.stay .refl (fun a o _ e => e) (fun _ z => z.elim) ds h
/-- behind a draw -/
theorem Dd.drawn {p : Addr} {ys : List V} {v : V} {d : PyData} (e : H p = some (.lst ys)) (x : Ex1 p H H') (h : Dd K H (· = p) v d) : Dd K H' (· = p) v d :=
  Dd.stay (x.tups e) (fun a o n q => x a o n q) (fun _ z => z) d h
theorem DdAll.drawn {p : Addr} {ys : List V} {vs : List V} {ds : List PyData} (e : H p = some (.lst ys)) (x : Ex1 p H H') (h : DdAll K H (· = p) vs ds) : DdAll K H' (· = p) vs ds :=
  DdAll.stay (x.tups e) (fun a o n q => x a o n q) (fun _ z => z) ds h
mutual
/-- what is new is not in it -/
theorem Dd.shun {q : Addr} (n : H q = none) : ∀ (d : PyData) {v : V}, Dd K H N v d → Dd K H (fun a => N a ∨ a = q) v d
  | .none, _, h => by cases h; exact .non
  | .bool _, _, h => by cases h; exact .bl _
  | .int _, _, h => by cases h; exact .int _
  | .str _, _, h => by cases h; exact .str _
  | .tuple ds, _, h => by
    cases h with
    | tup a b => exact .tup a (DdAll.shun n ds b)
  | .list ds, _, h => by
    cases h with
    | lst a m g b => exact .lst a (fun z => z.elim m (fun z => by rw [z, n] at a; cases a)) g (DdAll.shun n ds b)
  | .dict ds, _, h => by
    cases h with
    | dct0 a m => exact .dct0 a (fun z => z.elim m (fun z => by rw [z, n] at a; cases a))
    | dct1 a m => exact .dct1 a (fun z => z.elim m (fun z => by rw [z, n] at a; cases a))
theorem DdAll.shun {q : Addr} (n : H q = none) : ∀ (ds : List PyData) {vs : List V}, DdAll K H N vs ds → DdAll K H (fun a => N a ∨ a = q) vs ds
  | [], _, h => by cases h; exact .nil
  | d :: ds, _, h => by
    cases h with
    | cons a b => exact .cons (Dd.shun n d a) (DdAll.shun n ds b)
end
theorem DdAll.len : ∀ {vs : List V} {ds : List PyData}, DdAll K H N vs ds → vs.length = ds.length
  | _, _, .nil => rfl
  | _, _, .cons _ b => congrArg (· + 1) (DdAll.len b)
theorem DdAll.at_ : ∀ {vs : List V} {ds : List PyData} {i : Nat} {v : V}, DdAll K H N vs ds → vs[i]? = some v → ∃ d, ds[i]? = some d ∧ Dd K H N v d
  | _, _, _, _, .nil, e => by simp at e
  | _, _, 0, _, .cons a _, e => by
    cases Option.some.inj e
    exact ⟨_, rfl, a⟩
  | _, _, i + 1, _, .cons _ b, e => DdAll.at_ (i := i) b e
theorem DdAll.app : ∀ {vs us : List V} {ds es : List PyData}, DdAll K H N vs ds → DdAll K H N us es → DdAll K H N (vs ++ us) (ds ++ es)
  | _, _, _, _, .nil, h => h
  | _, _, _, _, .cons a b, h => .cons a (DdAll.app b h)
theorem DdAll.take : ∀ {vs : List V} {ds : List PyData}, DdAll K H N vs ds → ∀ i : Nat, DdAll K H N (vs.take i) (ds.take i)
  | _, _, .nil, i => by rw [List.take_nil, List.take_nil]; exact .nil
  | _, _, .cons _ _, 0 => .nil
  | _, _, .cons a b, i + 1 => .cons a (DdAll.take b i)
theorem DdAll.drop : ∀ {vs : List V} {ds : List PyData}, DdAll K H N vs ds → ∀ i : Nat, DdAll K H N (vs.drop i) (ds.drop i)
  | _, _, .nil, i => by rw [List.drop_nil, List.drop_nil]; exact .nil
  | _, _, .cons a b, 0 => .cons a b
  | _, _, .cons a b, i + 1 => DdAll.drop b i
theorem DdAll.rev : ∀ {vs : List V} {ds : List PyData}, DdAll K H N vs ds → DdAll K H N vs.reverse ds.reverse
  | _, _, .nil => .nil
  | _, _, .cons a b => by
    rw [List.reverse_cons, List.reverse_cons]
    exact DdAll.app (DdAll.rev b) (.cons a .nil)
mutual
theorem Dd.ofDp : ∀ (d : PyData) {v : V}, tupOnly d = true → Dp K H v d → Dd K H N v d
  | .none, _, _, h => by cases h; exact .non
  | .bool _, _, _, h => by cases h; exact .bl _
  | .int _, _, _, h => by cases h; exact .int _
  | .str _, _, _, h => by cases h; exact .str _
  | .tuple ds, _, o, h => by
    cases h with
    | tup a b =>
      simp only [tupOnly, Bool.and_eq_true] at o
      exact .tup a (DdAll.ofDp ds o.2 b)
  | .list _, _, o, _ => by simp [tupOnly] at o
  | .dict _, _, o, _ => by simp [tupOnly] at o
theorem DdAll.ofDp : ∀ (ds : List PyData) {vs : List V}, tupOnlyAll ds = true → DpAll K H vs ds → DdAll K H N vs ds
  | [], _, _, h => by cases h; exact .nil
  | d :: ds, _, o, h => by
    simp only [tupOnlyAll, Bool.and_eq_true] at o
    cases h with
    | cons a b => exact .cons (Dd.ofDp d o.1 a) (DdAll.ofDp ds o.2 b)
end
theorem Dd.kind {v : V} {d : PyData} (h : Dd K H N v d) : TyX K H v (.type (kindN d)) := by
  cases h with
  | non => exact .base .non
  | bl b => exact .base (.bl b)
  | int i => exact .base (.int i)
  | str x => exact .base (.str x)
  | lst e _ _ _ => exact .base (.lst e)
  | dct0 e _ => exact .base (.dK e)
  | dct1 e _ => exact .base (.dK e)
  | tup a _ =>
    rcases a with (a | ⟨z, a⟩) | ⟨z, its, n, a, c, _⟩
    · exact .base (.tup a)
    · exact .fTuple a
    · exact .kTuple a c
end
section
variable {X : Cx} {pins : List (Addr × Obj)} {σ : L2.St} {H : Hp} {s : Shared} {N : Addr → Prop}
theorem dk_reads (I : Inv X pins σ H s) {a : Addr} {kvs : List (Key × V)} (e : H a = some (.dK kvs)) :
    (a == sysModules) = false ∧ ∃ vs, KV kvs vs ∧ s.heap.DictOf (mixKind X.prog X.w) a vs := (I.hok a _ e).2
mutual
theorem Dd.reads (I : Inv X pins σ H s) : ∀ (d : PyData) (v : V) (u : Value), Dd X.K H N v d → RelV v u → ∃ as, Reads s.heap u d as ∧ sysModules ∉ as
  | .none, _, _, h, r => by
    cases h
    cases r
    exact ⟨[], .none, nofun⟩
  | .bool b, _, _, h, r => by
    cases h
    cases r
    exact ⟨[], .bool b, nofun⟩
  | .int i, _, _, h, r => by
    cases h
    obtain ⟨t, rfl⟩ := r
    exact ⟨[], .int i t, nofun⟩
  | .str x, _, _, h, r => by
    cases h
    obtain ⟨t, rfl⟩ := r
    exact ⟨[], .str x t, nofun⟩
  | .list ds, _, _, h, r => by
    cases h with
    | lst hs _ g ha =>
      cases r
      obtain ⟨its, rv, pl, _⟩ := I.list (SqL.of hs)
      obtain ⟨o, n, ho, hc, _, hd⟩ := pl
      obtain ⟨as, hr, hn⟩ := Dd.readsAll I ds _ its ha rv
      refine ⟨_, .list ho hc hd hr, fun m => ?_⟩
      rcases List.mem_cons.mp m with m | m
      · exact g m.symm
      · exact hn m
  | .tuple ds, _, _, h, r => by
    cases h with
    | tup hs ha =>
      cases r
      obtain ⟨its, rv, pl, _⟩ := I.tuple hs
      obtain ⟨o, ho, hc, n, hd⟩ := pl
      obtain ⟨as, hr, hn⟩ := Dd.readsAll I ds _ its ha rv
      exact ⟨as, .tuple ho hc hd hr, hn⟩
  | .dict ds, _, _, h, r => by
    cases h with
    | dct0 e _ =>
      cases r
      obtain ⟨g, vs, kv, o, es, ep, ho, ex, hd, ks, ps, _⟩ := dk_reads I e
      cases kv
      cases hes : es.toList with
      | nil =>
        refine ⟨_, .dict (as := []) (bs := []) ho ex.1 hd ?_ ?_, fun m => ?_⟩
        · rw [hes]; exact .nil
        · rw [hes]; exact .nil
        · rcases List.mem_cons.mp m with m | m
          · rw [← m] at g
            simp at g
          · cases m
      | cons z zs =>
        rw [hes] at ps
        cases ps
    | @dct1 a x i e _ =>
      cases r
      obtain ⟨g, vs, kv, o, es, ep, ho, ex, hd, ks, ps, _⟩ := dk_reads I e
      cases kv with
      | @cons _ q _ _ r0 rest =>
      cases rest
      obtain ⟨qk, qv⟩ := q
      obtain ⟨rk, t, rv⟩ := r0
      dsimp only at rk rv
      subst rk rv
      cases hes : es.toList with
      | nil =>
        rw [hes] at ps
        cases ps
      | cons z zs =>
        rw [hes] at ps
        cases ps with
        | cons p1 p2 p3 =>
        cases p3
        obtain ⟨tk, ek⟩ : ∃ tk, z.key = .str x tk := by
          have p1 : keyIs (Sum.inr x) z.key = true := p1
          rcases keyIs_shape p1 with ⟨i, t, h1, h2⟩ | ⟨y, t, h1, h2⟩
          · cases h1
          · cases h1
            exact ⟨t, h2⟩
        refine ⟨_, .dict (as := [] ++ []) (bs := [] ++ []) ho ex.1 hd ?_ ?_, fun m => ?_⟩
        · rw [hes]
          show ReadsAll s.heap [z.key] [.str x] _
          rw [ek]
          exact .cons (.str x tk) .nil
        · rw [hes]
          show ReadsAll s.heap [z.val] [.int i] _
          rw [p2]
          exact .cons (.int i t) .nil
        · rcases List.mem_cons.mp m with m | m
          · rw [← m] at g
            simp at g
          · cases m
theorem Dd.readsAll (I : Inv X pins σ H s) : ∀ (ds : List PyData) (vs : List V) (us : List Value), DdAll X.K H N vs ds → Vals vs us → ∃ as, ReadsAll s.heap us ds as ∧ sysModules ∉ as
  | [], _, _, h, r => by
    cases h
    cases r
    exact ⟨[], .nil, nofun⟩
  | d :: ds, _, _, h, r => by
    cases h with
    | cons h1 h2 =>
      cases r with
      | cons r1 r2 =>
        obtain ⟨as, q1, n1⟩ := Dd.reads I d _ _ h1 r1
        obtain ⟨bs, q2, n2⟩ := Dd.readsAll I ds _ _ h2 r2
        exact ⟨as ++ bs, .cons q1 q2, fun m => (List.mem_append.mp m).elim n1 n2⟩
end
/-- repr(x), x such data -/
def rReprD (K : PySem.W.Frag) : List V → Hp → VK → Prop := fun xs H Q =>
  ∃ (x : V) (d : PyData) (N : Addr → Prop), xs = [x] ∧ Dd K H N x d ∧ d.showable = true ∧ d.shown.length ≤ sizeLine ∧ d.depth ≤ 60 ∧ Q (.str d.shown) H
theorem call_reprD (g : Free X.A) (hu : X.A.units + 64 < cLine) : CallR X (.builtin "repr") (rReprD X.K) := by
  intro pins s σ H xs us Q I r h
  obtain ⟨x, d, N, rfl, hd, hs, hz, hdp, q⟩ := h
  obtain ⟨u, rfl, ru⟩ := r.one
  obtain ⟨as, rd, hn⟩ := Dd.reads I d x u hd ru
  have fin : ∀ (h' : Heap) (tk tk' : Nat), (∀ b o, s.heap.get? b = some o → h'.get? b = some o) →
      EP X pins σ Q (.str d.shown tk) { s with heap := h', toks := tk' } :=
    fun h' tk tk' k => ⟨.str d.shown, H, I.kept k, ⟨tk, rfl⟩, q⟩
  have fin0 : ∀ (tk tk' : Nat), EP X pins σ Q (.str d.shown tk) { s with toks := tk' } :=
    fun tk tk' => ⟨.str d.shown, H, I.tok tk', ⟨tk, rfl⟩, q⟩
  cases rd with
  | none => exact P.repr_of_none (fin0 _ _)
  | bool b => exact P.repr_of_bool (fin0 _ _)
  | int i t => exact P.repr_of_int (by simpa [PyData.showable] using hs) (fin0 _ _)
  | str z t => exact P.repr_of_str (fin0 _ _) hz
  | list h1 h2 h3 h4 =>
    exact repr_of_reads' (.list h1 h2 h3 h4) hs (fun _ => hn) g (by omega) (fun _ _ e => e) (fun h' u tk k => fin h' u tk k) hz
  | tuple h1 h2 h3 h4 =>
    exact repr_of_reads' (.tuple h1 h2 h3 h4) hs (fun _ => hn) g (by omega) (fun _ _ e => e) (fun h' u tk k => fin h' u tk k) hz
  | dict h1 h2 h3 h4 h5 =>
    exact repr_of_reads' (.dict h1 h2 h3 h4 h5) hs (fun _ => hn) g (by omega) (fun _ _ e => e) (fun h' u tk k => fin h' u tk k) hz
end
end Gd
end

section
set_option Elab.async false
set_option linter.all false
set_option maxRecDepth 100000
set_option maxHeartbeats 4000000
namespace Gd
open PySem PySem.Spec PyProof.Rows L2

section
variable {X : Cx}
/-- the address of a new object is none of the interpreter's own -/
theorem new_no {pins : List (Addr × Obj)} {σ : L2.St} {H : Hp} {s : Shared} (I : Inv X pins σ H s) : s.heap.objs.size ≠ sysModules := Nat.ne_of_gt I.big
def tLstS (t : TA) : TE := fun σ H Q => t σ H fun xs H1 => xs.length ≤ sizeLine ∧ ∀ p, H1 p = none → p ≠ sysModules → Q (.ref p) (upd H1 p (.lst xs))
theorem pe_lstS {es : List Expr} {pos : Pos} {t : TA} (h : PA X es t) : PE X (.List es pos) (tLstS t) := by
  constructor
  intro pins s σ H Q I hq
  refine wpAny_List_spliced (thn (h.run pos pins s σ H _ I hq) ?_)
  rintro us s1 ⟨xs, H1, J, r, z, q⟩
  have hn : H1 s1.heap.objs.size = none := J.hok.fresh (Nat.le_refl _)
  have J2 := J.laid (a := s1.heap.objs.size) (o := .lst xs) (h' := s1.heap.push { cls := .type "list", data := .seq us.toArray }) (t' := s1.toks)
    (fun b u e => Heap.get?_push_of_some _ e) (Nat.le_refl _) ⟨z, us, 0, r, Heap.get?_push_size _ rfl⟩
  exact ⟨by rw [← r.length]; exact z, .ref s1.heap.objs.size, _, J2, rfl, q _ hn (new_no J)⟩
theorem call_listS : CallR X (.type "list") (fun xs H Q => ∃ p ys, xs = [.ref p] ∧ SqT X.K H p ys ∧ ∀ l, H l = none → l ≠ sysModules → Q (.ref l) (upd H l (.lst ys))) := by
  intro pins s σ H xs us Q I r h
  obtain ⟨p, ys, rfl, hq, q⟩ := h
  obtain ⟨u, rfl, rx⟩ := r.one
  cases rx
  obtain ⟨its, r', pl, hz⟩ := I.tuple hq
  have hlen := r'.length
  obtain ⟨o, ho, hc, n, hd⟩ := pl
  refine call_list_seq p (.inr rfl) ho hc hd ?_ (by simp only [List.size_toArray] <;> omega)
  intro h' c' kp e
  have J := I.laid (a := s.heap.objs.size) (o := .lst ys) (t' := s.toks) kp (Nat.le_refl _) ⟨hz, its, c', r', e⟩
  exact ⟨.ref s.heap.objs.size, _, J, rfl, q _ (I.hok.fresh (Nat.le_refl _)) (new_no I)⟩

/-! truths as numbers -/
theorem op_add_bi : OpR X (binaryOp .Add) (fun x y H Q => ∃ k i, x = .bl k ∧ y = .int i ∧ Q (.int ((if k = true then 1 else 0) + i)) H) := by
  intro pins s σ H x y v u Q I rx ry h
  obtain ⟨k, i, rfl, rfl, q⟩ := h
  obtain ⟨t, rfl⟩ := ry
  cases rx
  exact IntBool.add_bool_int ⟨.int ((if k = true then 1 else 0) + i), H, I.tok _, ⟨_, rfl⟩, q⟩
theorem op_sub_ib : OpR X (binaryOp .Sub) (fun x y H Q => ∃ i k, x = .int i ∧ y = .bl k ∧ Q (.int (i - (if k = true then 1 else 0))) H) := by
  intro pins s σ H x y v u Q I rx ry h
  obtain ⟨i, k, rfl, rfl, q⟩ := h
  obtain ⟨t, rfl⟩ := rx
  cases ry
  exact IntBool.sub_int_bool ⟨.int (i - (if k = true then 1 else 0)), H, I.tok _, ⟨_, rfl⟩, q⟩
theorem call_str_bool : CallR X (.type "str") (fun xs H Q => ∃ b, xs = [.bl b] ∧ Q (.str (if b then "True" else "False")) H) := by
  intro pins s σ H xs us Q I r h
  obtain ⟨b, rfl, q⟩ := h
  obtain ⟨u, rfl, rx⟩ := r.one
  cases rx
  exact PySem.P.str_of_bool ⟨.str (if b then "True" else "False"), H, I.tok _, ⟨_, rfl⟩, q⟩
end

/-! a dict is no text -/
section
variable {A : Around} {s : Shared} {P : Program} {w : World}
theorem dict_declines (d : Addr) (b : Str) (u : Tok) :
    Meets (Builtin.«dict.__eq__» ⟨[.ref d, .str b u], []⟩) (fun _ R s => s.TypeIs (.ref d) "dict" ∧ R (.ok (.ret .notImplemented)) s) :=
  .of_wp fun prog w A R s h => by
    obtain ⟨hd, h⟩ := h
    show wpAny _ _ (Builtin.Dict.dictSlotArgs "__eq__" ⟨[.ref d, .str b u], []⟩ >>= _) _ _ s
    refine wpAny_bind ?_
    unfold Builtin.Dict.dictSlotArgs
    refine wpAny_bind (wpAny_notOrdered_dict hd ?_)
    refine wpAny_pure ?_
    refine wpAny_bind (wpAny_isInstance (T := "str") (typeIs_str s b u) PySem.F.sub_str_dict ?_)
    simp only [Bool.not_false, if_true]
    exact wpAny_bind (wpAny_rule (wpAny_pure ⟨_, rfl, h⟩))
theorem str_declines (d : Addr) (es : Array DictEntry) (ep : Nat) (b : Str) (u : Tok) :
    Meets (Builtin.«str.__eq__» ⟨[.str b u, .ref d], []⟩)
      (fun _ R s => s.heap.get? d = some { cls := .type "dict", dict := none, data := .dict es ep, slots := #[] } ∧ R (.ok (.ret .notImplemented)) s) :=
  .of_wp fun prog w A R s h => by
    obtain ⟨hp, g, d, tk, os⟩ := s
    obtain ⟨hd, h⟩ := h
    wp_walk using wpAny_load hd
    exact ⟨_, rfl, h⟩
variable {d : Addr} {es : Array DictEntry} {ep : Nat}
theorem rc_dict_str (b : Str) (u : Tok) (ho : s.heap.get? d = some { cls := .type "dict", dict := none, data := .dict es ep, slots := #[] }) (hu : A.units < cLine) :
    SeqAt.RcAt A s (.ref d) (.str b u) false := fun prog w E Q h =>
  SeqAt.rc_eq_decline_or (k := false) ⟨_, ho, rfl⟩ (typeIs_str s b u) (by decide) PySem.F.sub_str_dict PySem.F.slot_dict_eq PySem.F.slot_str_eq_refl
    (fun _ hq => call_meets PySem.F.slot_dict_eq ⟨_, ho, rfl⟩ PySem.F.entry_dict_eq (PySem.F.args_dict_eq_2 _ _) (dict_declines d b u) ⟨⟨_, ho, rfl⟩, hq⟩)
    (fun _ hq => call_meets PySem.F.slot_str_eq_refl (typeIs_str s b u) PySem.F.entry_str_eq (PySem.F.args_str_eq_2 _ _) (str_declines d es ep b u) ⟨ho, hq⟩)
    (fun _ hq => wpAny_of_eq (rfl : isSame (.ref d) (.str b u) = pure false) hq) (.inr hu) h
theorem rc_str_dict (b : Str) (u : Tok) (ho : s.heap.get? d = some { cls := .type "dict", dict := none, data := .dict es ep, slots := #[] }) (hu : A.units < cLine) :
    SeqAt.RcAt A s (.str b u) (.ref d) false := fun prog w E Q h =>
  SeqAt.rc_eq_decline_or (k := false) (typeIs_str s b u) ⟨_, ho, rfl⟩ (by decide) PySem.F.sub_dict_str PySem.F.slot_str_eq PySem.F.slot_dict_eq_refl
    (fun _ hq => call_meets PySem.F.slot_str_eq (typeIs_str s b u) PySem.F.entry_str_eq (PySem.F.args_str_eq_2 _ _) (str_declines d es ep b u) ⟨ho, hq⟩)
    (fun _ hq => call_meets PySem.F.slot_dict_eq_refl ⟨_, ho, rfl⟩ PySem.F.entry_dict_eq (PySem.F.args_dict_eq_2 _ _) (dict_declines d b u) ⟨⟨_, ho, rfl⟩, hq⟩)
    (fun _ hq => wpAny_of_eq (rfl : isSame (.str b u) (.ref d) = pure false) hq) (.inr hu) h
theorem eq_str_dict (b : Str) (u : Tok) (ho : s.heap.get? d = some { cls := .type "dict", dict := none, data := .dict es ep, slots := #[] }) (hu : A.units < cLine) :
    SeqAt.EqAt A s (.str b u) (.ref d) false := fun prog w E Q h => by
  unfold eqBool
  refine wpAny_holding (wpAny_ite_split (fun q => absurd (eq_of_beq q) nofun) (fun _ => ?_))
  exact wpAny_bind (rc_str_dict b u ho hu prog w E _ (wpAny_truthy_bool h))
end

/-! data beside a text -/
def isStr (d : PyData) (b : Str) : Bool := match d with
  | .str x => x == b
  | _ => false
section
variable {X : Cx} {pins : List (Addr × Obj)} {σ : L2.St} {H : Hp} {s : Shared} {N : Addr → Prop} {A : Around}
theorem Dd.dictAt (I : Inv X pins σ H s) {v : V} {u : Value} {ks : List (PyData × PyData)} (h : Dd X.K H N v (.dict ks)) (r : RelV v u) :
    ∃ d es ep, u = .ref d ∧ s.heap.get? d = some { cls := .type "dict", dict := none, data := .dict es ep, slots := #[] } := by
  have key : ∀ {a : Addr} {kvs : List (Key × V)}, H a = some (.dK kvs) → ∃ es ep, s.heap.get? a = some { cls := .type "dict", dict := none, data := .dict es ep, slots := #[] } := by
    intro a kvs e
    obtain ⟨_, vs, _, o, es, ep, ho, ⟨e1, e2, e3⟩, hd, _⟩ := dk_reads I e
    obtain ⟨oc, od, dt, sl⟩ := o
    dsimp only at e1 e2 e3 hd
    subst e1 e2 e3 hd
    exact ⟨es, ep, ho⟩
  cases h with
  | dct0 e _ =>
    cases r
    obtain ⟨es, ep, ho⟩ := key e
    exact ⟨_, es, ep, rfl, ho⟩
  | dct1 e _ =>
    cases r
    obtain ⟨es, ep, ho⟩ := key e
    exact ⟨_, es, ep, rfl, ho⟩
theorem Dd.strEq (I : Inv X pins σ H s) (hu : A.units < cLine) {d : PyData} {v : V} {u : Value} (h : Dd X.K H N v d) (r : RelV v u) (b : Str) (t : Tok) :
    SeqAt.EqAt A s (.str b t) u (isStr d b) := by
  cases d with
  | none =>
    cases h
    cases r
    exact .str_none b t
  | bool k =>
    cases h
    cases r
    exact .str_bool b t k
  | int i =>
    cases h
    obtain ⟨t2, rfl⟩ := r
    exact .str_int b t i t2
  | str x =>
    cases h
    obtain ⟨t2, rfl⟩ := r
    have e := SeqAt.EqAt.str_str (A := A) (s := s) b t x t2
    have e2 : isStr (.str x) b = (b == x) := by
      show (x == b) = (b == x)
      exact Bool.eq_iff_iff.mpr ⟨fun z => by rw [eq_of_beq z] <;> exact beq_self_eq_true _, fun z => by rw [eq_of_beq z] <;> exact beq_self_eq_true _⟩
    rw [e2]
    exact e
  | list ds =>
    cases h with
    | lst e n g k =>
    cases r
    obtain ⟨its, _, pl, _⟩ := I.list (SqL.of e)
    exact .str_list b t pl.isList hu
  | tuple ds =>
    cases h with
    | tup e k =>
    cases r
    obtain ⟨its, _, pl, _⟩ := I.tuple e
    exact .str_tuple b t pl hu
  | dict ks =>
    obtain ⟨a, es, ep, rfl, ho⟩ := Dd.dictAt I h r
    exact eq_str_dict b t ho hu
end
end Gd
end

section
set_option Elab.async false
set_option linter.all false
set_option maxRecDepth 100000
set_option maxHeartbeats 4000000
namespace Gd
open PySem PySem.Spec PyProof.Rows L2

section
variable {X : Cx}
/-- data == a text -/
def rEqS (K : PySem.W.Frag) : R2 := fun x y H Q => ∃ (N : Addr → Prop) (d : PyData) (b : Str), Dd K H N x d ∧ y = .str b ∧ Q (.bl (isStr d b)) H
theorem op_eqS (hu : X.A.units < cLine) : OpR X (compareOp .Eq) (rEqS X.K) := by
  intro pins s σ H x y v u Q I rx ry h
  obtain ⟨N, d, b, h, rfl, q⟩ := h
  obtain ⟨t, rfl⟩ := ry
  have fin : EP X pins σ Q (.bool (isStr d b)) s := ⟨.bl _, H, I, rfl, q⟩
  cases d with
  | none =>
    cases h
    cases rx
    exact SeqAt.RcAt.none_str b t _ _ _ _ fin
  | bool k =>
    cases h
    cases rx
    exact SeqAt.RcAt.bool_str k b t _ _ _ _ fin
  | int i =>
    cases h
    obtain ⟨t2, rfl⟩ := rx
    exact SeqAt.RcAt.int_str i t2 b t _ _ _ _ fin
  | str z =>
    cases h
    obtain ⟨t2, rfl⟩ := rx
    exact SeqAt.RcAt.str_str z t2 b t _ _ _ _ fin
  | list ds =>
    cases h with
    | lst e n g k =>
    cases rx
    obtain ⟨its, _, pl, _⟩ := I.list (SqL.of e)
    exact SeqAt.RcAt.list_str b t pl.isList hu _ _ _ _ fin
  | tuple ds =>
    cases h with
    | tup e k =>
    cases rx
    obtain ⟨its, _, pl, _⟩ := I.tuple e
    exact SeqAt.RcAt.tuple_str b t pl hu _ _ _ _ fin
  | dict ks =>
    obtain ⟨a, es, ep, rfl, ho⟩ := Dd.dictAt I h rx
    exact rc_dict_str b t ho hu _ _ _ _ fin

/-- data not in a tuple of texts -/
def rNiS (K : PySem.W.Frag) : R2 := fun x y H Q => ∃ (N : Addr → Prop) (d : PyData) (p : Addr) (bs : List Str), Dd K H N x d ∧ y = .ref p ∧ SqT K H p (bs.map V.str) ∧ Q (.bl (!bs.any (isStr d))) H
def hitS (d : PyData) : Value → Bool
  | .str b _ => isStr d b
  | _ => false
theorem hits {d : PyData} : ∀ {bs : List Str} {us : List Value}, Vals (bs.map V.str) us → us.any (hitS d) = bs.any (isStr d) ∧ ∀ u ∈ us, ∃ b t, u = .str b t
  | [], _, h => by
    cases h
    exact ⟨rfl, nofun⟩
  | b :: bs, _, h => by
    cases h with
    | cons r rs =>
    obtain ⟨t, rfl⟩ := r
    obtain ⟨e, f⟩ := hits rs
    refine ⟨?_, fun u m => ?_⟩
    · rw [List.any_cons, List.any_cons, e]
      rfl
    · rcases List.mem_cons.mp m with rfl | m
      · exact ⟨b, t, rfl⟩
      · exact f u m
theorem op_notInS (hu : X.A.units + 1 < cLine) : OpR X (compareOp .NotIn) (rNiS X.K) := by
  intro pins s σ H x y v u Q I rx ry h
  obtain ⟨N, d, p, bs, hd, rfl, hp, q⟩ := h
  cases ry
  obtain ⟨its, r, pl, _⟩ := I.tuple hp
  obtain ⟨e, f⟩ := hits (d := d) r
  refine SeqAt.notIn_tupleAt (hitS d) pl (fun w hw => ?_) ⟨.bl _, H, I, rfl, ?_⟩
  · obtain ⟨b, t, rfl⟩ := f w (by simpa using hw)
    exact Dd.strEq I (by show X.A.units + 1 < cLine; exact hu) hd rx b t
  · rw [show its.toArray.any (hitS d) = its.any (hitS d) by simp, e]
    exact q
/-- a tuple == () -/
def rEqT0 (K : PySem.W.Frag) : R2 := fun x y H Q => ∃ a b xs, x = .ref a ∧ y = .ref b ∧ SqT K H a xs ∧ SqT K H b [] ∧ Q (.bl xs.isEmpty) H
theorem op_eqT0 (hu : X.A.units < cLine) : OpR X (compareOp .Eq) (rEqT0 X.K) := by
  intro pins s σ H x y v u Q I rx ry h
  obtain ⟨a, b, xs, rfl, rfl, ha, hb, q⟩ := h
  cases rx
  cases ry
  obtain ⟨its, r, pl, _⟩ := I.tuple ha
  obtain ⟨its2, r2, pl2, _⟩ := I.tuple hb
  cases r2
  have e : ((List.range (min its.toArray.size (#[] : Array Value).size)).all (fun _ => true) && its.toArray.size == (#[] : Array Value).size) = xs.isEmpty := by
    cases r with
    | nil => rfl
    | cons _ _ => simp
  refine SeqAt.RcAt.tuples (e := fun _ => true) pl pl2 hu (fun j _ h2 => absurd h2 (by simp)) _ _ _ _ ⟨.bl _, H, I, rfl, ?_⟩
  rw [e]
  exact q
end

/-! t[::-1] -/
section
variable {prog : Program} {w : World} {A : Around} {E : Value → Shared → Prop} {s : Shared}
theorem places_rev (n : Nat) : Builtin.Slice.slicePlaces ((n : Int) - 1) (-1) (-1) = n := by
  unfold Builtin.Slice.slicePlaces
  rw [if_neg (by decide)]
  split
  · rw [show (-(-1) : Int) = 1 by decide, Int.ediv_one]
    omega
  · omega
theorem pick_rev (xs : Array Value) : ((List.range xs.size).filterMap fun (k : Nat) => xs[(((xs.size : Int) - 1) + (k : Int) * (-1)).toNat]?).toArray = xs.toList.reverse.toArray := by
  have e : (List.range xs.size).filterMap (fun (k : Nat) => xs[(((xs.size : Int) - 1) + (k : Int) * (-1)).toNat]?) =
      ((List.range xs.size).map fun k => xs.size - 1 - k).filterMap (xs[·]?) := by
    rw [List.filterMap_map]
    refine congrArg (fun f => List.filterMap f (List.range xs.size)) (funext fun k => ?_)
    show xs[(((xs.size : Int) - 1) + (k : Int) * (-1)).toNat]? = xs[xs.size - 1 - k]?
    rw [show (((xs.size : Int) - 1) + (k : Int) * (-1)).toNat = xs.size - 1 - k by omega]
  rw [e, PySem.W.krv_range, List.filterMap_reverse, PySem.W.krv_all]
theorem applied_rev {sl : Addr} {vs : Value} {n : Nat} {Q : Int × Int × Nat → Shared → Prop} (hs : s.heap.IsSliceOf sl .none .none vs) (ps : IsPart vs (some (-1)))
    (h : Q ((n : Int) - 1, -1, n) s) : wpAny (model prog w) A (Builtin.Slice.sliceApplied (.ref sl) (pure (n : Int))) Q E s := by
  obtain ⟨os, hos, hcs, hds⟩ := id hs
  unfold Builtin.Slice.sliceApplied Builtin.Slice.sliceFields
  refine wpAny_bind (wpAny_bind (wpAny_field hos hds (x := .none) rfl ?_))
  refine wpAny_bind (wpAny_field hos hds (x := .none) rfl (wpAny_bind (wpAny_field hos hds (x := vs) rfl (wpAny_pure ?_))))
  refine wpAny_bind (HT.slicePart_ ps ?_)
  show wpAny _ _ (if ((-1 : Int) == 0) = true then _ else _) _ _ s
  rw [if_neg (by decide)]
  refine wpAny_bind (slicePart_none (wpAny_bind (slicePart_none (wpAny_bind (wpAny_pure ?_)))))
  show wpAny _ _ (pure ((n : Int) - 1, (-1 : Int), Builtin.Slice.slicePlaces ((n : Int) - 1) (-1) (-1))) _ _ s
  rw [places_rev]
  exact wpAny_pure h
theorem get_rev {t sl : Addr} {items : Array Value} {vs : Value} {Q : Value → Shared → Prop} (ht : IsTup s.heap t items) (hs : s.heap.IsSliceOf sl .none .none vs) (ps : IsPart vs (some (-1)))
    (h : Q (.ref s.heap.objs.size) { s with heap := s.heap.push { cls := .type "tuple", data := .seq items.toList.reverse.toArray } })
    (hz : items.size ≤ sizeLine) : wpAny (model prog w) A (getItem (.ref t) (.ref sl)) Q E s := by
  have ok : sizeOk (.seq items.toList.reverse.toArray) := by
    show items.toList.reverse.toArray.size ≤ sizeLine
    simpa using hz
  obtain ⟨os, hos, hcs, hds⟩ := id hs
  have hT : s.TypeIs (.ref sl) "slice" := ⟨os, hos, hcs⟩
  unfold getItem
  try with_reducible refine wpAny_holding ?_
  refine wpAny_bind (wpAny_sequenceKey ht.typeIs (by decide) ?_)
  refine wpAny_bind (wpAny_callSpecial?_slot (name := Str.ofString "__getitem__") ht.typeIs PyProof.Rows.slot_tuple_getitem
    (wpAny_call_entry PyProof.Rows.slot_tuple_getitem ht.typeIs entry_tuple_getitem ?_ (args_tuple_getitem _ _)))
  show wpAny _ _ (Builtin.Tuple.tupleItemsOf (.ref t) >>= _) _ _ s
  refine wpAny_bind (PyProof.Rows.tupleItemsOf_ ht (wpAny_bind (wpAny_typeOf hT ?_)))
  rw [if_pos (by decide)]
  refine wpAny_bind (applied_rev hs ps ?_)
  have no : ¬ ((((items.size : Int) - 1) == 0 && (-1 : Int) == 1 && items.size == items.size) = true) := by simp
  show wpAny _ _ (if (((items.size : Int) - 1) == 0 && (-1 : Int) == 1 && items.size == items.size) = true then _ else _) _ _ s
  rw [if_neg no, pick_rev]
  first
    | exact wpAny_bind (m := Builtin.Tuple.tupleExact _) (wpAny_newObj_type (wpAny_pure ⟨_, rfl, wpAny_pure h⟩) ok)
    | exact wpAny_bind (m := Builtin.Tuple.tupleExact _) (wpAny_newObj_type (wpAny_bind (wpAny_pure (wpAny_pure ⟨_, rfl, wpAny_pure h⟩))) ok)
    | exact wpAny_bind (wpAny_bind (m := Builtin.Tuple.tupleExact _) (wpAny_newObj_type (wpAny_pure (wpAny_pure ⟨_, rfl, wpAny_pure h⟩)) ok))
    | exact wpAny_bind (wpAny_bind (m := Builtin.Tuple.tupleExact _) (wpAny_newObj_type (wpAny_pure ⟨_, rfl, wpAny_pure h⟩) ok))
end
section
variable {X : Cx}
def tRevT (K : PySem.W.Frag) (te : TE) : TE := fun σ H Q => te σ H fun x H1 => ∃ a xs, x = .ref a ∧ SqT K H1 a xs ∧ ∀ p, H1 p = none → Q (.ref p) (upd H1 p (.tup xs.reverse))
theorem pe_revT {e : Expr} {te : TE} {k : Nat} {p1 p2 p3 pos : Pos} (he : PE X e te) :
    PE X (.Subscript e (.Slice none none (some (.UnaryOp .USub (.Constant (.int 1) k p1) p2)) p3) pos) (tRevT X.K te) := by
  constructor
  intro pins s σ H Q I h
  refine Subscript_ (thn (he.run pins s σ H _ I h) ?_)
  rintro v s1 ⟨x, H1, I1, r1, a, xs, rfl, hx, q⟩
  cases r1
  have hst : PO X (some (.UnaryOp .USub (.Constant (.int 1) k p1) p2)) (tPart (tUn (rU fun i => .int (-i)) (tC (.int 1)))) := po_some (pe_un un_neg pe_int)
  refine wpAny_Slice (thn (po_none.run pins s1 σ H1 (fun o H2 => o = none ∧ H2 = H1) I1 ⟨rfl, rfl⟩) ?_)
  rintro vl s2 ⟨l, H2, I2, pl, rfl, rfl⟩
  refine thn (po_none.run pins s2 σ H2 (fun o H3 => o = none ∧ H3 = H2) I2 ⟨rfl, rfl⟩) ?_
  rintro vu s3 ⟨u, H3, I3, pu, rfl, rfl⟩
  refine thn (hst.run pins s3 σ H3 (fun o H4 => o = some (-1) ∧ H4 = H3) I3 ⟨1, rfl, -1, rfl, rfl, rfl⟩) ?_
  rintro vs s4 ⟨o, H4, I4, ps, rfl, rfl⟩
  cases pl
  cases pu
  have J : Inv X pins σ H4 { s4 with heap := s4.heap.push { cls := .type "slice", data := .fields #[.none, .none, vs] } } := I4.kept (t' := s4.toks) fun b ob z => Heap.get?_push_of_some _ z
  obtain ⟨its, r, ht, hz⟩ := J.tuple hx
  have hlen := r.length
  refine tail_any (ops := [.ref a, .ref s4.heap.objs.size]) ht.typeIs (PyProof.Rows.slot_tuple_getitem.lookup) ?_ (by with_unfolding_all rfl)
  refine get_rev ht (Heap.IsSliceOf.new _ .none .none vs) ps ?_ (by rw [List.size_toArray]; omega)
  refine ⟨.ref _, _, J.laid (t' := s4.toks) (o := .tup xs.reverse) (fun b ob z => Heap.get?_push_of_some _ z) (Nat.le_refl _) ?_, rfl, q _ (J.hok.fresh (Nat.le_refl _))⟩
  exact ⟨by rw [List.length_reverse]; exact hz, _, r.reverse, IsTup.new _ _⟩
end
end Gd
end

section
set_option Elab.async false
set_option linter.all false
set_option maxRecDepth 100000
set_option maxHeartbeats 4000000
/-! Data with lists and with dicts of text and number keys, any depth; what is not in it: the addresses of N. -/
namespace Gd
open PySem PySem.Spec PyProof.Rows L2

mutual
inductive Dg (K : PySem.W.Frag) (H : Hp) (N : Addr → Prop) : V → PyData → Prop
  | non : Dg K H N .non .none
  | bl (b : Bool) : Dg K H N (.bl b) (.bool b)
  | int (i : Int) : Dg K H N (.int i) (.int i)
  | str (x : Str) : Dg K H N (.str x) (.str x)
  | lst {a : Addr} {xs : List V} {ds : List PyData} : H a = some (.lst xs) → ¬ N a → a ≠ sysModules → DgAll K H N xs ds → Dg K H N (.ref a) (.list ds)
  | tup {a : Addr} {xs : List V} {ds : List PyData} : SqT K H a xs → DgAll K H N xs ds → Dg K H N (.ref a) (.tuple ds)
  | dct {a : Addr} {kvs : List (Key × V)} {ps : List (PyData × PyData)} : H a = some (.dK kvs) → ¬ N a → DgKv K H N kvs ps → Dg K H N (.ref a) (.dict ps)
inductive DgAll (K : PySem.W.Frag) (H : Hp) (N : Addr → Prop) : List V → List PyData → Prop
  | nil : DgAll K H N [] []
  | cons {v : V} {vs : List V} {d : PyData} {ds : List PyData} : Dg K H N v d → DgAll K H N vs ds → DgAll K H N (v :: vs) (d :: ds)
inductive DgKv (K : PySem.W.Frag) (H : Hp) (N : Addr → Prop) : List (Key × V) → List (PyData × PyData) → Prop
  | nil : DgKv K H N [] []
  | consS {x : Str} {v : V} {kvs : List (Key × V)} {d : PyData} {ps : List (PyData × PyData)} : Dg K H N v d → DgKv K H N kvs ps → DgKv K H N ((Sum.inr x, v) :: kvs) ((.str x, d) :: ps)
  | consI {i : Int} {v : V} {kvs : List (Key × V)} {d : PyData} {ps : List (PyData × PyData)} : Dg K H N v d → DgKv K H N kvs ps → DgKv K H N ((Sum.inl i, v) :: kvs) ((.int i, d) :: ps)
end

section
variable {K : PySem.W.Frag} {H H' : Hp} {N N' : Addr → Prop}
mutual
theorem Dg.stay (t : Tups K H H') (x : ∀ a o, ¬ N a → H a = some o → H' a = some o) (m : ∀ a, N' a → N a) : ∀ (d : PyData) {v : V}, Dg K H N v d → Dg K H' N' v d
  | .none, _, h => by cases h; exact .non
  | .bool _, _, h => by cases h; exact .bl _
  | .int _, _, h => by cases h; exact .int _
  | .str _, _, h => by cases h; exact .str _
  | .tuple ds, _, h => by
    cases h with
    | tup a b => exact .tup (t _ _ a) (DgAll.stay t x m ds b)
  | .list ds, _, h => by
    cases h with
    | lst a n g b => exact .lst (x _ _ n a) (fun z => n (m _ z)) g (DgAll.stay t x m ds b)
  | .dict ps, _, h => by
    cases h with
    | dct a n b => exact .dct (x _ _ n a) (fun z => n (m _ z)) (DgKv.stay t x m ps b)
theorem DgAll.stay (t : Tups K H H') (x : ∀ a o, ¬ N a → H a = some o → H' a = some o) (m : ∀ a, N' a → N a) : ∀ (ds : List PyData) {vs : List V}, DgAll K H N vs ds → DgAll K H' N' vs ds
  | [], _, h => by cases h; exact .nil
  | d :: ds, _, h => by
    cases h with
    | cons a b => exact .cons (Dg.stay t x m d a) (DgAll.stay t x m ds b)
theorem DgKv.stay (t : Tups K H H') (x : ∀ a o, ¬ N a → H a = some o → H' a = some o) (m : ∀ a, N' a → N a) : ∀ (ps : List (PyData × PyData)) {kvs : List (Key × V)}, DgKv K H N kvs ps → DgKv K H' N' kvs ps
  | [], _, h => by cases h; exact .nil
  | (_, d) :: ps, _, h => by
    cases h with
    | consS a b => exact .consS (Dg.stay t x m d a) (DgKv.stay t x m ps b)
    | consI a b => exact .consI (Dg.stay t x m d a) (DgKv.stay t x m ps b)
end
theorem Dg.same {v : V} {d : PyData} (s : Same H H') (h : Dg K H N v d) : Dg K H' N v d := Dg.stay (Tups.of_same s) (fun a o _ e => s a o e) (fun _ z => z) d h
theorem DgAll.same {vs : List V} {ds : List PyData} (s : Same H H') (h : DgAll K H N vs ds) : DgAll K H' N vs ds := DgAll.stay (Tups.of_same s) (fun a o _ e => s a o e) (fun _ z => z) ds h
theorem Dg.free {v : V} {d : PyData} (h : Dg K H N v d) : Dg K H (fun _ => False) v d := Dg.stay .refl (fun a o _ e => e) (fun _ z => z.elim) d h
theorem DgAll.free {vs : List V} {ds : List PyData} (h : DgAll K H N vs ds) : DgAll K H (fun _ => False) vs ds := DgAll.stay .refl (fun a o _ e => e) (fun _ z => z.elim) ds h
/-- behind a draw -/
theorem Dg.drawn {p : Addr} {ys : List V} {v : V} {d : PyData} (e : H p = some (.lst ys)) (x : Ex1 p H H') (h : Dg K H (· = p) v d) : Dg K H' (· = p) v d :=
  Dg.stay (x.tups e) (fun a o n q => x a o n q) (fun _ z => z) d h
theorem DgAll.drawn {p : Addr} {ys : List V} {vs : List V} {ds : List PyData} (e : H p = some (.lst ys)) (x : Ex1 p H H') (h : DgAll K H (· = p) vs ds) : DgAll K H' (· = p) vs ds :=
  DgAll.stay (x.tups e) (fun a o n q => x a o n q) (fun _ z => z) ds h
mutual
/-- what is new is not in it -/
theorem Dg.shun {q : Addr} (n : H q = none) : ∀ (d : PyData) {v : V}, Dg K H N v d → Dg K H (fun a => N a ∨ a = q) v d
  | .none, _, h => by cases h; exact .non
  | .bool _, _, h => by cases h; exact .bl _
  | .int _, _, h => by cases h; exact .int _
  | .str _, _, h => by cases h; exact .str _
  | .tuple ds, _, h => by
    cases h with
    | tup a b => exact .tup a (DgAll.shun n ds b)
  | .list ds, _, h => by
    cases h with
    | lst a m g b => exact .lst a (fun z => z.elim m (fun z => by rw [z, n] at a; cases a)) g (DgAll.shun n ds b)
  | .dict ps, _, h => by
    cases h with
    | dct a m b => exact .dct a (fun z => z.elim m (fun z => by rw [z, n] at a; cases a)) (DgKv.shun n ps b)
theorem DgAll.shun {q : Addr} (n : H q = none) : ∀ (ds : List PyData) {vs : List V}, DgAll K H N vs ds → DgAll K H (fun a => N a ∨ a = q) vs ds
  | [], _, h => by cases h; exact .nil
  | d :: ds, _, h => by
    cases h with
    | cons a b => exact .cons (Dg.shun n d a) (DgAll.shun n ds b)
theorem DgKv.shun {q : Addr} (n : H q = none) : ∀ (ps : List (PyData × PyData)) {kvs : List (Key × V)}, DgKv K H N kvs ps → DgKv K H (fun a => N a ∨ a = q) kvs ps
  | [], _, h => by cases h; exact .nil
  | (_, d) :: ps, _, h => by
    cases h with
    | consS a b => exact .consS (Dg.shun n d a) (DgKv.shun n ps b)
    | consI a b => exact .consI (Dg.shun n d a) (DgKv.shun n ps b)
end
theorem DgAll.len : ∀ {vs : List V} {ds : List PyData}, DgAll K H N vs ds → vs.length = ds.length
  | _, _, .nil => rfl
  | _, _, .cons _ b => congrArg (· + 1) (DgAll.len b)
theorem DgAll.at_ : ∀ {vs : List V} {ds : List PyData} {i : Nat} {v : V}, DgAll K H N vs ds → vs[i]? = some v → ∃ d, ds[i]? = some d ∧ Dg K H N v d
  | _, _, _, _, .nil, e => by simp at e
  | _, _, 0, _, .cons a _, e => by
    cases Option.some.inj e
    exact ⟨_, rfl, a⟩
  | _, _, i + 1, _, .cons _ b, e => DgAll.at_ (i := i) b e
theorem DgAll.app : ∀ {vs us : List V} {ds es : List PyData}, DgAll K H N vs ds → DgAll K H N us es → DgAll K H N (vs ++ us) (ds ++ es)
  | _, _, _, _, .nil, h => h
  | _, _, _, _, .cons a b, h => .cons a (DgAll.app b h)
theorem DgAll.take : ∀ {vs : List V} {ds : List PyData}, DgAll K H N vs ds → ∀ i : Nat, DgAll K H N (vs.take i) (ds.take i)
  | _, _, .nil, i => by rw [List.take_nil, List.take_nil]; exact .nil
  | _, _, .cons _ _, 0 => .nil
  | _, _, .cons a b, i + 1 => .cons a (DgAll.take b i)
theorem DgAll.drop : ∀ {vs : List V} {ds : List PyData}, DgAll K H N vs ds → ∀ i : Nat, DgAll K H N (vs.drop i) (ds.drop i)
  | _, _, .nil, i => by rw [List.drop_nil, List.drop_nil]; exact .nil
  | _, _, .cons a b, 0 => .cons a b
  | _, _, .cons a b, i + 1 => DgAll.drop b i
theorem DgAll.rev : ∀ {vs : List V} {ds : List PyData}, DgAll K H N vs ds → DgAll K H N vs.reverse ds.reverse
  | _, _, .nil => .nil
  | _, _, .cons a b => by
    rw [List.reverse_cons, List.reverse_cons]
    exact DgAll.app (DgAll.rev b) (.cons a .nil)
mutual
theorem Dg.ofDp : ∀ (d : PyData) {v : V}, tupOnly d = true → Dp K H v d → Dg K H N v d
  | .none, _, _, h => by cases h; exact .non
  | .bool _, _, _, h => by cases h; exact .bl _
  | .int _, _, _, h => by cases h; exact .int _
  | .str _, _, _, h => by cases h; exact .str _
  | .tuple ds, _, o, h => by
    cases h with
    | tup a b =>
      simp only [tupOnly, Bool.and_eq_true] at o
      exact .tup a (DgAll.ofDp ds o.2 b)
  | .list _, _, o, _ => by simp [tupOnly] at o
  | .dict _, _, o, _ => by simp [tupOnly] at o
theorem DgAll.ofDp : ∀ (ds : List PyData) {vs : List V}, tupOnlyAll ds = true → DpAll K H vs ds → DgAll K H N vs ds
  | [], _, _, h => by cases h; exact .nil
  | d :: ds, _, o, h => by
    simp only [tupOnlyAll, Bool.and_eq_true] at o
    cases h with
    | cons a b => exact .cons (Dg.ofDp d o.1 a) (DgAll.ofDp ds o.2 b)
end
theorem Dg.kind {v : V} {d : PyData} (h : Dg K H N v d) : TyX K H v (.type (kindN d)) := by
  cases h with
  | non => exact .base .non
  | bl b => exact .base (.bl b)
  | int i => exact .base (.int i)
  | str x => exact .base (.str x)
  | lst e _ _ _ => exact .base (.lst e)
  | dct e _ _ => exact .base (.dK e)
  | tup a _ =>
    rcases a with (a | ⟨z, a⟩) | ⟨z, its, n, a, c, _⟩
    · exact .base (.tup a)
    · exact .fTuple a
    · exact .kTuple a c
end
section
variable {X : Cx} {pins : List (Addr × Obj)} {σ : L2.St} {H : Hp} {s : Shared} {N : Addr → Prop}
mutual
theorem Dg.reads (I : Inv X pins σ H s) : ∀ (d : PyData) (v : V) (u : Value), Dg X.K H N v d → RelV v u → ∃ as, Reads s.heap u d as ∧ sysModules ∉ as
  | .none, _, _, h, r => by
    cases h
    cases r
    exact ⟨[], .none, nofun⟩
  | .bool b, _, _, h, r => by
    cases h
    cases r
    exact ⟨[], .bool b, nofun⟩
  | .int i, _, _, h, r => by
    cases h
    obtain ⟨t, rfl⟩ := r
    exact ⟨[], .int i t, nofun⟩
  | .str x, _, _, h, r => by
    cases h
    obtain ⟨t, rfl⟩ := r
    exact ⟨[], .str x t, nofun⟩
  | .list ds, _, _, h, r => by
    cases h with
    | lst hs _ g ha =>
      cases r
      obtain ⟨its, rv, pl, _⟩ := I.list (SqL.of hs)
      obtain ⟨o, n, ho, hc, _, hd⟩ := pl
      obtain ⟨as, hr, hn⟩ := Dg.readsAll I ds _ its ha rv
      refine ⟨_, .list ho hc hd hr, fun m => ?_⟩
      rcases List.mem_cons.mp m with m | m
      · exact g m.symm
      · exact hn m
  | .tuple ds, _, _, h, r => by
    cases h with
    | tup hs ha =>
      cases r
      obtain ⟨its, rv, pl, _⟩ := I.tuple hs
      obtain ⟨o, ho, hc, n, hd⟩ := pl
      obtain ⟨as, hr, hn⟩ := Dg.readsAll I ds _ its ha rv
      exact ⟨as, .tuple ho hc hd hr, hn⟩
  | .dict qs, _, _, h, r => by
    cases h with
    | dct e _ hk =>
      cases r
      obtain ⟨g, vs, kv, o, es, ep, ho, ex, hd, ks, ps, _⟩ := dk_reads I e
      obtain ⟨as, bs, ra, rb, na, nb⟩ := Dg.readsKv I qs _ vs es.toList hk kv ps
      refine ⟨_, .dict ho ex.1 hd ra rb, fun m => ?_⟩
      rw [List.cons_append] at m
      rcases List.mem_cons.mp m with m | m
      · rw [← m] at g
        simp at g
      · rcases List.mem_append.mp m with m | m
        · exact na m
        · exact nb m
theorem Dg.readsAll (I : Inv X pins σ H s) : ∀ (ds : List PyData) (vs : List V) (us : List Value), DgAll X.K H N vs ds → Vals vs us → ∃ as, ReadsAll s.heap us ds as ∧ sysModules ∉ as
  | [], _, _, h, r => by
    cases h
    cases r
    exact ⟨[], .nil, nofun⟩
  | d :: ds, _, _, h, r => by
    cases h with
    | cons h1 h2 =>
      cases r with
      | cons r1 r2 =>
        obtain ⟨as, q1, n1⟩ := Dg.reads I d _ _ h1 r1
        obtain ⟨bs, q2, n2⟩ := Dg.readsAll I ds _ _ h2 r2
        exact ⟨as ++ bs, .cons q1 q2, fun m => (List.mem_append.mp m).elim n1 n2⟩
theorem Dg.readsKv (I : Inv X pins σ H s) : ∀ (qs : List (PyData × PyData)) (kvs : List (Key × V)) (vs : List (Key × Value)) (es : List DictEntry), DgKv X.K H N kvs qs → KV kvs vs → Pairs (mixKind X.prog X.w) es vs →
    ∃ as bs, ReadsAll s.heap (es.map (·.key)) (qs.map (·.1)) as ∧ ReadsAll s.heap (es.map (·.val)) (qs.map (·.2)) bs ∧ sysModules ∉ as ∧ sysModules ∉ bs
  | [], _, _, _, h, r, p => by
    cases h
    cases r
    cases p
    exact ⟨[], [], .nil, .nil, nofun, nofun⟩
  | (_, d) :: qs, _, _, _, h, r, p => by
    cases h with
    | @consS x v kvs _ _ h1 h2 =>
      cases r with
      | @cons _ q _ _ r1 r2 =>
      obtain ⟨qk, qv⟩ := q
      obtain ⟨rk, rv⟩ := r1
      dsimp only at rk rv
      subst rk
      cases p with
      | @cons z _ _ _ p1 p2 p3 =>
      obtain ⟨tk, ek⟩ : ∃ tk, z.key = .str x tk := by
        have p1 : keyIs (Sum.inr x) z.key = true := p1
        rcases keyIs_shape p1 with ⟨i, t, h1, h2⟩ | ⟨y, t, h1, h2⟩
        · cases h1
        · cases h1
          exact ⟨t, h2⟩
      obtain ⟨as0, q1, n1⟩ := Dg.reads I d _ _ h1 rv
      obtain ⟨as, bs, q2, q3, n2, n3⟩ := Dg.readsKv I qs _ _ _ h2 r2 p3
      refine ⟨[] ++ as, as0 ++ bs, ?_, ?_, n2, fun m => (List.mem_append.mp m).elim n1 n3⟩
      · show ReadsAll s.heap (z.key :: _) (.str x :: _) _
        rw [ek]
        exact .cons (.str x tk) q2
      · show ReadsAll s.heap (z.val :: _) (d :: _) _
        rw [p2]
        exact .cons q1 q3
    | @consI x v kvs _ _ h1 h2 =>
      cases r with
      | @cons _ q _ _ r1 r2 =>
      obtain ⟨qk, qv⟩ := q
      obtain ⟨rk, rv⟩ := r1
      dsimp only at rk rv
      subst rk
      cases p with
      | @cons z _ _ _ p1 p2 p3 =>
      obtain ⟨tk, ek⟩ : ∃ tk, z.key = .int x tk := by
        have p1 : keyIs (Sum.inl x) z.key = true := p1
        rcases keyIs_shape p1 with ⟨i, t, h1, h2⟩ | ⟨y, t, h1, h2⟩
        · cases h1
          exact ⟨t, h2⟩
        · cases h1
      obtain ⟨as0, q1, n1⟩ := Dg.reads I d _ _ h1 rv
      obtain ⟨as, bs, q2, q3, n2, n3⟩ := Dg.readsKv I qs _ _ _ h2 r2 p3
      refine ⟨[] ++ as, as0 ++ bs, ?_, ?_, n2, fun m => (List.mem_append.mp m).elim n1 n3⟩
      · show ReadsAll s.heap (z.key :: _) (.int x :: _) _
        rw [ek]
        exact .cons (.int x tk) q2
      · show ReadsAll s.heap (z.val :: _) (d :: _) _
        rw [p2]
        exact .cons q1 q3
end
/-- repr(x), x such data -/
def rReprG (K : PySem.W.Frag) : List V → Hp → VK → Prop := fun xs H Q =>
  ∃ (x : V) (d : PyData) (N : Addr → Prop), xs = [x] ∧ Dg K H N x d ∧ d.showable = true ∧ d.shown.length ≤ sizeLine ∧ d.depth ≤ 60 ∧ Q (.str d.shown) H
theorem call_reprG (g : Free X.A) (hu : X.A.units + 64 < cLine) : CallR X (.builtin "repr") (rReprG X.K) := by
  intro pins s σ H xs us Q I r h
  obtain ⟨x, d, N, rfl, hd, hs, hz, hdp, q⟩ := h
  obtain ⟨u, rfl, ru⟩ := r.one
  obtain ⟨as, rd, hn⟩ := Dg.reads I d x u hd ru
  have fin : ∀ (h' : Heap) (tk tk' : Nat), (∀ b o, s.heap.get? b = some o → h'.get? b = some o) →
      EP X pins σ Q (.str d.shown tk) { s with heap := h', toks := tk' } :=
    fun h' tk tk' k => ⟨.str d.shown, H, I.kept k, ⟨tk, rfl⟩, q⟩
  have fin0 : ∀ (tk tk' : Nat), EP X pins σ Q (.str d.shown tk) { s with toks := tk' } :=
    fun tk tk' => ⟨.str d.shown, H, I.tok tk', ⟨tk, rfl⟩, q⟩
  cases rd with
  | none => exact P.repr_of_none (fin0 _ _)
  | bool b => exact P.repr_of_bool (fin0 _ _)
  | int i t => exact P.repr_of_int (by simpa [PyData.showable] using hs) (fin0 _ _)
  | str z t => exact P.repr_of_str (fin0 _ _) hz
  | list h1 h2 h3 h4 =>
    exact repr_of_reads' (.list h1 h2 h3 h4) hs (fun _ => hn) g (by omega) (fun _ _ e => e) (fun h' u tk k => fin h' u tk k) hz
  | tuple h1 h2 h3 h4 =>
    exact repr_of_reads' (.tuple h1 h2 h3 h4) hs (fun _ => hn) g (by omega) (fun _ _ e => e) (fun h' u tk k => fin h' u tk k) hz
  | dict h1 h2 h3 h4 h5 =>
    exact repr_of_reads' (.dict h1 h2 h3 h4 h5) hs (fun _ => hn) g (by omega) (fun _ _ e => e) (fun h' u tk k => fin h' u tk k) hz
theorem Dg.dictAt (I : Inv X pins σ H s) {v : V} {u : Value} {ks : List (PyData × PyData)} (h : Dg X.K H N v (.dict ks)) (r : RelV v u) :
    ∃ d es ep, u = .ref d ∧ s.heap.get? d = some { cls := .type "dict", dict := none, data := .dict es ep, slots := #[] } := by
  have key : ∀ {a : Addr} {kvs : List (Key × V)}, H a = some (.dK kvs) → ∃ es ep, s.heap.get? a = some { cls := .type "dict", dict := none, data := .dict es ep, slots := #[] } := by
    intro a kvs e
    obtain ⟨_, vs, _, o, es, ep, ho, ⟨e1, e2, e3⟩, hd, _⟩ := dk_reads I e
    obtain ⟨oc, od, dt, sl⟩ := o
    dsimp only at e1 e2 e3 hd
    subst e1 e2 e3 hd
    exact ⟨es, ep, ho⟩
  cases h with
  | dct e _ _ =>
    cases r
    obtain ⟨es, ep, ho⟩ := key e
    exact ⟨_, es, ep, rfl, ho⟩
theorem Dg.strEq {A : Around} (I : Inv X pins σ H s) (hu : A.units < cLine) {d : PyData} {v : V} {u : Value} (h : Dg X.K H N v d) (r : RelV v u) (b : Str) (t : Tok) :
    SeqAt.EqAt A s (.str b t) u (isStr d b) := by
  cases d with
  | none =>
    cases h
    cases r
    exact .str_none b t
  | bool k =>
    cases h
    cases r
    exact .str_bool b t k
  | int i =>
    cases h
    obtain ⟨t2, rfl⟩ := r
    exact .str_int b t i t2
  | str x =>
    cases h
    obtain ⟨t2, rfl⟩ := r
    have e := SeqAt.EqAt.str_str (A := A) (s := s) b t x t2
    have e2 : isStr (.str x) b = (b == x) := by
      show (x == b) = (b == x)
      exact Bool.eq_iff_iff.mpr ⟨fun z => by rw [eq_of_beq z] <;> exact beq_self_eq_true _, fun z => by rw [eq_of_beq z] <;> exact beq_self_eq_true _⟩
    rw [e2]
    exact e
  | list ds =>
    cases h with
    | lst e n g k =>
    cases r
    obtain ⟨its, _, pl, _⟩ := I.list (SqL.of e)
    exact .str_list b t pl.isList hu
  | tuple ds =>
    cases h with
    | tup e k =>
    cases r
    obtain ⟨its, _, pl, _⟩ := I.tuple e
    exact .str_tuple b t pl hu
  | dict ks =>
    obtain ⟨a, es, ep, rfl, ho⟩ := Dg.dictAt I h r
    exact eq_str_dict b t ho hu
end
section
variable {X : Cx}
theorem rc_str (hu : X.A.units < cLine) {pins : List (Addr × Obj)} {σ : L2.St} {H : Hp} {s : Shared} {N : Addr → Prop} {v : V} {u : Value} {d : PyData} {b : Str} {t : Tok}
    (I : Inv X pins σ H s) (h : Dg X.K H N v d) (rx : RelV v u) : SeqAt.RcAt X.A s u (.str b t) (isStr d b) := by
  cases d with
  | none =>
    cases h
    cases rx
    exact SeqAt.RcAt.none_str b t
  | bool k =>
    cases h
    cases rx
    exact SeqAt.RcAt.bool_str k b t
  | int i =>
    cases h
    obtain ⟨t2, rfl⟩ := rx
    exact SeqAt.RcAt.int_str i t2 b t
  | str z =>
    cases h
    obtain ⟨t2, rfl⟩ := rx
    exact SeqAt.RcAt.str_str z t2 b t
  | list ds =>
    cases h with
    | lst e n g k =>
    cases rx
    obtain ⟨its, _, pl, _⟩ := I.list (SqL.of e)
    exact SeqAt.RcAt.list_str b t pl.isList hu
  | tuple ds =>
    cases h with
    | tup e k =>
    cases rx
    obtain ⟨its, _, pl, _⟩ := I.tuple e
    exact SeqAt.RcAt.tuple_str b t pl hu
  | dict ks =>
    obtain ⟨a, es, ep, rfl, ho⟩ := Dg.dictAt I h rx
    exact rc_dict_str b t ho hu
/-- data == a text -/
def rEqG (K : PySem.W.Frag) : R2 := fun x y H Q => ∃ (N : Addr → Prop) (d : PyData) (b : Str), Dg K H N x d ∧ y = .str b ∧ Q (.bl (isStr d b)) H
theorem op_eqG (hu : X.A.units < cLine) : OpR X (compareOp .Eq) (rEqG X.K) := by
  intro pins s σ H x y v u Q I rx ry h
  obtain ⟨N, d, b, h, rfl, q⟩ := h
  obtain ⟨t, rfl⟩ := ry
  have fin : EP X pins σ Q (.bool (isStr d b)) s := ⟨.bl _, H, I, rfl, q⟩
  exact rc_str hu I h rx _ _ _ _ fin
/-- data not in a tuple of texts -/
def rNiG (K : PySem.W.Frag) : R2 := fun x y H Q => ∃ (N : Addr → Prop) (d : PyData) (p : Addr) (bs : List Str), Dg K H N x d ∧ y = .ref p ∧ SqT K H p (bs.map V.str) ∧ Q (.bl (!bs.any (isStr d))) H
theorem op_notInG (hu : X.A.units + 1 < cLine) : OpR X (compareOp .NotIn) (rNiG X.K) := by
  intro pins s σ H x y v u Q I rx ry h
  obtain ⟨N, d, p, bs, hd, rfl, hp, q⟩ := h
  cases ry
  obtain ⟨its, r, pl, _⟩ := I.tuple hp
  obtain ⟨e, f⟩ := hits (d := d) r
  refine SeqAt.notIn_tupleAt (hitS d) pl (fun w hw => ?_) ⟨.bl _, H, I, rfl, ?_⟩
  · obtain ⟨b, t, rfl⟩ := f w (by simpa using hw)
    exact Dg.strEq I (by show X.A.units + 1 < cLine; exact hu) hd rx b t
  · rw [show its.toArray.any (hitS d) = its.any (hitS d) by simp, e]
    exact q
end
end Gd
end

section
set_option Elab.async false
set_option linter.all false
set_option maxRecDepth 100000
set_option maxHeartbeats 4000000
/-! Lists of ints and slabs in the heap; what they show. -/
namespace Gd
open PySem PySem.Spec PyProof.Rows L2
theorem int_shown {i : Int} (h : i.natAbs ≤ 10 ^ 40) : (PyData.int i).shown.length ≤ 100 ∧ i.natAbs.log2 < 1920 ∧ (PyData.int i).weight ≤ 200 := by
  have h1 : i.natAbs < 10 ^ 41 := Nat.lt_of_le_of_lt h (by decide)
  have hl : i.natAbs.log2 < 190 := by
    by_cases z : i.natAbs = 0
    · rw [z]; decide
    · exact (Nat.log2_lt z).mpr (Nat.lt_of_lt_of_le h1 (by decide +kernel))
  refine ⟨?_, by omega, ?_⟩
  · have e := int_text_length_le10 (k := 41) (by decide) h1
    have e2 : (PyData.int i).shown.length = (toString i).length := by
      show (Str.ofString (toString i)).length = _
      rw [PySem.ofString_length]
    omega
  · simp only [PyData.weight]
    split <;> omega
theorem ints_leaves : ∀ {ns : List Int}, (∀ i ∈ ns, i.natAbs ≤ 10 ^ 40) → PyData.leavesShortAll 100 (ns.map .int) = true ∧ PyData.showableAll (ns.map .int) = true ∧ PyData.weightAll (ns.map .int) ≤ 201 * ns.length ∧ PyData.depthAll (ns.map .int) = 0
  | [], _ => ⟨rfl, rfl, Nat.zero_le _, rfl⟩
  | i :: ns, h => by
    obtain ⟨a, b, c, d⟩ := ints_leaves (ns := ns) fun j hj => h j (by simp [hj])
    obtain ⟨e1, e2, e3⟩ := int_shown (h i (by simp))
    refine ⟨?_, ?_, ?_, ?_⟩
    · simp only [List.map_cons, PyData.leavesShortAll, a, Bool.and_true, PyData.leavesShort, decide_eq_true_eq]
      exact e1
    · simp only [List.map_cons, PyData.showableAll, b, Bool.and_true, PyData.showable, decide_eq_true_eq]
      exact e2
    · simp only [List.map_cons, PyData.weightAll, List.length_cons]
      omega
    · simp only [List.map_cons, PyData.depthAll, d, PyData.depth]
      omega
/-- repr of a list of ints is served -/
theorem ints_shown {ns : List Int} (h : ∀ i ∈ ns, i.natAbs ≤ 10 ^ 40) (hl : ns.length ≤ 700) :
    (PyData.list (ns.map .int)).showable = true ∧ (PyData.list (ns.map .int)).shown.length ≤ sizeLine ∧ (PyData.list (ns.map .int)).depth ≤ 60 := by
  obtain ⟨a, b, c, d⟩ := ints_leaves h
  have hs := PyData.shown_le 100 (by decide) (.list (ns.map .int)) (by simpa only [PyData.leavesShort] using a)
  have hw : (PyData.list (ns.map .int)).weight ≤ 201 * ns.length + 1 := by
    simp only [PyData.weight]
    omega
  have z : sizeLine = 16777216 := rfl
  refine ⟨by simpa only [PyData.showable] using b, by omega, ?_⟩
  simp only [PyData.depth, d]
  omega
theorem one_shown {i : Int} (h : i.natAbs ≤ 10 ^ 40) : (PyData.int i).showable = true ∧ (PyData.int i).shown.length ≤ sizeLine ∧ (PyData.int i).depth ≤ 60 := by
  obtain ⟨e1, e2, e3⟩ := int_shown h
  have z : sizeLine = 16777216 := rfl
  refine ⟨by simpa [PyData.showable] using e2, by omega, by simp only [PyData.depth]; omega⟩
theorem ints_dp {K : PySem.W.Frag} {H : Hp} : ∀ ns : List Int, DpAll K H (ns.map V.int) (ns.map .int)
  | [] => .nil
  | i :: ns => .cons (.int i) (ints_dp ns)
theorem list_dp {K : PySem.W.Frag} {H : Hp} {a : Addr} {ns : List Int} (h : SqL K H a (ns.map V.int)) : Dp K H (.ref a) (.list (ns.map .int)) := .lst h (ints_dp ns)

/-! what stays -/
theorem new_same {H : Hp} {q : Addr} {o : HO} (n : H q = none) : Same H (upd H q o) := fun b u e => by
  rw [upd_ne (ne_of_none e n)]
  exact e
/-- a new object may change -/
theorem own_same {H H' : Hp} {q : Addr} {o : HO} (n : H q = none) (s : Same H H') : Same H (upd H' q o) := fun b u e => by
  rw [upd_ne (ne_of_none e n)]
  exact s b u e
theorem same_tup {K : PySem.W.Frag} {H H' : Hp} (s : Same H H') {a : Addr} {xs : List V} (h : SqT K H a xs) : SqT K H' a xs := by
  rcases h with (h | ⟨o, h⟩) | h
  · exact .inl (.inl (s _ _ h))
  · exact .inl (.inr ⟨o, s _ _ h⟩)
  · exact .inr h
/-- slabs at a: a list of pairs -/
def SlabsAt (K : PySem.W.Frag) (H : Hp) (a : Addr) (ss : List (Nat × Int)) : Prop :=
  ∃ bs : List Addr, SqL K H a (bs.map V.ref) ∧ bs.length = ss.length ∧ ∀ (i : Nat) (b : Addr) (s : Nat × Int), bs[i]? = some b → ss[i]? = some s → SqT K H b [.int (s.1 : Nat), .int s.2]
theorem SlabsAt.same {K : PySem.W.Frag} {H H' : Hp} {a : Addr} {ss : List (Nat × Int)} (h : SlabsAt K H a ss) (s : Same H H') : SlabsAt K H' a ss := by
  obtain ⟨bs, h1, h2, h3⟩ := h
  exact ⟨bs, s.seq h1, h2, fun i b t e1 e2 => same_tup s (h3 i b t e1 e2)⟩
theorem map_at {α : Type} {f : α → V} {xs : List α} {i : Nat} {v : V} (h : (xs.map f)[i]? = some v) : ∃ x, xs[i]? = some x ∧ v = f x := by
  rw [List.getElem?_map] at h
  cases e : xs[i]? with
  | none => rw [e] at h; cases h
  | some x => rw [e] at h; exact ⟨x, rfl, (Option.some.inj h).symm⟩
theorem at_of {α : Type} {xs : List α} {i n : Nat} (hl : xs.length = n) (h : i < n) : ∃ x, xs[i]? = some x := ⟨xs[i]'(by omega), List.getElem?_eq_getElem (by omega)⟩
theorem at_lt {α : Type} {xs : List α} {i : Nat} {x : α} (h : xs[i]? = some x) : i < xs.length := (List.getElem?_eq_some_iff.mp h).1
theorem getD_at {l : List Int} {i : Nat} (h : i < l.length) : l[i]? = some (l.getD i 0) := by
  rw [List.getD_eq_getElem?_getD, List.getElem?_eq_getElem h] <;> rfl
theorem ints_at {l : List Int} {i : Nat} (h : i < l.length) : (l.map V.int)[i]? = some (.int (l.getD i 0)) := by
  rw [List.getElem?_map, getD_at h] <;> rfl
theorem ints_atI {l : List Int} {i : Nat} (h : i < l.length) : atI (l.map V.int) ((i : Nat) : Int) = some (.int (l.getD i 0)) := atI_nat (ints_at h)
theorem take_at {α : Type} {xs : List α} {i : Nat} {x : α} (h : xs[i]? = some x) : xs.take (i + 1) = xs.take i ++ [x] := by
  rw [List.take_add_one, h] <;> rfl
theorem map_set {l : List Int} {i : Nat} {v : Int} : (l.map V.int).set i (.int v) = (l.set i v).map V.int := by
  rw [List.map_set]
section
variable {X : Cx}
/-- l[j], j from nought on, in l[j] op= x -/
def rGetL (K : PySem.W.Frag) : V → V → Hp → VK → Prop := fun o i H Q => ∃ (p : Addr) (xs : List V) (j : Nat) (v : V), o = .ref p ∧ i = .int (j : Nat) ∧ SqL K H p xs ∧ xs[j]? = some v ∧ Q v H
theorem get_list : PGet X (rGetL X.K) := by
  intro pins s σ H o i ov iv Q I r1 r2 h
  obtain ⟨p, xs, j, v, rfl, rfl, hq, he, q⟩ := h
  cases r1
  obtain ⟨t, rfl⟩ := r2
  obtain ⟨its, r, pl, hz⟩ := I.list hq
  obtain ⟨u, eu, ru⟩ := r.get he
  have hl := r.length
  have lt := at_lt he
  have zz : sizeLine = 16777216 := rfl
  have hi := at_lt eu
  refine wpAny_getItem_list pl.isList (by omega) (by omega) ?_ ⟨v, H, I, ru, q⟩
  simpa using eu
end
theorem ixN_nat {n j : Nat} (h : j < n) : ixN n (j : Int) = some j := by
  unfold ixN
  rw [if_pos (by omega), if_pos (by omega)] <;> simp
end Gd
end

section
set_option Elab.async false
set_option linter.all false
set_option maxRecDepth 100000
set_option maxHeartbeats 4000000
namespace Gd
open PySem PySem.Spec PyProof.Rows L2
section
variable {X : Cx}
/-- a list beside [] -/
def rL0 (K : PySem.W.Frag) (neg : Bool) : R2 := fun x y H Q => ∃ a b xs, x = .ref a ∧ y = .ref b ∧ SqL K H a xs ∧ SqL K H b [] ∧ Q (.bl (if neg then !xs.isEmpty else xs.isEmpty)) H
theorem op_eqL0 (hu : X.A.units < cLine) : OpR X (compareOp .Eq) (rL0 X.K false) := by
  intro pins s σ H x y v u Q I rx ry h
  obtain ⟨a, b, xs, rfl, rfl, ha, hb, q⟩ := h
  cases rx
  cases ry
  obtain ⟨its, r, pl, _⟩ := I.list ha
  obtain ⟨its2, r2, pl2, _⟩ := I.list hb
  cases r2
  cases r with
  | nil => exact SeqAt.RcAt.lists (e := fun _ => true) pl.isList pl2.isList rfl hu (fun j h1 _ => absurd h1 (by simp)) _ _ _ _ ⟨.bl _, H, I, rfl, q⟩
  | cons _ _ => exact SeqAt.RcAt.lists_lengths pl.isList pl2.isList (by simp) hu _ _ _ _ ⟨.bl _, H, I, rfl, q⟩
theorem op_neL0 (hu : X.A.units < cLine) : OpR X (compareOp .NotEq) (rL0 X.K true) := by
  intro pins s σ H x y v u Q I rx ry h
  obtain ⟨a, b, xs, rfl, rfl, ha, hb, q⟩ := h
  cases rx
  cases ry
  obtain ⟨its, r, pl, _⟩ := I.list ha
  obtain ⟨its2, r2, pl2, _⟩ := I.list hb
  cases r2
  cases r with
  | nil => exact SeqAt.RcNeAt.lists (e := fun _ => true) pl.isList pl2.isList rfl hu (fun j h1 _ => absurd h1 (by simp)) _ _ _ _ ⟨.bl _, H, I, rfl, q⟩
  | cons _ _ => exact SeqAt.RcNeAt.lists_lengths pl.isList pl2.isList (by simp) hu _ _ _ _ ⟨.bl _, H, I, rfl, q⟩
end
/-! what stays through draws -/
theorem ex1_of_same {p : Addr} {H H' : Hp} (s : Same H H') : Ex1 p H H' := fun b u _ e => s b u e
theorem ex1_own {p q : Addr} {H H' : Hp} {o : HO} (n : H q = none) (x : Ex1 p H H') : Ex1 p H (upd H' q o) := fun b u nb e => by
  rw [upd_ne (ne_of_none e n)]
  exact x b u nb e
theorem Feed.off {H : Hp} {p q : Addr} {S : Int} {o : HO} (F : Feed H p S) (n : q ≠ p) : Feed (upd H q o) p S := by
  obtain ⟨g, x, s, e, a, b⟩ := F
  exact ⟨g, x, s, by rw [upd_ne n.symm]; exact e, a, b⟩
theorem Feed.kept {H H' : Hp} {p : Addr} {S : Int} (F : Feed H p S) (s : Same H H') : Feed H' p S := by
  obtain ⟨g, x, z, ep, a, b⟩ := F
  exact ⟨g, x, z, s _ _ ep, a, b⟩
theorem Feed.not {H : Hp} {p q : Addr} {S : Int} (F : Feed H p S) (n : H q = none) : q ≠ p := F.ne n
theorem ex1_tup {K : PySem.W.Frag} {H H' : Hp} {p a : Addr} {S : Int} {xs : List V} (F : Feed H p S) (x : Ex1 p H H') (h : SqT K H a xs) : SqT K H' a xs := by
  obtain ⟨ys, ep⟩ := F.lst
  rcases h with (h | ⟨o, h⟩) | h
  · exact .inl (.inl (x _ _ (fun z => by rw [z, ep] at h; cases h) h))
  · exact .inl (.inr ⟨o, x _ _ (fun z => by rw [z, ep] at h; cases h) h⟩)
  · exact .inr h
theorem ex1_seq {K : PySem.W.Frag} {H H' : Hp} {p a : Addr} {xs : List V} (n : a ≠ p) (x : Ex1 p H H') (h : SqL K H a xs) : SqL K H' a xs := by
  rcases h with (h | ⟨o, h⟩) | h
  · exact .inl (.inl (x _ _ n h))
  · exact .inl (.inr ⟨o, x _ _ n h⟩)
  · exact .inr h
theorem SlabsAt.drawn {K : PySem.W.Frag} {H H' : Hp} {p a : Addr} {S : Int} {ss : List (Nat × Int)} (h : SlabsAt K H a ss) (F : Feed H p S) (n : a ≠ p) (x : Ex1 p H H') : SlabsAt K H' a ss := by
  obtain ⟨bs, h1, h2, h3⟩ := h
  exact ⟨bs, ex1_seq n x h1, h2, fun i b t e1 e2 => ex1_tup F x (h3 i b t e1 e2)⟩
/-- a new object is not p, and was not there before the draws -/
theorem ex1_free {p q : Addr} {H H' : Hp} (x : Ex1 p H H') (n : q ≠ p) (h : H' q = none) : H q = none := by
  cases e : H q with
  | none => rfl
  | some o => rw [x q o n e] at h; cases h
theorem at_list {α : Type} {f : α → V} {xs : List α} {r : Int} (h0 : 0 ≤ r) (h1 : r < xs.length) : ∃ x, x ∈ xs ∧ atI (xs.map f) r = some (f x) := by
  have h2 : r.toNat < xs.length := by omega
  refine ⟨xs[r.toNat], List.getElem_mem h2, ?_⟩
  have e : ((r.toNat : Nat) : Int) = r := by omega
  have z : atI (xs.map f) ((r.toNat : Nat) : Int) = some (f xs[r.toNat]) := atI_nat (by rw [List.getElem?_map, List.getElem?_eq_getElem h2] <;> rfl)
  rw [e] at z
  exact z
end Gd
end

section
set_option Elab.async false
set_option linter.all false
set_option maxRecDepth 100000
set_option maxHeartbeats 4000000
/-! A pen: a list of the cells' list at c, the place of the next one, what is left of a great one. -/
namespace Gd
open PySem PySem.Spec PyProof.Rows L2
def Pen (H : Hp) (l c : Addr) (S : Int) : Prop := ∃ (ns : List Int) (t ov : Int), H l = some (.lst [.ref c, .int t, .int ov]) ∧ H c = some (.lst (ns.map V.int)) ∧ ns.length ≤ 63 ∧ 0 ≤ t ∧ t ≤ S
section
variable {H H' : Hp} {l c q : Addr} {S T : Int} {o : HO}
theorem Pen.le (h : Pen H l c S) (le : S ≤ T) : Pen H l c T := by
  obtain ⟨ns, t, ov, a, b, d, e, f⟩ := h
  exact ⟨ns, t, ov, a, b, d, e, by omega⟩
theorem Pen.apart (h : Pen H l c S) : l ≠ c := by
  obtain ⟨ns, t, ov, a, b, _⟩ := h
  intro e
  rw [e, b] at a
  cases ns with
  | nil => cases a
  | cons x r => cases a
theorem Pen.not (h : Pen H l c S) (n : H q = none) : q ≠ l ∧ q ≠ c := by
  obtain ⟨ns, t, ov, a, b, _⟩ := h
  exact ⟨fun e => (by rw [e, a] at n; cases n), fun e => (by rw [e, b] at n; cases n)⟩
theorem Pen.same (h : Pen H l c S) (s : Same H H') : Pen H' l c S := by
  obtain ⟨ns, t, ov, a, b, d, e, f⟩ := h
  exact ⟨ns, t, ov, s _ _ a, s _ _ b, d, e, f⟩
theorem Pen.off (h : Pen H l c S) (n1 : q ≠ l) (n2 : q ≠ c) : Pen (upd H q o) l c S := by
  obtain ⟨ns, t, ov, a, b, d, e, f⟩ := h
  exact ⟨ns, t, ov, by rw [upd_ne n1.symm]; exact a, by rw [upd_ne n2.symm]; exact b, d, e, f⟩
end
theorem sq_le {t B : Int} (h0 : 0 ≤ t) (h : t ≤ B) : 0 ≤ t * t ∧ t * t ≤ B * B := ⟨Int.mul_nonneg h0 h0, Int.mul_le_mul h h h0 (by omega)⟩
theorem mul_le {x t A B : Int} (hx : 0 ≤ x) (hA : x ≤ A) (h0 : 0 ≤ t) (h : t ≤ B) : 0 ≤ x * t ∧ x * t ≤ A * B := ⟨Int.mul_nonneg hx h0, Int.mul_le_mul hA h h0 (by omega)⟩
def spDraw : Sp := fun vs H Q _ => ∃ (l c : Addr) (m S : Int), vs = [.ref l, .int m] ∧ Pen H l c S ∧ 0 < m ∧ m < 1073741824 ∧ S ≤ 100000 ∧
  ∀ (r : Int) (H' : Hp), 0 ≤ r → r < m → Pen H' l c (S + 1) → Ex1 l H H' → Q (.int r) H'
end Gd
end

section
set_option Elab.async false
set_option linter.all false
set_option maxRecDepth 100000
/-! Methods within a comprehension: what is done may not name the comprehension's own frame. -/
namespace Gd
open PySem PySem.Spec PyProof.Rows L2
section
variable {X : Cx} {o e : Expr} {es : List Expr} {to : TE} {t : TA} {name : Str} {apos cpos : Pos} {T id : String} {r : V → List V → Hp → VK → Prop} {K : PySem.W.Frag}
theorem pe_bmK (K : PySem.W.Frag) (r : V → List V → Hp → VK → Prop) (pa : PlainAttrs T) (slot : Slot T name id) (hty : typeOf (.builtin id) = pure (.type "method_descriptor")) (hm : MtR X id r) (ho : PE X o to) (ha : PA X (e :: es) t) (hK : X.K = K := by rfl)
    (hbase : attributeBase o name X.env (eval o X.env) = eval o X.env := by rfl)
    (hfew : ((backTo cpos (starEach (e :: es) X.env)).all (fun x => !x.1) && (backToKw cpos (keywordEach [] X.env)).all (fun x => x.1.isSome)
      && decide ((e :: es).length + ([] : List Keyword).length + (if ([] : List Keyword).isEmpty then 0 else 1) < 30)) = true := by rfl)
    (hline : (apos.endLine == cpos.line) = true := by rfl) (hs : starEach (e :: es) X.env = (false, eval e X.env) :: starEach es X.env := by rfl) (hplain : (backTo cpos (starEach es X.env)).any (·.1) = false := by rfl) :
    PE X (.Call (.Attribute o name apos) (e :: es) [] cpos) (tBM K T r to t) := by
  subst hK
  exact pe_bm pa slot hty hm ho ha hbase hfew hline hs hplain
theorem pe_tupleOfK (K : PySem.W.Frag) {a : Expr} {ta : TE} {p pos : Pos} (hg : Gl X "tuple") (hm : X.mg "tuple" = none) (ha : PE X a ta) (hK : X.K = K := by rfl) (na : starEach [a] X.env = (false, eval a X.env) :: starEach [] X.env := by rfl) :
    PE X (.Call (.Name "tuple" p) [a] [] pos) (tThen ta (kTup K)) := by
  subst hK
  exact pe_tupleOf hg hm ha na
theorem call_lenK (K : PySem.W.Frag) (hK : X.K = K := by rfl) : CallR X (.builtin "len") (fun xs H Q => ∃ p ys, xs = [V.ref p] ∧ (SqL K H p ys ∨ SqT K H p ys) ∧ Q (.int ys.length) H) := by
  subst hK
  exact call_len_seq
end
end Gd
end

section
set_option Elab.async false
set_option linter.all false
set_option maxRecDepth 100000
set_option maxHeartbeats 4000000
namespace Szg
open PySem PySem.Spec PyProof.Rows L2 Gd
/-! sizes of data -/
structure Sm (w n : Nat) (d : PyData) : Prop where
  lf : d.leavesShort 100 = true
  sh : d.showable = true
  wt : d.weight ≤ w
  dp : d.depth ≤ n
structure Sms (w n : Nat) (ds : List PyData) : Prop where
  lf : PyData.leavesShortAll 100 ds = true
  sh : PyData.showableAll ds = true
  wt : PyData.weightAll ds ≤ w
  dp : PyData.depthAll ds ≤ n
theorem Sm.mono {w n w' n' : Nat} {d : PyData} (h : Sm w n d) (a : w ≤ w') (b : n ≤ n') : Sm w' n' d := ⟨h.lf, h.sh, Nat.le_trans h.wt a, Nat.le_trans h.dp b⟩
theorem Sms.mono {w n w' n' : Nat} {ds : List PyData} (h : Sms w n ds) (a : w ≤ w') (b : n ≤ n') : Sms w' n' ds := ⟨h.lf, h.sh, Nat.le_trans h.wt a, Nat.le_trans h.dp b⟩
theorem Sms.nil {n : Nat} : Sms 0 n [] := ⟨rfl, rfl, Nat.le_refl _, Nat.zero_le _⟩
theorem Sms.cons {w v n : Nat} {d : PyData} {ds : List PyData} (h : Sm w n d) (g : Sms v n ds) : Sms (w + 1 + v) n (d :: ds) := by
  refine ⟨?_, ?_, ?_, ?_⟩
  · simp only [PyData.leavesShortAll, h.lf, g.lf, Bool.and_self]
  · simp only [PyData.showableAll, h.sh, g.sh, Bool.and_self]
  · have := h.wt
    have := g.wt
    simp only [PyData.weightAll]
    omega
  · have := h.dp
    have := g.dp
    simp only [PyData.depthAll]
    omega
theorem Sms.tup {w n : Nat} {ds : List PyData} (g : Sms w n ds) : Sm (w + 1) (n + 1) (.tuple ds) := by
  refine ⟨by simp only [PyData.leavesShort, g.lf], by simp only [PyData.showable, g.sh], ?_, ?_⟩
  · have := g.wt
    simp only [PyData.weight]
    omega
  · have := g.dp
    simp only [PyData.depth]
    omega
theorem Sms.lst {w n : Nat} {ds : List PyData} (g : Sms w n ds) : Sm (w + 1) (n + 1) (.list ds) := by
  refine ⟨by simp only [PyData.leavesShort, g.lf], by simp only [PyData.showable, g.sh], ?_, ?_⟩
  · have := g.wt
    simp only [PyData.weight]
    omega
  · have := g.dp
    simp only [PyData.depth]
    omega
theorem Sm.shown {w n : Nat} {d : PyData} (h : Sm w n d) (a : w ≤ 160000) (b : n ≤ 60) : d.showable = true ∧ d.shown.length ≤ sizeLine ∧ d.depth ≤ 60 := by
  have x := PyData.shown_le 100 (by decide) d h.lf
  have y := h.wt
  have z : sizeLine = 16777216 := rfl
  exact ⟨h.sh, by omega, Nat.le_trans h.dp b⟩
theorem sm_none : Sm 5 0 .none := ⟨rfl, rfl, by decide, by decide⟩
theorem sm_bool (b : Bool) : Sm 5 0 (.bool b) := by cases b <;> exact ⟨rfl, rfl, by decide, by decide⟩
theorem int_log {i : Int} (h : i.natAbs ≤ 10 ^ 62) : i.natAbs.log2 < 207 := by
  by_cases z : i.natAbs = 0
  · rw [z]; decide
  · exact (Nat.log2_lt z).mpr (Nat.lt_of_le_of_lt h (by decide +kernel))
theorem sm_int {i : Int} (h : i.natAbs ≤ 10 ^ 62) : Sm 212 0 (.int i) := by
  have h1 : i.natAbs < 10 ^ 63 := Nat.lt_of_le_of_lt h (by decide)
  have hl := int_log h
  refine ⟨?_, ?_, ?_, Nat.le_refl _⟩
  · have e := int_text_length_le10 (k := 63) (by decide) h1
    have e2 : (PyData.int i).shown.length = (toString i).length := by
      show (Str.ofString (toString i)).length = _
      rw [PySem.ofString_length]
    simp only [PyData.leavesShort, decide_eq_true_eq]
    omega
  · have : i.natAbs.log2 < 1920 := by omega
    simpa [PyData.showable] using this
  · simp only [PyData.weight]
    split <;> omega
/-- a plain text: codes under 128, no longer than 30 -/
def Pl (s : Str) : Prop := (∀ c ∈ s.cps.toList, c < 128) ∧ s.length ≤ 30
theorem sm_str {s : Str} (h : Pl s) : Sm 30 0 (.str s) := by
  refine ⟨?_, ?_, ?_, Nat.le_refl _⟩
  · simp only [PyData.leavesShort, List.all_eq_true, decide_eq_true_eq]
    intro c hc
    exact Nat.lt_of_lt_of_le (h.1 c hc) (by decide)
  · simp [PyData.showable]
  · have w : (PyData.str s).weight = s.length := by simp only [PyData.weight]; rfl
    have := h.2
    omega
theorem Sms.all {w n : Nat} {ds : List PyData} (h : ∀ d ∈ ds, Sm w n d) : Sms ((w + 1) * ds.length) n ds := by
  induction ds with
  | nil => exact Sms.nil
  | cons d ds ih =>
    refine (Sms.cons (h d (by simp)) (ih fun e m => h e (by simp [m]))).mono ?_ (Nat.le_refl _)
    rw [List.length_cons, Nat.mul_add]
    omega
end Szg
end

section
set_option Elab.async false
set_option linter.all false
set_option maxRecDepth 100000
set_option maxHeartbeats 4000000
/-! zip(t, l): a tuple beside a list. -/
namespace Gd
open PySem PySem.Spec PyProof.Rows L2

/-- the tuple at a, the list at b, as they stand at each turn -/
def ItTL (K : PySem.W.Frag) (a b : Addr) : It where
  go i H := ∃ (xs ys : List V) (x y : V), SqT K H a xs ∧ SqL K H b ys ∧ xs[i]? = some x ∧ ys[i]? = some y
  yld i H v H' := ∃ T x y, v = .ref T ∧ H T = none ∧ H' = upd H T (.tup [x, y]) ∧ (∀ xs, SqT K H a xs → xs[i]? = some x) ∧ ∀ ys, SqL K H b ys → ys[i]? = some y
  stop i H := ∃ xs ys : List V, SqT K H a xs ∧ SqL K H b ys ∧ ys.length = i ∧ xs.length = i

theorem apN {a b : Nat} (h : ¬ a = b) : (a : Addr) ≠ (b : Addr) := h
theorem apL {x a b : Nat} (h1 : ¬ x = a) (h2 : ¬ x = b) : (x : Addr) ∉ ([a, b] : List Addr) := by
  intro h
  rcases List.mem_cons.mp h with h | h
  · exact h1 h
  · rcases List.mem_cons.mp h with h | h
    · exact h2 h
    · cases h
/-- the five cells of such a zip, the first at n -/
def five (n : Nat) : List Addr := [n + 4, n + 2, n + 3, n, n + 1]
theorem mem5 {n c : Nat} (h : c ∈ five n) : n ≤ c ∧ c < n + 5 := by
  simp only [five, List.mem_cons, List.not_mem_nil, or_false] at h
  omega
theorem in5 {n c : Nat} (h : n ≤ c) (h' : c < n + 5) : c ∈ five n := by
  simp only [five, List.mem_cons, List.not_mem_nil, or_false]
  omega
theorem sep5 {n a b : Nat} (ha : a < n) (hb : b < n) : ZipSep2 (n + 4) (n + 2) (n + 3) n (n + 1) [n, a] [n + 1, b] := by
  constructor
  · exact apN (by omega)
  · exact apN (by omega)
  · exact apN (by omega)
  · exact apN (by omega)
  · simp
  · exact apL (by omega) (by omega)
  · exact apL (by omega) (by omega)
  · exact apN (by omega)
  · simp
  · exact apL (by omega) (by omega)
  · exact apL (by omega) (by omega)
  · exact apL (by omega) (by omega)
  · exact apL (by omega) (by omega)
def St5 (n a b : Nat) (i : Nat) (h : Heap) : Prop :=
  IsZip h (n + 4) (n + 2) (n + 3) .none ∧ IsTupOf2 h (n + 2) (.ref n) (.ref (n + 1)) ∧ (∃ x y, IsTupOf2 h (n + 3) x y) ∧
    h.IsTupleIter n a i ∧ h.IsListIter (n + 1) b i ∧ a < n ∧ b < n ∧ n + 5 ≤ h.objs.size
theorem st5_obj {n a b i : Nat} {h : Heap} (st : St5 n a b i h) {c : Addr} (hc : c ∈ five n) : ∃ o, h.get? c = some o ∧ ∀ v, o.data ≠ .cell v := by
  obtain ⟨hz, hi, ⟨x, y, ho⟩, ⟨o1, e1, _, d1⟩, ⟨o2, e2, _, d2⟩, _⟩ := st
  simp only [five, List.mem_cons, List.not_mem_nil, or_false] at hc
  rcases hc with rfl | rfl | rfl | rfl | rfl
  · exact ⟨_, hz, fun v z => nomatch z⟩
  · exact ⟨_, hi, fun v z => nomatch z⟩
  · exact ⟨_, ho, fun v z => nomatch z⟩
  · exact ⟨o1, e1, fun v z => by rw [d1] at z; cases z⟩
  · exact ⟨o2, e2, fun v z => by rw [d2] at z; cases z⟩
theorem st5_keep {n a b i : Nat} {h h' : Heap} (st : St5 n a b i h) (hs : n + 5 ≤ h'.objs.size) (k : ∀ c ∈ five n, ∀ o, h.get? c = some o → h'.get? c = some o) : St5 n a b i h' := by
  obtain ⟨hz, hi, ⟨x, y, ho⟩, h1, h2, la, lb, _⟩ := st
  have m : ∀ j, j < 5 → n + j ∈ five n := fun j hj => in5 (by omega) (by omega)
  exact ⟨k _ (m 4 (by omega)) _ hz, k _ (m 2 (by omega)) _ hi, ⟨x, y, k _ (m 3 (by omega)) _ ho⟩, h1.at fun o e => k n (m 0 (by omega)) o e, h2.at fun o e => k _ (m 1 (by omega)) o e, la, lb, hs⟩
theorem size_of_get {h : Heap} {n : Nat} {o : Obj} (e : h.get? (n + 4) = some o) : n + 5 ≤ h.objs.size := Heap.lt_size e

theorem turn_TL {P : Program} {w : World} {K : PySem.W.Frag} {elts : List Expr} {kk : Nat} {tpos : Pos} {a b n : Addr} :
    Turn P w K (.Tuple elts kk tpos) (ItTL K a b) (five n) (n + 4) (St5 n a b) where
  mem := in5 (by omega) (by omega)
  obj := fun i h st c hc => st5_obj st hc
  keep := fun i h h' st k => by
    obtain ⟨o, e⟩ : ∃ o, h.get? (n + 4) = some o := ⟨_, st.1⟩
    exact st5_keep st (size_of_get (k _ (in5 (by omega) (by omega)) _ e)) k
  item := by
    intro X hP hw hK hc i pins s σ H E I hf st hg
    subst hP hw hK
    have st0 := st
    obtain ⟨hz, hi, ⟨x0, y0, ho⟩, h1, h2, la, lb, _⟩ := st
    obtain ⟨xs, ys, x, y, qx, qy, hx, hy⟩ := hg
    obtain ⟨as, rv, p, _⟩ := I.tuple qx
    obtain ⟨bs, rv2, p2, _⟩ := I.list qy
    obtain ⟨u, hu, ru⟩ := rv.get hx
    obtain ⟨u2, hu2, ru2⟩ := rv2.get hy
    have hh := I.ok.hd hc
    have hh1 : X.A.in1.handled = none := hh
    have hia : i < as.toArray.size := by
      rw [List.size_toArray]
      exact (List.getElem?_eq_some_iff.mp hu).1
    have hib : i < bs.toArray.size := by
      rw [List.size_toArray]
      exact (List.getElem?_eq_some_iff.mp hu2).1
    refine wpAny_pyNext_zipD2_item (sep5 la lb) (.tuple hh1 n a (Nat.ne_of_lt la) as.toArray) (.list hh1 (n + 1) b (apN (by omega)) bs.toArray) hz hi ho ⟨h1, p⟩ ⟨h2, p2.isList⟩ hia hib ?_
    intro x1 x2 h' tk e1 e2 z' o' g1 g2 hT hsz hk
    have eu : x1 = u := by
      have : as.toArray[i]? = some u := by simpa using hu
      exact Option.some.inj (e1.symm.trans this)
    have eu2 : x2 = u2 := by
      have : bs.toArray[i]? = some u2 := by simpa using hu2
      exact Option.some.inj (e2.symm.trans this)
    subst eu eu2
    have old : ∀ {c o}, s.heap.get? c = some o → c ≠ s.heap.objs.size := fun e => Nat.ne_of_lt (Heap.lt_size e)
    refine ⟨_, rfl, wpAny_letOwnedTupleGo_zip z' fun h3 z3 sb => ?_⟩
    have stay : ∀ c o, c ∉ five n → s.heap.get? c = some o → h3.get? c = some o := fun c o nc e =>
      (sb.2 c (fun q => nc (q ▸ in5 (by omega) (by omega)))).trans (hk c o (fun q => nc (q ▸ in5 (by omega) (by omega))) (fun q => nc (q ▸ in5 (by omega) (by omega)))
        (fun q => nc (q ▸ in5 (by omega) (by omega))) (fun q => nc (q ▸ in5 (by omega) (by omega))) e)
    have t3 : h3.get? s.heap.objs.size = some { cls := .type "tuple", data := .seq #[x1, x2] } := (sb.2 _ (old hz).symm).trans hT
    have fine : ObjOk X.prog X.w (upd H s.heap.objs.size (.tup [x, y])) h3 s.heap.objs.size (.tup [x, y]) :=
      ⟨by show 2 ≤ sizeLine; decide, [x1, x2], .cons ru (.cons ru2 .nil), ⟨_, t3, rfl, _, rfl⟩⟩
    have I3 := I.turnedNew (t' := tk) (ch := five n) stay hf (Nat.le_refl _) fine
    have sz : h3.objs.size = h'.objs.size := sb.1
    have sz2 : n + 5 ≤ s.heap.objs.size := size_of_get hz
    refine ⟨.ref s.heap.objs.size, _, I3, rfl, ⟨_, x, y, rfl, I.hok.fresh (Nat.le_refl _), rfl, fun l hl => ?_, fun l hl => ?_⟩, ⟨z3, ?_, ⟨x1, x2, ?_⟩, ?_, ?_, la, lb, ?_⟩, fun c hcm => ?_⟩
    · rw [I.tuple_inj hl qx]; exact hx
    · rw [I.list_inj hl qy]; exact hy
    · exact (sb.2 _ (apN (by omega))).trans (hk _ _ (apN (by omega)) (apN (by omega)) (apN (by omega)) (apN (by omega)) hi)
    · exact (sb.2 _ (apN (by omega))).trans o'
    · exact g1.1.at fun o q => (sb.2 _ (apN (by omega))).trans q
    · exact g2.1.at fun o q => (sb.2 _ (apN (by omega))).trans q
    · rw [sz, hsz]
      omega
    · have := (mem5 hcm).2
      rw [upd_ne (apN (by omega))]
      exact (hf c hcm).1
  done := by
    intro X hP hw hK hc i pins s σ H E I hf st hg
    subst hP hw hK
    obtain ⟨hz, hi, ⟨x0, y0, ho⟩, h1, h2, la, lb, _⟩ := st
    obtain ⟨xs, ys, qx, qy, ey, ex⟩ := hg
    obtain ⟨as, rv, p, _⟩ := I.tuple qx
    obtain ⟨bs, rv2, p2, _⟩ := I.list qy
    have l1 := rv.length
    have l2 := rv2.length
    have hh := I.ok.hd hc
    have hh1 : X.A.in1.handled = none := hh
    have sa : as.toArray.size = i := by rw [List.size_toArray]; omega
    have sb : bs.toArray.size = i := by rw [List.size_toArray]; omega
    refine wpAny_pyNext_zipD2_end (sep5 la lb) (.tuple hh1 n a (Nat.ne_of_lt la) as.toArray) (.list hh1 (n + 1) b (apN (by omega)) bs.toArray) hz hi ho ⟨h1, p⟩ ⟨h2, p2.isList⟩ (by omega) (by omega) (by omega) ?_
    intro h' tk hk
    refine ⟨rfl, I.turnedL (t' := tk) (ch := five n) (fun c o nc e => ?_) hf⟩
    exact hk c o (fun q => nc (q ▸ in5 (by omega) (by omega))) (fun q => nc (q ▸ in5 (by omega) (by omega))) (fun q => nc (q ▸ in5 (by omega) (by omega))) (fun q => nc (q ▸ in5 (by omega) (by omega))) e
  self := fun A i s Q E st h => wpAny_pyIter_zip st.1 h

def iTL (K : PySem.W.Frag) (ta : TA) : TI := fun σ H R => ta σ H fun vs H1 => ∃ a b xs ys, vs = [.ref a, .ref b] ∧ SqT K H1 a xs ∧ SqL K H1 b ys ∧ xs.length = ys.length ∧ R (ItTL K a b) H1
theorem pi_TL {X : Cx} {e e2 : Expr} {ta : TA} {p pos tpos : Pos} {elts : List Expr} {kk : Nat} (hg : Gl X "zip") (hm : X.mg "zip" = none) (ha : PA X [e, e2] ta)
    (hs : starEach [e, e2] X.env = (false, eval e X.env) :: starEach [e2] X.env := by rfl) (hpl : (backTo pos (starEach [e2] X.env)).any (·.1) = false := by rfl) :
    PI X (.Tuple elts kk tpos) (.Call (.Name "zip" p) [e, e2] [] pos) (iTL X.K ta) := by
  refine ⟨fun pins s σ H R I h => Call_ (ld_blt I hg hm PyProof.Rows.boot_zip (PyProof.Rows.callWith_type1 (thn (ha.run pos pins s σ H _ I h) ?_) hs hpl))⟩
  rintro us s1 ⟨vs, H1, J, r, a, b, xs, ys, rfl, qx, qy, hl, q⟩
  obtain ⟨u1, u2, rfl, r1, r2⟩ := vals2 r
  cases r1
  cases r2
  obtain ⟨as, rv, p1, _⟩ := J.tuple qx
  obtain ⟨bs, rv2, p2, _⟩ := J.list qy
  have la : a < s1.heap.objs.size := by
    obtain ⟨o, e, _⟩ := id p1
    exact Heap.lt_size e
  refine zip_begins2 (begins_tuple a as.toArray) (begins_list b bs.toArray) p1 p2.isList ?_
  intro h' hz hi ho g1 g2 hsz hk
  refine wpAny_pyIter_zip hz ?_
  refine ⟨s1.heap.objs.size + 4, five s1.heap.objs.size, _, _, H1, rfl, J.kept (t' := s1.toks) hk, turn_TL (a := a) (b := b), ?_, fun c hc => ?_, q⟩
  · exact ⟨hz, hi, ⟨_, _, ho⟩, ⟨_, g1, rfl, rfl⟩, ⟨_, g2, rfl, rfl⟩, la, p2.lt, by rw [hsz]; exact Nat.le_refl _⟩
  · have hle := (mem5 hc).1
    exact (J.kept (t' := s1.toks) (fun _ _ z => z)).fpOk hle (J.hok.fresh hle)
end Gd
end

section
set_option Elab.async false
set_option linter.all false
set_option maxRecDepth 100000
set_option maxHeartbeats 4000000
/-! enumerate(t), t a tuple. -/
namespace Gd
open PySem PySem.Spec PyProof.Rows L2
/-- the tuple at a, numbered -/
def ItET (K : PySem.W.Frag) (a : Addr) : It where
  go i H := ∃ (xs : List V) (x : V), SqT K H a xs ∧ xs[i]? = some x
  yld i H v H' := ∃ T x, v = .ref T ∧ H T = none ∧ H' = upd H T (.tup [.int (i : Nat), x]) ∧ ∀ xs, SqT K H a xs → xs[i]? = some x
  stop i H := ∃ xs : List V, SqT K H a xs ∧ xs.length = i
/-- its two cells, the first at n -/
def duo (n : Nat) : List Addr := [n + 1, n]
theorem mem2 {n c : Nat} (h : c ∈ duo n) : n ≤ c ∧ c < n + 2 := by
  simp only [duo, List.mem_cons, List.not_mem_nil, or_false] at h
  omega
theorem in2 {n c : Nat} (h : n ≤ c) (h' : c < n + 2) : c ∈ duo n := by
  simp only [duo, List.mem_cons, List.not_mem_nil, or_false]
  omega
def StE (n a : Nat) (i : Nat) (h : Heap) : Prop := (∃ old, IsEnum h (n + 1) n ((i : Nat) : Int) old) ∧ h.IsTupleIter n a i ∧ a < n ∧ n + 2 ≤ h.objs.size
theorem size2 {h : Heap} {n : Nat} {o : Obj} (e : h.get? (n + 1) = some o) : n + 2 ≤ h.objs.size := Heap.lt_size e
theorem turn_ET {P : Program} {w : World} {K : PySem.W.Frag} {elts : List Expr} {kk : Nat} {tpos : Pos} {a n : Addr} :
    Turn P w K (.Tuple elts kk tpos) (ItET K a) (duo n) (n + 1) (StE n a) where
  mem := in2 (by omega) (by omega)
  obj := fun i h st c hc => by
    obtain ⟨⟨old, e1⟩, ⟨o, e2, _, d2⟩, _⟩ := st
    simp only [duo, List.mem_cons, List.not_mem_nil, or_false] at hc
    rcases hc with rfl | rfl
    · exact ⟨_, e1, fun v z => nomatch z⟩
    · exact ⟨o, e2, fun v z => by rw [d2] at z; cases z⟩
  keep := fun i h h' st k => by
    obtain ⟨⟨old, e1⟩, t1, la, _⟩ := st
    have e3 := k (n + 1) (in2 (by omega) (by omega)) _ e1
    exact ⟨⟨old, e3⟩, t1.at fun o e => k n (in2 (by omega) (by omega)) o e, la, size2 e3⟩
  item := by
    intro X hP hw hK hc i pins s σ H E I hf st hg
    subst hP hw hK
    obtain ⟨⟨old, e1⟩, t1, la, sz0⟩ := st
    obtain ⟨xs, x, qx, hx⟩ := hg
    obtain ⟨as, rv, p, _⟩ := I.tuple qx
    obtain ⟨u, hu, ru⟩ := rv.get hx
    have hh1 : X.A.in1.handled = none := I.ok.hd hc
    have hia : i < as.toArray.size := by
      rw [List.size_toArray]
      exact (List.getElem?_eq_some_iff.mp hu).1
    have nin : (n + 1 : Nat) ∉ ([n, a] : List Addr) := apL (by omega) (by omega)
    refine wpAny_pyNext_enum_itemD (.tuple hh1 n a (Nat.ne_of_lt la) as.toArray) e1 ⟨t1, p⟩ hia (apN (by omega)) nin ?_
    intro y h' tk ey z' g1 hT hsz hk
    have eu : y = u := by
      have : as.toArray[i]? = some u := by simpa using hu
      exact Option.some.inj (ey.symm.trans this)
    subst eu
    refine ⟨_, rfl, wpAny_letOwnedTupleGo_enum z' fun h3 z3 sb => ?_⟩
    have old3 : ∀ {c o}, s.heap.get? c = some o → c ≠ s.heap.objs.size := fun e => Nat.ne_of_lt (Heap.lt_size e)
    have stay : ∀ c o, c ∉ duo n → s.heap.get? c = some o → h3.get? c = some o := fun c o nc e =>
      (sb.2 c (fun q => nc (q ▸ in2 (by omega) (by omega)))).trans (hk c o (fun q => nc (q ▸ in2 (by omega) (by omega))) (fun q => nc (q ▸ in2 (by omega) (by omega))) e)
    have t3 : h3.get? s.heap.objs.size = some { cls := .type "tuple", data := .seq #[.int i tk, y] } := (sb.2 _ (old3 e1).symm).trans hT
    have fine : ObjOk X.prog X.w (upd H s.heap.objs.size (.tup [.int (i : Nat), x])) h3 s.heap.objs.size (.tup [.int (i : Nat), x]) :=
      ⟨by show 2 ≤ sizeLine; decide, [.int i tk, y], .cons ⟨_, rfl⟩ (.cons ru .nil), ⟨_, t3, rfl, _, rfl⟩⟩
    have I3 := I.turnedNew (t' := tk + 1) (ch := duo n) stay hf (Nat.le_refl _) fine
    have sz : h3.objs.size = h'.objs.size := sb.1
    refine ⟨.ref s.heap.objs.size, _, I3, rfl, ⟨_, x, rfl, I.hok.fresh (Nat.le_refl _), rfl, fun l hl => ?_⟩, ⟨⟨y, ?_⟩, ?_, la, ?_⟩, fun c hcm => ?_⟩
    · rw [I.tuple_inj hl qx]; exact hx
    · rw [show ((i + 1 : Nat) : Int) = (i : Int) + 1 by omega]
      exact z3
    · exact g1.1.at fun o q => (sb.2 _ (apN (by omega))).trans q
    · rw [sz, hsz]
      omega
    · have := (mem2 hcm).2
      rw [upd_ne (apN (by omega))]
      exact (hf c hcm).1
  done := by
    intro X hP hw hK hc i pins s σ H E I hf st hg
    subst hP hw hK
    obtain ⟨⟨old, e1⟩, t1, la, sz0⟩ := st
    obtain ⟨xs, qx, ex⟩ := hg
    obtain ⟨as, rv, p, _⟩ := I.tuple qx
    have l1 := rv.length
    have hh1 : X.A.in1.handled = none := I.ok.hd hc
    have sa : as.toArray.size = i := by rw [List.size_toArray]; omega
    subst sa
    refine wpAny_pyNext_enum_endD (.tuple hh1 n a (Nat.ne_of_lt la) as.toArray) e1 ⟨t1, p⟩ ?_
    intro h' hk
    exact ⟨rfl, I.turnedL (t' := s.toks) (ch := duo n) (fun c o nc e => hk c o (fun q => nc (q ▸ in2 (by omega) (by omega))) e) hf⟩
  self := fun A i s Q E st h => by
    obtain ⟨⟨old, e1⟩, _⟩ := st
    exact wpAny_pyIter_enum e1 h

/-! making it -/
abbrev cellE (n : Nat) : Obj := { cls := .type "enumerate", data := .fields #[.none, .bool false, .ref n, rawInt 0, .none, .none] }
theorem make_ET {v : Value} {o : Obj} {Z : Heap → Prop} (B : Begins v o Z) : Meets (Builtin.«enumerate.__new__» ⟨[.type "enumerate", v], []⟩)
    (fun _ R s => Z s.heap ∧ R (.ok (.ret (.ref (s.heap.push o).objs.size))) { s with heap := (s.heap.push o).push (cellE s.heap.objs.size) }) := by
  refine .of_wp fun prog w A R s z => ?_
  obtain ⟨hp, g, d, tk, os⟩ := s
  have sub := sub_enumerate
  have go : ∀ {A' : Around} {F Q : Value → Shared → Prop}, Q (.ref hp.objs.size) ⟨hp.push o, g, d, tk, os⟩ → wpAny (model prog w) A' (pyIter v) Q F ⟨hp, g, d, tk, os⟩ := fun y => B.iter prog w _ _ ⟨hp, g, d, tk, os⟩ _ z.1 y
  wp_walk using go
  refine wpAny_stack_any fun stk => wpAny_pure ?_
  split
  · rename_i c _ _ _ _ _
    cases (c == Value.type "enumerate") <;> (wp_walk using go; exact ⟨_, rfl, z.2⟩)
  · wp_walk using go
    exact ⟨_, rfl, z.2⟩
theorem call_ET {prog : Program} {w : World} {A : Around} {G Q : Value → Shared → Prop} {s : Shared} {v : Value} {o : Obj} {Z : Heap → Prop} (B : Begins v o Z) (z : Z s.heap)
    (q : ∀ h', IsEnum h' (s.heap.objs.size + 1) s.heap.objs.size 0 .none → h'.get? s.heap.objs.size = some o → h'.objs.size = s.heap.objs.size + 2 → (∀ b o', s.heap.get? b = some o' → h'.get? b = some o') →
      Q (.ref (s.heap.objs.size + 1)) { s with heap := h' }) : wpAny (model prog w) A (call (.type "enumerate") [v]) Q G s := by
  have e1 : (s.heap.push o).objs.size = s.heap.objs.size + 1 := Heap.size_push ..
  have e2 : IsEnum ((s.heap.push o).push (cellE s.heap.objs.size)) (s.heap.objs.size + 1) s.heap.objs.size 0 .none := by
    rw [← e1]
    exact Heap.get?_push_size (s.heap.push o) (o := cellE s.heap.objs.size) rfl
  refine callType_new F.called_enumerate (by decide) (F.typeCall_enumerate_1 _) (F.newCall_enumerate_1 _) (fun obj => F.args_object_init_2 obj _) F.entry_enumerate_new (make_ET B) ⟨z, ?_⟩
  show _ ∧ _
  rw [e1]
  exact ⟨⟨_, e2, rfl⟩, q _ e2 (Heap.get?_push_of_some _ (Heap.get?_push_size _ B.free)) (by rw [Heap.size_push, e1]) fun b o' y => Heap.get?_push_of_some _ (Heap.get?_push_of_some _ y)⟩
def iET (K : PySem.W.Frag) (ta : TA) : TI := fun σ H R => ta σ H fun vs H1 => ∃ a xs, vs = [.ref a] ∧ SqT K H1 a xs ∧ R (ItET K a) H1
theorem pi_ET {X : Cx} {e : Expr} {ta : TA} {p pos tpos : Pos} {elts : List Expr} {kk : Nat} (hg : Gl X "enumerate") (hm : X.mg "enumerate" = none) (ha : PA X [e] ta) (hs : starEach [e] X.env = [(false, eval e X.env)] := by rfl) :
    PI X (.Tuple elts kk tpos) (.Call (.Name "enumerate" p) [e] [] pos) (iET X.K ta) := by
  refine ⟨fun pins s σ H R I h => Call_ (ld_blt I hg hm boot_enumerate (PyProof.Rows.callWith_type1 (thn (ha.run pos pins s σ H _ I h) ?_) hs rfl))⟩
  rintro us s1 ⟨vs, H1, J, r, a, xs, rfl, qx, q⟩
  obtain ⟨u1, rfl, r1⟩ := vals1 r
  cases r1
  obtain ⟨as, rv, p1, _⟩ := J.tuple qx
  have la : a < s1.heap.objs.size := by
    obtain ⟨o, e, _⟩ := id p1
    exact Heap.lt_size e
  refine call_ET (begins_tuple a as.toArray) p1 ?_
  intro h' he g1 hsz hk
  refine wpAny_pyIter_enum he ?_
  refine ⟨s1.heap.objs.size + 1, duo s1.heap.objs.size, _, _, H1, rfl, J.kept (t' := s1.toks) hk, turn_ET (a := a), ?_, fun c hc => ?_, q⟩
  · exact ⟨⟨_, he⟩, ⟨_, g1, rfl, rfl⟩, la, by rw [hsz]; exact Nat.le_refl _⟩
  · have hle := (mem2 hc).1
    exact (J.kept (t' := s1.toks) (fun _ _ z => z)).fpOk hle (J.hok.fresh hle)
theorem walk_ET {K : PySem.W.Frag} {a : Addr} {xs : List V} : Walk (ItET K a) xs.length (fun H => SqT K H a xs) (YPair (fun i => some (.int (i : Nat))) (fun i => xs[i]?)) := by
  refine ⟨fun i _ hi q => ⟨xs, xs[i], q, by simp [hi]⟩, fun _ q => ⟨xs, q, rfl⟩, fun i H v H' _ q y => ?_⟩
  obtain ⟨T, x, h1, h2, h3, h4⟩ := y
  exact ⟨T, .int (i : Nat), x, h1, h2, h3, rfl, h4 xs q⟩
/-! is a truth, of a truth or None -/
theorem op_is_fl {X : Cx} : OpR X (compareOp .Is) (fun x y H Q => ∃ b, y = .bl b ∧ ((∃ a, x = .bl a ∧ Q (.bl (decide (a = b))) H) ∨ (x = .non ∧ Q (.bl false) H))) := by
  intro pins s σ H x y v u Q I rx ry h
  obtain ⟨b, rfl, ⟨a, rfl, q⟩ | ⟨rfl, q⟩⟩ := h
  · exact op_is_bl pins s σ H _ _ v u Q I rx ry ⟨a, b, rfl, rfl, q⟩
  · cases rx
    cases (show u = Value.bool b from ry)
    exact wpAny_is_other rfl (fun z => nomatch z) ⟨.bl false, H, I, rfl, q⟩
theorem op_isnot_fl {X : Cx} : OpR X (compareOp .IsNot) (fun x y H Q => ∃ b, y = .bl b ∧ ((∃ a, x = .bl a ∧ Q (.bl (!decide (a = b))) H) ∨ (x = .non ∧ Q (.bl true) H))) := by
  intro pins s σ H x y v u Q I rx ry h
  obtain ⟨b, rfl, ⟨a, rfl, q⟩ | ⟨rfl, q⟩⟩ := h
  · exact op_isnot_bl pins s σ H _ _ v u Q I rx ry ⟨a, b, rfl, rfl, q⟩
  · cases rx
    cases (show u = Value.bool b from ry)
    exact wpAny_isNot_other rfl (fun z => nomatch z) ⟨.bl true, H, I, rfl, q⟩
end Gd
end

section
set_option Elab.async false
set_option linter.all false
set_option maxRecDepth 100000
set_option maxHeartbeats 4000000
/-! sorted(xs) of data of one form: tuples of texts, numbers, within tuples. -/
namespace Gd
open PySem PySem.Spec PyProof.Rows L2 PySem.W
def RD (K : PySem.W.Frag) (H : Hp) (u : Value) (d : PyData) : Prop := ∃ x, RelV x u ∧ Dp K H x d
section
variable {K : PySem.W.Frag} {H : Hp}
theorem each_of : ∀ {xs : List V} {us : List Value} {ds : List PyData}, Vals xs us → DpAll K H xs ds → EachIs (RD K H) us ds
  | _, _, _, .nil, h => by
    cases h
    exact .nil
  | _, _, _, .cons r rs, h => by
    cases h with
    | cons a b => exact .cons ⟨_, r, a⟩ (each_of rs b)
theorem of_each : ∀ {us : List Value} {ds : List PyData}, EachIs (RD K H) us ds → ∃ xs, Vals xs us ∧ DpAll K H xs ds
  | _, _, .nil => ⟨[], .nil, .nil⟩
  | _, _, .cons ⟨x, r, a⟩ h => by
    obtain ⟨xs, rs, b⟩ := of_each h
    exact ⟨x :: xs, .cons r rs, .cons a b⟩
end
/-- the order in which sorted tells -/
def told (ds : List PyData) : List PyData := ds.mergeSort (dataLe false id)
def rSortD (K : PySem.W.Frag) : List V → Hp → VK → Prop := fun xs H Q => ∃ (a : Addr) (vs : List V) (ds : List PyData), xs = [.ref a] ∧ SqL K H a vs ∧ DpAll K H vs ds ∧ AllAlike ds ∧ Sortable ds ∧ ds.length ≤ 1000 ∧ (∀ d ∈ ds, d.depth ≤ 50) ∧
  ∀ (us : List V) (p : Addr), H p = none → DpAll K H us (told ds) → Q (.ref p) (upd H p (.lst us))
theorem call_sortedD {X : Cx} (hu : X.A.units + 64 < cLine) : CallR X (.builtin "sorted") (rSortD X.K) := by
  intro pins s σ H xs us Q I r h
  obtain ⟨a, vs, ds, rfl, hs, hA, al, so, hz, hd, q⟩ := h
  obtain ⟨u, rfl, ru⟩ := r.one
  cases ru
  obtain ⟨its, rv, hl, _⟩ := I.list hs
  have e := each_of rv hA
  have er : EachIs (fun v b => ∃ as, Reads s.heap v (id b) as) its ds := e.mono fun v d ⟨x, r1, r2⟩ => Dp.reads I d x v r2 r1
  have zl : sizeLine = 16777216 := rfl
  refine sorted_data (enc := id) hl.isList e er (by rw [List.map_id]; exact al) (by rw [List.map_id]; exact so) (by omega) (fun b hb => ?_) fun out hlen eo => ?_
  · have := hd b hb
    show X.A.units + 2 + b.depth < cLine
    omega
  · obtain ⟨ws, r2, A2⟩ := of_each eo
    obtain ⟨ep, he⟩ := sortedAll_at s.heap its (List.toArray out)
    have hw : ws.length ≤ sizeLine := by
      have := r2.length
      omega
    exact ⟨.ref _, upd H (s.heap.objs.size + 1) (.lst ws), I.laid (t' := s.toks) (fun _ _ => sortedAll_old) (Nat.le_succ _) ⟨hw, out, ep, r2, he⟩, rfl, q ws _ (I.hok.fresh (Nat.le_succ _)) A2⟩
end Gd
end

section
set_option Elab.async false
set_option linter.all false
set_option maxRecDepth 100000
set_option maxHeartbeats 4000000
/-! sorted(xs) of data of one form; what holds of each and its data stays so -/
namespace Gd
open PySem PySem.Spec PyProof.Rows L2 PySem.W
def RDZ (K : PySem.W.Frag) (H : Hp) (G : V → PyData → Prop) (u : Value) (d : PyData) : Prop := ∃ x, RelV x u ∧ Dp K H x d ∧ G x d
section
variable {K : PySem.W.Frag} {H : Hp} {G : V → PyData → Prop}
theorem each_ofZ : ∀ {xs : List V} {us : List Value} {ds : List PyData}, Vals xs us → DpAll K H xs ds → EachIs G xs ds → EachIs (RDZ K H G) us ds
  | _, _, _, .nil, h, _ => by
    cases h
    exact .nil
  | _, _, _, .cons r rs, h, g => by
    cases h with
    | cons a b =>
      cases g with
      | cons g1 g2 => exact .cons ⟨_, r, a, g1⟩ (each_ofZ rs b g2)
theorem of_eachZ : ∀ {us : List Value} {ds : List PyData}, EachIs (RDZ K H G) us ds → ∃ xs, Vals xs us ∧ DpAll K H xs ds ∧ EachIs G xs ds
  | _, _, .nil => ⟨[], .nil, .nil, .nil⟩
  | _, _, .cons ⟨x, r, a, g⟩ h => by
    obtain ⟨xs, rs, b, c⟩ := of_eachZ h
    exact ⟨x :: xs, .cons r rs, .cons a b, .cons g c⟩
theorem each_snoc {α β : Type} {R : α → β → Prop} {a : α} {b : β} : ∀ {as : List α} {bs : List β}, EachIs R as bs → R a b → EachIs R (as ++ [a]) (bs ++ [b])
  | _, _, .nil, h => .cons h .nil
  | _, _, .cons x r, h => .cons x (each_snoc r h)
theorem each_at {α β : Type} {R : α → β → Prop} : ∀ {as : List α} {bs : List β} {i : Nat} {a : α}, EachIs R as bs → as[i]? = some a → ∃ b, bs[i]? = some b ∧ R a b
  | _, _, _, _, .nil, e => by simp at e
  | _, _, 0, _, .cons x _, e => by
    cases Option.some.inj e
    exact ⟨_, rfl, x⟩
  | _, _, i + 1, _, .cons _ r, e => each_at (i := i) r e
end
def rSortZ (K : PySem.W.Frag) : List V → Hp → VK → Prop := fun xs H Q => ∃ (a : Addr) (vs : List V) (ds : List PyData) (G : V → PyData → Prop), xs = [.ref a] ∧ SqL K H a vs ∧ DpAll K H vs ds ∧ EachIs G vs ds ∧ AllAlike ds ∧ Sortable ds ∧ ds.length ≤ 1000 ∧ (∀ d ∈ ds, d.depth ≤ 50) ∧
  ∀ (us : List V) (p : Addr), H p = none → DpAll K H us (told ds) → EachIs G us (told ds) → Q (.ref p) (upd H p (.lst us))
theorem call_sortedZ {X : Cx} (hu : X.A.units + 64 < cLine) : CallR X (.builtin "sorted") (rSortZ X.K) := by
  intro pins s σ H xs us Q I r h
  obtain ⟨a, vs, ds, G, rfl, hs, hA, g, al, so, hz, hd, q⟩ := h
  obtain ⟨u, rfl, ru⟩ := r.one
  cases ru
  obtain ⟨its, rv, hl, _⟩ := I.list hs
  have e := each_ofZ rv hA g
  have er : EachIs (fun v b => ∃ as, Reads s.heap v (id b) as) its ds := e.mono fun v d ⟨x, r1, r2, _⟩ => Dp.reads I d x v r2 r1
  have zl : sizeLine = 16777216 := rfl
  refine sorted_data (enc := id) hl.isList e er (by rw [List.map_id]; exact al) (by rw [List.map_id]; exact so) (by omega) (fun b hb => ?_) fun out hlen eo => ?_
  · have := hd b hb
    show X.A.units + 2 + b.depth < cLine
    omega
  · obtain ⟨ws, r2, A2, g2⟩ := of_eachZ eo
    obtain ⟨ep, he⟩ := sortedAll_at s.heap its (List.toArray out)
    have hw : ws.length ≤ sizeLine := by
      have := r2.length
      omega
    exact ⟨.ref _, upd H (s.heap.objs.size + 1) (.lst ws), I.laid (t' := s.toks) (fun _ _ => sortedAll_old) (Nat.le_succ _) ⟨hw, out, ep, r2, he⟩, rfl, q ws _ (I.hok.fresh (Nat.le_succ _)) A2 g2⟩
end Gd
end

section
set_option Elab.async false
set_option linter.all false
set_option maxRecDepth 100000
set_option maxHeartbeats 4000000
/-! Sorted lists of the same things are the same. -/
namespace Gd
open PySem PySem.Spec PyProof.Rows L2 PySem.W
theorem perm_sorted {α : Type} {r : α → α → Prop} : ∀ {l u : List α}, l.Perm u → l.Pairwise r → u.Pairwise r → (∀ a ∈ l, ∀ b ∈ l, r a b → r b a → a = b) → l = u
  | [], u, p, _, _, _ => (List.nil_perm.mp p).symm
  | a :: l, [], p, _, _, _ => absurd p.length_eq (by simp)
  | a :: l, b :: u, p, h1, h2, an => by
    have ha : a ∈ b :: u := p.subset (by simp)
    have hb : b ∈ a :: l := p.symm.subset (by simp)
    rw [List.pairwise_cons] at h1 h2
    have e : a = b := by
      rcases List.mem_cons.mp ha with e | ha
      · exact e
      · rcases List.mem_cons.mp hb with e | hb'
        · exact e.symm
        · exact an a (by simp) b hb (h1.1 b hb') (h2.1 a ha)
    subst e
    rw [perm_sorted (List.Perm.cons_inv p) h1.2 h2.2 fun x hx y hy => an x (by simp [hx]) y (by simp [hy])]
theorem le_trans (a b c : PyData) (h1 : dataLe false id a b = true) (h2 : dataLe false id b c = true) : dataLe false id a c = true := by
  have g : ∀ x y : PyData, dataLe false id x y = !dataLt y x := fun _ _ => rfl
  rw [g] at h1 h2 ⊢
  cases h : dataLt c a with
  | false => rfl
  | true =>
    rcases lex_negTrans (O := itemOrd) (keyToks c) (keyToks b) (keyToks a) h with q | q
    · have : dataLt c b = true := q
      rw [this] at h2
      cases h2
    · have : dataLt b a = true := q
      rw [this] at h1
      cases h1
theorem le_total (a b : PyData) : (dataLe false id a b || dataLe false id b a) = true := by
  have g : ∀ x y : PyData, dataLe false id x y = !dataLt y x := fun _ _ => rfl
  rw [g, g]
  cases h : dataLt b a with
  | false => rfl
  | true =>
    cases h2 : dataLt a b with
    | false => rfl
    | true =>
      have := lex_trans (O := itemOrd) (keyToks a) (keyToks b) (keyToks a) h2 h
      rw [lex_irrefl] at this
      cases this
theorem told_sorted (ds : List PyData) : (told ds).Pairwise fun a b => dataLe false id a b = true := List.pairwise_mergeSort le_trans le_total ds
theorem told_perm (ds : List PyData) : (told ds).Perm ds := List.mergeSort_perm ds _
/-- sorted of the same things in another order -/
theorem told_same {ds es : List PyData} (p : ds.Perm es) (an : ∀ a ∈ ds, ∀ b ∈ ds, dataLe false id a b = true → dataLe false id b a = true → a = b) : told ds = told es := by
  refine perm_sorted ((told_perm ds).trans (p.trans (told_perm es).symm)) (told_sorted ds) (told_sorted es) fun a ha b hb => ?_
  exact an a ((told_perm ds).mem_iff.mp ha) b ((told_perm ds).mem_iff.mp hb)
end Gd
end

section
set_option Elab.async false
set_option linter.all false
set_option maxRecDepth 100000
set_option maxHeartbeats 4000000
/-! permutations(xs): what is known of the class. -/
namespace Pm
open PySem PySem.Spec PyProof.Rows L2
theorem own : Manifest.owners.lookup (String.ofList ['s', 'n', 'o', 'i', 't', 'a', 't', 'u', 'm', 'r', 'e', 'p', '.', 's', 'l', 'o', 'o', 't', 'r', 'e', 't', 'i'].reverse) = some Manifest.sig_itertools_permutations := by kernel_rfl
theorem next_slot : Slot "itertools.permutations" "__next__" "itertools.permutations.__next__" := .of (owner := "itertools.permutations") (n := "__next__") (by rw [typeLookup_type, builtinLookup_eq_fast]; kernel_rfl) (by decide +kernel) (by decide +kernel) (by decide +kernel) (.inl (by decide +kernel)) (by rw [isSubtype_type]; kernel_rfl)
theorem next_entry : entryFor table "itertools.permutations.__next__" = some Builtin.«itertools.permutations.__next__» := entryFor_of_tree (by kernel_rfl)
theorem next_args (a : Value) : argsOk "itertools.permutations.__next__" ⟨[a], []⟩ := by unfold argsOk; rw [signature?_of (id := "itertools.permutations.__next__") (n := ['_', '_', 't', 'x', 'e', 'n', '_', '_']) (o := ['s', 'n', 'o', 'i', 't', 'a', 't', 'u', 'm', 'r', 'e', 'p', '.', 's', 'l', 'o', 'o', 't', 'r', 'e', 't', 'i']) (by kernel_rfl) own]; kernel_rfl
theorem new_entry : entryFor table "itertools.permutations.__new__" = some Builtin.«itertools.permutations.__new__» := entryFor_of_tree (by kernel_rfl)
theorem new_type (a : Value) : checkTypeCall "itertools.permutations" ⟨[a], []⟩ = pure () := by kernel_rfl
theorem new_call (a : Value) : checkBuiltinCall "itertools.permutations.__new__" ⟨[.type "itertools.permutations", a], []⟩ = pure () := by kernel_rfl
theorem self_sub : isSubtype (.type "itertools.permutations") (.type "itertools.permutations") = pure true := by rw [isSubtype_type]; kernel_rfl
theorem iter_entry : entryFor table "itertools.permutations.__iter__" = some Builtin.«dict_keyiterator.__iter__» := entryFor_alias (id' := "dict_keyiterator.__iter__") (by kernel_rfl) (by decide +kernel) (by decide +kernel) (by kernel_rfl)
theorem iter_slot : Slot "itertools.permutations" "__iter__" "itertools.permutations.__iter__" := .of (owner := "itertools.permutations") (n := "__iter__") (by rw [typeLookup_type, builtinLookup_eq_fast]; kernel_rfl) (by decide +kernel) (by decide +kernel) (by decide +kernel) (.inl (by decide +kernel)) (by rw [isSubtype_type]; kernel_rfl)
theorem iter_args (a : Value) : argsOk "itertools.permutations.__iter__" ⟨[a], []⟩ := by unfold argsOk; rw [signature?_of (id := "itertools.permutations.__iter__") (n := ['_', '_', 'r', 'e', 't', 'i', '_', '_']) (o := ['s', 'n', 'o', 'i', 't', 'a', 't', 'u', 'm', 'r', 'e', 'p', '.', 's', 'l', 'o', 'o', 't', 'r', 'e', 't', 'i']) (by kernel_rfl) own]; kernel_rfl
theorem init_slot : Slot "itertools.permutations" "__init__" "object.__init__" := .of (owner := "object") (n := "__init__") (by rw [typeLookup_type, builtinLookup_eq_fast]; kernel_rfl) (by decide +kernel) (by decide +kernel) (by decide +kernel) (.inl (by decide +kernel)) (by rw [isSubtype_type]; kernel_rfl)
theorem mro : mroOf (.type "itertools.permutations") = pure [.type "itertools.permutations", .type "object"] := by rw [mroOf_type]; kernel_rfl
theorem new_look : typeLookup (.type "itertools.permutations") "__new__" = pure (some (.builtin "itertools.permutations.__new__")) := by rw [typeLookup_type, builtinLookup_eq_fast]; kernel_rfl
theorem called : TypeCalled "itertools.permutations" "itertools.permutations.__new__" "object.__init__" := ⟨by decide +kernel, by decide +kernel, ⟨_, _, mro⟩, madeBy_type mro new_look (by decide +kernel), by decide +kernel, by rw [isSubtype_type]; kernel_rfl, init_slot⟩
end Pm
end

section
set_option Elab.async false
set_option linter.all false
set_option maxRecDepth 100000
set_option maxHeartbeats 4000000
namespace Pm
open PySem PySem.Spec PyProof.Rows L2
abbrev cellP (b : Addr) (st n : Int) (last : Value) (ks : List Nat) : Obj :=
  { cls := .type "itertools.permutations", data := .fields (Value.ref b :: rawInt st :: rawInt n :: last :: ks.map fun (k : Nat) => rawInt (k : Int)).toArray }
theorem nums_back : ∀ ks : List Nat, (ks.map fun (k : Nat) => rawInt (k : Int)).map (fun | .int n _ => n.toNat | _ => 0) = ks
  | [] => rfl
  | k :: ks => by
    rw [List.map_cons, List.map_cons, nums_back ks]
    rfl
section
variable {prog : Program} {w : World} {A : Around} {E : Value → Shared → Prop} {s : Shared}
theorem int_field {M : Model} {a : Addr} {o : Obj} {vs : Array Value} {i : Nat} {v : Int} {Q : Int → Shared → Prop} (ho : s.heap.get? a = some o) (hd : o.data = .fields vs) (hv : vs[i]? = some (rawInt v)) (h : Q v s) :
    wpAny M A (Builtin.Itertools.itIntField (.ref a) i) Q E s :=
  wpAny_bind (wpAny_field ho hd (x := rawInt v) hv (wpAny_pure h))
theorem nums_from {M : Model} {a b : Addr} {st n : Int} {last : Value} {ks : List Nat} {Q : List Nat → Shared → Prop} (ho : s.heap.get? a = some (cellP b st n last ks)) (h : Q ks s) :
    wpAny M A (Builtin.Itertools.itNumbersFrom (.ref a) 4) Q E s := by
  refine wpAny_bind (wpAny_load ho (wpAny_pure ?_))
  have e : ((ks.map fun (k : Nat) => rawInt (k : Int)).map (fun | .int n _ => n.toNat | _ => 0)) = ks := nums_back ks
  exact e.symm ▸ h
theorem set1 {b : Addr} {st x n : Int} {last : Value} {ks : List Nat} : Obj.mapFields (·.setIfInBounds 1 (rawInt x)) (cellP b st n last ks) = cellP b x n last ks := by
  simp [Obj.mapFields, cellP]
theorem set3 {b : Addr} {st n : Int} {last x : Value} {ks : List Nat} : Obj.mapFields (·.setIfInBounds 3 x) (cellP b st n last ks) = cellP b st n x ks := by
  simp [Obj.mapFields, cellP]
/-- the tuple that is told -/
theorem tell {a b : Addr} {st n : Int} {last : Value} {ks : List Nat} {vs : List Value} {Q : Value → Shared → Prop} (ha : s.heap.get? a = some (cellP b st n last ks)) (hz : vs.length ≤ 1000)
    (h : ∀ h', h'.get? a = some (cellP b st n (.ref s.heap.objs.size) ks) → h'.get? s.heap.objs.size = some { cls := .type "tuple", data := .seq vs.toArray } → h'.objs.size = s.heap.objs.size + 1 →
      (∀ c o, c ≠ a → s.heap.get? c = some o → h'.get? c = some o) → Q (.ref s.heap.objs.size) { s with heap := h' }) :
    wpAny (model prog w) A (do
      let t ← newTuple vs
      let before ← field (.ref a) 3
      setField (.ref a) 3 t
      letGo [before] [t]
      ret t) (fun fin s' => ∃ v, fin = Fin.done (Flow.ret v) ∧ Q v s') E s := by
  have zl : sizeLine = 16777216 := rfl
  refine wpAny_bind (m := newTuple _) (wpAny_newObj_type ?_ (by show vs.toArray.size ≤ sizeLine; rw [List.size_toArray]; omega))
  have g1 := Heap.get?_push_of_some { cls := .type "tuple", data := .seq vs.toArray } ha
  refine wpAny_bind (wpAny_field g1 rfl (x := last) rfl ?_)
  refine wpAny_bind (wpAny_setField g1 rfl (by simp) ?_)
  refine wpAny_bind (wpAny_letGo (wpAny_pure ⟨_, rfl, h _ ?_ ?_ ?_ ?_⟩))
  · rw [Heap.get?_update_self _ g1 rfl, set3]
  · rw [(Heap.SameBut.update ..).2 _ (Nat.ne_of_gt (Heap.lt_size ha))]
    exact Heap.get?_push_size _ rfl
  · rw [Heap.size_after_update, Heap.size_push]
  · intro c o hc e
    rw [(Heap.SameBut.update ..).2 _ hc]
    exact Heap.get?_push_of_some _ e
theorem next0 {a b : Addr} {n : Nat} {ks : List Nat} {items : Array Value} {c0 : Nat} {Q : Value → Shared → Prop} (ha : s.heap.get? a = some (cellP b 0 n .none ks)) (hb : s.heap.get? b = some { cls := .type "tuple", data := .seq items c0 })
    (hn : ks.length ≤ 1000) (h : ∀ h', h'.get? a = some (cellP b 1 n (.ref s.heap.objs.size) ks) → h'.get? s.heap.objs.size = some { cls := .type "tuple", data := .seq ((ks.take n).map fun i => items.getD i .none).toArray } → h'.objs.size = s.heap.objs.size + 1 →
      (∀ c o, c ≠ a → s.heap.get? c = some o → h'.get? c = some o) → Q (.ref s.heap.objs.size) { s with heap := h' }) : wpAny (model prog w) A (call (.builtin "itertools.permutations.__next__") [.ref a]) Q E s := by
  have hT : s.TypeIs (.ref a) "itertools.permutations" := ⟨_, ha, rfl⟩
  refine wpAny_call_entry next_slot hT next_entry ?_ (next_args _)
  show wpAny _ _ (field (.ref a) 0 >>= _) _ _ s
  refine wpAny_bind (wpAny_field ha rfl (x := .ref b) rfl ?_)
  refine wpAny_bind (m := Builtin.Itertools.itPoolItems _) (wpAny_bind (wpAny_seqItems hb rfl (wpAny_pure ?_)))
  refine wpAny_bind (int_field ha rfl (v := n) rfl ?_)
  refine wpAny_bind (nums_from ha ?_)
  refine wpAny_bind (int_field ha rfl (v := 0) rfl ?_)
  show wpAny _ _ (setField (.ref a) 1 (rawInt 1) >>= _) _ _ s
  have la : (Value.ref b :: rawInt 0 :: rawInt n :: Value.none :: ks.map fun (k : Nat) => rawInt (k : Int)).toArray.size = ks.length + 4 := by simp
  refine wpAny_bind (wpAny_setField ha rfl (by rw [la]; omega) ?_)
  have g0 := Heap.get?_update_self (Obj.mapFields (·.setIfInBounds 1 (rawInt 1))) ha rfl
  rw [set1] at g0
  refine tell (vs := (ks.take n).map fun i => items.getD i .none) g0 (by rw [List.length_map, List.length_take]; omega) ?_
  intro h' q1 q2 q3 q4
  rw [Heap.size_after_update] at q1 q2 q3
  have z := h h' q1 q2 q3 fun c o hc e => q4 c o hc (by rw [(Heap.SameBut.update ..).2 _ hc]; exact e)
  show Q (.ref (s.heap.update a _).objs.size) _
  rw [Heap.size_after_update]
  exact z
theorem setN {b : Addr} {st n : Int} {last : Value} {ks js : List Nat} : Obj.mapFields (fun fs => fs.extract 0 4 ++ (js.map fun (n : Nat) => rawInt n).toArray) (cellP b st n last ks) = cellP b st n last js := by
  simp [Obj.mapFields, cellP]
theorem set_nums {M : Model} {a b : Addr} {st n : Int} {last : Value} {ks js : List Nat} {Q : Unit → Shared → Prop} (ha : s.heap.get? a = some (cellP b st n last ks)) (hz : js.length ≤ 1000)
    (h : ∀ h', h'.get? a = some (cellP b st n last js) → h'.objs.size = s.heap.objs.size → (∀ c, c ≠ a → h'.get? c = s.heap.get? c) → Q () { s with heap := h' }) : wpAny M A (Builtin.Itertools.itSetNumbersFrom (.ref a) 4 js) Q E s := by
  have zl : sizeLine = 16777216 := rfl
  refine wpAny_updateFields ha rfl (h _ ?_ (Heap.size_after_update ..) fun c hc => (Heap.SameBut.update ..).2 _ hc) ?_
  · rw [Heap.get?_update_self _ ha rfl, setN]
  · simp
    omega
/-- it has ended -/
theorem stop {B : Around} {F : Value → Shared → Prop} {α : Type} {Q : α → Shared → Prop} (hh : B.handled = none)
    (h : ∀ (e : Addr) (h' : Heap) (o : Obj), h'.get? e = some o → o.cls = .type "StopIteration" → (∀ c o, s.heap.get? c = some o → h'.get? c = some o) → F (.ref e) { s with heap := h' }) :
    wpAny (model prog w) B (Builtin.Itertools.itStop : Sem α) Q F s := by
  show wpAny _ B (newExc (.type "StopIteration") [] >>= raiseNew) Q F s
  unfold newExc newTuple
  refine wpAny_bind (wpAny_bind (wpAny_newObj_type ?_ (by show 0 ≤ sizeLine; decide)))
  refine wpAny_bind (m := firstArgMember _ _) (wpAny_of_eq (a := Value.none) rfl ?_)
  refine wpAny_newObj_type ?_ (by size_fits)
  unfold raiseNew
  refine wpAny_bind (wpAny_handled ?_)
  rw [hh]
  refine wpAny_bind (wpAny_pure (wpAny_throw (h _ _ _ (Heap.get?_push_size _ rfl) rfl fun c o e => ?_)))
  exact Heap.get?_push_of_some _ (Heap.get?_push_of_some _ e)
theorem next_2_0 {a b : Addr} {u0 u1 last : Value} {c0 : Nat} {Q : Value → Shared → Prop} (ha : s.heap.get? a = some (cellP b 1 2 last [0, 1, 2, 1])) (hb : s.heap.get? b = some { cls := .type "tuple", data := .seq #[u0, u1] c0 })
    (h : ∀ h', h'.get? a = some (cellP b 1 2 (.ref s.heap.objs.size) [1, 0, 1, 1]) → h'.get? s.heap.objs.size = some { cls := .type "tuple", data := .seq #[u1, u0] } → h'.objs.size = s.heap.objs.size + 1 →
      (∀ c o, c ≠ a → s.heap.get? c = some o → h'.get? c = some o) → Q (.ref s.heap.objs.size) { s with heap := h' }) : wpAny (model prog w) A (call (.builtin "itertools.permutations.__next__") [.ref a]) Q E s := by
  have hT : s.TypeIs (.ref a) "itertools.permutations" := ⟨_, ha, rfl⟩
  refine wpAny_call_entry next_slot hT next_entry ?_ (next_args _)
  show wpAny _ _ (field (.ref a) 0 >>= _) _ _ s
  refine wpAny_bind (wpAny_field ha rfl (x := .ref b) rfl ?_)
  refine wpAny_bind (m := Builtin.Itertools.itPoolItems _) (wpAny_bind (wpAny_seqItems hb rfl (wpAny_pure ?_)))
  refine wpAny_bind (int_field ha rfl (v := 2) rfl ?_)
  refine wpAny_bind (nums_from ha ?_)
  refine wpAny_bind (int_field ha rfl (v := 1) rfl ?_)
  show wpAny _ _ (Builtin.Itertools.itSetNumbersFrom (.ref a) 4 [1, 0, 1, 1] >>= _) _ _ s
  refine wpAny_bind (set_nums ha (by decide) fun h1 g1 z1 k1 => ?_)
  refine tell (s := { s with heap := h1 }) (vs := [u1, u0]) g1 (by show 2 ≤ 1000; decide) fun h' q1 q2 q3 q4 => ?_
  have z1 : h1.objs.size = s.heap.objs.size := z1
  rw [z1] at q1 q2 q3
  have y := h h' q1 q2 q3 fun c o hc e => q4 c o hc (by rw [show h1.get? c = s.heap.get? c from k1 c hc]; exact e)
  show Q (.ref h1.objs.size) _
  rw [z1]
  exact y
theorem next_3_0 {a b : Addr} {u0 u1 u2 last : Value} {c0 : Nat} {Q : Value → Shared → Prop} (ha : s.heap.get? a = some (cellP b 1 3 last [0, 1, 2, 3, 2, 1])) (hb : s.heap.get? b = some { cls := .type "tuple", data := .seq #[u0, u1, u2] c0 })
    (h : ∀ h', h'.get? a = some (cellP b 1 3 (.ref s.heap.objs.size) [0, 2, 1, 3, 1, 1]) → h'.get? s.heap.objs.size = some { cls := .type "tuple", data := .seq #[u0, u2, u1] } → h'.objs.size = s.heap.objs.size + 1 →
      (∀ c o, c ≠ a → s.heap.get? c = some o → h'.get? c = some o) → Q (.ref s.heap.objs.size) { s with heap := h' }) : wpAny (model prog w) A (call (.builtin "itertools.permutations.__next__") [.ref a]) Q E s := by
  have hT : s.TypeIs (.ref a) "itertools.permutations" := ⟨_, ha, rfl⟩
  refine wpAny_call_entry next_slot hT next_entry ?_ (next_args _)
  show wpAny _ _ (field (.ref a) 0 >>= _) _ _ s
  refine wpAny_bind (wpAny_field ha rfl (x := .ref b) rfl ?_)
  refine wpAny_bind (m := Builtin.Itertools.itPoolItems _) (wpAny_bind (wpAny_seqItems hb rfl (wpAny_pure ?_)))
  refine wpAny_bind (int_field ha rfl (v := 3) rfl ?_)
  refine wpAny_bind (nums_from ha ?_)
  refine wpAny_bind (int_field ha rfl (v := 1) rfl ?_)
  show wpAny _ _ (Builtin.Itertools.itSetNumbersFrom (.ref a) 4 [0, 2, 1, 3, 1, 1] >>= _) _ _ s
  refine wpAny_bind (set_nums ha (by decide) fun h1 g1 z1 k1 => ?_)
  refine tell (s := { s with heap := h1 }) (vs := [u0, u2, u1]) g1 (by show 3 ≤ 1000; decide) fun h' q1 q2 q3 q4 => ?_
  have z1 : h1.objs.size = s.heap.objs.size := z1
  rw [z1] at q1 q2 q3
  have y := h h' q1 q2 q3 fun c o hc e => q4 c o hc (by rw [show h1.get? c = s.heap.get? c from k1 c hc]; exact e)
  show Q (.ref h1.objs.size) _
  rw [z1]
  exact y
theorem next_3_1 {a b : Addr} {u0 u1 u2 last : Value} {c0 : Nat} {Q : Value → Shared → Prop} (ha : s.heap.get? a = some (cellP b 1 3 last [0, 2, 1, 3, 1, 1])) (hb : s.heap.get? b = some { cls := .type "tuple", data := .seq #[u0, u1, u2] c0 })
    (h : ∀ h', h'.get? a = some (cellP b 1 3 (.ref s.heap.objs.size) [1, 0, 2, 2, 2, 1]) → h'.get? s.heap.objs.size = some { cls := .type "tuple", data := .seq #[u1, u0, u2] } → h'.objs.size = s.heap.objs.size + 1 →
      (∀ c o, c ≠ a → s.heap.get? c = some o → h'.get? c = some o) → Q (.ref s.heap.objs.size) { s with heap := h' }) : wpAny (model prog w) A (call (.builtin "itertools.permutations.__next__") [.ref a]) Q E s := by
  have hT : s.TypeIs (.ref a) "itertools.permutations" := ⟨_, ha, rfl⟩
  refine wpAny_call_entry next_slot hT next_entry ?_ (next_args _)
  show wpAny _ _ (field (.ref a) 0 >>= _) _ _ s
  refine wpAny_bind (wpAny_field ha rfl (x := .ref b) rfl ?_)
  refine wpAny_bind (m := Builtin.Itertools.itPoolItems _) (wpAny_bind (wpAny_seqItems hb rfl (wpAny_pure ?_)))
  refine wpAny_bind (int_field ha rfl (v := 3) rfl ?_)
  refine wpAny_bind (nums_from ha ?_)
  refine wpAny_bind (int_field ha rfl (v := 1) rfl ?_)
  show wpAny _ _ (Builtin.Itertools.itSetNumbersFrom (.ref a) 4 [1, 0, 2, 2, 2, 1] >>= _) _ _ s
  refine wpAny_bind (set_nums ha (by decide) fun h1 g1 z1 k1 => ?_)
  refine tell (s := { s with heap := h1 }) (vs := [u1, u0, u2]) g1 (by show 3 ≤ 1000; decide) fun h' q1 q2 q3 q4 => ?_
  have z1 : h1.objs.size = s.heap.objs.size := z1
  rw [z1] at q1 q2 q3
  have y := h h' q1 q2 q3 fun c o hc e => q4 c o hc (by rw [show h1.get? c = s.heap.get? c from k1 c hc]; exact e)
  show Q (.ref h1.objs.size) _
  rw [z1]
  exact y
theorem next_3_2 {a b : Addr} {u0 u1 u2 last : Value} {c0 : Nat} {Q : Value → Shared → Prop} (ha : s.heap.get? a = some (cellP b 1 3 last [1, 0, 2, 2, 2, 1])) (hb : s.heap.get? b = some { cls := .type "tuple", data := .seq #[u0, u1, u2] c0 })
    (h : ∀ h', h'.get? a = some (cellP b 1 3 (.ref s.heap.objs.size) [1, 2, 0, 2, 1, 1]) → h'.get? s.heap.objs.size = some { cls := .type "tuple", data := .seq #[u1, u2, u0] } → h'.objs.size = s.heap.objs.size + 1 →
      (∀ c o, c ≠ a → s.heap.get? c = some o → h'.get? c = some o) → Q (.ref s.heap.objs.size) { s with heap := h' }) : wpAny (model prog w) A (call (.builtin "itertools.permutations.__next__") [.ref a]) Q E s := by
  have hT : s.TypeIs (.ref a) "itertools.permutations" := ⟨_, ha, rfl⟩
  refine wpAny_call_entry next_slot hT next_entry ?_ (next_args _)
  show wpAny _ _ (field (.ref a) 0 >>= _) _ _ s
  refine wpAny_bind (wpAny_field ha rfl (x := .ref b) rfl ?_)
  refine wpAny_bind (m := Builtin.Itertools.itPoolItems _) (wpAny_bind (wpAny_seqItems hb rfl (wpAny_pure ?_)))
  refine wpAny_bind (int_field ha rfl (v := 3) rfl ?_)
  refine wpAny_bind (nums_from ha ?_)
  refine wpAny_bind (int_field ha rfl (v := 1) rfl ?_)
  show wpAny _ _ (Builtin.Itertools.itSetNumbersFrom (.ref a) 4 [1, 2, 0, 2, 1, 1] >>= _) _ _ s
  refine wpAny_bind (set_nums ha (by decide) fun h1 g1 z1 k1 => ?_)
  refine tell (s := { s with heap := h1 }) (vs := [u1, u2, u0]) g1 (by show 3 ≤ 1000; decide) fun h' q1 q2 q3 q4 => ?_
  have z1 : h1.objs.size = s.heap.objs.size := z1
  rw [z1] at q1 q2 q3
  have y := h h' q1 q2 q3 fun c o hc e => q4 c o hc (by rw [show h1.get? c = s.heap.get? c from k1 c hc]; exact e)
  show Q (.ref h1.objs.size) _
  rw [z1]
  exact y
theorem next_3_3 {a b : Addr} {u0 u1 u2 last : Value} {c0 : Nat} {Q : Value → Shared → Prop} (ha : s.heap.get? a = some (cellP b 1 3 last [1, 2, 0, 2, 1, 1])) (hb : s.heap.get? b = some { cls := .type "tuple", data := .seq #[u0, u1, u2] c0 })
    (h : ∀ h', h'.get? a = some (cellP b 1 3 (.ref s.heap.objs.size) [2, 0, 1, 1, 2, 1]) → h'.get? s.heap.objs.size = some { cls := .type "tuple", data := .seq #[u2, u0, u1] } → h'.objs.size = s.heap.objs.size + 1 →
      (∀ c o, c ≠ a → s.heap.get? c = some o → h'.get? c = some o) → Q (.ref s.heap.objs.size) { s with heap := h' }) : wpAny (model prog w) A (call (.builtin "itertools.permutations.__next__") [.ref a]) Q E s := by
  have hT : s.TypeIs (.ref a) "itertools.permutations" := ⟨_, ha, rfl⟩
  refine wpAny_call_entry next_slot hT next_entry ?_ (next_args _)
  show wpAny _ _ (field (.ref a) 0 >>= _) _ _ s
  refine wpAny_bind (wpAny_field ha rfl (x := .ref b) rfl ?_)
  refine wpAny_bind (m := Builtin.Itertools.itPoolItems _) (wpAny_bind (wpAny_seqItems hb rfl (wpAny_pure ?_)))
  refine wpAny_bind (int_field ha rfl (v := 3) rfl ?_)
  refine wpAny_bind (nums_from ha ?_)
  refine wpAny_bind (int_field ha rfl (v := 1) rfl ?_)
  show wpAny _ _ (Builtin.Itertools.itSetNumbersFrom (.ref a) 4 [2, 0, 1, 1, 2, 1] >>= _) _ _ s
  refine wpAny_bind (set_nums ha (by decide) fun h1 g1 z1 k1 => ?_)
  refine tell (s := { s with heap := h1 }) (vs := [u2, u0, u1]) g1 (by show 3 ≤ 1000; decide) fun h' q1 q2 q3 q4 => ?_
  have z1 : h1.objs.size = s.heap.objs.size := z1
  rw [z1] at q1 q2 q3
  have y := h h' q1 q2 q3 fun c o hc e => q4 c o hc (by rw [show h1.get? c = s.heap.get? c from k1 c hc]; exact e)
  show Q (.ref h1.objs.size) _
  rw [z1]
  exact y
theorem next_3_4 {a b : Addr} {u0 u1 u2 last : Value} {c0 : Nat} {Q : Value → Shared → Prop} (ha : s.heap.get? a = some (cellP b 1 3 last [2, 0, 1, 1, 2, 1])) (hb : s.heap.get? b = some { cls := .type "tuple", data := .seq #[u0, u1, u2] c0 })
    (h : ∀ h', h'.get? a = some (cellP b 1 3 (.ref s.heap.objs.size) [2, 1, 0, 1, 1, 1]) → h'.get? s.heap.objs.size = some { cls := .type "tuple", data := .seq #[u2, u1, u0] } → h'.objs.size = s.heap.objs.size + 1 →
      (∀ c o, c ≠ a → s.heap.get? c = some o → h'.get? c = some o) → Q (.ref s.heap.objs.size) { s with heap := h' }) : wpAny (model prog w) A (call (.builtin "itertools.permutations.__next__") [.ref a]) Q E s := by
  have hT : s.TypeIs (.ref a) "itertools.permutations" := ⟨_, ha, rfl⟩
  refine wpAny_call_entry next_slot hT next_entry ?_ (next_args _)
  show wpAny _ _ (field (.ref a) 0 >>= _) _ _ s
  refine wpAny_bind (wpAny_field ha rfl (x := .ref b) rfl ?_)
  refine wpAny_bind (m := Builtin.Itertools.itPoolItems _) (wpAny_bind (wpAny_seqItems hb rfl (wpAny_pure ?_)))
  refine wpAny_bind (int_field ha rfl (v := 3) rfl ?_)
  refine wpAny_bind (nums_from ha ?_)
  refine wpAny_bind (int_field ha rfl (v := 1) rfl ?_)
  show wpAny _ _ (Builtin.Itertools.itSetNumbersFrom (.ref a) 4 [2, 1, 0, 1, 1, 1] >>= _) _ _ s
  refine wpAny_bind (set_nums ha (by decide) fun h1 g1 z1 k1 => ?_)
  refine tell (s := { s with heap := h1 }) (vs := [u2, u1, u0]) g1 (by show 3 ≤ 1000; decide) fun h' q1 q2 q3 q4 => ?_
  have z1 : h1.objs.size = s.heap.objs.size := z1
  rw [z1] at q1 q2 q3
  have y := h h' q1 q2 q3 fun c o hc e => q4 c o hc (by rw [show h1.get? c = s.heap.get? c from k1 c hc]; exact e)
  show Q (.ref h1.objs.size) _
  rw [z1]
  exact y
theorem end_1 {a b : Addr} {u0 last : Value} {c0 : Nat} {Q : Option Value → Shared → Prop} (hh : A.in1.handled = none) (ha : s.heap.get? a = some (cellP b 1 1 last [0, 1])) (hb : s.heap.get? b = some { cls := .type "tuple", data := .seq #[u0] c0 })
    (h : ∀ h', (∀ c o, c ≠ a → s.heap.get? c = some o → h'.get? c = some o) → Q none { s with heap := h' }) : wpAny (model prog w) A (pyNext (.ref a)) Q E s := by
  have hT : s.TypeIs (.ref a) "itertools.permutations" := ⟨_, ha, rfl⟩
  unfold pyNext
  refine wpAny_bind (wpAny_attempt (wpAny_callSpecial?_slot (name := Str.ofString "__next__") hT next_slot (wpAny_call_entry next_slot hT next_entry ?_ (next_args _))))
  show wpAny _ _ (field (.ref a) 0 >>= _) _ _ s
  refine wpAny_bind (wpAny_field ha rfl (x := .ref b) rfl ?_)
  refine wpAny_bind (m := Builtin.Itertools.itPoolItems _) (wpAny_bind (wpAny_seqItems hb rfl (wpAny_pure ?_)))
  refine wpAny_bind (int_field ha rfl (v := 1) rfl ?_)
  refine wpAny_bind (nums_from ha ?_)
  refine wpAny_bind (int_field ha rfl (v := 1) rfl ?_)
  show wpAny _ _ (setField (.ref a) 1 (rawInt 2) >>= _) _ _ s
  refine wpAny_bind (wpAny_setField ha rfl (by simp) (stop hh fun e h' o g1 g2 k1 => ?_))
  refine wpAny_bind (wpAny_isInstance (T := "StopIteration") (b := true) ⟨o, g1, g2⟩ isSubtype_stop ?_)
  exact wpAny_pure (h _ fun c o hc e => k1 c o (((Heap.SameBut.update s.heap a _).2 c hc).trans e))
theorem end_2 {a b : Addr} {u0 u1 last : Value} {c0 : Nat} {Q : Option Value → Shared → Prop} (hh : A.in1.handled = none) (ha : s.heap.get? a = some (cellP b 1 2 last [1, 0, 1, 1])) (hb : s.heap.get? b = some { cls := .type "tuple", data := .seq #[u0, u1] c0 })
    (h : ∀ h', (∀ c o, c ≠ a → s.heap.get? c = some o → h'.get? c = some o) → Q none { s with heap := h' }) : wpAny (model prog w) A (pyNext (.ref a)) Q E s := by
  have hT : s.TypeIs (.ref a) "itertools.permutations" := ⟨_, ha, rfl⟩
  unfold pyNext
  refine wpAny_bind (wpAny_attempt (wpAny_callSpecial?_slot (name := Str.ofString "__next__") hT next_slot (wpAny_call_entry next_slot hT next_entry ?_ (next_args _))))
  show wpAny _ _ (field (.ref a) 0 >>= _) _ _ s
  refine wpAny_bind (wpAny_field ha rfl (x := .ref b) rfl ?_)
  refine wpAny_bind (m := Builtin.Itertools.itPoolItems _) (wpAny_bind (wpAny_seqItems hb rfl (wpAny_pure ?_)))
  refine wpAny_bind (int_field ha rfl (v := 2) rfl ?_)
  refine wpAny_bind (nums_from ha ?_)
  refine wpAny_bind (int_field ha rfl (v := 1) rfl ?_)
  show wpAny _ _ (setField (.ref a) 1 (rawInt 2) >>= _) _ _ s
  refine wpAny_bind (wpAny_setField ha rfl (by simp) (stop hh fun e h' o g1 g2 k1 => ?_))
  refine wpAny_bind (wpAny_isInstance (T := "StopIteration") (b := true) ⟨o, g1, g2⟩ isSubtype_stop ?_)
  exact wpAny_pure (h _ fun c o hc e => k1 c o (((Heap.SameBut.update s.heap a _).2 c hc).trans e))
theorem end_3 {a b : Addr} {u0 u1 u2 last : Value} {c0 : Nat} {Q : Option Value → Shared → Prop} (hh : A.in1.handled = none) (ha : s.heap.get? a = some (cellP b 1 3 last [2, 1, 0, 1, 1, 1])) (hb : s.heap.get? b = some { cls := .type "tuple", data := .seq #[u0, u1, u2] c0 })
    (h : ∀ h', (∀ c o, c ≠ a → s.heap.get? c = some o → h'.get? c = some o) → Q none { s with heap := h' }) : wpAny (model prog w) A (pyNext (.ref a)) Q E s := by
  have hT : s.TypeIs (.ref a) "itertools.permutations" := ⟨_, ha, rfl⟩
  unfold pyNext
  refine wpAny_bind (wpAny_attempt (wpAny_callSpecial?_slot (name := Str.ofString "__next__") hT next_slot (wpAny_call_entry next_slot hT next_entry ?_ (next_args _))))
  show wpAny _ _ (field (.ref a) 0 >>= _) _ _ s
  refine wpAny_bind (wpAny_field ha rfl (x := .ref b) rfl ?_)
  refine wpAny_bind (m := Builtin.Itertools.itPoolItems _) (wpAny_bind (wpAny_seqItems hb rfl (wpAny_pure ?_)))
  refine wpAny_bind (int_field ha rfl (v := 3) rfl ?_)
  refine wpAny_bind (nums_from ha ?_)
  refine wpAny_bind (int_field ha rfl (v := 1) rfl ?_)
  show wpAny _ _ (setField (.ref a) 1 (rawInt 2) >>= _) _ _ s
  refine wpAny_bind (wpAny_setField ha rfl (by simp) (stop hh fun e h' o g1 g2 k1 => ?_))
  refine wpAny_bind (wpAny_isInstance (T := "StopIteration") (b := true) ⟨o, g1, g2⟩ isSubtype_stop ?_)
  exact wpAny_pure (h _ fun c o hc e => k1 c o (((Heap.SameBut.update s.heap a _).2 c hc).trans e))
end
end Pm
end

section
set_option Elab.async false
set_option linter.all false
set_option maxRecDepth 100000
set_option maxHeartbeats 4000000
namespace Pm
open PySem PySem.Spec PyProof.Rows L2
section
variable {prog : Program} {w : World} {A : Around} {E : Value → Shared → Prop} {s : Shared}
theorem class_rest {M : Model} {v : Value} {Q : Value × List Value → Shared → Prop} (h : Q (.type "itertools.permutations", [v]) s) :
    wpAny M A (Builtin.Itertools.itClassAndRest "permutations" ⟨[.type "itertools.permutations", v], []⟩) Q E s := by
  unfold Builtin.Itertools.itClassAndRest
  have sub := self_sub
  obtain ⟨hp, g, d, tk, os⟩ := s
  wp_walk
  refine wpAny_of_eq (a := true) ?_ (wpAny_pure h)
  have e : (("itertools." : String) ++ "permutations") = "itertools.permutations" := by decide +kernel
  rw [e]
  exact sub
theorem bind_named {M : Model} {v : Value} {Q : List (Option Value) → Shared → Prop} (h : Q [some v, none] s) :
    wpAny M A (Builtin.Itertools.itBindNamed "permutations" ["iterable", "r"] 1 2 [v] []) Q E s := by
  refine wpAny_of_eq ?_ h
  rfl
/-- the cells of a new one -/
theorem make {l : Addr} {vs : List Value} {n : Nat} {R : Value → Shared → Prop} (hl : s.heap.IsList l vs.toArray) (hn : vs.length = n) (h3 : n ≤ 3)
    (h : ∀ (h1 h' : Heap) (b : Addr), (∀ c o, s.heap.get? c = some o → h1.get? c = some o) → b = h1.objs.size → (∀ c o, h1.get? c = some o → h'.get? c = some o) → h'.objs.size = b + 2 → h'.get? b = some { cls := .type "tuple", data := .seq vs.toArray } → h'.get? (b + 1) = some (cellP b 0 n .none (List.range n ++ (List.range n).map fun i => n - i)) → R (.ref (b + 1)) { s with heap := h' }) :
    wpAny (model prog w) A (Builtin.«itertools.permutations.__new__» ⟨[.type "itertools.permutations", .ref l], []⟩) (fun f s' => ∃ v, f = .done (.ret v) ∧ R v s') E s := by
  unfold Builtin.«itertools.permutations.__new__»
  refine wpAny_bind (class_rest ?_)
  refine wpAny_bind (bind_named ?_)
  obtain ⟨o, ho, hc, k, hd⟩ := id hl
  refine wpAny_bind (wpAny_collect_seq l (.inl rfl) ho hc hd (fun h1 k1 => ?_) (by rw [List.size_toArray, hn]; exact Nat.le_trans h3 (by decide)))
  have e0 : vs.toArray.toList.length = n := by simpa using hn
  show wpAny _ _ (pure ((vs.toArray.toList.length : Nat) : Int) >>= _) _ _ _
  refine wpAny_bind (wpAny_pure ?_)
  rw [e0]
  dsimp only
  rw [if_neg (show ¬ ((n : Int) < 0) by omega), if_neg (show ¬ (Builtin.Itertools.itTooMany (n : Int) = true) by unfold Builtin.Itertools.itTooMany; simp; omega)]
  refine wpAny_bind (m := newTuple _) (wpAny_newObj_type ?_ ?_)
  · unfold Builtin.Itertools.itNewRecord
    have hd : (!typeHasDict (.type "itertools.permutations")) = true := by decide +kernel
    rw [if_pos hd]
    have e : ([Value.ref h1.objs.size, rawInt (if ((n : Int)).toNat > n then 2 else 0), rawInt (((n : Int).toNat : Nat) : Int), Value.none] ++ List.map (fun (i : Nat) => rawInt (i : Int)) (List.range n) ++ List.map (fun (i : Nat) => rawInt ((n : Int) - (i : Int))) (List.range (n : Int).toNat)).toArray
        = (Value.ref h1.objs.size :: rawInt 0 :: rawInt n :: Value.none :: (List.range n ++ (List.range n).map fun i => n - i).map fun (k : Nat) => rawInt (k : Int)).toArray := by
      match n, h3 with
      | 0, _ => rfl
      | 1, _ => rfl
      | 2, _ => rfl
      | 3, _ => rfl
    have z : ((h1.push { cls := .type "tuple", data := .seq vs.toArray })).objs.size = h1.objs.size + 1 := Heap.size_push ..
    refine wpAny_bind (wpAny_newObj_type (wpAny_pure ⟨_, rfl, ?_⟩) ?_)
    · dsimp only
      rw [e, z]
      refine h h1 _ _ k1 rfl (fun c o q => Heap.get?_push_of_some _ (Heap.get?_push_of_some _ q)) (by rw [Heap.size_push, z]) (Heap.get?_push_of_some _ (Heap.get?_push_size _ rfl)) ?_
      rw [← z]
      exact Heap.get?_push_size _ rfl
    · dsimp only
      rw [e]
      match n, h3 with
      | 0, _ => first | size_fits | (unfold sizeOk; show 4 ≤ _; decide)
      | 1, _ => first | size_fits | (unfold sizeOk; show 6 ≤ _; decide)
      | 2, _ => first | size_fits | (unfold sizeOk; show 8 ≤ _; decide)
      | 3, _ => first | size_fits | (unfold sizeOk; show 10 ≤ _; decide)
  · show vs.toArray.size ≤ sizeLine
    rw [List.size_toArray, hn]
    exact Nat.le_trans h3 (by decide)
theorem call_pm {l : Addr} {vs : List Value} {n : Nat} {Q : Value → Shared → Prop} (hl : s.heap.IsList l vs.toArray) (hn : vs.length = n) (h3 : n ≤ 3)
    (h : ∀ (h1 h' : Heap) (b : Addr), (∀ c o, s.heap.get? c = some o → h1.get? c = some o) → b = h1.objs.size → (∀ c o, h1.get? c = some o → h'.get? c = some o) → h'.objs.size = b + 2 → h'.get? b = some { cls := .type "tuple", data := .seq vs.toArray } →
      h'.get? (b + 1) = some (cellP b 0 n .none (List.range n ++ (List.range n).map fun i => n - i)) → Q (.ref (b + 1)) { s with heap := h' }) :
    wpAny (model prog w) A (call (.type "itertools.permutations") [.ref l]) Q E s := by
  have M : Meets (Builtin.«itertools.permutations.__new__» ⟨[.type "itertools.permutations", .ref l], []⟩) (fun _ R s0 => s0 = s ∧ ∀ (h1 h' : Heap) (b : Addr), (∀ c o, s.heap.get? c = some o → h1.get? c = some o) → b = h1.objs.size → (∀ c o, h1.get? c = some o → h'.get? c = some o) → h'.objs.size = b + 2 →
      h'.get? b = some { cls := .type "tuple", data := .seq vs.toArray } → h'.get? (b + 1) = some (cellP b 0 n .none (List.range n ++ (List.range n).map fun i => n - i)) → R (.ok (.ret (.ref (b + 1)))) { s with heap := h' }) := by
    refine .of_wp fun prog w A R s0 z => ?_
    obtain ⟨rfl, z⟩ := z
    refine make hl hn h3 fun h1 h' b a1 a2 a3 a4 a5 a6 => ?_
    exact z h1 h' b a1 a2 a3 a4 a5 a6
  refine callType_new called (by decide) (new_type _) (new_call _) (fun obj => F.args_object_init_2 obj _) new_entry M ⟨rfl, fun h1 h' b a1 a2 a3 a4 a5 a6 => ?_⟩
  show _ ∧ _
  exact ⟨⟨_, a6, rfl⟩, h h1 h' b a1 a2 a3 a4 a5 a6⟩
end
end Pm
end

section
set_option Elab.async false
set_option linter.all false
set_option maxRecDepth 100000
set_option maxHeartbeats 4000000
/-! for order in permutations(xs), xs a list of one to three ints from 0 on -/
namespace Pm
open PySem PySem.Spec PyProof.Rows L2 Gd
def perms : Nat → List (List Nat)
  | 1 => [[0]]
  | 2 => [[0, 1], [1, 0]]
  | 3 => [[0, 1, 2], [0, 2, 1], [1, 0, 2], [1, 2, 0], [2, 0, 1], [2, 1, 0]]
  | _ => []
def cycs : Nat → List (List Nat)
  | 1 => [[1]]
  | 2 => [[2, 1], [1, 1]]
  | 3 => [[3, 2, 1], [3, 1, 1], [2, 2, 1], [2, 1, 1], [1, 2, 1], [1, 1, 1]]
  | _ => []
def ksAt (n k : Nat) : List Nat := (perms n).getD k [] ++ (cycs n).getD k []
section
variable {prog : Program} {w : World} {A : Around} {E : Value → Shared → Prop} {s : Shared}
theorem call_at {n i : Nat} {a b : Addr} {items : List Value} {c0 : Nat} {last : Value} {Q : Value → Shared → Prop} (hi : i < (perms n).length) (hl : items.length = n)
    (ha : s.heap.get? a = some (cellP b (if i = 0 then 0 else 1) n (if i = 0 then .none else last) (ksAt n (i - 1)))) (hb : s.heap.get? b = some { cls := .type "tuple", data := .seq items.toArray c0 })
    (h : ∀ h', h'.get? a = some (cellP b 1 n (.ref s.heap.objs.size) (ksAt n i)) → h'.get? s.heap.objs.size = some { cls := .type "tuple", data := .seq (((perms n).getD i []).map fun k => items.getD k .none).toArray } → h'.objs.size = s.heap.objs.size + 1 →
      (∀ c o, c ≠ a → s.heap.get? c = some o → h'.get? c = some o) → Q (.ref s.heap.objs.size) { s with heap := h' }) : wpAny (model prog w) A (call (.builtin "itertools.permutations.__next__") [.ref a]) Q E s := by
  match n, items, hl, i, hi with
  | 1, [u0], _, 0, _ => exact next0 (n := 1) ha hb (by decide) h
  | 1, [u0], _, k + 1, hk => exact absurd hk (by show ¬ (k + 1 < 1); omega)
  | 2, [u0, u1], _, 0, _ => exact next0 (n := 2) ha hb (by decide) h
  | 2, [u0, u1], _, 1, _ => exact next_2_0 ha hb h
  | 2, [u0, u1], _, k + 2, hk => exact absurd hk (by show ¬ (k + 2 < 2); omega)
  | 3, [u0, u1, u2], _, 0, _ => exact next0 (n := 3) ha hb (by decide) h
  | 3, [u0, u1, u2], _, 1, _ => exact next_3_0 ha hb h
  | 3, [u0, u1, u2], _, 2, _ => exact next_3_1 ha hb h
  | 3, [u0, u1, u2], _, 3, _ => exact next_3_2 ha hb h
  | 3, [u0, u1, u2], _, 4, _ => exact next_3_3 ha hb h
  | 3, [u0, u1, u2], _, 5, _ => exact next_3_4 ha hb h
  | 3, [u0, u1, u2], _, k + 6, hk => exact absurd hk (by show ¬ (k + 6 < 6); omega)
  | 0, _, _, _, hk => exact absurd hk (Nat.not_lt_zero _)
  | _ + 4, _, _, _, hk => exact absurd hk (Nat.not_lt_zero _)
theorem end_at {n i : Nat} {a b : Addr} {items : List Value} {c0 : Nat} {last : Value} {Q : Option Value → Shared → Prop} (hh : A.in1.handled = none) (h1 : 1 ≤ n) (h3 : n ≤ 3) (hi : i = (perms n).length) (hl : items.length = n)
    (ha : s.heap.get? a = some (cellP b (if i = 0 then 0 else 1) n (if i = 0 then .none else last) (ksAt n (i - 1)))) (hb : s.heap.get? b = some { cls := .type "tuple", data := .seq items.toArray c0 })
    (h : ∀ h', (∀ c o, c ≠ a → s.heap.get? c = some o → h'.get? c = some o) → Q none { s with heap := h' }) : wpAny (model prog w) A (pyNext (.ref a)) Q E s := by
  subst hi
  match n, items, hl, h1, h3 with
  | 1, [u0], _, _, _ => exact end_1 hh ha hb h
  | 2, [u0, u1], _, _, _ => exact end_2 hh ha hb h
  | 3, [u0, u1, u2], _, _, _ => exact end_3 hh ha hb h
end
/-- the orders -/
def ItP (n : Nat) : It where
  go i _ := i < (perms n).length
  yld i H v H' := ∃ T ks, v = .ref T ∧ H T = none ∧ (perms n)[i]? = some ks ∧ H' = upd H T (.tup (ks.map fun k => V.int ((k : Nat) : Int)))
  stop i _ := i = (perms n).length
def StP (n b : Nat) (i : Nat) (h : Heap) : Prop := 1 ≤ n ∧ n ≤ 3 ∧ (∃ last, h.get? (b + 1) = some (cellP b (if i = 0 then 0 else 1) n (if i = 0 then .none else last) (ksAt n (i - 1)))) ∧
  (∃ items c0, h.get? b = some { cls := .type "tuple", data := .seq (items : List Value).toArray c0 } ∧ items.length = n ∧ ∀ k, k < n → ∃ t, items[k]? = some (.int ((k : Nat) : Int) t)) ∧ b + 2 ≤ h.objs.size
theorem told_ints {n : Nat} {items : List Value} (hi : ∀ k, k < n → ∃ t, items[k]? = some (Value.int ((k : Nat) : Int) t)) : ∀ {ks : List Nat}, (∀ k ∈ ks, k < n) → Vals (ks.map fun k => V.int ((k : Nat) : Int)) (ks.map fun k => items.getD k .none)
  | [], _ => .nil
  | k :: ks, h => by
    obtain ⟨t, e⟩ := hi k (h k (by simp))
    refine .cons ⟨t, ?_⟩ (told_ints hi fun j m => h j (by simp [m]))
    show items.getD k .none = _
    rw [List.getD_eq_getElem?_getD, e] <;> rfl
theorem perms_lt {n i : Nat} {ks : List Nat} (h : (perms n)[i]? = some ks) : (∀ k ∈ ks, k < n) ∧ ks.length = n := by
  have all : ∀ n, ∀ ks ∈ perms n, (∀ k ∈ ks, k < n) ∧ ks.length = n := fun n => by
    match n with
    | 0 => exact fun _ h => nomatch h
    | 1 => decide
    | 2 => decide
    | 3 => decide
    | _ + 4 => exact fun _ h => nomatch h
  exact all n ks (List.mem_of_getElem? h)
theorem turn_P {P : Program} {w : World} {K : PySem.W.Frag} {tg : Expr} {n b : Nat} : Turn P w K tg (ItP n) (duo b) (b + 1) (StP n b) where
  mem := in2 (by omega) (by omega)
  obj := fun i h st c hc => by
    obtain ⟨_, _, ⟨last, e1⟩, ⟨items, c0, e2, _⟩, _⟩ := st
    simp only [duo, List.mem_cons, List.not_mem_nil, or_false] at hc
    rcases hc with rfl | rfl
    · exact ⟨_, e1, fun v z => nomatch z⟩
    · exact ⟨_, e2, fun v z => nomatch z⟩
  keep := fun i h h' st k => by
    obtain ⟨n1, n3, ⟨last, e1⟩, ⟨items, c0, e2, hl, hk⟩, _⟩ := st
    have e3 := k (b + 1) (in2 (by omega) (by omega)) _ e1
    exact ⟨n1, n3, ⟨last, e3⟩, ⟨items, c0, k b (in2 (by omega) (by omega)) _ e2, hl, hk⟩, Heap.lt_size e3⟩
  item := by
    intro X hP hw hK hc i pins s σ H E I hf st hg
    subst hP hw hK
    obtain ⟨n1, n3, ⟨last, e1⟩, ⟨items, c0, e2, hl, hk⟩, sz0⟩ := st
    have hg : i < (perms n).length := hg
    have hT : s.TypeIs (.ref (b + 1)) "itertools.permutations" := ⟨_, e1, rfl⟩
    unfold pyNext
    refine wpAny_bind (wpAny_attempt (wpAny_callSpecial?_slot (name := Str.ofString "__next__") hT next_slot (call_at hg hl e1 e2 fun h' q1 q2 q3 q4 => wpAny_pure ?_)))
    refine ⟨_, rfl, go_of (n := "itertools.permutations") q1 rfl rfl (by decide) ?_⟩
    have ep : (perms n)[i]? = some ((perms n).getD i []) := by
      rw [List.getD_eq_getElem?_getD, List.getElem?_eq_getElem hg] <;> rfl
    obtain ⟨pl, pz⟩ := perms_lt ep
    have old3 : ∀ {c o}, s.heap.get? c = some o → c ≠ s.heap.objs.size := fun e => Nat.ne_of_lt (Heap.lt_size e)
    have stay : ∀ c o, c ∉ duo b → s.heap.get? c = some o → h'.get? c = some o := fun c o nc e => q4 c o (fun q => nc (q ▸ in2 (by omega) (by omega))) e
    have fine : ObjOk X.prog X.w (upd H s.heap.objs.size (.tup (((perms n).getD i []).map fun k => V.int ((k : Nat) : Int)))) h' s.heap.objs.size (.tup (((perms n).getD i []).map fun k => V.int ((k : Nat) : Int))) := by
      refine ⟨?_, _, told_ints hk pl, ⟨_, q2, rfl, _, rfl⟩⟩
      rw [List.length_map, pz]
      exact Nat.le_trans n3 (by decide)
    have I3 := I.turnedNew (t' := s.toks) (ch := duo b) stay hf (Nat.le_refl _) fine
    refine ⟨.ref s.heap.objs.size, _, I3, rfl, ⟨_, _, rfl, I.hok.fresh (Nat.le_refl _), ep, rfl⟩, ⟨n1, n3, ⟨_, q1⟩, ⟨items, c0, q4 b _ (apN (by omega)) e2, hl, hk⟩, ?_⟩, fun c hcm => ?_⟩
    · rw [q3]
      omega
    · have := (mem2 hcm).2
      rw [upd_ne (apN (by omega))]
      exact (hf c hcm).1
  done := by
    intro X hP hw hK hc i pins s σ H E I hf st hg
    subst hP hw hK
    obtain ⟨n1, n3, ⟨last, e1⟩, ⟨items, c0, e2, hl, hk⟩, sz0⟩ := st
    have hh1 : X.A.in1.handled = none := I.ok.hd hc
    refine end_at hh1 n1 n3 hg hl e1 e2 fun h' k1 => ?_
    exact ⟨rfl, I.turnedL (t' := s.toks) (ch := duo b) (fun c o nc e => k1 c o (fun q => nc (q ▸ in2 (by omega) (by omega))) e) hf⟩
  self := fun A i s Q E st h => by
    obtain ⟨_, _, ⟨last, e1⟩, _⟩ := st
    have hT : s.TypeIs (.ref (b + 1)) "itertools.permutations" := ⟨_, e1, rfl⟩
    refine wpAny_pyIter_slot hT iter_slot (wpAny_call_entry iter_slot hT iter_entry ?_ (iter_args _))
    exact wpAny_pure ⟨_, rfl, "itertools.permutations", _, hT, next_slot.lookup, h⟩
def iPm (K : PySem.W.Frag) (ta : TA) : TI := fun σ H R => ta σ H fun vs H1 => ∃ l n, vs = [.ref l] ∧ SqL K H1 l ((List.range n).map fun k => V.int ((k : Nat) : Int)) ∧ 1 ≤ n ∧ n ≤ 3 ∧ R (ItP n) H1
theorem ints_at_k {n : Nat} {us : List Value} (h : Vals ((List.range n).map fun k => V.int ((k : Nat) : Int)) us) : us.length = n ∧ ∀ k, k < n → ∃ t, us[k]? = some (Value.int ((k : Nat) : Int) t) := by
  have hl : us.length = n := by
    have := h.length
    simpa using this.symm
  refine ⟨hl, fun k hk => ?_⟩
  have e : ((List.range n).map fun k => V.int ((k : Nat) : Int))[k]? = some (.int ((k : Nat) : Int)) := by simp [hk]
  obtain ⟨u, hu, t, rfl⟩ := h.get e
  exact ⟨t, hu⟩
theorem ek (n : Nat) (n1 : 1 ≤ n) (n3 : n ≤ 3) : List.range n ++ (List.range n).map (fun i => n - i) = ksAt n 0 := by
  match n, n1, n3 with
  | 1, _, _ => decide
  | 2, _, _ => decide
  | 3, _, _ => decide
theorem pi_pm {X : Cx} {e tg : Expr} {ta : TA} {p pos : Pos} (hg : Gl X "permutations") (hm : X.mg "permutations" = some (.type "itertools.permutations")) (ha : PA X [e] ta)
    (hs : starEach [e] X.env = [(false, eval e X.env)] := by rfl) : PI X tg (.Call (.Name "permutations" p) [e] [] pos) (iPm X.K ta) := by
  refine ⟨fun pins s σ H R I h => Call_ (ld_glob I hg hm (PyProof.Rows.callWith_type1 (thn (ha.run pos pins s σ H _ I h) ?_) hs rfl) (by decide))⟩
  rintro us s1 ⟨vs, H1, J, r, l, n, rfl, ql, n1, n3, q⟩
  obtain ⟨u1, rfl, r1⟩ := vals1 r
  cases r1
  obtain ⟨as, rv, p1, _⟩ := J.list ql
  obtain ⟨hl, hk⟩ := ints_at_k rv
  refine call_pm p1.isList hl n3 fun h1 h' b a1 a2 a3 a4 a5 a6 => ?_
  subst a2
  have J1 := J.kept (t' := s1.toks) a1
  have J2 := J1.kept (t' := s1.toks) a3
  have st : StP n h1.objs.size 0 h' := by
    refine ⟨n1, n3, ⟨.none, ?_⟩, ⟨as, _, a5, hl, hk⟩, Nat.le_of_eq a4.symm⟩
    rw [ek n n1 n3] at a6
    rw [if_pos rfl, if_pos rfl]
    exact a6
  refine turn_P.self (P := X.prog) (w := X.w) (K := X.K) (tg := tg) _ 0 _ _ _ st ?_
  refine ⟨h1.objs.size + 1, duo h1.objs.size, StP n h1.objs.size, ItP n, H1, rfl, J2, turn_P, st, fun c hc => ?_, q⟩
  have hle := (mem2 hc).1
  exact J1.fpOk hle (J1.hok.fresh hle)
theorem walk_pm {n : Nat} : Walk (ItP n) (perms n).length (fun _ => True) (fun i H v H' => ∃ T ks, v = .ref T ∧ H T = none ∧ (perms n)[i]? = some ks ∧ H' = upd H T (.tup (ks.map fun k => V.int ((k : Nat) : Int)))) :=
  ⟨fun i _ hi _ => hi, fun _ _ => rfl, fun i H v H' _ _ y => y⟩
end Pm
end

section
set_option Elab.async false
set_option linter.all false
set_option maxRecDepth 100000
set_option maxHeartbeats 4000000
/-! for order in permutations(xs), the orders' objects known -/
namespace Px
open PySem PySem.Spec PyProof.Rows L2 Gd Pm
def ItP (n : Nat) : It where
  go i _ := i < (perms n).length
  yld i H v H' := ∃ T ks o, v = .ref T ∧ H T = none ∧ o.dict = none ∧ (perms n)[i]? = some ks ∧ H' = upd H T (.frz o (.tup (ks.map fun k => V.int ((k : Nat) : Int))))
  stop i _ := i = (perms n).length
theorem turn_P {P : Program} {w : World} {K : PySem.W.Frag} {tg : Expr} {n b : Nat} : Turn P w K tg (ItP n) (duo b) (b + 1) (StP n b) where
  mem := in2 (by omega) (by omega)
  obj := fun i h st c hc => by
    obtain ⟨_, _, ⟨last, e1⟩, ⟨items, c0, e2, _⟩, _⟩ := st
    simp only [duo, List.mem_cons, List.not_mem_nil, or_false] at hc
    rcases hc with rfl | rfl
    · exact ⟨_, e1, fun v z => nomatch z⟩
    · exact ⟨_, e2, fun v z => nomatch z⟩
  keep := fun i h h' st k => by
    obtain ⟨n1, n3, ⟨last, e1⟩, ⟨items, c0, e2, hl, hk⟩, _⟩ := st
    have e3 := k (b + 1) (in2 (by omega) (by omega)) _ e1
    exact ⟨n1, n3, ⟨last, e3⟩, ⟨items, c0, k b (in2 (by omega) (by omega)) _ e2, hl, hk⟩, Heap.lt_size e3⟩
  item := by
    intro X hP hw hK hc i pins s σ H E I hf st hg
    subst hP hw hK
    obtain ⟨n1, n3, ⟨last, e1⟩, ⟨items, c0, e2, hl, hk⟩, sz0⟩ := st
    have hg : i < (perms n).length := hg
    have hT : s.TypeIs (.ref (b + 1)) "itertools.permutations" := ⟨_, e1, rfl⟩
    unfold pyNext
    refine wpAny_bind (wpAny_attempt (wpAny_callSpecial?_slot (name := Str.ofString "__next__") hT next_slot (call_at hg hl e1 e2 fun h' q1 q2 q3 q4 => wpAny_pure ?_)))
    refine ⟨_, rfl, go_of (n := "itertools.permutations") q1 rfl rfl (by decide) ?_⟩
    have ep : (perms n)[i]? = some ((perms n).getD i []) := by
      rw [List.getD_eq_getElem?_getD, List.getElem?_eq_getElem hg] <;> rfl
    obtain ⟨pl, pz⟩ := perms_lt ep
    have old3 : ∀ {c o}, s.heap.get? c = some o → c ≠ s.heap.objs.size := fun e => Nat.ne_of_lt (Heap.lt_size e)
    have stay : ∀ c o, c ∉ duo b → s.heap.get? c = some o → h'.get? c = some o := fun c o nc e => q4 c o (fun q => nc (q ▸ in2 (by omega) (by omega))) e
    have fine : ObjOk X.prog X.w (upd H s.heap.objs.size (.frz { cls := .type "tuple", data := .seq (((perms n).getD i []).map fun k => items.getD k .none).toArray } (.tup (((perms n).getD i []).map fun k => V.int ((k : Nat) : Int))))) h' s.heap.objs.size (.frz { cls := .type "tuple", data := .seq (((perms n).getD i []).map fun k => items.getD k .none).toArray } (.tup (((perms n).getD i []).map fun k => V.int ((k : Nat) : Int)))) := by
      refine ⟨q2, ?_, _, told_ints hk pl, ⟨_, q2, rfl, _, rfl⟩⟩
      rw [List.length_map, pz]
      exact Nat.le_trans n3 (by decide)
    have I3 := I.turnedNew (t' := s.toks) (ch := duo b) stay hf (Nat.le_refl _) fine
    refine ⟨.ref s.heap.objs.size, _, I3, rfl, ⟨_, _, _, rfl, I.hok.fresh (Nat.le_refl _), rfl, ep, rfl⟩, ⟨n1, n3, ⟨_, q1⟩, ⟨items, c0, q4 b _ (apN (by omega)) e2, hl, hk⟩, ?_⟩, fun c hcm => ?_⟩
    · rw [q3]
      omega
    · have := (mem2 hcm).2
      rw [upd_ne (apN (by omega))]
      exact (hf c hcm).1
  done := by
    intro X hP hw hK hc i pins s σ H E I hf st hg
    subst hP hw hK
    obtain ⟨n1, n3, ⟨last, e1⟩, ⟨items, c0, e2, hl, hk⟩, sz0⟩ := st
    have hh1 : X.A.in1.handled = none := I.ok.hd hc
    refine end_at hh1 n1 n3 hg hl e1 e2 fun h' k1 => ?_
    exact ⟨rfl, I.turnedL (t' := s.toks) (ch := duo b) (fun c o nc e => k1 c o (fun q => nc (q ▸ in2 (by omega) (by omega))) e) hf⟩
  self := fun A i s Q E st h => by
    obtain ⟨_, _, ⟨last, e1⟩, _⟩ := st
    have hT : s.TypeIs (.ref (b + 1)) "itertools.permutations" := ⟨_, e1, rfl⟩
    refine wpAny_pyIter_slot hT iter_slot (wpAny_call_entry iter_slot hT iter_entry ?_ (iter_args _))
    exact wpAny_pure ⟨_, rfl, "itertools.permutations", _, hT, next_slot.lookup, h⟩
def iPm (K : PySem.W.Frag) (ta : TA) : TI := fun σ H R => ta σ H fun vs H1 => ∃ l n, vs = [.ref l] ∧ SqL K H1 l ((List.range n).map fun k => V.int ((k : Nat) : Int)) ∧ 1 ≤ n ∧ n ≤ 3 ∧ R (ItP n) H1
theorem pi_pm {X : Cx} {e tg : Expr} {ta : TA} {p pos : Pos} (hg : Gl X "permutations") (hm : X.mg "permutations" = some (.type "itertools.permutations")) (ha : PA X [e] ta)
    (hs : starEach [e] X.env = [(false, eval e X.env)] := by rfl) : PI X tg (.Call (.Name "permutations" p) [e] [] pos) (iPm X.K ta) := by
  refine ⟨fun pins s σ H R I h => Call_ (ld_glob I hg hm (PyProof.Rows.callWith_type1 (thn (ha.run pos pins s σ H _ I h) ?_) hs rfl) (by decide))⟩
  rintro us s1 ⟨vs, H1, J, r, l, n, rfl, ql, n1, n3, q⟩
  obtain ⟨u1, rfl, r1⟩ := vals1 r
  cases r1
  obtain ⟨as, rv, p1, _⟩ := J.list ql
  obtain ⟨hl, hk⟩ := ints_at_k rv
  refine call_pm p1.isList hl n3 fun h1 h' b a1 a2 a3 a4 a5 a6 => ?_
  subst a2
  have J1 := J.kept (t' := s1.toks) a1
  have J2 := J1.kept (t' := s1.toks) a3
  have st : StP n h1.objs.size 0 h' := by
    refine ⟨n1, n3, ⟨.none, ?_⟩, ⟨as, _, a5, hl, hk⟩, Nat.le_of_eq a4.symm⟩
    rw [ek n n1 n3] at a6
    rw [if_pos rfl, if_pos rfl]
    exact a6
  refine turn_P.self (P := X.prog) (w := X.w) (K := X.K) (tg := tg) _ 0 _ _ _ st ?_
  refine ⟨h1.objs.size + 1, duo h1.objs.size, StP n h1.objs.size, ItP n, H1, rfl, J2, turn_P, st, fun c hc => ?_, q⟩
  have hle := (mem2 hc).1
  exact J1.fpOk hle (J1.hok.fresh hle)
theorem walk_pm {n : Nat} : Walk (ItP n) (perms n).length (fun _ => True) (fun i H v H' => ∃ T ks o, v = .ref T ∧ H T = none ∧ o.dict = none ∧ (perms n)[i]? = some ks ∧ H' = upd H T (.frz o (.tup (ks.map fun k => V.int ((k : Nat) : Int))))) :=
  ⟨fun i _ hi _ => hi, fun _ _ => rfl, fun i H v H' _ _ y => y⟩
end Px
end

section
set_option Elab.async false
set_option linter.all false
set_option maxRecDepth 100000
set_option maxHeartbeats 4000000
/-! Sources, their pairs, what ties them; links of an order. -/
namespace Gd
open PySem PySem.Spec PyProof.Rows L2
/-- a pair: its own column, the other's nick, that one's column -/
structure Pr where
  c : Str
  o : Str
  d : Str
deriving DecidableEq
structure Src where
  way : Str
  nick : Str
  table : Str
  pairs : List Pr
def prD (p : Pr) : PyData := .tuple [.str p.c, .str p.o, .str p.d]
def srcD (s : Src) : PyData := .tuple [.str s.way, .str s.nick, .str s.table, .tuple (s.pairs.map Gd.prD)]
def noSrc : Src := ⟨"", "", "", []⟩
def aliasAt (ss : List Src) (k : Nat) : Str := (ss.getD k noSrc).nick
/-- what one pair of a source gives -/
def tie1 (own : Str) (al : List Str) (s : Src) (p : Pr) : List Pr :=
  if decide (s.nick = own) && decide (p.o ∈ al) then [p] else if decide (p.o = own) && decide (s.nick ∈ al) then [⟨p.d, s.nick, p.c⟩] else []
def tieS (own : Str) (al : List Str) (s : Src) : List Pr := s.pairs.flatMap (tie1 own al s)
def tied (ss : List Src) (n : Nat) (js : List Nat) : List Pr := ss.flatMap (tieS (aliasAt ss n) (js.map (aliasAt ss)))
/-- the links of an order -/
def link1 (ss : List Src) (js : List Nat) (n : Nat) : List (Nat × Pr) := match tied ss n js with
  | [] => []
  | p :: _ => [(n, p)]
def linksA (ss : List Src) (order : List Nat) (i : Nat) : List (Nat × Pr) := (List.range i).flatMap fun k => link1 ss (order.take k) (order.getD k 0)
def link2 (ss : List Src) (n : Nat) : List (Nat × Pr) := match (ss.getD n noSrc).pairs with
  | [] => []
  | p :: _ => [(n, p)]
def linksB (ss : List Src) (m i : Nat) : List (Nat × Pr) := (List.range i).flatMap fun k => link2 ss (m + k)
def linksL (ss : List Src) (order : List Nat) : List (Nat × Pr) := linksA ss order order.length ++ linksB ss order.length (ss.length - order.length)
theorem linksA_succ {ss : List Src} {order : List Nat} {i : Nat} : linksA ss order (i + 1) = linksA ss order i ++ link1 ss (order.take i) (order.getD i 0) := by
  unfold linksA
  rw [List.range_succ, List.flatMap_append]
  simp
theorem linksB_succ {ss : List Src} {m i : Nat} : linksB ss m (i + 1) = linksB ss m i ++ link2 ss (m + i) := by
  unfold linksB
  rw [List.range_succ, List.flatMap_append]
  simp
theorem link1_nums {ss : List Src} {js : List Nat} {n : Nat} : ∀ x ∈ link1 ss js n, x.1 = n := by
  intro x hx
  unfold link1 at hx
  split at hx
  · cases hx
  · rw [List.mem_singleton.mp hx]
theorem link2_nums {ss : List Src} {n : Nat} : ∀ x ∈ link2 ss n, x.1 = n := by
  intro x hx
  unfold link2 at hx
  split at hx
  · cases hx
  · rw [List.mem_singleton.mp hx]
theorem linksA_nums {ss : List Src} {order : List Nat} : ∀ {i : Nat}, ∀ x ∈ linksA ss order i, ∃ k, k < i ∧ x.1 = order.getD k 0 := by
  intro i x hx
  unfold linksA at hx
  obtain ⟨k, hk, hx⟩ := List.mem_flatMap.mp hx
  exact ⟨k, List.mem_range.mp hk, link1_nums x hx⟩
theorem linksB_nums {ss : List Src} {m : Nat} : ∀ {i : Nat}, ∀ x ∈ linksB ss m i, m ≤ x.1 ∧ x.1 < m + i := by
  intro i x hx
  unfold linksB at hx
  obtain ⟨k, hk, hx⟩ := List.mem_flatMap.mp hx
  have := List.mem_range.mp hk
  rw [link2_nums x hx]
  omega
/-- well made: aliases unlike, each pair goes to a source of the first m ahead -/
structure Well (ss : List Src) (m : Nat) : Prop where
  le : m ≤ ss.length
  uniq : ∀ i j, i < ss.length → j < ss.length → aliasAt ss i = aliasAt ss j → i = j
  ahead : ∀ k, k < ss.length → ∀ p ∈ (ss.getD k noSrc).pairs, ∃ j, j < k ∧ j < m ∧ p.o = aliasAt ss j
theorem getD_mem' {α : Type} {l : List α} {i : Nat} {d : α} (h : i < l.length) : l.getD i d ∈ l := by
  rw [List.getD_eq_getElem?_getD, List.getElem?_eq_getElem h]
  exact List.getElem_mem h
theorem tied_of {ss : List Src} {n k : Nat} {js : List Nat} {p q : Pr} (hk : k < ss.length) (hp : p ∈ (ss.getD k noSrc).pairs) (h : q ∈ tie1 (aliasAt ss n) (js.map (aliasAt ss)) (ss.getD k noSrc) p) : tied ss n js ≠ [] := by
  intro e
  have : q ∈ tied ss n js := by
    unfold tied
    refine List.mem_flatMap.mpr ⟨ss.getD k noSrc, getD_mem' hk, ?_⟩
    exact List.mem_flatMap.mpr ⟨p, hp, h⟩
  rw [e] at this
  cases this
theorem link1_ne {ss : List Src} {js : List Nat} {n : Nat} (h : tied ss n js ≠ []) : link1 ss js n ≠ [] := by
  unfold link1
  split
  · rename_i e
    exact absurd e h
  · exact fun z => nomatch z
/-- an order of the first m has a link where some source has a pair -/
theorem links_some {ss : List Src} {m : Nat} {order : List Nat} (w : Well ss m) (hl : order.length = m) (hp : ∀ j, j < m → ∃ a, a < m ∧ order.getD a 0 = j) (hlt : ∀ a, a < m → order.getD a 0 < m)
    {k : Nat} (hk : k < ss.length) (h : (ss.getD k noSrc).pairs ≠ []) : linksL ss order ≠ [] := by
  obtain ⟨p, hpm⟩ : ∃ p, p ∈ (ss.getD k noSrc).pairs := by
    cases e : (ss.getD k noSrc).pairs with
    | nil => exact absurd e h
    | cons p _ => exact ⟨p, by simp⟩
  have wle := w.le
  intro e
  rw [linksL, List.append_eq_nil_iff] at e
  obtain ⟨e1, e2⟩ := e
  by_cases c : k < m
  · obtain ⟨j, jk, jm, po⟩ := w.ahead k hk p hpm
    obtain ⟨a, a1, a2⟩ := hp k c
    obtain ⟨b, b1, b2⟩ := hp j jm
    have none_at : ∀ i, i < order.length → link1 ss (order.take i) (order.getD i 0) = [] := fun i hi => by
      unfold linksA at e1
      exact List.flatMap_eq_nil_iff.mp e1 i (List.mem_range.mpr hi)
    have inTake : ∀ {x y : Nat}, x < y → x < m → order.getD x 0 ∈ order.take y := fun {x y} hxy hx => by
      have : (order.take y)[x]? = some (order.getD x 0) := by
        rw [List.getElem?_take_of_lt hxy, List.getD_eq_getElem?_getD, List.getElem?_eq_getElem (by omega)] <;> rfl
      exact List.mem_of_getElem? this
    have hab : a ≠ b := fun z => by
      rw [z, b2] at a2
      omega
    rcases Nat.lt_or_gt_of_ne hab with lt | gt
    · -- the pair's source stands ahead: the other one is tied
      refine link1_ne ?_ (none_at b (by omega))
      rw [b2]
      refine tied_of (q := ⟨p.d, (ss.getD k noSrc).nick, p.c⟩) hk hpm ?_
      have n1 : ¬ (ss.getD k noSrc).nick = aliasAt ss j := fun z => by
        have := w.uniq k j hk (by omega) z
        omega
      have m1 : (ss.getD k noSrc).nick ∈ (order.take b).map (aliasAt ss) := List.mem_map.mpr ⟨k, by have := inTake lt a1; rw [a2] at this; exact this, rfl⟩
      unfold tie1
      rw [decide_eq_false n1, Bool.false_and, if_neg (by simp), decide_eq_true po, decide_eq_true m1]
      simp
    · refine link1_ne ?_ (none_at a (by omega))
      rw [a2]
      refine tied_of (q := p) hk hpm ?_
      have m1 : p.o ∈ (order.take a).map (aliasAt ss) := List.mem_map.mpr ⟨j, by have := inTake gt b1; rw [b2] at this; exact this, po.symm⟩
      unfold tie1
      rw [decide_eq_true (show (ss.getD k noSrc).nick = aliasAt ss k from rfl), decide_eq_true m1]
      simp
  · have : link2 ss k = [] := by
      unfold linksB at e2
      have z := List.flatMap_eq_nil_iff.mp e2 (k - order.length) (List.mem_range.mpr (by omega))
      rw [show order.length + (k - order.length) = k by omega] at z
      exact z
    unfold link2 at this
    split at this
    · rename_i z
      exact h z
    · cases this
theorem links_none {ss : List Src} {order : List Nat} (h : ∀ s ∈ ss, s.pairs = []) : linksL ss order = [] := by
  have t : ∀ n js, tied ss n js = [] := fun n js => by
    unfold tied
    refine List.flatMap_eq_nil_iff.mpr fun s hs => ?_
    unfold tieS
    rw [h s hs]
    rfl
  have a : ∀ i, linksA ss order i = [] := fun i => by
    unfold linksA
    refine List.flatMap_eq_nil_iff.mpr fun k _ => ?_
    unfold link1
    rw [t]
  have b : ∀ m i, linksB ss m i = [] := fun m i => by
    unfold linksB
    refine List.flatMap_eq_nil_iff.mpr fun k _ => ?_
    unfold link2
    have : (ss.getD (m + k) noSrc).pairs = [] := by
      by_cases c : m + k < ss.length
      · exact h _ (getD_mem' c)
      · rw [List.getD_eq_getElem?_getD, List.getElem?_eq_none (by omega)]
        rfl
    rw [this]
  unfold linksL
  rw [a, b]
  rfl
end Gd
end

section
set_option Elab.async false
set_option linter.all false
set_option maxRecDepth 100000
set_option maxHeartbeats 4000000
/-! Links of every number of an order, told otherwise: the first pair between it and those ahead. -/
namespace Gd
open PySem PySem.Spec PyProof.Rows L2
/-- those ahead of n -/
def aheadOf (o : List Nat) (n : Nat) : List Nat := if n ∈ o then o.take (o.idxOf n) else o
def lawG (ss : List Src) (o : List Nat) (n : Nat) : List (Nat × Pr) := link1 ss (aheadOf o n) n
def lawL (ss : List Src) (o : List Nat) (i : Nat) : List (Nat × Pr) := (List.range i).flatMap (lawG ss o)
theorem idx_get {o : List Nat} (nd : o.Nodup) {k : Nat} (hk : k < o.length) : o.idxOf (o.getD k 0) = k := by
  rw [List.getD_eq_getElem?_getD, List.getElem?_eq_getElem hk]
  exact nd.idxOf_getElem k hk
theorem linksA_flat {ss : List Src} {o : List Nat} (nd : o.Nodup) : linksA ss o o.length = o.flatMap (lawG ss o) := by
  have key : ∀ i, i ≤ o.length → linksA ss o i = (o.take i).flatMap (lawG ss o) := fun i => by
    induction i with
    | zero => intro _; rfl
    | succ i ih =>
      intro hi
      have e : o[i]? = some (o.getD i 0) := by rw [List.getD_eq_getElem?_getD, List.getElem?_eq_getElem (by omega)] <;> rfl
      have m : o.getD i 0 ∈ o := List.mem_of_getElem? e
      rw [linksA_succ, ih (by omega), List.take_succ, e, List.flatMap_append]
      congr 1
      show _ = lawG ss o (o.getD i 0) ++ []
      rw [List.append_nil]
      unfold lawG aheadOf
      rw [if_pos m, idx_get nd (by omega)]
  have := key o.length (Nat.le_refl _)
  rw [List.take_length] at this
  exact this
/-- a source that is not in the order: its own pairs -/
theorem tied_own {ss : List Src} {m n : Nat} {o : List Nat} (w : Well ss m) (hn : n < ss.length) (hm : m ≤ n) (hl : o.length = m) (hp : ∀ j, j < m → j ∈ o) (hlt : ∀ j ∈ o, j < m) : tied ss n o = (ss.getD n noSrc).pairs := by
  have one : ∀ k, k < ss.length → tieS (aliasAt ss n) (o.map (aliasAt ss)) (ss.getD k noSrc) = if k = n then (ss.getD n noSrc).pairs else [] := by
    intro k hk
    by_cases e : k = n
    · subst e
      rw [if_pos rfl]
      unfold tieS
      have : ∀ ps : List Pr, (∀ p ∈ ps, p ∈ (ss.getD k noSrc).pairs) → ps.flatMap (tie1 (aliasAt ss k) (o.map (aliasAt ss)) (ss.getD k noSrc)) = ps := fun ps => by
        induction ps with
        | nil => intro _; rfl
        | cons p ps ih =>
          intro h
          rw [List.flatMap_cons, ih fun x hx => h x (by simp [hx])]
          obtain ⟨j, _, j2, j3⟩ := w.ahead k hk p (h p (by simp))
          have : tie1 (aliasAt ss k) (o.map (aliasAt ss)) (ss.getD k noSrc) p = [p] := by
            unfold tie1
            have a : decide ((ss.getD k noSrc).nick = aliasAt ss k) = true := decide_eq_true rfl
            have b : decide (p.o ∈ o.map (aliasAt ss)) = true := decide_eq_true (by rw [j3]; exact List.mem_map_of_mem (hp j j2))
            rw [a, b]
            rfl
          rw [this]
          rfl
      exact this _ fun p h => h
    · rw [if_neg e]
      unfold tieS
      refine List.flatMap_eq_nil_iff.mpr fun p hp' => ?_
      obtain ⟨j, _, j2, j3⟩ := w.ahead k hk p hp'
      unfold tie1
      have a : decide ((ss.getD k noSrc).nick = aliasAt ss n) = false := decide_eq_false fun z => e (w.uniq k n hk hn z)
      have b : decide (p.o = aliasAt ss n) = false := decide_eq_false fun z => by
        have := w.le
        have := w.uniq j n (by omega) hn (j3.symm.trans z)
        omega
      rw [a, b]
      rfl
  have all : ∀ i, i ≤ ss.length → (ss.take i).flatMap (tieS (aliasAt ss n) (o.map (aliasAt ss))) = if n < i then (ss.getD n noSrc).pairs else [] := fun i => by
    induction i with
    | zero => intro _; rfl
    | succ i ih =>
      intro hi
      have e : ss[i]? = some (ss.getD i noSrc) := by rw [List.getD_eq_getElem?_getD, List.getElem?_eq_getElem (by omega)] <;> rfl
      rw [List.take_succ, e, List.flatMap_append, ih (by omega)]
      show _ ++ (tieS _ _ (ss.getD i noSrc) ++ []) = _
      rw [List.append_nil, one i (by omega)]
      by_cases z : n < i
      · rw [if_pos z, if_neg (show ¬ i = n by omega), if_pos (by omega), List.append_nil]
      · by_cases z2 : i = n
        · rw [if_neg z, if_pos z2, if_pos (by omega)]
          rfl
        · rw [if_neg z, if_neg z2, if_neg (by omega)]
          rfl
  have := all ss.length (Nat.le_refl _)
  rw [List.take_length, if_pos hn] at this
  exact this
theorem linksB_flat {ss : List Src} {m : Nat} {o : List Nat} (w : Well ss m) (hl : o.length = m) (hp : ∀ j, j < m → j ∈ o) (hlt : ∀ j ∈ o, j < m) : linksB ss m (ss.length - m) = (List.range (ss.length - m)).flatMap fun k => lawG ss o (m + k) := by
  unfold linksB
  have : ∀ ks : List Nat, (∀ k ∈ ks, k < ss.length - m) → (ks.flatMap fun k => link2 ss (m + k)) = ks.flatMap fun k => lawG ss o (m + k) := fun ks => by
    induction ks with
    | nil => intro _; rfl
    | cons k ks ih =>
      intro h
      rw [List.flatMap_cons, List.flatMap_cons, ih fun x hx => h x (by simp [hx])]
      congr 1
      have hk := h k (by simp)
      have no : m + k ∉ o := fun z => by have := hlt _ z; omega
      unfold lawG aheadOf link1 link2
      rw [if_neg no, tied_own w (by omega) (by omega) hl hp hlt]
  exact this _ fun k hk => List.mem_range.mp hk
theorem links_perm {ss : List Src} {m : Nat} {o : List Nat} (w : Well ss m) (nd : o.Nodup) (hl : o.length = m) (hp : ∀ j, j < m → j ∈ o) (hlt : ∀ j ∈ o, j < m) : List.Perm (linksL ss o) (lawL ss o ss.length) := by
  have pr : List.Perm o (List.range m) := by
    refine (List.perm_ext_iff_of_nodup nd List.nodup_range).mpr fun j => ?_
    rw [List.mem_range]
    exact ⟨hlt j, hp j⟩
  have sp : List.range ss.length = List.range m ++ (List.range (ss.length - m)).map (m + ·) := by
    have := w.le
    conv => lhs; rw [show ss.length = m + (ss.length - m) by omega]
    exact List.range_add ..
  unfold linksL lawL
  rw [linksA_flat nd, hl, linksB_flat w hl hp hlt, sp, List.flatMap_append, List.flatMap_map]
  exact (pr.flatMap_right _).append (List.Perm.refl _)
end Gd
end

section
set_option Elab.async false
set_option linter.all false
set_option maxRecDepth 100000
set_option maxHeartbeats 4000000
/-! dicts of data compared, whatever the order their keys stand in; the place of a number in a tuple of numbers -/
namespace Gd
open PySem PySem.Spec PyProof.Rows L2
/-- the same under each key -/
def SameAt (K : PySem.W.Frag) (H : Hp) (ks ls : List (Key × V)) : Prop := ks.length = ls.length ∧ ∀ p ∈ ks, ∃ v' d, valV ls p.1 = some v' ∧ Dp K H p.2 d ∧ Dp K H v' d ∧ SeqAt.shaped d = true
section
variable {X : Cx} {pins : List (Addr × Obj)} {σ : L2.St} {H : Hp} {s : Shared}
theorem hits_data (I : Inv X pins σ H s) {A : Around} (hA : A.units + 64 < cLine) {ls : List (Key × V)} {vb : List (Key × Value)} (rb : KV ls vb) {ks : List (Key × V)} {va : List (Key × Value)} (ra : KV ks va) :
    (∀ p ∈ ks, ∃ v' d, valV ls p.1 = some v' ∧ Dp X.K H p.2 d ∧ Dp X.K H v' d ∧ SeqAt.shaped d = true) → PySem.W.KeqHits A s vb va true := by
  unfold KV at ra
  induction ra with
  | nil => intro _; exact .nil
  | @cons p q ps qs h t ih =>
    intro hp
    obtain ⟨h1, h2⟩ := h
    obtain ⟨v', d, e, d1, d2, sh⟩ := hp p List.mem_cons_self
    have rr : RelO (some v') (valueAt vb p.1) := by rw [← e]; exact rb.val p.1
    obtain ⟨y, hy, ry⟩ := rr.some_of
    obtain ⟨k, v⟩ := q
    have h1' : p.1 = k := h1
    rw [h1'] at hy
    obtain ⟨as, r1⟩ := Dp.reads I d p.2 v d1 h2
    obtain ⟨bs, r2⟩ := Dp.reads I d v' y d2 ry
    have cl := SeqAt.canLay_of_shaped sh
    have dp := SeqAt.depth_of_shaped sh
    have eq := SeqAt.eqAt_reads d d A s v y as bs r1 r2 cl cl (by rw [Nat.min_self]; omega)
    rw [SeqAt.eqv_refl d cl] at eq
    show PySem.W.KeqHits A s vb ((k, v) :: qs) (true && true)
    exact .hit hy eq (ih fun p' hm => hp p' (List.mem_cons_of_mem _ hm))
def rDD (K : PySem.W.Frag) (b : Bool) : R2 := fun x y H Q => ∃ a c ks ls, x = .ref a ∧ y = .ref c ∧ H a = some (.dK ks) ∧ H c = some (.dK ls) ∧ SameAt K H ks ls ∧ Q (.bl b) H
theorem op_eqDD (hu : X.A.units + 65 < cLine) : OpR X (compareOp .Eq) (rDD X.K true) := by
  intro pins s σ H x y v u Q I rx ry h
  obtain ⟨a, b, ks, ls, rfl, rfl, ea, eb, ⟨hlen, hp⟩, q⟩ := h
  obtain rfl : v = Value.ref a := rx
  obtain rfl : u = Value.ref b := ry
  obtain ⟨_, ya, va, ra, da⟩ := (show ObjOk X.prog X.w H s.heap a (.dK ks) from I.hok a _ ea)
  obtain ⟨_, yb, vb, rb, db⟩ := (show ObjOk X.prog X.w H s.heap b (.dK ls) from I.hok b _ eb)
  have hl : va.length = vb.length := by rw [← ra.length, ← rb.length]; exact hlen
  exact PySem.W.keq_eq (knd := mixKind X.prog X.w) (r := true) ya yb da db (by omega) (fun _ => hits_data I (by show X.A.units + 1 + 64 < cLine; omega) rb ra hp) (fin_bl I q (by simp [hl]))
theorem op_neDD (hu : X.A.units + 65 < cLine) : OpR X (compareOp .NotEq) (rDD X.K false) := by
  intro pins s σ H x y v u Q I rx ry h
  obtain ⟨a, b, ks, ls, rfl, rfl, ea, eb, ⟨hlen, hp⟩, q⟩ := h
  obtain rfl : v = Value.ref a := rx
  obtain rfl : u = Value.ref b := ry
  obtain ⟨_, ya, va, ra, da⟩ := (show ObjOk X.prog X.w H s.heap a (.dK ks) from I.hok a _ ea)
  obtain ⟨_, yb, vb, rb, db⟩ := (show ObjOk X.prog X.w H s.heap b (.dK ls) from I.hok b _ eb)
  have hl : va.length = vb.length := by rw [← ra.length, ← rb.length]; exact hlen
  exact PySem.W.keq_ne (knd := mixKind X.prog X.w) (r := true) ya yb da db (by omega) (fun _ => hits_data I (by show X.A.units + 1 + 64 < cLine; omega) rb ra hp) (fin_bl I q (by simp [hl]))
end
theorem flat_ints (ys : List Int) : (ys.map V.int).all flatV = true := by
  rw [List.all_map]
  exact List.all_eq_true.mpr fun _ _ => rfl
section
variable {X : Cx}
/-- t.index(i), the first place -/
def rTupIx (K : PySem.W.Frag) : V → List V → Hp → VK → Prop := fun x xs H Q => ∃ (p : Addr) (ys : List Int) (z : Int) (j : Nat), x = .ref p ∧ xs = [.int z] ∧ SqT K H p (ys.map V.int) ∧ ys[j]? = some z ∧ (∀ m, m < j → ys[m]? ≠ some z) ∧ Q (.int (j : Nat)) H
theorem mt_tup_indexN : MtR X "tuple.index" (rTupIx X.K) := by
  intro pins s σ H x xs v us Q I rx rs h
  obtain ⟨p, ys, z, j, rfl, rfl, hq, hy, hno, q⟩ := h
  cases rx
  obtain ⟨u, rfl, t, rfl⟩ := vals1 rs
  obtain ⟨its, r, pl, hz⟩ := I.tuple hq
  obtain ⟨⟨cls, dd, dt, sl⟩, ho, hc, n, hd⟩ := pl
  simp only at hc hd
  subst hc
  subst hd
  have hl : its.toArray.size = ys.length := by rw [List.size_toArray, ← r.length, List.length_map]
  have hj : j < its.toArray.size := by rw [hl]; exact (List.getElem?_eq_some_iff.mp hy).1
  have at' : ∀ (m : Nat) (hm : m < its.toArray.size), ∃ y t', ys[m]? = some y ∧ its.toArray[m] = Value.int y t' := fun m hm => by
    have hm' : m < ys.length := by rw [← hl]; exact hm
    obtain ⟨w, hw, t', hw'⟩ := r.get (i := m) (x := .int ys[m]) (by simp [hm'])
    refine ⟨ys[m], t', List.getElem?_eq_getElem hm', ?_⟩
    have e := (List.getElem?_eq_some_iff.mp hw).2
    rw [← hw', ← e]
    simp
  refine call_meets PySem.F.slot_tuple_index ⟨_, ho, rfl⟩ PySem.F.entry_tuple_index (PySem.F.args_tuple_index_2 _ _) (TI.tuple_indexAt p its.toArray n dd sl (.int z t) (eqU (.int z)) j hj ?_ ?_)
    ⟨ho, fun w hw => mem_eqAt (x := .int z) ⟨t, rfl⟩ rfl r (flat_ints ys) w (by simpa using hw), ⟨.int (j : Nat), H, I.tok _, ⟨_, rfl⟩, q⟩⟩
  · obtain ⟨y, t', h1, h2⟩ := at' j hj
    rw [hy] at h1
    cases h1
    rw [h2]
    show (z == z) = true
    exact beq_self_eq_true z
  · intro m hm hmj
    obtain ⟨y, t', h1, h2⟩ := at' m hm
    rw [h2]
    show (y == z) = false
    exact beq_eq_false_iff_ne.mpr fun e => hno m hmj (e ▸ h1)
end
/-- a tuple whose object is known: it has no attributes of its own -/
def FzT (H : Hp) (a : Addr) (xs : List V) : Prop := ∃ o : Obj, H a = some (.frz o (.tup xs)) ∧ o.dict = none
theorem FzT.seq {K : PySem.W.Frag} {H : Hp} {a : Addr} {xs : List V} (h : FzT H a xs) : SqT K H a xs := by
  obtain ⟨o, e, _⟩ := h
  exact .inl (.inr ⟨o, e⟩)
theorem FzT.same {H H' : Hp} {a : Addr} {xs : List V} (h : FzT H a xs) (s : Same H H') : FzT H' a xs := by
  obtain ⟨o, e, d⟩ := h
  exact ⟨o, s _ _ e, d⟩
section
variable {X : Cx} {o e : Expr} {es : List Expr} {to : TE} {t : TA} {name : Str} {apos cpos : Pos} {id : String} {r : V → List V → Hp → VK → Prop}
def tBMT (r : V → List V → Hp → VK → Prop) (to : TE) (t : TA) : TE := fun σ H Q => to σ H fun x H1 => (∃ a xs, x = .ref a ∧ FzT H1 a xs) ∧ t σ H1 fun ys H2 => r x ys H2 Q
/-- t.m(..) of such a tuple -/
theorem pe_bmT (slot : Slot "tuple" name id) (hty : typeOf (.builtin id) = pure (.type "method_descriptor")) (hm : MtR X id r) (ho : PE X o to) (ha : PA X (e :: es) t)
    (hbase : attributeBase o name X.env (eval o X.env) = eval o X.env := by rfl)
    (hfew : ((backTo cpos (starEach (e :: es) X.env)).all (fun x => !x.1) && (backToKw cpos (keywordEach [] X.env)).all (fun x => x.1.isSome)
      && decide ((e :: es).length + ([] : List Keyword).length + (if ([] : List Keyword).isEmpty then 0 else 1) < 30)) = true := by rfl)
    (hline : (apos.endLine == cpos.line) = true := by rfl) (hs : starEach (e :: es) X.env = (false, eval e X.env) :: starEach es X.env := by rfl) (hplain : (backTo cpos (starEach es X.env)).any (·.1) = false := by rfl) :
    PE X (.Call (.Attribute o name apos) (e :: es) [] cpos) (tBMT r to t) := by
  refine ⟨fun pins s σ H Q I h => ?_⟩
  refine wpAny_Call_method_late hbase hfew hline rfl (thn (ho.run pins s σ H _ I h) fun v s1 ⟨x, H1, I1, r1, ⟨a, xs, ex, ob, eo, od⟩, q1⟩ => ?_)
  subst ex
  obtain rfl : v = Value.ref a := r1
  obtain ⟨g1, _, its, _, o2, g2, c2, _⟩ := I1.hok a _ eo
  have g3 := g1.symm.trans g2
  cases g3
  refine ⟨"tuple", id, PySem.F.plainAttrs_tuple, slot, hty, ⟨ob, g1, c2⟩, fun b e2 => by cases e2; exact ⟨ob, g1, od⟩, ?_⟩
  have hA := ha.run cpos pins s1 σ H1 _ I1 q1
  rw [hs] at hA ⊢
  refine Calls.callWith_builtin (by show (false || (backTo cpos (starEach es X.env)).any (·.1)) = false; rw [hplain] <;> rfl) (Calls.evalArgs_plain ?_)
  exact thn hA fun us s2 ⟨vs, H2, I2, r2, q2⟩ => hm pins s2 σ H2 (.ref a) vs (.ref a) us Q I2 rfl r2 q2
end
end Gd
end

section
set_option Elab.async false
set_option linter.all false
set_option maxRecDepth 100000
set_option maxHeartbeats 4000000
namespace Gd
open PySem PySem.Spec PyProof.Rows L2 Gd
/-! Counts of tables, and the guess by them, by numbers alone. -/
abbrev Cnt := List (Str × Int × List (Str × Int))
def unD (us : List (Str × Int)) : List (PyData × PyData) := us.map fun x => (.str x.1, .int x.2)
def cnE (e : Str × Int × List (Str × Int)) : PyData × PyData := (.str e.1, .tuple [.int e.2.1, .dict (unD e.2.2)])
def cnD (cs : Cnt) : PyData := .dict (cs.map cnE)
def findC {α : Type} (cs : List (Str × α)) (x : Str) : Option (Str × α) := cs.find? fun e => decide (e.1 = x)
def entC (cs : Cnt) (x : Str) : Int × List (Str × Int) := match findC cs x with
  | some e => e.2
  | none => (1, [])
def unlC (us : List (Str × Int)) (c : Str) : Int := match findC us c with
  | some e => e.2
  | none => 1
theorem findC_cons {α : Type} (e : Str × α) (cs : List (Str × α)) (x : Str) : findC (e :: cs) x = if e.1 = x then some e else findC cs x := by
  unfold findC
  rw [List.find?_cons]
  by_cases h : e.1 = x
  · rw [if_pos h, decide_eq_true h]
  · rw [if_neg h, decide_eq_false h]
theorem valV_cons (k : Key) (v : V) (kvs : List (Key × V)) (q : Key) : valV ((k, v) :: kvs) q = if k = q then some v else valV kvs q := by
  unfold valV
  rw [List.find?_cons]
  by_cases h : k = q
  · rw [if_pos h, decide_eq_true h]
    rfl
  · rw [if_neg h, decide_eq_false h]
section
variable {K : PySem.W.Frag} {H : Hp} {N : Addr → Prop}
theorem kv_ent (x : Str) : ∀ {cs : Cnt} {kvs : List (Key × V)}, DgKv K H N kvs (cs.map cnE) → (findC cs x = none ∧ valV kvs (Sum.inr x) = none) ∨
    ∃ e t, findC cs x = some e ∧ valV kvs (Sum.inr x) = some (.ref t) ∧ Dg K H N (.ref t) (.tuple [.int e.2.1, .dict (unD e.2.2)])
  | [], _, h => by
    cases h
    exact .inl ⟨rfl, rfl⟩
  | e :: cs, _, h => by
    rw [List.map_cons] at h
    cases h with
    | @consS y v kvs d ps h1 h2 =>
      rw [findC_cons, valV_cons]
      by_cases z : e.1 = x
      · have z2 : (Sum.inr e.1 : Key) = Sum.inr x := congrArg Sum.inr z
        rw [if_pos z, if_pos z2]
        have h3 : Dg K H N v (.tuple [.int e.2.1, .dict (unD e.2.2)]) := h1
        cases h3 with
        | tup a b => exact .inr ⟨e, _, rfl, rfl, .tup a b⟩
      · have z2 : ¬ (Sum.inr e.1 : Key) = Sum.inr x := fun q => z (Sum.inr.inj q)
        rw [if_neg z, if_neg z2]
        exact kv_ent x h2
theorem kv_unl (c : Str) : ∀ {us : List (Str × Int)} {kvs : List (Key × V)}, DgKv K H N kvs (unD us) → valV kvs (Sum.inr c) = (findC us c).map fun e => .int e.2
  | [], _, h => by
    cases h
    rfl
  | e :: us, _, h => by
    unfold unD at h
    rw [List.map_cons] at h
    cases h with
    | @consS y v kvs d ps h1 h2 =>
      rw [findC_cons, valV_cons]
      by_cases z : e.1 = c
      · have z2 : (Sum.inr e.1 : Key) = Sum.inr c := congrArg Sum.inr z
        rw [if_pos z, if_pos z2]
        have h3 : Dg K H N v (.int e.2) := h1
        cases h3
        rfl
      · have z2 : ¬ (Sum.inr e.1 : Key) = Sum.inr c := fun q => z (Sum.inr.inj q)
        rw [if_neg z, if_neg z2]
        exact kv_unl c h2
end
/-! the guess -/
def tabOf (ss : List Src) (n : Nat) : Str := (ss.getD n noSrc).table
def rowsG (ss : List Src) (cs : Cnt) (n : Nat) : Int := (entC cs (tabOf ss n)).1
def linkG (ls : List (Nat × Pr)) (n : Nat) : Option Pr := (ls.find? fun x => decide (x.1 = n)).map (·.2)
def max1 (j : Int) : Int := if j > 1 then j else 1
def shareG (ss : List Src) (ls : List (Nat × Pr)) (cs : Cnt) (n : Nat) : Int := match linkG ls n with
  | none => rowsG ss cs n
  | some p => -((-(rowsG ss cs n)) / max1 (unlC (entC cs (tabOf ss n)).2 p.c))
def ledL (ss : List Src) (o : List Nat) : List Nat := o.drop 1 ++ (List.range (ss.length - o.length)).map (o.length + ·)
def stepG (ss : List Src) (ls : List (Nat × Pr)) (cs : Cnt) (o : List Nat) (w : Str) (st : Int × Int) (n : Nat) : Int × Int :=
  (if n ∈ o then st.1 * shareG ss ls cs n else st.1,
   st.2 + (if w = "kept" ∧ (linkG ls n).isSome = true then rowsG ss cs n + st.1 * shareG ss ls cs n else st.1 * rowsG ss cs n))
def goG (ss : List Src) (cs : Cnt) (o : List Nat) (w : Str) (ns : List Nat) : Int × Int := ns.foldl (stepG ss (linksL ss o) cs o w) (rowsG ss cs (o.getD 0 0), 1 + rowsG ss cs (o.getD 0 0))
def guessN (ss : List Src) (cs : Cnt) (o : List Nat) (w : Str) : Int := (goG ss cs o w (ledL ss o)).2
/-- counts of at most thirty figures -/
def CnOk (cs : Cnt) : Prop := ∀ e ∈ cs, 0 ≤ e.2.1 ∧ e.2.1 ≤ 10 ^ 30 ∧ ∀ u ∈ e.2.2, 0 ≤ u.2 ∧ u.2 ≤ 10 ^ 30
section
variable {ss : List Src} {cs : Cnt} {ls : List (Nat × Pr)} {n : Nat}
theorem findC_mem {α : Type} {cs : List (Str × α)} {x : Str} {e : Str × α} (h : findC cs x = some e) : e ∈ cs ∧ e.1 = x := ⟨List.mem_of_find?_eq_some h, by have := List.find?_some h; exact of_decide_eq_true this⟩
theorem ent_in (h : CnOk cs) (x : Str) : 0 ≤ (entC cs x).1 ∧ (entC cs x).1 ≤ 10 ^ 30 ∧ ∀ u ∈ (entC cs x).2, 0 ≤ u.2 ∧ u.2 ≤ 10 ^ 30 := by
  unfold entC
  cases e : findC cs x with
  | none => exact ⟨by decide, by decide, fun u m => nomatch m⟩
  | some y => exact h y (findC_mem e).1
theorem rowsG_in (h : CnOk cs) : 0 ≤ rowsG ss cs n ∧ rowsG ss cs n ≤ 10 ^ 30 := ⟨(ent_in h _).1, (ent_in h _).2.1⟩
theorem max1_ge (j : Int) : 1 ≤ max1 j := by
  unfold max1
  split <;> omega
theorem unl_in (h : CnOk cs) (x c : Str) : unlC (entC cs x).2 c ≤ 10 ^ 30 := by
  unfold unlC
  cases e : findC (entC cs x).2 c with
  | none => decide
  | some y => exact ((ent_in h x).2.2 y (findC_mem e).1).2
theorem max1_in (h : CnOk cs) (x c : Str) : max1 (unlC (entC cs x).2 c) ≤ 10 ^ 30 := by
  unfold max1
  split
  · exact unl_in h x c
  · decide
theorem up_in {r u : Int} (h0 : 0 ≤ r) (hu : 1 ≤ u) : 0 ≤ -((-r) / u) ∧ -((-r) / u) ≤ r := by
  have a : (-r) / u ≤ 0 := by
    have := Int.ediv_le_ediv (c := u) (by omega) (show -r ≤ 0 by omega)
    rw [Int.zero_ediv] at this
    exact this
  have b : -r ≤ (-r) / u := by
    rw [Int.le_ediv_iff_mul_le (by omega)]
    have : r * 1 ≤ r * u := Int.mul_le_mul_of_nonneg_left hu h0
    rw [Int.neg_mul]
    omega
  omega
theorem shareG_in (h : CnOk cs) : 0 ≤ shareG ss ls cs n ∧ shareG ss ls cs n ≤ 10 ^ 30 := by
  obtain ⟨a, b⟩ := rowsG_in (ss := ss) (n := n) h
  unfold shareG
  split
  · exact ⟨a, b⟩
  · have := up_in a (max1_ge (unlC (entC cs (tabOf ss n)).2 (by assumption : Pr).c))
    exact ⟨this.1, Int.le_trans this.2 b⟩
theorem lt100 {i : Int} (h0 : 0 ≤ i) (h : i ≤ 10 ^ 30) : i.natAbs < 2 ^ 100 := by
  have : (10 : Int) ^ 30 < 2 ^ 100 := by decide
  have e : ((i.natAbs : Nat) : Int) = i := by omega
  have : ((i.natAbs : Nat) : Int) < ((2 ^ 100 : Nat) : Int) := by rw [e]; exact Int.lt_of_le_of_lt h (by decide)
  exact Int.ofNat_lt.mp this
theorem goG_snoc {o : List Nat} {w : Str} {ns : List Nat} : goG ss cs o w (ns ++ [n]) = stepG ss (linksL ss o) cs o w (goG ss cs o w ns) n := by
  unfold goG
  rw [List.foldl_append]
  rfl
theorem fold_many {o : List Nat} {w : Str} (h : CnOk cs) : ∀ (ns : List Nat) (st : Int × Int) (k : Nat), 0 ≤ st.1 → st.1.natAbs < 2 ^ (100 * k) → 0 ≤ (ns.foldl (stepG ss ls cs o w) st).1 ∧ (ns.foldl (stepG ss ls cs o w) st).1.natAbs < 2 ^ (100 * (k + ns.length))
  | [], st, k, h0, h1 => ⟨h0, h1⟩
  | n :: ns, st, k, h0, h1 => by
    have s := shareG_in (ss := ss) (ls := ls) (n := n) h
    have z : 0 ≤ (stepG ss ls cs o w st n).1 ∧ (stepG ss ls cs o w st n).1.natAbs < 2 ^ (100 * (k + 1)) := by
      unfold stepG
      dsimp only
      split
      · exact ⟨Int.mul_nonneg h0 s.1, wide_lt h1 (lt100 s.1 s.2)⟩
      · exact ⟨h0, Nat.lt_of_lt_of_le h1 (Nat.pow_le_pow_right (by decide) (by omega))⟩
    have := fold_many (o := o) (w := w) h ns _ _ z.1 z.2
    rw [List.length_cons, show k + (ns.length + 1) = k + 1 + ns.length by omega]
    exact this
theorem fold_looks {o : List Nat} {w : Str} (h : CnOk cs) : ∀ (ns : List Nat) (st : Int × Int) (k : Nat), 1 ≤ k → 0 ≤ st.1 → st.1.natAbs < 2 ^ (100 * k) → 0 ≤ st.2 → st.2.natAbs < 2 ^ (102 * k) →
    0 ≤ (ns.foldl (stepG ss ls cs o w) st).2 ∧ (ns.foldl (stepG ss ls cs o w) st).2.natAbs < 2 ^ (102 * (k + ns.length))
  | [], st, k, k1, h0, h1, h2, h3 => ⟨h2, h3⟩
  | n :: ns, st, k, k1, h0, h1, h2, h3 => by
    have s := shareG_in (ss := ss) (ls := ls) (n := n) h
    have r := rowsG_in (ss := ss) (n := n) h
    have z : 0 ≤ (stepG ss ls cs o w st n).1 ∧ (stepG ss ls cs o w st n).1.natAbs < 2 ^ (100 * (k + 1)) := by
      unfold stepG
      dsimp only
      split
      · exact ⟨Int.mul_nonneg h0 s.1, wide_lt h1 (lt100 s.1 s.2)⟩
      · exact ⟨h0, Nat.lt_of_lt_of_le h1 (Nat.pow_le_pow_right (by decide) (by omega))⟩
    have p1 : (2 : Nat) ^ (100 * k + 100) ≤ 2 ^ (102 * k + 100) := Nat.pow_le_pow_right (by decide) (by omega)
    have p2 : (2 : Nat) ^ 100 ≤ 2 ^ (102 * k + 100) := Nat.pow_le_pow_right (by decide) (by omega)
    have p3 : (2 : Nat) ^ (102 * k) ≤ 2 ^ (102 * k + 100) := Nat.pow_le_pow_right (by decide) (by omega)
    have p4 : (2 : Nat) ^ (102 * (k + 1)) = 4 * 2 ^ (102 * k + 100) := by
      rw [show 102 * (k + 1) = (102 * k + 100) + 2 by omega, Nat.pow_add]
      omega
    have m1 := wide_lt h1 (lt100 s.1 s.2)
    have m2 := wide_lt h1 (lt100 r.1 r.2)
    have n1 : 0 ≤ st.1 * shareG ss ls cs n := Int.mul_nonneg h0 s.1
    have n2 : 0 ≤ st.1 * rowsG ss cs n := Int.mul_nonneg h0 r.1
    have r2 := lt100 r.1 r.2
    have y : 0 ≤ (stepG ss ls cs o w st n).2 ∧ (stepG ss ls cs o w st n).2.natAbs < 2 ^ (102 * (k + 1)) := by
      rw [p4]
      unfold stepG
      dsimp only
      generalize st.1 * shareG ss ls cs n = a at m1 n1
      generalize st.1 * rowsG ss cs n = b at m2 n2
      generalize (2 : Nat) ^ (102 * k + 100) = B at p1 p2 p3
      generalize (2 : Nat) ^ (100 * k + 100) = B1 at p1 m1 m2
      generalize (2 : Nat) ^ (102 * k) = B2 at p3 h3
      generalize (2 : Nat) ^ 100 = B3 at p2 r2
      split <;> omega
    have := fold_looks (o := o) (w := w) h ns _ _ (by omega) z.1 z.2 y.1 y.2
    rw [List.length_cons, show k + (ns.length + 1) = k + 1 + ns.length by omega]
    exact this
theorem guess_in {o : List Nat} {w : Str} (h : CnOk cs) : 0 ≤ guessN ss cs o w ∧ (guessN ss cs o w).natAbs < 2 ^ (102 * (1 + (ledL ss o).length)) := by
  have r := rowsG_in (ss := ss) (n := o.getD 0 0) h
  refine fold_looks h (ledL ss o) _ 1 (Nat.le_refl _) r.1 (lt100 r.1 r.2) (by dsimp only; omega) ?_
  have := lt100 r.1 r.2
  dsimp only
  have e : (2 : Nat) ^ (102 * 1) = 4 * 2 ^ 100 := by decide
  rw [e]
  generalize (2 : Nat) ^ 100 = B at this
  omega
theorem led_len {o : List Nat} (h : o.length ≤ ss.length) : (ledL ss o).length ≤ ss.length := by
  unfold ledL
  rw [List.length_append, List.length_drop, List.length_map, List.length_range]
  omega
theorem goG_many {o : List Nat} {w : Str} (h : CnOk cs) (ns : List Nat) : 0 ≤ (goG ss cs o w ns).1 ∧ (goG ss cs o w ns).1.natAbs < 2 ^ (100 * (1 + ns.length)) := by
  have r := rowsG_in (ss := ss) (n := o.getD 0 0) h
  exact fold_many h ns _ 1 r.1 (lt100 r.1 r.2)
end
theorem linkG_cons (x : Nat × Pr) (ls : List (Nat × Pr)) (n : Nat) : linkG (x :: ls) n = if x.1 = n then some x.2 else linkG ls n := by
  unfold linkG
  rw [List.find?_cons]
  by_cases h : x.1 = n
  · rw [if_pos h, decide_eq_true h]
    rfl
  · rw [if_neg h, decide_eq_false h]
/-- what links tell of a source -/
theorem lk_val {K : PySem.W.Frag} {H : Hp} (n : Nat) : ∀ {ls : List (Nat × Pr)} {kvs : List (Key × V)}, kvs.map (·.1) = ls.map (fun x => (Sum.inl ((x.1 : Nat) : Int) : Key)) → DpAll K H (kvs.map (·.2)) (ls.map fun x => Gd.prD x.2) →
    (linkG ls n = none ∧ valV kvs (Sum.inl ((n : Nat) : Int)) = none) ∨ ∃ p t, linkG ls n = some p ∧ valV kvs (Sum.inl ((n : Nat) : Int)) = some (.ref t) ∧ SqT K H t [.str p.c, .str p.o, .str p.d]
  | [], kvs, h, _ => by
    cases kvs with
    | nil => exact .inl ⟨rfl, rfl⟩
    | cons _ _ => cases h
  | x :: ls, [], h, _ => by cases h
  | x :: ls, (k, v) :: kvs, h, d => by
    rw [List.map_cons, List.map_cons, List.cons.injEq] at h
    obtain ⟨h1, h2⟩ := h
    rw [List.map_cons, List.map_cons] at d
    cases d with
    | cons d1 d2 =>
    dsimp only at h1 d1
    subst h1
    rw [linkG_cons, valV_cons]
    by_cases z : x.1 = n
    · have z2 : (Sum.inl ((x.1 : Nat) : Int) : Key) = Sum.inl ((n : Nat) : Int) := by rw [z]
      rw [if_pos z, if_pos z2]
      have d1 : Dp K H v (.tuple [.str x.2.c, .str x.2.o, .str x.2.d]) := d1
      cases d1 with
      | tup a b =>
        cases b with
        | cons b1 b =>
        cases b with
        | cons b2 b =>
        cases b with
        | cons b3 b =>
        cases b
        cases b1
        cases b2
        cases b3
        exact .inr ⟨x.2, _, rfl, rfl, a⟩
    · have z2 : ¬ (Sum.inl ((x.1 : Nat) : Int) : Key) = Sum.inl ((n : Nat) : Int) := fun q => z (by have := Sum.inl.inj q; omega)
      rw [if_neg z, if_neg z2]
      exact lk_val n h2 d2
end Gd
end

section
set_option Elab.async false
set_option linter.all false
set_option maxRecDepth 100000
set_option maxHeartbeats 4000000
namespace Gd
open PySem PySem.Spec PyProof.Rows L2 Gd
/-! More of data: behind draws, new objects, dicts that grow. -/
theorem Dg.drawnN {K : PySem.W.Frag} {H H' : Hp} {N : Addr → Prop} {p : Addr} {ys : List V} {v : V} {d : PyData} (np : N p) (e : H p = some (.lst ys)) (x : Ex1 p H H') (h : Dg K H N v d) : Dg K H' N v d :=
  Dg.stay (x.tups e) (fun a o n q => x a o (fun z => n (by rw [z]; exact np)) q) (fun _ z => z) d h
theorem Dg.less {K : PySem.W.Frag} {H : Hp} {N N' : Addr → Prop} {v : V} {d : PyData} (m : ∀ a, N' a → N a) (h : Dg K H N v d) : Dg K H N' v d :=
  Dg.stay .refl (fun a o _ e => e) m d h
theorem Pen.here {H : Hp} {l c : Addr} {S : Int} (p : Pen H l c S) : H l ≠ none := by
  obtain ⟨_, _, _, e, _⟩ := p
  rw [e]
  exact fun z => nomatch z
theorem old_ex1 {H H' : Hp} {l c : Addr} {S : Int} (p : Pen H' l c S) (x : Ex1 l H H') : ∀ a, H a ≠ none → H' a ≠ none := fun a h => by
  by_cases e : a = l
  · rw [e]; exact Pen.here p
  · cases q : H a with
    | none => exact absurd q h
    | some o =>
      rw [x a o e q]
      exact fun z => nomatch z
theorem DgAll.pk {K : PySem.W.Frag} {H : Hp} {N : Addr → Prop} {vs : List V} {ds : List PyData} (h : DgAll K H N vs ds) (i : Nat) {v : V} {d : PyData} (e : vs[i]? = some v) (f : ds[i]? = some d) : Dg K H N v d := by
  obtain ⟨d', ed, hd⟩ := h.at_ e
  rw [f] at ed
  cases ed
  exact hd
section
variable {K : PySem.W.Frag} {H0 H : Hp} {N : Addr → Prop} {p : Addr} {us xs : List V} {es fs : List PyData}
theorem grow_tup (s : Same H0 H) (G : DgAll K H N us es) (n : H p = none) (h : DgAll K H N xs fs) : Same H0 (upd H p (.tup xs)) ∧ DgAll K (upd H p (.tup xs)) N (us ++ [.ref p]) (es ++ [.tuple fs]) := by
  have j := new_same (o := .tup xs) n
  exact ⟨s.trans j, (G.same j).app (.cons (.tup (SqT.of upd_same) (h.same j)) .nil)⟩
theorem grow_lst (s : Same H0 H) (G : DgAll K H N us es) (n : H p = none) (g : p ≠ sysModules) (nN : ¬ N p) (h : DgAll K H N xs fs) : Same H0 (upd H p (.lst xs)) ∧ DgAll K (upd H p (.lst xs)) N (us ++ [.ref p]) (es ++ [.list fs]) := by
  have j := new_same (o := .lst xs) n
  exact ⟨s.trans j, (G.same j).app (.cons (.lst upd_same nN g (h.same j)) .nil)⟩
theorem grow_dct {x : Str} {v : V} {d : PyData} (s : Same H0 H) (G : DgAll K H N us es) (n : H p = none) (nN : ¬ N p) (h : Dg K H N v d) :
    Same H0 (upd (upd H p (.dK [])) p (.dK [(Sum.inr x, v)])) ∧ DgAll K (upd (upd H p (.dK [])) p (.dK [(Sum.inr x, v)])) N (us ++ [.ref p]) (es ++ [.dict [(.str x, d)]]) := by
  have j : Same H (upd (upd H p (.dK [])) p (.dK [(Sum.inr x, v)])) := own_same n (new_same n)
  exact ⟨s.trans j, (G.same j).app (.cons (.dct upd_same nN (.consS (h.same j) .nil)) .nil)⟩
end
theorem Dg.at_mem {K : PySem.W.Frag} {H : Hp} {N : Addr → Prop} {vs : List V} {ds : List PyData} {i : Nat} {v : V} (h : DgAll K H N vs ds) (e : vs[i]? = some v) : ∃ d ∈ ds, Dg K H N v d := by
  obtain ⟨d, ed, hd⟩ := h.at_ e
  exact ⟨d, List.mem_of_getElem? ed, hd⟩

section
variable {K : PySem.W.Frag} {H H' : Hp} {N N' : Addr → Prop}
theorem DgKv.snocS {x : Str} {v : V} {d : PyData} : ∀ {kvs : List (Key × V)} {ps : List (PyData × PyData)}, DgKv K H N kvs ps → Dg K H N v d → DgKv K H N (kvs ++ [(Sum.inr x, v)]) (ps ++ [(.str x, d)])
  | _, _, .nil, h => .consS h .nil
  | _, _, .consS a b, h => .consS a (DgKv.snocS b h)
  | _, _, .consI a b, h => .consI a (DgKv.snocS b h)
theorem kv_keys : ∀ {cs : Cnt} {kvs : List (Key × V)}, DgKv K H N kvs (cs.map cnE) → ∀ x ∈ kvs, ∃ e ∈ cs, x.1 = Sum.inr e.1
  | [], _, h, x, hx => by
    cases h
    cases hx
  | e :: cs, _, h, x, hx => by
    rw [List.map_cons] at h
    cases h with
    | consS h1 h2 =>
      rcases List.mem_cons.mp hx with rfl | hx
      · exact ⟨e, by simp, rfl⟩
      · obtain ⟨f, hf, q⟩ := kv_keys h2 x hx
        exact ⟨f, by simp [hf], q⟩
theorem DgKv.len : ∀ {kvs : List (Key × V)} {ps : List (PyData × PyData)}, DgKv K H N kvs ps → kvs.length = ps.length
  | _, _, .nil => rfl
  | _, _, .consS _ b => congrArg (· + 1) (DgKv.len b)
  | _, _, .consI _ b => congrArg (· + 1) (DgKv.len b)
theorem DgKv.same {kvs : List (Key × V)} {ps : List (PyData × PyData)} (s : Same H H') (h : DgKv K H N kvs ps) : DgKv K H' N kvs ps := DgKv.stay (Tups.of_same s) (fun a o _ e => s a o e) (fun _ z => z) ps h
theorem DgKv.less {kvs : List (Key × V)} {ps : List (PyData × PyData)} (m : ∀ a, N' a → N a) (h : DgKv K H N kvs ps) : DgKv K H N' kvs ps := DgKv.stay .refl (fun a o _ e => e) m ps h
theorem DgKv.drawnN {p : Addr} {ys : List V} {kvs : List (Key × V)} {ps : List (PyData × PyData)} (np : N p) (e : H p = some (.lst ys)) (x : Ex1 p H H') (h : DgKv K H N kvs ps) : DgKv K H' N kvs ps :=
  DgKv.stay (x.tups e) (fun a o n q => x a o (fun z => n (by rw [z]; exact np)) q) (fun _ z => z) ps h
/-- a dict of plain numbers -/
theorem unD_kv (us : List (Str × Int)) : DgKv K H N (us.map fun x => ((Sum.inr x.1 : Key), V.int x.2)) (unD us) := by
  induction us with
  | nil => exact .nil
  | cons x us ih => exact .consS (.int _) ih
theorem tups_dk' {D : Addr} {xs ys : List (Key × V)} (e : H D = some (.dK xs)) : Tups K H (upd H D (.dK ys)) := by
  intro a zs h
  rcases h with (h | ⟨o, h⟩) | h
  · refine .inl (.inl ?_)
    rw [upd_ne (fun z => by rw [z, e] at h; cases h)]
    exact h
  · refine .inl (.inr ⟨o, ?_⟩)
    rw [upd_ne (fun z => by rw [z, e] at h; cases h)]
    exact h
  · exact .inr h
/-- a dict that is none of it changes -/
theorem DgKv.other {D : Addr} {xs ys : List (Key × V)} {kvs : List (Key × V)} {ps : List (PyData × PyData)} (nD : N D) (e : H D = some (.dK xs)) (h : DgKv K H N kvs ps) : DgKv K (upd H D (.dK ys)) N kvs ps :=
  DgKv.stay (tups_dk' e) (fun a o n q => by rw [upd_ne (fun z => n (by rw [z]; exact nD))]; exact q) (fun _ z => z) ps h
theorem Dg.other {D : Addr} {xs ys : List (Key × V)} {v : V} {d : PyData} (nD : N D) (e : H D = some (.dK xs)) (h : Dg K H N v d) : Dg K (upd H D (.dK ys)) N v d :=
  Dg.stay (tups_dk' e) (fun a o n q => by rw [upd_ne (fun z => n (by rw [z]; exact nD))]; exact q) (fun _ z => z) d h
end
theorem putK_fresh {kvs : List (Key × V)} {k : Key} {v : V} (h : ∀ x ∈ kvs, x.1 ≠ k) : putK kvs k v = kvs ++ [(k, v)] := by
  unfold putK
  rw [if_neg]
  intro e
  obtain ⟨x, hx, ex⟩ := List.any_eq_true.mp e
  exact h x hx (of_decide_eq_true ex)
/-! sizes of dicts -/
open Szg in
structure Skv (w n : Nat) (ps : List (PyData × PyData)) : Prop where
  lf : PyData.leavesShortKv 100 ps = true
  sh : PyData.showableKv ps = true
  wt : PyData.weightKv ps ≤ w
  dp : PyData.depthKv ps ≤ n
open Szg in
theorem Skv.nil {n : Nat} : Skv 0 n [] := ⟨rfl, rfl, Nat.le_refl _, Nat.zero_le _⟩
open Szg in
theorem Skv.cons {w v u n : Nat} {k d : PyData} {ps : List (PyData × PyData)} (hk : Sm u n k) (h : Sm w n d) (g : Skv v n ps) : Skv (u + w + 2 + v) n ((k, d) :: ps) := by
  refine ⟨?_, ?_, ?_, ?_⟩
  · simp only [PyData.leavesShortKv, hk.lf, h.lf, g.lf, Bool.and_self]
  · simp only [PyData.showableKv, hk.sh, h.sh, g.sh, Bool.and_self]
  · have := h.wt
    have := g.wt
    have := hk.wt
    simp only [PyData.weightKv]
    omega
  · have := h.dp
    have := g.dp
    have := hk.dp
    simp only [PyData.depthKv]
    omega
open Szg in
theorem Skv.mono {w n w' n' : Nat} {ps : List (PyData × PyData)} (h : Skv w n ps) (a : w ≤ w') (b : n ≤ n') : Skv w' n' ps := ⟨h.lf, h.sh, Nat.le_trans h.wt a, Nat.le_trans h.dp b⟩
open Szg in
theorem Skv.dct {w n : Nat} {ps : List (PyData × PyData)} (g : Skv w n ps) : Sm (w + 1) (n + 1) (.dict ps) := by
  refine ⟨by simp only [PyData.leavesShort, g.lf], by simp only [PyData.showable, g.sh], ?_, ?_⟩
  · have := g.wt
    simp only [PyData.weight]
    omega
  · have := g.dp
    simp only [PyData.depth]
    omega
open Szg in
theorem Skv.all {α : Type} {w u n : Nat} {f : α → PyData × PyData} : ∀ {xs : List α}, (∀ x ∈ xs, Sm u n (f x).1 ∧ Sm w n (f x).2) → Skv ((u + w + 2) * xs.length) n (xs.map f)
  | [], _ => Skv.nil
  | x :: xs, h => by
    have a := h x (by simp)
    have b := Skv.all (f := f) (xs := xs) fun y m => h y (by simp [m])
    rw [List.map_cons, List.length_cons, Nat.mul_add]
    exact (Skv.cons (k := (f x).1) (d := (f x).2) a.1 a.2 b).mono (by omega) (Nat.le_refl _)
end Gd
end

section
set_option Elab.async false
set_option linter.all false
set_option maxRecDepth 100000
set_option maxHeartbeats 4000000
namespace Gd
open PySem PySem.Spec PyProof.Rows L2 Gd
/-! Guesses beside others: more rows, more unlike worths, what they are at the least. -/
section
variable {ss : List Src} {o : List Nat} {w : Str}
theorem step_mono {ls : List (Nat × Pr)} {cs cs' : Cnt} {n : Nat} {a b : Int × Int} (ra : 0 ≤ rowsG ss cs n) (r : rowsG ss cs n ≤ rowsG ss cs' n) (sa : 0 ≤ shareG ss ls cs n) (s : shareG ss ls cs n ≤ shareG ss ls cs' n)
    (a0 : 0 ≤ a.1) (h1 : a.1 ≤ b.1) (h2 : a.2 ≤ b.2) : 0 ≤ (stepG ss ls cs o w a n).1 ∧ (stepG ss ls cs o w a n).1 ≤ (stepG ss ls cs' o w b n).1 ∧ (stepG ss ls cs o w a n).2 ≤ (stepG ss ls cs' o w b n).2 := by
  have m1 : a.1 * shareG ss ls cs n ≤ b.1 * shareG ss ls cs' n := Int.mul_le_mul h1 s sa (Int.le_trans a0 h1)
  have m2 : a.1 * rowsG ss cs n ≤ b.1 * rowsG ss cs' n := Int.mul_le_mul h1 r ra (Int.le_trans a0 h1)
  have m3 : 0 ≤ a.1 * shareG ss ls cs n := Int.mul_nonneg a0 sa
  unfold stepG
  dsimp only
  refine ⟨?_, ?_, ?_⟩
  · split <;> assumption
  · split <;> assumption
  · split <;> omega
theorem fold_mono {ls : List (Nat × Pr)} {cs cs' : Cnt} : ∀ (ns : List Nat), (∀ n ∈ ns, 0 ≤ rowsG ss cs n ∧ rowsG ss cs n ≤ rowsG ss cs' n ∧ 0 ≤ shareG ss ls cs n ∧ shareG ss ls cs n ≤ shareG ss ls cs' n) → ∀ a b : Int × Int, 0 ≤ a.1 → a.1 ≤ b.1 → a.2 ≤ b.2 →
    (ns.foldl (stepG ss ls cs o w) a).2 ≤ (ns.foldl (stepG ss ls cs' o w) b).2
  | [], _, a, b, _, _, h => h
  | n :: ns, h, a, b, h0, h1, h2 => by
    obtain ⟨c1, c2, c3, c4⟩ := h n (by simp)
    obtain ⟨d1, d2, d3⟩ := step_mono (o := o) (w := w) c1 c2 c3 c4 h0 h1 h2
    exact fold_mono ns (fun m hm => h m (by simp [hm])) _ _ d1 d2 d3
theorem guess_mono {cs cs' : Cnt} (h : ∀ n, n < ss.length → 0 ≤ rowsG ss cs n ∧ rowsG ss cs n ≤ rowsG ss cs' n ∧ 0 ≤ shareG ss (linksL ss o) cs n ∧ shareG ss (linksL ss o) cs n ≤ shareG ss (linksL ss o) cs' n) (hl : ∀ n ∈ ledL ss o, n < ss.length) (h0 : o.getD 0 0 < ss.length) :
    guessN ss cs o w ≤ guessN ss cs' o w := by
  obtain ⟨a, b, _, _⟩ := h _ h0
  exact fold_mono _ (fun n hn => h n (hl n hn)) _ _ a b (by dsimp only; omega)
end
/-- more rows -/
def RowsUp (cs cs' : Cnt) : Prop := ∀ x, (entC cs x).1 ≤ (entC cs' x).1 ∧ ∀ c, unlC (entC cs' x).2 c = unlC (entC cs x).2 c
/-- more unlike worths -/
def UnlUp (cs cs' : Cnt) : Prop := ∀ x, (entC cs' x).1 = (entC cs x).1 ∧ ∀ c, unlC (entC cs x).2 c ≤ unlC (entC cs' x).2 c
theorem max1_mono {i j : Int} (h : i ≤ j) : max1 i ≤ max1 j := by
  unfold max1
  split <;> split <;> omega
theorem up_rows {r r' u : Int} (h : r ≤ r') (hu : 1 ≤ u) : -((-r) / u) ≤ -((-r') / u) := by
  have := Int.ediv_le_ediv (c := u) (by omega) (show -r' ≤ -r by omega)
  omega
theorem up_unl {r u u' : Int} (h0 : 0 ≤ r) (hu : 1 ≤ u) (h : u ≤ u') : -((-r) / u') ≤ -((-r) / u) := by
  have q0 : (-r) / u ≤ 0 := by
    have := Int.ediv_le_ediv (c := u) (by omega) (show -r ≤ 0 by omega)
    rw [Int.zero_ediv] at this
    exact this
  have e : (-r) / u * u ≤ -r := Int.ediv_mul_le _ (by omega)
  have : (-r) / u ≤ (-r) / u' := by
    rw [Int.le_ediv_iff_mul_le (by omega)]
    have : (-r) / u * u' ≤ (-r) / u * u := Int.mul_le_mul_of_nonpos_left q0 h
    omega
  omega
section
variable {ss : List Src} {o : List Nat} {w : Str} {cs cs' : Cnt}
theorem guess_rows (ok : CnOk cs) (h : RowsUp cs cs') (hl : ∀ n ∈ ledL ss o, n < ss.length) (h0 : o.getD 0 0 < ss.length) : guessN ss cs o w ≤ guessN ss cs' o w := by
  refine guess_mono (fun n _ => ⟨(rowsG_in ok).1, (h _).1, (shareG_in ok).1, ?_⟩) hl h0
  unfold shareG
  split
  · exact (h _).1
  · rename_i p _
    rw [(h (tabOf ss n)).2 p.c]
    exact up_rows (h _).1 (max1_ge _)
theorem guess_unl (ok : CnOk cs') (h : UnlUp cs cs') (hl : ∀ n ∈ ledL ss o, n < ss.length) (h0 : o.getD 0 0 < ss.length) : guessN ss cs' o w ≤ guessN ss cs o w := by
  have e : ∀ n, rowsG ss cs' n = rowsG ss cs n := fun n => (h _).1
  refine guess_mono (fun n _ => ⟨(rowsG_in ok).1, by rw [e]; exact Int.le_refl _, (shareG_in ok).1, ?_⟩) hl h0
  unfold shareG
  split
  · rw [e]
    exact Int.le_refl _
  · rename_i p _
    rw [e]
    have r0 : 0 ≤ rowsG ss cs n := by rw [← e]; exact (rowsG_in ok).1
    exact up_unl r0 (max1_ge _) (max1_mono ((h _).2 p.c))
/-- counts that tell the same of what is asked -/
theorem guess_same {ns : List Str} (ok : CnOk cs) (ok' : CnOk cs') (ht : ∀ n, n < ss.length → tabOf ss n ∈ ns) (hc : ∀ n p, linkG (linksL ss o) n = some p → p.c ∈ ns)
    (h : ∀ x ∈ ns, (entC cs' x).1 = (entC cs x).1 ∧ ∀ c ∈ ns, unlC (entC cs' x).2 c = unlC (entC cs x).2 c) (hl : ∀ n ∈ ledL ss o, n < ss.length) (h0 : o.getD 0 0 < ss.length) : guessN ss cs' o w = guessN ss cs o w := by
  have er : ∀ n, n < ss.length → rowsG ss cs' n = rowsG ss cs n := fun n hn => (h _ (ht n hn)).1
  have es : ∀ n, n < ss.length → shareG ss (linksL ss o) cs' n = shareG ss (linksL ss o) cs n := fun n hn => by
    unfold shareG
    split
    · exact er n hn
    · rename_i p e
      rw [er n hn, (h _ (ht n hn)).2 p.c (hc n p e)]
  refine Int.le_antisymm ?_ ?_
  · exact guess_mono (fun n hn => ⟨(rowsG_in ok').1, by rw [er n hn]; exact Int.le_refl _, (shareG_in ok').1, by rw [es n hn]; exact Int.le_refl _⟩) hl h0
  · exact guess_mono (fun n hn => ⟨(rowsG_in ok).1, by rw [er n hn]; exact Int.le_refl _, (shareG_in ok).1, by rw [es n hn]; exact Int.le_refl _⟩) hl h0
/-! at the least -/
def sumI (l : List Int) : Int := l.sum
theorem fold_least (ok : CnOk cs) (ls : List (Nat × Pr)) : ∀ (ns : List Nat) (a : Int × Int), 0 ≤ a.1 → a.2 + (if w = "kept" then ((ns.filter fun n => (linkG ls n).isSome).map (rowsG ss cs)).sum else 0) ≤ (ns.foldl (stepG ss ls cs o w) a).2
  | [], a, _ => by
    show a.2 + (if w = "kept" then 0 else 0) ≤ a.2
    split <;> omega
  | n :: ns, a, h0 => by
    have s0 := (shareG_in (ss := ss) (ls := ls) (n := n) ok).1
    have r0 := (rowsG_in (ss := ss) (n := n) ok).1
    have m1 := Int.mul_nonneg h0 s0
    have m2 := Int.mul_nonneg h0 r0
    have n1 : 0 ≤ (stepG ss ls cs o w a n).1 := by
      unfold stepG
      dsimp only
      split <;> assumption
    have ih := fold_least ok ls ns (stepG ss ls cs o w a n) n1
    have st : a.2 + (if w = "kept" ∧ (linkG ls n).isSome = true then rowsG ss cs n else 0) ≤ (stepG ss ls cs o w a n).2 := by
      unfold stepG
      dsimp only
      split <;> omega
    refine Int.le_trans ?_ ih
    by_cases z : w = "kept"
    · rw [if_pos z] at ih ⊢
      by_cases q : (linkG ls n).isSome = true
      · rw [if_pos ⟨z, q⟩] at st
        rw [List.filter_cons_of_pos (by exact q), List.map_cons, List.sum_cons, if_pos z]
        omega
      · rw [if_neg (fun h => q h.2)] at st
        rw [List.filter_cons_of_neg (by exact q), if_pos z]
        omega
    · rw [if_neg z, if_neg z]
      rw [if_neg (fun h => z h.1)] at st
      omega
theorem perm_sum {l l' : List Int} (p : l.Perm l') : l.sum = l'.sum := by
  induction p with
  | nil => rfl
  | cons x _ ih => rw [List.sum_cons, List.sum_cons, ih]
  | swap x y l =>
    simp only [List.sum_cons]
    omega
  | trans _ _ a b => exact a.trans b
theorem sum_le_of {f : Nat → Int} : ∀ (ks l : List Nat), ks.Nodup → (∀ k ∈ ks, k ∈ l) → (∀ k ∈ l, 0 ≤ f k) → (ks.map f).sum ≤ (l.map f).sum
  | [], l, _, _, h => by
    show (0 : Int) ≤ _
    induction l with
    | nil => exact Int.le_refl _
    | cons a l ih =>
      rw [List.map_cons, List.sum_cons]
      have := h a (by simp)
      have := ih (by simp) (fun k hk => h k (by simp [hk]))
      omega
  | k :: ks, l, nd, sub, h => by
    rw [List.nodup_cons] at nd
    have hk := sub k (by simp)
    have p := List.perm_cons_erase hk
    have e : (l.map f).sum = f k + ((l.erase k).map f).sum := by
      have := perm_sum (p.map f)
      rw [this, List.map_cons, List.sum_cons]
    rw [List.map_cons, List.sum_cons, e]
    have := sum_le_of ks (l.erase k) nd.2 (fun j hj => (List.mem_erase_of_ne (fun z => nd.1 (by rw [← z]; exact hj))).mpr (sub j (by simp [hj]))) (fun j hj => h j (List.mem_of_mem_erase hj))
    omega
end
end Gd
end

section
set_option Elab.async false
set_option linter.all false
set_option maxRecDepth 100000
set_option maxHeartbeats 4000000
namespace Gd
open PySem PySem.Spec PyProof.Rows L2 Gd
/-! Counts changed; dicts of plain numbers. -/
def unV (us : List (Str × Int)) : List (Key × V) := us.map fun x => ((Sum.inr x.1 : Key), V.int x.2)
theorem kv_un {K : PySem.W.Frag} {H : Hp} {N : Addr → Prop} : ∀ {us : List (Str × Int)} {kvs : List (Key × V)}, DgKv K H N kvs (unD us) → kvs = unV us
  | [], _, h => by cases h; rfl
  | x :: us, _, h => by
    unfold unD at h
    rw [List.map_cons] at h
    cases h with
    | consS h1 h2 =>
      have h1 : Dg K H N _ (.int x.2) := h1
      cases h1
      rw [kv_un h2]
      rfl
theorem unV_keys (us : List (Str × Int)) : (unV us).map (fun kv => kV kv.1) = (us.map (·.1)).map V.str := by
  unfold unV
  rw [List.map_map, List.map_map]
  rfl
theorem kv_names {K : PySem.W.Frag} {H : Hp} {N : Addr → Prop} : ∀ {cs : Cnt} {kvs : List (Key × V)}, DgKv K H N kvs (cs.map cnE) → kvs.map (fun kv => kV kv.1) = (cs.map (·.1)).map V.str
  | [], _, h => by cases h; rfl
  | x :: cs, _, h => by
    rw [List.map_cons] at h
    cases h with
    | consS h1 h2 =>
      rw [List.map_cons, kv_names h2]
      rfl
/-- one of them otherwise -/
def setU (us : List (Str × Int)) (c : Str) (v : Int) : List (Str × Int) := us.map fun x => if x.1 = c then (x.1, v) else x
theorem setU_keys (us : List (Str × Int)) (c : Str) (v : Int) : (setU us c v).map (·.1) = us.map (·.1) := by
  unfold setU
  rw [List.map_map]
  refine List.map_congr_left fun x _ => ?_
  show (if x.1 = c then (x.1, v) else x).1 = x.1
  split <;> rfl
theorem putK_setU {us : List (Str × Int)} {c : Str} {v : Int} (h : c ∈ us.map (·.1)) : putK (unV us) (Sum.inr c) (.int v) = unV (setU us c v) := by
  obtain ⟨x, hx, rfl⟩ := List.mem_map.mp h
  unfold putK
  rw [if_pos]
  · unfold unV setU
    rw [List.map_map, List.map_map]
    refine List.map_congr_left fun y _ => ?_
    by_cases z : y.1 = x.1
    · have : ((Sum.inr y.1 : Key)) = Sum.inr x.1 := congrArg Sum.inr z
      simp [z]
    · have : ¬ ((Sum.inr y.1 : Key)) = Sum.inr x.1 := fun q => z (Sum.inr.inj q)
      simp [z]
  · rw [List.any_eq_true]
    exact ⟨_, List.mem_map.mpr ⟨x, hx, rfl⟩, decide_eq_true rfl⟩
theorem findC_setU {us : List (Str × Int)} {c d : Str} {v : Int} : findC (setU us c v) d = (findC us d).map fun x => if x.1 = c then (x.1, v) else x := by
  induction us with
  | nil => rfl
  | cons x us ih =>
    show findC ((if x.1 = c then (x.1, v) else x) :: setU us c v) d = _
    rw [findC_cons, findC_cons, ih]
    have e : (if x.1 = c then (x.1, v) else x).1 = x.1 := by split <;> rfl
    rw [e]
    split <;> rfl
theorem unl_setU {us : List (Str × Int)} {c d : Str} {v : Int} (h : unlC us c ≤ v) : unlC us d ≤ unlC (setU us c v) d := by
  unfold unlC
  rw [findC_setU]
  cases e : findC us d with
  | none => exact Int.le_refl _
  | some x =>
    obtain ⟨_, xd⟩ := findC_mem e
    show x.2 ≤ (if x.1 = c then (x.1, v) else x).2
    split
    · rename_i z
      unfold unlC at h
      rw [← z, xd, e] at h
      exact h
    · exact Int.le_refl _
theorem findC_of {α : Type} : ∀ {cs : List (Str × α)}, (cs.map (·.1)).Nodup → ∀ e ∈ cs, findC cs e.1 = some e
  | x :: cs, nd, e, he => by
    rw [List.map_cons, List.nodup_cons] at nd
    rw [findC_cons]
    rcases List.mem_cons.mp he with rfl | he
    · rw [if_pos rfl]
    · rw [if_neg (fun z => nd.1 (by rw [z]; exact List.mem_map_of_mem he))]
      exact findC_of nd.2 e he
theorem findC_none {α : Type} {cs : List (Str × α)} {x : Str} (h : x ∉ cs.map (·.1)) : findC cs x = none := by
  cases e : findC cs x with
  | none => rfl
  | some y =>
    obtain ⟨a, b⟩ := findC_mem e
    exact absurd (List.mem_map.mpr ⟨y, a, b⟩) h
theorem ent_of {cs : Cnt} (nd : (cs.map (·.1)).Nodup) {e : Str × Int × List (Str × Int)} (he : e ∈ cs) : entC cs e.1 = e.2 := by
  unfold entC
  rw [findC_of nd e he]
/-- a table's counts beside what they were -/
def RelE (b : Bool) (e e' : Str × Int × List (Str × Int)) : Prop := e'.1 = e.1 ∧ e.2.1 ≤ e'.2.1 ∧ e'.2.1 ≤ e.2.1 + 100 ∧ (b = false → e'.2.1 = e.2.1) ∧ (∀ d, unlC e.2.2 d ≤ unlC e'.2.2 d) ∧ (b = true → e'.2.2 = e.2.2) ∧ (∀ u ∈ e'.2.2, 0 ≤ u.2 ∧ u.2 ≤ 200)
theorem rel_all {cs fs : Cnt} {b : Bool} (nc : (cs.map (·.1)).Nodup) (nf : (fs.map (·.1)).Nodup) (hn : ∀ x, x ∈ fs.map (·.1) ↔ x ∈ cs.map (·.1)) (h : ∀ e' ∈ fs, ∃ e ∈ cs, RelE b e e') :
    (b = true → RowsUp cs fs) ∧ (b = false → UnlUp cs fs) := by
  have key : ∀ x, (entC cs x = (1, []) ∧ entC fs x = (1, [])) ∨ ∃ e e', entC cs x = e.2 ∧ entC fs x = e'.2 ∧ RelE b e e' := fun x => by
    by_cases z : x ∈ fs.map (·.1)
    · obtain ⟨e', he', rfl⟩ := List.mem_map.mp z
      obtain ⟨e, he, r⟩ := h e' he'
      refine .inr ⟨e, e', ?_, ent_of nf he', r⟩
      rw [r.1]
      exact ent_of nc he
    · refine .inl ⟨?_, ?_⟩
      · unfold entC
        rw [findC_none (fun q => z ((hn x).mpr q))]
      · unfold entC
        rw [findC_none z]
  refine ⟨fun hb x => ?_, fun hb x => ?_⟩
  · rcases key x with ⟨a, c⟩ | ⟨e, e', a, c, r⟩
    · rw [a, c]
      exact ⟨Int.le_refl _, fun _ => rfl⟩
    · rw [a, c]
      refine ⟨r.2.1, fun d => ?_⟩
      rw [r.2.2.2.2.2.1 hb]
  · rcases key x with ⟨a, c⟩ | ⟨e, e', a, c, r⟩
    · rw [a, c]
      exact ⟨rfl, fun _ => Int.le_refl _⟩
    · rw [a, c]
      exact ⟨r.2.2.2.1 hb, r.2.2.2.2.1⟩
end Gd
end

section
set_option Elab.async false
set_option linter.all false
/-! Boxes: slabs of sources, by numbers alone. -/
namespace Bx
abbrev Slab := Nat × Int
def adv (d : List Int) (s : Slab) : List Int := d.set s.1 (d.getD s.1 0 + s.2)
def red (r : List Int) (s : Slab) : List Int := r.set s.1 (r.getD s.1 0 - s.2)
def lft (r : List Int) : List Slab → List Int
  | [] => r
  | s :: ss => lft (red r s) ss
def Leg : List Int → List Slab → Prop
  | _, [] => True
  | r, s :: ss => (0 : Int) ∉ r ∧ s.1 < r.length ∧ 1 ≤ s.2 ∧ s.2 ≤ r.getD s.1 0 ∧ Leg (red r s) ss
/-- all sources stand behind what is done -/
def ge (c d : List Int) : Bool := (c.zip d).all fun p => decide (p.2 ≤ p.1)
def hit (d : List Int) (s : Slab) (c : List Int) : Bool := ge c d && decide (c.getD s.1 0 < d.getD s.1 0 + s.2)
def hits : List Int → List Slab → List Int → Nat → List Nat
  | _, [], _, _ => []
  | d, s :: ss, c, k => if hit d s c then k :: hits (adv d s) ss c (k + 1) else hits (adv d s) ss c (k + 1)
def slabOf (d : List Int) (ss : List Slab) (c : List Int) (k : Nat) : Option Nat := (hits d ss c k).head?
def prod (l : List Int) : Int := l.foldl (· * ·) 1
def cnt (r : List Int) (s : Slab) : Int := s.2 * prod (r.set s.1 1)
def mets : List Int → List Slab → List Int
  | _, [] => []
  | r, s :: ss => cnt r s :: mets (red r s) ss
def dones : List Int → List Slab → List (List Int)
  | _, [] => []
  | d, s :: ss => d :: dones (adv d s) ss

theorem adv_len {d : List Int} {s : Slab} : (adv d s).length = d.length := by simp [adv]
theorem red_len {d : List Int} {s : Slab} : (red d s).length = d.length := by simp [red]
theorem lft_len : ∀ {ss : List Slab} {r : List Int}, (lft r ss).length = r.length
  | [], _ => rfl
  | s :: ss, r => by rw [lft, lft_len, red_len]
theorem getD_set {l : List Int} {i j : Nat} {v : Int} (h : i < l.length) : (l.set i v).getD j 0 = if i = j then v else l.getD j 0 := by
  simp only [List.getD_eq_getElem?_getD, List.getElem?_set]
  by_cases e : i = j
  · subst e
    simp [h]
  · simp [e]
theorem adv_at {d : List Int} {s : Slab} {j : Nat} (h : s.1 < d.length) : (adv d s).getD j 0 = if s.1 = j then d.getD s.1 0 + s.2 else d.getD j 0 := getD_set h
theorem red_at {d : List Int} {s : Slab} {j : Nat} (h : s.1 < d.length) : (red d s).getD j 0 = if s.1 = j then d.getD s.1 0 - s.2 else d.getD j 0 := getD_set h
theorem ge_iff : ∀ {c d : List Int}, c.length = d.length → (ge c d = true ↔ ∀ i, i < d.length → d.getD i 0 ≤ c.getD i 0)
  | [], [], _ => by simp [ge]
  | x :: c, y :: d, h => by
    have ih := ge_iff (c := c) (d := d) (by simpa using h)
    have e : ge (x :: c) (y :: d) = (decide (y ≤ x) && ge c d) := rfl
    rw [e, Bool.and_eq_true, decide_eq_true_eq, ih]
    refine ⟨fun ⟨a, b⟩ i hi => ?_, fun z => ⟨z 0 (by simp), fun i hi => by simpa using z (i + 1) (by simpa using hi)⟩⟩
    cases i with
    | zero => exact a
    | succ i => simpa using b i (by simpa using hi)
  | [], _ :: _, h => by simp at h
  | _ :: _, [], h => by simp at h
/-- what is behind a source stays behind -/
theorem ge_back {c d : List Int} {s : Slab} (hl : c.length = d.length) (hs : s.1 < d.length) (hm : 0 ≤ s.2) (h : ge c (adv d s) = true) : ge c d = true := by
  rw [ge_iff (by rw [adv_len, hl])] at h
  rw [ge_iff hl]
  intro i hi
  have z := h i (by rw [adv_len]; exact hi)
  rw [adv_at hs] at z
  by_cases e : s.1 = i
  · subst e
    rw [if_pos rfl] at z
    omega
  · rwa [if_neg e] at z
/-- whether all slabs name a source and some rows -/
def Fine (n : Nat) (ss : List Slab) : Prop := ∀ s ∈ ss, s.1 < n ∧ 1 ≤ s.2
theorem Leg.fine : ∀ {ss : List Slab} {r : List Int}, Leg r ss → Fine r.length ss
  | [], _, _ => fun s h => nomatch h
  | s :: ss, r, h => by
    obtain ⟨_, a, b, _, k⟩ := h
    intro t ht
    rcases List.mem_cons.mp ht with rfl | ht
    · exact ⟨a, b⟩
    · have := Leg.fine k t ht
      rwa [red_len] at this
theorem hits_none : ∀ {ss : List Slab} {c d : List Int} {k : Nat}, c.length = d.length → Fine d.length ss → ge c d = false → hits d ss c k = []
  | [], _, _, _, _, _, _ => rfl
  | s :: ss, c, d, k, hl, hf, h => by
    obtain ⟨a, b⟩ := hf s (by simp)
    have n1 : hit d s c = false := by
      unfold hit
      rw [h, Bool.false_and]
    have n2 : ge c (adv d s) = false := by
      cases e : ge c (adv d s) with
      | false => rfl
      | true =>
        rw [ge_back hl a (by omega) e] at h
        cases h
    rw [hits, if_neg (by rw [n1]; simp)]
    exact hits_none (by rw [adv_len, hl]) (fun t ht => by rw [adv_len]; exact hf t (by simp [ht])) n2
theorem getD_mem {l : List Int} {i : Nat} (h : i < l.length) : l.getD i 0 ∈ l := by
  rw [List.getD_eq_getElem?_getD, List.getElem?_eq_getElem h]
  exact List.getElem_mem h
theorem mem_getD {l : List Int} {v : Int} (h : v ∈ l) : ∃ i, i < l.length ∧ l.getD i 0 = v := by
  obtain ⟨i, hi, e⟩ := List.mem_iff_getElem.mp h
  exact ⟨i, hi, by rw [List.getD_eq_getElem?_getD, List.getElem?_eq_getElem hi]; exact e⟩
/-- a box: done and left together are the sizes -/
structure Box (z d r : List Int) : Prop where
  ld : d.length = z.length
  lr : r.length = z.length
  sum : ∀ i, i < z.length → d.getD i 0 + r.getD i 0 = z.getD i 0
theorem Box.next {z d r : List Int} {s : Slab} (b : Box z d r) (hs : s.1 < z.length) : Box z (adv d s) (red r s) := by
  refine ⟨by rw [adv_len, b.ld], by rw [red_len, b.lr], fun i hi => ?_⟩
  rw [adv_at (by rw [b.ld]; exact hs), red_at (by rw [b.lr]; exact hs)]
  have h1 := b.sum i hi
  by_cases e : s.1 = i
  · subst e
    rw [if_pos rfl, if_pos rfl]
    omega
  · rw [if_neg e, if_neg e]
    exact h1
theorem zeros_box (z : List Int) : Box z (List.replicate z.length 0) z := by
  refine ⟨by simp, rfl, fun i hi => ?_⟩
  rw [List.getD_eq_getElem?_getD, List.getElem?_replicate]
  simp [hi]
structure Choice (z c : List Int) : Prop where
  len : c.length = z.length
  low : ∀ i, i < z.length → 0 ≤ c.getD i 0
  high : ∀ i, i < z.length → c.getD i 0 < z.getD i 0
/-- each choice behind what is done is met by just one slab -/
theorem hits_one : ∀ {ss : List Slab} {z c d r : List Int} {k : Nat}, Box z d r → Choice z c → ge c d = true → Leg r ss → (0 : Int) ∈ lft r ss → ∃ j, hits d ss c k = [j] ∧ k ≤ j ∧ j < k + ss.length
  | [], z, c, d, r, k, b, hc, hg, _, h0 => by
    exfalso
    obtain ⟨i, hi, e⟩ := mem_getD h0
    have hi : i < r.length := hi
    have e : r.getD i 0 = 0 := e
    rw [b.lr] at hi
    have g := (ge_iff (by rw [hc.len, b.ld])).mp hg i (by rw [b.ld]; exact hi)
    have := b.sum i hi
    have := hc.high i hi
    omega
  | s :: ss, z, c, d, r, k, b, hc, hg, hL, h0 => by
    obtain ⟨n0, a, m1, m2, hL⟩ := hL
    have a' : s.1 < z.length := by rw [← b.lr]; exact a
    have ad : s.1 < d.length := by rw [b.ld]; exact a'
    have hl : c.length = d.length := by rw [hc.len, b.ld]
    have hla : c.length = (adv d s).length := by rw [adv_len, hl]
    have g := (ge_iff hl).mp hg
    by_cases lt : c.getD s.1 0 < d.getD s.1 0 + s.2
    · have n1 : ge c (adv d s) = false := by
        cases e : ge c (adv d s) with
        | false => rfl
        | true =>
          have := (ge_iff hla).mp e s.1 (by rw [adv_len]; exact ad)
          rw [adv_at ad, if_pos rfl] at this
          omega
      have f : Fine (adv d s).length ss := by
        have := Leg.fine hL
        rw [red_len, b.lr, ← b.ld, ← adv_len (s := s)] at this
        exact this
      refine ⟨k, ?_, Nat.le_refl _, by simp only [List.length_cons]; omega⟩
      rw [hits, if_pos (by unfold hit; rw [hg, decide_eq_true lt] <;> rfl), hits_none hla f n1]
    · have n1 : ge c (adv d s) = true := by
        rw [ge_iff hla]
        intro i hi
        rw [adv_len] at hi
        rw [adv_at ad]
        split
        · rename_i e
          rw [← e]
          omega
        · exact g i hi
      obtain ⟨j, e, h1, h2⟩ := hits_one (k := k + 1) (b.next a') hc n1 hL h0
      refine ⟨j, ?_, by omega, by simp only [List.length_cons]; omega⟩
      rw [hits, if_neg (by unfold hit; rw [decide_eq_false lt]; simp)]
      exact e

/-! products -/
theorem foldl_mul : ∀ (l : List Int) (a : Int), l.foldl (· * ·) a = a * prod l
  | [], a => by simp [prod]
  | x :: l, a => by
    show l.foldl (· * ·) (a * x) = a * l.foldl (· * ·) (1 * x)
    rw [foldl_mul l, foldl_mul l (1 * x), Int.one_mul, Int.mul_assoc]
theorem prod_cons (x : Int) (l : List Int) : prod (x :: l) = x * prod l := by
  show l.foldl (· * ·) (1 * x) = _
  rw [foldl_mul, Int.one_mul]
theorem prod_nil : prod [] = 1 := rfl
theorem prod_snoc (l : List Int) (x : Int) : prod (l ++ [x]) = prod l * x := by
  simp [prod, List.foldl_append]
theorem prod_set : ∀ {l : List Int} {i : Nat} {v : Int}, i < l.length → prod (l.set i v) = v * prod (l.set i 1)
  | x :: l, 0, v, _ => by simp [prod_cons]
  | x :: l, i + 1, v, h => by
    have ih := prod_set (l := l) (i := i) (v := v) (by simpa using h)
    simp only [List.set_cons_succ, prod_cons, ih]
    rw [Int.mul_left_comm]
theorem prod_at {l : List Int} {i : Nat} (h : i < l.length) : prod l = l.getD i 0 * prod (l.set i 1) := by
  rw [← prod_set h]
  congr 1
  rw [List.getD_eq_getElem?_getD, List.getElem?_eq_getElem h]
  simp
theorem cnt_diff {r : List Int} {s : Slab} (h : s.1 < r.length) : cnt r s = prod r - prod (red r s) := by
  unfold cnt red
  rw [prod_set (v := r.getD s.1 0 - s.2) h, prod_at h, ← Int.sub_mul]
  congr 1
  omega
theorem prod_zero : ∀ {l : List Int}, (0 : Int) ∈ l → prod l = 0
  | x :: l, h => by
    rw [prod_cons]
    rcases List.mem_cons.mp h with e | h
    · rw [← e, Int.zero_mul]
    · rw [prod_zero h, Int.mul_zero]
theorem sum_mets : ∀ {ss : List Slab} {r : List Int}, Fine r.length ss → (mets r ss).sum = prod r - prod (lft r ss)
  | [], r, _ => by simp [mets, lft]
  | s :: ss, r, h => by
    have f : Fine (red r s).length ss := fun t ht => by rw [red_len]; exact h t (by simp [ht])
    rw [mets, lft, List.sum_cons, sum_mets f, cnt_diff (h s (by simp)).1]
    omega
theorem prod_pos : ∀ {l : List Int}, (∀ x ∈ l, 1 ≤ x) → 1 ≤ prod l
  | [], _ => by simp [prod_nil]
  | x :: l, h => by
    rw [prod_cons]
    have a := h x (by simp)
    have b := prod_pos (l := l) fun y hy => h y (by simp [hy])
    have := Int.mul_le_mul a b (by omega) (by omega)
    omega
theorem prod_le : ∀ {l : List Int} {B : Int}, 1 ≤ B → (∀ x ∈ l, 0 ≤ x ∧ x ≤ B) → 0 ≤ prod l ∧ prod l ≤ B ^ l.length
  | [], B, _, _ => by simp [prod_nil]
  | x :: l, B, hB, h => by
    rw [prod_cons]
    obtain ⟨a, b⟩ := h x (by simp)
    obtain ⟨c, d⟩ := prod_le (l := l) hB fun y hy => h y (by simp [hy])
    refine ⟨Int.mul_nonneg a c, ?_⟩
    rw [List.length_cons, Int.pow_succ, Int.mul_comm]
    exact Int.mul_le_mul d b a (Int.le_trans c d)
/-- all are from 0 to B -/
def In (B : Int) (r : List Int) : Prop := ∀ x ∈ r, 0 ≤ x ∧ x ≤ B
theorem mem_set {l : List Int} {i : Nat} {v x : Int} (h : x ∈ l.set i v) : x = v ∨ x ∈ l := by
  rcases List.mem_or_eq_of_mem_set h with h | h
  · exact .inr h
  · exact .inl h
theorem In.red {B : Int} {r : List Int} {s : Slab} (h : In B r) (hs : s.1 < r.length) (a : 1 ≤ s.2) (b : s.2 ≤ r.getD s.1 0) : In B (red r s) := by
  intro x hx
  rcases mem_set hx with e | hx
  · have := h _ (getD_mem hs)
    omega
  · exact h x hx
theorem cnt_pos {B : Int} {r : List Int} {s : Slab} (h : In B r) (n0 : (0 : Int) ∉ r) (hs : s.1 < r.length) (a : 1 ≤ s.2) : 1 ≤ cnt r s := by
  have p : 1 ≤ prod (r.set s.1 1) := prod_pos fun x hx => by
    rcases mem_set hx with e | hx
    · omega
    · have := h x hx
      have : x ≠ 0 := fun e => n0 (e ▸ hx)
      omega
  have := Int.mul_le_mul a p (by omega) (by omega)
  unfold cnt
  omega
theorem mets_pos : ∀ {ss : List Slab} {B : Int} {r : List Int}, In B r → Leg r ss → ∀ x ∈ mets r ss, 1 ≤ x
  | [], _, _, _, _ => fun x h => nomatch h
  | s :: ss, B, r, h, hL => by
    obtain ⟨n0, a, m1, m2, k⟩ := hL
    intro x hx
    rcases List.mem_cons.mp hx with rfl | hx
    · exact cnt_pos h n0 a m1
    · exact mets_pos (h.red a m1 m2) k x hx
theorem lft_in : ∀ {ss : List Slab} {B : Int} {r : List Int}, In B r → Leg r ss → In B (lft r ss)
  | [], _, _, h, _ => h
  | s :: ss, B, r, h, hL => by
    have k := h.red hL.2.1 hL.2.2.1 hL.2.2.2.1
    exact lft_in (ss := ss) k hL.2.2.2.2
theorem dones_len : ∀ {ss : List Slab} {d : List Int}, (dones d ss).length = ss.length
  | [], _ => rfl
  | s :: ss, d => by simp [dones, dones_len]
theorem mets_len : ∀ {ss : List Slab} {d : List Int}, (mets d ss).length = ss.length
  | [], _ => rfl
  | s :: ss, d => by simp [mets, mets_len]
/-- one more slab -/
theorem lft_snoc : ∀ {ss : List Slab} {r : List Int} {s : Slab}, lft r (ss ++ [s]) = red (lft r ss) s
  | [], _, _ => rfl
  | t :: ss, r, s => lft_snoc (ss := ss)
theorem Leg.snoc : ∀ {ss : List Slab} {r : List Int} {s : Slab}, Leg r ss → (0 : Int) ∉ lft r ss → s.1 < r.length → 1 ≤ s.2 → s.2 ≤ (lft r ss).getD s.1 0 → Leg r (ss ++ [s])
  | [], _, _, _, a, b, c, d => ⟨a, b, c, d, trivial⟩
  | t :: ss, r, s, h, a, b, c, d => ⟨h.1, h.2.1, h.2.2.1, h.2.2.2.1, Leg.snoc (ss := ss) h.2.2.2.2 a (by rw [red_len]; exact b) c d⟩
theorem dones_at : ∀ {ss : List Slab} {d : List Int} {i : Nat} {s : Slab}, ss[i]? = some s → ∃ e, (dones d ss)[i]? = some e ∧ e.length = d.length
  | t :: ss, d, 0, s, h => ⟨d, rfl, rfl⟩
  | t :: ss, d, i + 1, s, h => by
    obtain ⟨e, a, b⟩ := dones_at (ss := ss) (d := adv d t) (i := i) (by simpa using h)
    exact ⟨e, by simpa [dones] using a, by rw [b, adv_len]⟩
end Bx
end

section
set_option Elab.async false
set_option linter.all false
set_option maxRecDepth 100000
set_option maxHeartbeats 4000000
/-! Whole slabs: as they are looked at one by one, and by how many rows of each source are done. -/
namespace Bx
/-- how many rows of source i some slabs do -/
def dnS (i : Nat) (ss : List Slab) : Int := ((ss.filter fun s => decide (s.1 = i)).map (·.2)).sum
def dnL (n : Nat) (ss : List Slab) : List Int := (List.range n).map fun i => dnS i ss
theorem dnS_cons {i : Nat} {s : Slab} {ss : List Slab} : dnS i (s :: ss) = (if s.1 = i then s.2 else 0) + dnS i ss := by
  unfold dnS
  by_cases h : s.1 = i
  · rw [List.filter_cons_of_pos (by simpa using h), List.map_cons, List.sum_cons, if_pos h]
  · rw [List.filter_cons_of_neg (by simpa using h), if_neg h, Int.zero_add]
theorem dnS_nil {i : Nat} : dnS i [] = 0 := rfl
theorem Fine.tail {n : Nat} {s : Slab} {ss : List Slab} (f : Fine n (s :: ss)) : Fine n ss := fun t m => f t (List.mem_cons_of_mem _ m)
theorem Fine.head {n : Nat} {s : Slab} {ss : List Slab} (f : Fine n (s :: ss)) : s.1 < n ∧ 1 ≤ s.2 := f s (List.mem_cons_self ..)
theorem dnS_nonneg {n i : Nat} : ∀ {ss : List Slab}, Fine n ss → 0 ≤ dnS i ss
  | [], _ => Int.le_refl _
  | s :: ss, f => by
    have ih := dnS_nonneg (i := i) f.tail
    have h := f.head
    rw [dnS_cons]
    split <;> omega
theorem dnS_drop {n i : Nat} : ∀ {ss : List Slab}, Fine n ss → dnS i ss.dropLast ≤ dnS i ss
  | [], _ => Int.le_refl _
  | [s], f => by
    have h := f.head
    rw [dnS_cons]
    show (0 : Int) ≤ _
    rw [dnS_nil]
    split <;> omega
  | s :: t :: ss, f => by
    have ih := dnS_drop (i := i) f.tail
    rw [List.dropLast_cons_of_ne_nil (by simp), dnS_cons, dnS_cons]
    omega
theorem Fine.drop {n : Nat} {ss : List Slab} (f : Fine n ss) : Fine n ss.dropLast := fun t m => f t (List.dropLast_subset _ m)
/-- one by one -/
def okW : List Int → List Slab → Bool
  | r, [] => decide ((0 : Int) ∈ r)
  | r, s :: ss => !decide ((0 : Int) ∈ r) && (decide (s.2 ≤ r.getD s.1 0) && okW (red r s) ss)
theorem zero_mem {r : List Int} : (0 : Int) ∈ r ↔ ∃ i, i < r.length ∧ r.getD i 0 = 0 :=
  ⟨fun h => mem_getD h, fun ⟨i, hi, e⟩ => e ▸ getD_mem hi⟩
theorem okW_iff : ∀ {ss : List Slab} {r : List Int}, Fine r.length ss → (∀ i, i < r.length → 0 ≤ r.getD i 0) →
    (okW r ss = true ↔ (∀ i, i < r.length → dnS i ss ≤ r.getD i 0) ∧ (∃ i, i < r.length ∧ dnS i ss = r.getD i 0) ∧ (ss = [] ∨ ∀ i, i < r.length → dnS i ss.dropLast ≠ r.getD i 0))
  | [], r, _, h0 => by
    unfold okW
    rw [decide_eq_true_eq, zero_mem]
    refine ⟨fun ⟨i, hi, e⟩ => ⟨h0, ⟨i, hi, e.symm⟩, .inl rfl⟩, fun ⟨_, ⟨i, hi, e⟩, _⟩ => ⟨i, hi, e.symm⟩⟩
  | s :: ss, r, f, h0 => by
    have hs := f.head
    have ra : ∀ j, (red r s).getD j 0 = if s.1 = j then r.getD s.1 0 - s.2 else r.getD j 0 := fun j => red_at hs.1
    have rl : (red r s).length = r.length := red_len
    have f2 : Fine (red r s).length ss := by rw [rl]; exact f.tail
    unfold okW
    rw [Bool.and_eq_true, Bool.and_eq_true, Bool.not_eq_true', decide_eq_false_iff_not, decide_eq_true_eq, zero_mem]
    have eq1 : ∀ i, (dnS i (s :: ss) ≤ r.getD i 0 ↔ dnS i ss ≤ (red r s).getD i 0) := fun i => by
      rw [dnS_cons, ra]
      split
      · rename_i e; subst e; omega
      · omega
    have eq2 : ∀ i, (dnS i (s :: ss) = r.getD i 0 ↔ dnS i ss = (red r s).getD i 0) := fun i => by
      rw [dnS_cons, ra]
      split
      · rename_i e; subst e; omega
      · omega
    have eq3 : ∀ i, (dnS i (s :: ss.dropLast) = r.getD i 0 ↔ dnS i ss.dropLast = (red r s).getD i 0) := fun i => by
      rw [dnS_cons, ra]
      split
      · rename_i e; subst e; omega
      · omega
    constructor
    · rintro ⟨n0, le, ok⟩
      have h2 : ∀ i, i < (red r s).length → 0 ≤ (red r s).getD i 0 := fun i hi => by
        rw [ra]
        split
        · omega
        · exact h0 i (by omega)
      obtain ⟨a, ⟨j, hj, ej⟩, c⟩ := (okW_iff f2 h2).mp ok
      refine ⟨fun i hi => (eq1 i).mpr (a i (by omega)), ⟨j, by omega, (eq2 j).mpr ej⟩, .inr fun i hi => ?_⟩
      cases ss with
      | nil =>
        intro e
        exact n0 ⟨i, hi, e.symm⟩
      | cons t ts =>
        rw [List.dropLast_cons_of_ne_nil (by simp)]
        intro e
        rcases c with c | c
        · cases c
        · exact c i (by omega) ((eq3 i).mp e)
    · rintro ⟨a, ⟨j, hj, ej⟩, c⟩
      have c : ∀ i, i < r.length → dnS i (s :: ss).dropLast ≠ r.getD i 0 := by
        rcases c with c | c
        · cases c
        · exact c
      have le : s.2 ≤ r.getD s.1 0 := by
        have z := a s.1 hs.1
        rw [dnS_cons, if_pos rfl] at z
        have := dnS_nonneg (i := s.1) f.tail
        omega
      refine ⟨?_, le, ?_⟩
      · rintro ⟨i, hi, e⟩
        have z := dnS_drop (i := i) f
        have y := dnS_nonneg (i := i) f.drop
        have := a i hi
        exact c i hi (by omega)
      · have h2 : ∀ i, i < (red r s).length → 0 ≤ (red r s).getD i 0 := fun i hi => by
          rw [ra]
          split
          · omega
          · exact h0 i (by omega)
        refine (okW_iff f2 h2).mpr ⟨fun i hi => (eq1 i).mp (a i (by omega)), ⟨j, by omega, (eq2 j).mp ej⟩, ?_⟩
        cases ss with
        | nil => exact .inl rfl
        | cons t ts =>
          refine .inr fun i hi e => ?_
          have z := c i (by omega)
          rw [List.dropLast_cons_of_ne_nil (by simp)] at z
          exact z ((eq3 i).mpr e)
/-- beside how many are done -/
def beside (z : List Int) (ss : List Slab) : List (Int × Int) := z.zip (dnL z.length ss)
def gtP (p : Int × Int) : Bool := decide (p.2 > p.1)
def eqP (p : Int × Int) : Bool := decide (p.2 = p.1)
def dueW (z : List Int) (ss : List Slab) : Bool :=
  ((beside z ss).filter gtP).isEmpty && (!((beside z ss).filter eqP).isEmpty && (ss.isEmpty || ((beside z ss.dropLast).filter eqP).isEmpty))
theorem dnL_len {n : Nat} {ss : List Slab} : (dnL n ss).length = n := by simp [dnL]
theorem dnL_at {n i : Nat} {ss : List Slab} (h : i < n) : (dnL n ss)[i]? = some (dnS i ss) := by simp [dnL, h]
theorem beside_len {z : List Int} {ss : List Slab} : (beside z ss).length = z.length := by simp [beside, dnL_len]
theorem beside_at {z : List Int} {ss : List Slab} {i : Nat} (h : i < z.length) : (beside z ss)[i]? = some (z.getD i 0, dnS i ss) := by
  unfold beside
  rw [List.getElem?_zip_eq_some]
  refine ⟨?_, dnL_at h⟩
  rw [List.getD_eq_getElem?_getD, List.getElem?_eq_getElem h] <;> rfl
theorem mem_beside {z : List Int} {ss : List Slab} {x : Int × Int} : x ∈ beside z ss ↔ ∃ i, i < z.length ∧ x = (z.getD i 0, dnS i ss) := by
  constructor
  · intro m
    obtain ⟨i, e⟩ := List.getElem?_of_mem m
    have hi : i < z.length := by
      have := (List.getElem?_eq_some_iff.mp e).1
      rw [beside_len] at this
      exact this
    rw [beside_at hi] at e
    exact ⟨i, hi, (Option.some.inj e).symm⟩
  · rintro ⟨i, hi, rfl⟩
    exact List.mem_of_getElem? (beside_at hi)
theorem none_of {p : Int × Int → Bool} {l : List (Int × Int)} : (l.filter p).isEmpty = true ↔ ∀ x ∈ l, p x = false := by
  rw [List.isEmpty_iff, List.filter_eq_nil_iff]
  exact ⟨fun h x m => Bool.eq_false_iff.mpr (h x m), fun h x m => Bool.eq_false_iff.mp (h x m)⟩
theorem dueW_eq {z : List Int} {ss : List Slab} (f : Fine z.length ss) (h0 : ∀ i, i < z.length → 0 ≤ z.getD i 0) : dueW z ss = okW z ss := by
  refine Bool.eq_iff_iff.mpr ?_
  rw [okW_iff f h0]
  unfold dueW
  have h1 : ((beside z ss).filter gtP).isEmpty = true ↔ ∀ i, i < z.length → dnS i ss ≤ z.getD i 0 := by
    rw [none_of]
    constructor
    · intro h i hi
      have := h _ (mem_beside.mpr ⟨i, hi, rfl⟩)
      have := of_decide_eq_false this
      dsimp only at this
      omega
    · rintro h x m
      obtain ⟨i, hi, rfl⟩ := mem_beside.mp m
      have := h i hi
      exact decide_eq_false (by dsimp only; omega)
  have h2 : ∀ ss : List Slab, ((beside z ss).filter eqP).isEmpty = true ↔ ∀ i, i < z.length → dnS i ss ≠ z.getD i 0 := fun ss => by
    rw [none_of]
    constructor
    · intro h i hi
      exact of_decide_eq_false (h _ (mem_beside.mpr ⟨i, hi, rfl⟩))
    · rintro h x m
      obtain ⟨i, hi, rfl⟩ := mem_beside.mp m
      exact decide_eq_false (h i hi)
  rw [Bool.and_eq_true, Bool.and_eq_true, Bool.or_eq_true, h1, h2, Bool.not_eq_true', List.isEmpty_iff, ← Bool.not_eq_true, h2]
  refine and_congr Iff.rfl (and_congr ⟨fun h => ?_, fun ⟨i, hi, e⟩ h => h i hi e⟩ Iff.rfl)
  exact Classical.byContradiction fun n => h fun i hi e => n ⟨i, hi, e⟩
end Bx
end

section
set_option Elab.async false
set_option linter.all false
set_option maxRecDepth 100000
set_option maxHeartbeats 4000000
/-! Things that may be slabs: data, and a dict of a list; kinds, slabs among data. -/
namespace Gd
open PySem PySem.Spec PyProof.Rows L2 Bx
def isTu : PyData → Bool
  | .tuple _ => true
  | _ => false
def isLi : PyData → Bool
  | .list _ => true
  | _ => false
def isIn : PyData → Bool
  | .int _ => true
  | .bool _ => true
  | _ => false
def isBo : PyData → Bool
  | .bool _ => true
  | _ => false
theorem q_tup : ∀ d : PyData, kitB (kindN d) "tuple" = some (isTu d)
  | .none => show kitB "NoneType" "tuple" = some false by decide +kernel
  | .bool _ => show kitB "bool" "tuple" = some false by decide +kernel
  | .int _ => show kitB "int" "tuple" = some false by decide +kernel
  | .str _ => show kitB "str" "tuple" = some false by decide +kernel
  | .list _ => show kitB "list" "tuple" = some false by decide +kernel
  | .tuple _ => show kitB "tuple" "tuple" = some true by decide +kernel
  | .dict _ => show kitB "dict" "tuple" = some false by decide +kernel
theorem q_lst : ∀ d : PyData, kitB (kindN d) "list" = some (isLi d)
  | .none => show kitB "NoneType" "list" = some false by decide +kernel
  | .bool _ => show kitB "bool" "list" = some false by decide +kernel
  | .int _ => show kitB "int" "list" = some false by decide +kernel
  | .str _ => show kitB "str" "list" = some false by decide +kernel
  | .list _ => show kitB "list" "list" = some true by decide +kernel
  | .tuple _ => show kitB "tuple" "list" = some false by decide +kernel
  | .dict _ => show kitB "dict" "list" = some false by decide +kernel
theorem q_int : ∀ d : PyData, kitB (kindN d) "int" = some (isIn d)
  | .none => show kitB "NoneType" "int" = some false by decide +kernel
  | .bool _ => show kitB "bool" "int" = some true by decide +kernel
  | .int _ => show kitB "int" "int" = some true by decide +kernel
  | .str _ => show kitB "str" "int" = some false by decide +kernel
  | .list _ => show kitB "list" "int" = some false by decide +kernel
  | .tuple _ => show kitB "tuple" "int" = some false by decide +kernel
  | .dict _ => show kitB "dict" "int" = some false by decide +kernel
theorem q_boo : ∀ d : PyData, kitB (kindN d) "bool" = some (isBo d)
  | .none => show kitB "NoneType" "bool" = some false by decide +kernel
  | .bool _ => show kitB "bool" "bool" = some true by decide +kernel
  | .int _ => show kitB "int" "bool" = some false by decide +kernel
  | .str _ => show kitB "str" "bool" = some false by decide +kernel
  | .list _ => show kitB "list" "bool" = some false by decide +kernel
  | .tuple _ => show kitB "tuple" "bool" = some false by decide +kernel
  | .dict _ => show kitB "dict" "bool" = some false by decide +kernel
/-- a whole number, no truth -/
def isWh : PyData → Bool
  | .int _ => true
  | _ => false
theorem isWh_eq (d : PyData) : (isIn d && !isBo d) = isWh d := by cases d <;> rfl
theorem isWh_int {K : PySem.W.Frag} {H : Hp} {N : Addr → Prop} {v : V} {d : PyData} (hd : Dd K H N v d) (e : isWh d = true) : ∃ i, d = .int i ∧ v = .int i := by
  cases hd with
  | int i => exact ⟨i, rfl, rfl⟩
  | bl b => exact absurd e Bool.false_ne_true
  | non => exact absurd e Bool.false_ne_true
  | str _ => exact absurd e Bool.false_ne_true
  | lst _ _ _ _ => exact absurd e Bool.false_ne_true
  | tup _ _ => exact absurd e Bool.false_ne_true
  | dct0 _ _ => exact absurd e Bool.false_ne_true
  | dct1 _ _ => exact absurd e Bool.false_ne_true

/-! a dict of a list -/
def DL (K : PySem.W.Frag) (H : Hp) (N : Addr → Prop) (v : V) (d : PyData) : Prop :=
  ∃ (a b : Addr) (x : Str) (xs : List V) (ds : List PyData), v = .ref a ∧ H a = some (.dK [(Sum.inr x, .ref b)]) ∧ ¬ N a ∧ Dd K H N (.ref b) (.list ds) ∧ H b = some (.lst xs) ∧ d = .dict [(.str x, .list ds)]
/-- a thing -/
def Th (K : PySem.W.Frag) (H : Hp) (N : Addr → Prop) (v : V) (d : PyData) : Prop := Dd K H N v d ∨ DL K H N v d
section
variable {K : PySem.W.Frag} {H H' : Hp} {N N' : Addr → Prop}
theorem Th.kind {v : V} {d : PyData} (h : Th K H N v d) : TyX K H v (.type (kindN d)) := by
  rcases h with h | ⟨a, b, x, xs, ds, rfl, e, _, _, _, rfl⟩
  · exact h.kind
  · exact .base (.dK e)
theorem Th.lst {v : V} {ds : List PyData} (h : Th K H N v (.list ds)) : ∃ a xs, v = .ref a ∧ H a = some (.lst xs) ∧ DdAll K H N xs ds := by
  rcases h with h | ⟨a, b, x, xs, es, _, _, _, _, _, e⟩
  · cases h with
    | lst a n g k => exact ⟨_, _, rfl, a, k⟩
  · cases e
theorem DL.stay (t : Tups K H H') (x : ∀ a o, ¬ N a → H a = some o → H' a = some o) (m : ∀ a, N' a → N a) {v : V} {d : PyData} (h : DL K H N v d) : DL K H' N' v d := by
  obtain ⟨a, b, y, xs, ds, rfl, e, n, k, eb, rfl⟩ := h
  have nb : ¬ N b := by
    cases k with
    | lst _ n _ _ => exact n
  exact ⟨a, b, y, xs, ds, rfl, x _ _ n e, fun z => n (m _ z), Dd.stay t x m _ k, x _ _ nb eb, rfl⟩
theorem Th.stay (t : Tups K H H') (x : ∀ a o, ¬ N a → H a = some o → H' a = some o) (m : ∀ a, N' a → N a) {v : V} {d : PyData} (h : Th K H N v d) : Th K H' N' v d :=
  h.elim (fun h => .inl (Dd.stay t x m d h)) (fun h => .inr (h.stay t x m))
theorem Th.same {v : V} {d : PyData} (s : Same H H') (h : Th K H N v d) : Th K H' N v d := h.stay (Tups.of_same s) (fun a o _ e => s a o e) (fun _ z => z)
end
section
variable {X : Cx} {pins : List (Addr × Obj)} {σ : L2.St} {H : Hp} {s : Shared} {N : Addr → Prop}
theorem DL.reads (I : Inv X pins σ H s) {v : V} {u : Value} {d : PyData} (h : DL X.K H N v d) (r : RelV v u) : ∃ as, Reads s.heap u d as ∧ sysModules ∉ as := by
  obtain ⟨a, b, x, xs, ds, rfl, e, n, k, eb, rfl⟩ := h
  cases r
  obtain ⟨g, vs, kv, o, es, ep, ho, ex, hd, ks, ps, _⟩ := dk_reads I e
  cases kv with
  | @cons _ q _ _ r0 rest =>
  cases rest
  obtain ⟨qk, qv⟩ := q
  obtain ⟨rk, rv⟩ := r0
  dsimp only at rk rv
  subst rk
  cases hes : es.toList with
  | nil =>
    rw [hes] at ps
    cases ps
  | cons z zs =>
    rw [hes] at ps
    cases ps with
    | cons p1 p2 p3 =>
    cases p3
    obtain ⟨tk, ek⟩ : ∃ tk, z.key = .str x tk := by
      have p1 : keyIs (Sum.inr x) z.key = true := p1
      rcases keyIs_shape p1 with ⟨i, t, h1, h2⟩ | ⟨y, t, h1, h2⟩
      · cases h1
      · cases h1
        exact ⟨t, h2⟩
    obtain ⟨as, rd, hn⟩ := Dd.reads I (.list ds) _ qv k rv
    refine ⟨_, .dict (as := [] ++ []) (bs := as ++ []) ho ex.1 hd ?_ ?_, fun m => ?_⟩
    · rw [hes]
      show ReadsAll s.heap [z.key] [.str x] _
      rw [ek]
      exact .cons (.str x tk) .nil
    · rw [hes]
      show ReadsAll s.heap [z.val] [.list ds] _
      rw [p2]
      exact .cons rd .nil
    · rcases List.mem_cons.mp m with m | m
      · rw [← m] at g
        simp at g
      · simp only [List.append_nil, List.nil_append] at m
        exact hn m
theorem Th.reads (I : Inv X pins σ H s) {v : V} {u : Value} {d : PyData} (h : Th X.K H N v d) (r : RelV v u) : ∃ as, Reads s.heap u d as ∧ sysModules ∉ as :=
  h.elim (fun h => Dd.reads I d v u h r) (fun h => h.reads I r)
/-- repr of (ints, a thing) -/
def rReprT (K : PySem.W.Frag) : List V → Hp → VK → Prop := fun xs H Q => ∃ (t a : Addr) (v : V) (z : List Int) (d : PyData) (N : Addr → Prop), xs = [.ref t] ∧ SqT K H t [.ref a, v] ∧ H a = some (.lst (z.map V.int)) ∧ a ≠ sysModules ∧ Th K H N v d ∧
  (PyData.tuple [.list (z.map .int), d]).showable = true ∧ (PyData.tuple [.list (z.map .int), d]).shown.length ≤ sizeLine ∧ (PyData.tuple [.list (z.map .int), d]).depth ≤ 60 ∧ Q (.str (PyData.tuple [.list (z.map .int), d]).shown) H
theorem ints_dd {K : PySem.W.Frag} {H : Hp} {N : Addr → Prop} : ∀ ns : List Int, DdAll K H N (ns.map V.int) (ns.map .int)
  | [] => .nil
  | i :: ns => .cons (.int i) (ints_dd ns)
theorem call_reprT (g : Free X.A) (hu : X.A.units + 64 < cLine) : CallR X (.builtin "repr") (rReprT X.K) := by
  intro pins s σ H xs us Q I r h
  obtain ⟨t, a, v, z, d, N, rfl, ht, ea, ga, hd, hs, hz, hdp, q⟩ := h
  obtain ⟨u, rfl, ru⟩ := r.one
  cases ru
  obtain ⟨its, rv, pl, _⟩ := I.tuple ht
  obtain ⟨u1, u2, rfl, r1, r2⟩ := vals2 rv
  obtain ⟨as, rd, hn⟩ := Dd.reads I (.list (z.map .int)) (.ref a) u1 (.lst (N := fun _ => False) ea id ga (ints_dd z)) r1
  obtain ⟨bs, rd2, hn2⟩ := hd.reads I r2
  obtain ⟨o2, ho2, hc2, n2, hd2⟩ := pl
  have R : Reads s.heap (.ref t) (.tuple [.list (z.map .int), d]) (as ++ (bs ++ [])) := .tuple ho2 hc2 hd2 (.cons rd (.cons rd2 .nil))
  refine repr_of_reads' R hs (fun _ m => ?_) g (by omega) (fun _ _ e => e) (fun h' u tk k => ⟨.str _, H, I.kept k, ⟨u, rfl⟩, q⟩) hz
  rcases List.mem_append.mp m with m | m
  · exact hn m
  · rw [List.append_nil] at m
    exact hn2 m
end

/-! slabs among data -/
def sD (s : Slab) : PyData := .tuple [.int (s.1 : Nat), .int s.2]
def asSlab (n : Nat) : PyData → Option Slab
  | .tuple ds => match ds with
    | [.int a, .int m] => if 0 ≤ a ∧ a < n ∧ 1 ≤ m then some (a.toNat, m) else none
    | _ => none
  | _ => none
theorem asSlab_sD {n : Nat} {s : Slab} (h : s.1 < n ∧ 1 ≤ s.2) : asSlab n (sD s) = some s := by
  show (if (0 : Int) ≤ ((s.1 : Nat) : Int) ∧ ((s.1 : Nat) : Int) < (n : Int) ∧ 1 ≤ s.2 then some (((s.1 : Nat) : Int).toNat, s.2) else none) = some s
  rw [if_pos ⟨by omega, by omega, h.2⟩]
  rfl
theorem asSlab_some {n : Nat} {d : PyData} {s : Slab} (h : asSlab n d = some s) : d = sD s ∧ s.1 < n ∧ 1 ≤ s.2 := by
  unfold asSlab at h
  split at h
  · split at h
    · rename_i a m
      split at h
      · rename_i c
        cases Option.some.inj h
        refine ⟨?_, by show a.toNat < n; omega, c.2.2⟩
        show PyData.tuple [.int a, .int m] = .tuple [.int ((a.toNat : Nat) : Int), .int m]
        rw [show ((a.toNat : Nat) : Int) = a by omega]
      · cases h
    · cases h
  · cases h
/-- where so many rows are left -/
def fitD (r : List Int) (d : PyData) : Bool := match asSlab r.length d with
  | some s => decide (s.2 ≤ r.getD s.1 0)
  | none => false
def wholeL (r : List Int) : List PyData → Bool
  | [] => decide ((0 : Int) ∈ r)
  | d :: ds => match asSlab r.length d with
    | some s => !decide ((0 : Int) ∈ r) && (decide (s.2 ≤ r.getD s.1 0) && wholeL (red r s) ds)
    | none => false
def wholeD (r : List Int) : PyData → Bool
  | .list ds => wholeL r ds
  | _ => false
def allS (n : Nat) (ds : List PyData) : Bool := ds.all fun d => (asSlab n d).isSome
theorem allS_slabs {n : Nat} : ∀ {ds : List PyData}, allS n ds = true → ∃ ss : List Slab, ds = ss.map sD ∧ Fine n ss
  | [], _ => ⟨[], rfl, fun s m => nomatch m⟩
  | d :: ds, h => by
    unfold allS at h
    rw [List.all_cons, Bool.and_eq_true] at h
    obtain ⟨ss, rfl, f⟩ := allS_slabs (ds := ds) h.2
    obtain ⟨s, e⟩ := Option.isSome_iff_exists.mp h.1
    obtain ⟨rfl, a⟩ := asSlab_some e
    refine ⟨s :: ss, rfl, fun t m => ?_⟩
    rcases List.mem_cons.mp m with rfl | m
    · exact a
    · exact f t m
theorem wholeL_slabs : ∀ {ss : List Slab} {r : List Int}, Fine r.length ss → wholeL r (ss.map sD) = okW r ss
  | [], r, _ => rfl
  | s :: ss, r, f => by
    have f2 : Fine (red r s).length ss := by rw [red_len]; exact f.tail
    rw [List.map_cons]
    unfold wholeL okW
    rw [asSlab_sD f.head]
    dsimp only
    rw [wholeL_slabs f2]
theorem wholeL_bad : ∀ {ds : List PyData} {r : List Int}, allS r.length ds = false → wholeL r ds = false
  | [], r, h => nomatch h
  | d :: ds, r, h => by
    unfold allS at h
    rw [List.all_cons, Bool.and_eq_false_iff] at h
    unfold wholeL
    cases e : asSlab r.length d with
    | none => rfl
    | some s =>
      dsimp only
      rcases h with h | h
      · rw [e] at h
        cases h
      · rw [wholeL_bad (ds := ds) (r := red r s) (by rw [red_len]; exact h), Bool.and_false, Bool.and_false]
/-- what is due -/
def dueD (z : List Int) (d : PyData) : Bool := wholeD z d
theorem dds {K : PySem.W.Frag} {H : Hp} {N : Addr → Prop} {v : V} {s : Slab} (h : Dd K H N v (sD s)) : ∃ a, v = .ref a ∧ SqT K H a [.int (s.1 : Nat), .int s.2] := by
  cases h with
  | tup a k =>
    cases k with
    | cons k1 k =>
    cases k with
    | cons k2 k =>
    cases k
    cases k1
    cases k2
    exact ⟨_, rfl, a⟩
end Gd
end

section
set_option Elab.async false
set_option linter.all false
set_option maxRecDepth 100000
set_option maxHeartbeats 4000000
namespace Gd
open PySem PySem.Spec PyProof.Rows L2 Gd
/-! Data each of whose dicts isn't within itself; names exchanged. -/
mutual
inductive Cg (K : PySem.W.Frag) (H : Hp) (ns : List Str) : (Addr → Prop) → V → PyData → Prop
  | non {N : Addr → Prop} : Cg K H ns N .non .none
  | bl {N : Addr → Prop} (b : Bool) : Cg K H ns N (.bl b) (.bool b)
  | int {N : Addr → Prop} (i : Int) : Cg K H ns N (.int i) (.int i)
  | str {N : Addr → Prop} (x : Str) : Cg K H ns N (.str x) (.str x)
  | tup {N : Addr → Prop} {a : Addr} {xs : List V} {ds : List PyData} : SqT K H a xs → ds.length ≤ 1000 → CgAll K H ns N xs ds → Cg K H ns N (.ref a) (.tuple ds)
  | dct {N : Addr → Prop} {a : Addr} {kvs : List (Key × V)} {ps : List (PyData × PyData)} : H a = some (.dK kvs) → ¬ N a → ps.length ≤ 10 → (kvs.map (·.1)).Nodup → CgKv K H ns (fun b => N b ∨ b = a) kvs ps → Cg K H ns N (.ref a) (.dict ps)
inductive CgAll (K : PySem.W.Frag) (H : Hp) (ns : List Str) : (Addr → Prop) → List V → List PyData → Prop
  | nil {N : Addr → Prop} : CgAll K H ns N [] []
  | cons {N : Addr → Prop} {v : V} {vs : List V} {d : PyData} {ds : List PyData} : Cg K H ns N v d → CgAll K H ns N vs ds → CgAll K H ns N (v :: vs) (d :: ds)
inductive CgKv (K : PySem.W.Frag) (H : Hp) (ns : List Str) : (Addr → Prop) → List (Key × V) → List (PyData × PyData) → Prop
  | nil {N : Addr → Prop} : CgKv K H ns N [] []
  | cons {N : Addr → Prop} {x : Str} {v : V} {kvs : List (Key × V)} {d : PyData} {ps : List (PyData × PyData)} : x ∈ ns → Cg K H ns N v d → CgKv K H ns N kvs ps → CgKv K H ns N ((Sum.inr x, v) :: kvs) ((.str x, d) :: ps)
end
section
variable {K : PySem.W.Frag} {H H' : Hp} {ns : List Str}
mutual
theorem Cg.stay (t : Tups K H H') : ∀ (d : PyData) {N N' : Addr → Prop} {v : V}, (∀ a o, ¬ N a → H a = some o → H' a = some o) → (∀ a, N' a → N a) → Cg K H ns N v d → Cg K H' ns N' v d
  | .none, _, _, _, _, _, h => by cases h; exact .non
  | .bool _, _, _, _, _, _, h => by cases h; exact .bl _
  | .int _, _, _, _, _, _, h => by cases h; exact .int _
  | .str _, _, _, _, _, _, h => by cases h; exact .str _
  | .list _, _, _, _, _, _, h => by cases h
  | .tuple ds, _, _, _, x, m, h => by
    cases h with
    | tup a l b => exact .tup (t _ _ a) l (CgAll.stay t ds x m b)
  | .dict ps, _, _, _, x, m, h => by
    cases h with
    | dct a n l e b => exact .dct (x _ _ n a) (fun z => n (m _ z)) l e (CgKv.stay t ps (fun c o nc q => x c o (fun z => nc (.inl z)) q) (fun c z => z.imp (m c) id) b)
theorem CgAll.stay (t : Tups K H H') : ∀ (ds : List PyData) {N N' : Addr → Prop} {vs : List V}, (∀ a o, ¬ N a → H a = some o → H' a = some o) → (∀ a, N' a → N a) → CgAll K H ns N vs ds → CgAll K H' ns N' vs ds
  | [], _, _, _, _, _, h => by cases h; exact .nil
  | d :: ds, _, _, _, x, m, h => by
    cases h with
    | cons a b => exact .cons (Cg.stay t d x m a) (CgAll.stay t ds x m b)
theorem CgKv.stay (t : Tups K H H') : ∀ (ps : List (PyData × PyData)) {N N' : Addr → Prop} {kvs : List (Key × V)}, (∀ a o, ¬ N a → H a = some o → H' a = some o) → (∀ a, N' a → N a) → CgKv K H ns N kvs ps → CgKv K H' ns N' kvs ps
  | [], _, _, _, _, _, h => by cases h; exact .nil
  | (_, d) :: ps, _, _, _, x, m, h => by
    cases h with
    | cons i a b => exact .cons i (Cg.stay t d x m a) (CgKv.stay t ps x m b)
end
theorem Cg.same {N : Addr → Prop} {v : V} {d : PyData} (s : Same H H') (h : Cg K H ns N v d) : Cg K H' ns N v d := Cg.stay (Tups.of_same s) d (fun a o _ e => s a o e) (fun _ z => z) h
theorem CgAll.same {N : Addr → Prop} {vs : List V} {ds : List PyData} (s : Same H H') (h : CgAll K H ns N vs ds) : CgAll K H' ns N vs ds := CgAll.stay (Tups.of_same s) ds (fun a o _ e => s a o e) (fun _ z => z) h
theorem CgKv.same {N : Addr → Prop} {kvs : List (Key × V)} {ps : List (PyData × PyData)} (s : Same H H') (h : CgKv K H ns N kvs ps) : CgKv K H' ns N kvs ps := CgKv.stay (Tups.of_same s) ps (fun a o _ e => s a o e) (fun _ z => z) h
theorem Cg.kind {N : Addr → Prop} {v : V} {d : PyData} (h : Cg K H ns N v d) : TyX K H v (.type (kindN d)) := by
  cases h with
  | non => exact .base .non
  | bl b => exact .base (.bl b)
  | int i => exact .base (.int i)
  | str x => exact .base (.str x)
  | dct e _ _ _ _ => exact .base (.dK e)
  | tup a _ _ =>
    rcases a with (a | ⟨z, a⟩) | ⟨z, its, n, a, c, _⟩
    · exact .base (.tup a)
    · exact .fTuple a
    · exact .kTuple a c
theorem CgAll.at_ : ∀ {N : Addr → Prop} {vs : List V} {ds : List PyData} {i : Nat} {v : V}, CgAll K H ns N vs ds → vs[i]? = some v → ∃ d, ds[i]? = some d ∧ Cg K H ns N v d
  | _, _, _, _, _, .nil, e => by simp at e
  | _, _, _, 0, _, .cons a _, e => by
    cases Option.some.inj e
    exact ⟨_, rfl, a⟩
  | _, _, _, i + 1, _, .cons _ b, e => CgAll.at_ (i := i) b e
theorem CgAll.len : ∀ {N : Addr → Prop} {vs : List V} {ds : List PyData}, CgAll K H ns N vs ds → vs.length = ds.length
  | _, _, _, .nil => rfl
  | _, _, _, .cons _ b => congrArg (· + 1) (CgAll.len b)
theorem CgKv.len : ∀ {N : Addr → Prop} {kvs : List (Key × V)} {ps : List (PyData × PyData)}, CgKv K H ns N kvs ps → kvs.length = ps.length
  | _, _, _, .nil => rfl
  | _, _, _, .cons _ _ b => congrArg (· + 1) (CgKv.len b)
theorem CgKv.at_ : ∀ {N : Addr → Prop} {kvs : List (Key × V)} {ps : List (PyData × PyData)} {i : Nat} {k : Key} {v : V}, CgKv K H ns N kvs ps → kvs[i]? = some (k, v) → ∃ x d, k = Sum.inr x ∧ x ∈ ns ∧ ps[i]? = some (.str x, d) ∧ Cg K H ns N v d
  | _, _, _, _, _, _, .nil, e => by simp at e
  | _, _, _, 0, _, _, .cons m a _, e => by
    cases Option.some.inj e
    exact ⟨_, _, rfl, m, rfl, a⟩
  | _, _, _, i + 1, _, _, .cons _ _ b, e => CgKv.at_ (i := i) b e
mutual
theorem Cg.shun {q : Addr} (n : H q = none) : ∀ (d : PyData) {N : Addr → Prop} {v : V}, Cg K H ns N v d → Cg K H ns (fun a => N a ∨ a = q) v d
  | .none, _, _, h => by cases h; exact .non
  | .bool _, _, _, h => by cases h; exact .bl _
  | .int _, _, _, h => by cases h; exact .int _
  | .str _, _, _, h => by cases h; exact .str _
  | .list _, _, _, h => by cases h
  | .tuple ds, _, _, h => by
    cases h with
    | tup a l b => exact .tup a l (CgAll.shun n ds b)
  | .dict ps, N, _, h => by
    cases h with
    | @dct _ a _ _ e na l k b =>
      refine .dct e (fun z => z.elim na fun z => by rw [z, n] at e; cases e) l k ?_
      have := CgKv.shun n ps b
      exact CgKv.stay .refl ps (fun a o _ e => e) (fun c z => by rcases z with (z | z) | z; exact .inl (.inl z); exact .inr z; exact .inl (.inr z)) this
theorem CgAll.shun {q : Addr} (n : H q = none) : ∀ (ds : List PyData) {N : Addr → Prop} {vs : List V}, CgAll K H ns N vs ds → CgAll K H ns (fun a => N a ∨ a = q) vs ds
  | [], _, _, h => by cases h; exact .nil
  | d :: ds, _, _, h => by
    cases h with
    | cons a b => exact .cons (Cg.shun n d a) (CgAll.shun n ds b)
theorem CgKv.shun {q : Addr} (n : H q = none) : ∀ (ps : List (PyData × PyData)) {N : Addr → Prop} {kvs : List (Key × V)}, CgKv K H ns N kvs ps → CgKv K H ns (fun a => N a ∨ a = q) kvs ps
  | [], _, _, h => by cases h; exact .nil
  | (_, d) :: ps, _, _, h => by
    cases h with
    | cons i a b => exact .cons i (Cg.shun n d a) (CgKv.shun n ps b)
end
theorem Cg.less {N N' : Addr → Prop} {v : V} {d : PyData} (m : ∀ a, N' a → N a) (h : Cg K H ns N v d) : Cg K H ns N' v d := Cg.stay .refl d (fun a o _ e => e) m h
theorem CgKv.keys : ∀ {N : Addr → Prop} {kvs : List (Key × V)} {ps : List (PyData × PyData)}, CgKv K H ns N kvs ps → ∀ k ∈ kvs.map (·.1), ∃ x ∈ ns, k = Sum.inr x
  | _, _, _, .nil, _, h => nomatch h
  | _, _, _, .cons m _ b, k, h => by
    rcases List.mem_cons.mp h with h | h
    · exact ⟨_, m, h⟩
    · exact CgKv.keys b k h
mutual
theorem Cg.toDg : ∀ (d : PyData) {N : Addr → Prop} {v : V}, Cg K H ns N v d → Dg K H N v d
  | .none, _, _, h => by cases h; exact .non
  | .bool _, _, _, h => by cases h; exact .bl _
  | .int _, _, _, h => by cases h; exact .int _
  | .str _, _, _, h => by cases h; exact .str _
  | .list _, _, _, h => by cases h
  | .tuple ds, _, _, h => by
    cases h with
    | tup a l b => exact .tup a (CgAll.toDg ds b)
  | .dict ps, N, _, h => by
    cases h with
    | dct e na l k b => exact .dct e na (DgKv.less (fun c z => .inl z) (CgKv.toDg ps b))
theorem CgAll.toDg : ∀ (ds : List PyData) {N : Addr → Prop} {vs : List V}, CgAll K H ns N vs ds → DgAll K H N vs ds
  | [], _, _, h => by cases h; exact .nil
  | d :: ds, _, _, h => by
    cases h with
    | cons a b => exact .cons (Cg.toDg d a) (CgAll.toDg ds b)
theorem CgKv.toDg : ∀ (ps : List (PyData × PyData)) {N : Addr → Prop} {kvs : List (Key × V)}, CgKv K H ns N kvs ps → DgKv K H N kvs ps
  | [], _, _, h => by cases h; exact .nil
  | (_, d) :: ps, _, _, h => by
    cases h with
    | cons i a b => exact .consS (Cg.toDg d a) (CgKv.toDg ps b)
end
mutual
theorem Cg.ofDp : ∀ (d : PyData) {N : Addr → Prop} {v : V}, tupOnly d = true → Dp K H v d → Cg K H ns N v d
  | .none, _, _, _, h => by cases h; exact .non
  | .bool _, _, _, _, h => by cases h; exact .bl _
  | .int _, _, _, _, h => by cases h; exact .int _
  | .str _, _, _, _, h => by cases h; exact .str _
  | .tuple ds, _, _, o, h => by
    cases h with
    | tup a b =>
      simp only [tupOnly, Bool.and_eq_true, decide_eq_true_eq] at o
      exact .tup a o.1 (CgAll.ofDp ds o.2 b)
  | .list _, _, _, o, _ => by simp [tupOnly] at o
  | .dict _, _, _, o, _ => by simp [tupOnly] at o
theorem CgAll.ofDp : ∀ (ds : List PyData) {N : Addr → Prop} {vs : List V}, tupOnlyAll ds = true → DpAll K H vs ds → CgAll K H ns N vs ds
  | [], _, _, _, h => by cases h; exact .nil
  | d :: ds, _, _, o, h => by
    simp only [tupOnlyAll, Bool.and_eq_true] at o
    cases h with
    | cons a b => exact .cons (Cg.ofDp d o.1 a) (CgAll.ofDp ds o.2 b)
end
mutual
theorem Dg.toDp : ∀ (d : PyData) {N : Addr → Prop} {v : V}, tupOnly d = true → Dg K H N v d → Dp K H v d
  | .none, _, _, _, h => by cases h; exact .non
  | .bool _, _, _, _, h => by cases h; exact .bl _
  | .int _, _, _, _, h => by cases h; exact .int _
  | .str _, _, _, _, h => by cases h; exact .str _
  | .tuple ds, _, _, o, h => by
    cases h with
    | tup a b =>
      simp only [tupOnly, Bool.and_eq_true] at o
      exact .tup a (DgAll.toDp ds o.2 b)
  | .list _, _, _, o, _ => by simp [tupOnly] at o
  | .dict _, _, _, o, _ => by simp [tupOnly] at o
theorem DgAll.toDp : ∀ (ds : List PyData) {N : Addr → Prop} {vs : List V}, tupOnlyAll ds = true → DgAll K H N vs ds → DpAll K H vs ds
  | [], _, _, _, h => by cases h; exact .nil
  | d :: ds, _, _, o, h => by
    simp only [tupOnlyAll, Bool.and_eq_true] at o
    cases h with
    | cons a b => exact .cons (Dg.toDp d o.1 a) (DgAll.toDp ds o.2 b)
end
end
/-- names exchanged -/
def wordOf (ws : List (Str × Str)) (x : Str) : Str := match findC ws x with
  | some e => e.2
  | none => x
mutual
def calledD (r : Str → Str) : PyData → PyData
  | .none => .none
  | .bool b => .bool b
  | .int i => .int i
  | .str x => .str (r x)
  | .list ds => .list ds
  | .tuple ds => .tuple (calledAll r ds)
  | .dict ps => .dict (calledKv r ps)
def calledAll (r : Str → Str) : List PyData → List PyData
  | [] => []
  | d :: ds => calledD r d :: calledAll r ds
def calledKv (r : Str → Str) : List (PyData × PyData) → List (PyData × PyData)
  | [] => []
  | (k, d) :: ps => (match k with | .str x => .str (r x) | k => k, calledD r d) :: calledKv r ps
end
theorem calledAll_map (r : Str → Str) : ∀ ds : List PyData, calledAll r ds = ds.map (calledD r)
  | [] => by simp only [calledAll, List.map_nil]
  | d :: ds => by simp only [calledAll, calledAll_map r ds, List.map_cons]
theorem calledKv_len (r : Str → Str) : ∀ ps : List (PyData × PyData), (calledKv r ps).length = ps.length
  | [] => by simp only [calledKv]
  | (k, d) :: ps => by simp only [calledKv, List.length_cons, calledKv_len r ps]
theorem calledKv_take (r : Str → Str) : ∀ (ps : List (PyData × PyData)) (i : Nat), (calledKv r ps).take i = calledKv r (ps.take i)
  | [], i => by simp only [calledKv, List.take_nil]
  | (k, d) :: ps, 0 => by simp only [List.take_zero, calledKv]
  | (k, d) :: ps, i + 1 => by simp only [calledKv, List.take_succ_cons, calledKv_take r ps i]
theorem calledKv_snoc (r : Str → Str) : ∀ (ps : List (PyData × PyData)) (x : Str) (d : PyData), calledKv r (ps ++ [(.str x, d)]) = calledKv r ps ++ [(.str (r x), calledD r d)]
  | [], x, d => by simp only [calledKv, List.nil_append]
  | (k, e) :: ps, x, d => by simp only [calledKv, List.cons_append, calledKv_snoc r ps x d]
def isDc : PyData → Bool
  | .dict _ => true
  | _ => false
theorem q_dct : ∀ d : PyData, kitB (kindN d) "dict" = some (isDc d)
  | .none => show kitB "NoneType" "dict" = some false by decide +kernel
  | .bool _ => show kitB "bool" "dict" = some false by decide +kernel
  | .int _ => show kitB "int" "dict" = some false by decide +kernel
  | .str _ => show kitB "str" "dict" = some false by decide +kernel
  | .list _ => show kitB "list" "dict" = some false by decide +kernel
  | .tuple _ => show kitB "tuple" "dict" = some false by decide +kernel
  | .dict _ => show kitB "dict" "dict" = some true by decide +kernel
def isStD : PyData → Bool
  | .str _ => true
  | _ => false
theorem q_strD : ∀ d : PyData, kitB (kindN d) "str" = some (isStD d)
  | .none => show kitB "NoneType" "str" = some false by decide +kernel
  | .bool _ => show kitB "bool" "str" = some false by decide +kernel
  | .int _ => show kitB "int" "str" = some false by decide +kernel
  | .str _ => show kitB "str" "str" = some true by decide +kernel
  | .list _ => show kitB "list" "str" = some false by decide +kernel
  | .tuple _ => show kitB "tuple" "str" = some false by decide +kernel
  | .dict _ => show kitB "dict" "str" = some false by decide +kernel
def wV (ws : List (Str × Str)) : List (Key × V) := ws.map fun x => ((Sum.inr x.1 : Key), V.str x.2)
theorem valV_w (ws : List (Str × Str)) (x : Str) : valV (wV ws) (Sum.inr x) = (findC ws x).map fun e => .str e.2 := by
  induction ws with
  | nil => rfl
  | cons e ws ih =>
    show valV ((Sum.inr e.1, V.str e.2) :: wV ws) (Sum.inr x) = _
    rw [valV_cons, findC_cons, ih]
    by_cases z : e.1 = x
    · rw [if_pos z, if_pos (congrArg Sum.inr z)]
      rfl
    · rw [if_neg z, if_neg (fun q => z (Sum.inr.inj q))]
theorem fold_fresh : ∀ (more acc : List (Key × V)), ((acc ++ more).map (·.1)).Nodup → mergeK acc more = acc ++ more
  | [], acc, _ => by rw [List.append_nil]; rfl
  | kv :: more, acc, h => by
    show mergeK (putK acc kv.1 kv.2) more = _
    have fr : ∀ x ∈ acc, x.1 ≠ kv.1 := fun x hx e => by
      rw [List.map_append] at h
      exact (List.nodup_append.mp h).2.2 x.1 (List.mem_map.mpr ⟨x, hx, rfl⟩) kv.1 (by simp) e
    rw [putK_fresh fr, fold_fresh more (acc ++ [kv]) (by rw [List.append_assoc]; exact h), List.append_assoc]
    rfl
theorem merge_fresh {kvs : List (Key × V)} (h : (kvs.map (·.1)).Nodup) : mergeK [] kvs = kvs := fold_fresh kvs [] h
def rK (r : Str → Str) : Key → Key
  | .inl i => .inl i
  | .inr x => .inr (r x)
theorem rK_nodup {ns : List Str} {r : Str → Str} (inj : ∀ x ∈ ns, ∀ y ∈ ns, r x = r y → x = y) {l : List Key} (n : l.Nodup) (h : ∀ k ∈ l, ∃ x ∈ ns, k = Sum.inr x) : (l.map (rK r)).Nodup := by
  refine List.pairwise_map.mpr (List.Pairwise.imp_of_mem (fun {a b} ha hb ne e => ne ?_) n)
  obtain ⟨x, hx, rfl⟩ := h _ ha
  obtain ⟨y, hy, rfl⟩ := h _ hb
  exact congrArg Sum.inr (inj x hx y hy (Sum.inr.inj e))
/-- as deep as n -/
def Lv : Nat → PyData → Prop
  | 0, .tuple _ => False
  | 0, .dict _ => False
  | n + 1, .tuple ds => ∀ d ∈ ds, Lv n d
  | n + 1, .dict ps => ∀ p ∈ ps, Lv n p.2
  | _, _ => True
def isTp : PyData → Bool
  | .tuple _ => true
  | _ => false
theorem q_tp : ∀ d : PyData, kitB (kindN d) "tuple" = some (isTp d)
  | .none => show kitB "NoneType" "tuple" = some false by decide +kernel
  | .bool _ => show kitB "bool" "tuple" = some false by decide +kernel
  | .int _ => show kitB "int" "tuple" = some false by decide +kernel
  | .str _ => show kitB "str" "tuple" = some false by decide +kernel
  | .list _ => show kitB "list" "tuple" = some false by decide +kernel
  | .tuple _ => show kitB "tuple" "tuple" = some true by decide +kernel
  | .dict _ => show kitB "dict" "tuple" = some false by decide +kernel
end Gd
end

section
set_option Elab.async false
set_option linter.all false
set_option maxRecDepth 100000
set_option maxHeartbeats 4000000
namespace Gd
open PySem PySem.Spec PyProof.Rows L2 Gd
/-! What a guess is at the least; linked sources. -/
theorem tied_no {ss : List Src} {n : Nat} : tied ss n [] = [] := by
  unfold tied
  refine List.flatMap_eq_nil_iff.mpr fun s _ => ?_
  unfold tieS
  refine List.flatMap_eq_nil_iff.mpr fun p _ => ?_
  unfold tie1
  simp
theorem flat_sub {α : Type} {f : α → List (Nat × Pr)} {g : α → Nat} : ∀ l : List α, (∀ a ∈ l, ((f a).map (·.1)).Sublist [g a]) → ((l.flatMap f).map (·.1)).Sublist (l.map g)
  | [], _ => List.Sublist.refl _
  | a :: l, h => by
    rw [List.flatMap_cons, List.map_append, List.map_cons]
    exact (h a (by simp)).append (flat_sub l fun b hb => h b (List.mem_cons_of_mem _ hb))
theorem link1_sub {ss : List Src} {js : List Nat} {n : Nat} : ((link1 ss js n).map (·.1)).Sublist [n] := by
  unfold link1
  split
  · exact List.nil_sublist _
  · exact List.Sublist.refl _
theorem link2_sub {ss : List Src} {n : Nat} : ((link2 ss n).map (·.1)).Sublist [n] := by
  unfold link2
  split
  · exact List.nil_sublist _
  · exact List.Sublist.refl _
theorem range_getD (o : List Nat) : (List.range o.length).map (fun k => o.getD k 0) = o := by
  refine List.ext_getElem (by simp) fun i h1 h2 => ?_
  simp [List.getD_eq_getElem?_getD, List.getElem?_eq_getElem h2]
theorem links_sub {ss : List Src} {o : List Nat} (h : 1 ≤ o.length) : ((linksL ss o).map (·.1)).Sublist (ledL ss o) := by
  unfold linksL ledL
  rw [List.map_append]
  refine List.Sublist.append ?_ ?_
  · cases o with
    | nil => simp at h
    | cons a r =>
      have e : linksA ss (a :: r) (a :: r).length = (List.range r.length).flatMap fun k => link1 ss ((a :: r).take (k + 1)) ((a :: r).getD (k + 1) 0) := by
        unfold linksA
        rw [List.length_cons, List.range_succ_eq_map, List.flatMap_cons, List.flatMap_map]
        have e0 : link1 ss ((a :: r).take 0) ((a :: r).getD 0 0) = [] := by
          unfold link1
          rw [List.take_zero, tied_no]
        rw [e0, List.nil_append]
      rw [e]
      have := flat_sub (f := fun k => link1 ss ((a :: r).take (k + 1)) ((a :: r).getD (k + 1) 0)) (g := fun k => (a :: r).getD (k + 1) 0) (List.range r.length) (fun k _ => link1_sub)
      rw [show (List.range r.length).map (fun k => (a :: r).getD (k + 1) 0) = r from range_getD r] at this
      exact this
  · exact flat_sub (g := fun k => o.length + k) _ fun k _ => link2_sub
theorem led_nodup {ss : List Src} {o : List Nat} (n : o.Nodup) (h : ∀ j ∈ o, j < o.length) : (ledL ss o).Nodup := by
  unfold ledL
  refine List.nodup_append.mpr ⟨(List.drop_sublist 1 o).nodup n, ?_, fun a ha b hb e => ?_⟩
  · exact List.pairwise_map.mpr (List.Pairwise.imp (fun ne z => ne (by omega)) List.nodup_range)
  · have := h a (List.mem_of_mem_drop ha)
    obtain ⟨k, _, rfl⟩ := List.mem_map.mp hb
    omega
theorem linkG_mem {ls : List (Nat × Pr)} {x : Nat × Pr} (h : x ∈ ls) : (linkG ls x.1).isSome = true := by
  unfold linkG
  rw [Option.isSome_map]
  exact List.find?_isSome.mpr ⟨x, h, decide_eq_true rfl⟩
theorem perm_nat {ns' : List Int} {ks : List Nat} (p : ns'.Perm (ks.map fun k => ((k : Nat) : Int))) : ∃ ks' : List Nat, ns' = ks'.map (fun k => ((k : Nat) : Int)) ∧ ks'.Perm ks := by
  refine ⟨ns'.map Int.toNat, ?_, ?_⟩
  · have h : ∀ x ∈ ns', ((x.toNat : Nat) : Int) = x := fun x hx => by
      obtain ⟨k, _, rfl⟩ := List.mem_map.mp (p.mem_iff.mp hx)
      rfl
    rw [List.map_map]
    exact ((List.map_congr_left (f := (fun k => ((k : Nat) : Int)) ∘ Int.toNat) (g := id) h).trans (List.map_id ns')).symm
  · have := p.map Int.toNat
    rw [List.map_map] at this
    have e : ks.map (Int.toNat ∘ fun k => ((k : Nat) : Int)) = ks := (List.map_congr_left (g := id) fun k _ => rfl).trans (List.map_id ks)
    rw [e] at this
    exact this
def boundN (ss : List Src) (cs : Cnt) (o : List Nat) (w : Str) : Int := 1 + (rowsG ss cs (o.getD 0 0) + if w = "kept" then (((linksL ss o).map (·.1)).map (rowsG ss cs)).sum else 0)
theorem bound_le {ss : List Src} {cs : Cnt} {o : List Nat} {w : Str} (ok : CnOk cs) (h1 : 1 ≤ o.length) (n : o.Nodup) (h : ∀ j ∈ o, j < o.length) : boundN ss cs o w ≤ guessN ss cs o w := by
  have f := fold_least (ss := ss) (o := o) (w := w) ok (linksL ss o) (ledL ss o) (rowsG ss cs (o.getD 0 0), 1 + rowsG ss cs (o.getD 0 0)) (rowsG_in ok).1
  have e : guessN ss cs o w = ((ledL ss o).foldl (stepG ss (linksL ss o) cs o w) (rowsG ss cs (o.getD 0 0), 1 + rowsG ss cs (o.getD 0 0))).2 := rfl
  rw [e]
  refine Int.le_trans ?_ f
  unfold boundN
  dsimp only
  split
  · have s := links_sub (ss := ss) h1
    have l := sum_le_of (f := rowsG ss cs) ((linksL ss o).map (·.1)) ((ledL ss o).filter fun n => (linkG (linksL ss o) n).isSome) (s.nodup (led_nodup n h)) (fun k hk => ?_) (fun k _ => (rowsG_in ok).1)
    · omega
    · obtain ⟨x, hx, rfl⟩ := List.mem_map.mp hk
      exact List.mem_filter.mpr ⟨s.subset (List.mem_map.mpr ⟨x, hx, rfl⟩), linkG_mem hx⟩
  · omega
end Gd
end

section
set_option Elab.async false
set_option linter.all false
set_option maxRecDepth 100000
set_option maxHeartbeats 4000000
namespace Gd
open PySem PySem.Spec PyProof.Rows L2
/-! list(zip(a, b)), two lists of one length. -/
theorem zip_no_len : typeLookup (.type "zip") "__len__" = pure none := by rw [typeLookup_type, builtinLookup_eq_fast]; kernel_rfl
theorem zip_no_hint : typeLookup (.type "zip") "__length_hint__" = pure none := by rw [typeLookup_type, builtinLookup_eq_fast]; kernel_rfl
/-- new pairs of what stands in two lists -/
def Prs (H : Hp) (xs ys : List V) (zs : List V) (i : Nat) : Prop := zs.length = i ∧ ∀ (j : Nat) (v : V), zs[j]? = some v → ∃ (T : Addr) (x y : V), v = V.ref T ∧ H T = some (.tup [x, y]) ∧ xs[j]? = some x ∧ ys[j]? = some y
/-- a zip, i pairs drawn -/
def ZSt (z TI TO i1 i2 a b S : Addr) (i : Nat) (h : Heap) : Prop := IsPair h TI (.ref i1) (.ref i2) ∧ h.IsListIter i1 a i ∧ h.IsListIter i2 b i ∧ (∃ o, h.get? TO = some o) ∧
  ((IsZip h z TI TO .none ∧ ∃ x y, IsPair h TO x y) ∨ ∃ T f oT, IsZipHeld h z TI TO T f ∧ h.get? T = some oT ∧ T ≠ z ∧ T ≠ i1 ∧ T ≠ i2 ∧ T ≠ S)
theorem sql_other {K : PySem.W.Frag} {H : Hp} {a S : Addr} {u : HO} {xs : List V} (h : SqL K H a xs) (n : a ≠ S) : SqL K (upd H S u) a xs := by
  rcases h with (h | ⟨o, h⟩) | h
  · exact .inl (.inl (by rw [upd_ne n]; exact h))
  · exact .inl (.inr ⟨o, by rw [upd_ne n]; exact h⟩)
  · exact .inr h
section
variable {X : Cx} {pins : List (Addr × Obj)} {σ : L2.St} {z TI TO i1 i2 a b S : Addr} {xs ys : List V} {H0 : Hp} {res : Value} {R : Result → Shared → Prop} {A : Around}
theorem zl_loop (D : ZipApart z TI TO i1 i2 a b) (hA : A.handled = none) (nS : S ∉ [z, TI, TO, i1, i2]) (hl : xs.length = ys.length) (hz : xs.length ≤ sizeLine) (naS : a ≠ S) (nbS : b ≠ S)
    (fin : ∀ H' s' zs, Inv X pins σ H' s' → (∀ c o, c ≠ S → H0 c = some o → H' c = some o) → H' S = some (.lst zs) → Prs H' xs ys zs xs.length → R (.ok (.ret res)) s') :
    ∀ (k i : Nat) (H1 : Hp) (s1 : Shared) (zs : List V), xs.length - i = k → i ≤ xs.length → Inv X pins σ H1 s1 → SqL X.K H1 a xs → SqL X.K H1 b ys → ZSt z TI TO i1 i2 a b S i s1.heap →
      (∀ c ∈ [z, TI, TO, i1, i2], FpOk X pins H1 c) → H1 S = some (.lst zs) → Prs H1 xs ys zs i → (∀ c o, c ≠ S → H0 c = some o → H1 c = some o) →
      codeAny (model X.prog X.w) A (.builtin "list.extend.loop" ⟨[.ref S, .ref z, res], []⟩) R s1 := by
  have hA1 : A.in1.handled = none := hA
  intro k
  induction k with
  | zero =>
    intro i H1 s1 zs hk hi I ha hb st hf eS pr k0
    have hin : i = xs.length := by omega
    subst hin
    obtain ⟨its, rv, p, _⟩ := I.list ha
    obtain ⟨its2, rv2, p2, _⟩ := I.list hb
    have l1 := rv.length
    obtain ⟨hTI, h1, h2, ⟨oo, hoo⟩, hzz⟩ := st
    refine codeAny_builtin PySem.F.entry_extend_loop ?_
    rw [Around.under_plainId PySem.F.plain_extend_loop _]
    show wpAny _ A.in1 (pyNext (.ref z) >>= _) _ _ s1
    have he : its.toArray[xs.length]? = none ∨ its2.toArray[xs.length]? = none := .inl (by simp; omega)
    have go : ∀ h', (∀ c o, c ∉ [z, TI, TO, i1, i2] → s1.heap.get? c = some o → h'.get? c = some o) → R (.ok (.ret res)) { s1 with heap := h' } := fun h' hk =>
      fin H1 _ zs (I.turnedL (t' := s1.toks) (ch := [z, TI, TO, i1, i2]) hk hf) k0 eS pr
    refine wpAny_bind ?_
    rcases hzz with ⟨hz0, x, y, hTO⟩ | ⟨T, f, oT, hz0, hT, r1, r2, r3, r4⟩
    · exact wpAny_pyNext_zip_end hA1 D hz0 hTI hTO h1 h2 p.isList p2.isList he fun h' hk => wpAny_pure (go h' fun c o hc e => hk c o (fun x => hc (by simp [x])) (fun x => hc (by simp [x])) (fun x => hc (by simp [x])) (fun x => hc (by simp [x])) e)
    · exact wpAny_pyNext_zip_end_held hA1 D hz0 hT hTI h1 h2 p.isList p2.isList he fun h' hk => wpAny_pure (go h' fun c o hc e => hk c o (fun x => hc (by simp [x])) (fun x => hc (by simp [x])) (fun x => hc (by simp [x])) e)
  | succ k ih =>
    intro i H1 s1 zs hk hi I ha hb st hf eS pr k0
    have hlt : i < xs.length := by omega
    obtain ⟨its, rv, p, _⟩ := I.list ha
    obtain ⟨its2, rv2, p2, _⟩ := I.list hb
    obtain ⟨x, hx⟩ : ∃ x, xs[i]? = some x := ⟨_, List.getElem?_eq_getElem hlt⟩
    obtain ⟨y, hy⟩ : ∃ y, ys[i]? = some y := ⟨_, List.getElem?_eq_getElem (by omega)⟩
    obtain ⟨u, hu, ru⟩ := rv.get hx
    obtain ⟨u2, hu2, ru2⟩ := rv2.get hy
    obtain ⟨hTI, h1, h2, ⟨oo, hoo⟩, hzz⟩ := st
    obtain ⟨zl, zi, zn, zr, zlen, ze⟩ := I.lstM eS
    refine codeAny_builtin PySem.F.entry_extend_loop ?_
    rw [Around.under_plainId PySem.F.plain_extend_loop _]
    show wpAny _ A.in1 (pyNext (.ref z) >>= _) _ _ s1
    have hSlt : S < s1.heap.objs.size := Heap.lt_size ze
    have go : ∀ h', (∀ c o, c ∉ [z, TI, TO, i1, i2] → s1.heap.get? c = some o → h'.get? c = some o) → IsPair h' s1.heap.objs.size u u2 → ZSt z TI TO i1 i2 a b S (i + 1) h' →
        wpAny (model X.prog X.w) A.in1 (updateSeq S (·.push (.ref s1.heap.objs.size)) >>= fun _ => again (.builtin "list.extend.loop" ⟨[.ref S, .ref z, res], []⟩))
          (fun fin s' => match fin with | .done f => R (.ok f) s' | .again c' => c'.quiet = true ∧ codeAny (model X.prog X.w) A c' R s') (fun e s' => R (.error e) s') { s1 with heap := h' } := by
      intro h' hk' hp st'
      have new : ObjOk X.prog X.w (upd H1 s1.heap.objs.size (.tup [x, y])) h' s1.heap.objs.size (.tup [x, y]) := ⟨by show 2 ≤ sizeLine; decide, [u, u2], .cons ru (.cons ru2 .nil), ⟨_, hp, rfl, _, rfl⟩⟩
      have I1 : Inv X pins σ (upd H1 s1.heap.objs.size (.tup [x, y])) { s1 with heap := h' } := I.turnedNew (t' := s1.toks) (ch := [z, TI, TO, i1, i2]) hk' hf (Nat.le_refl _) new
      have fT : H1 s1.heap.objs.size = none := I.hok.fresh (Nat.le_refl _)
      have j1 : Same H1 (upd H1 s1.heap.objs.size (.tup [x, y])) := new_same fT
      have neT : S ≠ s1.heap.objs.size := Nat.ne_of_lt hSlt
      have eS1 := j1 _ _ eS
      have eT : upd H1 s1.heap.objs.size (.tup [x, y]) s1.heap.objs.size = some (.tup [x, y]) := upd_same
      have hf1 : ∀ c ∈ [z, TI, TO, i1, i2], FpOk X pins (upd H1 s1.heap.objs.size (.tup [x, y])) c := fun c hc => by
        obtain ⟨q0, q⟩ := hf c hc
        have : c ≠ s1.heap.objs.size := fun e => by
          have : c < s1.heap.objs.size := by
            simp only [List.mem_cons, List.not_mem_nil, or_false] at hc
            obtain ⟨o1, g1, _⟩ := h1
            obtain ⟨o2, g2, _⟩ := h2
            obtain ⟨oz, hoz⟩ : ∃ o, s1.heap.get? z = some o := by
              rcases hzz with ⟨hz0, x', y', hTO⟩ | ⟨T, f, oT, hz0, hT, r1, r2, r3, r4⟩
              · exact ⟨_, hz0⟩
              · exact ⟨_, hz0⟩
            rcases hc with rfl | rfl | rfl | rfl | rfl
            · exact Heap.lt_size hoz
            · exact Heap.lt_size hTI
            · exact Heap.lt_size hoo
            · exact Heap.lt_size g1
            · exact Heap.lt_size g2
          exact Nat.ne_of_lt this e
        exact ⟨by rw [upd_ne this]; exact q0, q⟩
      generalize upd H1 s1.heap.objs.size (.tup [x, y]) = H2 at I1 j1 eS1 eT hf1
      obtain ⟨zl2, zi2, zn2, zr2, zlen2, ze2⟩ := I1.lstM eS1
      have lz : zs.length = i := pr.1
      refine wpAny_bind ?_
      have I2 : Inv X pins σ (upd H2 S (.lst (zs ++ [.ref s1.heap.objs.size]))) { s1 with heap := h'.update S (Obj.mapSeq (·.push (.ref s1.heap.objs.size))) } :=
        I1.lset (t' := s1.toks) (its' := zi2 ++ [.ref s1.heap.objs.size]) eS1 ze2 (by simp) (zr2.append (.cons (show L2.RelV (V.ref s1.heap.objs.size) (Value.ref s1.heap.objs.size) from rfl) .nil)) (by rw [List.length_append]; show zs.length + 1 ≤ sizeLine; omega)
      have oS : ∀ c o, c ≠ S → H2 c = some o → upd H2 S (.lst (zs ++ [.ref s1.heap.objs.size])) c = some o := fun c o n e => by rw [upd_ne n]; exact e
      refine wpAny_updateSeq ze2 rfl (wpAny_pure ⟨plainId_quiet PySem.F.plain_extend_loop _, ih (i + 1) _ _ (zs ++ [.ref s1.heap.objs.size]) (by omega) hlt I2 ?_ ?_ ?_ ?_ upd_same ?_ ?_⟩) ?_ ?_
      · have q : SqL X.K H2 a xs := j1.seq ha
        exact sql_other q naS
      · have q : SqL X.K H2 b ys := j1.seq hb
        exact sql_other q nbS
      · obtain ⟨q1, q2, q3, ⟨o4, q4⟩, q5⟩ := st'
        have oth : ∀ c o, c ≠ S → h'.get? c = some o → (h'.update S (Obj.mapSeq (·.push (.ref s1.heap.objs.size)))).get? c = some o := fun c o n e => (Heap.get?_update_other _ _ (Ne.symm n)).trans e
        have ns : ∀ c ∈ [z, TI, TO, i1, i2], c ≠ S := fun c hc e => nS (e ▸ hc)
        refine ⟨oth _ _ (ns _ (by simp)) q1, q2.at fun o e => oth _ o (ns _ (by simp)) e, q3.at fun o e => oth _ o (ns _ (by simp)) e, ⟨o4, oth _ _ (ns _ (by simp)) q4⟩, ?_⟩
        rcases q5 with ⟨q5, x', y', q6⟩ | ⟨T, f, oT, q5, q6, r1, r2, r3, r4⟩
        · exact .inl ⟨oth _ _ (ns _ (by simp)) q5, x', y', oth _ _ (ns _ (by simp)) q6⟩
        · exact .inr ⟨T, f, oT, oth _ _ (ns _ (by simp)) q5, oth _ _ r4 q6, r1, r2, r3, r4⟩
      · exact fun c hc => ⟨by rw [upd_ne (fun e : c = S => nS (e ▸ hc))]; exact (hf1 c hc).1, (hf1 c hc).2⟩
      · refine ⟨by rw [List.length_append]; show zs.length + 1 = i + 1; omega, fun j v e => ?_⟩
        by_cases q : j < zs.length
        · rw [List.getElem?_append_left q] at e
          obtain ⟨T, x', y', rfl, eT', ex', ey'⟩ := pr.2 j v e
          refine ⟨T, x', y', rfl, oS T _ (fun e => by rw [e, eS] at eT'; cases eT') (j1 _ _ eT'), ex', ey'⟩
        · rw [List.getElem?_append_right (by omega)] at e
          have j0 : j - zs.length = 0 := by
            have := (List.getElem?_eq_some_iff.mp e).1
            simpa using this
          rw [j0] at e
          cases Option.some.inj e
          have ji : j = i := by omega
          subst ji
          exact ⟨_, x, y, rfl, oS _ _ (Ne.symm neT) eT, hx, hy⟩
      · exact fun c o n e => oS c o n (j1 _ _ (k0 c o n e))
      · rw [List.size_toArray, ← zlen2]
        omega
      · show (zi2.toArray.push _).size ≤ sizeLine + 1
        rw [Array.size_push, List.size_toArray, ← zlen2]
        omega
    refine wpAny_bind ?_
    have lt : ∀ {c o}, s1.heap.get? c = some o → s1.heap.objs.size ≠ c := fun e => Nat.ne_of_gt (Heap.lt_size e)
    have n1 : s1.heap.objs.size ≠ i1 := let ⟨_, e, _⟩ := h1; lt e
    have n2 : s1.heap.objs.size ≠ i2 := let ⟨_, e, _⟩ := h2; lt e
    have ex : its.toArray[i]? = some u := by simpa using hu
    have ey : its2.toArray[i]? = some u2 := by simpa using hu2
    rcases hzz with ⟨hz0, x', y', hTO⟩ | ⟨T, f, oT, hz0, hT, r1, r2, r3, r4⟩
    · refine wpAny_pyNext_zip_item D hz0 hTI hTO h1 h2 p.isList p2.isList ex ey fun h' a1 a2 a3 a4 a5 a6 hk' => ?_
      exact go h' (fun c o hc e => hk' c o (fun x => hc (by simp [x])) (fun x => hc (by simp [x])) (fun x => hc (by simp [x])) (fun x => hc (by simp [x])) e) a5
        ⟨hk' _ _ D.TIz D.TITO D.TIi1 D.TIi2 hTI, a3, a4, ⟨_, a2⟩, .inr ⟨s1.heap.objs.size, false, _, a1, a5, lt hz0, n1, n2, Nat.ne_of_gt hSlt⟩⟩
    · refine wpAny_pyNext_zip_item_held D hz0 hT hTI h1 h2 p.isList p2.isList ex ey fun h' a1 a3 a4 a5 a6 hk' => ?_
      exact go h' (fun c o hc e => hk' c o (fun x => hc (by simp [x])) (fun x => hc (by simp [x])) (fun x => hc (by simp [x])) e) a5
        ⟨hk' _ _ D.TIz D.TIi1 D.TIi2 hTI, a3, a4, ⟨_, hk' _ _ D.TOz D.TOi1 D.TOi2 hoo⟩, .inr ⟨T, true, oT, a1, hk' _ _ r1 r2 r3 hT, r1, r2, r3, r4⟩⟩
theorem zl_call {s : Shared} {H : Hp} {Q : VK} {x0 y0 : Value} (I : Inv X pins σ H s) (D : ZipApart z TI TO i1 i2 a b) (hA : X.A.handled = none) (ha : SqL X.K H a xs) (hb : SqL X.K H b ys) (hl : xs.length = ys.length) (hz : xs.length ≤ sizeLine)
    (hZ : IsZip s.heap z TI TO .none) (hTI : IsPair s.heap TI (.ref i1) (.ref i2)) (hTO : IsPair s.heap TO x0 y0) (h1 : s.heap.IsListIter i1 a 0) (h2 : s.heap.IsListIter i2 b 0)
    (hf : ∀ c ∈ [z, TI, TO, i1, i2], FpOk X pins H c)
    (q : ∀ S H' zs, H S = none → Same H H' → H' S = some (.lst zs) → Prs H' xs ys zs xs.length → Q (.ref S) H') :
    wpAny (model X.prog X.w) X.A (call (.type "list") [.ref z]) (EP X pins σ Q) X.xe s := by
  refine callType_codes (Q₁ := fun obj s₁ => obj = .ref s.heap.objs.size ∧ s₁ = { s with heap := s.heap.push { cls := .type "list", data := .seq #[] } }) PySem.F.called_list (PySem.F.typeCall_list_1 _) PySem.F.entry_list_init
    (code_list_new _ ⟨rfl, rfl⟩) fun obj s₁ h₁ => ?_
  obtain ⟨rfl, rfl⟩ := h₁
  have hS : (s.heap.push { cls := .type "list", data := .seq #[] }).get? s.heap.objs.size = some { cls := .type "list", data := .seq #[] } := Heap.get?_push_size _ rfl
  have lt5 : ∀ c ∈ [z, TI, TO, i1, i2], c < s.heap.objs.size := fun c hc => by
    obtain ⟨o1, g1, _⟩ := id h1
    obtain ⟨o2, g2, _⟩ := id h2
    simp only [List.mem_cons, List.not_mem_nil, or_false] at hc
    rcases hc with rfl | rfl | rfl | rfl | rfl
    · exact Heap.lt_size hZ
    · exact Heap.lt_size hTI
    · exact Heap.lt_size hTO
    · exact Heap.lt_size g1
    · exact Heap.lt_size g2
  obtain ⟨ia, ra, pa, _⟩ := I.list ha
  obtain ⟨ib, rb, pb, _⟩ := I.list hb
  have la : a < s.heap.objs.size := pa.lt
  have lb : b < s.heap.objs.size := pb.lt
  have k1 : ∀ c o, s.heap.get? c = some o → (s.heap.push { cls := .type "list", data := .seq #[] }).get? c = some o := fun c o e => Heap.get?_push_of_some _ e
  have nSz : s.heap.objs.size ≠ z := Nat.ne_of_gt (lt5 z (by simp))
  refine ⟨⟨_, hS, rfl⟩, PySem.F.args_list_init_2 _ _, ?_⟩
  show wpAny _ _ (do let old ← Builtin.List.listItems (.ref s.heap.objs.size); Builtin.List.listUpdate (.ref s.heap.objs.size) (fun _ => #[]); letGo old.toList.reverse; Builtin.List.listExtendWith (.ref s.heap.objs.size) (.ref z) .none) _ _ _
  refine wpAny_bind ?_
  unfold Builtin.List.listItems
  refine wpAny_bind (wpAny_seqItems hS rfl (wpAny_pure ?_))
  show wpAny _ _ (updateSeq s.heap.objs.size (fun _ => #[]) >>= fun _ => letGo (#[] : Array Value).toList.reverse >>= fun _ => Builtin.List.listExtendWith (.ref s.heap.objs.size) (.ref z) .none) _ _ _
  refine wpAny_bind (wpAny_updateSeq hS rfl ?_)
  have hS₂ := Heap.get?_update_self (Obj.mapSeq (fun _ => (#[] : Array Value))) hS rfl
  have up : ∀ (h : Heap) (f : Obj → Obj), (∀ c o, s.heap.get? c = some o → h.get? c = some o) → ∀ c o, s.heap.get? c = some o → (h.update s.heap.objs.size f).get? c = some o := fun h f q c o e =>
    (Heap.get?_update_other _ _ (Ne.symm (Nat.ne_of_lt (Heap.lt_size e)))).trans (q c o e)
  have k2 := up _ (Obj.mapSeq (fun _ => (#[] : Array Value))) k1
  refine wpAny_bind (wpAny_letGo ?_)
  unfold Builtin.List.listExtendWith
  refine wpAny_bind (wpAny_typeOf (T := "zip") ⟨_, k2 _ _ hZ, rfl⟩ ?_)
  have e1 : Builtin.List.listSameRef (.ref s.heap.objs.size) (.ref z) = false := by simp [Builtin.List.listSameRef, nSz]
  have e2 : (Value.type "zip" == Value.type "list") = false := by decide
  have e3 : (Value.type "zip" == Value.type "tuple") = false := by decide
  simp only [e1, e2, e3, Bool.or_false, Bool.false_eq_true, if_false]
  refine wpAny_bind (wpAny_pyIter_zip (k2 _ _ hZ) ?_)
  refine wpAny_bind (wpAny_holding ?_)
  unfold Builtin.List.listLengthHint
  refine wpAny_bind (wpAny_specialOf (T := "zip") ⟨_, k2 _ _ hZ, rfl⟩ zip_no_len ?_)
  show wpAny _ _ (specialOf (Value.ref z) (Str.ofString "__length_hint__") >>= _) _ _ _
  refine wpAny_bind (wpAny_specialOf (T := "zip") ⟨_, k2 _ _ hZ, rfl⟩ zip_no_hint ?_)
  refine wpAny_pure ?_
  show wpAny _ _ (rule "list.extend.makes-room" >>= fun _ => Builtin.List.listTouch (.ref s.heap.objs.size) >>= fun _ =>
    again (.builtin "list.extend.loop" ⟨[.ref s.heap.objs.size, .ref z, .none], []⟩)) _ _ _
  refine wpAny_bind (wpAny_rule ?_)
  refine wpAny_bind ?_
  show wpAny _ _ (updateSeq s.heap.objs.size (·.push .none) >>= fun _ => updateSeq s.heap.objs.size (·.pop)) _ _ _
  refine wpAny_bind (wpAny_updateSeq hS₂ rfl ?_)
  have hS₃ := Heap.get?_update_self (Obj.mapSeq (·.push Value.none)) hS₂ rfl
  have k3 := up _ (Obj.mapSeq (·.push Value.none)) k2
  refine wpAny_updateSeq (hz := by seq_fits) hS₃ rfl ?_
  have hS₄ := Heap.get?_update_self (Obj.mapSeq (·.pop)) hS₃ rfl
  have k4 := up _ (Obj.mapSeq (·.pop)) k3
  have fS : H s.heap.objs.size = none := I.hok.fresh (Nat.le_refl _)
  have I4 := I.laid (t' := s.toks) (o := .lst []) k4 (Nat.le_refl _) ⟨Nat.zero_le _, [], _, .nil, hS₄⟩
  refine wpAny_pure ⟨plainId_quiet PySem.F.plain_extend_loop _, ?_⟩
  have naS : a ≠ s.heap.objs.size := Nat.ne_of_lt la
  have nbS : b ≠ s.heap.objs.size := Nat.ne_of_lt lb
  refine zl_loop (A := X.A.in1) (res := .none) (S := s.heap.objs.size) (H0 := upd H s.heap.objs.size (.lst [])) D (show X.A.in1.handled = none from hA) (fun h => Nat.lt_irrefl _ (lt5 _ h)) hl hz naS nbS (fun H' s' zs I' k' e' p' => ?_) _ 0 _ _ [] rfl (Nat.zero_le _) I4 (sql_other ha naS) (sql_other hb nbS)
    ⟨k4 _ _ hTI, h1.at fun o e => k4 _ o e, h2.at fun o e => k4 _ o e, ⟨_, k4 _ _ hTO⟩, .inl ⟨k4 _ _ hZ, _, _, k4 _ _ hTO⟩⟩
    (fun c hc => ⟨by rw [upd_ne (Nat.ne_of_lt (lt5 c hc))]; exact (hf c hc).1, (hf c hc).2⟩) upd_same ⟨rfl, fun j v e => by simp at e⟩ (fun _ _ _ e => e)
  refine ⟨rfl, .ref s.heap.objs.size, H', I', rfl, q _ H' zs fS (fun c o e => ?_) e' p'⟩
  have nc : c ≠ s.heap.objs.size := ne_of_none e fS
  exact k' c o nc (by rw [upd_ne nc]; exact e)
end
def tZl (K : PySem.W.Frag) (ta : TA) : TE := fun σ H Q => ta σ H fun vs H1 => ∃ (a b : Addr) (xs ys : List V), vs = [.ref a, .ref b] ∧ SqL K H1 a xs ∧ SqL K H1 b ys ∧ xs.length = ys.length ∧ xs.length ≤ 1000 ∧
  ∀ S H' zs, H1 S = none → Same H1 H' → H' S = some (.lst zs) → Prs H' xs ys zs xs.length → Q (.ref S) H'
theorem pe_listzip {X : Cx} {e e2 : Expr} {ta : TA} {p pos p2 pos2 : Pos} (hc : X.calm = true) (hgL : Gl X "list") (hmL : X.mg "list" = none) (hg : Gl X "zip") (hm : X.mg "zip" = none) (ha : PA X [e, e2] ta)
    (na : starEach [.Call (.Name "zip" p) [e, e2] [] pos] X.env = (false, eval (.Call (.Name "zip" p) [e, e2] [] pos) X.env) :: starEach [] X.env := by rfl)
    (hs : starEach [e, e2] X.env = (false, eval e X.env) :: starEach [e2] X.env := by rfl) (hpl : (backTo pos (starEach [e2] X.env)).any (·.1) = false := by rfl) :
    PE X (.Call (.Name "list" p2) [.Call (.Name "zip" p) [e, e2] [] pos] [] pos2) (tZl X.K ta) := by
  refine ⟨fun pins s σ H Q I h => ?_⟩
  refine Call_ (ld_blt I hgL hmL PyProof.Rows.boot_list (PyProof.Rows.callWith_type1 (args_cons ?_ na) na))
  refine Call_ (ld_blt I hg hm PyProof.Rows.boot_zip (PyProof.Rows.callWith_type1 (thn (ha.run pos pins s σ H _ I h) fun us s1 ⟨vs, H1, I1, r1, q1⟩ => ?_) hs hpl))
  obtain ⟨a, b, xs, ys, ex, hqx, hqy, hl, hz, q⟩ := q1
  subst ex
  obtain ⟨u1, u2, rfl, r1, r2⟩ := vals2 r1
  cases r1
  cases r2
  obtain ⟨its, rv, p1, _⟩ := I1.list hqx
  obtain ⟨its2, rv2, p2, _⟩ := I1.list hqy
  have la : a < s1.heap.objs.size := p1.lt
  have lb : b < s1.heap.objs.size := p2.lt
  refine call_zip_2 p1.isList p2.isList fun h' hz' hTI hTO h1 h2 hsz hk => args_nil ?_
  have I2 : Inv X pins σ H1 { s1 with heap := h' } := I1.kept (t' := s1.toks) hk
  have zl : sizeLine = 16777216 := rfl
  refine zl_call (s := { s1 with heap := h' }) I2 (PySem.W.ktu_apart s1.heap.objs.size a b la lb) (I1.ok.hd hc) hqx hqy hl (by omega) hz' hTI hTO h1 h2 (fun c hcm => ?_) q
  have e' : c = s1.heap.objs.size + 4 ∨ c = s1.heap.objs.size + 2 ∨ c = s1.heap.objs.size + 3 ∨ c = s1.heap.objs.size ∨ c = s1.heap.objs.size + 1 := by simpa using hcm
  have hle : s1.heap.objs.size ≤ c := by
    rcases e' with z | z | z | z | z
    · rw [z]; exact Nat.le_add_right _ _
    · rw [z]; exact Nat.le_add_right _ _
    · rw [z]; exact Nat.le_add_right _ _
    · rw [z]; exact Nat.le_refl _
    · rw [z]; exact Nat.le_add_right _ _
  exact I1.fpOk hle (I1.hok.fresh hle)
end Gd
end

section
set_option Elab.async false
set_option linter.all false
set_option maxRecDepth 100000
set_option maxHeartbeats 4000000
namespace Gd
open PySem PySem.Spec PyProof.Rows L2 Gd
/-! Sources and counts by other names. -/
def rnP (r : Str → Str) (p : Pr) : Pr := ⟨r p.c, r p.o, r p.d⟩
def rnS (r : Str → Str) (s : Src) : Src := ⟨s.way, r s.nick, r s.table, s.pairs.map (rnP r)⟩
def rnU (r : Str → Str) (u : Str × Int) : Str × Int := (r u.1, u.2)
def rnE (r : Str → Str) (e : Str × Int × List (Str × Int)) : Str × Int × List (Str × Int) := (r e.1, e.2.1, e.2.2.map (rnU r))
def PrIn (ns : List Str) (p : Pr) : Prop := p.c ∈ ns ∧ p.o ∈ ns ∧ p.d ∈ ns
/-- all names are of the names -/
def SsIn (ns : List Str) (ss : List Src) : Prop := ∀ s ∈ ss, s.nick ∈ ns ∧ s.table ∈ ns ∧ ∀ p ∈ s.pairs, PrIn ns p
def CsIn (ns : List Str) (cs : Cnt) : Prop := ∀ e ∈ cs, e.1 ∈ ns ∧ ∀ u ∈ e.2.2, u.1 ∈ ns
def Inj (ns : List Str) (r : Str → Str) : Prop := ∀ x ∈ ns, ∀ y ∈ ns, r x = r y → x = y
section
variable {ns : List Str} {r : Str → Str} {ss : List Src} {cs : Cnt}
theorem dec_inj (i : Inj ns r) {x y : Str} (hx : x ∈ ns) (hy : y ∈ ns) : decide (r x = r y) = decide (x = y) := by
  by_cases z : x = y
  · rw [z, decide_eq_true rfl, decide_eq_true rfl]
  · rw [decide_eq_false z, decide_eq_false (fun e => z (i x hx y hy e))]
theorem dec_mem (i : Inj ns r) {x : Str} (hx : x ∈ ns) {ys : List Str} (hy : ∀ y ∈ ys, y ∈ ns) : decide (r x ∈ ys.map r) = decide (x ∈ ys) := by
  by_cases z : x ∈ ys
  · rw [decide_eq_true z, decide_eq_true (List.mem_map.mpr ⟨x, z, rfl⟩)]
  · rw [decide_eq_false z, decide_eq_false (fun h => by
      obtain ⟨y, hy2, e⟩ := List.mem_map.mp h
      exact z (i y (hy y hy2) x hx e ▸ hy2))]
theorem getD_rn {n : Nat} (h : n < ss.length) : (ss.map (rnS r)).getD n noSrc = rnS r (ss.getD n noSrc) := by
  rw [List.getD_eq_getElem?_getD, List.getD_eq_getElem?_getD, List.getElem?_map, List.getElem?_eq_getElem h]
  rfl
theorem alias_rn {n : Nat} (h : n < ss.length) : aliasAt (ss.map (rnS r)) n = r (aliasAt ss n) := by
  unfold aliasAt
  rw [getD_rn h]
  rfl
theorem alias_in (hs : SsIn ns ss) {n : Nat} (h : n < ss.length) : aliasAt ss n ∈ ns := (hs _ (getD_mem' h)).1
theorem tie1_rn (i : Inj ns r) {own : Str} {al : List Str} {s : Src} {p : Pr} (ho : own ∈ ns) (ha : ∀ a ∈ al, a ∈ ns) (hs : s.nick ∈ ns) (hp : p.o ∈ ns) : tie1 (r own) (al.map r) (rnS r s) (rnP r p) = (tie1 own al s p).map (rnP r) := by
  unfold tie1
  rw [show (rnS r s).nick = r s.nick from rfl, show (rnP r p).o = r p.o from rfl, dec_inj i hs ho, dec_inj i hp ho, dec_mem i hp ha, dec_mem i hs ha]
  split
  · rfl
  · split <;> rfl
theorem tied_rn (i : Inj ns r) (hs : SsIn ns ss) {n : Nat} {js : List Nat} (hn : n < ss.length) (hj : ∀ j ∈ js, j < ss.length) : tied (ss.map (rnS r)) n js = (tied ss n js).map (rnP r) := by
  unfold tied
  have ea : js.map (aliasAt (ss.map (rnS r))) = (js.map (aliasAt ss)).map r := by
    rw [List.map_map]
    exact List.map_congr_left fun j hj2 => alias_rn (hj j hj2)
  rw [ea, alias_rn hn, List.flatMap_map, List.map_flatMap]
  have key : ∀ (l : List Src), (∀ s ∈ l, s ∈ ss) → l.flatMap (fun s => tieS (r (aliasAt ss n)) ((js.map (aliasAt ss)).map r) (rnS r s)) = l.flatMap (fun s => (tieS (aliasAt ss n) (js.map (aliasAt ss)) s).map (rnP r)) := fun l hl => by
    induction l with
    | nil => rfl
    | cons s l ih =>
      rw [List.flatMap_cons, List.flatMap_cons, ih fun t ht => hl t (List.mem_cons_of_mem _ ht)]
      congr 1
      obtain ⟨h1, h2, h3⟩ := hs s (hl s (by simp))
      unfold tieS
      rw [show (rnS r s).pairs = s.pairs.map (rnP r) from rfl, List.flatMap_map, List.map_flatMap]
      have k2 : ∀ (ps : List Pr), (∀ p ∈ ps, PrIn ns p) → ps.flatMap (fun p => tie1 (r (aliasAt ss n)) ((js.map (aliasAt ss)).map r) (rnS r s) (rnP r p)) = ps.flatMap (fun p => (tie1 (aliasAt ss n) (js.map (aliasAt ss)) s p).map (rnP r)) := fun ps hps => by
        induction ps with
        | nil => rfl
        | cons p ps ih2 =>
          rw [List.flatMap_cons, List.flatMap_cons, ih2 fun t ht => hps t (List.mem_cons_of_mem _ ht), tie1_rn i (alias_in hs hn) (fun a ha => ?_) h1 (hps p (by simp)).2.1]
          obtain ⟨j, hj2, rfl⟩ := List.mem_map.mp ha
          exact alias_in hs (hj j hj2)
      exact k2 s.pairs h3
  exact key ss fun _ h => h
def rnL (r : Str → Str) (x : Nat × Pr) : Nat × Pr := (x.1, rnP r x.2)
theorem link1_rn (i : Inj ns r) (hs : SsIn ns ss) {n : Nat} {js : List Nat} (hn : n < ss.length) (hj : ∀ j ∈ js, j < ss.length) : link1 (ss.map (rnS r)) js n = (link1 ss js n).map (rnL r) := by
  unfold link1
  rw [tied_rn i hs hn hj]
  cases tied ss n js <;> rfl
theorem link2_rn {n : Nat} (hn : n < ss.length) : link2 (ss.map (rnS r)) n = (link2 ss n).map (rnL r) := by
  unfold link2
  rw [getD_rn hn, show (rnS r (ss.getD n noSrc)).pairs = (ss.getD n noSrc).pairs.map (rnP r) from rfl]
  cases (ss.getD n noSrc).pairs <;> rfl
theorem flat_congr {α β : Type} {f g : α → List β} : ∀ {l : List α}, (∀ a ∈ l, f a = g a) → l.flatMap f = l.flatMap g
  | [], _ => rfl
  | a :: l, h => by rw [List.flatMap_cons, List.flatMap_cons, h a (by simp), flat_congr fun b hb => h b (List.mem_cons_of_mem _ hb)]
theorem links_rn (i : Inj ns r) (hs : SsIn ns ss) {o : List Nat} (ho : ∀ j ∈ o, j < ss.length) : linksL (ss.map (rnS r)) o = (linksL ss o).map (rnL r) := by
  unfold linksL linksA linksB
  rw [List.map_append, List.map_flatMap, List.map_flatMap, List.length_map]
  congr 1
  · refine flat_congr fun k hk => ?_
    rw [List.mem_range] at hk
    exact link1_rn i hs (ho _ (getD_mem' hk)) fun j hj => ho j (List.mem_of_mem_take hj)
  · refine flat_congr fun k hk => ?_
    rw [List.mem_range] at hk
    exact link2_rn (by omega)
theorem linkG_rn (ls : List (Nat × Pr)) (n : Nat) : linkG (ls.map (rnL r)) n = (linkG ls n).map (rnP r) := by
  induction ls with
  | nil => rfl
  | cons x ls ih =>
    rw [List.map_cons, linkG_cons, linkG_cons, ih]
    by_cases z : x.1 = n
    · rw [if_pos z, if_pos (show (rnL r x).1 = n from z)]
      rfl
    · rw [if_neg z, if_neg (show ¬ (rnL r x).1 = n from z)]
theorem findC_rn {α β : Type} (i : Inj ns r) (f : α → β) {x : Str} (hx : x ∈ ns) : ∀ {cs : List (Str × α)}, (∀ e ∈ cs, e.1 ∈ ns) → findC (cs.map fun e => (r e.1, f e.2)) (r x) = (findC cs x).map fun e => (r e.1, f e.2)
  | [], _ => rfl
  | e :: cs, h => by
    rw [List.map_cons, findC_cons, findC_cons, findC_rn i f hx fun e' he => h e' (List.mem_cons_of_mem _ he)]
    by_cases z : e.1 = x
    · rw [if_pos z, if_pos (congrArg r z)]
      rfl
    · rw [if_neg z, if_neg (fun q => z (i _ (h e (by simp)) _ hx q))]
theorem ent_rn (i : Inj ns r) (hc : CsIn ns cs) {x : Str} (hx : x ∈ ns) : entC (cs.map (rnE r)) (r x) = ((entC cs x).1, (entC cs x).2.map (rnU r)) := by
  unfold entC
  have e := findC_rn i (fun z : Int × List (Str × Int) => (z.1, z.2.map (rnU r))) hx (cs := cs) fun e he => (hc e he).1
  rw [show (cs.map (rnE r)) = cs.map fun e => (r e.1, (fun z : Int × List (Str × Int) => (z.1, z.2.map (rnU r))) e.2) from rfl, e]
  cases findC cs x <;> rfl
theorem ent_names (hc : CsIn ns cs) (x : Str) : ∀ u ∈ (entC cs x).2, u.1 ∈ ns := by
  unfold entC
  cases e : findC cs x with
  | none => exact fun u m => nomatch m
  | some y => exact (hc y (findC_mem e).1).2
theorem unl_rn (i : Inj ns r) {us : List (Str × Int)} (hu : ∀ u ∈ us, u.1 ∈ ns) {c : Str} (hc : c ∈ ns) : unlC (us.map (rnU r)) (r c) = unlC us c := by
  unfold unlC
  have e := findC_rn i (fun z : Int => z) hc (cs := us) hu
  rw [show us.map (rnU r) = us.map fun e => (r e.1, (fun z : Int => z) e.2) from rfl, e]
  cases findC us c <;> rfl
theorem tab_in (hs : SsIn ns ss) {n : Nat} (hn : n < ss.length) : tabOf ss n ∈ ns := (hs _ (getD_mem' hn)).2.1
theorem rows_rn (i : Inj ns r) (hs : SsIn ns ss) (hc : CsIn ns cs) {n : Nat} (hn : n < ss.length) : rowsG (ss.map (rnS r)) (cs.map (rnE r)) n = rowsG ss cs n := by
  unfold rowsG tabOf
  rw [getD_rn hn]
  show (entC (cs.map (rnE r)) (r (tabOf ss n))).1 = _
  rw [ent_rn i hc (tab_in hs hn)]
  rfl
theorem tie1_in {own : Str} {al : List Str} {s : Src} {p : Pr} (hs : s.nick ∈ ns) (hp : PrIn ns p) : ∀ q ∈ tie1 own al s p, PrIn ns q := by
  intro q hq
  unfold tie1 at hq
  split at hq
  · rw [List.mem_singleton.mp hq]; exact hp
  · split at hq
    · rw [List.mem_singleton.mp hq]; exact ⟨hp.2.2, hs, hp.1⟩
    · cases hq
theorem links_in (hs : SsIn ns ss) {o : List Nat} : ∀ x ∈ linksL ss o, PrIn ns x.2 := by
  intro x hx
  unfold linksL at hx
  rcases List.mem_append.mp hx with h | h
  · unfold linksA at h
    obtain ⟨k, _, h⟩ := List.mem_flatMap.mp h
    unfold link1 at h
    split at h
    · cases h
    · rename_i p l e
      rw [List.mem_singleton.mp h]
      have : p ∈ tied ss (o.getD k 0) (o.take k) := by rw [e]; simp
      unfold tied at this
      obtain ⟨s, h1, h2⟩ := List.mem_flatMap.mp this
      unfold tieS at h2
      obtain ⟨q, h3, h4⟩ := List.mem_flatMap.mp h2
      exact tie1_in (hs s h1).1 ((hs s h1).2.2 q h3) p h4
  · unfold linksB at h
    obtain ⟨k, hk, h⟩ := List.mem_flatMap.mp h
    rw [List.mem_range] at hk
    unfold link2 at h
    split at h
    · cases h
    · rename_i p l e
      rw [List.mem_singleton.mp h]
      exact (hs (ss.getD (o.length + k) noSrc) (getD_mem' (by omega))).2.2 p (by rw [e]; simp)
theorem linkG_in (hs : SsIn ns ss) {o : List Nat} {n : Nat} {p : Pr} (h : linkG (linksL ss o) n = some p) : PrIn ns p := by
  unfold linkG at h
  rw [Option.map_eq_some_iff] at h
  obtain ⟨x, hx, rfl⟩ := h
  exact links_in hs x (List.mem_of_find?_eq_some hx)
theorem share_rn (i : Inj ns r) (hs : SsIn ns ss) (hc : CsIn ns cs) {n : Nat} (hn : n < ss.length) {o : List Nat} (ho : ∀ j ∈ o, j < ss.length) :
    shareG (ss.map (rnS r)) (linksL (ss.map (rnS r)) o) (cs.map (rnE r)) n = shareG ss (linksL ss o) cs n := by
  unfold shareG
  rw [links_rn i hs ho, linkG_rn, rows_rn i hs hc hn]
  cases e : linkG (linksL ss o) n with
  | none => rfl
  | some p =>
    have pi := linkG_in hs e
    have et : tabOf (ss.map (rnS r)) n = r (tabOf ss n) := by unfold tabOf; rw [getD_rn hn]; rfl
    show -((-(rowsG ss cs n)) / max1 (unlC (entC (cs.map (rnE r)) (tabOf (ss.map (rnS r)) n)).2 (rnP r p).c)) = _
    rw [et, ent_rn i hc (tab_in hs hn), show (rnP r p).c = r p.c from rfl, unl_rn i (ent_names hc _) pi.1]
theorem guess_rn (i : Inj ns r) (hs : SsIn ns ss) (hc : CsIn ns cs) {o : List Nat} (w : Str) (ho : ∀ j ∈ o, j < ss.length) (h0 : o.getD 0 0 < ss.length) (hl : ∀ n ∈ ledL ss o, n < ss.length) :
    guessN (ss.map (rnS r)) (cs.map (rnE r)) o w = guessN ss cs o w := by
  unfold guessN goG
  have el : ledL (ss.map (rnS r)) o = ledL ss o := by unfold ledL; rw [List.length_map]
  rw [el, rows_rn i hs hc h0]
  have key : ∀ (l : List Nat) (st : Int × Int), (∀ n ∈ l, n < ss.length) → l.foldl (stepG (ss.map (rnS r)) (linksL (ss.map (rnS r)) o) (cs.map (rnE r)) o w) st = l.foldl (stepG ss (linksL ss o) cs o w) st := fun l => by
    induction l with
    | nil => intro st _; rfl
    | cons n l ih =>
      intro st h
      have hn := h n (by simp)
      have e : stepG (ss.map (rnS r)) (linksL (ss.map (rnS r)) o) (cs.map (rnE r)) o w st n = stepG ss (linksL ss o) cs o w st n := by
        unfold stepG
        rw [share_rn i hs hc hn ho, rows_rn i hs hc hn, links_rn i hs ho, linkG_rn, Option.isSome_map]
      rw [List.foldl_cons, List.foldl_cons, e]
      exact ih _ fun m hm => h m (List.mem_cons_of_mem _ hm)
  rw [key _ _ hl]
theorem well_rn (i : Inj ns r) (hs : SsIn ns ss) {m : Nat} (w : Well ss m) : Well (ss.map (rnS r)) m where
  le := by rw [List.length_map]; exact w.le
  uniq := fun a b ha hb e => by
    rw [List.length_map] at ha hb
    rw [alias_rn ha, alias_rn hb] at e
    exact w.uniq a b ha hb (i _ (alias_in hs ha) _ (alias_in hs hb) e)
  ahead := fun k hk p hp => by
    rw [List.length_map] at hk
    rw [getD_rn hk] at hp
    obtain ⟨q, hq, rfl⟩ := List.mem_map.mp (show p ∈ (ss.getD k noSrc).pairs.map (rnP r) from hp)
    obtain ⟨j, h1, h2, h3⟩ := w.ahead k hk q hq
    exact ⟨j, h1, h2, by rw [alias_rn (by omega), ← h3]; rfl⟩
end
end Gd
end

section
set_option Elab.async false
set_option linter.all false
set_option maxRecDepth 100000
set_option maxHeartbeats 4000000
namespace K22
open PySem PySem.Spec PyProof.Rows L2 Gd PySem.W
def pl (o : List Nat) (w : Str) : PyData := .tuple [.tuple (o.map fun k => PyData.int ((k : Nat) : Int)), .str w]
def genL (m : Nat) (b : Bool) : List PyData := (Pm.perms m).flatMap fun o => if b then [pl o "walked", pl o "kept"] else [pl o "walked"]
def plansL (m : Nat) (b : Bool) : List PyData := (Pm.perms m).flatMap fun o => if b then [pl o "kept", pl o "walked"] else [pl o "walked"]
theorem told_gen : ∀ m b, 1 ≤ m → m ≤ 3 → told (genL m b) = plansL m b := by
  have a1 : told (genL 1 true) = plansL 1 true := by unfold told genL plansL Pm.perms; simp (decide := true) [List.mergeSort]
  have a2 : told (genL 1 false) = plansL 1 false := by unfold told genL plansL Pm.perms; simp (decide := true) [List.mergeSort]
  have a3 : told (genL 2 true) = plansL 2 true := by unfold told genL plansL Pm.perms; simp (decide := true) [List.mergeSort]
  have a4 : told (genL 2 false) = plansL 2 false := by unfold told genL plansL Pm.perms; simp (decide := true) [List.mergeSort]
  have a5 : told (genL 3 true) = plansL 3 true := by unfold told genL plansL Pm.perms; simp (decide := true) [List.mergeSort]
  have a6 : told (genL 3 false) = plansL 3 false := by unfold told genL plansL Pm.perms; simp (decide := true) [List.mergeSort]
  intro m b h1 h3
  match m, b, h1, h3 with
  | 1, true, _, _ => exact a1
  | 1, false, _, _ => exact a2
  | 2, true, _, _ => exact a3
  | 2, false, _, _ => exact a4
  | 3, true, _, _ => exact a5
  | 3, false, _, _ => exact a6
theorem al_gen : ∀ m b, 1 ≤ m → m ≤ 3 → AllAlike (genL m b) := by
  intro m b h1 h3
  match m, b, h1, h3 with
  | 1, true, _, _ => unfold AllAlike; decide +kernel
  | 1, false, _, _ => unfold AllAlike; decide +kernel
  | 2, true, _, _ => unfold AllAlike; decide +kernel
  | 2, false, _, _ => unfold AllAlike; decide +kernel
  | 3, true, _, _ => unfold AllAlike; decide +kernel
  | 3, false, _, _ => unfold AllAlike; decide +kernel
theorem so_gen (m : Nat) (b : Bool) : Sortable (genL m b) := by
  refine .inl fun d hd => ?_
  unfold genL at hd
  obtain ⟨o, _, hd⟩ := List.mem_flatMap.mp hd
  cases b with
  | true =>
    simp only [if_true, List.mem_cons, List.not_mem_nil, or_false] at hd
    rcases hd with rfl | rfl <;> exact ⟨_, _, rfl⟩
  | false =>
    simp only [Bool.false_eq_true, if_false, List.mem_cons, List.not_mem_nil, or_false] at hd
    subst hd
    exact ⟨_, _, rfl⟩
end K22
end

section
set_option Elab.async false
set_option linter.all false
set_option maxRecDepth 100000
set_option maxHeartbeats 4000000
/-! lists put together, cut, turned about: the new one is none of the interpreter's own -/
namespace Gd
open PySem PySem.Spec PyProof.Rows L2
section
variable {X : Cx}
def rCatS : R2 := fun x y H Q => ∃ l b xs zs, x = .ref l ∧ y = .ref b ∧ H l = some (.lst xs) ∧ H b = some (.lst zs) ∧ xs.length + zs.length ≤ sizeLine ∧
  ∀ p, H p = none → p ≠ sysModules → Q (.ref p) (upd H p (.lst (xs ++ zs)))
theorem op_catS : OpR X (binaryOp .Add) rCatS := by
  rintro pins s σ H x y v u Q I rx ry ⟨l, b, xs, zs, rfl, rfl, h1, h2, hz, q⟩
  cases rx; cases ry
  obtain ⟨_, ia, _, ra, la, ga⟩ := I.lstM h1
  obtain ⟨_, ib, _, rb, lb, gb⟩ := I.lstM h2
  refine PySem.P.add_list ga gb ?_ (by simp only [List.size_toArray]; omega)
  rw [show ia.toArray ++ ib.toArray = (ia ++ ib).toArray by simp]
  exact ⟨.ref _, _, I.lnew (t' := s.toks) (ra.append rb) (by simpa using hz), rfl, q _ I.fresh (new_no I)⟩
def rSlS (K : PySem.W.Frag) : V → Option Int → Option Int → Hp → VK → Prop := fun x lo hi H Q => ∃ a xs, x = .ref a ∧ SqL K H a xs ∧
  ∀ p, H p = none → p ≠ sysModules → Q (.ref p) (upd H p (.lst (cutV xs lo hi)))
theorem sl_listS : SlR X (rSlS X.K) := by
  rintro pins s σ H x v vl vu lo hi sl Q I rx hs pl pu ⟨a, xs, rfl, hx, q⟩
  cases rx
  obtain ⟨its, r, ht, hz⟩ := I.list hx
  have hn := r.length
  refine ⟨"list", _, slot_list_getitem.lookup, ht.isList.typeIs, wpAny_getItem_list_slice ht.isList hs pl pu .none (by simp) ?_ (by simp only [List.size_toArray] <;> omega)⟩
  rw [slicePick_cut, ← hn]
  have rr : Vals (cutV xs lo hi) ((its.drop (HT.sIx xs.length 0 lo)).take (HT.sIx xs.length xs.length hi - HT.sIx xs.length 0 lo)) := (r.drop _).take _
  exact ⟨.ref s.heap.objs.size, _, I.laid (t' := s.toks) (o := .lst (cutV xs lo hi)) (fun b ob e => Heap.get?_push_of_some _ e) (Nat.le_refl _) ⟨Nat.le_trans (cutV_length xs lo hi) hz, _, 0, rr, Heap.get?_push_size _ rfl⟩, rfl,
    q _ (I.hok.fresh (Nat.le_refl _)) (new_no I)⟩
/-- xs[::-1] -/
def tRevL (K : PySem.W.Frag) (te : TE) : TE := fun σ H Q => te σ H fun x H1 => ∃ a xs, x = .ref a ∧ SqL K H1 a xs ∧ ∀ p, H1 p = none → p ≠ sysModules → Q (.ref p) (upd H1 p (.lst xs.reverse))
theorem pe_revL {e : Expr} {te : TE} {k : Nat} {p1 p2 p3 pos : Pos} (he : PE X e te) :
    PE X (.Subscript e (.Slice none none (some (.UnaryOp .USub (.Constant (.int 1) k p1) p2)) p3) pos) (tRevL X.K te) := by
  constructor
  intro pins s σ H Q I h
  refine Subscript_ (thn (he.run pins s σ H _ I h) ?_)
  rintro v s1 ⟨x, H1, I1, r1, a, xs, rfl, hx, q⟩
  cases r1
  have hst : PO X (some (.UnaryOp .USub (.Constant (.int 1) k p1) p2)) (tPart (tUn (rU fun i => .int (-i)) (tC (.int 1)))) := po_some (pe_un un_neg pe_int)
  refine wpAny_Slice (thn (po_none.run pins s1 σ H1 (fun o H2 => o = none ∧ H2 = H1) I1 ⟨rfl, rfl⟩) ?_)
  rintro vl s2 ⟨l, H2, I2, pl, rfl, rfl⟩
  refine thn (po_none.run pins s2 σ H2 (fun o H3 => o = none ∧ H3 = H2) I2 ⟨rfl, rfl⟩) ?_
  rintro vu s3 ⟨u, H3, I3, pu, rfl, rfl⟩
  refine thn (hst.run pins s3 σ H3 (fun o H4 => o = some (-1) ∧ H4 = H3) I3 ⟨1, rfl, -1, rfl, rfl, rfl⟩) ?_
  rintro vs s4 ⟨o, H4, I4, ps, rfl, rfl⟩
  cases pl
  cases pu
  have J : Inv X pins σ H4 { s4 with heap := s4.heap.push { cls := .type "slice", data := .fields #[.none, .none, vs] } } := I4.kept (t' := s4.toks) fun b ob z => Heap.get?_push_of_some _ z
  obtain ⟨its, r, ht, hz⟩ := J.list hx
  have hlen := r.length
  refine tail_any (ops := [.ref a, .ref s4.heap.objs.size]) ht.isList.typeIs slot_list_getitem.lookup ?_ (by with_unfolding_all rfl)
  refine wpAny_getItem_list_slice ht.isList (Heap.IsSliceOf.new _ .none .none vs) .none .none ps (by decide) ?_ (by rw [List.size_toArray]; omega)
  rw [PySem.W.krv_pick]
  refine ⟨.ref _, _, J.laid (t' := s4.toks) (o := .lst xs.reverse) (fun b ob z => Heap.get?_push_of_some _ z) (Nat.le_refl _) ?_, rfl, q _ (J.hok.fresh (Nat.le_refl _)) (new_no J)⟩
  exact ⟨by rw [List.length_reverse]; exact hz, _, 0, r.reverse, Heap.get?_push_size _ rfl⟩
/-- the last one -/
theorem atI_last {xs : List V} {v : V} (h : xs[xs.length - 1]? = some v) : atI xs (-1) = some v := by
  have hl : xs.length - 1 < xs.length := (List.getElem?_eq_some_iff.mp h).1
  unfold atI ixN
  rw [if_neg (by decide), if_pos (by omega)]
  show xs[((-1 : Int) + (xs.length : Int)).toNat]? = some v
  rw [show ((-1 : Int) + (xs.length : Int)).toNat = xs.length - 1 by omega]
  exact h
end
section
variable {K : PySem.W.Frag} {H : Hp} {N : Addr → Prop}
def cutE (ds : List PyData) (lo hi : Option Int) : List PyData := (ds.drop (HT.sIx ds.length 0 lo)).take (HT.sIx ds.length ds.length hi - HT.sIx ds.length 0 lo)
theorem DdAll.cutE {xs : List V} {ds : List PyData} (h : DdAll K H N xs ds) (lo hi : Option Int) : DdAll K H N (cutV xs lo hi) (cutE ds lo hi) := by
  have e := h.len
  unfold cutV Gd.cutE
  rw [e]
  exact (h.drop _).take _
theorem cutE_to {ds : List PyData} {i : Nat} (h : i ≤ ds.length) : cutE ds none (some (i : Int)) = ds.take i := by
  unfold cutE
  rw [HT.sIx_none, HT.sIx_nat, List.drop_zero, Nat.sub_zero, Nat.min_eq_left h]
theorem cutE_from {ds : List PyData} {i : Nat} : cutE ds (some (i : Int)) none = ds.drop i := by
  unfold cutE
  rw [HT.sIx_none, HT.sIx_nat]
  by_cases h : i ≤ ds.length
  · rw [Nat.min_eq_left h]
    exact List.take_of_length_le (by rw [List.length_drop] <;> exact Nat.le_refl _)
  · rw [Nat.min_eq_right (by omega), List.drop_length, List.drop_of_length_le (by omega), List.take_nil]
theorem cutE_mid {ds : List PyData} {i : Nat} : (cutE ds (some (i : Int)) (some ((i : Int) + 2))).length ≤ 2 := by
  unfold cutE
  rw [List.length_take, HT.sIx_nat, show ((i : Int) + 2) = ((i + 2 : Nat) : Int) by omega, HT.sIx_nat]
  omega
theorem cutE_mem {ds : List PyData} {lo hi : Option Int} {d : PyData} (h : d ∈ cutE ds lo hi) : d ∈ ds := List.mem_of_mem_drop (List.mem_of_mem_take h)
end
end Gd
end

section
set_option Elab.async false
set_option linter.all false
set_option maxRecDepth 100000
set_option maxHeartbeats 4000000
namespace K22
open PySem PySem.Spec PyProof.Rows L2 Gd
def topS (i : Nat) : Stmt := PySem.Challenge.pw_plansamid_k22_whole_guesses_beside_other.main.body.getD i (.Pass ⟨0, 0, 0, 0⟩)
abbrev sPen : Stmt := topS 12
abbrev sDraw : Stmt := topS 13
theorem scPen : FnScope ["_law_script"] ["_law_script"] (defScope sPen) := ⟨rfl, rfl, rfl, by decide +kernel, rfl, by decide +kernel, by decide +kernel⟩
abbrev nDraw : List Str := ["_law_pen_here", "_law_many", "_law_digit", "_law_at", "_law_cell", "_law_whole", "_law_mixed"]
theorem scDraw : FnScope nDraw ["_law_pen_here", "_law_many"] (defScope sDraw) := ⟨rfl, rfl, rfl, by decide +kernel, rfl, by decide +kernel, by decide +kernel⟩
def spPen (K : PySem.W.Frag) : Sp := fun vs H Q _ => ∃ (a : Addr) (ns : List Int), vs = [.ref a] ∧ SqL K H a (ns.map V.int) ∧ ns.length ≤ 63 ∧ ∀ (l c : Addr) (H' : Hp), Same H H' → H l = none → H c = none → Pen H' l c 0 → Q (.ref l) H'
theorem cut_all (xs : List V) (h : xs.length ≤ 63) : cutV xs none (some (63 : Int)) = xs := by
  unfold cutV
  rw [HT.sIx_none, show (63 : Int) = ((63 : Nat) : Int) from rfl, HT.sIx_nat, List.drop_zero, Nat.sub_zero, Nat.min_eq_right h, List.take_length]
section
variable {P : Program} {w : World} {K : PySem.W.Frag} {mg : Str → Option Value} {base : Heap} {f fT : Addr} {fd dT : FuncData}
theorem ok_pen (F : Fun K "_law_pen" "_law_pen" sPen f fd) : FnOk P w K mg base CX0 1 f fd ["_law_script"] (spPen K) := by
  refine F.ok scPen (fun vs H Q E h => ?_) (fun cdv A outer s H vs Q E hr h => ?_)
  · obtain ⟨a, ns, rfl, _⟩ := h
    rfl
  obtain ⟨a, ns, rfl, ha, hn, q⟩ := h
  have nd := scPen.nd
  refine ⟨_, pss_one (ps_ret (pe_lst (pa_cons (pe_slice sl_list (pv 0) po_none (po_some pe_int)) (pa_cons pe_int (pa_cons pe_int pa_nil))))), ?_⟩
  refine ⟨_, rfl, _, rfl, a, _, rfl, ha, fun b nb => ?_⟩
  rw [cut_all _ (by rw [List.length_map]; exact hn)]
  have s1 := new_same (o := .lst (ns.map V.int)) nb
  refine ⟨(by show 3 ≤ sizeLine; decide), fun l nl => ?_⟩
  have s3 := s1.trans (new_same (o := .lst [.ref b, .int 0, .int 0]) nl)
  have ncl : b ≠ l := fun e => by rw [← e, upd_same] at nl; cases nl
  exact q l b _ s3 (s1.free nl) nb ⟨ns, 0, 0, upd_same, by rw [upd_ne ncl]; exact upd_same, hn, by omega, by omega⟩
theorem ok_draw (F : Fun K "_law_take" "_law_take" sDraw f fd) (mn : mg "len" = none) (ma : mg "abs" = none) (mi : mg "int" = none) : FnOk P w K mg base CX0 1 f fd ["_law_pen_here", "_law_many"] spDraw := by
  refine F.ok scDraw (fun vs H Q E h => ?_) (fun cdv A outer s H vs Q E hr h => ?_)
  · obtain ⟨l, c, m, S, rfl, _⟩ := h
    rfl
  obtain ⟨l, c, m, S, rfl, hP, m0, m1, hS, q⟩ := h
  have nlc := hP.apart
  obtain ⟨ns, t, ov, el, ec, hn, t0, t1⟩ := hP
  have nd := scDraw.nd
  have zl : sizeLine = 16777216 := rfl
  refine ⟨_, pss_cons (ps_if (pt_cmpR op_gt (pe_ix ix_list (pv 0) pe_int (fun _ _ => rfl)) pe_int (nomark _))
      (pss_cons (ps_set (i := 2) nd rfl (.inl rfl) (pe_op op_modN (pe_ix ix_list (pv 0) pe_int (fun _ _ => rfl)) (pv 1)))
      (pss_cons (ps_asg (pe_op op_fdivN (pe_ix ix_list (pv 0) pe_int (fun _ _ => rfl)) (pv 1)) (pg_sub (pv 0) pe_int set_list))
      (pss_one (ps_ret (pv 2))))) pss_nil)
    (pss_cons (ps_set (i := 3) nd rfl (.inl rfl) (pe_ix ix_list (pv 0) pe_int (fun _ _ => rfl)))
    (C8.pss_cut (ps_asg (pe_op op_add (pv 3) pe_int) (pg_sub (pv 0) pe_int set_list))
    (pss_cons (ps_set (i := 4) nd rfl (.inl rfl) (pe_op op_add (pe_op op_mul pe_int (pv 3)) pe_int))
    (C8.pss_cut (ps_if (pt_cmpR op_gt (pe_callB call_len_seq (by rfl) mn PySem.boot_len (pa_cons (pe_ix ix_list (pv 0) pe_int (fun _ _ => rfl)) pa_nil)) pe_int (nomark _))
      (pss_one (ps_set (i := 4) nd rfl (.inl rfl) (pe_ix ix_list (pe_ix ix_list (pv 0) pe_int (fun _ _ => rfl)) (pe_op op_modN (pv 3) (pe_callB call_len_seq (by rfl) mn PySem.boot_len (pa_cons (pe_ix ix_list (pv 0) pe_int (fun _ _ => rfl)) pa_nil))) (fun _ _ => rfl)))) pss_nil)
    (C8.pss_cut (ps_if (PW.pt (pw_and (pt_cmpR op_lt (pv 3) (pe_callB call_len_seq (by rfl) mn PySem.boot_len (pa_cons (pe_ix ix_list (pv 0) pe_int (fun _ _ => rfl)) pa_nil)) (nomark _))
        (pw_and1 (pt_cmpR op_ge (pe_callB call_abs (by rfl) ma (by decide +kernel) (pa_cons (pv 4) pa_nil)) (pe_op op_pow pe_int pe_int) (nomark _)))))
      (pss_cons (ps_set (i := 5) nd rfl (.inl rfl) (pe_op op_add (pe_op op_mul pe_int (pe_callB call_abs (by rfl) ma (by decide +kernel) (pa_cons (pv 4) pa_nil))) (pe_callTy call_int1 (by rfl) mi (by decide +kernel) (pa_cons (pe_cmpR op_lt (pv 4) pe_int (nomark _)) pa_nil))))
      (pss_cons (ps_asg (pe_op op_fdivN (pv 5) (pv 1)) (pg_sub (pv 0) pe_int set_list))
      (pss_one (ps_ret (pe_op op_modN (pv 5) (pv 1)))))) pss_nil)
    (C8.pss_cut (ps_set (i := 6) nd rfl (.inl rfl) (pe_op op_modN (pe_op op_pow (pe_op op_add (pe_op op_add (pe_op op_add (pe_op op_modN (pv 4) pe_int) (pe_op op_mul (pe_op op_mul pe_int (pv 3)) (pv 3))) (pe_op op_mul pe_int (pv 3))) pe_int) pe_int) pe_int))
    (C8.pss_cut (ps_set (i := 6) nd rfl (.inl rfl) (pe_op op_modN (pe_op op_pow (pe_op op_add (pe_op op_mul (pv 6) (pe_op op_add (pe_op op_modN (pv 3) pe_int) pe_int)) pe_int) pe_int) pe_int))
    (pss_one (ps_ret (pe_op op_modN (pe_op op_fdivN (pv 6) pe_int) (pv 1))))))))))), ?_⟩
  have L : SqL K H l [.ref c, .int t, .int ov] := SqL.of el
  refine ⟨_, rfl, l, _, 2, _, rfl, rfl, L, atI_nat (j := 2) rfl, _, _, rfl, rfl, _, rfl, ite2 (fun e => ?_) (fun e => ?_)⟩
  · refine ⟨_, rfl, l, _, 2, _, rfl, rfl, L, atI_nat (j := 2) rfl, _, rfl, _, _, rfl, rfl, by omega, ?_⟩
    refine ⟨_, rfl, l, _, 2, _, rfl, rfl, L, atI_nat (j := 2) rfl, _, rfl, _, _, rfl, rfl, ⟨by omega, by omega⟩, ?_⟩
    refine ⟨_, rfl, l, _, 2, 2, rfl, rfl, el, rfl, ?_⟩
    refine ⟨_, rfl, ?_⟩
    obtain ⟨r0, r1⟩ := fmod_in ov m0
    exact q _ _ r0 r1 ⟨ns, t, _, upd_same, by rw [upd_ne nlc.symm]; exact ec, hn, t0, by omega⟩ .at
  refine ⟨_, rfl, l, _, 1, _, rfl, rfl, L, atI_nat (j := 1) rfl, ?_⟩
  refine ⟨fun σ' H' => H' l = some (.lst [.ref c, .int (t + 1), .int ov]) ∧ H' c = some (.lst (ns.map V.int)) ∧ Ex1 l H H' ∧ σ' = [some (.ref l), some (.int m), none, some (.int t), none, none, none], ?_, ?_⟩
  · refine ⟨_, rfl, _, _, rfl, rfl, _, rfl, l, _, 1, 1, rfl, rfl, el, rfl, ?_⟩
    exact ⟨upd_same, by rw [upd_ne nlc.symm]; exact ec, .at, rfl⟩
  rintro σ2 H2 ⟨el2, ec2, x2, rfl⟩
  refine ⟨_, rfl, _, _, rfl, rfl, .inl ⟨by decide, by decide⟩, _, _, rfl, rfl, ?_⟩
  refine ⟨fun σ' H' => Same H2 H' ∧ ∃ v : Int, σ' = [some (.ref l), some (.int m), none, some (.int t), some (.int v), none, none], ?_, ?_⟩
  · refine ⟨_, rfl, l, _, 0, _, rfl, rfl, SqL.of el2, atI_nat (j := 0) rfl, c, _, rfl, .inl (SqL.of ec2), _, _, rfl, rfl, _, rfl, ite2 (fun e => ?_) (fun e => ?_)⟩
    · have e : decide ((0 : Int) < (((ns.map V.int).length : Nat) : Int)) = true := e
      have pos : 0 < ns.length := by
        have := of_decide_eq_true e
        rw [List.length_map] at this
        omega
      obtain ⟨i0, i1⟩ := fmod_in t (b := ((ns.length : Nat) : Int)) (by omega)
      obtain ⟨v, hv, ev⟩ := at_list (f := V.int) (xs := ns) i0 i1
      refine ⟨_, rfl, l, _, 0, _, rfl, rfl, SqL.of el2, atI_nat (j := 0) rfl, _, rfl, _, rfl, l, _, 0, _, rfl, rfl, SqL.of el2, atI_nat (j := 0) rfl, c, _, rfl, .inl (SqL.of ec2), _, _, rfl, rfl, by rw [List.length_map]; omega, ?_⟩
      refine ⟨c, _, _, .int v, rfl, rfl, SqL.of ec2, by rw [List.length_map]; exact ev, ?_⟩
      exact ⟨fun _ _ e => e, v, rfl⟩
    · exact ⟨fun _ _ e => e, _, rfl⟩
  rintro σ3 H3 ⟨s3, v, rfl⟩
  have el3 := s3 _ _ el2
  have ec3 := s3 _ _ ec2
  have x3 : Ex1 l H H3 := x2.trans (ex1_of_same s3)
  refine ⟨fun σ' H' => H' = H3 ∧ σ' = [some (.ref l), some (.int m), none, some (.int t), some (.int v), none, none], ?_, ?_⟩
  · refine ⟨_, rfl, _, rfl, l, _, 0, _, rfl, rfl, SqL.of el3, atI_nat (j := 0) rfl, c, _, rfl, .inl (SqL.of ec3), _, _, rfl, rfl, _, rfl, ite2 (fun e => ?_) (fun e => ?_)⟩
    · refine ⟨_, rfl, _, rfl, 10, 18, rfl, rfl, ⟨by decide, by decide, by decide⟩, _, _, rfl, rfl, _, rfl, ite2 (fun e => ?_) (fun e => ?_)⟩
      · refine ⟨_, rfl, _, rfl, _, _, rfl, rfl, .inl ⟨by decide, by decide⟩, _, rfl, _, _, rfl, rfl, .inr ⟨_, rfl, _, _, rfl, rfl, ?_⟩⟩
        refine ⟨_, rfl, _, rfl, _, _, rfl, rfl, ⟨by omega, by omega⟩, _, rfl, l, _, 2, 2, rfl, rfl, el3, rfl, ?_⟩
        refine ⟨_, rfl, _, rfl, _, _, rfl, rfl, by omega, ?_⟩
        exact q _ _ (fmod_in _ m0).1 (fmod_in _ m0).2 ⟨ns, t + 1, _, upd_same, by rw [upd_ne nlc.symm]; exact ec3, hn, by omega, by omega⟩ (x3.trans .at)
      · exact ⟨rfl, rfl⟩
    · exact ⟨rfl, rfl⟩
  rintro σ4 H4 ⟨rfl, rfl⟩
  obtain ⟨a0, a1⟩ := fmod_in v (b := 2147483563) (by omega)
  obtain ⟨q0, q1⟩ := sq_le t0 (show t ≤ 100000 by omega)
  have e40 : 43037 * t * t = 43037 * (t * t) := Int.mul_assoc ..
  generalize hx0 : v.fmod 2147483563 = x0 at a0 a1
  refine ⟨fun σ' H' => H' = H4 ∧ ∃ x : Int, 0 ≤ x ∧ x < 2147483647 ∧ σ' = [some (.ref l), some (.int m), none, some (.int t), some (.int v), none, some (.int x)], ?_, ?_⟩
  · refine ⟨_, rfl, _, _, rfl, rfl, by omega, _, rfl, _, _, rfl, rfl, .inl ⟨by decide, by decide⟩, _, rfl, _, _, rfl, rfl, .inr ⟨by omega, by omega⟩, _, _, rfl, rfl, _, rfl, _, _, rfl, rfl, .inl ⟨by decide, by decide⟩, _, _, rfl, rfl, _, _, rfl, rfl,
      _, _, rfl, rfl, ⟨by decide, by decide, by rw [hx0, e40]; omega⟩, _, _, rfl, rfl, by omega, ?_⟩
    exact ⟨rfl, _, (fmod_in _ (by omega)).1, (fmod_in _ (by omega)).2, rfl⟩
  rintro σ5 H5 ⟨rfl, x1, b0, b1, rfl⟩
  obtain ⟨u0, u1⟩ := fmod_in t (b := 991) (by omega)
  obtain ⟨c0, c1⟩ := mul_le b0 (show x1 ≤ 2147483647 by omega) (show 0 ≤ t.fmod 991 + 7 by omega) (show t.fmod 991 + 7 ≤ 1000 by omega)
  refine ⟨fun σ' H' => H' = H5 ∧ ∃ x : Int, 0 ≤ x ∧ x < 2147483587 ∧ σ' = [some (.ref l), some (.int m), none, some (.int t), some (.int v), none, some (.int x)], ?_, ?_⟩
  · refine ⟨_, rfl, _, rfl, _, _, rfl, rfl, by omega, _, _, rfl, rfl, _, _, rfl, rfl, .inl ⟨by omega, by omega⟩, _, _, rfl, rfl, _, _, rfl, rfl, ⟨by decide, by decide, by omega⟩, _, _, rfl, rfl, by omega, ?_⟩
    exact ⟨rfl, _, (fmod_in _ (by omega)).1, (fmod_in _ (by omega)).2, rfl⟩
  rintro σ6 H6 ⟨rfl, x2', d0, d1, rfl⟩
  refine ⟨_, rfl, _, _, rfl, rfl, ⟨by omega, by omega⟩, _, rfl, _, _, rfl, rfl, by omega, ?_⟩
  exact q _ _ (fmod_in _ m0).1 (fmod_in _ m0).2 ⟨ns, t + 1, ov, el3, ec3, hn, by omega, by omega⟩ x3
end
end K22
end

section
set_option Elab.async false
set_option linter.all false
set_option maxRecDepth 100000
set_option maxHeartbeats 4000000
namespace K22
open PySem PySem.Spec PyProof.Rows L2 Gd
abbrev sPB : Stmt := topS 5
abbrev nPB : List Str := ["sources", "number", "ahead", "own", "aliases", "tied", "way", Str.ofString (String.ofList ['a', 'l', 'i', 'a', 's']), "table", "pairs", "column", "other", "column2", "at"]
theorem scPB : FnScope nPB ["sources", "number", "ahead"] (defScope sPB) := ⟨rfl, rfl, rfl, by decide +kernel, rfl, by decide +kernel, by decide +kernel⟩
theorem dp_src {K : PySem.W.Frag} {H : Hp} {v : V} {s : Src} (h : Dp K H v (srcD s)) : ∃ a b ps, v = .ref a ∧ SqT K H a [.str s.way, .str s.nick, .str s.table, .ref b] ∧ SqT K H b ps ∧ DpAll K H ps (s.pairs.map Gd.prD) := by
  cases h with
  | tup a k =>
  cases k with | cons k1 k =>
  cases k with | cons k2 k =>
  cases k with | cons k3 k =>
  cases k with | cons k4 k =>
  cases k
  cases k1
  cases k2
  cases k3
  cases k4 with
  | tup b m => exact ⟨_, _, _, rfl, a, b, m⟩
theorem dp_pr {K : PySem.W.Frag} {H : Hp} {v : V} {p : Pr} (h : Dp K H v (Gd.prD p)) : ∃ a, v = .ref a ∧ SqT K H a [.str p.c, .str p.o, .str p.d] := by
  cases h with
  | tup a k =>
  cases k with | cons k1 k =>
  cases k with | cons k2 k =>
  cases k with | cons k3 k =>
  cases k
  cases k1
  cases k2
  cases k3
  exact ⟨_, rfl, a⟩
theorem in_strs (k : Str) : ∀ r : List Str, inV (.str k) (r.map V.str) = decide (k ∈ r)
  | [] => rfl
  | x :: r => by
    have ih := in_strs k r
    show ((x == k) || inV (.str k) (r.map V.str)) = _
    rw [ih]
    by_cases e : x = k
    · subst e
      simp
    · rw [beq_false_of_ne e, Bool.false_or]
      simp [List.mem_cons, Ne.symm e]
theorem flat_strs : ∀ r : List Str, (r.map V.str).all flatV = true
  | [] => rfl
  | x :: r => flat_strs r
def spPB (K : PySem.W.Frag) : Sp := fun vs H Q _ => ∃ (S A : Addr) (n : Nat) (xs : List V) (ss : List Src) (js : List Nat), vs = [.ref S, .int ((n : Nat) : Int), .ref A] ∧ SqT K H S xs ∧ DpAll K H xs (ss.map srcD) ∧ n < ss.length ∧
  SqT K H A (js.map fun j => V.int ((j : Nat) : Int)) ∧ (∀ j ∈ js, j < ss.length) ∧ js.length ≤ 10 ∧ ss.length ≤ 10 ∧ (∀ s ∈ ss, s.pairs.length ≤ 10) ∧
  ∀ (l : Addr) (ts : List V) (H' : Hp), Same H H' → H l = none → H' l = some (.lst ts) → DpAll K H' ts ((tied ss n js).map Gd.prD) → Q (.ref l) H'
theorem srcs_at {ss : List Src} {i : Nat} (h : i < ss.length) : (ss.map srcD)[i]? = some (srcD (ss.getD i noSrc)) := by
  rw [List.getElem?_map, List.getD_eq_getElem?_getD, List.getElem?_eq_getElem h] <;> rfl
theorem prs_only : ∀ ps : List Pr, tupOnlyAll (ps.map Gd.prD) = true
  | [] => rfl
  | p :: ps => by
    rw [List.map_cons]
    simp only [tupOnlyAll, prs_only ps, Bool.and_true]
    rfl
section
variable {P : Program} {w : World} {K : PySem.W.Frag} {mg : Str → Option Value} {base : Heap} {f fT : Addr} {fd dT : FuncData}
theorem ok_pb (F : Fun K "pairs_between" "pairs_between" sPB f fd) : FnOk P w K mg base CX0 1 f fd ["sources", "number", "ahead"] (spPB K) := by
  refine F.ok scPB (fun vs H Q E h => ?_) (fun cdv A outer s H vs Q E hr h => ?_)
  · obtain ⟨S, A, n, xs, ss, js, rfl, _⟩ := h
    rfl
  obtain ⟨S, AH, n, xs, ss, js, rfl, hS, hX, hn, hJ, jl, j10, s10, p10, q⟩ := h
  have nd := scPB.nd
  have zl : sizeLine = 16777216 := rfl
  refine ⟨_, pss_cons (ps_set (i := 3) nd rfl (.inl rfl) (pe_ix ix_tup (pe_ix ix_tup (pv 0) (pv 1) (fun _ _ => rfl)) pe_int (fun _ _ => rfl)))
      (pss_cons (ps_setLc (i := 4) (own := [("at", 13)]) (g := gName 13) (tt := tYes) rfl nd rfl rfl (by rfl) (pi_tup (pv 2)) (blkOk_by (N := nPB) (sc := defScope sPB) (by decide +kernel)) (fun _ _ _ _ _ => pg_name (i := 13) nd rfl (Or.inl rfl)) (fun _ _ _ _ _ => pts_nil) (fun _ _ _ _ _ => (pe_ix (r := rIxT K) ix_tup (pe_ix (r := rIxT K) ix_tup (pv 0) (pv 13) (fun _ _ => rfl)) pe_int (fun _ _ => rfl))))
      (pss_cons (ps_set (i := 5) nd rfl (.inl rfl) (pe_lst pa_nil))
      (pss_cons (ps_for PassesOwn.never rfl (pi_tup (pv 0)) (pg_tup rfl (pgs_cons (pg_name (i := 6) nd rfl (.inl rfl)) (pgs_cons (pg_name (i := 7) nd rfl (.inl rfl)) (pgs_cons (pg_name (i := 8) nd rfl (.inl rfl)) (pgs_cons (pg_name (i := 9) nd rfl (.inl rfl)) pgs_nil)))))
      (pss_one (ps_for PassesOwn.never rfl (pi_tup (pv 9)) (pg_tup rfl (pgs_cons (pg_name (i := 10) nd rfl (.inl rfl)) (pgs_cons (pg_name (i := 11) nd rfl (.inl rfl)) (pgs_cons (pg_name (i := 12) nd rfl (.inl rfl)) pgs_nil))))
      (pss_one (ps_if (PW.pt (pw_and (pt_cmpR op_eq (pv 7) (pv 3) (nomark _)) (pw_and1 (pt_cmpR op_in_seq (pv 11) (pv 4) (by with_unfolding_all rfl)))))
        (pss_one (ps_expr (pe_bm PySem.F.plainAttrs_list PySem.F.slot_list_append PySem.F.type_list_append mt_append (pv 5) (pa_cons (pe_tup (pa_cons (pv 10) (pa_cons (pv 11) (pa_cons (pv 12) pa_nil)))) pa_nil)))) (pss_one (ps_if (PW.pt (pw_and (pt_cmpR op_eq (pv 11) (pv 3) (nomark _)) (pw_and1 (pt_cmpR op_in_seq (pv 7) (pv 4) (by with_unfolding_all rfl)))))
        (pss_one (ps_expr (pe_bm PySem.F.plainAttrs_list PySem.F.slot_list_append PySem.F.type_list_append mt_append (pv 5) (pa_cons (pe_tup (pa_cons (pv 12) (pa_cons (pv 7) (pa_cons (pv 10) pa_nil)))) pa_nil)))) pss_nil)))))))
      (pss_one (ps_ret (pv 5)))))), ?_⟩
  obtain ⟨a0, b0, ps0, e0, t0, _, _⟩ : ∃ a b ps, xs[n]? = some (.ref a) ∧ SqT K H a [.str (ss.getD n noSrc).way, .str (ss.getD n noSrc).nick, .str (ss.getD n noSrc).table, .ref b] ∧ SqT K H b ps ∧ DpAll K H ps ((ss.getD n noSrc).pairs.map Gd.prD) := by
    have l := (DpAll.len hX)
    rw [List.length_map] at l
    obtain ⟨d, ed, hd⟩ := DpAll.at_ hX (List.getElem?_eq_getElem (show n < xs.length by omega))
    rw [srcs_at hn] at ed
    cases ed
    obtain ⟨a, b, ps, ev, r⟩ := dp_src hd
    exact ⟨a, b, ps, by rw [List.getElem?_eq_getElem (show n < xs.length by omega), ev], r⟩
  have lX : xs.length = ss.length := by rw [(DpAll.len hX), List.length_map]
  refine ⟨_, rfl, _, rfl, S, _, _, _, rfl, rfl, hS, atI_nat e0, a0, _, 1, _, rfl, rfl, t0, atI_nat (j := 1) rfl, ?_⟩
  refine ⟨_, rfl, AH, rfl, ⟨_, hJ⟩, fun al nal => ?_⟩
  refine lc_it walk_tup (fun i H1 => Same H H1 ∧ H1 al = some (.lst (((js.take i).map (aliasAt ss)).map V.str))) ⟨new_same nal, upd_same⟩ (fun i H1 _ h => same_tup h.1 hJ) ?_ ?_
  · rintro i x H1 H2 hi ⟨s1, el⟩ ⟨rfl, ex⟩
    obtain ⟨j, ej, rfl⟩ := map_at ex
    have jlt := jl j (List.mem_of_getElem? ej)
    obtain ⟨d, ed, hd⟩ := DpAll.at_ hX (List.getElem?_eq_getElem (show j < xs.length by omega))
    rw [srcs_at jlt] at ed
    cases ed
    obtain ⟨a, b, ps, ev, tt, _⟩ := dp_src hd
    have hi : i < js.length := at_lt ej
    refine ⟨rfl, ?_⟩
    refine ⟨_, rfl, _, rfl, S, _, _, _, rfl, rfl, same_tup s1 hS, atI_nat (List.getElem?_eq_getElem (show j < xs.length by omega)), a, _, 1, _, ev, rfl, same_tup s1 tt, atI_nat (j := 1) rfl, ?_⟩
    refine ⟨_, el, by rw [List.length_map, List.length_map, List.length_take]; omega, own_same nal s1, ?_⟩
    rw [upd_same, take_at ej, List.map_append, List.map_append]
    rfl
  rintro H1 ⟨s1, el⟩
  rw [List.length_map, List.take_length] at el
  have own : (ss.getD n noSrc).nick = aliasAt ss n := rfl
  rw [own]
  refine ⟨by decide, fun T nT => ?_⟩
  have s2 := s1.trans (new_same (o := .lst []) nT)
  have nT0 : H T = none := s1.free nT
  have naT : al ≠ T := ne_of_none el nT
  refine ⟨_, rfl, S, rfl, ⟨_, same_tup s2 hS⟩, ?_⟩
  refine for_it walk_tup (fun i σ H3 => Same H H3 ∧ H3 al = some (.lst ((js.map (aliasAt ss)).map V.str)) ∧ (∃ ts, H3 T = some (.lst ts) ∧ ts.length ≤ 10 * i ∧ DpAll K H3 ts (((ss.take i).flatMap (tieS (aliasAt ss n) (js.map (aliasAt ss)))).map Gd.prD)) ∧
      ∃ y6 y7 y8 y9 y10 y11 y12 y13, σ = [some (.ref S), some (.int (n : Nat)), some (.ref AH), some (.str (aliasAt ss n)), some (.ref al), some (.ref T), y6, y7, y8, y9, y10, y11, y12, y13])
    ⟨s2, new_same nT _ _ el, ⟨_, upd_same, Nat.le_refl _, .nil⟩, _, _, _, _, _, _, _, _, rfl⟩ (fun i σ H3 _ h => same_tup h.1 hS) ?_ ?_
  · rintro i x σ H3 H4 hi ⟨s3, ea3, ⟨ts, eT, lt, hT⟩, y6, y7, y8, y9, y10, y11, y12, y13, rfl⟩ ⟨rfl, ex⟩
    have hi : i < xs.length := hi
    obtain ⟨d, ed, hd⟩ := DpAll.at_ hX ex
    rw [srcs_at (by omega)] at ed
    cases ed
    have es : ss[i]? = some (ss.getD i noSrc) := by rw [List.getD_eq_getElem?_getD, List.getElem?_eq_getElem (by omega)] <;> rfl
    have pl := p10 _ (List.mem_of_getElem? es)
    generalize ss.getD i noSrc = s at hd es pl
    obtain ⟨a, b, ps, rfl, tt, tb, hp⟩ := dp_src hd
    have lp : ps.length = s.pairs.length := by rw [(DpAll.len hp), List.length_map]
    refine ⟨a, _, rfl, same_tup s3 tt, rfl, _, _, rfl, _, _, rfl, _, _, rfl, _, _, rfl, rfl, ?_⟩
    refine ⟨_, rfl, b, rfl, ⟨_, same_tup s3 tb⟩, ?_⟩
    refine for_it walk_tup (fun j σ H5 => Same H H5 ∧ H5 al = some (.lst ((js.map (aliasAt ss)).map V.str)) ∧ (∃ ts, H5 T = some (.lst ts) ∧ ts.length ≤ 10 * i + j ∧ DpAll K H5 ts (((ss.take i).flatMap (tieS (aliasAt ss n) (js.map (aliasAt ss))) ++ (s.pairs.take j).flatMap (tie1 (aliasAt ss n) (js.map (aliasAt ss)) s)).map Gd.prD)) ∧
        ∃ y10 y11 y12 y13, σ = [some (.ref S), some (.int (n : Nat)), some (.ref AH), some (.str (aliasAt ss n)), some (.ref al), some (.ref T), some (.str s.way), some (.str s.nick), some (.str s.table), some (.ref b), y10, y11, y12, y13])
      ⟨s3, ea3, ⟨ts, eT, lt, by rw [List.take_zero, List.flatMap_nil, List.append_nil]; exact hT⟩, _, _, _, _, rfl⟩ (fun j σ H5 _ h => same_tup h.1 tb) ?_ ?_
    · rintro j x σ H5 H6 hj ⟨s5, ea5, ⟨ts, eT, lt, hT⟩, y10, y11, y12, y13, rfl⟩ ⟨rfl, ex⟩
      have hj : j < ps.length := hj
      obtain ⟨d, ed, hd⟩ := DpAll.at_ hp ex
      rw [List.getElem?_map, Option.map_eq_some_iff] at ed
      obtain ⟨p, ep, rfl⟩ := ed
      obtain ⟨c, rfl, tc⟩ := dp_pr hd
      have tj : (s.pairs.take (j + 1)).flatMap (tie1 (aliasAt ss n) (js.map (aliasAt ss)) s) = (s.pairs.take j).flatMap (tie1 (aliasAt ss n) (js.map (aliasAt ss)) s) ++ tie1 (aliasAt ss n) (js.map (aliasAt ss)) s p := by
        rw [take_at ep, List.flatMap_append]
        simp
      have nTal : T ≠ al := naT.symm
      -- one put behind
      have put : ∀ {p' : Pr} {t : Addr}, H6 t = none → tie1 (aliasAt ss n) (js.map (aliasAt ss)) s p = [p'] → ∀ H7, H7 = upd (upd H6 t (.tup [.str p'.c, .str p'.o, .str p'.d])) T (.lst (ts ++ [.ref t])) →
          Same H H7 ∧ H7 al = some (.lst ((js.map (aliasAt ss)).map V.str)) ∧ (∃ ts, H7 T = some (.lst ts) ∧ ts.length ≤ 10 * i + (j + 1) ∧ DpAll K H7 ts (((ss.take i).flatMap (tieS (aliasAt ss n) (js.map (aliasAt ss))) ++ (s.pairs.take (j + 1)).flatMap (tie1 (aliasAt ss n) (js.map (aliasAt ss)) s)).map Gd.prD)) := by
        rintro p' t nt e1 H7 rfl
        have j1 := new_same (o := .tup [.str p'.c, .str p'.o, .str p'.d]) nt
        refine ⟨own_same nT0 (s5.trans j1), by rw [upd_ne naT]; exact j1 _ _ ea5, ts ++ [.ref t], upd_same, by rw [List.length_append]; show ts.length + 1 ≤ _; omega, ?_⟩
        have T1 : Tups K H6 (upd (upd H6 t (.tup [.str p'.c, .str p'.o, .str p'.d])) T (.lst (ts ++ [.ref t]))) := (Tups.of_same j1).trans (Tups.upd_lst (j1 _ _ eT))
        rw [tj, e1, ← List.append_assoc, List.map_append]
        refine DpAll.snoc (DpAll.tups T1 _ ?_ hT) (.tup (Tups.upd_lst (j1 _ _ eT) _ _ (SqT.of upd_same)) (.cons (.str _) (.cons (.str _) (.cons (.str _) .nil))))
        exact prs_only _
      refine ⟨c, _, rfl, same_tup s5 tc, rfl, _, _, rfl, _, _, rfl, _, _, rfl, rfl, ?_⟩
      refine ⟨_, rfl, _, rfl, rfl, _, rfl, ite2 (fun e => ?_) (fun e => ?_)⟩
      · have e : decide (s.nick = aliasAt ss n) = true := decide_eq_true (V.str.inj (of_decide_eq_true e))
        refine ⟨_, rfl, _, rfl, al, _, rfl, .inl (SqL.of ea5), rfl, flat_strs _, _, rfl, ite2 (fun e2 => ?_) (fun e2 => ?_)⟩
        · have e2 : decide (p.o ∈ js.map (aliasAt ss)) = true := (in_strs _ _).symm.trans e2
          refine ⟨_, rfl, .inl ⟨rfl, _, SqL.of eT⟩, _, rfl, _, rfl, _, rfl, (by show 3 ≤ sizeLine; decide), fun t nt => ?_⟩
          have j1 := new_same (o := .tup [.str p.c, .str p.o, .str p.d]) nt
          refine ⟨T, ts, _, rfl, rfl, j1 _ _ eT, by omega, ?_⟩
          obtain ⟨a1, a2, a3⟩ := put (p' := ⟨p.c, p.o, p.d⟩) nt (by unfold tie1; rw [e, e2]; rfl) _ rfl
          exact ⟨a1, a2, a3, _, _, _, _, rfl⟩
        · have hc : (decide (s.nick = aliasAt ss n) && decide (p.o ∈ js.map (aliasAt ss))) = false := by
            rw [show decide (p.o ∈ js.map (aliasAt ss)) = false from (in_strs _ _).symm.trans (Bool.eq_false_iff.mpr e2), Bool.and_false]
          refine ⟨_, rfl, _, rfl, rfl, _, rfl, ite2 (fun e3 => ?_) (fun e3 => ?_)⟩
          · have e3 : decide (p.o = aliasAt ss n) = true := decide_eq_true (V.str.inj (of_decide_eq_true e3))
            refine ⟨_, rfl, _, rfl, al, _, rfl, .inl (SqL.of ea5), rfl, flat_strs _, _, rfl, ite2 (fun e4 => ?_) (fun e4 => ?_)⟩
            · have e4 : decide (s.nick ∈ js.map (aliasAt ss)) = true := (in_strs _ _).symm.trans e4
              refine ⟨_, rfl, .inl ⟨rfl, _, SqL.of eT⟩, _, rfl, _, rfl, _, rfl, (by show 3 ≤ sizeLine; decide), fun t nt => ?_⟩
              have j1 := new_same (o := .tup [.str p.d, .str s.nick, .str p.c]) nt
              refine ⟨T, ts, _, rfl, rfl, j1 _ _ eT, by omega, ?_⟩
              obtain ⟨a1, a2, a3⟩ := put (p' := ⟨p.d, s.nick, p.c⟩) nt (by unfold tie1; rw [hc, if_neg (by simp), e3, e4]; rfl) _ rfl
              exact ⟨a1, a2, a3, _, _, _, _, rfl⟩
            · have e4 : decide (s.nick ∈ js.map (aliasAt ss)) = false := (in_strs _ _).symm.trans (Bool.eq_false_iff.mpr e4)
              refine ⟨s5, ea5, ⟨ts, eT, by omega, ?_⟩, _, _, _, _, rfl⟩
              rw [tj, show tie1 (aliasAt ss n) (js.map (aliasAt ss)) s p = [] by unfold tie1; rw [hc, if_neg (by simp), e4, Bool.and_false, if_neg (by simp)], List.append_nil]
              exact hT
          · have e3 : decide (p.o = aliasAt ss n) = false := decide_eq_false fun z => e3 (decide_eq_true (by rw [z]))
            refine ⟨s5, ea5, ⟨ts, eT, by omega, ?_⟩, _, _, _, _, rfl⟩
            rw [tj, show tie1 (aliasAt ss n) (js.map (aliasAt ss)) s p = [] by unfold tie1; rw [hc, if_neg (by simp), e3, Bool.false_and, if_neg (by simp)], List.append_nil]
            exact hT
      · have hc : (decide (s.nick = aliasAt ss n) && decide (p.o ∈ js.map (aliasAt ss))) = false := by
          rw [show decide (s.nick = aliasAt ss n) = false from decide_eq_false fun z => e (decide_eq_true (by rw [z])), Bool.false_and]
        refine ⟨_, rfl, _, rfl, rfl, _, rfl, ite2 (fun e3 => ?_) (fun e3 => ?_)⟩
        · have e3 : decide (p.o = aliasAt ss n) = true := decide_eq_true (V.str.inj (of_decide_eq_true e3))
          refine ⟨_, rfl, _, rfl, al, _, rfl, .inl (SqL.of ea5), rfl, flat_strs _, _, rfl, ite2 (fun e4 => ?_) (fun e4 => ?_)⟩
          · have e4 : decide (s.nick ∈ js.map (aliasAt ss)) = true := (in_strs _ _).symm.trans e4
            refine ⟨_, rfl, .inl ⟨rfl, _, SqL.of eT⟩, _, rfl, _, rfl, _, rfl, (by show 3 ≤ sizeLine; decide), fun t nt => ?_⟩
            have j1 := new_same (o := .tup [.str p.d, .str s.nick, .str p.c]) nt
            refine ⟨T, ts, _, rfl, rfl, j1 _ _ eT, by omega, ?_⟩
            obtain ⟨a1, a2, a3⟩ := put (p' := ⟨p.d, s.nick, p.c⟩) nt (by unfold tie1; rw [hc, if_neg (by simp), e3, e4]; rfl) _ rfl
            exact ⟨a1, a2, a3, _, _, _, _, rfl⟩
          · have e4 : decide (s.nick ∈ js.map (aliasAt ss)) = false := (in_strs _ _).symm.trans (Bool.eq_false_iff.mpr e4)
            refine ⟨s5, ea5, ⟨ts, eT, by omega, ?_⟩, _, _, _, _, rfl⟩
            rw [tj, show tie1 (aliasAt ss n) (js.map (aliasAt ss)) s p = [] by unfold tie1; rw [hc, if_neg (by simp), e4, Bool.and_false, if_neg (by simp)], List.append_nil]
            exact hT
        · have e3 : decide (p.o = aliasAt ss n) = false := decide_eq_false fun z => e3 (decide_eq_true (by rw [z]))
          refine ⟨s5, ea5, ⟨ts, eT, by omega, ?_⟩, _, _, _, _, rfl⟩
          rw [tj, show tie1 (aliasAt ss n) (js.map (aliasAt ss)) s p = [] by unfold tie1; rw [hc, if_neg (by simp), e3, Bool.false_and, if_neg (by simp)], List.append_nil]
          exact hT
    · rintro σ H5 ⟨s5, ea5, ⟨ts, eT, lt, hT⟩, y10, y11, y12, y13, rfl⟩
      rw [lp, List.take_length] at hT
      refine ⟨s5, ea5, ⟨ts, eT, by omega, ?_⟩, _, _, _, _, _, _, _, _, rfl⟩
      rw [take_at es, List.flatMap_append, List.flatMap_cons, List.flatMap_nil, List.append_nil]
      exact hT
  · rintro σ H3 ⟨s3, ea3, ⟨ts, eT, lt, hT⟩, y6, y7, y8, y9, y10, y11, y12, y13, rfl⟩
    rw [lX, List.take_length] at hT
    exact ⟨_, rfl, q T ts H3 s3 nT0 eT hT⟩
end
end K22
end

section
set_option Elab.async false
set_option linter.all false
set_option maxRecDepth 100000
set_option maxHeartbeats 4000000
namespace Gd
open PySem PySem.Spec PyProof.Rows L2
section
variable {X : Cx}
/-- t[lo:hi], whichever object it is -/
def rSlC (K : PySem.W.Frag) : V → Option Int → Option Int → Hp → VK → Prop := fun x lo hi H Q => ∃ a xs, x = .ref a ∧ SqT K H a xs ∧ ∀ p H', Same H H' → SqT K H' p (cutV xs lo hi) → Q (.ref p) H'
theorem sl_tupC : SlR X (rSlC X.K) := by
  intro pins s σ H x v vl vu lo hi sl Q I rx hs pl pu h
  obtain ⟨a, xs, rfl, hx, q⟩ := h
  refine sl_tupA pins s σ H _ v vl vu lo hi sl Q I rx hs pl pu ⟨a, xs, rfl, hx, fun w => ?_, fun w p hp => q p _ (new_same hp) (SqT.of upd_same)⟩
  refine q a H (fun _ _ e => e) ?_
  have e : cutV xs lo hi = xs := by
    unfold cutV
    rw [w.1, w.2, List.drop_zero, Nat.sub_zero, List.take_length]
  rw [e]
  exact hx
end
theorem cutV_to {xs : List V} {i : Nat} (h : i ≤ xs.length) : cutV xs none (some (i : Int)) = xs.take i := by
  unfold cutV
  rw [HT.sIx_none, HT.sIx_nat, List.drop_zero, Nat.sub_zero, Nat.min_eq_left h]
theorem putK_new {kvs : List (Key × V)} {k : Key} {v : V} (h : ∀ x ∈ kvs, x.1 ≠ k) : putK kvs k v = kvs ++ [(k, v)] := by
  unfold putK
  rw [if_neg]
  intro e
  obtain ⟨x, hx, ex⟩ := List.any_eq_true.mp e
  exact h x hx (of_decide_eq_true ex)
/-- links in the heap -/
def LkAt (K : PySem.W.Frag) (H : Hp) (kvs : List (Key × V)) (ls : List (Nat × Pr)) : Prop := kvs.map (·.1) = ls.map (fun x => (Sum.inl ((x.1 : Nat) : Int) : Key)) ∧ DpAll K H (kvs.map (·.2)) (ls.map fun x => Gd.prD x.2)
theorem LkAt.len {K : PySem.W.Frag} {H : Hp} {kvs : List (Key × V)} {ls : List (Nat × Pr)} (h : LkAt K H kvs ls) : kvs.length = ls.length := by
  have := congrArg List.length h.1
  simpa using this
theorem LkAt.put {K : PySem.W.Frag} {H : Hp} {kvs : List (Key × V)} {ls : List (Nat × Pr)} {n : Nat} {p : Pr} {v : V} (h : LkAt K H kvs ls) (hv : Dp K H v (Gd.prD p)) (hn : ∀ x ∈ ls, x.1 ≠ n) :
    LkAt K H (putK kvs (Sum.inl ((n : Nat) : Int)) v) (ls ++ [(n, p)]) := by
  have fresh : ∀ x ∈ kvs, x.1 ≠ (Sum.inl ((n : Nat) : Int) : Key) := fun x hx e => by
    have m : x.1 ∈ ls.map (fun x => (Sum.inl ((x.1 : Nat) : Int) : Key)) := by
      rw [← h.1]
      exact List.mem_map_of_mem hx
    obtain ⟨y, hy, ey⟩ := List.mem_map.mp m
    rw [e] at ey
    have z := Sum.inl.inj ey
    exact hn y hy (by omega)
  rw [putK_new fresh]
  refine ⟨?_, ?_⟩
  · rw [List.map_append, List.map_append, h.1]
    rfl
  · rw [List.map_append, List.map_append]
    exact DpAll.snoc h.2 hv
theorem tups_dk {K : PySem.W.Frag} {H : Hp} {D : Addr} {xs ys : List (Key × V)} (e : H D = some (.dK xs)) : Tups K H (upd H D (.dK ys)) := by
  intro a zs h
  rcases h with (h | ⟨o, h⟩) | h
  · refine .inl (.inl ?_)
    rw [upd_ne (fun z => by rw [z, e] at h; cases h)]
    exact h
  · refine .inl (.inr ⟨o, ?_⟩)
    rw [upd_ne (fun z => by rw [z, e] at h; cases h)]
    exact h
  · exact .inr h
theorem prs2_only : ∀ ls : List (Nat × Pr), tupOnlyAll (ls.map fun x => Gd.prD x.2) = true
  | [] => rfl
  | p :: ps => by
    rw [List.map_cons]
    simp only [tupOnlyAll, prs2_only ps, Bool.and_true]
    rfl
theorem LkAt.tups {K : PySem.W.Frag} {H H' : Hp} {kvs : List (Key × V)} {ls : List (Nat × Pr)} (t : Tups K H H') (h : LkAt K H kvs ls) : LkAt K H' kvs ls := ⟨h.1, DpAll.tups t _ (prs2_only ls) h.2⟩
end Gd
namespace K22
open PySem PySem.Spec PyProof.Rows L2 Gd
abbrev sLk : Stmt := topS 4
abbrev nLk : List Str := ["ask", "plan", "sources", "order", "links", "place", "number", "pairs"]
theorem scLk : FnScope nLk ["ask", "plan"] (defScope sLk) := ⟨rfl, rfl, rfl, by decide +kernel, rfl, by decide +kernel, by decide +kernel⟩
/-- an ask's sources -/
def AskAt (K : PySem.W.Frag) (H : Hp) (A : Addr) (ss : List Src) : Prop := ∃ (as xs : List V) (S : Addr), SqT K H A as ∧ as[0]? = some (.ref S) ∧ SqT K H S xs ∧ DpAll K H xs (ss.map srcD)
def Small (ss : List Src) : Prop := ss.length ≤ 10 ∧ ∀ s ∈ ss, s.pairs.length ≤ 10
def intsV (order : List Nat) : List V := order.map fun j => V.int ((j : Nat) : Int)
def spLk (K : PySem.W.Frag) : Sp := fun vs H Q _ => ∃ (A PL : Addr) (ps : List V) (O : Addr) (ss : List Src) (order : List Nat), vs = [.ref A, .ref PL] ∧ AskAt K H A ss ∧ Small ss ∧ SqT K H PL ps ∧ ps[0]? = some (.ref O) ∧ SqT K H O (intsV order) ∧
  order.length ≤ ss.length ∧ order.Nodup ∧ (∀ j ∈ order, j < order.length) ∧ ∀ (l : Addr) (kvs : List (Key × V)) (H' : Hp), Same H H' → H l = none → H' l = some (.dK kvs) → LkAt K H' kvs (linksL ss order) → Q (.ref l) H'
theorem srcs_only : ∀ ss : List Src, (∀ s ∈ ss, s.pairs.length ≤ 10) → tupOnlyAll (ss.map srcD) = true
  | [], _ => rfl
  | s :: ss, h => by
    have a := prs_only s.pairs
    have b := h s (by simp)
    rw [List.map_cons]
    simp only [tupOnlyAll, srcs_only ss (fun s hs => h s (by simp [hs])), Bool.and_true, srcD, tupOnly, a, List.length_map, List.length_cons, List.length_nil, Bool.and_eq_true, decide_eq_true_eq, and_true]
    exact ⟨by decide, trivial, trivial, trivial, by omega⟩
theorem hu_of {n : Nat} {A : Around} (r : Room n A) : A.units + 1 < cLine := by
  have := r.units
  omega
section
variable {P : Program} {w : World} {K : PySem.W.Frag} {mg : Str → Option Value} {base : Heap} {f fB : Addr} {fd dB : FuncData}
theorem ok_lk (F : Fun K "links_of" "links_of" sLk f fd) (me : mg "enumerate" = none) (mr : mg "range" = none) (mn : mg "len" = none)
    (FB : Fun K "pairs_between" "pairs_between" sPB fB dB) (GB : FnOk P w K mg base CX0 1 fB dB ["sources", "number", "ahead"] (spPB K)) (bB : Binds K dB ["sources", "number", "ahead"] []) (gB : mg "pairs_between" = some (.ref fB)) :
    FnOk P w K mg base CX0 2 f fd ["ask", "plan"] (spLk K) := by
  refine F.ok scLk (fun vs H Q E h => ?_) (fun cdv A outer s0 H vs Q E hr h => ?_)
  · obtain ⟨A, PL, ps, O, ss, order, rfl, _⟩ := h
    rfl
  obtain ⟨AK, PL, ps, O, ss, order, rfl, ⟨as, xs, S, hA, e0, hS, hX⟩, ⟨s10, p10⟩, hP, e1, hO, lo, und, olt, q⟩ := h
  have nd := scLk.nd
  have zl : sizeLine = 16777216 := rfl
  have hu := hu_of hr
  refine ⟨_, pss_cons (ps_set (i := 2) nd rfl (.inl rfl) (pe_ix ix_tup (pv 0) pe_int (fun _ _ => rfl)))
      (pss_cons (ps_set (i := 3) nd rfl (.inl rfl) (pe_ix ix_tup (pv 1) pe_int (fun _ _ => rfl)))
      (pss_cons (ps_set (i := 4) nd rfl (.inl rfl) pe_dnewK)
      (pss_cons (ps_for PassesOwn.never rfl (pi_ET (by rfl) me (pa_cons (pv 3) pa_nil)) (pg_tup rfl (pgs_cons (pg_name (i := 5) nd rfl (.inl rfl)) (pgs_cons (pg_name (i := 6) nd rfl (.inl rfl)) pgs_nil)))
      (pss_cons (ps_set (i := 7) nd rfl (.inl rfl) (pe_call GB hr (by rfl) gB FB.kp bB .nil pass0 (pa_cons (pv 2) (pa_cons (pv 6) (pa_cons (pe_slice sl_tupC (pv 3) po_none (po_some (pv 5))) pa_nil)))))
      (pss_one (ps_if (pt_truth (pv 7) (by intro _; rfl))
        (pss_one (ps_dput hu (pv 4) (pv 6) (pe_ix ix_list (pv 7) pe_int (fun _ _ => rfl)) rfl)) pss_nil))))
      (pss_cons (ps_for PassesOwn.never rfl (pi_range2 (by rfl) mr (pa_cons (pe_callB call_len_seq (by rfl) mn PySem.boot_len (pa_cons (pv 3) pa_nil)) (pa_cons (pe_callB call_len_seq (by rfl) mn PySem.boot_len (pa_cons (pv 2) pa_nil)) pa_nil))) (pg_name (i := 6) nd rfl (.inl rfl))
      (pss_cons (ps_set (i := 7) nd rfl (.inl rfl) (pe_ix ix_tup (pe_ix ix_tup (pv 2) (pv 6) (fun _ _ => rfl)) pe_int (fun _ _ => rfl)))
      (pss_one (ps_if (pt_truth (pv 7) (by intro _; rfl))
        (pss_one (ps_dput hu (pv 4) (pv 6) (pe_ix ix_tup (pv 7) pe_int (fun _ _ => rfl)) rfl)) pss_nil))))
      (pss_one (ps_ret (pv 4))))))), ?_⟩
  have lX : xs.length = ss.length := by rw [DpAll.len hX, List.length_map]
  have ol : (intsV order).length = order.length := List.length_map ..
  refine ⟨_, rfl, AK, _, 0, _, rfl, rfl, hA, atI_nat (j := 0) e0, ?_⟩
  refine ⟨_, rfl, PL, _, 0, _, rfl, rfl, hP, atI_nat (j := 0) e1, ?_⟩
  refine fun l nl => ?_
  have s1 := new_same (o := .dK []) nl
  refine ⟨_, rfl, O, _, rfl, same_tup s1 hO, ?_⟩
  have only := srcs_only ss p10
  have nums1 : ∀ {i : Nat}, i < order.length → ∀ x ∈ linksA ss order i, x.1 ≠ order.getD i 0 := fun {i} hi x hx e => by
    obtain ⟨k, hk, ek⟩ := linksA_nums x hx
    rw [ek] at e
    have a : order[k]? = some (order.getD k 0) := by rw [List.getD_eq_getElem?_getD, List.getElem?_eq_getElem (by omega)] <;> rfl
    have b : order[i]? = some (order.getD i 0) := by rw [List.getD_eq_getElem?_getD, List.getElem?_eq_getElem hi] <;> rfl
    have c := (List.getElem?_inj (by omega) und).mp (a.trans ((congrArg some e).trans b.symm))
    omega
  refine for_it walk_ET (fun i σ H1 => Same H H1 ∧ (∃ kvs, H1 l = some (.dK kvs) ∧ LkAt K H1 kvs (linksA ss order i) ∧ kvs.length ≤ i) ∧ ∃ y5 y6 y7, σ = [some (.ref AK), some (.ref PL), some (.ref S), some (.ref O), some (.ref l), y5, y6, y7])
    ⟨s1, ⟨[], upd_same, ⟨rfl, .nil⟩, Nat.le_refl _⟩, _, _, _, rfl⟩ (fun i σ H1 _ h => same_tup h.1 hO) ?_ ?_
  · rintro i x σ H1 H2 hi ⟨s2, ⟨kvs, el, lk, lz⟩, y5, y6, y7, rfl⟩ ⟨T, x1, x2, rfl, nT, rfl, ei, ex⟩
    cases ei
    obtain ⟨j, ej, rfl⟩ := map_at ex
    have hi2 := at_lt ej
    have jo : order.getD i 0 = j := by rw [List.getD_eq_getElem?_getD, ej] <;> rfl
    have jlt := olt j (List.mem_of_getElem? ej)
    have j1 := new_same (o := .tup [.int ((i : Nat) : Int), .int ((j : Nat) : Int)]) nT
    refine ⟨T, _, rfl, SqT.of upd_same, rfl, _, _, rfl, _, _, rfl, rfl, ?_⟩
    have s3 := s2.trans j1
    have el3 := j1 _ _ el
    have lk3 := lk.tups (Tups.of_same j1)
    generalize upd H1 T (.tup [.int ((i : Nat) : Int), .int ((j : Nat) : Int)]) = H3 at s3 el3 lk3 ⊢
    refine ⟨_, rfl, _, rfl, _, rfl, _, rfl, _, rfl, O, _, rfl, same_tup s3 hO, fun p H4 s4 hp => ?_⟩
    rw [cutV_to (by rw [ol]; omega)] at hp
    have hp : SqT K H4 p ((order.take i).map fun j => V.int ((j : Nat) : Int)) := by
      rw [List.map_take]
      exact hp
    have s34 := s3.trans s4
    refine ⟨S, p, j, xs, ss, order.take i, rfl, same_tup s34 hS, DpAll.tups (Tups.of_same s34) _ only hX, by omega, hp, fun j hj => Nat.lt_of_lt_of_le (olt j (List.mem_of_mem_take hj)) lo, by rw [List.length_take]; omega, s10, p10, fun t ts H5 s5 nt et ht => ?_⟩
    have s35 := s34.trans s5
    have el5 := (s4.trans s5) _ _ el3
    have lk5 := lk3.tups (Tups.of_same (s4.trans s5))
    have lt : ts.length = (tied ss j (order.take i)).length := by rw [DpAll.len ht, List.length_map]
    refine ⟨_, rfl, !ts.isEmpty, .inl ⟨ts, SqL.of et, rfl⟩, ?_⟩
    cases ts with
    | nil =>
      refine iteF ⟨s35, ⟨kvs, el5, ?_, by omega⟩, _, _, _, rfl⟩
      have e : link1 ss (order.take i) (order.getD i 0) = [] := by
        rw [jo]
        unfold link1
        rw [List.eq_nil_of_length_eq_zero lt.symm]
      rw [linksA_succ, e, List.append_nil]
      exact lk5
    | cons t0 tr =>
      obtain ⟨p0, pr, ep⟩ : ∃ p0 pr, tied ss j (order.take i) = p0 :: pr := by
        cases e : tied ss j (order.take i) with
        | nil =>
          rw [e] at lt
          cases lt
        | cons p0 pr => exact ⟨_, _, rfl⟩
      rw [ep] at ht
      have hd : Dp K H5 t0 (Gd.prD p0) := by
        cases ht with
        | cons a _ => exact a
      refine iteT ?_
      refine ⟨_, rfl, t, _, 0, _, rfl, rfl, SqL.of et, atI_nat (j := 0) rfl, _, rfl, _, rfl, l, _, rfl, DPut.k (k := Sum.inl ((j : Nat) : Int)) el5 (by omega), ?_⟩
      have e : link1 ss (order.take i) (order.getD i 0) = [(j, p0)] := by
        rw [jo]
        unfold link1
        rw [ep]
      have T6 : Tups K H5 (upd H5 l (.dK (putK kvs (Sum.inl ((j : Nat) : Int)) t0))) := tups_dk el5
      have nn := nums1 hi2
      rw [jo] at nn
      refine ⟨own_same nl s35, ⟨_, upd_same, ?_, ?_⟩, _, _, _, rfl⟩
      · rw [linksA_succ, e]
        exact (lk5.put hd nn).tups T6
      · have z := (lk5.put hd nn).len
        have z2 := lk5.len
        rw [List.length_append] at z
        simp only [List.length_cons, List.length_nil] at z
        omega
  · rintro σ H1 ⟨s2, ⟨kvs, el, lk, lz⟩, y5, y6, y7, rfl⟩
    rw [ol] at lk lz
    refine ⟨_, rfl, O, _, rfl, .inr (same_tup s2 hO), _, rfl, S, _, rfl, .inr (same_tup s2 hS), ?_⟩
    rw [ol, lX]
    refine ⟨_, _, rfl, ⟨by omega, by omega, by omega, by omega⟩, ?_⟩
    rw [show (((ss.length : Nat) : Int) - ((order.length : Nat) : Int)).toNat = ss.length - order.length by omega]
    refine for_it walk_range (fun i σ H3 => Same H H3 ∧ (∃ kvs, H3 l = some (.dK kvs) ∧ LkAt K H3 kvs (linksA ss order order.length ++ linksB ss order.length i) ∧ kvs.length ≤ order.length + i) ∧ ∃ y5 y6 y7, σ = [some (.ref AK), some (.ref PL), some (.ref S), some (.ref O), some (.ref l), y5, y6, y7])
      ⟨s2, ⟨kvs, el, by unfold linksB; simpa using lk, lz⟩, _, _, _, rfl⟩ (fun _ _ _ _ _ => trivial) ?_ ?_
    · rintro i x σ H3 H4 hi ⟨s3, ⟨kvs, el, lk, lz⟩, y5, y6, y7, rfl⟩ ⟨rfl, rfl⟩
      have hi : i < ss.length - order.length := hi
      obtain ⟨d, ed, hd⟩ := DpAll.at_ hX (List.getElem?_eq_getElem (show order.length + i < xs.length by omega))
      rw [srcs_at (by omega)] at ed
      cases ed
      have es : (ss.getD (order.length + i) noSrc) ∈ ss := getD_mem' (by omega)
      have pl := p10 _ es
      have lk2 : link2 ss (order.length + i) = match (ss.getD (order.length + i) noSrc).pairs with | [] => [] | p :: _ => [(order.length + i, p)] := rfl
      generalize ss.getD (order.length + i) noSrc = s at hd es pl lk2
      obtain ⟨a, b, ps2, ev, tt, tb, hp⟩ := dp_src hd
      have lp : ps2.length = s.pairs.length := by rw [DpAll.len hp, List.length_map]
      show gName 6 (.int (((order.length : Nat) : Int) + ((i : Nat) : Int))) _ _ _
      rw [show ((order.length : Nat) : Int) + ((i : Nat) : Int) = ((order.length + i : Nat) : Int) by omega]
      refine ⟨_, rfl, _, rfl, S, _, _, _, rfl, rfl, same_tup s3 hS, atI_nat (List.getElem?_eq_getElem (show order.length + i < xs.length by omega)), a, _, 3, _, ev, rfl, same_tup s3 tt, atI_nat (j := 3) rfl, ?_⟩
      refine ⟨_, rfl, !ps2.isEmpty, .inr (.inl ⟨ps2, same_tup s3 tb, rfl⟩), ?_⟩
      have T6 : ∀ ys, Tups K H4 (upd H4 l (.dK ys)) := fun ys => tups_dk el
      cases ps2 with
      | nil =>
        refine iteF ⟨s3, ⟨kvs, el, ?_, by omega⟩, _, _, _, rfl⟩
        rw [linksB_succ, lk2, List.eq_nil_of_length_eq_zero lp.symm, List.append_nil]
        exact lk
      | cons t0 tr =>
        obtain ⟨p0, pr, ep⟩ : ∃ p0 pr, s.pairs = p0 :: pr := by
          cases e : s.pairs with
          | nil =>
            rw [e] at lp
            cases lp
          | cons p0 pr => exact ⟨_, _, rfl⟩
        rw [ep] at hp lk2
        have hd2 : Dp K H t0 (Gd.prD p0) := by
          cases hp with
          | cons a _ => exact a
        have hd3 : Dp K H4 t0 (Gd.prD p0) := Dp.tups (Tups.of_same s3) _ rfl hd2
        refine iteT ?_
        refine ⟨_, rfl, b, _, 0, _, rfl, rfl, same_tup s3 tb, atI_nat (j := 0) rfl, _, rfl, _, rfl, l, _, rfl, DPut.k (k := Sum.inl ((order.length + i : Nat) : Int)) el (by omega), ?_⟩
        have nn : ∀ x ∈ linksA ss order order.length ++ linksB ss order.length i, x.1 ≠ order.length + i := fun x hx e => by
          rcases List.mem_append.mp hx with hx | hx
          · obtain ⟨k, hk, ek⟩ := linksA_nums x hx
            have := olt (order.getD k 0) (getD_mem' hk)
            omega
          · have := (linksB_nums x hx).2
            omega
        have z := (lk.put hd3 nn).len
        have z2 := lk.len
        refine ⟨own_same nl s3, ⟨_, upd_same, ?_, ?_⟩, _, _, _, rfl⟩
        · rw [linksB_succ, lk2, ← List.append_assoc]
          exact (lk.put hd3 nn).tups (T6 _)
        · rw [List.length_append, List.length_append] at z
          rw [List.length_append] at z2
          simp only [List.length_cons, List.length_nil] at z
          omega
    · rintro σ H3 ⟨s3, ⟨kvs, el, lk, lz⟩, y5, y6, y7, rfl⟩
      exact ⟨_, rfl, q l kvs H3 s3 nl el lk⟩
end
end K22
end

section
set_option Elab.async false
set_option linter.all false
set_option maxRecDepth 100000
set_option maxHeartbeats 4000000
namespace K22
open PySem PySem.Spec PyProof.Rows L2 Gd
abbrev sPl : Stmt := topS 2
abbrev nPl : List Str := ["ask", "withs", "plans", "order", "source"]
theorem scPl : FnScope nPl ["ask"] (defScope sPl) := ⟨rfl, rfl, rfl, by decide +kernel, rfl, by decide +kernel, by decide +kernel⟩
def isWi (s : Src) : Bool := decide (s.way = "with")
def anyP (ss : List Src) : Bool := ss.any fun s => !s.pairs.isEmpty
/-- a plan whose order's object is known -/
def PlanZ (K : PySem.W.Frag) (H : Hp) (m : Nat) (v : V) (d : PyData) : Prop := ∃ (t O : Addr) (w : Str) (o : List Nat), v = .ref t ∧ d = pl o w ∧ SqT K H t [.ref O, .str w] ∧ FzT H O (intsV o) ∧ o ∈ Pm.perms m
theorem PlanZ.same {K : PySem.W.Frag} {H H' : Hp} {m : Nat} {v : V} {d : PyData} (h : PlanZ K H m v d) (s : Same H H') : PlanZ K H' m v d := by
  obtain ⟨t, O, w, o, e, f, a, b, c⟩ := h
  exact ⟨t, O, w, o, e, f, same_tup s a, b.same s, c⟩
theorem FzT.lst {H : Hp} {T a : Addr} {ts us xs : List V} (h : FzT H a xs) (e : H T = some (.lst ts)) : FzT (upd H T (.lst us)) a xs := by
  obtain ⟨o, ea, d⟩ := h
  refine ⟨o, ?_, d⟩
  rw [upd_ne (fun z => by rw [z, e] at ea; cases ea)]
  exact ea
theorem PlanZ.lst {K : PySem.W.Frag} {H : Hp} {T : Addr} {ts us : List V} {m : Nat} {v : V} {d : PyData} (h : PlanZ K H m v d) (e : H T = some (.lst ts)) : PlanZ K (upd H T (.lst us)) m v d := by
  obtain ⟨t, O, w, o, ev, f, a, b, c⟩ := h
  exact ⟨t, O, w, o, ev, f, Tups.upd_lst e _ _ a, FzT.lst b e, c⟩
def spPl (K : PySem.W.Frag) : Sp := fun vs H Q _ => ∃ (A : Addr) (ss : List Src) (m : Nat), vs = [.ref A] ∧ AskAt K H A ss ∧ Small ss ∧ Well ss m ∧ (ss.filter isWi).length = m ∧ 1 ≤ m ∧ m ≤ 3 ∧
  ∀ (us : List V) (p : Addr) (H' : Hp), Same H H' → H p = none → H' p = some (.lst us) → DpAll K H' us (plansL m (anyP ss)) → PySem.W.EachIs (PlanZ K H' m) us (plansL m (anyP ss)) → Q (.ref p) H'
/-- an order of permutations -/
theorem perms_ok {m i : Nat} {o : List Nat} (h1 : 1 ≤ m) (h3 : m ≤ 3) (h : (Pm.perms m)[i]? = some o) : o.length = m ∧ o.Nodup ∧ (∀ j ∈ o, j < m) ∧ (∀ j, j < m → ∃ a, a < m ∧ o.getD a 0 = j) ∧ ∀ a, a < m → o.getD a 0 < m := by
  have all : ∀ m, 1 ≤ m → m ≤ 3 → ∀ o ∈ Pm.perms m, o.length = m ∧ o.Nodup ∧ (∀ j ∈ o, j < m) ∧ (∀ j, j < m → ∃ a, a < m ∧ o.getD a 0 = j) ∧ ∀ a, a < m → o.getD a 0 < m := by
    intro m h1 h3
    match m, h1, h3 with
    | 1, _, _ => decide
    | 2, _, _ => decide
    | 3, _, _ => decide
  exact all m h1 h3 o (List.mem_of_getElem? h)
theorem links_emp {ss : List Src} {m : Nat} {o : List Nat} (w : Well ss m) {i : Nat} (h1 : 1 ≤ m) (h3 : m ≤ 3) (h : (Pm.perms m)[i]? = some o) : (linksL ss o).isEmpty = !anyP ss := by
  obtain ⟨a, b, c, d, e⟩ := perms_ok h1 h3 h
  cases q : anyP ss with
  | true =>
    obtain ⟨s, hs, hp⟩ := List.any_eq_true.mp q
    obtain ⟨k, hk⟩ := List.mem_iff_getElem?.mp hs
    have kl := at_lt hk
    have ek : ss.getD k noSrc = s := by rw [List.getD_eq_getElem?_getD, hk] <;> rfl
    have ne : linksL ss o ≠ [] := links_some w a d e kl (by
      rw [ek]
      intro z
      rw [z] at hp
      cases hp)
    cases z : linksL ss o with
    | nil => exact absurd z ne
    | cons _ _ => rfl
  | false =>
    have : linksL ss o = [] := links_none fun s hs => by
      have := List.any_eq_false.mp q s hs
      cases z : s.pairs with
      | nil => rfl
      | cons _ _ => rw [z] at this; exact absurd rfl this
    rw [this]
    rfl
theorem pl_only (o : List Nat) (w : Str) (h : o.length ≤ 1000) : tupOnly (pl o w) = true := by
  have : ∀ o : List Nat, tupOnlyAll (o.map fun k => PyData.int ((k : Nat) : Int)) = true := fun o => by
    induction o with
    | nil => rfl
    | cons k o ih => rw [List.map_cons]; simp only [tupOnlyAll, tupOnly, ih, Bool.and_self]
  simp only [pl, tupOnly, tupOnlyAll, this, Bool.and_true, List.length_cons, List.length_nil, List.length_map, Bool.and_eq_true, decide_eq_true_eq]
  exact ⟨by decide, h⟩
theorem pl_dp {K : PySem.W.Frag} {H : Hp} {t O : Addr} {o : List Nat} {w : Str} (ht : SqT K H t [.ref O, .str w]) (hO : SqT K H O (intsV o)) : Dp K H (.ref t) (pl o w) := by
  refine .tup ht (.cons (.tup hO ?_) (.cons (.str _) .nil))
  have : ∀ o : List Nat, DpAll K H (intsV o) (o.map fun k => PyData.int ((k : Nat) : Int)) := fun o => by
    induction o with
    | nil => exact .nil
    | cons k o ih => exact .cons (.int _) ih
  exact this o
def gen1 (b : Bool) (o : List Nat) : List PyData := if b then [pl o "walked", pl o "kept"] else [pl o "walked"]
theorem gens_only (b : Bool) : ∀ os : List (List Nat), (∀ o ∈ os, o.length ≤ 1000) → tupOnlyAll (os.flatMap (gen1 b)) = true
  | [], _ => rfl
  | o :: os, h => by
    have a := pl_only o "walked" (h o (by simp))
    have c := pl_only o "kept" (h o (by simp))
    have ih := gens_only b os fun o m => h o (by simp [m])
    rw [List.flatMap_cons]
    cases b with
    | true => show tupOnlyAll (pl o "walked" :: pl o "kept" :: os.flatMap (gen1 true)) = true; simp only [tupOnlyAll, a, c, ih, Bool.and_self]
    | false => show tupOnlyAll (pl o "walked" :: os.flatMap (gen1 false)) = true; simp only [tupOnlyAll, a, ih, Bool.and_self]
def gen2 (b : Bool) (o : List Nat) : List PyData := if b then [pl o "kept", pl o "walked"] else [pl o "walked"]
theorem gens2_only (b : Bool) : ∀ os : List (List Nat), (∀ o ∈ os, o.length ≤ 1000) → tupOnlyAll (os.flatMap (gen2 b)) = true
  | [], _ => rfl
  | o :: os, h => by
    have a := pl_only o "walked" (h o (by simp))
    have c := pl_only o "kept" (h o (by simp))
    have ih := gens2_only b os fun o m => h o (by simp [m])
    rw [List.flatMap_cons]
    cases b with
    | true => show tupOnlyAll (pl o "kept" :: pl o "walked" :: os.flatMap (gen2 true)) = true; simp only [tupOnlyAll, a, c, ih, Bool.and_self]
    | false => show tupOnlyAll (pl o "walked" :: os.flatMap (gen2 false)) = true; simp only [tupOnlyAll, a, ih, Bool.and_self]
theorem rg_m (m : Nat) : rgV 0 ((m : Nat) : Int) = (List.range m).map fun k => V.int ((k : Nat) : Int) := by
  unfold rgV
  rw [show (((m : Nat) : Int) - 0).toNat = m by omega]
  exact List.map_congr_left fun i _ => by rw [Int.zero_add]
theorem only_snoc : ∀ {ds : List PyData} {d : PyData}, tupOnlyAll ds = true → tupOnly d = true → tupOnlyAll (ds ++ [d]) = true
  | [], d, _, h => by simp only [List.nil_append, tupOnlyAll, h, Bool.and_true]
  | x :: r, d, a, h => by
    rw [List.cons_append]
    simp only [tupOnlyAll, Bool.and_eq_true] at a ⊢
    exact ⟨a.1, only_snoc a.2 h⟩
theorem gen_deep {m : Nat} {b : Bool} (h1 : 1 ≤ m) (h3 : m ≤ 3) : ∀ d ∈ genL m b, d.depth ≤ 50 := by
  match m, b, h1, h3 with
  | 1, true, _, _ => decide +kernel
  | 1, false, _, _ => decide +kernel
  | 2, true, _, _ => decide +kernel
  | 2, false, _, _ => decide +kernel
  | 3, true, _, _ => decide +kernel
  | 3, false, _, _ => decide +kernel
section
variable {P : Program} {w : World} {K : PySem.W.Frag} {mg : Str → Option Value} {base : Heap} {f fL : Addr} {fd dL : FuncData}
theorem ok_pl (F : Fun K "plans_of" "plans_of" sPl f fd) (mp : mg "permutations" = some (.type "itertools.permutations")) (ml : mg "list" = none) (mr : mg "range" = none) (mn : mg "len" = none) (ms : mg "sorted" = none)
    (FL : Fun K "links_of" "links_of" sLk fL dL) (GL : FnOk P w K mg base CX0 2 fL dL ["ask", "plan"] (spLk K)) (bL : Binds K dL ["ask", "plan"] []) (gL : mg "links_of" = some (.ref fL)) :
    FnOk P w K mg base CX0 3 f fd ["ask"] (spPl K) := by
  refine F.ok scPl (fun vs H Q E h => ?_) (fun cdv A outer s0 H vs Q E hr h => ?_)
  · obtain ⟨A, ss, m, rfl, _⟩ := h
    rfl
  obtain ⟨AK, ss, m, rfl, hK, hs, hw, hm, m1, m3, q⟩ := h
  have nd := scPl.nd
  have zl : sizeLine = 16777216 := rfl
  refine ⟨_, pss_cons (ps_setLc (i := 1) (own := [("source", 4)]) (g := gName 4) rfl nd rfl rfl (by rfl) (pi_tup (pe_ix ix_tup (pv 0) pe_int (fun _ _ => rfl))) (blkOk_by (N := nPl) (sc := defScope sPl) (by decide +kernel)) (fun _ _ _ _ _ => pg_name (i := 4) nd rfl (Or.inl rfl)) (fun _ _ _ _ _ => pts_one (pt_cmpR op_eq (pe_ix (r := rIxT K) ix_tup (pv 4) pe_int (fun _ _ => rfl)) pe_str (nomark _))) (fun _ _ _ _ _ => (pv 4)))
      (pss_cons (ps_set (i := 2) nd rfl (.inl rfl) (pe_lst pa_nil))
      (pss_cons (ps_for PassesOwn.never rfl (Px.pi_pm (by rfl) mp (pa_cons (pe_listRg rfl (by rfl) ml (prg_1 (by rfl) mr (pe_callB call_len_seq (by rfl) mn PySem.boot_len (pa_cons (pv 1) pa_nil)))) pa_nil)) (pg_name (i := 3) nd rfl (.inl rfl))
      (pss_cons (ps_expr (pe_bm PySem.F.plainAttrs_list PySem.F.slot_list_append PySem.F.type_list_append mt_append (pv 2) (pa_cons (pe_tup (pa_cons (pv 3) (pa_cons pe_str pa_nil))) pa_nil)))
      (pss_one (ps_if (pt_truth (pe_call GL hr (by rfl) gL FL.kp bL .nil pass0 (pa_cons (pv 0) (pa_cons (pe_tup (pa_cons (pv 3) (pa_cons pe_str pa_nil))) pa_nil))) (by intro _; rfl))
        (pss_one (ps_expr (pe_bm PySem.F.plainAttrs_list PySem.F.slot_list_append PySem.F.type_list_append mt_append (pv 2) (pa_cons (pe_tup (pa_cons (pv 3) (pa_cons pe_str pa_nil))) pa_nil)))) pss_nil))))
      (pss_one (ps_ret (pe_callB (call_sortedZ hr.units) (by rfl) ms (by decide +kernel) (pa_cons (pv 2) pa_nil)))))), ?_⟩
  have hu := hu_of hr
  obtain ⟨as, xs, S, hA, e0, hS, hX⟩ := id hK
  obtain ⟨s10, p10⟩ := id hs
  have lX : xs.length = ss.length := by rw [DpAll.len hX, List.length_map]
  refine ⟨_, rfl, AK, _, 0, _, rfl, rfl, hA, atI_nat (j := 0) e0, S, rfl, ⟨_, hS⟩, fun W nW => ?_⟩
  refine lc_it walk_tup (fun i H1 => Same H H1 ∧ ∃ acc, H1 W = some (.lst acc) ∧ acc.length = ((ss.take i).filter isWi).length) ⟨new_same nW, _, upd_same, rfl⟩ (fun i H1 _ h => same_tup h.1 hS) ?_ ?_
  · rintro i x H1 H2 hi ⟨s1, acc, eW, la⟩ ⟨rfl, ex⟩
    have hi : i < xs.length := hi
    obtain ⟨d, ed, hd⟩ := DpAll.at_ hX ex
    rw [srcs_at (by omega)] at ed
    cases ed
    have es : ss[i]? = some (ss.getD i noSrc) := by rw [List.getD_eq_getElem?_getD, List.getElem?_eq_getElem (by omega)] <;> rfl
    generalize ss.getD i noSrc = s at hd es
    obtain ⟨a, b, ps, rfl, tt, tb, hp⟩ := dp_src hd
    have tk : ((ss.take (i + 1)).filter isWi).length = ((ss.take i).filter isWi).length + (if isWi s then 1 else 0) := by
      rw [take_at es, List.filter_append, List.length_append]
      cases z : isWi s <;> simp [List.filter, z]
    have lf := List.length_filter_le isWi (ss.take i)
    rw [List.length_take] at lf
    refine ⟨rfl, ?_⟩
    refine ⟨_, rfl, a, _, 0, _, rfl, rfl, same_tup s1 tt, atI_nat (j := 0) rfl, rfl, _, rfl, ?_⟩
    by_cases z : s.way = "with"
    · have zi : isWi s = true := decide_eq_true z
      rw [show decide (V.str s.way = V.str "with") = true from decide_eq_true (congrArg V.str z)]
      refine iteT ?_
      refine ⟨_, rfl, _, eW, by omega, own_same nW s1, _, upd_same, ?_⟩
      rw [tk, zi, List.length_append, la]
      rfl
    · have zi : isWi s = false := decide_eq_false z
      rw [show decide (V.str s.way = V.str "with") = false from decide_eq_false (fun e => z (V.str.inj e))]
      refine iteF ⟨s1, acc, eW, ?_⟩
      rw [tk, zi, la]
      rfl
  rintro H1 ⟨s1, acc, eW, la⟩
  rw [lX, List.take_length, hm] at la
  refine ⟨Nat.zero_le _, fun T nT => ?_⟩
  have s2 := s1.trans (new_same (o := .lst []) nT)
  have nT0 : H T = none := s1.free nT
  have hW2 := new_same (o := .lst []) nT _ _ eW
  have nWT : W ≠ T := ne_of_none eW nT
  have T0 : upd H1 T (.lst []) T = some (.lst []) := upd_same
  generalize upd H1 T (.lst []) = H2 at s2 hW2 T0 ⊢
  refine ⟨_, rfl, W, _, rfl, .inl (SqL.of hW2), ?_⟩
  rw [la]
  refine ⟨_, rfl, ⟨by omega, by omega, by omega, by omega, by omega⟩, fun L nL => ?_⟩
  have s3 := s2.trans (new_same (o := .lst (rgV 0 ((m : Nat) : Int))) nL)
  have T3 := new_same (o := .lst (rgV 0 ((m : Nat) : Int))) nL _ _ T0
  have eL : upd H2 L (.lst (rgV 0 ((m : Nat) : Int))) L = some (.lst ((List.range m).map fun k => V.int ((k : Nat) : Int))) := by
    rw [upd_same, rg_m]
  refine ⟨L, m, rfl, SqL.of eL, m1, m3, ?_⟩
  generalize upd H2 L (.lst (rgV 0 ((m : Nat) : Int))) = H3 at s3 T3
  have lenP : (Pm.perms m).length ≤ 6 := by
    match m, m1, m3 with
    | 1, _, _ => decide
    | 2, _, _ => decide
    | 3, _, _ => decide
  refine for_it Px.walk_pm (fun i σ H4 => Same H H4 ∧ (∃ ts, H4 T = some (.lst ts) ∧ DpAll K H4 ts (((Pm.perms m).take i).flatMap (gen1 (anyP ss))) ∧ ts.length ≤ 2 * i ∧ PySem.W.EachIs (PlanZ K H4 m) ts (((Pm.perms m).take i).flatMap (gen1 (anyP ss)))) ∧ ∃ y3 y4, σ = [some (.ref AK), some (.ref W), some (.ref T), y3, y4])
    ⟨s3, ⟨[], T3, .nil, Nat.le_refl _, .nil⟩, _, _, rfl⟩ (fun _ _ _ _ _ => trivial) ?_ ?_
  · rintro i x σ H4 H5 hi ⟨s4, ⟨ts, eT, ht, lt, hpl⟩, y3, y4, rfl⟩ ⟨O, o, oo, rfl, nO, ood, eo, rfl⟩
    obtain ⟨o1, o2, o3, o4, o5⟩ := perms_ok m1 m3 eo
    have j1 := new_same (o := .frz oo (.tup (intsV o))) nO
    have s5 := s4.trans j1
    have eT5 := j1 _ _ eT
    have fO : FzT (upd H4 O (.frz oo (.tup (intsV o)))) O (intsV o) := ⟨oo, upd_same, ood⟩
    have hO : SqT K (upd H4 O (.frz oo (.tup (intsV o)))) O (intsV o) := fO.seq
    have hpl := hpl.mono fun v d h => PlanZ.same h j1
    have only : tupOnlyAll (((Pm.perms m).take i).flatMap (gen1 (anyP ss))) = true := gens_only _ _ fun o' h' => by
      obtain ⟨k, hk⟩ := List.mem_iff_getElem?.mp (List.mem_of_mem_take h')
      have := (perms_ok m1 m3 hk).1
      omega
    have ht5 := DpAll.tups (Tups.of_same j1) _ only ht
    have tk : ((Pm.perms m).take (i + 1)).flatMap (gen1 (anyP ss)) = ((Pm.perms m).take i).flatMap (gen1 (anyP ss)) ++ gen1 (anyP ss) o := by
      rw [take_at eo, List.flatMap_append]
      simp
    show gName 3 (.ref O) _ (upd H4 O (.frz oo (.tup (intsV o)))) _
    generalize upd H4 O (.frz oo (.tup (intsV o))) = H5 at s5 eT5 fO hO ht5 hpl ⊢
    refine ⟨_, rfl, .inl ⟨rfl, _, SqL.of eT5⟩, _, rfl, (by show 2 ≤ sizeLine; decide), fun t nt => ?_⟩
    have j2 := new_same (o := .tup [.ref O, .str "walked"]) nt
    have eT6 := j2 _ _ eT5
    refine ⟨T, ts, _, rfl, rfl, eT6, by omega, ?_⟩
    have s6 := s5.trans j2
    have hO6 := same_tup j2 hO
    have fO6 := fO.same j2
    have hpl := hpl.mono fun v d h => PlanZ.same h j2
    have ht6 := DpAll.tups (Tups.of_same j2) _ only ht5
    have tt6 : SqT K (upd H5 t (.tup [.ref O, .str "walked"])) t [.ref O, .str "walked"] := SqT.of upd_same
    generalize upd H5 t (.tup [.ref O, .str "walked"]) = H6 at s6 eT6 hO6 fO6 hpl ht6 tt6 ⊢
    have u7 := Tups.upd_lst (K := K) (ys := ts ++ [.ref t]) eT6
    have s7 := own_same (o := .lst (ts ++ [.ref t])) nT0 s6
    have ht7 := DpAll.snoc ht6 (pl_dp tt6 hO6)
    have only7 : tupOnlyAll (((Pm.perms m).take i).flatMap (gen1 (anyP ss)) ++ [pl o "walked"]) = true := only_snoc only (pl_only o _ (by omega))
    have ht7 := DpAll.tups u7 _ only7 ht7
    have hO7 := u7 _ _ hO6
    have fO7 := FzT.lst (us := ts ++ [.ref t]) fO6 eT6
    have hpl7 : PySem.W.EachIs (PlanZ K (upd H6 T (.lst (ts ++ [.ref t]))) m) (ts ++ [V.ref t]) (((Pm.perms m).take i).flatMap (gen1 (anyP ss)) ++ [pl o "walked"]) :=
      each_snoc (hpl.mono fun v d h => PlanZ.lst h eT6) (PlanZ.lst ⟨t, O, _, o, rfl, rfl, tt6, fO6, List.mem_of_getElem? eo⟩ eT6)
    have eT7 : upd H6 T (.lst (ts ++ [.ref t])) T = some (.lst (ts ++ [.ref t])) := upd_same
    generalize upd H6 T (.lst (ts ++ [.ref t])) = H7 at s7 ht7 hO7 fO7 hpl7 eT7 ⊢
    have l7 : (ts ++ [V.ref t]).length = ts.length + 1 := List.length_append ..
    generalize ts ++ [V.ref t] = ts7 at ht7 eT7 l7 hpl7
    -- the links of the plan
    refine ⟨_, rfl, _, rfl, (by show 2 ≤ sizeLine; decide), fun p np => ?_⟩
    have j8 := new_same (o := .tup [.ref O, .str "walked"]) np
    have s8 := s7.trans j8
    have pp8 : SqT K (upd H7 p (.tup [.ref O, .str "walked"])) p [.ref O, .str "walked"] := SqT.of upd_same
    have hO8 := same_tup j8 hO7
    have fO8 := fO7.same j8
    have hpl8 := hpl7.mono fun v d h => PlanZ.same h j8
    have eT8 := j8 _ _ eT7
    have ht8 := DpAll.tups (Tups.of_same j8) _ only7 ht7
    generalize upd H7 p (.tup [.ref O, .str "walked"]) = H8 at s8 pp8 hO8 fO8 hpl8 eT8 ht8 ⊢
    have ol : o.length ≤ ss.length := by
      have := List.length_filter_le isWi ss
      omega
    refine ⟨AK, p, _, O, ss, o, rfl, ⟨as, xs, S, same_tup s8 hA, e0, same_tup s8 hS, DpAll.tups (Tups.of_same s8) _ (srcs_only ss p10) hX⟩, ⟨s10, p10⟩, pp8, rfl, hO8, ol, o2, fun j hj => by rw [o1]; exact o3 j hj, fun l kvs H9 s9 nl el lk => ?_⟩
    have lz := lk.len
    have le := links_emp hw m1 m3 eo
    have ez : kvs.isEmpty = !anyP ss := by
      rw [← le]
      cases kvs with
      | nil => cases q : linksL ss o with
        | nil => rfl
        | cons _ _ => rw [q] at lz; cases lz
      | cons _ _ => cases q : linksL ss o with
        | nil => rw [q] at lz; cases lz
        | cons _ _ => rfl
    have s89 := s8.trans s9
    have eT9 := s9 _ _ eT8
    have ht9 := DpAll.tups (Tups.of_same s9) _ only7 ht8
    have hO9 := same_tup s9 hO8
    have fO9 := fO8.same s9
    have hpl9 := hpl8.mono fun v d h => PlanZ.same h s9
    refine ⟨!kvs.isEmpty, .inr (.inr ⟨kvs, el, rfl⟩), ?_⟩
    rw [ez, Bool.not_not]
    cases z : anyP ss with
    | false =>
      rw [z] at tk ht9 hpl9
      refine iteF ⟨s89, ⟨ts7, eT9, ?_, by omega, ?_⟩, _, _, rfl⟩
      · rw [tk]
        exact ht9
      · rw [tk]
        exact hpl9
    | true =>
      refine iteT ?_
      refine ⟨_, rfl, .inl ⟨rfl, _, SqL.of eT9⟩, _, rfl, (by show 2 ≤ sizeLine; decide), fun r nr => ?_⟩
      have j10 := new_same (o := .tup [.ref O, .str "kept"]) nr
      have eT10 := j10 _ _ eT9
      refine ⟨T, ts7, _, rfl, rfl, eT10, by omega, ?_⟩
      have s10' := s89.trans j10
      have ht10 := DpAll.tups (Tups.of_same j10) _ only7 ht9
      have hO10 := same_tup j10 hO9
      have rr : SqT K (upd H9 r (.tup [.ref O, .str "kept"])) r [.ref O, .str "kept"] := SqT.of upd_same
      have ht11 := DpAll.snoc ht10 (pl_dp rr hO10)
      have only11 := only_snoc only7 (pl_only o "kept" (by omega))
      have u11 := Tups.upd_lst (K := K) (ys := ts7 ++ [.ref r]) eT10
      have hpl12 : PySem.W.EachIs (PlanZ K (upd (upd H9 r (.tup [.ref O, .str "kept"])) T (.lst (ts7 ++ [.ref r]))) m) (ts7 ++ [V.ref r]) (((Pm.perms m).take i).flatMap (gen1 (anyP ss)) ++ [pl o "walked"] ++ [pl o "kept"]) :=
        each_snoc (hpl9.mono fun v d h => PlanZ.lst (h.same j10) eT10) (PlanZ.lst ⟨r, O, _, o, rfl, rfl, rr, fO9.same j10, List.mem_of_getElem? eo⟩ eT10)
      have ht12 := DpAll.tups u11 _ only11 ht11
      rw [z] at tk ht12 hpl12
      rw [List.append_assoc] at ht12 hpl12
      refine ⟨own_same nT0 s10', ⟨ts7 ++ [.ref r], upd_same, ?_, by rw [List.length_append]; show ts7.length + 1 ≤ _; omega, ?_⟩, _, _, rfl⟩
      · rw [tk]
        exact ht12
      · rw [tk]
        exact hpl12
  · rintro σ H4 ⟨s4, ⟨ts, eT, ht, lt, hpl⟩, y3, y4, rfl⟩
    rw [List.take_length] at ht hpl
    refine ⟨_, rfl, T, ts, genL m (anyP ss), PlanZ K H4 m, rfl, SqL.of eT, ht, hpl, al_gen _ _ m1 m3, so_gen _ _, ?_, ?_, fun us p np hu gu => ?_⟩
    · have := DpAll.len ht
      show ((Pm.perms m).flatMap (gen1 (anyP ss))).length ≤ 1000
      omega
    · exact gen_deep m1 m3
    · rw [told_gen _ _ m1 m3] at hu gu
      have j := new_same (o := .lst us) np
      refine q us p _ (s4.trans j) (s4.free np) upd_same (DpAll.tups (Tups.of_same j) _ (gens2_only _ _ fun o' h' => ?_) hu) (gu.mono fun v d h => PlanZ.same h j)
      obtain ⟨k, hk⟩ := List.mem_iff_getElem?.mp h'
      have := (perms_ok m1 m3 hk).1
      omega
end
end K22
end

section
set_option Elab.async false
set_option linter.all false
set_option maxRecDepth 100000
set_option maxHeartbeats 4000000
namespace K22
open PySem PySem.Spec PyProof.Rows L2 Gd
abbrev sNm : Stmt := topS 14
abbrev nNm : List Str := ["_law_pen_here", "_law_many", "_law_letters", "_law_first", "_law_ending", "_law_k"]
theorem scNm : FnScope nNm ["_law_pen_here", "_law_many"] (defScope sNm) := ⟨rfl, rfl, rfl, by decide +kernel, rfl, by decide +kernel, by decide +kernel⟩
def ends5 : List Str := ["", "", "a", "with", "abcdefg"]
def nm (f : Nat) (y : Str) (k : Nat) : Str := (⟨#[97 + (f + 3 * k) % 26]⟩ : Str) ++ y
def nms (f : Nat) (y : Str) : List Str := (List.range 5).map (nm f y)
theorem nms_nodup : ∀ f, f < 26 → ∀ y ∈ ends5, (nms f y).Nodup := by decide +kernel
theorem nm_plain : ∀ k, k < 5 → ∀ f, f < 26 → ∀ y ∈ ends5, ((nm f y k).cps.toList.all fun c => decide (c < 128)) = true ∧ (nm f y k).length ≤ 30 := by decide +kernel
theorem let26 : ∀ n : Nat, n < 26 → atI ("abcdefghijklmnopqrstuvwxyz" : Str).cps.toList ((n : Nat) : Int) = some (97 + n) := by decide +kernel
/-- words that no name is -/
def specials : List Str := ["zzzzzzzz", "yyyyyyyy", "xxa", "xxb", "xxc", "xxd", "xxe", "with", "perhaps", "none", "rows", "number"]
theorem nm_special : ∀ k, k < 5 → ∀ f, f < 26 → ∀ y ∈ ends5, nm f y k ∉ specials := by decide +kernel
def spNm : Sp := fun vs H Q _ => ∃ (l c : Addr) (S : Int), vs = [.ref l, .int 5] ∧ Pen H l c S ∧ S ≤ 90000 ∧
  ∀ (a : Addr) (ns : List Str) (H' : Hp), H a = none → H' a = some (.lst (ns.map V.str)) → ns.length = 5 → ns.Nodup → (∀ n ∈ ns, Szg.Pl n) → (∀ n ∈ ns, n ∉ specials) → Pen H' l c (S + 2) → Ex1 l H H' → Q (.ref a) H'
theorem upto {n : Nat} : Walk (Itr 0 n) n (fun _ => True) (YFn fun i => .int ((i : Nat) : Int)) :=
  walk_range.mono (fun _ _ => trivial) (fun i H x H' _ _ y => ⟨y.1, y.2.trans (by show V.int (0 + ((i : Nat) : Int)) = V.int ((i : Nat) : Int); rw [Int.zero_add])⟩)
theorem free_ex1 {l q : Addr} {H H' : Hp} (x : Ex1 l H H') (n : q ≠ l) (h : H' q = none) : H q = none := by
  cases e : H q with
  | none => rfl
  | some o =>
    have := x q o n e
    rw [h] at this
    cases this
theorem ex1_same {l : Addr} {H H' : Hp} (s : Same H H') : Ex1 l H H' := fun a o _ e => s a o e
section
variable {P : Program} {w : World} {K : PySem.W.Frag} {mg : Str → Option Value} {base : Heap} {f fT : Addr} {fd dT : FuncData}
theorem ok_nm (F : Fun K "_law_names" "_law_names" sNm f fd) (mr : mg "range" = none) (FT : Fun K "_law_take" "_law_take" sDraw fT dT) (G : FnOk P w K mg base CX0 1 fT dT ["_law_pen_here", "_law_many"] spDraw) (bT : Binds K dT ["_law_pen_here", "_law_many"] []) (gT : mg "_law_take" = some (.ref fT)) :
    FnOk P w K mg base CX0 2 f fd ["_law_pen_here", "_law_many"] spNm := by
  refine F.ok scNm (fun vs H Q E h => ?_) (fun cdv A outer s H vs Q E hr h => ?_)
  · obtain ⟨l, c, S, rfl, _⟩ := h
    rfl
  obtain ⟨l, c, S, rfl, hP, hS, q⟩ := h
  have nd := scNm.nd
  have zl : sizeLine = 16777216 := rfl
  refine ⟨_, pss_cons (ps_set (i := 2) nd rfl (by first | exact .inl rfl | exact .inr rfl) pe_str)
    (pss_cons (ps_set (i := 3) nd rfl (by first | exact .inl rfl | exact .inr rfl) (pe_call G hr (by rfl) gT FT.kp bT .nil pass0 (pa_cons (pv 0) (pa_cons pe_int pa_nil))))
    (pss_cons (ps_set (i := 4) nd rfl (by first | exact .inl rfl | exact .inr rfl) (pe_ix ix_list (pe_lst (pa_cons pe_str (pa_cons pe_str (pa_cons pe_str (pa_cons pe_str (pa_cons pe_str pa_nil)))))) (pe_call G hr (by rfl) gT FT.kp bT .nil pass0 (pa_cons (pv 0) (pa_cons pe_int pa_nil))) (fun _ _ => rfl)))
    (pss_one (ps_ret (pe_lc (own := [("_law_k", 5)]) (g := gName 5) (tt := tYes) rfl nd (pi_range1 (by rfl) mr (pa_cons (pv 1) pa_nil)) (blkOk_by (N := nNm) (sc := defScope sNm) (by decide +kernel)) (fun _ _ _ _ _ => pg_name (i := 5) nd rfl (Or.inl rfl)) (fun _ _ _ _ _ => pts_nil)
      (fun _ _ _ _ _ => pe_op op_add_str (pe_ix ix_str (pv 2) (pe_op op_modN (pe_op op_add (pv 3) (pe_op op_mul pe_int (pv 5))) pe_int) (fun _ _ => rfl)) (pv 4)))))))
  , ?_⟩
  refine ⟨_, rfl, l, c, 26, S, rfl, hP, by decide, by decide, by omega, fun r1 H1 r10 r11 p1 x1 => ?_⟩
  refine ⟨(by show 5 ≤ sizeLine; decide), fun b nb => ?_⟩
  have p2 := p1.same (new_same (o := .lst [.str "", .str "", .str "a", .str "with", .str "abcdefg"]) nb)
  refine ⟨_, rfl, l, c, 5, _, rfl, p2, by decide, by decide, by omega, fun r3 H3 r30 r31 p3 x3 => ?_⟩
  obtain ⟨y, hy, ey⟩ := at_list (f := V.str) (xs := ["", "", "a", "with", "abcdefg"]) r30 (by simpa using r31)
  have ly : y.length ≤ 7 := by
    simp only [List.mem_cons, List.not_mem_nil, or_false] at hy
    rcases hy with rfl | rfl | rfl | rfl | rfl <;> decide +kernel
  refine ⟨b, _, _, .str y, rfl, rfl, SqL.of (x3 _ _ (p1.not nb).1 upd_same), ey, ?_⟩
  have x13 : Ex1 l H H3 := (x1.trans (Ex1.new nb)).trans x3
  refine ⟨_, rfl, _, rfl, by omega, by omega, fun D nD => ?_⟩
  have nDl := (p3.not nD).1
  have nD0 : H D = none := free_ex1 x13 nDl nD
  refine lc_it upto (fun j H5 => Same H3 H5 ∧ H5 D = some (.lst (((List.range j).map (nm r1.toNat y)).map V.str))) ⟨new_same nD, upd_same⟩ (fun _ _ _ _ => trivial) ?_ ?_
  · rintro j x H5 H6 hj ⟨s5, et⟩ ⟨rfl, rfl⟩
    obtain ⟨u0, u1⟩ := fmod_in (r1 + 3 * ((j : Nat) : Int)) (b := 26) (by omega)
    have em : (r1 + 3 * ((j : Nat) : Int)).fmod 26 = (((r1.toNat + 3 * j) % 26 : Nat) : Int) := by
      rw [Int.fmod_eq_emod_of_nonneg _ (by omega)]
      omega
    have ech := let26 ((r1.toNat + 3 * j) % 26) (Nat.mod_lt _ (by decide))
    rw [← em] at ech
    refine ⟨rfl, ?_⟩
    refine ⟨_, rfl, _, rfl, _, rfl, _, _, rfl, rfl, .inl ⟨by decide, by decide⟩, _, _, rfl, rfl, _, _, rfl, rfl, by omega, _, _, _, rfl, rfl, by decide +kernel, ech, ?_⟩
    refine ⟨_, rfl, _, _, rfl, rfl, (by show 1 + y.length ≤ sizeLine; omega), ?_⟩
    refine ⟨_, et, by rw [List.length_map, List.length_map, List.length_range]; omega, own_same nD s5, ?_⟩
    rw [upd_same, List.range_succ, List.map_append, List.map_append]
    rfl
  rintro H5 ⟨s5, et⟩
  refine q D (nms r1.toNat y) H5 nD0 et rfl (nms_nodup _ (by omega) _ hy) (fun n hn => ?_) (fun n hn => ?_) ((p3.same s5).le (by omega)) (x13.trans (ex1_same s5))
  rotate_left
  · obtain ⟨k, hk, rfl⟩ := List.mem_map.mp hn
    exact nm_special k (List.mem_range.mp hk) r1.toNat (by omega) y hy
  obtain ⟨k, hk, rfl⟩ := List.mem_map.mp hn
  obtain ⟨a1, a2⟩ := nm_plain k (List.mem_range.mp hk) r1.toNat (by omega) y hy
  exact ⟨fun c hc => of_decide_eq_true (List.all_eq_true.mp a1 c hc), a2⟩
end
end K22
end

section
set_option Elab.async false
set_option linter.all false
set_option maxRecDepth 100000
set_option maxHeartbeats 4000000
namespace K22
open PySem PySem.Spec PyProof.Rows L2 Gd
abbrev sSc : Stmt := topS 15
abbrev nSc : List Str := ["_law_pen_here", "_law_names_here", "_law_many", "_law_tables", "_law_found", "_law_k", "_law_pairs", "_law_turn", "_law_ends", "_law_way"]
theorem scSc : FnScope nSc ["_law_pen_here", "_law_names_here"] (defScope sSc) := ⟨rfl, rfl, rfl, by decide +kernel, rfl, by decide +kernel, by decide +kernel⟩
/-- one of the names -/
def PN (ns : List Str) (s : Str) : Prop := Szg.Pl s ∧ s ∈ ns
/-- a pair of the i-th source -/
def PrOk (ns : List Str) (m i : Nat) (p : Pr) : Prop := PN ns p.c ∧ PN ns p.o ∧ PN ns p.d ∧ ∃ j, j < i ∧ j < m ∧ p.o = ns.getD j ""
structure SrcOk (ns : List Str) (m i : Nat) (s : Src) : Prop where
  al : s.nick = ns.getD i ""
  way : isWi s = decide (i < m)
  two : s.pairs.length ≤ 2
  prs : ∀ p ∈ s.pairs, PrOk ns m i p
  w : s.way ∈ (["with", "perhaps", "none"] : List Str)
  t : PN ns s.table
def SrcsOk (ns : List Str) (m : Nat) (ss : List Src) : Prop := ∀ i s, ss[i]? = some s → SrcOk ns m i s
theorem SrcsOk.snoc {ns : List Str} {m : Nat} {ss : List Src} {s : Src} (h : SrcsOk ns m ss) (a : SrcOk ns m ss.length s) : SrcsOk ns m (ss ++ [s]) := by
  intro i t e
  by_cases z : i < ss.length
  · rw [List.getElem?_append_left z] at e
    exact h i t e
  · rw [List.getElem?_append_right (by omega)] at e
    have := at_lt e
    have e0 : i - ss.length = 0 := by simpa using this
    rw [e0] at e
    cases e
    rw [show i = ss.length by omega]
    exact a
/-- what the sources are, all in all -/
structure Drawn (ss : List Src) (m : Nat) : Prop where
  well : Well ss m
  withs : (ss.filter isWi).length = m
  m1 : 1 ≤ m
  m3 : m ≤ 3
  five : ss.length ≤ 5
  small : ∀ s ∈ ss, s.pairs.length ≤ 2 ∧ Szg.Pl s.way ∧ Szg.Pl s.nick ∧ Szg.Pl s.table ∧ ∀ p ∈ s.pairs, Szg.Pl p.c ∧ Szg.Pl p.o ∧ Szg.Pl p.d
theorem withs_len {ns : List Str} {m : Nat} : ∀ (ss : List Src), SrcsOk ns m ss → (ss.filter isWi).length = min ss.length m := by
  intro ss h
  have key : ∀ (k : Nat), k ≤ ss.length → ((ss.take k).filter isWi).length = min k m := fun k => by
    induction k with
    | zero => intro _; simp
    | succ k ih =>
      intro hk
      have e : ss[k]? = some (ss.getD k noSrc) := by rw [List.getD_eq_getElem?_getD, List.getElem?_eq_getElem (by omega)] <;> rfl
      have o := (h k _ e).way
      rw [take_at e, List.filter_append, List.length_append, ih (by omega)]
      by_cases z : k < m
      · rw [decide_eq_true z] at o
        rw [List.filter_cons, o]
        show min k m + 1 = _
        omega
      · rw [decide_eq_false z] at o
        rw [List.filter_cons, o]
        show min k m + 0 = _
        omega
  have := key ss.length (Nat.le_refl _)
  rw [List.take_length] at this
  exact this
theorem way_pl {s : Str} (h : s ∈ (["with", "perhaps", "none"] : List Str)) : Szg.Pl s := by
  simp only [List.mem_cons, List.not_mem_nil, or_false] at h
  rcases h with rfl | rfl | rfl <;> (unfold Szg.Pl; decide +kernel)
/-- what the sources are called -/
def InNs (ns : List Str) (ss : List Src) : Prop := ∀ s ∈ ss, s.way ∈ (["with", "perhaps", "none"] : List Str) ∧ s.nick ∈ ns ∧ s.table ∈ ns ∧ ∀ p ∈ s.pairs, p.c ∈ ns ∧ p.o ∈ ns ∧ p.d ∈ ns
theorem inns_of {ns : List Str} {m : Nat} {ss : List Src} (h : SrcsOk ns m ss) (n5 : ns.length = 5) (l5 : ss.length ≤ 5) : InNs ns ss := fun s hs => by
  obtain ⟨k, e⟩ := List.mem_iff_getElem?.mp hs
  have o := h k s e
  have hk := at_lt e
  refine ⟨o.w, ?_, o.t.2, fun p hp => ⟨(o.prs p hp).1.2, (o.prs p hp).2.1.2, (o.prs p hp).2.2.1.2⟩⟩
  rw [o.al]
  exact getD_mem' (by omega)
theorem drawn_of {ns : List Str} {m : Nat} {ss : List Src} (h : SrcsOk ns m ss) (nn : ns.Nodup) (n5 : ns.length = 5) (pn : ∀ n ∈ ns, Szg.Pl n) (m1 : 1 ≤ m) (m3 : m ≤ 3) (l1 : m ≤ ss.length) (l5 : ss.length ≤ 5) : Drawn ss m := by
  have at_ : ∀ k, k < ss.length → ss[k]? = some (ss.getD k noSrc) := fun k hk => by rw [List.getD_eq_getElem?_getD, List.getElem?_eq_getElem hk] <;> rfl
  have al : ∀ k, k < ss.length → aliasAt ss k = ns.getD k "" := fun k hk => (h k _ (at_ k hk)).al
  refine ⟨⟨l1, fun i j hi hj e => ?_, fun k hk p hp => ?_⟩, ?_, m1, m3, l5, fun s hs => ?_⟩
  · rw [al i hi, al j hj, List.getD_eq_getElem?_getD, List.getD_eq_getElem?_getD, List.getElem?_eq_getElem (by omega), List.getElem?_eq_getElem (by omega)] at e
    have a : ns[i]? = some ns[i] := List.getElem?_eq_getElem (by omega)
    have b : ns[j]? = some ns[j] := List.getElem?_eq_getElem (by omega)
    have e : ns[i] = ns[j] := e
    exact (List.getElem?_inj (by omega) nn).mp (a.trans ((congrArg some e).trans b.symm))
  · obtain ⟨_, _, _, j, j1, j2, j3⟩ := (h k _ (at_ k hk)).prs p hp
    exact ⟨j, j1, j2, by rw [al j (by omega)]; exact j3⟩
  · rw [withs_len ss h]
    omega
  · obtain ⟨k, e⟩ := List.mem_iff_getElem?.mp hs
    have o := h k s e
    have hk := at_lt e
    refine ⟨o.two, way_pl o.w, ?_, o.t.1, fun p hp => ⟨(o.prs p hp).1.1, (o.prs p hp).2.1.1, (o.prs p hp).2.2.1.1⟩⟩
    rw [o.al]
    exact pn _ (getD_mem' (by omega))
def spSc (K : PySem.W.Frag) : Sp := fun vs H Q _ => ∃ (l c a : Addr) (S : Int) (ns : List Str), vs = [.ref l, .ref a] ∧ Pen H l c S ∧ S ≤ 80000 ∧ H a = some (.lst (ns.map V.str)) ∧ a ≠ l ∧ ns.length = 5 ∧ ns.Nodup ∧ (∀ n ∈ ns, Szg.Pl n) ∧
  ∀ (T : Addr) (us : List V) (ss : List Src) (m : Nat) (H' : Hp), SqT K H' T us → DpAll K H' us (ss.map srcD) → Drawn ss m → InNs ns ss → Pen H' l c (S + 60) → Ex1 l H H' → Q (.ref T) H'
theorem own_ex1 {l q : Addr} {H H1 : Hp} {o : HO} (n : H q = none) (x : Ex1 l H H1) : Ex1 l H (upd H1 q o) := fun a u ne e => by
  rw [upd_ne (ne_of_none e n)]
  exact x a u ne e
theorem str_at {ns : List Str} {r : Int} (h0 : 0 ≤ r) (h1 : r < ns.length) : atI (ns.map V.str) r = some (.str (ns.getD r.toNat "")) := by
  have h2 : r.toNat < ns.length := by omega
  have e : ((r.toNat : Nat) : Int) = r := by omega
  have z : atI (ns.map V.str) ((r.toNat : Nat) : Int) = some (.str (ns.getD r.toNat "")) := atI_nat (by
    rw [List.getElem?_map, List.getElem?_eq_getElem h2, List.getD_eq_getElem?_getD, List.getElem?_eq_getElem h2] <;> rfl)
  rw [e] at z
  exact z
theorem npac {l c q : Addr} {S : Int} {H : Hp} (p : Pen H l c S) (n : H q = none) : q ≠ c := (p.not n).2
section
variable {P : Program} {w : World} {K : PySem.W.Frag} {mg : Str → Option Value} {base : Heap} {f fT : Addr} {fd dT : FuncData}
theorem ok_sc (F : Fun K "_law_sources" "_law_sources" sSc f fd) (mr : mg "range" = none) (mn : mg "len" = none) (mm : mg "min" = none) (mi : mg "int" = none) (mt : mg "tuple" = none)
    (FT : Fun K "_law_take" "_law_take" sDraw fT dT) (G : FnOk P w K mg base CX0 1 fT dT ["_law_pen_here", "_law_many"] spDraw) (bT : Binds K dT ["_law_pen_here", "_law_many"] []) (gT : mg "_law_take" = some (.ref fT)) :
    FnOk P w K mg base CX0 2 f fd ["_law_pen_here", "_law_names_here"] (spSc K) := by
  refine F.ok scSc (fun vs H Q E h => ?_) (fun cdv A outer s0 H vs Q E hr h => ?_)
  · obtain ⟨l, c, a, S, ns, rfl, _⟩ := h
    rfl
  obtain ⟨l, c, a, S, ns, rfl, hP, hS, ea, nal, n5, nn, pn, q⟩ := h
  have nd := scSc.nd
  have zl : sizeLine = 16777216 := rfl
  refine ⟨_, pss_cons (ps_set (i := 2) nd rfl (.inl rfl) (pe_op op_add pe_int (pe_call G hr (by rfl) gT FT.kp bT .nil pass0 (pa_cons (pv 0) (pa_cons pe_int pa_nil)))))
      (pss_cons (ps_set (i := 3) nd rfl (.inl rfl) (pe_slice sl_list (Gd.pe_revL (pv 1)) po_none (po_some (pe_op op_add pe_int (pe_call G hr (by rfl) gT FT.kp bT .nil pass0 (pa_cons (pv 0) (pa_cons pe_int pa_nil)))))))
      (pss_cons (ps_set (i := 4) nd rfl (.inl rfl) (pe_lst pa_nil))
      (pss_cons (ps_for PassesOwn.never rfl (pi_range1 (by rfl) mr (pa_cons (pe_op op_add (pv 2) (pe_call G hr (by rfl) gT FT.kp bT .nil pass0 (pa_cons (pv 0) (pa_cons pe_int pa_nil)))) pa_nil)) (pg_name (i := 5) nd rfl (.inl rfl))
      (pss_cons (ps_set (i := 6) nd rfl (.inl rfl) (pe_lst pa_nil))
      (pss_cons (ps_for PassesOwn.never rfl (pi_range1 (by rfl) mr (pa_cons (pe_op op_mul (pe_ix ix_list (pe_lst (pa_cons pe_int (pa_cons pe_int (pa_cons pe_int (pa_cons pe_int pa_nil))))) (pe_call G hr (by rfl) gT FT.kp bT .nil pass0 (pa_cons (pv 0) (pa_cons pe_int pa_nil))) (fun _ _ => rfl)) (pe_callTy call_int1 (by rfl) mi (by decide +kernel) (pa_cons (pe_cmpR op_gt (pv 5) pe_int (nomark _)) pa_nil))) pa_nil)) (pg_name (i := 7) nd rfl (.inl rfl))
      (pss_cons (ps_set (i := 8) nd rfl (.inl rfl) (pe_tup (pa_cons (pe_ix ix_list (pv 1) (pe_call G hr (by rfl) gT FT.kp bT .nil pass0 (pa_cons (pv 0) (pa_cons pe_int pa_nil))) (fun _ _ => rfl)) (pa_cons (pe_ix ix_list (pv 1) (pe_call G hr (by rfl) gT FT.kp bT .nil pass0 (pa_cons (pv 0) (pa_cons (pe_callB (call_min2 rfl) (by rfl) mm (by decide +kernel) (pa_cons (pv 5) (pa_cons (pv 2) pa_nil))) pa_nil))) (fun _ _ => rfl)) (pa_cons (pe_ix ix_list (pv 1) (pe_call G hr (by rfl) gT FT.kp bT .nil pass0 (pa_cons (pv 0) (pa_cons pe_int pa_nil))) (fun _ _ => rfl)) pa_nil)))))
      (pss_one (ps_expr (pe_bm PySem.F.plainAttrs_list PySem.F.slot_list_append PySem.F.type_list_append mt_append (pv 6) (pa_cons (pv 8) pa_nil))))))
      (pss_cons (ps_set (i := 9) nd rfl (.inl rfl) (pe_ix ix_list (pe_lst (pa_cons pe_str (pa_cons (pe_ix ix_list (pe_lst (pa_cons pe_str (pa_cons pe_str pa_nil))) (pe_call G hr (by rfl) gT FT.kp bT .nil pass0 (pa_cons (pv 0) (pa_cons pe_int pa_nil))) (fun _ _ => rfl)) pa_nil))) (pe_callTy call_int1 (by rfl) mi (by decide +kernel) (pa_cons (pe_cmpR op_ge (pv 5) (pv 2) (nomark _)) pa_nil)) (fun _ _ => rfl)))
      (pss_one (ps_expr (pe_bm PySem.F.plainAttrs_list PySem.F.slot_list_append PySem.F.type_list_append mt_append (pv 4) (pa_cons (pe_tup (pa_cons (pv 9) (pa_cons (pe_ix ix_list (pv 1) (pv 5) (fun _ _ => rfl)) (pa_cons (pe_ix ix_list (pv 3) (pe_call G hr (by rfl) gT FT.kp bT .nil pass0 (pa_cons (pv 0) (pa_cons (pe_callB call_len_seq (by rfl) mn PySem.boot_len (pa_cons (pv 3) pa_nil)) pa_nil))) (fun _ _ => rfl)) (pa_cons (pe_tupleOf (by rfl) mt (pv 6)) pa_nil))))) pa_nil))))))))
      (pss_one (ps_ret (pe_tupleOf (by rfl) mt (pv 4))))))), ?_⟩
  have la : (ns.map V.str).length = 5 := by rw [List.length_map, n5]
  refine ⟨_, rfl, l, c, 3, S, rfl, hP, by decide, by decide, by omega, fun r0 H0 a0 b0 p0 x0 => ?_⟩
  obtain ⟨k0, rfl⟩ : ∃ k : Nat, r0 = ((k : Nat) : Int) := ⟨r0.toNat, by omega⟩
  refine ⟨_, _, rfl, rfl, ?_⟩
  show gName 2 (.int (1 + ((k0 : Nat) : Int))) _ _ _
  rw [show (1 : Int) + ((k0 : Nat) : Int) = ((k0 + 1 : Nat) : Int) by omega]
  obtain ⟨m, hm⟩ : ∃ m, m = k0 + 1 := ⟨_, rfl⟩
  rw [← hm]
  have m1 : 1 ≤ m := by omega
  have m3 : m ≤ 3 := by omega
  refine ⟨_, rfl, a, _, rfl, SqL.of (x0 _ _ nal ea), fun b nb _ => ?_⟩
  have eb : upd H0 b (.lst (ns.map V.str).reverse) b = some (.lst (ns.map V.str).reverse) := upd_same
  have nbl := (p0.not nb).1
  have p1 := p0.same (new_same (o := .lst (ns.map V.str).reverse) nb)
  have x1 := x0.trans (Ex1.new (o := .lst (ns.map V.str).reverse) nb)
  generalize upd H0 b (.lst (ns.map V.str).reverse) = H1 at eb p1 x1 ⊢
  refine ⟨_, rfl, l, c, 3, _, rfl, p1, by decide, by decide, by omega, fun r2 H2 a2 b2 p2 x2 => ?_⟩
  obtain ⟨k2, rfl⟩ : ∃ k : Nat, r2 = ((k : Nat) : Int) := ⟨r2.toNat, by omega⟩
  refine ⟨_, _, rfl, rfl, _, rfl, b, _, rfl, SqL.of (x2 _ _ nbl eb), fun tb ntb => ?_⟩
  have ecut : cutV (ns.map V.str).reverse none (some (1 + ((k2 : Nat) : Int))) = ((ns.reverse.take (k2 + 1)).map V.str) := by
    rw [show (1 : Int) + ((k2 : Nat) : Int) = ((k2 + 1 : Nat) : Int) by omega, cutV_to (by rw [List.length_reverse, la]; omega), ← List.map_reverse, ← List.map_take]
  rw [ecut]
  have lt : (ns.reverse.take (k2 + 1)).length = k2 + 1 := by rw [List.length_take, List.length_reverse, n5]; omega
  have pt_ : ∀ n ∈ ns.reverse.take (k2 + 1), PN ns n := fun n hn => ⟨pn n (List.mem_reverse.mp (List.mem_of_mem_take hn)), List.mem_reverse.mp (List.mem_of_mem_take hn)⟩
  generalize ns.reverse.take (k2 + 1) = tbs at lt pt_ ⊢
  have et : upd H2 tb (.lst (tbs.map V.str)) tb = some (.lst (tbs.map V.str)) := upd_same
  have ntbl := (p2.not ntb).1
  have p3 := p2.same (new_same (o := .lst (tbs.map V.str)) ntb)
  have x3 := (x1.trans x2).trans (Ex1.new (o := .lst (tbs.map V.str)) ntb)
  generalize upd H2 tb (.lst (tbs.map V.str)) = H3 at et p3 x3 ⊢
  refine ⟨Nat.zero_le _, fun fo nfo => ?_⟩
  have nfol := (p3.not nfo).1
  have nfo0 := free_ex1 x3 nfol nfo
  have ntf : tb ≠ fo := ne_of_none et nfo
  have naf : a ≠ fo := ne_of_none ea nfo0
  have p4 := p3.same (new_same (o := .lst []) nfo)
  have x4 := x3.trans (Ex1.new (o := .lst []) nfo)
  have et4 := new_same (o := .lst []) nfo _ _ et
  have ef4 : upd H3 fo (.lst []) fo = some (.lst []) := upd_same
  generalize upd H3 fo (.lst []) = H4 at p4 x4 et4 ef4 ⊢
  refine ⟨_, rfl, _, rfl, l, c, 3, _, rfl, p4, by decide, by decide, by omega, fun r5 H5 a5 b5 p5 x5 => ?_⟩
  obtain ⟨k5, rfl⟩ : ∃ k : Nat, r5 = ((k : Nat) : Int) := ⟨r5.toNat, by omega⟩
  refine ⟨_, _, rfl, rfl, _, rfl, by omega, by omega, ?_⟩
  rw [show (((m : Nat) : Int) + ((k5 : Nat) : Int)).toNat = m + k5 by omega]
  refine for_it upto (fun k σ H6 => Ex1 l H H6 ∧ Pen H6 l c (S + 3 + 9 * ((k : Nat) : Int)) ∧ H6 tb = some (.lst (tbs.map V.str)) ∧ (∃ us ss, H6 fo = some (.lst us) ∧ DpAll K H6 us (ss.map srcD) ∧ ss.length = k ∧ SrcsOk ns m ss) ∧ ∃ y5 y6 y7 y8 y9, σ = [some (.ref l), some (.ref a), some (.int (m : Nat)), some (.ref tb), some (.ref fo), y5, y6, y7, y8, y9])
    ⟨x4.trans x5, p5.le (by omega), x5 _ _ ntbl et4, ⟨[], [], x5 _ _ nfol ef4, .nil, rfl, fun i s e => by cases e⟩, _, _, _, _, _, rfl⟩ (fun _ _ _ _ _ => trivial) ?_ ?_
  · rintro k x σ H6 H7 hk ⟨x6, p6, et6, ⟨us, ss, ef, hd, ls, so⟩, y5, y6, y7, y8, y9, rfl⟩ ⟨rfl, rfl⟩
    refine ⟨Nat.zero_le _, fun pa npa => ?_⟩
    have npal := (p6.not npa).1
    have p8 := p6.same (new_same (o := .lst []) npa)
    have x8 := Ex1.new (p := l) (o := .lst []) npa
    have ep8 : upd H7 pa (.lst []) pa = some (.lst []) := upd_same
    generalize upd H7 pa (.lst []) = H8 at p8 x8 ep8 ⊢
    refine ⟨(by show 4 ≤ sizeLine; decide), fun f4 nf4 => ?_⟩
    have p9 := p8.same (new_same (o := .lst [.int 0, .int 1, .int 1, .int 2]) nf4)
    have x9 := x8.trans (Ex1.new (o := .lst [.int 0, .int 1, .int 1, .int 2]) nf4)
    have ep9 := new_same (o := .lst [.int 0, .int 1, .int 1, .int 2]) nf4 _ _ ep8
    have e49 : upd H8 f4 (.lst [.int 0, .int 1, .int 1, .int 2]) f4 = some (.lst [.int 0, .int 1, .int 1, .int 2]) := upd_same
    have n4l := (p8.not nf4).1
    generalize upd H8 f4 (.lst [.int 0, .int 1, .int 1, .int 2]) = H9 at p9 x9 ep9 e49 ⊢
    refine ⟨_, rfl, l, c, 4, _, rfl, p9, by decide, by decide, by omega, fun r10 H10 a10 b10 p10 x10 => ?_⟩
    obtain ⟨z, hz, ez⟩ := at_list (f := V.int) (xs := [0, 1, 1, 2]) a10 (by simpa using b10)
    have z0 : 0 ≤ z ∧ z ≤ 2 := by
      simp only [List.mem_cons, List.not_mem_nil, or_false] at hz
      omega
    refine ⟨f4, _, _, .int z, rfl, rfl, SqL.of (x10 _ _ n4l e49), ez, ?_⟩
    refine ⟨_, rfl, _, _, rfl, rfl, .inr ⟨_, rfl, ?_⟩⟩
    have x11 := x9.trans x10
    have ep11 := x10 _ _ npal ep9
    obtain ⟨t, ht⟩ : ∃ t : Nat, z * (if decide ((0 : Int) < ((k : Nat) : Int)) = true then 1 else 0) = ((t : Nat) : Int) := by
      by_cases q0 : (0 : Int) < ((k : Nat) : Int)
      · rw [decide_eq_true q0, if_pos rfl]
        exact ⟨z.toNat, by omega⟩
      · rw [decide_eq_false q0]
        exact ⟨0, by simp⟩
    have t2 : t ≤ 2 ∧ (0 < t → 0 < k) := by
      by_cases q0 : (0 : Int) < ((k : Nat) : Int)
      · rw [decide_eq_true q0, if_pos rfl] at ht
        exact ⟨by omega, fun _ => by omega⟩
      · rw [decide_eq_false q0] at ht
        have : ((t : Nat) : Int) = 0 := by rw [← ht]; simp
        exact ⟨by omega, fun h => by omega⟩
    refine ⟨_, _, rfl, rfl, .inl ⟨by omega, by omega⟩, ?_⟩
    refine ⟨((t : Nat) : Int), congrArg (fun i => [V.int i]) ht, by omega, by omega, ?_⟩
    rw [Int.toNat_natCast]
    generalize H10 = H11 at p10 x11 ep11 ⊢
    refine for_it upto (fun j σ H12 => Ex1 l H7 H12 ∧ Pen H12 l c (S + 4 + 9 * ((k : Nat) : Int) + 3 * ((j : Nat) : Int)) ∧ (∃ vs ps, H12 pa = some (.lst vs) ∧ DpAll K H12 vs (ps.map Gd.prD) ∧ ps.length = j ∧ ∀ p ∈ ps, PrOk ns m k p) ∧ ∃ y7 y8 y9, σ = [some (.ref l), some (.ref a), some (.int (m : Nat)), some (.ref tb), some (.ref fo), some (.int (k : Nat)), some (.ref pa), y7, y8, y9])
      ⟨x11, p10.le (by omega), ⟨[], [], ep11, .nil, rfl, fun p h => nomatch h⟩, _, _, _, rfl⟩ (fun _ _ _ _ _ => trivial) ?_ ?_
    · rintro j x σ H12 H13 hj ⟨x12, p12, ⟨vs, ps, ep, hp, lp, hps⟩, y7, y8, y9, rfl⟩ ⟨rfl, rfl⟩
      have k0' : 0 < k := t2.2 (by omega)
      have ea12 := (x6.trans x12) _ _ nal ea
      refine ⟨_, rfl, _, rfl, l, c, 3, _, rfl, p12, by decide, by decide, by omega, fun r14 H14 a14 b14 p14 x14 => ?_⟩
      refine ⟨a, _, _, _, rfl, rfl, SqL.of (x14 _ _ nal ea12), str_at a14 (by omega), ?_⟩
      have mn1 : (0 : Int) < (if ((m : Nat) : Int) < ((k : Nat) : Int) then ((m : Nat) : Int) else ((k : Nat) : Int)) ∧ (if ((m : Nat) : Int) < ((k : Nat) : Int) then ((m : Nat) : Int) else ((k : Nat) : Int)) ≤ m ∧ (if ((m : Nat) : Int) < ((k : Nat) : Int) then ((m : Nat) : Int) else ((k : Nat) : Int)) ≤ k := by
        split <;> omega
      refine ⟨_, rfl, _, rfl, _, rfl, _, rfl, _, _, rfl, l, c, _, _, rfl, p14, mn1.1, by omega, by omega, fun r15 H15 a15 b15 p15 x15 => ?_⟩
      refine ⟨a, _, _, _, rfl, rfl, SqL.of (x15 _ _ nal (x14 _ _ nal ea12)), str_at a15 (by omega), ?_⟩
      refine ⟨_, rfl, _, rfl, l, c, 3, _, rfl, p15, by decide, by decide, by omega, fun r16 H16 a16 b16 p16 x16 => ?_⟩
      refine ⟨a, _, _, _, rfl, rfl, SqL.of (x16 _ _ nal (x15 _ _ nal (x14 _ _ nal ea12))), str_at a16 (by omega), ?_⟩
      refine ⟨(by show 3 ≤ sizeLine; decide), fun e ne => ?_⟩
      have x17 := ((x14.trans x15).trans x16).trans (Ex1.new (o := .tup [.str (ns.getD r14.toNat ""), .str (ns.getD r15.toNat ""), .str (ns.getD r16.toNat "")]) ne)
      have p17 := p16.same (new_same (o := .tup [.str (ns.getD r14.toNat ""), .str (ns.getD r15.toNat ""), .str (ns.getD r16.toNat "")]) ne)
      have se : SqT K (upd H16 e (.tup [.str (ns.getD r14.toNat ""), .str (ns.getD r15.toNat ""), .str (ns.getD r16.toNat "")])) e [.str (ns.getD r14.toNat ""), .str (ns.getD r15.toNat ""), .str (ns.getD r16.toNat "")] := SqT.of upd_same
      generalize upd H16 e (.tup [.str (ns.getD r14.toNat ""), .str (ns.getD r15.toNat ""), .str (ns.getD r16.toNat "")]) = H17 at x17 p17 se ⊢
      have ep17 := x17 _ _ npal ep
      obtain ⟨_, _, _, el12, _⟩ := id p12
      have hp17 := DpAll.tups (Ex1.tups x17 el12) _ (prs_only ps) hp
      have pa_ne : pa ≠ l := npal
      have vl : vs.length = ps.length := by rw [DpAll.len hp, List.length_map]
      have gp : ∀ r : Int, 0 ≤ r → r < 5 → PN ns (ns.getD r.toNat "") := fun r h1 h2 => ⟨pn _ (getD_mem' (by omega)), getD_mem' (by omega)⟩
      refine ⟨_, rfl, .inl ⟨rfl, _, SqL.of ep17⟩, _, rfl, pa, vs, _, rfl, rfl, ep17, by omega, ?_⟩
      have u18 := Tups.upd_lst (K := K) (ys := vs ++ [.ref e]) ep17
      refine ⟨own_ex1 npa (x12.trans x17), (p17.off npal (npac p6 npa)).le (by omega), ⟨vs ++ [.ref e], ps ++ [⟨ns.getD r14.toNat "", ns.getD r15.toNat "", ns.getD r16.toNat ""⟩], upd_same, ?_, by rw [List.length_append, lp]; rfl, fun p hp' => ?_⟩, _, _, _, rfl⟩
      · rw [List.map_append]
        refine DpAll.tups u18 _ ?_ (DpAll.snoc hp17 (.tup se (.cons (.str _) (.cons (.str _) (.cons (.str _) .nil)))))
        have := prs_only (ps ++ [⟨ns.getD r14.toNat "", ns.getD r15.toNat "", ns.getD r16.toNat ""⟩])
        rw [List.map_append] at this
        exact this
      · rcases List.mem_append.mp hp' with h | h
        · exact hps p h
        · rw [List.mem_singleton] at h
          subst h
          exact ⟨gp _ a14 (by omega), gp _ a15 (by omega), gp _ a16 (by omega), r15.toNat, by omega, by omega, rfl⟩
    · rintro σ H12 ⟨x12, p12, ⟨vs, ps, ep, hp, lp, hps⟩, y7, y8, y9, rfl⟩
      have vl : vs.length = ps.length := by rw [DpAll.len hp, List.length_map]
      have s30 := x6.trans x12
      have ea12 := s30 _ _ nal ea
      have et12 := x12 _ _ ntbl et6
      have ef12 := x12 _ _ nfol ef
      have lu : us.length = ss.length := by rw [DpAll.len hd, List.length_map]
      have only := srcs_only ss (fun s hs => by
        obtain ⟨i, e⟩ := List.mem_iff_getElem?.mp hs
        have := (so i s e).two
        omega)
      obtain ⟨_, _, _, el7, _⟩ := id p6
      have hd12 := DpAll.tups (Ex1.tups x12 el7) _ only hd
      -- the word
      refine ⟨(by show 2 ≤ sizeLine; decide), fun w2 nw2 => ?_⟩
      have p20 := p12.same (new_same (o := .lst [.str "perhaps", .str "none"]) nw2)
      have x20 := Ex1.new (p := l) (o := .lst [.str "perhaps", .str "none"]) nw2
      have n2l := (p12.not nw2).1
      have e2 : upd H12 w2 (.lst [.str "perhaps", .str "none"]) w2 = some (.lst [.str "perhaps", .str "none"]) := upd_same
      generalize upd H12 w2 (.lst [.str "perhaps", .str "none"]) = H20 at p20 x20 e2 ⊢
      refine ⟨_, rfl, l, c, 2, _, rfl, p20, by decide, by decide, by omega, fun r21 H21 a21 b21 p21 x21 => ?_⟩
      obtain ⟨y, hy, ey⟩ := at_list (f := V.str) (xs := ["perhaps", "none"]) a21 (by simpa using b21)
      refine ⟨w2, _, _, .str y, rfl, rfl, SqL.of (x21 _ _ n2l e2), ey, ?_⟩
      have yw : y ≠ "with" ∧ y ∈ (["with", "perhaps", "none"] : List Str) := by
        simp only [List.mem_cons, List.not_mem_nil, or_false] at hy
        rcases hy with rfl | rfl <;> exact ⟨by decide, by simp⟩
      refine ⟨(by show 2 ≤ sizeLine; decide), fun w1 nw1 => ?_⟩
      have p22 := p21.same (new_same (o := .lst [.str "with", .str y]) nw1)
      have x22 := (x20.trans x21).trans (Ex1.new (o := .lst [.str "with", .str y]) nw1)
      have e1 : upd H21 w1 (.lst [.str "with", .str y]) w1 = some (.lst [.str "with", .str y]) := upd_same
      generalize upd H21 w1 (.lst [.str "with", .str y]) = H22 at p22 x22 e1 ⊢
      refine ⟨_, rfl, _, rfl, _, _, rfl, rfl, .inr ⟨_, rfl, ?_⟩⟩
      obtain ⟨way, hw1, hw2, hw3⟩ : ∃ way : Str, atI [V.str "with", V.str y] (if decide (((m : Nat) : Int) ≤ ((k : Nat) : Int)) = true then 1 else 0) = some (.str way) ∧ decide (way = "with") = decide (k < m) ∧ way ∈ (["with", "perhaps", "none"] : List Str) := by
        by_cases z : k < m
        · have z2 : ¬ (((m : Nat) : Int) ≤ ((k : Nat) : Int)) := by omega
          rw [decide_eq_false z2]
          exact ⟨"with", rfl, by rw [decide_eq_true z, decide_eq_true rfl], by simp⟩
        · have z2 : ((m : Nat) : Int) ≤ ((k : Nat) : Int) := by omega
          rw [decide_eq_true z2]
          exact ⟨y, rfl, by rw [decide_eq_false z, decide_eq_false yw.1], yw.2⟩
      refine ⟨w1, _, _, .str way, rfl, rfl, SqL.of e1, hw1, ?_⟩
      have ef22 := x22 _ _ nfol ef12
      have ea22 := x22 _ _ nal ea12
      have et22 := x22 _ _ ntbl et12
      have ep22 := x22 _ _ npal ep
      refine ⟨_, rfl, .inl ⟨rfl, _, SqL.of ef22⟩, _, rfl, _, rfl, _, rfl, a, _, _, _, rfl, rfl, SqL.of ea22, str_at (r := ((k : Nat) : Int)) (by omega) (by omega), ?_⟩
      refine ⟨_, rfl, _, rfl, _, rfl, tb, _, rfl, .inl (SqL.of et22), l, c, _, _, rfl, p22, by rw [List.length_map]; omega, by rw [List.length_map]; omega, by omega, fun r23 H23 a23 b23 p23 x23 => ?_⟩
      rw [List.length_map] at b23
      refine ⟨tb, _, _, _, rfl, rfl, SqL.of (x23 _ _ ntbl et22), str_at a23 (by omega), ?_⟩
      have x2223 := x22.trans x23
      have ep23 := x23 _ _ npal ep22
      refine ⟨_, rfl, .inl ⟨pa, vs, rfl, SqL.of ep23, fun pt npt => ?_⟩⟩
      have j24 := new_same (o := .tup vs) npt
      have p24 := p23.same j24
      have x24 := x2223.trans (ex1_same j24)
      have t24 : SqT K (upd H23 pt (.tup vs)) pt vs := SqT.of upd_same
      generalize upd H23 pt (.tup vs) = H24 at p24 x24 t24 ⊢
      refine ⟨(by show 4 ≤ sizeLine; decide), fun sx nsx => ?_⟩
      rw [Int.toNat_natCast]
      have j25 := new_same (o := .tup [.str way, .str (ns.getD k ""), .str (tbs.getD r23.toNat ""), .ref pt]) nsx
      have p25 := p24.same j25
      have x25 := x24.trans (ex1_same j25)
      have t25 := same_tup j25 t24
      have s25 : SqT K (upd H24 sx (.tup [.str way, .str (ns.getD k ""), .str (tbs.getD r23.toNat ""), .ref pt])) sx [.str way, .str (ns.getD k ""), .str (tbs.getD r23.toNat ""), .ref pt] := SqT.of upd_same
      generalize upd H24 sx (.tup [.str way, .str (ns.getD k ""), .str (tbs.getD r23.toNat ""), .ref pt]) = H25 at p25 x25 t25 s25 ⊢
      have ef25 := x25 _ _ nfol ef12
      obtain ⟨_, _, _, el12, _⟩ := id p12
      have hp25 := DpAll.tups (Ex1.tups x25 el12) _ (prs_only ps) hp
      have hd25 := DpAll.tups (Ex1.tups x25 el12) _ only hd12
      have u26 := Tups.upd_lst (K := K) (ys := us ++ [.ref sx]) ef25
      refine ⟨fo, us, _, rfl, rfl, ef25, by omega, ?_⟩
      have so' : SrcsOk ns m (ss ++ [⟨way, ns.getD k "", tbs.getD r23.toNat "", ps⟩]) := so.snoc ⟨by rw [ls], by rw [ls]; exact hw2, by show ps.length ≤ 2; omega, fun p h => by rw [ls]; exact hps p h, hw3, pt_ _ (getD_mem' (by omega))⟩
      have only2 := srcs_only (ss ++ [⟨way, ns.getD k "", tbs.getD r23.toNat "", ps⟩]) (fun s hs => by
        obtain ⟨i, e⟩ := List.mem_iff_getElem?.mp hs
        have := (so' i s e).two
        omega)
      refine ⟨own_ex1 nfo0 (s30.trans x25), (p25.off nfol (npac hP nfo0)).le (by omega), ?_, ⟨us ++ [.ref sx], ss ++ [⟨way, ns.getD k "", tbs.getD r23.toNat "", ps⟩], upd_same, ?_, by rw [List.length_append, ls]; rfl, so'⟩, _, _, _, _, _, rfl⟩
      · rw [upd_ne ntf]
        exact x25 _ _ ntbl et12
      · rw [List.map_append] at only2 ⊢
        exact DpAll.tups u26 _ only2 (DpAll.snoc hd25 (.tup s25 (.cons (.str _) (.cons (.str _) (.cons (.str _) (.cons (.tup t25 hp25) .nil))))))
  · rintro σ H6 ⟨x6, p6, et6, ⟨us, ss, ef, hd, ls, so⟩, y5, y6, y7, y8, y9, rfl⟩
    have only := srcs_only ss (fun s hs => by
      obtain ⟨i, e⟩ := List.mem_iff_getElem?.mp hs
      have := (so i s e).two
      omega)
    refine ⟨_, rfl, .inl ⟨fo, us, rfl, SqL.of ef, fun T nT => ?_⟩⟩
    have j := new_same (o := .tup us) nT
    exact q T us ss m _ (SqT.of upd_same) (DpAll.tups (Tups.of_same j) _ only hd) (drawn_of so nn n5 pn m1 m3 (by omega) (by omega)) (inns_of so n5 (by omega)) ((p6.same j).le (by omega)) (x6.trans (Ex1.new nT))
end
end K22
end

section
set_option Elab.async false
set_option linter.all false
set_option maxRecDepth 100000
set_option maxHeartbeats 4000000
namespace K22
open PySem PySem.Spec PyProof.Rows L2 Gd
abbrev sLed : Stmt := topS 3
abbrev sGs : Stmt := topS 7
abbrev sRw : Stmt := topS 8
abbrev sSh : Stmt := topS 9
abbrev nRw : List Str := ["ask", "number", "counts", "rows", "unlikes"]
theorem scRw : FnScope nRw ["ask", "number", "counts"] (defScope sRw) := ⟨rfl, rfl, rfl, by decide +kernel, rfl, by decide +kernel, by decide +kernel⟩
abbrev nSh : List Str := ["ask", "number", "links", "counts", "rows", "unlikes", "unlike"]
theorem scSh : FnScope nSh ["ask", "number", "links", "counts"] (defScope sSh) := ⟨rfl, rfl, rfl, by decide +kernel, rfl, by decide +kernel, by decide +kernel⟩
abbrev nLed : List Str := ["ask", "plan", "order"]
theorem scLed : FnScope nLed ["ask", "plan"] (defScope sLed) := ⟨rfl, rfl, rfl, by decide +kernel, rfl, by decide +kernel, by decide +kernel⟩
abbrev nGs : List Str := ["ask", "plan", "counts", "order", "way", "links", "many", "looks", "number", "rows", "share"]
theorem scGs : FnScope nGs ["ask", "plan", "counts"] (defScope sGs) := ⟨rfl, rfl, rfl, by decide +kernel, rfl, by decide +kernel, by decide +kernel⟩
/-- counts in the heap -/
def CtAt (K : PySem.W.Frag) (H : Hp) (C : Addr) (cs : Cnt) : Prop := ∃ kvs, H C = some (.dK kvs) ∧ DgKv K H (fun _ => False) kvs (cs.map cnE)
theorem CtAt.same {K : PySem.W.Frag} {H H' : Hp} {C : Addr} {cs : Cnt} (s : Same H H') (h : CtAt K H C cs) : CtAt K H' C cs := by
  obtain ⟨kvs, e, k⟩ := h
  exact ⟨kvs, s _ _ e, DgKv.stay (Tups.of_same s) (fun a o _ e => s a o e) (fun _ z => z) _ k⟩
theorem ct_get {K : PySem.W.Frag} {H : Hp} {C t d : Addr} {cs : Cnt} (h : CtAt K H C cs) (x : Str) (ht : SqT K H t [.int 1, .ref d]) (hd : H d = some (.dK [])) :
    ∃ o t' u uk, DGet H C (.str x) o ∧ o.getD (.ref t) = .ref t' ∧ SqT K H t' [.int (entC cs x).1, .ref u] ∧ H u = some (.dK uk) ∧ DgKv K H (fun _ => False) uk (unD (entC cs x).2) := by
  obtain ⟨kvs, e, k⟩ := h
  refine ⟨valV kvs (Sum.inr x), ?_⟩
  have g : DGet H C (.str x) (valV kvs (Sum.inr x)) := DGet.k (k := Sum.inr x) e
  unfold entC
  rcases kv_ent x k with ⟨f, v⟩ | ⟨en, t', f, v, dg⟩
  · rw [v] at g ⊢
    rw [f]
    exact ⟨t, d, [], g, rfl, ht, hd, .nil⟩
  · rw [v] at g ⊢
    rw [f]
    cases dg with
    | tup a b =>
    cases b with
    | cons b1 b =>
    cases b with
    | cons b2 b =>
    cases b
    cases b1
    cases b2 with
    | dct e2 _ k2 => exact ⟨t', _, _, g, rfl, a, e2, k2⟩
theorem tab_at {K : PySem.W.Frag} {H : Hp} {A : Addr} {ss : List Src} {n : Nat} (h : AskAt K H A ss) (hn : n < ss.length) : ∃ (as xs : List V) (S a b : Addr) (w k : Str), SqT K H A as ∧ as[0]? = some (.ref S) ∧ SqT K H S xs ∧ xs[n]? = some (.ref a) ∧ SqT K H a [.str w, .str k, .str (tabOf ss n), .ref b] := by
  obtain ⟨as, xs, S, hA, e0, hS, hX⟩ := h
  have lx : xs.length = ss.length := by rw [DpAll.len hX, List.length_map]
  have ex : xs[n]? = some xs[n] := List.getElem?_eq_getElem (by omega)
  obtain ⟨d, ed, hd⟩ := DpAll.at_ hX ex
  rw [srcs_at hn] at ed
  cases ed
  obtain ⟨a, b, ps, e, r, _⟩ := dp_src hd
  exact ⟨as, xs, S, a, b, _, _, hA, e0, hS, by rw [ex, e], r⟩
theorem ask_same {K : PySem.W.Frag} {H H' : Hp} {A : Addr} {ss : List Src} (s : Same H H') (h : AskAt K H A ss) : AskAt K H' A ss := by
  obtain ⟨as, xs, S, a, b, c, d⟩ := h
  exact ⟨as, xs, S, same_tup s a, b, same_tup s c, DpAll.same s _ d⟩
def spRw (K : PySem.W.Frag) : Sp := fun vs H Q _ => ∃ (A C : Addr) (ss : List Src) (cs : Cnt) (n : Nat), vs = [.ref A, .int ((n : Nat) : Int), .ref C] ∧ AskAt K H A ss ∧ CtAt K H C cs ∧ n < ss.length ∧ ∀ H', Same H H' → Q (.int (rowsG ss cs n)) H'
def spSh (K : PySem.W.Frag) : Sp := fun vs H Q _ => ∃ (A L C : Addr) (ss : List Src) (kvs : List (Key × V)) (ls : List (Nat × Pr)) (cs : Cnt) (n : Nat), vs = [.ref A, .int ((n : Nat) : Int), .ref L, .ref C] ∧ AskAt K H A ss ∧ CtAt K H C cs ∧ CnOk cs ∧ n < ss.length ∧
  H L = some (.dK kvs) ∧ LkAt K H kvs ls ∧ ∀ H', Same H H' → Q (.int (shareG ss ls cs n)) H'
def spLed (K : PySem.W.Frag) : Sp := fun vs H Q _ => ∃ (A PL O : Addr) (ps : List V) (ss : List Src) (o : List Nat), vs = [.ref A, .ref PL] ∧ AskAt K H A ss ∧ Small ss ∧ SqT K H PL ps ∧ ps[0]? = some (.ref O) ∧ SqT K H O (intsV o) ∧ o.length ≤ ss.length ∧
  ∀ (p : Addr) (H' : Hp), Same H H' → H' p = some (.lst (intsV (ledL ss o))) → Q (.ref p) H'
/-- a plan in the heap -/
def PlAt (K : PySem.W.Frag) (H : Hp) (PL : Addr) (o : List Nat) (w : Str) : Prop := ∃ O, SqT K H PL [.ref O, .str w] ∧ SqT K H O (intsV o)
theorem PlAt.same {K : PySem.W.Frag} {H H' : Hp} {PL : Addr} {o : List Nat} {w : Str} (s : Same H H') (h : PlAt K H PL o w) : PlAt K H' PL o w := by
  obtain ⟨O, a, b⟩ := h
  exact ⟨O, same_tup s a, same_tup s b⟩
def spGs (K : PySem.W.Frag) : Sp := fun vs H Q _ => ∃ (A PL C : Addr) (ss : List Src) (o : List Nat) (w : Str) (cs : Cnt), vs = [.ref A, .ref PL, .ref C] ∧ AskAt K H A ss ∧ Small ss ∧ PlAt K H PL o w ∧ CtAt K H C cs ∧ CnOk cs ∧
  1 ≤ o.length ∧ o.length ≤ ss.length ∧ o.Nodup ∧ (∀ j ∈ o, j < o.length) ∧ ∀ H', Same H H' → Q (.int (guessN ss cs o w)) H'
theorem cut1 (xs : List V) : cutV xs (some 1) none = xs.drop 1 := by
  unfold cutV
  rw [HT.sIx_none, show (1 : Int) = ((1 : Nat) : Int) from rfl, HT.sIx_nat]
  cases xs with
  | nil => rfl
  | cons x r =>
    have e : min 1 (x :: r).length = 1 := by rw [List.length_cons]; omega
    rw [e]
    exact List.take_of_length_le (by rw [List.length_drop]; exact Nat.le_refl _)
theorem rg_between {m n : Nat} (h : m ≤ n) : rgV ((m : Nat) : Int) ((n : Nat) : Int) = ((List.range (n - m)).map (m + ·)).map fun j => V.int ((j : Nat) : Int) := by
  unfold rgV
  rw [show (((n : Nat) : Int) - ((m : Nat) : Int)).toNat = n - m by omega, List.map_map]
  exact List.map_congr_left fun i _ => rfl
theorem led_in {ss : List Src} {o : List Nat} (h : ∀ j ∈ o, j < o.length) (l : o.length ≤ ss.length) : ∀ n ∈ ledL ss o, n < ss.length := by
  intro n hn
  unfold ledL at hn
  rcases List.mem_append.mp hn with m | m
  · have := h n (List.mem_of_mem_drop m)
    omega
  · obtain ⟨k, hk, rfl⟩ := List.mem_map.mp m
    have := List.mem_range.mp hk
    omega
theorem in_intsG (n : Nat) : ∀ o : List Nat, inV (V.int ((n : Nat) : Int)) (intsV o) = decide (n ∈ o)
  | [] => rfl
  | k :: o => by
    have ih := in_intsG n o
    unfold inV intsV at ih ⊢
    rw [List.map_cons, List.any_cons, ih]
    have e : eqV (V.int ((k : Nat) : Int)) (V.int ((n : Nat) : Int)) = decide (n = k) := by
      show (((k : Nat) : Int) == ((n : Nat) : Int)) = decide (n = k)
      by_cases z : n = k
      · subst z; simp
      · rw [decide_eq_false z]
        simpa using fun h => z (by omega)
    rw [e]
    by_cases z : n = k
    · subst z; simp
    · simp [z]
section
variable {P : Program} {w : World} {K : PySem.W.Frag} {mg : Str → Option Value} {base : Heap} {f fL fR fE fS : Addr} {fd dL dR dE dS : FuncData}
theorem ok_rw (F : Fun K "_rows_in" "_rows_in" sRw f fd) : FnOk P w K mg base CX0 1 f fd ["ask", "number", "counts"] (spRw K) := by
  refine F.ok scRw (fun vs H Q E h => ?_) (fun cdv A outer s H vs Q E hr h => ?_)
  · obtain ⟨A, C, ss, cs, n, rfl, _⟩ := h
    rfl
  obtain ⟨AK, C, ss, cs, n, rfl, hA, hC, hn, q⟩ := h
  have nd := scRw.nd
  have hu := hu_of hr
  refine ⟨_, pss_cons (ps_asg (pe_dget2 hu (pv 2) (pe_ix ix_tup (pe_ix ix_tup (pe_ix ix_tup (pv 0) pe_int (fun _ _ => rfl)) (pv 1) (fun _ _ => rfl)) pe_int (fun _ _ => rfl)) (pe_tup (pa_cons pe_int (pa_cons pe_dnewK pa_nil))) ⟨rfl, rfl, rfl, rfl⟩) (pg_tup rfl (pgs_cons (pg_name (i := 3) nd rfl (.inl rfl)) (pgs_cons (pg_name (i := 4) nd rfl (.inl rfl)) pgs_nil))))
      (pss_one (ps_ret (pv 3))), ?_⟩
  obtain ⟨as, xs, S, a, b, wy, nk, tA, e0, tS, en, ta⟩ := tab_at hA hn
  have hC' := hC
  obtain ⟨kvs, eC, _⟩ := hC'
  refine ⟨_, rfl, C, rfl, .inl ⟨_, .inl eC⟩, ?_⟩
  refine ⟨_, rfl, AK, _, 0, _, rfl, rfl, tA, atI_nat (j := 0) e0, _, rfl, S, _, _, _, rfl, rfl, tS, atI_nat (j := n) en, a, _, 2, _, rfl, rfl, ta, atI_nat (j := 2) rfl, ?_⟩
  refine fun d nd => ?_
  have j1 := new_same (o := .dK []) nd
  have ed : upd H d (.dK []) d = some (.dK []) := upd_same
  generalize upd H d (.dK []) = H1 at j1 ed ⊢
  refine ⟨(by show 2 ≤ sizeLine; decide), fun t nt => ?_⟩
  have j2 := new_same (o := .tup [.int 1, .ref d]) nt
  have et : SqT K (upd H1 t (.tup [.int 1, .ref d])) t [.int 1, .ref d] := SqT.of upd_same
  have s2 := j1.trans j2
  have ed2 := j2 _ _ ed
  generalize upd H1 t (.tup [.int 1, .ref d]) = H2 at s2 et ed2 ⊢
  obtain ⟨o, t', u, uk, g, eo, tt, eu, ku⟩ := ct_get (hC.same s2) (tabOf ss n) et ed2
  refine ⟨o, g, ?_⟩
  rw [eo]
  exact ⟨t', _, rfl, tt, rfl, _, _, rfl, _, _, rfl, rfl, _, rfl, q _ s2⟩
theorem ok_sh (F : Fun K "_share_of" "_share_of" sSh f fd) (mx : mg "max" = none) : FnOk P w K mg base CX0 1 f fd ["ask", "number", "links", "counts"] (spSh K) := by
  refine F.ok scSh (fun vs H Q E h => ?_) (fun cdv A outer s H vs Q E hr h => ?_)
  · obtain ⟨A, L, C, ss, kvs, ls, cs, n, rfl, _⟩ := h
    rfl
  obtain ⟨AK, L, C, ss, lks, ls, cs, n, rfl, hA, hC, cok, hn, eL, hL, q⟩ := h
  have nd := scSh.nd
  have hu := hu_of hr
  refine ⟨_, pss_cons (ps_asg (pe_dget2 hu (pv 3) (pe_ix ix_tup (pe_ix ix_tup (pe_ix ix_tup (pv 0) pe_int (fun _ _ => rfl)) (pv 1) (fun _ _ => rfl)) pe_int (fun _ _ => rfl)) (pe_tup (pa_cons pe_int (pa_cons pe_dnewK pa_nil))) ⟨rfl, rfl, rfl, rfl⟩) (pg_tup rfl (pgs_cons (pg_name (i := 4) nd rfl (.inl rfl)) (pgs_cons (pg_name (i := 5) nd rfl (.inl rfl)) pgs_nil))))
      (pss_cons (ps_if (pt_cmp (pc_dnotin hu (pv 1) (pv 2))) (pss_one (ps_ret (pv 4))) pss_nil)
      (pss_cons (ps_set (i := 6) nd rfl (.inl rfl) (pe_callB (call_max2 rfl) (by rfl) mx (by decide +kernel) (pa_cons pe_int (pa_cons (pe_dget2 hu (pv 5) (pe_ix ix_tup (pe_dget hu (pv 2) (pv 1) (fun _ _ => rfl)) pe_int (fun _ _ => rfl)) pe_int ⟨rfl, rfl, rfl, rfl⟩) pa_nil))))
      (pss_one (ps_ret (pe_un un_neg (pe_op op_fdivW (pe_un un_neg (pv 4)) (pv 6))))))), ?_⟩
  obtain ⟨as, xs, S, a, b, wy, nk, tA, e0, tS, en, ta⟩ := tab_at hA hn
  have hC' := hC
  obtain ⟨kvs, eC, _⟩ := hC'
  refine ⟨_, rfl, C, rfl, .inl ⟨_, .inl eC⟩, ?_⟩
  refine ⟨_, rfl, AK, _, 0, _, rfl, rfl, tA, atI_nat (j := 0) e0, _, rfl, S, _, _, _, rfl, rfl, tS, atI_nat (j := n) en, a, _, 2, _, rfl, rfl, ta, atI_nat (j := 2) rfl, ?_⟩
  refine fun d nd => ?_
  have j1 := new_same (o := .dK []) nd
  have ed : upd H d (.dK []) d = some (.dK []) := upd_same
  generalize upd H d (.dK []) = H1 at j1 ed ⊢
  refine ⟨(by show 2 ≤ sizeLine; decide), fun t nt => ?_⟩
  have j2 := new_same (o := .tup [.int 1, .ref d]) nt
  have et : SqT K (upd H1 t (.tup [.int 1, .ref d])) t [.int 1, .ref d] := SqT.of upd_same
  have s2 := j1.trans j2
  have ed2 := j2 _ _ ed
  generalize upd H1 t (.tup [.int 1, .ref d]) = H2 at s2 et ed2 ⊢
  obtain ⟨o, t', u, uk, g, eo, tt, eu, ku⟩ := ct_get (hC.same s2) (tabOf ss n) et ed2
  refine ⟨o, g, ?_⟩
  rw [eo]
  refine ⟨t', _, rfl, tt, rfl, _, _, rfl, _, _, rfl, rfl, ?_⟩
  have eL2 := s2 _ _ eL
  have hL2 : LkAt K H2 lks ls := hL.tups (Tups.of_same s2)
  refine ⟨_, rfl, _, rfl, L, _, rfl, DGet.k (k := Sum.inl ((n : Nat) : Int)) eL2, _, rfl, ?_⟩
  have y := q _ s2
  unfold shareG at y
  rcases lk_val n hL2.1 hL2.2 with ⟨eg, ev⟩ | ⟨p, lt, eg, ev, tl⟩
  · rw [ev]
    rw [eg] at y
    exact iteT ⟨_, rfl, y⟩
  · rw [ev]
    rw [eg] at y
    refine iteF ?_
    have e1 : (valV uk (Sum.inr p.c)).getD (V.int 1) = V.int (unlC (entC cs (tabOf ss n)).2 p.c) := by
      rw [kv_unl p.c ku]
      unfold unlC
      cases findC (entC cs (tabOf ss n)).2 p.c <;> rfl
    have m1 := max1_ge (unlC (entC cs (tabOf ss n)).2 p.c)
    have m2 := max1_in cok (tabOf ss n) p.c
    refine ⟨_, rfl, u, rfl, .inl ⟨_, .inl eu⟩, _, rfl, _, rfl, L, _, rfl, ?_, lt, _, 0, _, rfl, rfl, tl, atI_nat (j := 0) rfl, _, DGet.k (k := Sum.inr p.c) eu, ?_⟩
    · rw [← ev]
      exact DGet.k (k := Sum.inl ((n : Nat) : Int)) eL2
    rw [e1]
    refine ⟨_, _, rfl, ?_⟩
    exact ⟨_, rfl, _, rfl, _, rfl, _, _, rfl, rfl, wide_div (b := 100) (Int.lt_of_lt_of_le (by decide) m1) (lt100 (Int.le_trans (by decide) m1) m2) (by decide) (by decide), _, rfl, y⟩
theorem ok_led (F : Fun K "led_to" "led_to" sLed f fd) (ml : mg "list" = none) (mr : mg "range" = none) (mn : mg "len" = none) : FnOk P w K mg base CX0 1 f fd ["ask", "plan"] (spLed K) := by
  refine F.ok scLed (fun vs H Q E h => ?_) (fun cdv A outer s H vs Q E hr h => ?_)
  · obtain ⟨A, PL, O, ps, ss, o, rfl, _⟩ := h
    rfl
  obtain ⟨AK, PL, O, ps, ss, o, rfl, hA, hs, hP, e0, hO, lo, q⟩ := h
  have nd := scLed.nd
  have hu := hu_of hr
  refine ⟨_, pss_cons (ps_set (i := 2) nd rfl (.inl rfl) (pe_ix ix_tup (pv 1) pe_int (fun _ _ => rfl)))
      (pss_one (ps_ret (pe_op op_cat (pe_callTy call_list_of (by rfl) ml (by decide +kernel) (pa_cons (pe_slice sl_tupC (pv 2) (po_some pe_int) po_none) pa_nil)) (pe_listRg rfl (by rfl) ml (prg_2 (by rfl) mr (pe_callB call_len_seq (by rfl) mn PySem.boot_len (pa_cons (pv 2) pa_nil)) (pe_callB call_len_seq (by rfl) mn PySem.boot_len (pa_cons (pe_ix ix_tup (pv 0) pe_int (fun _ _ => rfl)) pa_nil))))))), ?_⟩
  have hA' := hA
  obtain ⟨as, xs, S, tA, e1, tS, hX⟩ := hA'
  have lx : xs.length = ss.length := by rw [DpAll.len hX, List.length_map]
  have s10 := hs.1
  refine ⟨_, rfl, PL, _, 0, _, rfl, rfl, hP, atI_nat (j := 0) e0, ?_⟩
  refine ⟨_, rfl, _, rfl, O, _, rfl, hO, fun p1 H1 s1 hp1 => ?_⟩
  rw [cut1] at hp1
  refine ⟨p1, _, rfl, .inr hp1, fun l nl => ?_⟩
  have s2 := s1.trans (new_same (o := .lst ((intsV o).drop 1)) nl)
  have el : upd H1 l (.lst ((intsV o).drop 1)) l = some (.lst ((intsV o).drop 1)) := upd_same
  generalize upd H1 l (.lst ((intsV o).drop 1)) = H2 at s2 el ⊢
  have lO : (intsV o).length = o.length := List.length_map ..
  refine ⟨_, rfl, O, _, rfl, .inr (same_tup s2 hO), _, rfl, AK, _, 0, _, rfl, rfl, same_tup s2 tA, atI_nat (j := 0) e1, S, _, rfl, .inr (same_tup s2 tS), _, _, rfl, rfl, ⟨by omega, by omega, by omega, by omega, by omega⟩, fun r nr => ?_⟩
  rw [lO, lx, rg_between lo]
  have j3 := new_same (o := .lst (((List.range (ss.length - o.length)).map (o.length + ·)).map fun j => V.int ((j : Nat) : Int))) nr
  have s3 := s2.trans j3
  have el3 := j3 _ _ el
  have er : upd H2 r (.lst (((List.range (ss.length - o.length)).map (o.length + ·)).map fun j => V.int ((j : Nat) : Int))) r = some (.lst (((List.range (ss.length - o.length)).map (o.length + ·)).map fun j => V.int ((j : Nat) : Int))) := upd_same
  generalize upd H2 r (.lst (((List.range (ss.length - o.length)).map (o.length + ·)).map fun j => V.int ((j : Nat) : Int))) = H3 at s3 el3 er ⊢
  refine ⟨_, _, _, _, rfl, rfl, el3, er, (by rw [List.length_drop, lO, List.length_map, List.length_map, List.length_range]; show _ ≤ 16777216; omega), fun p np => ?_⟩
  have e : (intsV o).drop 1 ++ ((List.range (ss.length - o.length)).map (o.length + ·)).map (fun j => V.int ((j : Nat) : Int)) = intsV (ledL ss o) := by
    unfold ledL intsV
    rw [List.map_append, List.map_drop]
  rw [e]
  exact q p _ (s3.trans (new_same np)) upd_same
theorem ok_gs (F : Fun K "guess" "guess" sGs f fd)
    (FL : Fun K "links_of" "links_of" sLk fL dL) (GL : FnOk P w K mg base CX0 2 fL dL ["ask", "plan"] (spLk K)) (bL : Binds K dL ["ask", "plan"] []) (gL : mg "links_of" = some (.ref fL))
    (FR : Fun K "_rows_in" "_rows_in" sRw fR dR) (GR : FnOk P w K mg base CX0 1 fR dR ["ask", "number", "counts"] (spRw K)) (bR : Binds K dR ["ask", "number", "counts"] []) (gR : mg "_rows_in" = some (.ref fR))
    (FE : Fun K "led_to" "led_to" sLed fE dE) (GE : FnOk P w K mg base CX0 1 fE dE ["ask", "plan"] (spLed K)) (bE : Binds K dE ["ask", "plan"] []) (gE : mg "led_to" = some (.ref fE))
    (FS : Fun K "_share_of" "_share_of" sSh fS dS) (GS : FnOk P w K mg base CX0 1 fS dS ["ask", "number", "links", "counts"] (spSh K)) (bS : Binds K dS ["ask", "number", "links", "counts"] []) (gS : mg "_share_of" = some (.ref fS)) :
    FnOk P w K mg base CX0 3 f fd ["ask", "plan", "counts"] (spGs K) := by
  refine F.ok scGs (fun vs H Q E h => ?_) (fun cdv A outer s H vs Q E hr h => ?_)
  · obtain ⟨A, PL, C, ss, o, w, cs, rfl, _⟩ := h
    rfl
  obtain ⟨AK, PL, C, ss, o, wy, cs, rfl, hA, hs, hP, hC, cok, o1, lo, on, oj, q⟩ := h
  have nd := scGs.nd
  have hu := hu_of hr
  refine ⟨_, pss_cons (ps_asg (pv 1) (pg_tup rfl (pgs_cons (pg_name (i := 3) nd rfl (.inl rfl)) (pgs_cons (pg_name (i := 4) nd rfl (.inl rfl)) pgs_nil))))
      (pss_cons (ps_set (i := 5) nd rfl (.inl rfl) (pe_call GL hr (by rfl) gL FL.kp bL .nil pass0 (pa_cons (pv 0) (pa_cons (pv 1) pa_nil))))
      (pss_cons (ps_set (i := 6) nd rfl (.inl rfl) (pe_call GR (hr.mono (by decide)) (by rfl) gR FR.kp bR .nil pass0 (pa_cons (pv 0) (pa_cons (pe_ix ix_tup (pv 3) pe_int (fun _ _ => rfl)) (pa_cons (pv 2) pa_nil)))))
      (pss_cons (ps_set (i := 7) nd rfl (.inl rfl) (pe_op op_add pe_int (pv 6)))
      (pss_cons (ps_for PassesOwn.never rfl (pi_list (pe_call GE (hr.mono (by decide)) (by rfl) gE FE.kp bE .nil pass0 (pa_cons (pv 0) (pa_cons (pv 1) pa_nil)))) (pg_name (i := 8) nd rfl (.inl rfl))
      (pss_cons (ps_set (i := 9) nd rfl (.inl rfl) (pe_call GR (hr.mono (by decide)) (by rfl) gR FR.kp bR .nil pass0 (pa_cons (pv 0) (pa_cons (pv 8) (pa_cons (pv 2) pa_nil)))))
      (pss_cons (ps_set (i := 10) nd rfl (.inl rfl) (pe_call GS (hr.mono (by decide)) (by rfl) gS FS.kp bS .nil pass0 (pa_cons (pv 0) (pa_cons (pv 8) (pa_cons (pv 5) (pa_cons (pv 2) pa_nil))))))
      (C8.pss_cut (ps_if (PW.pt (pw_and (pt_cmpR op_eq (pv 4) pe_str (nomark _)) (pw_and1 (pt_cmp (pc_din hu (pv 8) (pv 5)))))) (pss_one (ps_aug (i := 7) nd rfl (.inl rfl) (pe_op op_add (pv 9) (pe_op op_mulW (pv 6) (pv 10))) ip_add)) (pss_one (ps_aug (i := 7) nd rfl (.inl rfl) (pe_op op_mulW (pv 6) (pv 9)) ip_add))) (pss_one (ps_if (pt_cmpR op_in_seq (pv 8) (pv 3) (by with_unfolding_all rfl)) (pss_one (ps_set (i := 6) nd rfl (.inl rfl) (pe_op op_mulW (pv 6) (pv 10)))) pss_nil))))))
      (pss_one (ps_ret (pv 7))))))), ?_⟩
  obtain ⟨O, tP, tO⟩ := hP
  have s10 := hs.1
  have eo0 : (intsV o)[0]? = some (V.int (((o.getD 0 0 : Nat)) : Int)) := by
    unfold intsV
    rw [List.getElem?_map, List.getD_eq_getElem?_getD, List.getElem?_eq_getElem (by omega)]
    rfl
  have o0 : o.getD 0 0 < ss.length := by
    have := oj _ (getD_mem' (d := 0) (show 0 < o.length by omega))
    omega
  refine ⟨_, rfl, PL, _, rfl, tP, rfl, _, _, rfl, _, _, rfl, rfl, ?_⟩
  refine ⟨_, rfl, _, rfl, AK, PL, _, O, ss, o, rfl, hA, hs, tP, rfl, tO, lo, on, oj, fun L lks H1 s1 nL eL hL => ?_⟩
  refine ⟨_, rfl, _, rfl, O, _, 0, _, rfl, rfl, same_tup s1 tO, atI_nat (j := 0) eo0, _, rfl, AK, C, ss, cs, _, rfl, ask_same s1 hA, hC.same s1, o0, fun H2 s2 => ?_⟩
  have s12 := s1.trans s2
  refine ⟨_, rfl, _, _, rfl, rfl, ?_⟩
  refine ⟨_, rfl, _, rfl, AK, PL, O, _, ss, o, rfl, ask_same s12 hA, hs, same_tup s12 tP, rfl, same_tup s12 tO, lo, fun D H3 s3 eD => ?_⟩
  have s13 := s12.trans s3
  have eL3 := s3 _ _ (s2 _ _ eL)
  have hL3 : LkAt K H3 lks (linksL ss o) := hL.tups (Tups.of_same (s2.trans s3))
  have lled : (ledL ss o).length ≤ 20 := by
    unfold ledL
    rw [List.length_append, List.length_drop, List.length_map, List.length_range]
    omega
  refine ⟨D, rfl, ⟨_, SqL.of eD⟩, ?_⟩
  refine for_it walk_list (fun i σ H4 => Same H3 H4 ∧ ∃ y8 y9 y10, σ = [some (.ref AK), some (.ref PL), some (.ref C), some (.ref O), some (.str wy), some (.ref L), some (.int (goG ss cs o wy ((ledL ss o).take i)).1), some (.int (goG ss cs o wy ((ledL ss o).take i)).2), y8, y9, y10])
    ⟨fun _ _ e => e, none, none, none, rfl⟩ (fun i σ H4 _ h => SqL.of (h.1 _ _ eD)) ?_ ?_
  · rintro i x σ H4 H5 hi ⟨s4, y8, y9, y10, rfl⟩ ⟨rfl, ex⟩
    obtain ⟨n, en, rfl⟩ := map_at ex
    have hi2 := at_lt en
    have hn := led_in oj lo n (List.mem_of_getElem? en)
    have s04 := s13.trans s4
    have many := goG_many (o := o) (w := wy) (ss := ss) cok ((ledL ss o).take i)
    have tk : goG ss cs o wy ((ledL ss o).take (i + 1)) = stepG ss (linksL ss o) cs o wy (goG ss cs o wy ((ledL ss o).take i)) n := by
      rw [take_at en, goG_snoc]
    rw [tk]
    rw [List.length_take] at many
    generalize goG ss cs o wy ((ledL ss o).take i) = st at many ⊢
    obtain ⟨mn, lk⟩ := st
    dsimp only at many
    have many2 : mn.natAbs < 2 ^ 2200 := Nat.lt_of_lt_of_le many.2 (Nat.pow_le_pow_right (by decide) (by omega))
    have shr := shareG_in (ss := ss) (ls := linksL ss o) (n := n) cok
    have rws := rowsG_in (ss := ss) (n := n) cok
    refine ⟨_, rfl, _, rfl, _, rfl, AK, C, ss, cs, n, rfl, ask_same s04 hA, hC.same s04, hn, fun H6 s6 => ?_⟩
    have s06 := s04.trans s6
    refine ⟨_, rfl, _, rfl, _, rfl, _, rfl, AK, L, C, ss, lks, _, cs, n, rfl, ask_same s06 hA, hC.same s06, cok, hn, s6 _ _ (s4 _ _ eL3), hL3.tups (Tups.of_same (s4.trans s6)), fun H7 s7 => ?_⟩
    have eL7 := s7 _ _ (s6 _ _ (s4 _ _ eL3))
    refine ⟨fun σ' H' => H' = H7 ∧ σ' = [some (.ref AK), some (.ref PL), some (.ref C), some (.ref O), some (.str wy), some (.ref L), some (.int mn), some (.int (stepG ss (linksL ss o) cs o wy (mn, lk) n).2), some (.int ((n : Nat) : Int)), some (.int (rowsG ss cs n)), some (.int (shareG ss (linksL ss o) cs n))], ?_, ?_⟩
    · have eN : ¬ (wy = "kept" ∧ (linkG (linksL ss o) n).isSome = true) → (stepG ss (linksL ss o) cs o wy (mn, lk) n).2 = lk + mn * rowsG ss cs n := fun h => congrArg (lk + ·) (if_neg h)
      have eP : (wy = "kept" ∧ (linkG (linksL ss o) n).isSome = true) → (stepG ss (linksL ss o) cs o wy (mn, lk) n).2 = lk + (rowsG ss cs n + mn * shareG ss (linksL ss o) cs n) := fun h => congrArg (lk + ·) (if_pos h)
      refine ⟨_, rfl, rfl, _, rfl, ?_⟩
      by_cases z : wy = "kept"
      · rw [show decide (V.str wy = V.str "kept") = true from decide_eq_true (congrArg V.str z)]
        refine iteT ⟨_, rfl, _, rfl, L, _, rfl, DGet.k (k := Sum.inl ((n : Nat) : Int)) eL7, _, rfl, ?_⟩
        rcases lk_val n hL.1 hL.2 with ⟨eg, ev⟩ | ⟨p, lt, eg, ev, tl⟩
        · rw [ev, eN (fun h => by rw [eg] at h; exact Bool.noConfusion h.2)]
          refine iteF ?_
          refine ⟨_, rfl, _, rfl, _, rfl, _, _, rfl, rfl, wide_mul many2 (lt100 rws.1 rws.2) (by decide) (by decide) (by decide), _, _, rfl, rfl, ?_⟩
          exact ⟨rfl, rfl⟩
        · rw [ev, eP ⟨z, by rw [eg]; rfl⟩]
          refine iteT ?_
          refine ⟨_, rfl, _, rfl, _, rfl, _, rfl, _, _, rfl, rfl, wide_mul many2 (lt100 shr.1 shr.2) (by decide) (by decide) (by decide), _, _, rfl, rfl, _, _, rfl, rfl, ?_⟩
          exact ⟨rfl, rfl⟩
      · rw [show decide (V.str wy = V.str "kept") = false from decide_eq_false (fun e => z (V.str.inj e)), eN (fun h => z h.1)]
        refine iteF ?_
        refine ⟨_, rfl, _, rfl, _, rfl, _, _, rfl, rfl, wide_mul many2 (lt100 rws.1 rws.2) (by decide) (by decide) (by decide), _, _, rfl, rfl, ?_⟩
        exact ⟨rfl, rfl⟩
    rintro σ8 H8 ⟨rfl, rfl⟩
    refine ⟨_, rfl, _, rfl, O, _, rfl, .inr (same_tup (s06.trans s7) tO), rfl, ?_, _, rfl, ?_⟩
    · unfold intsV
      rw [List.all_map, List.all_eq_true]
      exact fun _ _ => rfl
    show (if (inV (V.int ((n : Nat) : Int)) (intsV o)) = true then _ else _)
    rw [in_intsG]
    have e : (stepG ss (linksL ss o) cs o wy (mn, lk) n).1 = if n ∈ o then mn * shareG ss (linksL ss o) cs n else mn := rfl
    rw [e]
    by_cases z : n ∈ o
    · rw [decide_eq_true z, if_pos z]
      exact iteT ⟨_, rfl, _, rfl, _, _, rfl, rfl, wide_mul many2 (lt100 shr.1 shr.2) (by decide) (by decide) (by decide), (s4.trans s6).trans s7, _, _, _, rfl⟩
    · rw [decide_eq_false z, if_neg z]
      exact iteF ⟨(s4.trans s6).trans s7, _, _, _, rfl⟩
  · rintro σ H4 ⟨s4, y8, y9, y10, rfl⟩
    have lI : (intsV (ledL ss o)).length = (ledL ss o).length := List.length_map ..
    rw [lI, List.take_length]
    exact ⟨_, rfl, q _ (s13.trans s4)⟩
end
end K22
end

section
set_option Elab.async false
set_option linter.all false
set_option maxRecDepth 100000
set_option maxHeartbeats 4000000
namespace K22
open PySem PySem.Spec PyProof.Rows L2 Gd
abbrev sGd : Stmt := topS 10
abbrev nGd : List Str := ["ask", "counts", "plans", "plan", "looks"]
theorem scGd : FnScope nGd ["ask", "counts"] (defScope sGd) := ⟨rfl, rfl, rfl, by decide +kernel, rfl, by decide +kernel, by decide +kernel⟩
/-- all plans, their orders and ways -/
def waysL (b : Bool) : List Str := if b then ["kept", "walked"] else ["walked"]
def plansOW (m : Nat) (b : Bool) : List (List Nat × Str) := (Pm.perms m).flatMap fun o => (waysL b).map fun w => (o, w)
def encP (x : List Nat × Str) : PyData := pl x.1 x.2
theorem plans_ow (m : Nat) (b : Bool) : plansL m b = (plansOW m b).map encP := by
  unfold plansL plansOW
  rw [List.map_flatMap]
  congr 1
  funext o
  cases b <;> rfl
def encG (ss : List Src) (cs : Cnt) (x : List Nat × Str) : PyData := .tuple [.int (guessN ss cs x.1 x.2), encP x]
/-- all plans by their guesses, then as they compare -/
def goL (ss : List Src) (cs : Cnt) (m : Nat) (b : Bool) : List (List Nat × Str) := (plansOW m b).mergeSort (PySem.W.dataLe false (encG ss cs))
theorem told_go (ss : List Src) (cs : Cnt) (m : Nat) (b : Bool) : told ((plansOW m b).map (encG ss cs)) = (goL ss cs m b).map (encG ss cs) := by
  unfold told goL
  exact (List.map_mergeSort (f := encG ss cs) (r := PySem.W.dataLe false (encG ss cs)) (s := PySem.W.dataLe false id) fun x _ y _ => rfl).symm
theorem go_mem {ss : List Src} {cs : Cnt} {m : Nat} {b : Bool} {x : List Nat × Str} (h : x ∈ goL ss cs m b) : x ∈ plansOW m b := List.mem_mergeSort.mp h
theorem go_len (ss : List Src) (cs : Cnt) (m : Nat) (b : Bool) : (goL ss cs m b).length = (plansOW m b).length := List.length_mergeSort _
structure OwOk (m : Nat) (x : List Nat × Str) : Prop where
  len : x.1.length = m
  nod : x.1.Nodup
  lt : ∀ j ∈ x.1, j < x.1.length
  way : x.2 = "kept" ∨ x.2 = "walked"
theorem ow_ok {m : Nat} {b : Bool} (m1 : 1 ≤ m) (m3 : m ≤ 3) {x : List Nat × Str} (h : x ∈ plansOW m b) : OwOk m x := by
  unfold plansOW at h
  obtain ⟨o, ho, h⟩ := List.mem_flatMap.mp h
  obtain ⟨w, hw, rfl⟩ := List.mem_map.mp h
  obtain ⟨i, hi⟩ := List.mem_iff_getElem?.mp ho
  obtain ⟨a, c, d, _⟩ := perms_ok m1 m3 hi
  refine ⟨a, c, fun j hj => by rw [a]; exact d j hj, ?_⟩
  cases b with
  | true =>
    have hw : w ∈ (["kept", "walked"] : List Str) := hw
    simpa using hw
  | false =>
    have hw : w ∈ (["walked"] : List Str) := hw
    exact .inr (by simpa using hw)
theorem ow_len {m : Nat} {b : Bool} (m1 : 1 ≤ m) (m3 : m ≤ 3) : 1 ≤ (plansOW m b).length ∧ (plansOW m b).length ≤ 12 := by
  match m, b, m1, m3 with
  | 1, true, _, _ => decide
  | 1, false, _, _ => decide
  | 2, true, _, _ => decide
  | 2, false, _, _ => decide
  | 3, true, _, _ => decide
  | 3, false, _, _ => decide
theorem encPs_only : ∀ xs : List (List Nat × Str), (∀ x ∈ xs, x.1.length ≤ 1000) → tupOnlyAll (xs.map encP) = true
  | [], _ => rfl
  | x :: xs, h => by
    rw [List.map_cons]
    simp only [tupOnlyAll, encPs_only xs fun y m => h y (by simp [m]), encP, pl_only x.1 x.2 (h x (by simp)), Bool.and_self]
theorem encGs_only (ss : List Src) (cs : Cnt) : ∀ xs : List (List Nat × Str), (∀ x ∈ xs, x.1.length ≤ 1000) → tupOnlyAll (xs.map (encG ss cs)) = true
  | [], _ => rfl
  | x :: xs, h => by
    rw [List.map_cons]
    simp only [tupOnlyAll, encGs_only ss cs xs fun y m => h y (by simp [m]), encG, encP, tupOnly, pl_only x.1 x.2 (h x (by simp)), Bool.and_self, Bool.and_true, decide_eq_true_eq]
    exact (show 2 ≤ 1000 by decide)
theorem alike_ints : ∀ o p : List Nat, PySem.W.alikeAll (o.map fun k => PyData.int ((k : Nat) : Int)) (p.map fun k => PyData.int ((k : Nat) : Int)) = true
  | [], _ => by simp [PySem.W.alikeAll]
  | _ :: _, [] => by simp [PySem.W.alikeAll]
  | a :: o, b :: p => by
    rw [List.map_cons, List.map_cons]
    simp only [PySem.W.alikeAll, alike_ints o p, Bool.and_true]
    simp [PySem.W.alike]
theorem alike_go (ss : List Src) (cs : Cnt) (xs : List (List Nat × Str)) : PySem.W.AllAlike (xs.map (encG ss cs)) := PySem.W.AllAlike.of fun x y => by
  simp only [encG, encP, pl, PySem.W.alike, PySem.W.alikeAll, alike_ints, Bool.and_self]
theorem sort_go (ss : List Src) (cs : Cnt) (xs : List (List Nat × Str)) : PySem.W.Sortable (xs.map (encG ss cs)) := PySem.W.Sortable.tuples fun x => ⟨_, _, rfl⟩
theorem deep_go (ss : List Src) (cs : Cnt) (xs : List (List Nat × Str)) : ∀ d ∈ xs.map (encG ss cs), d.depth ≤ 50 := by
  have intsD : ∀ o : List Nat, PyData.depthAll (o.map fun k => PyData.int ((k : Nat) : Int)) = 0 := fun o => by
    induction o with
    | nil => rfl
    | cons k o ih => rw [List.map_cons]; simp only [PyData.depthAll, ih, PyData.depth]; rfl
  intro d hd
  obtain ⟨x, _, rfl⟩ := List.mem_map.mp hd
  simp only [encG, encP, pl, PyData.depth, PyData.depthAll, intsD]
  decide
theorem pl_at {K : PySem.W.Frag} {H : Hp} {v : V} {x : List Nat × Str} (h : Dp K H v (encP x)) : ∃ p, v = .ref p ∧ PlAt K H p x.1 x.2 := by
  cases h with
  | tup a b =>
  cases b with
  | cons b1 b =>
  cases b with
  | cons b2 b =>
  cases b
  cases b2
  cases b1 with
  | tup c d =>
    refine ⟨_, rfl, _, a, ?_⟩
    have key : ∀ (o : List Nat) (vs : List V), DpAll K H vs (o.map fun k => PyData.int ((k : Nat) : Int)) → vs = intsV o := by
      intro o
      induction o with
      | nil => intro vs h; cases h; rfl
      | cons k o ih =>
        intro vs h
        rw [List.map_cons] at h
        cases h with
        | cons h1 h2 =>
          cases h1
          rw [ih _ h2]
          rfl
    rw [← key _ _ d]
    exact c
def spGd (K : PySem.W.Frag) : Sp := fun vs H Q _ => ∃ (A C : Addr) (ss : List Src) (m : Nat) (cs : Cnt), vs = [.ref A, .ref C] ∧ AskAt K H A ss ∧ Small ss ∧ Well ss m ∧ (ss.filter isWi).length = m ∧ 1 ≤ m ∧ m ≤ 3 ∧ CtAt K H C cs ∧ CnOk cs ∧
  ∀ (us : List V) (p : Addr) (H' : Hp), Same H H' → H p = none → H' p = some (.lst us) → DpAll K H' us ((goL ss cs m (anyP ss)).map encP) → Q (.ref p) H'
section
variable {P : Program} {w : World} {K : PySem.W.Frag} {mg : Str → Option Value} {base : Heap} {f fP fG fD : Addr} {fd dP dG dD : FuncData}
theorem ok_gd (F : Fun K "guessed" "guessed" sGd f fd) (ms : mg "sorted" = none)
    (FP : Fun K "plans_of" "plans_of" sPl fP dP) (GP : FnOk P w K mg base CX0 3 fP dP ["ask"] (spPl K)) (bP : Binds K dP ["ask"] []) (gP : mg "plans_of" = some (.ref fP))
    (FG : Fun K "guess" "guess" sGs fG dG) (GG : FnOk P w K mg base CX0 3 fG dG ["ask", "plan", "counts"] (spGs K)) (bG : Binds K dG ["ask", "plan", "counts"] []) (gG : mg "guess" = some (.ref fG)) :
    FnOk P w K mg base CX0 4 f fd ["ask", "counts"] (spGd K) := by
  refine F.ok scGd (fun vs H Q E h => ?_) (fun cdv A outer s H vs Q E hr h => ?_)
  · obtain ⟨A, C, ss, m, cs, rfl, _⟩ := h
    rfl
  obtain ⟨AK, C, ss, m, cs, rfl, hA, hs, hw, hm, m1, m3, hC, cok, q⟩ := h
  have nd := scGd.nd
  have zl : sizeLine = 16777216 := rfl
  refine ⟨_, pss_cons (ps_set (i := 2) nd rfl (by first | exact .inl rfl | exact .inr rfl) (pe_callB (call_sortedD hr.units) (by rfl) ms (by decide +kernel) (pa_cons (pe_lc (own := [("plan", 3)]) (g := gName 3) (tt := tYes) rfl nd (pi_list (pe_call GP (hr.mono (by decide)) (by rfl) gP FP.kp bP .nil pass0 (pa_cons (pv 0) pa_nil))) (blkOk_by (N := nGd) (sc := defScope sGd) (by decide +kernel)) (fun _ _ _ _ _ => pg_name (i := 3) nd rfl (Or.inl rfl)) (fun _ _ _ _ _ => pts_nil) (fun _ _ _ _ _ => (pe_tup (pa_cons (pe_call GG hr (by rfl) gG FG.kp bG .nil pass0 (pa_cons (pv 0) (pa_cons (pv 3) (pa_cons (pv 1) pa_nil)))) (pa_cons (pv 3) pa_nil))))) pa_nil)))
      (pss_one (ps_ret (pe_lc (own := [("looks", 4), ("plan", 3)]) (g := gTup K 2 (gCons (gName 4) (gCons (gName 3) gNil))) (tt := tYes) (wi := iList K _) rfl nd (pi_list (pv 2)) (blkOk_by (N := nGd) (sc := defScope sGd) (by decide +kernel)) (fun _ _ _ _ _ => pg_tup rfl (pgs_cons (pg_name (i := 4) nd rfl (Or.inl rfl)) (pgs_cons (pg_name (i := 3) nd rfl (Or.inl rfl)) pgs_nil))) (fun _ _ _ _ _ => pts_nil) (fun _ _ _ _ _ => (pv 3))))), ?_⟩
  obtain ⟨l1, l12⟩ := ow_len (b := anyP ss) m1 m3
  have ok : ∀ x ∈ plansOW m (anyP ss), OwOk m x := fun x h => ow_ok m1 m3 h
  have fil := List.length_filter_le isWi ss
  refine ⟨_, rfl, AK, ss, m, rfl, hA, hs, hw, hm, m1, m3, fun us PL H1 s1 nP eP hP hpl => ?_⟩
  rw [plans_ow] at hP
  have lu : us.length = (plansOW m (anyP ss)).length := by rw [DpAll.len hP, List.length_map]
  refine ⟨PL, rfl, ⟨_, SqL.of eP⟩, fun D nD => ?_⟩
  refine lc_it walk_list (fun i H2 => Same H1 H2 ∧ ∃ acc, H2 D = some (.lst acc) ∧ DpAll K H2 acc (((plansOW m (anyP ss)).take i).map (encG ss cs)) ∧ acc.length ≤ i) ⟨new_same nD, [], upd_same, .nil, Nat.le_refl _⟩ (fun i H2 _ h => SqL.of (h.1 _ _ eP)) ?_ ?_
  · rintro i x H2 H3 hi ⟨s2, acc, eD, hacc, lacc⟩ ⟨rfl, ex⟩
    obtain ⟨d, ed, hd⟩ := DpAll.at_ (DpAll.same s2 _ hP) ex
    rw [List.getElem?_map, Option.map_eq_some_iff] at ed
    obtain ⟨y, ey, rfl⟩ := ed
    have oy := ok y (List.mem_of_getElem? ey)
    obtain ⟨p, rfl, hp⟩ := pl_at hd
    have s12 := s1.trans s2
    have onl : ∀ i, tupOnlyAll (((plansOW m (anyP ss)).take i).map (encG ss cs)) = true := fun i => encGs_only ss cs _ fun x h => by have := (ok x (List.mem_of_mem_take h)).len; omega
    refine ⟨rfl, ?_⟩
    refine ⟨_, rfl, _, rfl, _, rfl, AK, p, C, ss, y.1, y.2, cs, rfl, ask_same s12 hA, hs, hp, hC.same s12, cok, by have := oy.len; omega, by have := oy.len; omega, oy.nod, oy.lt, fun H4 s4 => ?_⟩
    refine ⟨_, rfl, (by show 2 ≤ sizeLine; decide), fun t nt => ?_⟩
    have j5 := s4.trans (new_same (o := .tup [.int (guessN ss cs y.1 y.2), .ref p]) nt)
    have dt : Dp K (upd H4 t (.tup [.int (guessN ss cs y.1 y.2), .ref p])) (.ref t) (encG ss cs y) := .tup (SqT.of upd_same) (.cons (.int _) (.cons (Dp.same j5 _ hd) .nil))
    generalize upd H4 t (.tup [.int (guessN ss cs y.1 y.2), .ref p]) = H5 at j5 dt ⊢
    have e5 := j5 _ _ eD
    refine ⟨acc, e5, by omega, own_same nD (s2.trans j5), acc ++ [.ref t], upd_same, ?_, by rw [List.length_append]; show acc.length + 1 ≤ _; omega⟩
    have o1 := onl (i + 1)
    rw [take_at ey, List.map_append] at o1 ⊢
    exact DpAll.tups (Tups.upd_lst e5) _ o1 (DpAll.snoc (DpAll.same j5 _ hacc) dt)
  rintro H2 ⟨s2, acc, eD, hacc, lacc⟩
  rw [lu] at lacc
  rw [lu, List.take_length] at hacc
  refine ⟨D, acc, _, rfl, SqL.of eD, hacc, alike_go _ _ _, sort_go _ _ _, by rw [List.length_map]; omega, deep_go _ _ _, fun vs p np hv => ?_⟩
  rw [told_go] at hv
  have onG : tupOnlyAll ((goL ss cs m (anyP ss)).map (encG ss cs)) = true := encGs_only ss cs _ fun x h => by have := (ok x (go_mem h)).len; omega
  have j3 := new_same (o := .lst vs) np
  have s3 := (s1.trans s2).trans j3
  have hv3 := DpAll.same j3 _ hv
  have ep : upd H2 p (.lst vs) p = some (.lst vs) := upd_same
  generalize upd H2 p (.lst vs) = H3 at s3 hv3 ep ⊢
  have lv : vs.length = (goL ss cs m (anyP ss)).length := by rw [DpAll.len hv, List.length_map]
  have lg := go_len ss cs m (anyP ss)
  refine ⟨_, rfl, p, rfl, ⟨_, SqL.of ep⟩, fun E nE => ?_⟩
  have nE0 := s3.free nE
  refine lc_it walk_list (fun i H4 => Same H3 H4 ∧ ∃ acc, H4 E = some (.lst acc) ∧ DpAll K H4 acc (((goL ss cs m (anyP ss)).take i).map encP) ∧ acc.length ≤ i) ⟨new_same nE, [], upd_same, .nil, Nat.le_refl _⟩ (fun i H4 _ h => SqL.of (h.1 _ _ ep)) ?_ ?_
  · rintro i x H4 H5 hi ⟨s4, acc, eE, hacc, lacc⟩ ⟨rfl, ex⟩
    obtain ⟨d, ed, hd⟩ := DpAll.at_ (DpAll.same s4 _ hv3) ex
    rw [List.getElem?_map, Option.map_eq_some_iff] at ed
    obtain ⟨y, ey, rfl⟩ := ed
    have hi2 := at_lt ey
    cases hd with
    | tup a b =>
    cases b with
    | cons b1 b =>
    cases b with
    | @cons v2 _ _ _ b2 b =>
    cases b
    cases b1
    have o1 : tupOnlyAll (((goL ss cs m (anyP ss)).take (i + 1)).map encP) = true := encPs_only _ fun x h => by have := (ok x (go_mem (List.mem_of_mem_take h))).len; omega
    refine ⟨_, _, rfl, a, rfl, _, _, rfl, _, _, rfl, rfl, rfl, ?_⟩
    refine ⟨_, rfl, acc, eE, by omega, own_same nE s4, acc ++ [v2], upd_same, ?_, by rw [List.length_append]; show acc.length + 1 ≤ _; omega⟩
    rw [take_at ey, List.map_append] at o1 ⊢
    exact DpAll.tups (Tups.upd_lst eE) _ o1 (DpAll.snoc hacc b2)
  rintro H4 ⟨s4, acc2, eE, hacc2, _⟩
  rw [lv, List.take_length] at hacc2
  exact q acc2 E H4 (s3.trans s4) nE0 eE hacc2
end
end K22
end

section
set_option Elab.async false
set_option linter.all false
set_option maxRecDepth 100000
set_option maxHeartbeats 4000000
namespace K22
open PySem PySem.Spec PyProof.Rows L2 Gd
abbrev sCt : Stmt := topS 16
abbrev nCt : List Str := ["_law_pen_here", "_law_names_here", "_law_found", "_law_name", "_law_rows", "_law_unlikes", "_law_column", "_law_many"]
theorem scCt : FnScope nCt ["_law_pen_here", "_law_names_here"] (defScope sCt) := ⟨rfl, rfl, rfl, by decide +kernel, rfl, by decide +kernel, by decide +kernel⟩
def EOk (ns : List Str) (e : Str × Int × List (Str × Int)) : Prop := 0 ≤ e.2.1 ∧ e.2.1 ≤ 60 ∧ e.2.2.length ≤ 3 ∧ (e.2.2.map (·.1)).Nodup ∧ ∀ u ∈ e.2.2, u.1 ∈ ns ∧ 0 ≤ u.2 ∧ u.2 ≤ e.2.1
def CnS (ns : List Str) (cs : Cnt) : Prop := cs.length ≤ 5 ∧ (cs.map (·.1)).Nodup ∧ ∀ e ∈ cs, e.1 ∈ ns ∧ EOk ns e
theorem CnS.ok {ns : List Str} {cs : Cnt} (h : CnS ns cs) : CnOk cs := fun e he => by
  obtain ⟨_, a, b, _, _, d⟩ := h.2.2 e he
  have big : (60 : Int) ≤ 10 ^ 30 := by decide
  exact ⟨a, Int.le_trans b big, fun u hu => ⟨(d u hu).2.1, Int.le_trans (d u hu).2.2 (Int.le_trans b big)⟩⟩
theorem nodup_snoc {α : Type} {l : List α} {x : α} (h : l.Nodup) (n : x ∉ l) : (l ++ [x]).Nodup := List.nodup_append.mpr ⟨h, by simp, fun a ha b hb e => by rw [List.mem_singleton.mp hb] at e; exact n (e ▸ ha)⟩
theorem take_fresh {ns : List Str} (nd : ns.Nodup) {i : Nat} {x y : Str} (h : x ∈ ns.take i) (e : ns[i]? = some y) : x ≠ y := by
  rintro rfl
  obtain ⟨k, hk⟩ := List.mem_iff_getElem?.mp h
  rw [List.getElem?_take] at hk
  split at hk
  · rename_i lt
    have k1 := (List.getElem?_eq_some_iff.mp hk).1
    have := (List.getElem?_inj k1 nd).mp (hk.trans e.symm)
    omega
  · cases hk
theorem un_nodup {us : List (Str × Int)} (h : (us.map (·.1)).Nodup) : ((unV us).map (·.1)).Nodup := by
  have e : (unV us).map (·.1) = (us.map (·.1)).map (Sum.inr : Str → Key) := by
    unfold unV
    rw [List.map_map, List.map_map]
    rfl
  rw [e]
  exact List.pairwise_map.mpr (List.Pairwise.imp (fun n z => n (Sum.inr.inj z)) h)
theorem un_cg {K : PySem.W.Frag} {H : Hp} {N : Addr → Prop} {ns : List Str} : ∀ {us : List (Str × Int)}, (∀ u ∈ us, u.1 ∈ ns) → CgKv K H ns N (unV us) (unD us)
  | [], _ => .nil
  | u :: us, h => .cons (h u (by simp)) (.int _) (un_cg fun x hx => h x (List.mem_cons_of_mem _ hx))
theorem cg_of_cn {K : PySem.W.Frag} {H : Hp} {N : Addr → Prop} {ns : List Str} : ∀ {cs : Cnt} {kvs : List (Key × V)}, (∀ e ∈ cs, e.1 ∈ ns ∧ EOk ns e) → DgKv K H N kvs (cs.map cnE) → CgKv K H ns N kvs (cs.map cnE)
  | [], _, _, h => by cases h; exact .nil
  | e :: cs, _, o, h => by
    obtain ⟨e1, _, _, ul, un, uo⟩ := o e (by simp)
    cases h with
    | consS a b =>
      refine .cons e1 ?_ (cg_of_cn (fun x hx => o x (List.mem_cons_of_mem _ hx)) b)
      cases a with
      | tup t k =>
        cases k with
        | cons k1 k =>
          cases k1
          cases k with
          | cons k2 k =>
            cases k
            cases k2 with
            | dct eU nU kU =>
              have eu := kv_un kU
              subst eu
              exact .tup t (by show 2 ≤ 1000; decide) (.cons (.int _) (.cons (.dct eU nU (by unfold unD; rw [List.length_map]; omega) (un_nodup un) (un_cg fun u hu => (uo u hu).1)) .nil))
theorem cn_nodup {K : PySem.W.Frag} {H : Hp} {N : Addr → Prop} {cs : Cnt} {kvs : List (Key × V)} (h : DgKv K H N kvs (cs.map cnE)) (n : (cs.map (·.1)).Nodup) : (kvs.map (·.1)).Nodup := by
  have e := kv_names h
  have e2 : (kvs.map (·.1)).map kV = (cs.map (·.1)).map V.str := by rw [← e, List.map_map]; rfl
  have n2 : ((kvs.map (·.1)).map kV).Nodup := by
    rw [e2]
    exact List.pairwise_map.mpr (List.Pairwise.imp (fun n z => n (V.str.inj z)) n)
  exact List.Pairwise.imp (fun ne z => ne (congrArg kV z)) (List.pairwise_map.mp n2)
def spCt (K : PySem.W.Frag) : Sp := fun vs H Q _ => ∃ (l c a : Addr) (S : Int) (ns : List Str), vs = [.ref l, .ref a] ∧ Pen H l c S ∧ S ≤ 80000 ∧ H a = some (.lst (ns.map V.str)) ∧ a ≠ l ∧ ns.length = 5 ∧ ns.Nodup ∧
  ∀ (C : Addr) (cs : Cnt) (H' : Hp), Cg K H' ns (fun a => H a ≠ none) (.ref C) (cnD cs) → CnS ns cs → Pen H' l c (S + 80) → Ex1 l H H' → Q (.ref C) H'
section
variable {P : Program} {w : World} {K : PySem.W.Frag} {mg : Str → Option Value} {base : Heap} {f fT : Addr} {fd dT : FuncData}
theorem ok_ct (F : Fun K "_law_counts" "_law_counts" sCt f fd) (mm : mg "min" = none)
    (FT : Fun K "_law_take" "_law_take" sDraw fT dT) (GT : FnOk P w K mg base CX0 1 fT dT ["_law_pen_here", "_law_many"] spDraw) (bT : Binds K dT ["_law_pen_here", "_law_many"] []) (gT : mg "_law_take" = some (.ref fT)) :
    FnOk P w K mg base CX0 2 f fd ["_law_pen_here", "_law_names_here"] (spCt K) := by
  refine F.ok scCt (fun vs H Q E h => ?_) (fun cdv A outer s H vs Q E hr h => ?_)
  · obtain ⟨l, c, a, S, ns, rfl, _⟩ := h
    rfl
  obtain ⟨l, c, a, S, ns, rfl, hP, hS, eA, nal, n5, nn, q⟩ := h
  have nd := scCt.nd
  have hu := hu_of hr
  have zl : sizeLine = 16777216 := rfl
  refine ⟨_, pss_cons (ps_set (i := 2) nd rfl (.inl rfl) pe_dnewK)
      (pss_cons (ps_for PassesOwn.never rfl (pi_list (pv 1)) (pg_name (i := 3) nd rfl (.inl rfl))
      (pss_cons (ps_set (i := 4) nd rfl (.inl rfl) (pe_ix ix_list (pe_lst (pa_cons pe_int (pa_cons pe_int (pa_cons pe_int (pa_cons (pe_op op_add pe_int (pe_call GT hr (by rfl) gT FT.kp bT .nil pass0 (pa_cons (pv 0) (pa_cons pe_int pa_nil)))) (pa_cons (pe_call GT hr (by rfl) gT FT.kp bT .nil pass0 (pa_cons (pv 0) (pa_cons pe_int pa_nil))) pa_nil)))))) (pe_call GT hr (by rfl) gT FT.kp bT .nil pass0 (pa_cons (pv 0) (pa_cons pe_int pa_nil))) (fun _ _ => rfl)))
      (pss_cons (ps_set (i := 5) nd rfl (.inl rfl) pe_dnewK)
      (pss_cons (ps_for PassesOwn.never rfl (pi_list (pe_slice sl_list (pv 1) po_none (po_some pe_int))) (pg_name (i := 6) nd rfl (.inl rfl))
      (pss_cons (ps_set (i := 7) nd rfl (.inl rfl) (pe_callB (call_min2 rfl) (by rfl) mm (by decide +kernel) (pa_cons (pv 4) (pa_cons (pe_ix ix_list (pe_lst (pa_cons pe_int (pa_cons (pv 4) (pa_cons (pe_op op_add pe_int (pe_call GT hr (by rfl) gT FT.kp bT .nil pass0 (pa_cons (pv 0) (pa_cons pe_int pa_nil)))) pa_nil)))) (pe_call GT hr (by rfl) gT FT.kp bT .nil pass0 (pa_cons (pv 0) (pa_cons pe_int pa_nil))) (fun _ _ => rfl)) pa_nil))))
      (pss_one (ps_if (pt_cmpR op_gt (pe_call GT hr (by rfl) gT FT.kp bT .nil pass0 (pa_cons (pv 0) (pa_cons pe_int pa_nil))) pe_int (nomark _))
        (pss_one (ps_dput hu (pv 5) (pv 6) (pv 7) rfl)) pss_nil))))
      (pss_one (ps_if (pt_cmpR op_gt (pe_call GT hr (by rfl) gT FT.kp bT .nil pass0 (pa_cons (pv 0) (pa_cons pe_int pa_nil))) pe_int (nomark _))
        (pss_one (ps_dput hu (pv 2) (pv 3) (pe_tup (pa_cons (pv 4) (pa_cons (pv 5) pa_nil))) rfl)) pss_nil))))))
      (pss_one (ps_ret (pv 2)))), ?_⟩
  refine fun C nC => ?_
  have s1 := new_same (o := .dK []) nC
  have eC : upd H C (.dK []) C = some (.dK []) := upd_same
  have p1 := hP.same s1
  have eA1 := s1 _ _ eA
  have nAC : a ≠ C := ne_of_none eA nC
  have nCl := (hP.not nC).1
  generalize upd H C (.dK []) = H1 at s1 eC p1 eA1 ⊢
  obtain ⟨N, hN⟩ : ∃ N : Addr → Prop, N = fun a => H a ≠ none ∨ a = C := ⟨_, rfl⟩
  have Nl : N l := by rw [hN]; exact .inl (Pen.here hP)
  have NC : N C := by rw [hN]; exact .inr rfl
  refine ⟨_, rfl, a, rfl, ⟨_, SqL.of eA1⟩, ?_⟩
  refine for_it walk_list (fun i σ H3 => Ex1 l H H3 ∧ Pen H3 l c (S + 16 * ((i : Nat) : Int)) ∧ H3 a = some (.lst (ns.map V.str)) ∧ (∃ kvs cs, H3 C = some (.dK kvs) ∧ DgKv K H3 N kvs (cs.map cnE) ∧ cs.length ≤ i ∧ (cs.map (·.1)).Nodup ∧ ∀ e ∈ cs, e.1 ∈ ns.take i ∧ EOk ns e) ∧
      ∃ y3 y4 y5 y6 y7, σ = [some (.ref l), some (.ref a), some (.ref C), y3, y4, y5, y6, y7])
    ⟨ex1_same s1, by simpa using p1, eA1, ⟨[], [], eC, .nil, Nat.le_refl _, List.nodup_nil, (fun e h => nomatch h)⟩, none, none, none, none, none, rfl⟩ (fun i σ H3 _ h => SqL.of h.2.2.1) ?_ ?_
  · rintro i x σ H3 H4 hi ⟨x3, p3, eF3, ⟨kvs, cs, eC3, kC, lcs, ncs, ocs⟩, y3, y4, y5, y6, y7, rfl⟩ ⟨rfl, ex⟩
    obtain ⟨nm, en, rfl⟩ := map_at ex
    have hi5 : i < 5 := by have := at_lt en; omega
    -- rows
    refine ⟨_, rfl, l, c, 2, _, rfl, p3, by decide, by decide, by omega, fun r0 H5 r00 r01 p5 x5 => ?_⟩
    refine ⟨_, _, rfl, rfl, _, rfl, l, c, 61, _, rfl, p5, by decide, by decide, by omega, fun r1 H6 r10 r11 p6 x6 => ?_⟩
    refine ⟨(by show 5 ≤ sizeLine; decide), fun R5 nR5 => ?_⟩
    have j7 := new_same (o := .lst [.int 0, .int 1, .int 60, .int (9 + r0), .int r1]) nR5
    have eR : upd H6 R5 (.lst [.int 0, .int 1, .int 60, .int (9 + r0), .int r1]) R5 = some (.lst (([0, 1, 60, 9 + r0, r1] : List Int).map V.int)) := upd_same
    have p7 := p6.same j7
    have nRl := (p6.not nR5).1
    generalize upd H6 R5 (.lst [.int 0, .int 1, .int 60, .int (9 + r0), .int r1]) = H7 at j7 eR p7 ⊢
    refine ⟨_, rfl, l, c, 5, _, rfl, p7, by decide, by decide, by omega, fun r2 H8 r20 r21 p8 x8 => ?_⟩
    obtain ⟨rw_, hrw, erw⟩ := at_list (f := V.int) (xs := [0, 1, 60, 9 + r0, r1]) r20 (by simpa using r21)
    have rb : 0 ≤ rw_ ∧ rw_ ≤ 60 := by
      simp only [List.mem_cons, List.not_mem_nil, or_false] at hrw
      omega
    refine ⟨R5, _, _, .int rw_, rfl, rfl, SqL.of (x8 _ _ nRl eR), erw, ?_⟩
    obtain ⟨_, _, _, el3, _⟩ := id p3
    obtain ⟨_, _, _, el5, _⟩ := id p5
    obtain ⟨_, _, _, el7, _⟩ := id p7
    have k8 := DgKv.drawnN Nl el7 x8 (DgKv.same j7 (DgKv.drawnN Nl el5 x6 (DgKv.drawnN Nl el3 x5 kC)))
    have eC8 := x8 _ _ nCl (j7 _ _ (x6 _ _ nCl (x5 _ _ nCl eC3)))
    have eF8 := x8 _ _ nal (j7 _ _ (x6 _ _ nal (x5 _ _ nal eF3)))
    have x08 : Ex1 l H H8 := x3.trans (x5.trans (x6.trans ((ex1_same j7).trans x8)))
    clear erw hrw el3 el5 el7 eR j7 x5 x6 x8 p7 p6 p5 p3 kC eC3 eF3 x3
    -- unlike worths
    refine fun U nU => ?_
    have j8 := new_same (o := .dK []) nU
    have eU : upd H8 U (.dK []) U = some (.dK []) := upd_same
    have nUC : U ≠ C := fun e => by rw [e, eC8] at nU; cases nU
    have nUl := (p8.not nU).1
    have nUF : a ≠ U := fun e => by rw [← e, eF8] at nU; cases nU
    have nUH := free_ex1 x08 nUl nU
    have k9 : DgKv K (upd H8 U (.dK [])) (fun a => N a ∨ a = U) kvs (cs.map cnE) := DgKv.same j8 (DgKv.shun nU _ k8)
    have eC9 := j8 _ _ eC8
    have eF9 := j8 _ _ eF8
    have p9 := p8.same j8
    have x09 := x08.trans (ex1_same j8)
    generalize upd H8 U (.dK []) = H9 at j8 eU k9 eC9 eF9 p9 x09 ⊢
    clear j8 k8 eC8 eF8 p8 x08
    refine ⟨_, rfl, _, rfl, a, _, rfl, SqL.of eF9, fun L3 nL3 => ?_⟩
    have ecut : cutV (ns.map V.str) none (some 3) = (ns.take 3).map V.str := by
      rw [show (3 : Int) = ((3 : Nat) : Int) from rfl, cutV_to (by rw [List.length_map]; omega), List.map_take]
    rw [ecut]
    have j9 := new_same (o := .lst ((ns.take 3).map V.str)) nL3
    have eL : upd H9 L3 (.lst ((ns.take 3).map V.str)) L3 = some (.lst ((ns.take 3).map V.str)) := upd_same
    have nLl := (p9.not nL3).1
    have nLU : L3 ≠ U := fun e => by rw [e, eU] at nL3; cases nL3
    have eU10 := j9 _ _ eU
    have k10 := DgKv.same j9 k9
    have eC10 := j9 _ _ eC9
    have eF10 := j9 _ _ eF9
    have p10 := p9.same j9
    have x10 := x09.trans (ex1_same j9)
    generalize upd H9 L3 (.lst ((ns.take 3).map V.str)) = H10 at eL eU10 k10 eC10 eF10 p10 x10 ⊢
    clear j9 k9 eC9 eF9 p9 x09 eU
    have l3 : (ns.take 3).length = 3 := by rw [List.length_take]; omega
    have nn3 : (ns.take 3).Nodup := (List.take_sublist 3 ns).nodup nn
    have in3 : ∀ x ∈ ns.take 3, x ∈ ns := fun x h => List.mem_of_mem_take h
    generalize ns.take 3 = cols3 at eL l3 nn3 in3 ⊢
    refine ⟨L3, rfl, ⟨_, SqL.of eL⟩, ?_⟩
    refine for_it walk_list (fun j σ H3 => Ex1 l H H3 ∧ Pen H3 l c (S + 16 * ((i : Nat) : Int) + 3 + 4 * ((j : Nat) : Int)) ∧ H3 a = some (.lst (ns.map V.str)) ∧ H3 L3 = some (.lst (cols3.map V.str)) ∧ H3 C = some (.dK kvs) ∧ DgKv K H3 (fun a => N a ∨ a = U) kvs (cs.map cnE) ∧
        (∃ us : List (Str × Int), H3 U = some (.dK (us.map fun x => ((Sum.inr x.1 : Key), V.int x.2))) ∧ us.length ≤ j ∧ (us.map (·.1)).Nodup ∧ ∀ u ∈ us, u.1 ∈ cols3.take j ∧ 0 ≤ u.2 ∧ u.2 ≤ rw_) ∧ ∃ y6 y7, σ = [some (.ref l), some (.ref a), some (.ref C), some (.str nm), some (.int rw_), some (.ref U), y6, y7])
      ⟨x10, p10.le (by simp; omega), eF10, eL, eC10, k10, ⟨[], eU10, Nat.le_refl _, List.nodup_nil, (fun e h => nomatch h)⟩, y6, y7, rfl⟩ (fun j σ H3 _ h => SqL.of h.2.2.2.1) ?_ ?_
    · clear eL eU10 k10 eC10 eF10 p10 x10
      rintro j x σ H3 H4 hj ⟨x3, p3, eF3, eL3, eC3, k3, ⟨us, eU3, lus, nus, ous⟩, y6, y7, rfl⟩ ⟨rfl, ex⟩
      obtain ⟨cn, ec, rfl⟩ := map_at ex
      have hj3 : j < 3 := by have := at_lt ec; omega
      have Nl' : (fun a => N a ∨ a = U) l := .inl Nl
      have up : ∀ u ∈ us, u.1 ∈ cols3.take (j + 1) ∧ 0 ≤ u.2 ∧ u.2 ≤ rw_ := fun u hu => ⟨List.mem_of_mem_take (i := j) (by rw [List.take_take, Nat.min_eq_left (by omega)]; exact (ous u hu).1), (ous u hu).2⟩
      refine ⟨_, rfl, _, rfl, _, rfl, l, c, 60, _, rfl, p3, by decide, by decide, by omega, fun r3 H5 r30 r31 p5 x5 => ?_⟩
      obtain ⟨_, _, _, el3, _⟩ := id p3
      have k5 := DgKv.drawnN Nl' el3 x5 k3
      have x05 := x3.trans x5
      have eF5 := x5 _ _ nal eF3
      have eL5 := x5 _ _ nLl eL3
      have eC5 := x5 _ _ nCl eC3
      have eU5 := x5 _ _ nUl eU3
      refine ⟨_, _, rfl, rfl, (by show 3 ≤ sizeLine; decide), fun W nW => ?_⟩
      have j7 := new_same (o := .lst [.int 1, .int rw_, .int (1 + r3)]) nW
      have eW : upd H5 W (.lst [.int 1, .int rw_, .int (1 + r3)]) W = some (.lst (([1, rw_, 1 + r3] : List Int).map V.int)) := upd_same
      have nWl := (p5.not nW).1
      have k7 := DgKv.same j7 k5
      have x07 := x05.trans (ex1_same j7)
      have eF7 := j7 _ _ eF5
      have eL7 := j7 _ _ eL5
      have eC7 := j7 _ _ eC5
      have eU7 := j7 _ _ eU5
      have p7 := p5.same j7
      generalize upd H5 W (.lst [.int 1, .int rw_, .int (1 + r3)]) = H7 at eW k7 x07 eF7 eL7 eC7 eU7 p7 ⊢
      refine ⟨_, rfl, l, c, 3, _, rfl, p7, by decide, by decide, by omega, fun r5 H8 r50 r51 p8 x8 => ?_⟩
      obtain ⟨v0, hv0, ev0⟩ := at_list (f := V.int) (xs := [1, rw_, 1 + r3]) r50 (by simpa using r51)
      refine ⟨W, _, _, .int v0, rfl, rfl, SqL.of (x8 _ _ nWl eW), ev0, _, _, rfl, ?_⟩
      obtain ⟨vv, hvv⟩ : ∃ vv : Int, vv = (if v0 < rw_ then v0 else rw_) := ⟨_, rfl⟩
      rw [← hvv]
      have vb : 0 ≤ vv ∧ vv ≤ rw_ := by
        simp only [List.mem_cons, List.not_mem_nil, or_false] at hv0
        rw [hvv]
        split <;> omega
      obtain ⟨_, _, _, el7, _⟩ := id p7
      have k8 := DgKv.drawnN Nl' el7 x8 k7
      have x08 := x07.trans x8
      have eF8 := x8 _ _ nal eF7
      have eL8 := x8 _ _ nLl eL7
      have eC8 := x8 _ _ nCl eC7
      have eU8 := x8 _ _ nUl eU7
      refine ⟨_, rfl, l, c, 5, _, rfl, p8, by decide, by decide, by omega, fun r6 H9 r60 r61 p9 x9 => ?_⟩
      obtain ⟨_, _, _, el8, _⟩ := id p8
      have k9 := DgKv.drawnN Nl' el8 x9 k8
      have x09 := x08.trans x9
      have eF9 := x9 _ _ nal eF8
      have eL9 := x9 _ _ nLl eL8
      have eC9 := x9 _ _ nCl eC8
      have eU9 := x9 _ _ nUl eU8
      refine ⟨_, _, rfl, rfl, _, rfl, ite2 (fun e => ?_) (fun e => ?_)⟩
      · refine ⟨_, rfl, _, rfl, _, rfl, U, _, rfl, DPut.k (k := Sum.inr cn) eU9 (by rw [List.length_map]; omega), ?_⟩
        have fr : ∀ x ∈ us.map (fun x => ((Sum.inr x.1 : Key), V.int x.2)), x.1 ≠ Sum.inr cn := fun x hx z => by
          obtain ⟨u, hu, rfl⟩ := List.mem_map.mp hx
          exact take_fresh nn3 (ous u hu).1 ec (Sum.inr.inj z)
        rw [putK_fresh fr]
        refine ⟨own_ex1 nUH x09, (p9.off nUl (fun z => ?_)).le (by omega), by rw [upd_ne nUF]; exact eF9, by rw [upd_ne nLU]; exact eL9, by rw [upd_ne nUC.symm]; exact eC9, DgKv.other (.inr rfl) eU9 k9, ⟨us ++ [(cn, vv)], by rw [upd_same, List.map_append]; rfl, by rw [List.length_append]; show us.length + 1 ≤ _; omega, by rw [List.map_append]; exact nodup_snoc nus (fun h => by obtain ⟨u, hu, e⟩ := List.mem_map.mp h; exact take_fresh nn3 (ous u hu).1 ec e), fun u hu => ?_⟩, _, _, rfl⟩
        · obtain ⟨_, _, _, _, ecc, _⟩ := id p9
          rw [← z, eU9] at ecc
          cases ecc
        · rcases List.mem_append.mp hu with h | h
          · exact up u h
          · rw [List.mem_singleton.mp h]
            refine ⟨?_, vb⟩
            rw [take_at ec]
            simp
      · exact ⟨x09, p9.le (by omega), eF9, eL9, eC9, k9, ⟨us, eU9, by omega, nus, up⟩, _, _, rfl⟩
    · clear eL eU10 k10 eC10 eF10 p10 x10
      rintro σ H3 ⟨x3, p3, eF3, eL3, eC3, k3, ⟨us, eU3, lus, nus, ous⟩, y6, y7, rfl⟩
      have n3 : (cols3.map V.str).length = 3 := by rw [List.length_map]; exact l3
      rw [n3] at p3 lus ous
      have up : ∀ e ∈ cs, e.1 ∈ ns.take (i + 1) ∧ EOk ns e := fun e he => ⟨List.mem_of_mem_take (i := i) (by rw [List.take_take, Nat.min_eq_left (by omega)]; exact (ocs e he).1), (ocs e he).2⟩
      refine ⟨_, rfl, l, c, 6, _, rfl, p3, by decide, by decide, by omega, fun r3 H5 r30 r31 p5 x5 => ?_⟩
      obtain ⟨_, _, _, el3, _⟩ := id p3
      have k5 := DgKv.less (fun a h => .inl h) (DgKv.drawnN (.inl Nl) el3 x5 k3)
      have x05 := x3.trans x5
      have eF5 := x5 _ _ nal eF3
      have eC5 := x5 _ _ nCl eC3
      have eU5 := x5 _ _ nUl eU3
      have lk : kvs.length = cs.length := by rw [DgKv.len k5, List.length_map]
      refine ⟨_, _, rfl, rfl, _, rfl, ite2 (fun e => ?_) (fun e => ?_)⟩
      · refine ⟨_, rfl, _, rfl, (by show 2 ≤ sizeLine; decide), fun t nt => ?_⟩
        have j6 := new_same (o := .tup [.int rw_, .ref U]) nt
        have tt : SqT K (upd H5 t (.tup [.int rw_, .ref U])) t [.int rw_, .ref U] := SqT.of upd_same
        have k6 := DgKv.same j6 k5
        have eC6 := j6 _ _ eC5
        have eU6 := j6 _ _ eU5
        have eF6 := j6 _ _ eF5
        have x06 := x05.trans (ex1_same j6)
        have p6 := p5.same j6
        generalize upd H5 t (.tup [.int rw_, .ref U]) = H6 at tt k6 eC6 eU6 eF6 x06 p6 ⊢
        have notU : ¬ N U := by
          rw [hN]
          exact fun h => h.elim (fun h => h nUH) nUC
        have dt : Dg K H6 N (.ref t) (.tuple [.int rw_, .dict (unD us)]) := .tup tt (.cons (.int _) (.cons (.dct eU6 notU (unD_kv us)) .nil))
        refine ⟨_, rfl, _, rfl, C, _, rfl, DPut.k (k := Sum.inr nm) eC6 (by omega), ?_⟩
        have fr : ∀ x ∈ kvs, x.1 ≠ Sum.inr nm := fun x hx z => by
          obtain ⟨e, he, q⟩ := kv_keys k6 x hx
          rw [q] at z
          exact take_fresh nn (ocs e he).1 en (Sum.inr.inj z)
        rw [putK_fresh fr]
        have k7 := DgKv.snocS (x := nm) (DgKv.other (ys := kvs ++ [(Sum.inr nm, .ref t)]) NC eC6 k6) (Dg.other NC eC6 dt)
        refine ⟨own_ex1 nC x06, (p6.off nCl (fun z => ?_)).le (by omega), by rw [upd_ne nAC]; exact eF6, ⟨_, cs ++ [(nm, rw_, us)], upd_same, by rw [List.map_append]; exact k7, by rw [List.length_append]; show cs.length + 1 ≤ _; omega, by rw [List.map_append]; exact nodup_snoc ncs (fun h => by obtain ⟨e, he, q⟩ := List.mem_map.mp h; exact take_fresh nn (ocs e he).1 en q), fun e he => ?_⟩, _, _, _, _, _, rfl⟩
        · obtain ⟨_, _, _, _, ecc, _⟩ := id p6
          rw [← z, eC6] at ecc
          cases ecc
        · rcases List.mem_append.mp he with h | h
          · exact up e h
          · rw [List.mem_singleton.mp h]
            refine ⟨?_, rb.1, rb.2, lus, nus, fun u hu => ⟨in3 _ (List.mem_of_mem_take (ous u hu).1), (ous u hu).2⟩⟩
            rw [take_at en]
            simp
      · exact ⟨x05, p5.le (by omega), eF5, ⟨kvs, cs, eC5, k5, by omega, ncs, up⟩, _, _, _, _, _, rfl⟩
  · rintro σ H3 ⟨x3, p3, eF3, ⟨kvs, cs, eC3, kC, lcs, ncs, ocs⟩, y3, y4, y5, y6, y7, rfl⟩
    have n4 : (ns.map V.str).length = 5 := by rw [List.length_map]; exact n5
    rw [n4] at p3 lcs
    refine ⟨_, rfl, q C cs H3 (.dct eC3 (fun h => h nC) (by rw [List.length_map]; omega) (cn_nodup kC ncs) (cg_of_cn (fun e he => ⟨List.mem_of_mem_take (ocs e he).1, (ocs e he).2⟩) (by rw [← hN]; exact kC))) ⟨lcs, ncs, fun e he => ⟨List.mem_of_mem_take (ocs e he).1, (ocs e he).2⟩⟩ (p3.le (by omega)) x3⟩
end
end K22
end

section
set_option Elab.async false
set_option linter.all false
set_option maxRecDepth 100000
set_option maxHeartbeats 4000000
namespace K22
open PySem PySem.Spec PyProof.Rows L2 Gd
abbrev sMo : Stmt := topS 17
abbrev nMo : List Str := ["_law_pen_here", "_law_tally", "_law_is_rows", "_law_found", "_law_tables", "_law_at", "_law_k", "_law_name", "_law_rows", "_law_unlikes", "_law_inner", "_law_columns", "_law_column"]
theorem scMo : FnScope nMo ["_law_pen_here", "_law_tally", "_law_is_rows"] (defScope sMo) := ⟨rfl, rfl, rfl, by decide +kernel, rfl, by decide +kernel, by decide +kernel⟩
def spMo (K : PySem.W.Frag) : Sp := fun vs H Q _ => ∃ (l c C : Addr) (S : Int) (ns : List Str) (cs : Cnt) (b : Bool), vs = [.ref l, .ref C, .bl b] ∧ Pen H l c S ∧ S ≤ 80000 ∧ Dg K H (· = l) (.ref C) (cnD cs) ∧ CnS ns cs ∧
  ∀ (F : Addr) (fs : Cnt) (H' : Hp), Dg K H' (fun a => H a ≠ none) (.ref F) (cnD fs) → (fs.map (·.1)).Nodup → (∀ x, x ∈ fs.map (·.1) ↔ x ∈ cs.map (·.1)) → (∀ e' ∈ fs, ∃ e ∈ cs, RelE b e e') → Pen H' l c (S + 20) → Ex1 l H H' → Q (.ref F) H'
section
variable {P : Program} {w : World} {K : PySem.W.Frag} {mg : Str → Option Value} {base : Heap} {f fT : Addr} {fd dT : FuncData}
theorem ok_mo (F : Fun K "_law_more" "_law_more" sMo f fd) (ms : mg "sorted" = none) (ml : mg "list" = none) (md : mg "dict" = none) (mm : mg "min" = none) (mx : mg "max" = none) (me : mg "enumerate" = none) (mi : mg "int" = none) (mn : mg "len" = none)
    (FT : Fun K "_law_take" "_law_take" sDraw fT dT) (GT : FnOk P w K mg base CX0 1 fT dT ["_law_pen_here", "_law_many"] spDraw) (bT : Binds K dT ["_law_pen_here", "_law_many"] []) (gT : mg "_law_take" = some (.ref fT)) :
    FnOk P w K mg base CX0 2 f fd ["_law_pen_here", "_law_tally", "_law_is_rows"] (spMo K) := by
  refine F.ok scMo (fun vs H Q E h => ?_) (fun cdv A outer s H vs Q E hr h => ?_)
  · obtain ⟨l, c, C, S, ns, cs, b, rfl, _⟩ := h
    rfl
  obtain ⟨l, c, C, S, ns, cs, b, rfl, hP, hS, hC, hcs, q⟩ := h
  have nd := scMo.nd
  have hu := hu_of hr
  have zl : sizeLine = 16777216 := rfl
  refine ⟨_, pss_cons (ps_set (i := 3) nd rfl (.inl rfl) pe_dnewK)
      (pss_cons (ps_set (i := 4) nd rfl (.inl rfl) (pe_callB cr_sortedS (by rfl) ms (by decide +kernel) (pa_cons (pe_callTy (call_listD rfl) (by rfl) ml (by decide +kernel) (pa_cons (pv 1) pa_nil)) pa_nil)))
      (pss_cons (ps_set (i := 5) nd rfl (.inl rfl) (pe_call GT hr (by rfl) gT FT.kp bT .nil pass0 (pa_cons (pv 0) (pa_cons (pe_callB (call_max2 rfl) (by rfl) mx (by decide +kernel) (pa_cons pe_int (pa_cons (pe_callB call_len_seq (by rfl) mn PySem.boot_len (pa_cons (pv 4) pa_nil)) pa_nil))) pa_nil))))
      (pss_cons (ps_for PassesOwn.never rfl (pi_enum (by rfl) me (pa_cons (pv 4) pa_nil)) (pg_tup rfl (pgs_cons (pg_name (i := 6) nd rfl (.inl rfl)) (pgs_cons (pg_name (i := 7) nd rfl (.inl rfl)) pgs_nil)))
      (pss_cons (ps_asg (pe_dget hu (pv 1) (pv 7) (fun _ _ => rfl)) (pg_tup rfl (pgs_cons (pg_name (i := 8) nd rfl (.inl rfl)) (pgs_cons (pg_name (i := 9) nd rfl (.inl rfl)) pgs_nil)))) (pss_cons (ps_set (i := 10) nd rfl (.inl rfl) (pe_callTy call_dictD (by rfl) md (by decide +kernel) (pa_cons (pv 9) pa_nil))) (pss_cons (ps_set (i := 11) nd rfl (.inl rfl) (pe_callB cr_sortedS (by rfl) ms (by decide +kernel) (pa_cons (pe_callTy (call_listD rfl) (by rfl) ml (by decide +kernel) (pa_cons (pv 10) pa_nil)) pa_nil))) (C8.pss_cut (ps_if (PW.pt (pw_and (pt_cmpR op_eq (pv 6) (pv 5) (nomark _)) (pw_and (pt_not (pt_val (pv 2))) (pw_and1 (pt_cmpR (op_neL0 hr.units0) (pv 11) (pe_lst pa_nil) (nomark _)))))) (pss_cons (ps_set (i := 12) nd rfl (.inl rfl) (pe_ix ix_list (pv 11) (pe_call GT hr (by rfl) gT FT.kp bT .nil pass0 (pa_cons (pv 0) (pa_cons (pe_callB call_len_seq (by rfl) mn PySem.boot_len (pa_cons (pv 11) pa_nil)) pa_nil))) (fun _ _ => rfl)))
      (pss_one (ps_dput hu (pv 10) (pv 12) (pe_callB (call_min2 rfl) (by rfl) mm (by decide +kernel) (pa_cons (pv 8) (pa_cons (pe_op op_add (pe_op op_add (pe_dget hu (pv 10) (pv 12) (fun _ _ => rfl)) pe_int) (pe_call GT hr (by rfl) gT FT.kp bT .nil pass0 (pa_cons (pv 0) (pa_cons pe_int pa_nil)))) pa_nil))) rfl))) pss_nil) (pss_one (ps_dput hu (pv 3) (pv 7) (pe_tup (pa_cons (pe_op op_add (pv 8) (pe_op op_mul (pe_callTy call_int1 (by rfl) mi (by decide +kernel) (pa_cons (pe_and (pe_cmpR op_eq (pv 6) (pv 5) (nomark _)) (pe_one (pv 2))) pa_nil)) (pe_op op_add pe_int (pe_call GT hr (by rfl) gT FT.kp bT .nil pass0 (pa_cons (pv 0) (pa_cons pe_int pa_nil)))))) (pa_cons (pv 10) pa_nil))) rfl)))))))
      (pss_one (ps_ret (pv 3)))))), ?_⟩
  refine fun FA nFH => ?_
  have s1 := new_same (o := .dK []) nFH
  have eF : upd H FA (.dK []) FA = some (.dK []) := upd_same
  have p1 := hP.same s1
  have nFl := (hP.not nFH).1
  obtain ⟨kvs, eC, kC⟩ : ∃ kvs, H C = some (.dK kvs) ∧ DgKv K H (· = l) kvs (cs.map cnE) := by
    cases hC with
    | dct e _ k => exact ⟨_, e, k⟩
  have nCF : C ≠ FA := ne_of_none eC nFH
  have nCl : C ≠ l := fun e => by
    obtain ⟨_, _, _, el, _⟩ := id hP
    rw [← e, eC] at el
    cases el
  have kC1 : DgKv K (upd H FA (.dK [])) (fun a => a = l ∨ a = FA) kvs (cs.map cnE) := DgKv.same s1 (DgKv.shun nFH _ kC)
  have eC1 := s1 _ _ eC
  generalize upd H FA (.dK []) = H1 at s1 eF p1 kC1 eC1 ⊢
  have hnm := kv_names kC
  have lkv : kvs.length = cs.length := by rw [DgKv.len kC, List.length_map]
  have c5 := hcs.1
  refine ⟨_, rfl, C, kvs, rfl, .inl eC1, fun L0 nL0 => ?_⟩
  rw [hnm]
  have j2 := new_same (o := .lst ((cs.map (·.1)).map V.str)) nL0
  have eL0 : upd H1 L0 (.lst ((cs.map (·.1)).map V.str)) L0 = some (.lst ((cs.map (·.1)).map V.str)) := upd_same
  have s2 := s1.trans j2
  have eF2 := j2 _ _ eF
  have kC2 := DgKv.same j2 kC1
  have eC2 := j2 _ _ eC1
  generalize upd H1 L0 (.lst ((cs.map (·.1)).map V.str)) = H2 at s2 eF2 kC2 eC2 eL0 ⊢
  refine ⟨L0, _, rfl, SqL.of eL0, by rw [List.length_map]; omega, fun ys TL perm _ nTL => ?_⟩
  have j3 := new_same (o := .lst (ys.map V.str)) nTL
  have eT : upd H2 TL (.lst (ys.map V.str)) TL = some (.lst (ys.map V.str)) := upd_same
  have s3 := s2.trans j3
  have eF3 := j3 _ _ eF2
  have kC3 := DgKv.same j3 kC2
  have eC3 := j3 _ _ eC2
  have p3 := hP.same s3
  have nTl := ((hP.same s2).not nTL).1
  have nTF : TL ≠ FA := fun e => by rw [e, eF2] at nTL; cases nTL
  generalize upd H2 TL (.lst (ys.map V.str)) = H3 at s3 eF3 kC3 eC3 p3 eT ⊢
  have ly : ys.length = cs.length := by rw [perm.length_eq, List.length_map]
  have ny : ys.Nodup := perm.nodup_iff.mpr hcs.2.1
  refine ⟨_, rfl, _, rfl, TL, _, rfl, .inl (SqL.of eT), _, _, rfl, ?_⟩
  obtain ⟨mxv, hmx⟩ : ∃ z : Int, z = (if (((ys.map V.str).length : Nat) : Int) > 1 then (((ys.map V.str).length : Nat) : Int) else 1) := ⟨_, rfl⟩
  rw [← hmx]
  have mxb : 1 ≤ mxv ∧ mxv ≤ 5 := by
    rw [hmx, List.length_map]
    split <;> omega
  refine ⟨l, c, _, _, rfl, p3, by omega, by omega, by omega, fun atk H4 at0 at1 p4 x4 => ?_⟩
  obtain ⟨_, _, _, el3, _⟩ := id p3
  have kC4 := DgKv.drawnN (.inl rfl) el3 x4 kC3
  have eF4 := x4 _ _ nFl eF3
  have eC4 := x4 _ _ nCl eC3
  have eT4 := x4 _ _ nTl eT
  have x04 := (ex1_same s3).trans x4
  clear j2 j3 s1 s2 s3 kC1 kC2 kC3 eC1 eC2 eC3 eF eF2 eF3 eT eL0 p1 p3 x4 el3
  refine ⟨_, rfl, TL, _, rfl, SqL.of eT4, ?_⟩
  refine for_it walk_enum (fun i σ H3 => Ex1 l H H3 ∧ Pen H3 l c (S + 1 + 3 * ((i : Nat) : Int)) ∧ H3 TL = some (.lst (ys.map V.str)) ∧ (H3 C = some (.dK kvs) ∧ DgKv K H3 (fun a => a = l ∨ a = FA) kvs (cs.map cnE)) ∧
      (∃ fk fs, H3 FA = some (.dK fk) ∧ DgKv K H3 (fun a => H a ≠ none ∨ a = FA) fk (fs.map cnE) ∧ fs.map (·.1) = ys.take i ∧ ∀ e' ∈ fs, ∃ e ∈ cs, RelE b e e') ∧
      ∃ y6 y7 y8 y9 y10 y11 y12, σ = [some (.ref l), some (.ref C), some (.bl b), some (.ref FA), some (.ref TL), some (.int atk), y6, y7, y8, y9, y10, y11, y12])
    ⟨x04, p4.le (by simp), eT4, ⟨eC4, kC4⟩, ⟨[], [], eF4, .nil, rfl, (fun e h => nomatch h)⟩, none, none, none, none, none, none, none, rfl⟩ (fun i σ H3 _ h => SqL.of h.2.2.1) ?_ ?_
  · clear x04 p4 eT4 eC4 kC4 eF4
    rintro i x σ H3 H4 hi ⟨x3, p3, eT3, ⟨eC3, kC3⟩, ⟨fk, fs, eF3, kF3, hfs, rel⟩, y6, y7, y8, y9, y10, y11, y12, rfl⟩ ⟨T0, x1, x2, rfl, nT0, rfl, ei, ex⟩
    cases ei
    obtain ⟨nm, en, rfl⟩ := map_at ex
    have hi2 := at_lt en
    have hnm2 : nm ∈ cs.map (·.1) := perm.mem_iff.mp (List.mem_of_getElem? en)
    obtain ⟨e, he, rfl⟩ := List.mem_map.mp hnm2
    obtain ⟨_, e0, e60, eus, eun, euu⟩ := hcs.2.2 e he
    have lfs : fs.length = i := by
      have := congrArg List.length hfs
      rw [List.length_map, List.length_take] at this
      omega
    have lfk : fk.length = i := by rw [DgKv.len kF3, List.length_map, lfs]
    have fr : ∀ x ∈ fk, x.1 ≠ Sum.inr e.1 := fun x hx z => by
      obtain ⟨e2, he2, q⟩ := kv_keys kF3 x hx
      rw [q] at z
      have m : e2.1 ∈ fs.map (·.1) := List.mem_map_of_mem he2
      rw [hfs] at m
      exact take_fresh ny m en (Sum.inr.inj z)
    -- the pair of enumerate
    have j0 := new_same (o := .tup [.int ((i : Nat) : Int), .str e.1]) nT0
    have tt0 : SqT K (upd H3 T0 (.tup [.int ((i : Nat) : Int), .str e.1])) T0 [.int ((i : Nat) : Int), .str e.1] := SqT.of upd_same
    have p4 := p3.same j0
    have eT4 := j0 _ _ eT3
    have eC4 := j0 _ _ eC3
    have eF4 := j0 _ _ eF3
    have kC4 := DgKv.same j0 kC3
    have kF4 := DgKv.same j0 kF3
    have x04 := x3.trans (ex1_same j0)
    refine ⟨T0, _, rfl, tt0, rfl, _, _, rfl, _, _, rfl, rfl, ?_⟩
    generalize upd H3 T0 (.tup [.int ((i : Nat) : Int), .str e.1]) = H4 at p4 eT4 eC4 eF4 kC4 kF4 x04 ⊢
    clear j0 tt0 p3 eT3 eC3 eF3 kC3 kF3 x3
    -- the table's counts
    have efc : findC cs e.1 = some e := findC_of hcs.2.1 e he
    obtain ⟨te, u, uk, ev, tte, eu, ku⟩ : ∃ te u uk, valV kvs (Sum.inr e.1) = some (.ref te) ∧ SqT K H4 te [.int e.2.1, .ref u] ∧ H4 u = some (.dK uk) ∧ DgKv K H4 (fun a => a = l ∨ a = FA) uk (unD e.2.2) := by
      rcases kv_ent e.1 kC4 with ⟨f, _⟩ | ⟨e2, te, f, v, dg⟩
      · rw [efc] at f
        cases f
      · rw [efc] at f
        cases f
        cases dg with
        | tup a b =>
        cases b with
        | cons b1 b =>
        cases b with
        | cons b2 b =>
        cases b
        cases b1
        cases b2 with
        | dct e2 _ k2 => exact ⟨te, _, _, v, a, e2, k2⟩
    have euk := kv_un ku
    subst euk
    refine ⟨_, rfl, _, rfl, C, _, rfl, by rw [← ev]; exact DGet.k (k := Sum.inr e.1) eC4, te, _, rfl, tte, rfl, _, _, rfl, _, _, rfl, rfl, ?_⟩
    refine ⟨_, rfl, u, _, rfl, .inl eu, fun D nD => ?_⟩
    have nDl := (p4.not nD).1
    have nDF : D ≠ FA := fun e => by rw [e, eF4] at nD; cases nD
    have nDC : D ≠ C := fun e => by rw [e, eC4] at nD; cases nD
    have nDT : TL ≠ D := fun e => by rw [← e, eT4] at nD; cases nD
    have nDH := free_ex1 x04 nDl nD
    have j5 := new_same (o := .dK (unV e.2.2)) nD
    have eD5 : upd H4 D (.dK (unV e.2.2)) D = some (.dK (unV e.2.2)) := upd_same
    have p5 := p4.same j5
    have eT5 := j5 _ _ eT4
    have eC5 := j5 _ _ eC4
    have eF5 := j5 _ _ eF4
    have kC5 := DgKv.same j5 (DgKv.shun nD _ kC4)
    have kF5 := DgKv.same j5 (DgKv.shun nD _ kF4)
    have x05 := x04.trans (ex1_same j5)
    generalize upd H4 D (.dK (unV e.2.2)) = H5 at eD5 p5 eT5 eC5 eF5 kC5 kF5 x05 ⊢
    clear j5 p4 eT4 eC4 eF4 kC4 kF4 x04 tte eu ku ev
    refine ⟨_, rfl, D, _, rfl, .inl eD5, fun L1 nL1 => ?_⟩
    rw [unV_keys]
    have j6 := new_same (o := .lst ((e.2.2.map (·.1)).map V.str)) nL1
    have eL1 : upd H5 L1 (.lst ((e.2.2.map (·.1)).map V.str)) L1 = some (.lst ((e.2.2.map (·.1)).map V.str)) := upd_same
    have eD6 := j6 _ _ eD5
    have p6 := p5.same j6
    have eT6 := j6 _ _ eT5
    have eC6 := j6 _ _ eC5
    have eF6 := j6 _ _ eF5
    have kC6 := DgKv.same j6 kC5
    have kF6 := DgKv.same j6 kF5
    have x06 := x05.trans (ex1_same j6)
    generalize upd H5 L1 (.lst ((e.2.2.map (·.1)).map V.str)) = H6 at eL1 eD6 p6 eT6 eC6 eF6 kC6 kF6 x06 ⊢
    clear j6 p5 eT5 eC5 eF5 kC5 kF5 x05 eD5
    refine ⟨L1, _, rfl, SqL.of eL1, by rw [List.length_map]; omega, fun zs ZL permz _ nZL => ?_⟩
    have j7 := new_same (o := .lst (zs.map V.str)) nZL
    have eZ : upd H6 ZL (.lst (zs.map V.str)) ZL = some (.lst (zs.map V.str)) := upd_same
    have nZl := (p6.not nZL).1
    have nZD : ZL ≠ D := fun e => by rw [e, eD6] at nZL; cases nZL
    have eD7 := j7 _ _ eD6
    have p7 := p6.same j7
    have eT7 := j7 _ _ eT6
    have eC7 := j7 _ _ eC6
    have eF7 := j7 _ _ eF6
    have kC7 := DgKv.same j7 kC6
    have kF7 := DgKv.same j7 kF6
    have x07 := x06.trans (ex1_same j7)
    generalize upd H6 ZL (.lst (zs.map V.str)) = H7 at eZ eD7 p7 eT7 eC7 eF7 kC7 kF7 x07 ⊢
    clear j7 p6 eT6 eC6 eF6 kC6 kF6 x06 eD6 eL1
    have lz : zs.length = e.2.2.length := by rw [permz.length_eq, List.length_map]
    -- a column more
    refine ⟨fun σ' H6 => Ex1 l H H6 ∧ Pen H6 l c (S + 1 + 3 * ((i : Nat) : Int) + 2) ∧ H6 TL = some (.lst (ys.map V.str)) ∧ (H6 C = some (.dK kvs) ∧ DgKv K H6 (fun a => (a = l ∨ a = FA) ∨ a = D) kvs (cs.map cnE)) ∧ (H6 FA = some (.dK fk) ∧ DgKv K H6 (fun a => (H a ≠ none ∨ a = FA) ∨ a = D) fk (fs.map cnE)) ∧
        (∃ us', H6 D = some (.dK (unV us')) ∧ (∀ d, unlC e.2.2 d ≤ unlC us' d) ∧ (b = true → us' = e.2.2) ∧ ∀ u ∈ us', 0 ≤ u.2 ∧ u.2 ≤ 200) ∧
        ∃ y12, σ' = [some (.ref l), some (.ref C), some (.bl b), some (.ref FA), some (.ref TL), some (.int atk), some (.int ((i : Nat) : Int)), some (.str e.1), some (.int e.2.1), some (.ref u), some (.ref D), some (.ref ZL), y12], ?_, ?_⟩
    · have stay : Ex1 l H H7 ∧ Pen H7 l c (S + 1 + 3 * ((i : Nat) : Int) + 2) ∧ H7 TL = some (.lst (ys.map V.str)) ∧ (H7 C = some (.dK kvs) ∧ DgKv K H7 (fun a => (a = l ∨ a = FA) ∨ a = D) kvs (cs.map cnE)) ∧ (H7 FA = some (.dK fk) ∧ DgKv K H7 (fun a => (H a ≠ none ∨ a = FA) ∨ a = D) fk (fs.map cnE)) ∧
          (∃ us', H7 D = some (.dK (unV us')) ∧ (∀ d, unlC e.2.2 d ≤ unlC us' d) ∧ (b = true → us' = e.2.2) ∧ ∀ u ∈ us', 0 ≤ u.2 ∧ u.2 ≤ 200) :=
        ⟨x07, p7.le (by omega), eT7, ⟨eC7, kC7⟩, ⟨eF7, kF7⟩, e.2.2, eD7, fun _ => Int.le_refl _, fun _ => rfl, fun u hu => ⟨(euu u hu).2.1, by have := (euu u hu).2.2; omega⟩⟩
      refine ⟨_, rfl, _, rfl, rfl, _, rfl, ite2 (fun _ => ?_) (fun _ => ?_)⟩
      rotate_left
      · obtain ⟨a1, a2, a3, a4, a5, a6⟩ := stay
        exact ⟨a1, a2, a3, a4, a5, a6, _, rfl⟩
      refine ⟨_, rfl, _, rfl, ?_⟩
      cases hb : b with
      | true =>
        rw [hb] at stay
        obtain ⟨a1, a2, a3, a4, a5, a6⟩ := stay
        exact iteF ⟨a1, a2, a3, a4, a5, a6, _, rfl⟩
      | false =>
        rw [hb] at stay
        refine iteT ⟨_, rfl, Nat.zero_le _, fun W nW => ?_⟩
        have jW := new_same (o := .lst []) nW
        refine ⟨ZL, W, _, rfl, rfl, SqL.of (jW _ _ eZ), SqL.of upd_same, _, rfl, ite2 (fun hne => ?_) (fun _ => ?_)⟩
        rotate_left
        · obtain ⟨a1, a2, a3, ⟨a4, a5⟩, ⟨a6, a7⟩, us', a8, a9⟩ := stay
          exact ⟨a1.trans (ex1_same jW), a2.same jW, jW _ _ a3, ⟨jW _ _ a4, DgKv.same jW a5⟩, ⟨jW _ _ a6, DgKv.same jW a7⟩, ⟨us', jW _ _ a8, a9⟩, _, rfl⟩
        clear stay
        have zpos : 0 < zs.length := by
          cases zs with
          | nil => exact absurd hne (by simp)
          | cons _ _ => exact Nat.succ_pos _
        have eZ8 := jW _ _ eZ
        have eD8 := jW _ _ eD7
        have p8 := p7.same jW
        have eT8 := jW _ _ eT7
        have eC8 := jW _ _ eC7
        have eF8 := jW _ _ eF7
        have kC8 := DgKv.same jW kC7
        have kF8 := DgKv.same jW kF7
        have x08 := x07.trans (ex1_same jW)
        generalize upd H7 W (.lst []) = H8 at eZ8 eD8 p8 eT8 eC8 eF8 kC8 kF8 x08 ⊢
        refine ⟨_, rfl, _, rfl, _, rfl, ZL, _, rfl, .inl (SqL.of eZ8), l, c, _, _, rfl, p8, by rw [List.length_map]; omega, by rw [List.length_map]; omega, by omega, fun r1 H9 r10 r11 p9 x9 => ?_⟩
        obtain ⟨_, _, _, el8, _⟩ := id p8
        obtain ⟨cl, hcl, ecl⟩ := at_list (f := V.str) (xs := zs) r10 (by rw [List.length_map] at r11; exact r11)
        have clm : cl ∈ e.2.2.map (·.1) := permz.mem_iff.mp hcl
        refine ⟨ZL, _, _, .str cl, rfl, rfl, SqL.of (x9 _ _ nZl eZ8), ecl, ?_⟩
        have kC9 := DgKv.drawnN (.inl (.inl rfl)) el8 x9 kC8
        have kF9 := DgKv.drawnN (.inl (.inl (Pen.here hP))) el8 x9 kF8
        have eD9 := x9 _ _ nDl eD8
        have eT9 := x9 _ _ nTl eT8
        have eC9 := x9 _ _ nCl eC8
        have eF9 := x9 _ _ nFl eF8
        have x09 := x08.trans x9
        obtain ⟨cu, hcu, hcu1⟩ := List.mem_map.mp clm
        have fcu : findC e.2.2 cl = some cu := by rw [← hcu1]; exact findC_of eun cu hcu
        have vcl : valV (unV e.2.2) (Sum.inr cl) = some (.int cu.2) := by
          have := kv_unl (K := K) (H := H9) (N := fun _ => False) cl (unD_kv e.2.2)
          rw [fcu] at this
          exact this
        refine ⟨_, rfl, _, rfl, _, rfl, D, _, rfl, by rw [← vcl]; exact DGet.k (k := Sum.inr cl) eD9, _, _, rfl, rfl, ?_⟩
        refine ⟨_, rfl, l, c, 20, _, rfl, p9, by decide, by decide, by omega, fun r2 H10 r20 r21 p10 x10 => ?_⟩
        obtain ⟨_, _, _, el9, _⟩ := id p9
        have kC10 := DgKv.drawnN (.inl (.inl rfl)) el9 x10 kC9
        have kF10 := DgKv.drawnN (.inl (.inl (Pen.here hP))) el9 x10 kF9
        have eD10 := x10 _ _ nDl eD9
        have eT10 := x10 _ _ nTl eT9
        have eC10 := x10 _ _ nCl eC9
        have eF10 := x10 _ _ nFl eF9
        have x010 := x09.trans x10
        obtain ⟨cb1, cb2⟩ := (euu cu hcu).2
        refine ⟨_, _, rfl, rfl, _, _, rfl, ?_⟩
        obtain ⟨vv, hvv⟩ : ∃ z : Int, z = (if cu.2 + 1 + r2 < e.2.1 then cu.2 + 1 + r2 else e.2.1) := ⟨_, rfl⟩
        rw [← hvv]
        have vb : cu.2 ≤ vv ∧ vv ≤ 60 := by
          rw [hvv]
          split <;> omega
        refine ⟨_, rfl, _, rfl, D, _, rfl, DPut.k (k := Sum.inr cl) eD10 (by unfold unV; rw [List.length_map]; omega), ?_⟩
        rw [putK_setU clm]
        refine ⟨own_ex1 nDH x010, (p10.off nDl (fun z => ?_)).le (by omega), by rw [upd_ne nDT]; exact eT10, ⟨by rw [upd_ne nDC.symm]; exact eC10, DgKv.other (.inr rfl) eD10 kC10⟩, ⟨by rw [upd_ne nDF.symm]; exact eF10, DgKv.other (.inr rfl) eD10 kF10⟩, ⟨setU e.2.2 cl vv, upd_same, fun d => unl_setU (by unfold unlC; rw [fcu]; exact vb.1), (fun h => nomatch h), fun x hx => ?_⟩, _, rfl⟩
        · obtain ⟨_, _, _, _, ecc, _⟩ := id p10
          rw [← z, eD10] at ecc
          cases ecc
        · unfold setU at hx
          obtain ⟨y, hy, rfl⟩ := List.mem_map.mp hx
          have := euu y hy
          split
          · show 0 ≤ vv ∧ vv ≤ 200
            omega
          · omega
    clear p7 eT7 eC7 eF7 kC7 kF7 x07 eD7 eZ
    rintro σ6 H6 ⟨x06, p6, eT6, ⟨eC6, kC6⟩, ⟨eF6, kF6⟩, ⟨us', eD6, hup, hbt, hin⟩, y12, rfl⟩
    refine ⟨_, rfl, _, rfl, _, rfl, rfl, _, rfl, ite2 (fun _ => ?_) (fun _ => ?_)⟩
    · refine ⟨_, rfl, ?_⟩
      refine .inr ⟨_, rfl, ?_⟩
      refine ⟨_, rfl, l, c, 70, _, rfl, p6, by decide, by decide, by omega, fun r9 H9 r90 r91 p9 x9 => ?_⟩
      refine ⟨_, _, rfl, rfl, _, _, rfl, rfl, .inl ⟨by (cases b <;> decide), by (cases b <;> decide)⟩, _, _, rfl, rfl, _, rfl, (by show 2 ≤ sizeLine; decide), fun t nt => ?_⟩
      obtain ⟨_, _, _, el6, _⟩ := id p6
      have kC9 := DgKv.drawnN (.inl (.inl rfl)) el6 x9 kC6
      have kF9 := DgKv.drawnN (.inl (.inl (Pen.here hP))) el6 x9 kF6
      obtain ⟨rw2, hrw⟩ : ∃ z : Int, z = e.2.1 + (if b = true then 1 else 0) * (1 + r9) := ⟨_, rfl⟩
      have j := new_same (o := .tup [.int (e.2.1 + (if b = true then 1 else 0) * (1 + r9)), .ref D]) nt
      have kC10 := DgKv.less (fun a h => .inl h) (DgKv.same j kC9)
      have kF10 := DgKv.less (fun a h => .inl h) (DgKv.same j kF9)
      have tt : SqT K (upd H9 t (.tup [.int (e.2.1 + (if b = true then 1 else 0) * (1 + r9)), .ref D])) t [.int rw2, .ref D] := by rw [hrw]; exact SqT.of upd_same
      have eF10 := j _ _ (x9 _ _ nFl eF6)
      have eT10 := j _ _ (x9 _ _ nTl eT6)
      have eC10 := j _ _ (x9 _ _ nCl eC6)
      have eD10 := j _ _ (x9 _ _ nDl eD6)
      have x10 := (x06.trans x9).trans (ex1_same j)
      have p10 := p9.same j
      generalize upd H9 t (.tup [.int (e.2.1 + (if b = true then 1 else 0) * (1 + r9)), .ref D]) = H10 at kC10 kF10 tt eF10 eT10 eC10 eD10 x10 p10 ⊢
      have notD : ¬ (H D ≠ none ∨ D = FA) := fun h => h.elim (fun h => h nDH) nDF
      have dt : Dg K H10 (fun a => H a ≠ none ∨ a = FA) (.ref t) (.tuple [.int rw2, .dict (unD us')]) := .tup tt (.cons (.int _) (.cons (.dct eD10 notD (unD_kv us')) .nil))
      refine ⟨_, rfl, _, rfl, FA, _, rfl, DPut.k (k := Sum.inr e.1) eF10 (by rw [lfk]; omega), ?_⟩
      rw [putK_fresh fr]
      have k11 := DgKv.snocS (x := e.1) (DgKv.other (ys := fk ++ [(Sum.inr e.1, .ref t)]) (.inr rfl) eF10 kF10) (Dg.other (.inr rfl) eF10 dt)
      refine ⟨own_ex1 nFH x10, (p10.off nFl (fun z => ?_)).le (by omega), by rw [upd_ne nTF]; exact eT10, ⟨by rw [upd_ne nCF]; exact eC10, DgKv.other (.inr rfl) eF10 kC10⟩, ⟨_, fs ++ [(e.1, rw2, us')], upd_same, by rw [List.map_append]; exact k11, ?_, fun e' he' => ?_⟩, _, _, _, _, _, _, _, rfl⟩
      · obtain ⟨_, _, _, _, ecc, _⟩ := id p10
        rw [← z, eF10] at ecc
        cases ecc
      · rw [take_at en, List.map_append, hfs]
        rfl
      · rcases List.mem_append.mp he' with h | h
        · exact rel e' h
        · rw [List.mem_singleton.mp h]
          refine ⟨e, he, rfl, ?_, ?_, ?_, hup, hbt, hin⟩
          · show e.2.1 ≤ rw2
            rw [hrw]
            cases b <;> simp <;> omega
          · show rw2 ≤ e.2.1 + 100
            rw [hrw]
            cases b <;> simp <;> omega
          · intro hb
            show rw2 = e.2.1
            rw [hrw]
            rw [hb]; simp
    · skip
      refine .inr ⟨_, rfl, ?_⟩
      refine ⟨_, rfl, l, c, 70, _, rfl, p6, by decide, by decide, by omega, fun r9 H9 r90 r91 p9 x9 => ?_⟩
      refine ⟨_, _, rfl, rfl, _, _, rfl, rfl, .inl ⟨by decide, by decide⟩, _, _, rfl, rfl, _, rfl, (by show 2 ≤ sizeLine; decide), fun t nt => ?_⟩
      obtain ⟨_, _, _, el6, _⟩ := id p6
      have kC9 := DgKv.drawnN (.inl (.inl rfl)) el6 x9 kC6
      have kF9 := DgKv.drawnN (.inl (.inl (Pen.here hP))) el6 x9 kF6
      obtain ⟨rw2, hrw⟩ : ∃ z : Int, z = e.2.1 + (if false = true then 1 else 0) * (1 + r9) := ⟨_, rfl⟩
      have j := new_same (o := .tup [.int (e.2.1 + (if false = true then 1 else 0) * (1 + r9)), .ref D]) nt
      have kC10 := DgKv.less (fun a h => .inl h) (DgKv.same j kC9)
      have kF10 := DgKv.less (fun a h => .inl h) (DgKv.same j kF9)
      have tt : SqT K (upd H9 t (.tup [.int (e.2.1 + (if false = true then 1 else 0) * (1 + r9)), .ref D])) t [.int rw2, .ref D] := by rw [hrw]; exact SqT.of upd_same
      have eF10 := j _ _ (x9 _ _ nFl eF6)
      have eT10 := j _ _ (x9 _ _ nTl eT6)
      have eC10 := j _ _ (x9 _ _ nCl eC6)
      have eD10 := j _ _ (x9 _ _ nDl eD6)
      have x10 := (x06.trans x9).trans (ex1_same j)
      have p10 := p9.same j
      generalize upd H9 t (.tup [.int (e.2.1 + (if false = true then 1 else 0) * (1 + r9)), .ref D]) = H10 at kC10 kF10 tt eF10 eT10 eC10 eD10 x10 p10 ⊢
      have notD : ¬ (H D ≠ none ∨ D = FA) := fun h => h.elim (fun h => h nDH) nDF
      have dt : Dg K H10 (fun a => H a ≠ none ∨ a = FA) (.ref t) (.tuple [.int rw2, .dict (unD us')]) := .tup tt (.cons (.int _) (.cons (.dct eD10 notD (unD_kv us')) .nil))
      refine ⟨_, rfl, _, rfl, FA, _, rfl, DPut.k (k := Sum.inr e.1) eF10 (by rw [lfk]; omega), ?_⟩
      rw [putK_fresh fr]
      have k11 := DgKv.snocS (x := e.1) (DgKv.other (ys := fk ++ [(Sum.inr e.1, .ref t)]) (.inr rfl) eF10 kF10) (Dg.other (.inr rfl) eF10 dt)
      refine ⟨own_ex1 nFH x10, (p10.off nFl (fun z => ?_)).le (by omega), by rw [upd_ne nTF]; exact eT10, ⟨by rw [upd_ne nCF]; exact eC10, DgKv.other (.inr rfl) eF10 kC10⟩, ⟨_, fs ++ [(e.1, rw2, us')], upd_same, by rw [List.map_append]; exact k11, ?_, fun e' he' => ?_⟩, _, _, _, _, _, _, _, rfl⟩
      · obtain ⟨_, _, _, _, ecc, _⟩ := id p10
        rw [← z, eF10] at ecc
        cases ecc
      · rw [take_at en, List.map_append, hfs]
        rfl
      · rcases List.mem_append.mp he' with h | h
        · exact rel e' h
        · rw [List.mem_singleton.mp h]
          refine ⟨e, he, rfl, ?_, ?_, ?_, hup, hbt, hin⟩
          · show e.2.1 ≤ rw2
            rw [hrw]
            simp
          · show rw2 ≤ e.2.1 + 100
            rw [hrw]
            simp
            omega
          · intro hb
            show rw2 = e.2.1
            rw [hrw]
            simp
  · rintro σ H3 ⟨x3, p3, eT3, ⟨eC3, kC3⟩, ⟨fk, fs, eF3, kF3, hfs, rel⟩, y6, y7, y8, y9, y10, y11, y12, rfl⟩
    have ll : (ys.map V.str).length = ys.length := List.length_map ..
    rw [ll, List.take_length] at hfs
    rw [ll] at p3
    refine ⟨_, rfl, q FA fs H3 (.dct eF3 (fun h => h nFH) (DgKv.less (fun a h => .inl h) kF3)) (by rw [hfs]; exact ny) (fun x => by rw [hfs]; exact perm.mem_iff) rel (p3.le (by omega)) x3⟩
end
end K22
end

section
set_option Elab.async false
set_option linter.all false
set_option maxRecDepth 100000
set_option maxHeartbeats 4000000
namespace K22
open PySem PySem.Spec PyProof.Rows L2 Gd
abbrev sTo : Stmt := topS 18
abbrev nTo : List Str := ["_law_tally", "_law_names_here", "_law_found", "_law_name", "_law_rows", "_law_unlikes", "_law_inner", "_law_column"]
theorem scTo : FnScope nTo ["_law_tally", "_law_names_here"] (defScope sTo) := ⟨rfl, rfl, rfl, by decide +kernel, rfl, by decide +kernel, by decide +kernel⟩
def toldU (cs : Cnt) (ns : List Str) (x : Str) : List (Str × Int) := ("yyyyyyyy", if 5 < (entC cs x).1 then 5 else (entC cs x).1) :: ns.map fun c => (c, unlC (entC cs x).2 c)
def toldE (cs : Cnt) (ns : List Str) (x : Str) : Str × Int × List (Str × Int) := (x, (entC cs x).1, toldU cs ns x)
def zE : Str × Int × List (Str × Int) := ("zzzzzzzz", 7, [("zzzzzzzz", 3)])
def toldC (cs : Cnt) (ns xs : List Str) : Cnt := zE :: xs.map (toldE cs ns)
theorem unl_in0 {cs : Cnt} (h : CnOk cs) (x c : Str) : 0 ≤ unlC (entC cs x).2 c := by
  unfold unlC
  cases e : findC (entC cs x).2 c with
  | none => decide
  | some y => exact ((ent_in h x).2.2 y (findC_mem e).1).1
theorem told_ok {cs : Cnt} (h : CnOk cs) (ns xs : List Str) : CnOk (toldC cs ns xs) := by
  intro e he
  rcases List.mem_cons.mp he with rfl | he
  · exact ⟨by decide, by decide, fun u hu => by rw [List.mem_singleton.mp hu]; exact ⟨by decide, by decide⟩⟩
  · obtain ⟨x, _, rfl⟩ := List.mem_map.mp he
    have r := ent_in h x
    refine ⟨r.1, r.2.1, fun u hu => ?_⟩
    rcases List.mem_cons.mp hu with rfl | hu
    · have b5 : (5 : Int) ≤ 10 ^ 30 := by decide
      show 0 ≤ (if 5 < (entC cs x).1 then 5 else (entC cs x).1) ∧ (if 5 < (entC cs x).1 then 5 else (entC cs x).1) ≤ 10 ^ 30
      split
      · exact ⟨by decide, b5⟩
      · exact ⟨r.1, r.2.1⟩
    · obtain ⟨c, _, rfl⟩ := List.mem_map.mp hu
      exact ⟨unl_in0 h x c, unl_in h x c⟩
theorem told_all {cs : Cnt} {ns : List Str} (nn : ns.Nodup) (sp : ∀ n ∈ ns, n ∉ specials) : ∀ x ∈ ns, (entC (toldC cs ns ns) x).1 = (entC cs x).1 ∧ ∀ c ∈ ns, unlC (entC (toldC cs ns ns) x).2 c = unlC (entC cs x).2 c := by
  intro x hx
  have zn : ∀ n ∈ ns, n ≠ "zzzzzzzz" := fun n hn e => sp n hn (by rw [e]; decide)
  have yn : ∀ n ∈ ns, n ≠ "yyyyyyyy" := fun n hn e => sp n hn (by rw [e]; decide)
  have nd : ((toldC cs ns ns).map (·.1)).Nodup := by
    unfold toldC
    rw [List.map_cons, List.nodup_cons, List.map_map]
    have e : ((fun e : Str × Int × List (Str × Int) => e.1) ∘ toldE cs ns) = id := rfl
    rw [e, List.map_id]
    exact ⟨fun h => zn _ h rfl, nn⟩
  have en : entC (toldC cs ns ns) x = ((entC cs x).1, toldU cs ns x) := ent_of (e := toldE cs ns x) nd (by unfold toldC; exact List.mem_cons_of_mem _ (List.mem_map_of_mem hx))
  rw [en]
  refine ⟨rfl, fun c hc => ?_⟩
  have nu : ((toldU cs ns x).map (·.1)).Nodup := by
    unfold toldU
    rw [List.map_cons, List.nodup_cons, List.map_map]
    have e : ((fun e : Str × Int => e.1) ∘ fun c => (c, unlC (entC cs x).2 c)) = id := rfl
    rw [e, List.map_id]
    exact ⟨fun h => yn _ h rfl, nn⟩
  have := findC_of nu (c, unlC (entC cs x).2 c) (by unfold toldU; exact List.mem_cons_of_mem _ (List.mem_map.mpr ⟨c, hc, rfl⟩))
  show unlC (toldU cs ns x) c = _
  have this : findC (toldU cs ns x) c = some (c, unlC (entC cs x).2 c) := this
  unfold unlC at this ⊢
  rw [this]
def spTo (K : PySem.W.Frag) : Sp := fun vs H Q _ => ∃ (C a : Addr) (cs : Cnt) (ns : List Str), vs = [.ref C, .ref a] ∧ CtAt K H C cs ∧ H a = some (.lst (ns.map V.str)) ∧ ns.length = 5 ∧ ns.Nodup ∧ (∀ n ∈ ns, n ∉ specials) ∧
  ∀ (F : Addr) (H' : Hp), Same H H' → CtAt K H' F (toldC cs ns ns) → Q (.ref F) H'
section
variable {P : Program} {w : World} {K : PySem.W.Frag} {mg : Str → Option Value} {base : Heap} {f : Addr} {fd : FuncData}
theorem ok_to (F : Fun K "_law_told_all" "_law_told_all" sTo f fd) (mm : mg "min" = none) : FnOk P w K mg base CX0 1 f fd ["_law_tally", "_law_names_here"] (spTo K) := by
  refine F.ok scTo (fun vs H Q E h => ?_) (fun cdv A outer s H vs Q E hr h => ?_)
  · obtain ⟨C, a, cs, ns, rfl, _⟩ := h
    rfl
  obtain ⟨C, a, cs, ns, rfl, hC, ea, n5, nn, sp, q⟩ := h
  have nd := scTo.nd
  have hu := hu_of hr
  have zl : sizeLine = 16777216 := rfl
  have zn : ∀ n ∈ ns, n ≠ "zzzzzzzz" := fun n hn e => sp n hn (by rw [e]; decide)
  have yn : ∀ n ∈ ns, n ≠ "yyyyyyyy" := fun n hn e => sp n hn (by rw [e]; decide)
  refine ⟨_, pss_cons (ps_set (i := 2) nd rfl (.inl rfl) (pe_disp (pps_cons pe_str (pe_tup (pa_cons pe_int (pa_cons (pe_disp (pps_cons pe_str pe_int pps_nil) (by rfl) (by rfl) (fun z => by cases z) (by decide)) pa_nil))) pps_nil) (by rfl) (by rfl) (fun z => by cases z) (by decide)))
      (pss_cons (ps_for PassesOwn.never rfl (pi_list (pv 1)) (pg_name (i := 3) nd rfl (.inl rfl))
      (pss_cons (ps_asg (pe_dget2 hu (pv 0) (pv 3) (pe_tup (pa_cons pe_int (pa_cons pe_dnewK pa_nil))) ⟨rfl, rfl, rfl, rfl⟩) (pg_tup rfl (pgs_cons (pg_name (i := 4) nd rfl (.inl rfl)) (pgs_cons (pg_name (i := 5) nd rfl (.inl rfl)) pgs_nil))))
      (pss_cons (ps_set (i := 6) nd rfl (.inl rfl) (pe_disp (pps_cons pe_str (pe_callB (call_min2 rfl) (by rfl) mm (by decide +kernel) (pa_cons (pv 4) (pa_cons pe_int pa_nil))) pps_nil) (by rfl) (by rfl) (fun z => by cases z) (by decide)))
      (pss_cons (ps_for PassesOwn.never rfl (pi_list (pv 1)) (pg_name (i := 7) nd rfl (.inl rfl))
      (pss_one (ps_dput hu (pv 6) (pv 7) (pe_dget2 hu (pv 5) (pv 7) pe_int ⟨rfl, rfl, rfl, rfl⟩) rfl)))
      (pss_one (ps_dput hu (pv 2) (pv 3) (pe_tup (pa_cons (pv 4) (pa_cons (pv 6) pa_nil))) rfl))))))
      (pss_one (ps_ret (pv 2)))), ?_⟩
  refine fun FA nFA => ?_
  have s1 := new_same (o := .dK []) nFA
  have eF1 : upd H FA (.dK []) FA = some (.dK []) := upd_same
  generalize upd H FA (.dK []) = H1 at s1 eF1 ⊢
  refine fun U0 nU0 => ⟨upd_same, [(Sum.inr "zzzzzzzz", .int 3)], rfl, (by show 1 ≤ 15; decide), ?_⟩
  have j2 : Same H1 (upd (upd H1 U0 (.dK [])) U0 (.dK [(Sum.inr "zzzzzzzz", .int 3)])) := own_same nU0 (new_same nU0)
  have eU0 : upd (upd H1 U0 (.dK [])) U0 (.dK [(Sum.inr "zzzzzzzz", .int 3)]) U0 = some (.dK (unV [("zzzzzzzz", 3)])) := upd_same
  have nU0F : U0 ≠ FA := fun e => by rw [e, eF1] at nU0; cases nU0
  rw [show mergeK [] ([(Sum.inr "zzzzzzzz", V.int 3)] : List (Key × V)) = ([(Sum.inr "zzzzzzzz", V.int 3)] : List (Key × V)) from rfl]
  have s2 := s1.trans j2
  have eF2 := j2 _ _ eF1
  generalize upd (upd H1 U0 (.dK [])) U0 (.dK [(Sum.inr "zzzzzzzz", .int 3)]) = H2 at s2 eF2 eU0 ⊢
  refine ⟨(by show 2 ≤ sizeLine; decide), fun t0 nt0 => ?_⟩
  have j3 := new_same (o := .tup [.int 7, .ref U0]) nt0
  have s3 := s2.trans j3
  have eF3 := j3 _ _ eF2
  have eU3 := j3 _ _ eU0
  have tt0 : SqT K (upd H2 t0 (.tup [.int 7, .ref U0])) t0 [.int 7, .ref U0] := SqT.of upd_same
  generalize upd H2 t0 (.tup [.int 7, .ref U0]) = H3 at s3 eF3 eU3 tt0 ⊢
  refine ⟨eF3, [(Sum.inr "zzzzzzzz", .ref t0)], rfl, (by show 1 ≤ 15; decide), ?_⟩
  rw [show mergeK [] ([(Sum.inr "zzzzzzzz", V.ref t0)] : List (Key × V)) = ([(Sum.inr "zzzzzzzz", V.ref t0)] : List (Key × V)) from rfl]
  have s4 : Same H (upd H3 FA (.dK [(Sum.inr "zzzzzzzz", .ref t0)])) := own_same nFA s3
  have eF4 : upd H3 FA (.dK [(Sum.inr "zzzzzzzz", .ref t0)]) FA = some (.dK [(Sum.inr "zzzzzzzz", .ref t0)]) := upd_same
  have k4 : DgKv K (upd H3 FA (.dK [(Sum.inr "zzzzzzzz", .ref t0)])) (· = FA) [(Sum.inr "zzzzzzzz", .ref t0)] ((toldC cs ns []).map cnE) := by
    have d : Dg K H3 (· = FA) (.ref t0) (.tuple [.int 7, .dict (unD [("zzzzzzzz", 3)])]) := .tup tt0 (.cons (.int _) (.cons (.dct eU3 nU0F (unD_kv _)) .nil))
    exact .consS (Dg.other rfl eF3 d) .nil
  generalize upd H3 FA (.dK [(Sum.inr "zzzzzzzz", .ref t0)]) = H4 at s4 eF4 k4 ⊢
  clear s1 s2 s3 j2 j3 eF1 eF2 eF3 eU0 eU3 tt0
  refine ⟨_, rfl, a, rfl, ⟨_, SqL.of (s4 _ _ ea)⟩, ?_⟩
  refine for_it walk_list (fun i σ H5 => Same H H5 ∧ (∃ fk, H5 FA = some (.dK fk) ∧ DgKv K H5 (· = FA) fk ((toldC cs ns (ns.take i)).map cnE)) ∧ ∃ y3 y4 y5 y6 y7, σ = [some (.ref C), some (.ref a), some (.ref FA), y3, y4, y5, y6, y7])
    ⟨s4, ⟨_, eF4, k4⟩, none, none, none, none, none, rfl⟩ (fun i σ H5 _ h => SqL.of (h.1 _ _ ea)) ?_ ?_
  · clear s4 eF4 k4
    rintro i x σ H5 H6 hi ⟨s5, ⟨fk, eF5, k5⟩, y3, y4, y5, y6, y7, rfl⟩ ⟨rfl, ex⟩
    obtain ⟨nm, en, rfl⟩ := map_at ex
    have hi2 := at_lt en
    have hnm := List.mem_of_getElem? en
    obtain ⟨kvs, eC, _⟩ := id (hC.same s5)
    refine ⟨_, rfl, C, rfl, .inl ⟨_, .inl eC⟩, _, rfl, fun d nd => ?_⟩
    have j1 := new_same (o := .dK []) nd
    have ed : upd H6 d (.dK []) d = some (.dK []) := upd_same
    generalize upd H6 d (.dK []) = H7 at j1 ed ⊢
    refine ⟨(by show 2 ≤ sizeLine; decide), fun t nt => ?_⟩
    have j2 := new_same (o := .tup [.int 1, .ref d]) nt
    have et : SqT K (upd H7 t (.tup [.int 1, .ref d])) t [.int 1, .ref d] := SqT.of upd_same
    have j12 := j1.trans j2
    have ed2 := j2 _ _ ed
    generalize upd H7 t (.tup [.int 1, .ref d]) = H8 at j12 et ed2 ⊢
    obtain ⟨og, t', u, uk, g, eo, tt, eu, ku⟩ := ct_get (hC.same (s5.trans j12)) nm et ed2
    have euk := kv_un ku
    subst euk
    refine ⟨og, g, ?_⟩
    rw [eo]
    refine ⟨t', _, rfl, tt, rfl, _, _, rfl, _, _, rfl, rfl, ?_⟩
    have s8 := s5.trans j12
    have eF8 := j12 _ _ eF5
    have k8 := DgKv.same j12 k5
    clear j1 j2 j12 ed ed2 et tt g eo
    -- the inner one
    refine fun D nD => ⟨_, rfl, _, _, rfl, ?_⟩
    obtain ⟨mi, hmi⟩ : ∃ z : Int, z = (if 5 < (entC cs nm).1 then 5 else (entC cs nm).1) := ⟨_, rfl⟩
    rw [← hmi]
    refine ⟨upd_same, [(Sum.inr "yyyyyyyy", .int mi)], rfl, (by show 1 ≤ 15; decide), ?_⟩
    rw [show mergeK [] ([(Sum.inr "yyyyyyyy", V.int mi)] : List (Key × V)) = ([(Sum.inr "yyyyyyyy", V.int mi)] : List (Key × V)) from rfl]
    have j9 : Same H8 (upd (upd H8 D (.dK [])) D (.dK [(Sum.inr "yyyyyyyy", .int mi)])) := own_same nD (new_same nD)
    have eD9 : upd (upd H8 D (.dK [])) D (.dK [(Sum.inr "yyyyyyyy", .int mi)]) D = some (.dK (unV [("yyyyyyyy", mi)])) := upd_same
    have nDF : D ≠ FA := fun e => by rw [e, eF8] at nD; cases nD
    have nDH := s8.free nD
    have nDu : u ≠ D := ne_of_none eu nD
    have s9 := s8.trans j9
    have eF9 := j9 _ _ eF8
    have eu9 := j9 _ _ eu
    have k9 := DgKv.same j9 (DgKv.shun nD _ k8)
    generalize upd (upd H8 D (.dK [])) D (.dK [(Sum.inr "yyyyyyyy", .int mi)]) = H9 at s9 eF9 eu9 k9 eD9 ⊢
    clear j9 k8 eF8 s8 eu
    refine ⟨_, rfl, a, rfl, ⟨_, SqL.of (s9 _ _ ea)⟩, ?_⟩
    refine for_it walk_list (fun j σ H5 => Same H H5 ∧ (H5 FA = some (.dK fk) ∧ DgKv K H5 (fun b => b = FA ∨ b = D) fk ((toldC cs ns (ns.take i)).map cnE)) ∧ H5 u = some (.dK (unV (entC cs nm).2)) ∧ H5 D = some (.dK (unV (("yyyyyyyy", mi) :: (ns.take j).map fun c => (c, unlC (entC cs nm).2 c)))) ∧
        ∃ y7, σ = [some (.ref C), some (.ref a), some (.ref FA), some (.str nm), some (.int (entC cs nm).1), some (.ref u), some (.ref D), y7])
      ⟨s9, ⟨eF9, k9⟩, eu9, eD9, y7, rfl⟩ (fun i σ H5 _ h => SqL.of (h.1 _ _ ea)) ?_ ?_
    · clear s9 eF9 k9 eu9 eD9
      rintro j x σ H5 H6 hj ⟨s5, ⟨eF5, k5⟩, eu5, eD5, y7, rfl⟩ ⟨rfl, ex⟩
      obtain ⟨cn, ec, rfl⟩ := map_at ex
      have hj2 := at_lt ec
      have hcn := List.mem_of_getElem? ec
      have e1 : (valV (unV (entC cs nm).2) (Sum.inr cn)).getD (V.int 1) = V.int (unlC (entC cs nm).2 cn) := by
        rw [show valV (unV (entC cs nm).2) (Sum.inr cn) = _ from kv_unl (K := K) (H := H6) (N := fun _ => False) cn (unD_kv (entC cs nm).2)]
        unfold unlC
        cases findC (entC cs nm).2 cn <;> rfl
      refine ⟨_, rfl, u, rfl, .inl ⟨_, .inl eu5⟩, _, rfl, _, DGet.k (k := Sum.inr cn) eu5, ?_⟩
      rw [e1]
      refine ⟨_, rfl, _, rfl, D, _, rfl, DPut.k (k := Sum.inr cn) eD5 (by unfold unV; rw [List.length_map, List.length_cons, List.length_map, List.length_take]; omega), ?_⟩
      have fr : ∀ x ∈ unV (("yyyyyyyy", mi) :: (ns.take j).map fun c => (c, unlC (entC cs nm).2 c)), x.1 ≠ Sum.inr cn := fun x hx z => by
        unfold unV at hx
        obtain ⟨y, hy, rfl⟩ := List.mem_map.mp hx
        rcases List.mem_cons.mp hy with rfl | hy
        · exact yn cn hcn (Sum.inr.inj z).symm
        · obtain ⟨c2, hc2, rfl⟩ := List.mem_map.mp hy
          exact take_fresh nn hc2 ec (Sum.inr.inj z)
      rw [putK_fresh fr]
      refine ⟨own_same nDH s5, ⟨by rw [upd_ne nDF.symm]; exact eF5, DgKv.other (.inr rfl) eD5 k5⟩, by rw [upd_ne nDu]; exact eu5, ?_, _, rfl⟩
      rw [upd_same, take_at ec]
      unfold unV
      simp
    · clear s9 eF9 k9 eu9 eD9
      rintro σ H5 ⟨s5, ⟨eF5, k5⟩, eu5, eD5, y7, rfl⟩
      have ll : (ns.map V.str).length = ns.length := List.length_map ..
      rw [ll, List.take_length] at eD5
      refine ⟨_, rfl, _, rfl, (by show 2 ≤ sizeLine; decide), fun t nt => ?_⟩
      have j6 := new_same (o := .tup [.int (entC cs nm).1, .ref D]) nt
      have tt : SqT K (upd H5 t (.tup [.int (entC cs nm).1, .ref D])) t [.int (entC cs nm).1, .ref D] := SqT.of upd_same
      have s6 := s5.trans j6
      have eF6 := j6 _ _ eF5
      have eD6 := j6 _ _ eD5
      have k6 := DgKv.less (fun b h => .inl h) (DgKv.same j6 k5)
      generalize upd H5 t (.tup [.int (entC cs nm).1, .ref D]) = H6 at tt s6 eF6 eD6 k6 ⊢
      have eq : toldU cs ns nm = (("yyyyyyyy" : Str), mi) :: ns.map (fun (c : Str) => (c, unlC (entC cs nm).2 c)) := by unfold toldU; rw [hmi]
      have dt : Dg K H6 (· = FA) (.ref t) (.tuple [.int (entC cs nm).1, .dict (unD (toldU cs ns nm))]) := by
        rw [eq]
        exact .tup tt (.cons (.int _) (.cons (.dct eD6 nDF (unD_kv _)) .nil))
      have lfk : fk.length ≤ 6 := by
        rw [DgKv.len k6]
        unfold toldC
        rw [List.length_map, List.length_cons, List.length_map, List.length_take]
        omega
      refine ⟨_, rfl, _, rfl, FA, _, rfl, DPut.k (k := Sum.inr nm) eF6 (by omega), ?_⟩
      have fr : ∀ x ∈ fk, x.1 ≠ Sum.inr nm := fun x hx z => by
        obtain ⟨e, he, q⟩ := kv_keys k6 x hx
        rw [q] at z
        rcases List.mem_cons.mp he with rfl | he
        · exact zn nm hnm (Sum.inr.inj z).symm
        · obtain ⟨y, hy, rfl⟩ := List.mem_map.mp he
          exact take_fresh nn hy en (Sum.inr.inj z)
      rw [putK_fresh fr]
      have k7 := DgKv.snocS (x := nm) (DgKv.other (N := (· = FA)) (ys := fk ++ [(Sum.inr nm, .ref t)]) rfl eF6 k6) (Dg.other (N := (· = FA)) rfl eF6 dt)
      refine ⟨own_same nFA s6, ⟨_, upd_same, ?_⟩, _, _, _, _, _, rfl⟩
      rw [take_at en]
      have e2 : (toldC cs ns (ns.take i ++ [nm])).map cnE = (toldC cs ns (ns.take i)).map cnE ++ [(.str nm, .tuple [.int (entC cs nm).1, .dict (unD (toldU cs ns nm))])] := by
        unfold toldC
        simp [toldE, cnE]
      rw [e2]
      exact k7
  · clear s4 eF4 k4
    rintro σ H5 ⟨s5, ⟨fk, eF5, k5⟩, y3, y4, y5, y6, y7, rfl⟩
    have ll : (ns.map V.str).length = ns.length := List.length_map ..
    rw [ll, List.take_length] at k5
    exact ⟨_, rfl, q FA H5 s5 ⟨fk, eF5, DgKv.less (fun _ h => h.elim) k5⟩⟩
end
end K22
end

section
set_option Elab.async false
set_option linter.all false
set_option maxRecDepth 100000
set_option maxHeartbeats 4000000
namespace K22
open PySem PySem.Spec PyProof.Rows L2 Gd
abbrev sCa : Stmt := topS 19
abbrev nCa : List Str := ["_law_thing", "_law_words", "_law_part", "_law_name"]
theorem scCa : FnScope nCa ["_law_thing", "_law_words"] (defScope sCa) := ⟨rfl, rfl, rfl, by decide +kernel, rfl, by decide +kernel, by decide +kernel⟩
/-- words for all the names, no two the same -/
structure WsOk (ns : List Str) (ws : List (Str × Str)) : Prop where
  all : ∀ x ∈ ns, ∃ e, findC ws x = some e
  inj : ∀ x ∈ ns, ∀ y ∈ ns, wordOf ws x = wordOf ws y → x = y
def spCa (K : PySem.W.Frag) : Nat → Sp
  | 0 => fun _ _ _ _ => False
  | n + 1 => fun vs H Q _ => ∃ (v : V) (d : PyData) (W : Addr) (ws : List (Str × Str)) (ns : List Str) (N : Addr → Prop), vs = [v, .ref W] ∧ H W = some (.dK (wV ws)) ∧ N W ∧ WsOk ns ws ∧ Cg K H ns N v d ∧ Lv n d ∧
    ∀ v' H', Same H H' → Dg K H' (fun a => H a ≠ none) v' (calledD (wordOf ws) d) → Q v' H'
theorem tups_lock {K : PySem.W.Frag} {H : Hp} {D : Addr} {xs : List (Key × V)} {od : Obj} (e : H D = some (.dK xs)) : Tups K H (upd H D (.frz od (.dK xs))) := by
  intro a zs h
  rcases h with (h | ⟨o, h⟩) | h
  · refine .inl (.inl ?_)
    rw [upd_ne (fun z => by rw [z, e] at h; cases h)]
    exact h
  · refine .inl (.inr ⟨o, ?_⟩)
    rw [upd_ne (fun z => by rw [z, e] at h; cases h)]
    exact h
  · exact .inr h
theorem tups_unlock {K : PySem.W.Frag} {H : Hp} {D : Addr} {xs : List (Key × V)} {od : Obj} {u : HO} (e : H D = some (.frz od (.dK xs))) : Tups K H (upd H D u) := by
  intro a zs h
  rcases h with (h | ⟨o, h⟩) | h
  · refine .inl (.inl ?_)
    rw [upd_ne (fun z => by rw [z, e] at h; cases h)]
    exact h
  · refine .inl (.inr ⟨o, ?_⟩)
    rw [upd_ne (fun z => by rw [z, e] at h; cases h)]
    exact h
  · exact .inr h
theorem DgAll.snoc {K : PySem.W.Frag} {H : Hp} {N : Addr → Prop} {v : V} {d : PyData} : ∀ {vs : List V} {ds : List PyData}, DgAll K H N vs ds → Dg K H N v d → DgAll K H N (vs ++ [v]) (ds ++ [d])
  | _, _, .nil, h => .cons h .nil
  | _, _, .cons a b, h => .cons a (DgAll.snoc b h)
theorem DgAll.less {K : PySem.W.Frag} {H : Hp} {N N' : Addr → Prop} {vs : List V} {ds : List PyData} (m : ∀ a, N' a → N a) (h : DgAll K H N vs ds) : DgAll K H N' vs ds := Gd.DgAll.stay .refl (fun a o _ e => e) m ds h
theorem DgAll.len' {K : PySem.W.Frag} {H : Hp} {N : Addr → Prop} : ∀ {vs : List V} {ds : List PyData}, DgAll K H N vs ds → vs.length = ds.length
  | _, _, .nil => rfl
  | _, _, .cons _ b => congrArg (· + 1) (DgAll.len' b)
theorem calledAll_at {r : Str → Str} {ds : List PyData} {i : Nat} {d : PyData} (e : ds[i]? = some d) : calledAll r (ds.take (i + 1)) = calledAll r (ds.take i) ++ [calledD r d] := by
  rw [calledAll_map, calledAll_map, List.take_add_one, e, List.map_append]
  rfl
theorem calledKv_at {r : Str → Str} {ps : List (PyData × PyData)} {i : Nat} {x : Str} {d : PyData} (e : ps[i]? = some (.str x, d)) : calledKv r (ps.take (i + 1)) = calledKv r (ps.take i) ++ [(.str (r x), calledD r d)] := by
  rw [List.take_add_one, e]
  exact calledKv_snoc r _ x d
theorem paired_snoc {α β : Type} {R : α → β → Prop} : ∀ {xs : List α} {ys : List β} {x : α} {y : β}, Paired R xs ys → R x y → Paired R (xs ++ [x]) (ys ++ [y])
  | _, _, _, _, .nil, h => .cons h .nil
  | _, _, _, _, .cons a b, h => .cons a (paired_snoc b h)
theorem paired_mono {α β : Type} {R S : α → β → Prop} : ∀ {xs : List α} {ys : List β}, Paired R xs ys → (∀ x y, R x y → S x y) → Paired S xs ys
  | _, _, .nil, _ => .nil
  | _, _, .cons a b, h => .cons (h _ _ a) (paired_mono b h)
theorem Paired.len {α β : Type} {R : α → β → Prop} : ∀ {xs : List α} {ys : List β}, Paired R xs ys → xs.length = ys.length
  | _, _, .nil => rfl
  | _, _, .cons _ b => congrArg (· + 1) (Paired.len b)
theorem valV_nd {k : Key} {v : V} : ∀ {kvs : List (Key × V)} {i : Nat}, (kvs.map (·.1)).Nodup → kvs[i]? = some (k, v) → valV kvs k = some v
  | [], _, _, e => by simp at e
  | (k', v') :: kvs, 0, _, e => by
    cases Option.some.inj e
    rw [valV_cons, if_pos rfl]
  | (k', v') :: kvs, i + 1, n, e => by
    rw [List.map_cons, List.nodup_cons] at n
    have e : kvs[i]? = some (k, v) := e
    rw [valV_cons, if_neg (fun (z : k' = k) => n.1 (List.mem_map.mpr ⟨(k, v), List.mem_of_getElem? e, z.symm⟩)), valV_nd n.2 e]
section
variable {P : Program} {w : World} {K : PySem.W.Frag} {mg : Str → Option Value} {base : Heap} {f : Addr} {fd : FuncData}
theorem ca_step {n : Nat} (F : Fun K "_law_called" "_law_called" sCa f fd) (mi : mg "isinstance" = none) (mt : mg "tuple" = none) (md : mg "dict" = none) (mst : mg "str" = none)
    (G : FnOk P w K mg base CX0 (n + 1) f fd ["_law_thing", "_law_words"] (spCa K n)) (bF : Binds K fd ["_law_thing", "_law_words"] []) (gF : mg "_law_called" = some (.ref f)) :
    FnOk P w K mg base CX0 (n + 2) f fd ["_law_thing", "_law_words"] (spCa K (n + 1)) := by
  refine F.ok scCa (fun vs H Q E h => ?_) (fun cdv A outer s H vs Q E hr h => ?_)
  · obtain ⟨v, d, W, ws, ns, N, rfl, _⟩ := h
    rfl
  obtain ⟨v, d, W, ws, ns, N, rfl, eW, NW, wo, hd, lv, q⟩ := h
  have nd := scCa.nd
  have hu := hu_of hr
  have zl : sizeLine = 16777216 := rfl
  refine ⟨_, pss_cons (ps_if (pt_val (pe_callB call_isi (by rfl) mi (by decide +kernel) (pa_cons (pv 0) (pa_cons (pe_bltn (v := .ty "tuple") (by rfl) mt (by decide +kernel) rfl) pa_nil))))
      (pss_one (ps_ret (pe_tupleOf (by rfl) mt (pe_lc (own := [("_law_part", 2)]) (g := gName 2) (tt := tYes) rfl nd (pi_tup (pv 0)) (blkOk_by (N := nCa) (sc := defScope sCa) (by decide +kernel)) (fun _ _ _ _ _ => pg_name (i := 2) nd rfl (Or.inl rfl)) (fun _ _ _ _ _ => pts_nil)
        (fun _ _ _ _ _ => pe_call G hr (by rfl) gF F.kp bF .nil pass0 (pa_cons (pv 2) (pa_cons (pv 1) pa_nil))))))) pss_nil)
    (pss_cons (ps_if (pt_val (pe_callB call_isi (by rfl) mi (by decide +kernel) (pa_cons (pv 0) (pa_cons (pe_bltn (v := .ty "dict") (by rfl) md (by decide +kernel) rfl) pa_nil))))
      (pss_one (ps_ret (pe_callTy (call_dictP rfl) (by rfl) md (by decide +kernel) (pa_cons (pe_lock (pe_lc (own := [("_law_name", 3)]) (g := gName 3) (tt := tYes) rfl nd (pi_keys (pv 0)) (blkOk_by (N := nCa) (sc := defScope sCa) (by decide +kernel)) (fun _ _ _ _ _ => pg_name (i := 3) nd rfl (Or.inl rfl)) (fun _ _ _ _ _ => pts_nil)
        (fun _ _ _ _ _ => pe_tup (pa_cons (pe_dget hu (pv 1) (pv 3) (fun _ _ => rfl)) (pa_cons (pe_call G hr (by rfl) gF F.kp bF .nil pass0 (pa_cons (pe_dget hu (pv 0) (pv 3) (fun _ _ => rfl)) (pa_cons (pv 1) pa_nil))) pa_nil))))) pa_nil)))) pss_nil)
    (pss_one (ps_ret (pe_ifExp (pt_val (pe_callB call_isi (by rfl) mi (by decide +kernel) (pa_cons (pv 0) (pa_cons (pe_bltn (v := .ty "str") (by rfl) mst (by decide +kernel) rfl) pa_nil))))
      (pe_dget2 hu (pv 1) (pv 0) (pv 0) ⟨rfl, rfl, rfl, rfl⟩) (pv 0))))), ?_⟩
  refine ⟨_, rfl, _, _, _, _, isTp d, rfl, .ty _, hd.kind, kit_ty (q_tp d), _, rfl, ?_⟩
  cases ht : isTp d with
  | true =>
    cases d with
    | tuple ds =>
      cases hd with
      | @tup _ a xs _ hS l hA =>
        cases n with
        | zero => exact lv.elim
        | succ m =>
        refine iteT ?_
        have lx := CgAll.len hA
        refine ⟨_, rfl, a, rfl, ⟨_, hS⟩, fun D nD => ?_⟩
        refine lc_it walk_tup (fun i H1 => Same H H1 ∧ ∃ acc, H1 D = some (.lst acc) ∧ DgAll K H1 (fun a => H a ≠ none ∨ a = D) acc (calledAll (wordOf ws) (ds.take i)))
          ⟨new_same nD, [], upd_same, by rw [List.take_zero, calledAll]; exact .nil⟩ (fun i H1 _ h => Tups.of_same h.1 _ _ hS) ?_ ?_
        · rintro i x H1 H2 hi ⟨s1, acc, eD, hacc⟩ ⟨rfl, ex⟩
          obtain ⟨d, ed, hdx⟩ := CgAll.at_ hA ex
          refine ⟨rfl, ?_⟩
          refine ⟨_, rfl, _, rfl, x, d, W, ws, ns, N, rfl, s1 _ _ eW, NW, wo, hdx.same s1, lv d (List.mem_of_getElem? ed), fun v' H2 s2 hv => ?_⟩
          have eD2 := s2 _ _ eD
          refine ⟨acc, eD2, ?_, own_same nD (s1.trans s2), acc ++ [v'], upd_same, ?_⟩
          · rw [DgAll.len' hacc, calledAll_map, List.length_map, List.length_take]
            omega
          rw [calledAll_at ed]
          have t3 : Tups K H2 (upd H2 D (.lst (acc ++ [v']))) := .upd_lst eD2
          have x3 : ∀ a o, ¬ (H a ≠ none ∨ a = D) → H2 a = some o → upd H2 D (.lst (acc ++ [v'])) a = some o := fun a o n e => by
            rw [upd_ne (fun z => n (.inr z))]
            exact e
          refine DgAll.snoc (Gd.DgAll.stay t3 x3 (fun _ z => z) _ (hacc.same s2)) (Gd.Dg.stay t3 x3 (fun _ z => z) _ (Gd.Dg.less (fun a z => ?_) hv))
          rcases z with z | rfl
          · cases e : H a with
            | none => exact absurd e z
            | some o => rw [s1 _ _ e]; exact fun z => nomatch z
          · rw [eD]; exact fun z => nomatch z
        · rintro H1 ⟨s1, acc, eD, hacc⟩
          rw [lx, List.take_length] at hacc
          refine .inl ⟨D, acc, rfl, SqL.of eD, fun p np => ?_⟩
          have j2 := new_same (o := .tup acc) np
          refine q _ _ (s1.trans j2) ?_
          rw [calledD]
          exact .tup (SqT.of upd_same) (DgAll.less (fun a z => .inl z) (hacc.same j2))
    | _ => cases ht
  | false =>
  refine iteF ?_
  refine ⟨_, rfl, _, _, _, _, isDc d, rfl, .ty _, hd.kind, kit_ty (q_dct d), _, rfl, ?_⟩
  cases hdc : isDc d with
  | true =>
    cases d with
    | dict ps =>
      cases hd with
      | @dct _ a kvs _ ea na lp nk hk =>
        cases n with
        | zero => exact lv.elim
        | succ m =>
        refine iteT ?_
        have lk := CgKv.len hk
        have naW : a ≠ W := fun z => na (z ▸ NW)
        refine ⟨a, .dK kvs, ea, trivial, fun od => ?_⟩
        have eL : upd H a (.frz od (.dK kvs)) a = some (.frz od (.dK kvs)) := upd_same
        have tL : Tups K H (upd H a (.frz od (.dK kvs))) := tups_lock ea
        have oL : ∀ b o, b ≠ a → H b = some o → upd H a (.frz od (.dK kvs)) b = some o := fun b o n e => by rw [upd_ne n]; exact e
        have fL : ∀ b, upd H a (.frz od (.dK kvs)) b = none → H b = none := fun b e => by
          by_cases z : b = a
          · rw [z, eL] at e; cases e
          · rw [upd_ne z] at e; exact e
        have eWL := oL _ _ (Ne.symm naW) eW
        have hkL : CgKv K (upd H a (.frz od (.dK kvs))) ns (fun b => N b ∨ b = a) kvs ps := CgKv.stay tL ps (fun b o n e => oL b o (fun z => n (.inr z)) e) (fun _ z => z) hk
        obtain ⟨HL, hHL⟩ : ∃ HL, HL = upd H a (.frz od (.dK kvs)) := ⟨_, rfl⟩
        rw [← hHL] at eL tL oL fL eWL hkL ⊢
        refine ⟨_, rfl, a, od, rfl, .inl ⟨kvs, eL, fun D nD => ?_⟩⟩
        have nDa : D ≠ a := fun z => by rw [z, eL] at nD; cases nD
        refine lc_it walk_keys (fun i H1 => Same HL H1 ∧ ∃ (qs : List Addr) (kvs' : List (Key × V)), H1 D = some (.lst (qs.map V.ref)) ∧ Paired (fun p kv => SqT K H1 p [kV kv.1, kv.2]) qs kvs' ∧ DgKv K H1 (fun b => HL b ≠ none ∨ b = D) kvs' (calledKv (wordOf ws) (ps.take i)) ∧ kvs'.map (·.1) = ((kvs.take i).map (·.1)).map (rK (wordOf ws)))
          ⟨new_same nD, [], [], upd_same, .nil, by rw [List.take_zero, calledKv]; exact .nil, rfl⟩ (fun i H1 _ h => h.1 _ _ eL) ?_ ?_
        · rintro i x H1 H2 hi ⟨s1, qs, kvs', eD, hP, hK, hk'⟩ ⟨rfl, k, v, ek, rfl⟩
          obtain ⟨x, d, rfl, xn, ed, hdx⟩ := CgKv.at_ hkL ek
          obtain ⟨e, he⟩ := wo.all x xn
          have ew : wordOf ws x = e.2 := by unfold wordOf; rw [he]
          refine ⟨rfl, ?_⟩
          refine ⟨_, rfl, _, rfl, W, .str e.2, rfl, by rw [show (some (V.str e.2)) = valV (wV ws) (Sum.inr x) by rw [valV_w, he]; rfl]; exact DGet.k (k := Sum.inr x) (s1 _ _ eWL), ?_⟩
          refine ⟨_, rfl, _, rfl, a, v, rfl, .inl ⟨kvs, Sum.inr x, .inr ⟨od, s1 _ _ eL⟩, rfl, (valV_nd nk ek).symm⟩, ?_⟩
          refine ⟨_, rfl, v, d, W, ws, ns, _, rfl, s1 _ _ eWL, .inl NW, wo, hdx.same s1, lv _ (List.mem_of_getElem? ed), fun v' H2 s2 hv => ?_⟩
          refine ⟨(by show 2 ≤ sizeLine; decide), fun t nt => ?_⟩
          have j3 := new_same (o := .tup [.str e.2, v']) nt
          have tt : SqT K (upd H2 t (.tup [.str e.2, v'])) t [.str e.2, v'] := SqT.of upd_same
          have s3 := s2.trans j3
          have hv3 := hv.same j3
          generalize upd H2 t (.tup [.str e.2, v']) = H3 at j3 tt s3 hv3 ⊢
          have eD3 := s3 _ _ eD
          have lq : qs.length = i := by
            have e1 := Paired.len hP
            have e2 := congrArg List.length hk'
            simp only [List.length_map, List.length_take] at e2
            omega
          refine ⟨qs.map V.ref, eD3, by rw [List.length_map]; omega, own_same nD (s1.trans s3), qs ++ [t], kvs' ++ [(Sum.inr (wordOf ws x), v')], by rw [upd_same, List.map_append]; rfl, ?_, ?_, ?_⟩
          · have t4 : Tups K H3 (upd H3 D (.lst (qs.map V.ref ++ [.ref t]))) := .upd_lst eD3
            refine paired_snoc (paired_mono hP fun p kv h => t4 _ _ (same_tup s3 h)) ?_
            rw [ew]
            exact t4 _ _ tt
          · rw [calledKv_at ed]
            have t4 : Tups K H3 (upd H3 D (.lst (qs.map V.ref ++ [.ref t]))) := .upd_lst eD3
            have x4 : ∀ b o, ¬ (HL b ≠ none ∨ b = D) → H3 b = some o → upd H3 D (.lst (qs.map V.ref ++ [.ref t])) b = some o := fun b o n e => by
              rw [upd_ne (fun z => n (.inr z))]
              exact e
            refine DgKv.snocS (Gd.DgKv.stay t4 x4 (fun _ z => z) _ (hK.same s3)) (Gd.Dg.stay t4 x4 (fun _ z => z) _ (Gd.Dg.less (fun b z => ?_) hv3))
            rcases z with z | rfl
            · cases e : HL b with
              | none => exact absurd e z
              | some o => rw [s1 _ _ e]; exact fun z => nomatch z
            · rw [eD]; exact fun z => nomatch z
          · rw [List.map_append, hk', List.take_add_one, ek, List.map_append, List.map_append]
            rfl
        · rintro H1 ⟨s1, qs, kvs', eD, hP, hK, hk'⟩
          rw [lk, List.take_length] at hK
          rw [List.take_length] at hk'
          have e1 := s1 _ _ eL
          refine ⟨e1, ?_⟩
          have t2 : Tups K H1 (upd H1 a (.dK kvs)) := tups_unlock e1
          have s2 : Same H (upd H1 a (.dK kvs)) := fun b o e => by
            by_cases z : b = a
            · rw [z, ea] at e
              cases e
              rw [z, upd_same]
            · rw [upd_ne z]
              exact s1 _ _ (oL b o z e)
          have eD2 : upd H1 a (.dK kvs) D = some (.lst (qs.map V.ref)) := by rw [upd_ne nDa]; exact eD
          have hP2 := paired_mono hP fun p kv h => t2 _ _ h
          have hK2 : DgKv K (upd H1 a (.dK kvs)) (fun b => H b ≠ none) kvs' (calledKv (wordOf ws) ps) :=
            Gd.DgKv.stay t2 (fun b o n e => by rw [upd_ne (fun z => n (.inl (by rw [z, eL]; exact fun z => nomatch z)))]; exact e) (fun b z => .inl (fun z2 => z (fL b z2))) _ hK
          generalize upd H1 a (.dK kvs) = H2 at s2 eD2 hP2 hK2 ⊢
          refine ⟨D, qs, kvs', rfl, SqL.of eD2, hP2, fun p np => ?_⟩
          have nk' : (kvs'.map (·.1)).Nodup := by
            rw [hk']
            exact rK_nodup wo.inj nk (CgKv.keys hk)
          rw [merge_fresh nk']
          have j3 := new_same (o := .dK kvs') np
          refine q _ _ (s2.trans j3) ?_
          rw [calledD]
          exact .dct upd_same (fun z => z (s2.free np)) (hK2.same j3)
    | _ => cases hdc
  | false =>
  refine iteF ?_
  refine ⟨_, rfl, _, _, _, _, isStD d, rfl, .ty _, hd.kind, kit_ty (q_strD d), _, rfl, ?_⟩
  have sm : Same H H := fun _ _ e => e
  cases d with
  | str x =>
    cases hd
    refine iteT ⟨_, rfl, W, rfl, .inl ⟨_, .inl eW⟩, _, rfl, _, rfl, _, DGet.k (k := Sum.inr x) eW, ?_⟩
    refine q _ _ sm ?_
    rw [calledD, valV_w]
    unfold wordOf
    cases findC ws x with
    | none => exact .str _
    | some e => exact .str _
  | none => cases hd; exact iteF ⟨_, rfl, q _ _ sm (by rw [calledD]; exact .non)⟩
  | bool b => cases hd; exact iteF ⟨_, rfl, q _ _ sm (by rw [calledD]; exact .bl _)⟩
  | int i => cases hd; exact iteF ⟨_, rfl, q _ _ sm (by rw [calledD]; exact .int _)⟩
  | list ds => cases hd
  | tuple ds => cases ht
  | dict ps => cases hdc
theorem ca_none : FnOk P w K mg base CX0 1 f fd ["_law_thing", "_law_words"] (spCa K 0) := ⟨fun vs H Q E h => h.elim, fun A outer s H args us vs Q E _ _ _ _ h => h.elim⟩
theorem ok_ca (F : Fun K "_law_called" "_law_called" sCa f fd) (mi : mg "isinstance" = none) (mt : mg "tuple" = none) (md : mg "dict" = none) (mst : mg "str" = none)
    (bF : Binds K fd ["_law_thing", "_law_words"] []) (gF : mg "_law_called" = some (.ref f)) : ∀ n : Nat, FnOk P w K mg base CX0 (n + 1) f fd ["_law_thing", "_law_words"] (spCa K n)
  | 0 => ca_none
  | n + 1 => ca_step F mi mt md mst (ok_ca F mi mt md mst bF gF n) bF gF
end
end K22
end

section
set_option Elab.async false
set_option linter.all false
set_option maxRecDepth 100000
set_option maxHeartbeats 4000000
namespace K22
open PySem PySem.Spec PyProof.Rows L2 Gd
abbrev sBd : Stmt := topS 20
abbrev nBd : List Str := ["_law_asked", "_law_chosen", "_law_tally", "_law_some", "_law_number"]
theorem scBd : FnScope nBd ["_law_asked", "_law_chosen", "_law_tally"] (defScope sBd) := ⟨rfl, rfl, rfl, by decide +kernel, rfl, by decide +kernel, by decide +kernel⟩
def spBd (K : PySem.W.Frag) : Sp := fun vs H Q _ => ∃ (A PL C : Addr) (ss : List Src) (o : List Nat) (w : Str) (cs : Cnt), vs = [.ref A, .ref PL, .ref C] ∧ AskAt K H A ss ∧ Small ss ∧ PlAt K H PL o w ∧ CtAt K H C cs ∧
  1 ≤ o.length ∧ o.length ≤ ss.length ∧ o.Nodup ∧ (∀ j ∈ o, j < o.length) ∧ ∀ H', Same H H' → Q (.int (boundN ss cs o w)) H'
section
variable {P : Program} {w : World} {K : PySem.W.Frag} {mg : Str → Option Value} {base : Heap} {f fL : Addr} {fd dL : FuncData}
theorem ok_bd (F : Fun K "_law_bound" "_law_bound" sBd f fd) (ms : mg "sorted" = none) (ml : mg "list" = none) (mu : mg "sum" = none)
    (FL : Fun K "links_of" "links_of" sLk fL dL) (GL : FnOk P w K mg base CX0 2 fL dL ["ask", "plan"] (spLk K)) (bL : Binds K dL ["ask", "plan"] []) (gL : mg "links_of" = some (.ref fL)) :
    FnOk P w K mg base CX0 3 f fd ["_law_asked", "_law_chosen", "_law_tally"] (spBd K) := by
  refine F.ok scBd (fun vs H Q E h => ?_) (fun cdv A outer s H vs Q E hr h => ?_)
  · obtain ⟨A, PL, C, ss, o, w, cs, rfl, _⟩ := h
    rfl
  obtain ⟨AK, PL, C, ss, o, wy, cs, rfl, hA, hs, hP, hC, o1, lo, on, oj, q⟩ := h
  have nd := scBd.nd
  have hu := hu_of hr
  have zl : sizeLine = 16777216 := rfl
  refine ⟨_, pss_cons (ps_set (i := 3) nd rfl (.inl rfl) (pe_lst (pa_cons (pe_ix ix_tup (pe_ix ix_tup (pv 1) pe_int (fun _ _ => rfl)) pe_int (fun _ _ => rfl)) pa_nil)))
      (C8.pss_cut (ps_if (pt_cmpR op_eq (pe_ix ix_tup (pv 1) pe_int (fun _ _ => rfl)) pe_str (nomark _))
        (pss_one (ps_set (i := 3) nd rfl (.inl rfl) (pe_op op_cat (pv 3) (pe_callB cr_sortedI (by rfl) ms (by decide +kernel) (pa_cons (pe_callTy (call_listD rfl) (by rfl) ml (by decide +kernel) (pa_cons (pe_call GL hr (by rfl) gL FL.kp bL .nil pass0 (pa_cons (pv 0) (pa_cons (pv 1) pa_nil))) pa_nil)) pa_nil))))) pss_nil)
      (pss_one (ps_ret (pe_op op_add pe_int (pe_callB (cr_sum rfl) (by rfl) mu (by decide +kernel) (pa_cons
        (pe_lc (own := [("_law_number", 4)]) (g := gName 4) (tt := tYes) rfl nd (pi_list (pv 3)) (blkOk_by (N := nBd) (sc := defScope sBd) (by decide +kernel)) (fun _ _ _ _ _ => pg_name (i := 4) nd rfl (Or.inl rfl)) (fun _ _ _ _ _ => pts_nil)
          (fun _ _ _ _ _ => pe_ix (r := rIxT K) ix_tup (pe_dget2 hu (pv 2) (pe_ix (r := rIxT K) ix_tup (pe_ix (r := rIxT K) ix_tup (pe_ix (r := rIxT K) ix_tup (pv 0) pe_int (fun _ _ => rfl)) (pv 4) (fun _ _ => rfl)) pe_int (fun _ _ => rfl)) (pe_tup (pa_cons pe_int (pa_cons pe_dnewK pa_nil))) ⟨rfl, rfl, rfl, rfl⟩) pe_int (fun _ _ => rfl))) pa_nil)))))), ?_⟩
  obtain ⟨O, tP, tO⟩ := hP
  have eo0 : (intsV o)[0]? = some (V.int (((o.getD 0 0 : Nat)) : Int)) := by
    unfold intsV
    rw [List.getElem?_map, List.getD_eq_getElem?_getD, List.getElem?_eq_getElem (by omega)]
    rfl
  have e1 : o.getD 0 0 < ss.length := by
    have := oj _ (getD_mem' (d := 0) (show 0 < o.length by omega))
    omega
  refine ⟨_, rfl, PL, _, 0, _, rfl, rfl, tP, rfl, O, _, 0, _, rfl, rfl, tO, atI_nat (j := 0) eo0, ?_⟩
  refine ⟨(by show 1 ≤ sizeLine; decide), fun S nS => ?_⟩
  have s1 := new_same (o := .lst [.int ((o.getD 0 0 : Nat) : Int)]) nS
  have eS : upd H S (.lst [.int ((o.getD 0 0 : Nat) : Int)]) S = some (.lst (intsV [o.getD 0 0])) := upd_same
  generalize upd H S (.lst [.int ((o.getD 0 0 : Nat) : Int)]) = H1 at s1 eS ⊢
  have oLt : ∀ n ∈ ledL ss o, n < ss.length := led_in oj lo
  have sub := links_sub (ss := ss) o1
  have l10 := hs.1
  have lled : (ledL ss o).length ≤ 20 := by
    unfold ledL
    rw [List.length_append, List.length_drop, List.length_map, List.length_range]
    omega
  refine ⟨fun σ' H' => Same H H' ∧ ∃ (S : Addr) (ks : List Nat), H' S = some (.lst (intsV ks)) ∧ (∀ k ∈ ks, k < ss.length) ∧ ks.length ≤ 30 ∧ (ks.map (rowsG ss cs)).sum = rowsG ss cs (o.getD 0 0) + (if wy = "kept" then (((linksL ss o).map (·.1)).map (rowsG ss cs)).sum else 0) ∧ σ' = [some (V.ref AK), some (V.ref PL), some (V.ref C), some (V.ref S), none], ?_, ?_⟩
  · refine ⟨_, rfl, PL, _, 1, _, rfl, rfl, same_tup s1 tP, rfl, ?_⟩
    refine ⟨rfl, _, rfl, ite2 (fun e => ?_) (fun e => ?_)⟩
    · have e : wy = "kept" := V.str.inj (of_decide_eq_true e)
      refine ⟨_, rfl, _, rfl, _, rfl, AK, PL, _, O, ss, o, rfl, ask_same s1 hA, hs, same_tup s1 tP, rfl, same_tup s1 tO, lo, on, oj, fun L lks H2 s2 nL eL hL => ?_⟩
      refine ⟨L, lks, rfl, .inl eL, fun p np => ?_⟩
      have ek : (lks.map fun kv => kV kv.1) = ((((linksL ss o).map (·.1)).map fun k => ((k : Nat) : Int)).map V.int) := by
        have := congrArg (List.map kV) hL.1
        rw [List.map_map, List.map_map] at this
        rw [List.map_map, List.map_map]
        exact this
      rw [ek]
      have j3 := new_same (o := .lst ((((linksL ss o).map (·.1)).map fun k => ((k : Nat) : Int)).map V.int)) np
      have ep : upd H2 p (.lst ((((linksL ss o).map (·.1)).map fun k => ((k : Nat) : Int)).map V.int)) p = some (.lst ((((linksL ss o).map (·.1)).map fun k => ((k : Nat) : Int)).map V.int)) := upd_same
      generalize upd H2 p (.lst ((((linksL ss o).map (·.1)).map fun k => ((k : Nat) : Int)).map V.int)) = H3 at j3 ep ⊢
      refine ⟨p, _, rfl, SqL.of ep, fun ns' T perm pw nT => ?_⟩
      have j4 := new_same (o := .lst (ns'.map V.int)) nT
      have eT : upd H3 T (.lst (ns'.map V.int)) T = some (.lst (ns'.map V.int)) := upd_same
      have s4 := (s2.trans j3).trans j4
      generalize upd H3 T (.lst (ns'.map V.int)) = H4 at s4 eT ⊢
      obtain ⟨ks', en, pk⟩ := perm_nat perm
      have eT : H4 T = some (.lst (intsV ks')) := by
        rw [eT, en, List.map_map]
        rfl
      have lk' : ks'.length ≤ 20 := by
        rw [pk.length_eq]
        exact Nat.le_trans sub.length_le lled
      refine ⟨S, T, _, _, rfl, rfl, s4 _ _ eS, eT, by rw [intsV, intsV, List.length_map, List.length_map]; show 1 + ks'.length ≤ sizeLine; omega, fun p2 np2 => ?_⟩
      have j5 := new_same (o := .lst (intsV [o.getD 0 0] ++ intsV ks')) np2
      refine ⟨(s1.trans s4).trans j5, p2, o.getD 0 0 :: ks', upd_same, fun k hk => ?_, by rw [List.length_cons]; omega, ?_, rfl⟩
      · rcases List.mem_cons.mp hk with rfl | hk
        · exact e1
        · exact oLt _ (sub.subset (pk.mem_iff.mp hk))
      · rw [if_pos e, List.map_cons, List.sum_cons, perm_sum (pk.map (rowsG ss cs))]
    · have e : wy ≠ "kept" := fun z => e (decide_eq_true (congrArg V.str z))
      refine ⟨s1, S, [o.getD 0 0], eS, fun k hk => by rw [List.mem_singleton.mp hk]; exact e1, (by show 1 ≤ 30; decide), ?_, rfl⟩
      rw [if_neg e]
      simp
  rintro σ' H' ⟨s1, S, ks, eS, klt, kl, sm, rfl⟩
  refine ⟨_, rfl, S, rfl, ⟨_, SqL.of eS⟩, fun D nD => ?_⟩
  refine lc_it walk_list (fun i H1 => Same H' H1 ∧ H1 D = some (.lst (((ks.take i).map (rowsG ss cs)).map V.int))) ⟨new_same nD, upd_same⟩ (fun i H1 _ h => SqL.of (h.1 _ _ eS)) ?_ ?_
  · rintro i x H1 H2 hi ⟨s2, eD⟩ ⟨rfl, ex⟩
    obtain ⟨n, en, rfl⟩ := map_at ex
    have hn := klt n (List.mem_of_getElem? en)
    refine ⟨rfl, ?_⟩
    have s12 := s1.trans s2
    obtain ⟨as, xs, SS, a, b, wd, kk, tA, e0, tS, en2, ta⟩ := tab_at (ask_same s12 hA) hn
    obtain ⟨kvs, eC, _⟩ := hC.same s12
    refine ⟨_, rfl, C, rfl, .inl ⟨_, .inl eC⟩, ?_⟩
    refine ⟨_, rfl, AK, _, 0, _, rfl, rfl, tA, atI_nat (j := 0) e0, _, rfl, SS, _, _, _, rfl, rfl, tS, atI_nat (j := n) en2, a, _, 2, _, rfl, rfl, ta, atI_nat (j := 2) rfl, ?_⟩
    refine fun d nd => ?_
    have j1 := new_same (o := .dK []) nd
    have ed : upd H2 d (.dK []) d = some (.dK []) := upd_same
    generalize upd H2 d (.dK []) = H3 at j1 ed ⊢
    refine ⟨(by show 2 ≤ sizeLine; decide), fun t nt => ?_⟩
    have j2 := new_same (o := .tup [.int 1, .ref d]) nt
    have et : SqT K (upd H3 t (.tup [.int 1, .ref d])) t [.int 1, .ref d] := SqT.of upd_same
    have s3 := j1.trans j2
    have ed2 := j2 _ _ ed
    generalize upd H3 t (.tup [.int 1, .ref d]) = H4 at s3 et ed2 ⊢
    obtain ⟨o', t', u, uk, g, eo, tt, eu, ku⟩ := ct_get (hC.same (s12.trans s3)) (tabOf ss n) et ed2
    refine ⟨o', g, ?_⟩
    rw [eo]
    refine ⟨t', _, 0, _, rfl, rfl, tt, atI_nat (j := 0) rfl, ?_⟩
    refine ⟨_, s3 _ _ eD, ?_, own_same nD (s2.trans s3), ?_⟩
    · rw [List.length_map, List.length_map, List.length_take]
      omega
    · rw [upd_same, List.take_add_one, en, List.map_append, List.map_append]
      rfl
  · rintro H1 ⟨s2, eD⟩
    rw [show (intsV ks).length = ks.length from List.length_map .., List.take_length] at eD
    refine ⟨D, _, rfl, SqL.of eD, _, _, rfl, rfl, ?_⟩
    have z := q H1 (s1.trans s2)
    unfold boundN at z
    rw [← sm] at z
    exact z
end
end K22
end

section
set_option Elab.async false
set_option linter.all false
set_option maxRecDepth 100000
set_option maxHeartbeats 4000000
namespace K22
open PySem PySem.Spec PyProof.Rows L2 Gd
theorem lay_all : ∀ {ds : List PyData}, (∀ d ∈ ds, d.canLay0 = true ∧ d.depth ≤ 60) → PyData.canLayAll0 ds = true ∧ PyData.depthAll ds ≤ 60
  | [], _ => ⟨rfl, Nat.zero_le _⟩
  | d :: ds, h => by
    obtain ⟨a, b⟩ := lay_all fun x hx => h x (List.mem_cons_of_mem _ hx)
    obtain ⟨c, e⟩ := h d (by simp)
    refine ⟨by simp only [PyData.canLayAll0, a, c, Bool.and_true], ?_⟩
    simp only [PyData.depthAll]
    omega
theorem list_shaped {ds : List PyData} (h : ∀ d ∈ ds, d.canLay0 = true ∧ d.depth ≤ 60) : SeqAt.shaped (.list ds) = true := by
  obtain ⟨a, b⟩ := lay_all h
  unfold SeqAt.shaped
  have e : (PyData.list ds).depth = PyData.depthAll ds + 1 := by
    unfold PyData.depth
    rfl
  rw [e]
  simp only [PyData.canLay0, a, Bool.true_and, decide_eq_true_eq]
  omega
theorem shaped_eqv {d : PyData} (h : SeqAt.shaped d = true) : PyData.eqv d d = true := SeqAt.eqv_refl_plain d (PyData.plain_of_canLay0 d (SeqAt.canLay_of_shaped h))
theorem ints_shaped (is : List Int) : SeqAt.shaped (.list (is.map PyData.int)) = true := list_shaped fun d hd => by
  obtain ⟨i, _, rfl⟩ := List.mem_map.mp hd
  exact ⟨rfl, Nat.zero_le _⟩
theorem ints_dp {K : PySem.W.Frag} {H : Hp} : ∀ is : List Int, DpAll K H (is.map V.int) (is.map PyData.int)
  | [] => .nil
  | i :: is => .cons (.int i) (ints_dp is)
theorem enc_lay {m : Nat} {b : Bool} (m1 : 1 ≤ m) (m3 : m ≤ 3) : ∀ x ∈ plansOW m b, (encP x).canLay0 = true ∧ (encP x).depth ≤ 60 := by
  match m, b, m1, m3 with
  | 1, true, _, _ => decide +kernel
  | 1, false, _, _ => decide +kernel
  | 2, true, _, _ => decide +kernel
  | 2, false, _, _ => decide +kernel
  | 3, true, _, _ => decide +kernel
  | 3, false, _, _ => decide +kernel
theorem enc_an {m : Nat} {b : Bool} (m1 : 1 ≤ m) (m3 : m ≤ 3) : ∀ x ∈ plansOW m b, ∀ y ∈ plansOW m b, PySem.W.dataLe false id (encP x) (encP y) = true → PySem.W.dataLe false id (encP y) (encP x) = true → x = y := by
  match m, b, m1, m3 with
  | 1, true, _, _ => decide +kernel
  | 1, false, _, _ => decide +kernel
  | 2, true, _, _ => decide +kernel
  | 2, false, _, _ => decide +kernel
  | 3, true, _, _ => decide +kernel
  | 3, false, _, _ => decide +kernel
theorem go_perm (ss : List Src) (cs : Cnt) (m : Nat) (b : Bool) : (goL ss cs m b).Perm (plansOW m b) := List.mergeSort_perm _ _
theorem told_go_enc {ss : List Src} {cs : Cnt} {m : Nat} {b : Bool} (m1 : 1 ≤ m) (m3 : m ≤ 3) : told ((goL ss cs m b).map encP) = (plansOW m b).map encP := by
  have an : ∀ u ∈ (plansOW m b).map encP, ∀ v ∈ (plansOW m b).map encP, PySem.W.dataLe false id u v = true → PySem.W.dataLe false id v u = true → u = v := fun u hu v hv h1 h2 => by
    obtain ⟨x, hx, rfl⟩ := List.mem_map.mp hu
    obtain ⟨y, hy, rfl⟩ := List.mem_map.mp hv
    rw [enc_an m1 m3 x hx y hy h1 h2]
  have e1 := told_same ((go_perm ss cs m b).map encP).symm an
  have p2 : ((plansOW m b).map encP).Perm (genL m b) := by
    have := told_perm (genL m b)
    rw [told_gen m b m1 m3, plans_ow] at this
    exact this
  have e2 := told_same p2 an
  rw [← e1, e2, told_gen m b m1 m3, plans_ow]
theorem alike_enc (xs : List (List Nat × Str)) : PySem.W.AllAlike (xs.map encP) := PySem.W.AllAlike.of fun x y => by
  show PySem.W.alikeAll [.tuple (x.1.map fun k => PyData.int ((k : Nat) : Int)), .str x.2] [.tuple (y.1.map fun k => PyData.int ((k : Nat) : Int)), .str y.2] = true
  simp only [PySem.W.alikeAll, PySem.W.alike, alike_ints, Bool.and_true]
theorem sort_enc (xs : List (List Nat × Str)) : PySem.W.Sortable (xs.map encP) := PySem.W.Sortable.tuples fun x => ⟨_, _, rfl⟩
end K22
end

section
set_option Elab.async false
set_option linter.all false
set_option maxRecDepth 100000
set_option maxHeartbeats 4000000
namespace K22
open PySem PySem.Spec PyProof.Rows L2 Gd
abbrev sRi : Stmt := topS 21
abbrev nRi : List Str := ["_law_pen_here", "_law_asked", "_law_tally", "_law_names_here", "_law_plans", "_law_here", "_law_more_here", "_law_parted", "_law_told", "_law_chosen", "_law_k", "_law_looks"]
theorem scRi : FnScope nRi ["_law_pen_here", "_law_asked", "_law_tally", "_law_names_here"] (defScope sRi) := ⟨rfl, rfl, rfl, by decide +kernel, rfl, by decide +kernel, by decide +kernel⟩
def spRi (K : PySem.W.Frag) : Sp := fun vs H Q _ => ∃ (l c A C a : Addr) (S : Int) (ss : List Src) (m : Nat) (cs : Cnt) (ns : List Str), vs = [.ref l, .ref A, .ref C, .ref a] ∧ Pen H l c S ∧ S ≤ 70000 ∧ AskAt K H A ss ∧ Drawn ss m ∧ InNs ns ss ∧
  Dg K H (· = l) (.ref C) (cnD cs) ∧ CnS ns cs ∧ H a = some (.lst (ns.map V.str)) ∧ a ≠ l ∧ ns.length = 5 ∧ ns.Nodup ∧ (∀ n ∈ ns, n ∉ specials) ∧ ∀ H', Pen H' l c (S + 40) → Ex1 l H H' → Q (.bl true) H'
theorem dp_of_at {K : PySem.W.Frag} {H : Hp} : ∀ {zs : List V} {ds : List PyData}, zs.length = ds.length → (∀ (i : Nat) (v : V), zs[i]? = some v → ∃ d, ds[i]? = some d ∧ Dp K H v d) → DpAll K H zs ds
  | [], [], _, _ => .nil
  | [], _ :: _, h, _ => by simp at h
  | _ :: _, [], h, _ => by simp at h
  | z :: zs, d :: ds, h, g => by
    obtain ⟨d', e, hd⟩ := g 0 z rfl
    cases Option.some.inj e
    exact .cons hd (dp_of_at (by simpa using h) fun i v hv => g (i + 1) v hv)
section
variable {P : Program} {w : World} {K : PySem.W.Frag} {mg : Str → Option Value} {base : Heap} {f fP fG fM fT fB fD : Addr} {fd dP dG dM dT dB dD : FuncData}
theorem ok_ri (F : Fun K "_law_right" "_law_right" sRi f fd) (ms : mg "sorted" = none) (ml : mg "list" = none) (mz : mg "zip" = none) (me : mg "enumerate" = none)
    (FP : Fun K "plans_of" "plans_of" sPl fP dP) (GP : FnOk P w K mg base CX0 3 fP dP ["ask"] (spPl K)) (bP : Binds K dP ["ask"] []) (gP : mg "plans_of" = some (.ref fP))
    (FG : Fun K "guess" "guess" sGs fG dG) (GG : FnOk P w K mg base CX0 3 fG dG ["ask", "plan", "counts"] (spGs K)) (bG : Binds K dG ["ask", "plan", "counts"] []) (gG : mg "guess" = some (.ref fG))
    (FM : Fun K "_law_more" "_law_more" sMo fM dM) (GM : FnOk P w K mg base CX0 2 fM dM ["_law_pen_here", "_law_tally", "_law_is_rows"] (spMo K)) (bM : Binds K dM ["_law_pen_here", "_law_tally", "_law_is_rows"] []) (gM : mg "_law_more" = some (.ref fM))
    (FT : Fun K "_law_told_all" "_law_told_all" sTo fT dT) (GT : FnOk P w K mg base CX0 1 fT dT ["_law_tally", "_law_names_here"] (spTo K)) (bT : Binds K dT ["_law_tally", "_law_names_here"] []) (gT : mg "_law_told_all" = some (.ref fT))
    (FB : Fun K "_law_bound" "_law_bound" sBd fB dB) (GB : FnOk P w K mg base CX0 3 fB dB ["_law_asked", "_law_chosen", "_law_tally"] (spBd K)) (bB : Binds K dB ["_law_asked", "_law_chosen", "_law_tally"] []) (gB : mg "_law_bound" = some (.ref fB))
    (FD : Fun K "guessed" "guessed" sGd fD dD) (GD : FnOk P w K mg base CX0 4 fD dD ["ask", "counts"] (spGd K)) (bD : Binds K dD ["ask", "counts"] []) (gD : mg "guessed" = some (.ref fD)) :
    FnOk P w K mg base CX0 5 f fd ["_law_pen_here", "_law_asked", "_law_tally", "_law_names_here"] (spRi K) := by
  refine F.ok scRi (fun vs H Q E h => ?_) (fun cdv A outer s H vs Q E hr h => ?_)
  · obtain ⟨l, c, A, C, a, S, ss, m, cs, ns, rfl, _⟩ := h
    rfl
  obtain ⟨l, c, AK, C, a, S, ss, m, cs, ns, rfl, hP, hS, hA, dr, ins, hC, hcs, ea, nal, n5, nn, nsp, q⟩ := h
  have nd := scRi.nd
  have hu := hu_of hr
  have zl : sizeLine = 16777216 := rfl
  have r1 := hr.mono (show 1 ≤ 4 by decide)
  have r2 := hr.mono (show 2 ≤ 4 by decide)
  have r3 := hr.mono (show 3 ≤ 4 by decide)
  have blk : ∀ {sc own}, BlkOk nRi (defScope sRi) sc own → BlkOk nRi (defScope sRi) sc own := fun h => h
  refine ⟨_, pss_cons (ps_set (i := 4) nd rfl (.inl rfl) (pe_call GP r3 (by rfl) gP FP.kp bP .nil pass0 (pa_cons (pv 1) pa_nil)))
      (pss_cons (ps_set (i := 5) nd rfl (.inr rfl) (pe_lc (own := [("_law_chosen", 9)]) (g := gName 9) (tt := tYes) rfl nd (pi_list (pv 4)) (blkOk_by (N := nRi) (sc := defScope sRi) (by decide +kernel)) (fun _ _ _ _ _ => pg_name (i := 9) nd rfl (Or.inl rfl)) (fun _ _ _ _ _ => pts_nil)
        (fun _ _ _ _ _ => pe_call GG r3 (by rfl) gG FG.kp bG .nil pass0 (pa_cons (pv 1) (pa_cons (pv 9) (pa_cons (pv 2) pa_nil))))))
      (pss_cons (ps_set (i := 6) nd rfl (.inr rfl) (pe_call GM r2 (by rfl) gM FM.kp bM .nil pass0 (pa_cons (pv 0) (pa_cons (pv 2) (pa_cons pe_bl pa_nil)))))
      (pss_cons (ps_set (i := 7) nd rfl (.inr rfl) (pe_call GM r2 (by rfl) gM FM.kp bM .nil pass0 (pa_cons (pv 0) (pa_cons (pv 2) (pa_cons pe_bl pa_nil)))))
      (pss_cons (ps_if (pt_cmpR (op_neL0 hr.units0) (pe_lc (own := [("_law_k", 10), ("_law_chosen", 9)]) (g := gTup K 2 (gCons (gName 10) (gCons (gName 9) gNil))) rfl nd (pi_enum (by rfl) me (pa_cons (pv 4) pa_nil)) (blkOk_by (N := nRi) (sc := defScope sRi) (by decide +kernel))
          (fun _ _ _ _ _ => pg_tup rfl (pgs_cons (pg_name (i := 10) nd rfl (Or.inl rfl)) (pgs_cons (pg_name (i := 9) nd rfl (Or.inl rfl)) pgs_nil)))
          (fun _ _ _ _ _ => pts_one (pt_cmpR op_lt (pe_call GG r3 (by rfl) gG FG.kp bG .nil pass0 (pa_cons (pv 1) (pa_cons (pv 9) (pa_cons (pv 6) pa_nil)))) (pe_ix (r := rIxL K) ix_list (pv 5) (pv 10) (fun _ _ => rfl)) (nomark _))) (fun _ _ _ _ _ => pv 10)) (pe_lst pa_nil) (nomark _)) pss_never pss_nil)
      (pss_cons (ps_if (pt_cmpR (op_neL0 hr.units0) (pe_lc (own := [("_law_k", 10), ("_law_chosen", 9)]) (g := gTup K 2 (gCons (gName 10) (gCons (gName 9) gNil))) rfl nd (pi_enum (by rfl) me (pa_cons (pv 4) pa_nil)) (blkOk_by (N := nRi) (sc := defScope sRi) (by decide +kernel))
          (fun _ _ _ _ _ => pg_tup rfl (pgs_cons (pg_name (i := 10) nd rfl (Or.inl rfl)) (pgs_cons (pg_name (i := 9) nd rfl (Or.inl rfl)) pgs_nil)))
          (fun _ _ _ _ _ => pts_one (pt_cmpR op_gt (pe_call GG r3 (by rfl) gG FG.kp bG .nil pass0 (pa_cons (pv 1) (pa_cons (pv 9) (pa_cons (pv 7) pa_nil)))) (pe_ix (r := rIxL K) ix_list (pv 5) (pv 10) (fun _ _ => rfl)) (nomark _))) (fun _ _ _ _ _ => pv 10)) (pe_lst pa_nil) (nomark _)) pss_never pss_nil)
      (pss_cons (ps_if (pt_cmpR (op_neD hr.units) (pe_lc (own := [("_law_chosen", 9)]) (g := gName 9) (tt := tYes) rfl nd (pi_list (pv 4)) (blkOk_by (N := nRi) (sc := defScope sRi) (by decide +kernel)) (fun _ _ _ _ _ => pg_name (i := 9) nd rfl (Or.inl rfl)) (fun _ _ _ _ _ => pts_nil)
          (fun _ _ _ _ _ => pe_call GG r3 (by rfl) gG FG.kp bG .nil pass0 (pa_cons (pv 1) (pa_cons (pv 9) (pa_cons (pe_call GT r1 (by rfl) gT FT.kp bT .nil pass0 (pa_cons (pv 2) (pa_cons (pv 3) pa_nil))) pa_nil))))) (pv 5) (nomark _)) pss_never pss_nil)
      (pss_cons (ps_if (pt_cmpR (op_neL0 hr.units0) (pe_lc (own := [("_law_k", 10), ("_law_chosen", 9)]) (g := gTup K 2 (gCons (gName 10) (gCons (gName 9) gNil))) rfl nd (pi_enum (by rfl) me (pa_cons (pv 4) pa_nil)) (blkOk_by (N := nRi) (sc := defScope sRi) (by decide +kernel))
          (fun _ _ _ _ _ => pg_tup rfl (pgs_cons (pg_name (i := 10) nd rfl (Or.inl rfl)) (pgs_cons (pg_name (i := 9) nd rfl (Or.inl rfl)) pgs_nil)))
          (fun _ _ _ _ _ => pts_one (pt_cmpR op_lt (pe_ix (r := rIxL K) ix_list (pv 5) (pv 10) (fun _ _ => rfl)) (pe_call GB r3 (by rfl) gB FB.kp bB .nil pass0 (pa_cons (pv 1) (pa_cons (pv 9) (pa_cons (pv 2) pa_nil)))) (nomark _))) (fun _ _ _ _ _ => pv 10)) (pe_lst pa_nil) (nomark _)) pss_never pss_nil)
      (pss_cons (ps_set (i := 8) nd rfl (.inl rfl) (pe_call GD hr (by rfl) gD FD.kp bD .nil pass0 (pa_cons (pv 1) (pa_cons (pv 2) pa_nil))))
      (pss_one (ps_ret (pe_and (pe_cmpR (op_eqD hr.units) (pe_callB (call_sortedD hr.units) (by rfl) ms (by decide +kernel) (pa_cons (pv 8) pa_nil)) (pv 4) (nomark _))
        (pe_one (pe_cmpR (op_eqD hr.units) (pv 8) (pe_lc (own := [("_law_looks", 11), ("_law_chosen", 9)]) (g := gTup K 2 (gCons (gName 11) (gCons (gName 9) gNil))) (tt := tYes) (wi := iList K _) rfl nd (pi_list (pe_callB (call_sortedD hr.units) (by rfl) ms (by decide +kernel) (pa_cons (pe_listzip rfl (by rfl) ml (by rfl) mz (pa_cons (pv 5) (pa_cons (pv 4) pa_nil))) pa_nil))) (blkOk_by (N := nRi) (sc := defScope sRi) (by decide +kernel))
          (fun _ _ _ _ _ => pg_tup rfl (pgs_cons (pg_name (i := 11) nd rfl (Or.inl rfl)) (pgs_cons (pg_name (i := 9) nd rfl (Or.inl rfl)) pgs_nil))) (fun _ _ _ _ _ => pts_nil) (fun _ _ _ _ _ => pv 9)) (nomark _)))))))))))))), ?_⟩
  have small : Small ss := ⟨Nat.le_trans dr.five (by decide), fun s hs => Nat.le_trans (dr.small s hs).1 (by decide)⟩
  have ssin : SsIn ns ss := fun s hs => ⟨(ins s hs).2.1, (ins s hs).2.2.1, (ins s hs).2.2.2⟩
  have m1 := dr.m1
  have m3 := dr.m3
  have only := srcs_only ss small.2
  obtain ⟨l1, l12⟩ := ow_len (b := anyP ss) m1 m3
  have ok : ∀ x ∈ plansOW m (anyP ss), OwOk m x := fun x h => ow_ok m1 m3 h
  have fil := dr.well.le
  have l5 := dr.five
  refine ⟨_, rfl, AK, ss, m, rfl, hA, small, dr.well, dr.withs, m1, m3, fun us PL H1 s1 nP eP hP1 _ => ?_⟩
  rw [plans_ow] at hP1
  have onP : tupOnlyAll ((plansOW m (anyP ss)).map encP) = true := encPs_only _ fun x h => by have := (ok x h).len; omega
  have lu : us.length = (plansOW m (anyP ss)).length := by rw [DpAll.len hP1, List.length_map]
  have hC0 : CtAt K H C cs := by
    cases hC.free with
    | dct e _ k => exact ⟨_, e, k⟩
  have nPl := (hP.not nP).1
  have asks : ∀ {H' : Hp}, Tups K H H' → AskAt K H' AK ss := fun u => by
    obtain ⟨as, xs, SS, h1, h2, h3, h4⟩ := id hA
    exact ⟨as, xs, SS, u _ _ h1, h2, u _ _ h3, DpAll.tups u _ only h4⟩
  -- a plan of the list
  have planAt : ∀ {H2 : Hp} {i : Nat} {x : V}, DpAll K H2 us ((plansOW m (anyP ss)).map encP) → us[i]? = some x → ∃ y p, (plansOW m (anyP ss))[i]? = some y ∧ OwOk m y ∧ x = .ref p ∧ PlAt K H2 p y.1 y.2 := fun h ex => by
    obtain ⟨d, ed, hd⟩ := DpAll.at_ h ex
    rw [List.getElem?_map, Option.map_eq_some_iff] at ed
    obtain ⟨y, ey, rfl⟩ := ed
    obtain ⟨p, rfl, hp⟩ := pl_at hd
    exact ⟨y, p, ey, ok y (List.mem_of_getElem? ey), rfl, hp⟩
  obtain ⟨gN, hgN⟩ : ∃ gN : List Nat × Str → Int, gN = fun x => guessN ss cs x.1 x.2 := ⟨_, rfl⟩
  have cok := hcs.ok
  refine ⟨_, rfl, PL, rfl, ⟨_, SqL.of eP⟩, fun D nD => ?_⟩
  have nDl : D ≠ l := ((hP.same s1).not nD).1
  refine lc_it walk_list (fun i H2 => Same H1 H2 ∧ H2 D = some (.lst ((((plansOW m (anyP ss)).take i).map gN).map V.int))) ⟨new_same nD, upd_same⟩ (fun i H2 _ h => SqL.of (h.1 _ _ eP)) ?_ ?_
  · rintro i x H2 H3 hi ⟨s2, eD⟩ ⟨rfl, ex⟩
    obtain ⟨y, p, ey, oy, rfl, hp⟩ := planAt (DpAll.same s2 _ hP1) ex
    have s12 := s1.trans s2
    refine ⟨rfl, ?_⟩
    refine ⟨_, rfl, _, rfl, _, rfl, AK, p, C, ss, y.1, y.2, cs, rfl, ask_same s12 hA, small, hp, hC0.same s12, cok, by have := oy.len; omega, by have := oy.len; omega, oy.nod, oy.lt, fun H4 s4 => ?_⟩
    have hi2 := at_lt ex
    refine ⟨_, s4 _ _ eD, by rw [List.length_map, List.length_map, List.length_take]; omega, own_same nD (s2.trans s4), ?_⟩
    rw [upd_same, take_at ey, List.map_append, List.map_append, hgN]
    rfl
  rintro H2 ⟨s2, eD⟩
  rw [lu, List.take_length] at eD
  have s12 := s1.trans s2
  have p2 := hP.same s12
  have hC2 := hC.same s12
  obtain ⟨_, _, _, el2, _⟩ := id p2
  refine ⟨_, rfl, _, rfl, l, c, C, S, ns, cs, true, rfl, p2, by omega, hC2, hcs, fun F1 fs1 H3 hF1 nf1 nm1 rel1 p3 x3 => ?_⟩
  have hC3 := Dg.drawnN (N := (· = l)) rfl el2 x3 hC2
  obtain ⟨_, _, _, el3, _⟩ := id p3
  refine ⟨_, rfl, _, rfl, l, c, C, S + 20, ns, cs, false, rfl, p3, by omega, hC3, hcs, fun F2 fs2 H4 hF2 nf2 nm2 rel2 p4 x4 => ?_⟩
  have hC4 := Dg.drawnN (N := (· = l)) rfl el3 x4 hC3
  have hl2 : H2 l ≠ none := fun z => by rw [el2] at z; cases z
  have hl3 : H3 l ≠ none := fun z => by rw [el3] at z; cases z
  have hF14 := Dg.drawnN hl2 el3 x4 hF1
  have ct : ∀ {N : Addr → Prop} {F : Addr} {fs : Cnt}, Dg K H4 N (.ref F) (cnD fs) → CtAt K H4 F fs := fun h => by
    cases h.free with
    | dct e _ k => exact ⟨_, e, k⟩
  have cC := ct hC4
  have c1 := ct hF14
  have c2 := ct hF2
  have x24 := x3.trans x4
  have u24 : Tups K H2 H4 := Ex1.tups x24 el2
  have hA4 := asks ((Tups.of_same s12).trans u24)
  have hP4 : DpAll K H4 us ((plansOW m (anyP ss)).map encP) := DpAll.tups ((Tups.of_same s2).trans u24) _ onP hP1
  have eP4 := x24 _ _ nPl (s2 _ _ eP)
  have eD4 := x24 _ _ nDl eD
  have ea4 := x24 _ _ nal (s12 _ _ ea)
  have x04 : Ex1 l H H4 := (ex1_same s12).trans x24
  have up1 := (rel_all hcs.2.1 nf1 nm1 rel1).1 rfl
  have up2 := (rel_all hcs.2.1 nf2 nm2 rel2).2 rfl
  have fok : ∀ {b : Bool} {fs : Cnt}, (∀ e' ∈ fs, ∃ e ∈ cs, RelE b e e') → CnOk fs := fun h e' he' => by
    obtain ⟨e, he, _, g1, g2, _, _, _, g6⟩ := h e' he'
    obtain ⟨_, b1, b2, _⟩ := hcs.2.2 e he
    have big : (200 : Int) ≤ 10 ^ 30 := by decide
    exact ⟨by omega, Int.le_trans (by omega) big, fun u hu => ⟨(g6 u hu).1, Int.le_trans (g6 u hu).2 big⟩⟩
  have ok1 := fok rel1
  have ok2 := fok rel2
  have gat : ∀ {i : Nat} {y : List Nat × Str}, (plansOW m (anyP ss))[i]? = some y → (((plansOW m (anyP ss)).map gN).map V.int)[i]? = some (.int (guessN ss cs y.1 y.2)) := fun ey => by
    rw [List.getElem?_map, List.getElem?_map, ey, hgN]
    rfl
  have led : ∀ {y : List Nat × Str}, OwOk m y → (∀ n ∈ ledL ss y.1, n < ss.length) ∧ y.1.getD 0 0 < ss.length := fun {y} oy => by
    have := oy.len
    have lo : y.1.length ≤ ss.length := by omega
    refine ⟨led_in oy.lt lo, ?_⟩
    have := oy.lt _ (getD_mem' (d := 0) (show 0 < y.1.length by omega))
    omega
  clear hC hC2 hC3 hC4 hF1 hF14 hF2 rel1 rel2 nm1 nm2 nf1 nf2 x3 x4 x24 u24 ea p2 p3 el2 el3 hl2 hl3 s12 s2 s1 ct hC0 hP hA asks eP hP1 eD nD nP
  have l12s : (plansOW m (anyP ss)).length ≤ sizeLine := by omega
  -- more rows
  refine ⟨_, rfl, PL, _, rfl, SqL.of eP4, fun E nE => ?_⟩
  refine lc_it walk_enum (fun i H5 => Same H4 H5 ∧ H5 E = some (.lst [])) ⟨new_same nE, upd_same⟩ (fun i H5 _ h => SqL.of (h.1 _ _ eP4)) ?_ ?_
  · rintro i x H5 H6 hi ⟨s5, eE⟩ ⟨T0, v1, v2, rfl, nT0, rfl, ei, ex⟩
    cases ei
    have s6 := s5.trans (new_same (o := .tup [.int ((i : Nat) : Int), v2]) nT0)
    obtain ⟨y, p, ey, oy, rfl, hp⟩ := planAt (DpAll.same s6 _ hP4) ex
    obtain ⟨h1, h2⟩ := led oy
    refine ⟨T0, _, rfl, SqT.of upd_same, rfl, _, _, rfl, _, _, rfl, rfl, ?_⟩
    refine ⟨rfl, ?_⟩
    refine ⟨_, rfl, _, rfl, _, rfl, AK, p, F1, ss, y.1, y.2, fs1, rfl, ask_same s6 hA4, small, hp, c1.same s6, ok1, by have := oy.len; omega, by have := oy.len; omega, oy.nod, oy.lt, fun H7 s7 => ?_⟩
    have s67 := s6.trans s7
    refine ⟨_, rfl, _, rfl, D, _, _, .int _, rfl, rfl, SqL.of (s67 _ _ eD4), atI_nat (gat ey), ?_⟩
    have le := guess_rows (w := y.2) cok up1 h1 h2
    refine ⟨_, _, rfl, rfl, _, rfl, ite2 (fun e => absurd (of_decide_eq_true e) (by omega)) (fun _ => ?_)⟩
    have jT := new_same (o := .tup [.int ((i : Nat) : Int), .ref p]) nT0
    exact ⟨s67, s7 _ _ (jT _ _ eE)⟩
  rintro H5 ⟨s45, eE⟩
  refine ⟨Nat.zero_le _, fun z nz => ?_⟩
  have j5 := new_same (o := .lst []) nz
  have ez : upd H5 z (.lst []) z = some (.lst []) := upd_same
  refine ⟨E, z, _, rfl, rfl, SqL.of (j5 _ _ eE), SqL.of ez, _, rfl, ite2 (fun e => absurd e (by decide)) (fun _ => ?_)⟩
  have s5 := s45.trans j5
  have cC := cC.same s5
  have c2 := c2.same s5
  have hA4 := ask_same s5 hA4
  have hP4 := DpAll.same s5 _ hP4
  have eP4 := s5 _ _ eP4
  have eD4 := s5 _ _ eD4
  have ea4 := s5 _ _ ea4
  have x04 := x04.trans (ex1_same s5)
  have p4 := p4.same s5
  generalize upd H5 z (.lst []) = H6 at cC c2 hA4 hP4 eP4 eD4 ea4 x04 p4 ⊢
  clear s5 j5 ez s45 eE nz nE c1 up1 ok1
  -- more unlike
  refine ⟨_, rfl, PL, _, rfl, SqL.of eP4, fun E nE => ?_⟩
  refine lc_it walk_enum (fun i H5 => Same H6 H5 ∧ H5 E = some (.lst [])) ⟨new_same nE, upd_same⟩ (fun i H5 _ h => SqL.of (h.1 _ _ eP4)) ?_ ?_
  · rintro i x H5 H7 hi ⟨s5, eE⟩ ⟨T0, v1, v2, rfl, nT0, rfl, ei, ex⟩
    cases ei
    have s6 := s5.trans (new_same (o := .tup [.int ((i : Nat) : Int), v2]) nT0)
    obtain ⟨y, p, ey, oy, rfl, hp⟩ := planAt (DpAll.same s6 _ hP4) ex
    obtain ⟨h1, h2⟩ := led oy
    refine ⟨T0, _, rfl, SqT.of upd_same, rfl, _, _, rfl, _, _, rfl, rfl, ?_⟩
    refine ⟨rfl, ?_⟩
    refine ⟨_, rfl, _, rfl, _, rfl, AK, p, F2, ss, y.1, y.2, fs2, rfl, ask_same s6 hA4, small, hp, c2.same s6, ok2, by have := oy.len; omega, by have := oy.len; omega, oy.nod, oy.lt, fun H8 s7 => ?_⟩
    have s67 := s6.trans s7
    refine ⟨_, rfl, _, rfl, D, _, _, .int _, rfl, rfl, SqL.of (s67 _ _ eD4), atI_nat (gat ey), ?_⟩
    have le := guess_unl (w := y.2) ok2 up2 h1 h2
    refine ⟨_, _, rfl, rfl, _, rfl, ite2 (fun e => absurd (of_decide_eq_true e) (by omega)) (fun _ => ?_)⟩
    have jT := new_same (o := .tup [.int ((i : Nat) : Int), .ref p]) nT0
    exact ⟨s67, s7 _ _ (jT _ _ eE)⟩
  rintro H5 ⟨s45, eE⟩
  refine ⟨Nat.zero_le _, fun z nz => ?_⟩
  have j5 := new_same (o := .lst []) nz
  have ez : upd H5 z (.lst []) z = some (.lst []) := upd_same
  refine ⟨E, z, _, rfl, rfl, SqL.of (j5 _ _ eE), SqL.of ez, _, rfl, ite2 (fun e => absurd e (by decide)) (fun _ => ?_)⟩
  have s5 := s45.trans j5
  have cC := cC.same s5
  have hA4 := ask_same s5 hA4
  have hP4 := DpAll.same s5 _ hP4
  have eP4 := s5 _ _ eP4
  have eD4 := s5 _ _ eD4
  have ea4 := s5 _ _ ea4
  have x04 := x04.trans (ex1_same s5)
  have p4 := p4.same s5
  generalize upd H5 z (.lst []) = H7 at cC hA4 hP4 eP4 eD4 ea4 x04 p4 ⊢
  clear s5 j5 ez s45 eE nz nE c2 up2 ok2 fok
  -- told all
  refine ⟨_, rfl, PL, rfl, ⟨_, SqL.of eP4⟩, fun E nE => ?_⟩
  refine lc_it walk_list (fun i H5 => Same H7 H5 ∧ H5 E = some (.lst ((((plansOW m (anyP ss)).take i).map gN).map V.int))) ⟨new_same nE, upd_same⟩ (fun i H5 _ h => SqL.of (h.1 _ _ eP4)) ?_ ?_
  · rintro i x H5 H8 hi ⟨s5, eE⟩ ⟨rfl, ex⟩
    obtain ⟨y, p, ey, oy, rfl, hp⟩ := planAt (DpAll.same s5 _ hP4) ex
    obtain ⟨h1, h2⟩ := led oy
    have hi2 := at_lt ex
    refine ⟨rfl, ?_⟩
    refine ⟨_, rfl, _, rfl, _, rfl, _, rfl, C, a, cs, ns, rfl, cC.same s5, s5 _ _ ea4, n5, nn, nsp, fun FT' H9 s9 hT => ?_⟩
    have s59 := s5.trans s9
    refine ⟨AK, p, FT', ss, y.1, y.2, _, rfl, ask_same s59 hA4, small, hp.same s9, hT, told_ok cok ns ns, by have := oy.len; omega, by have := oy.len; omega, oy.nod, oy.lt, fun H10 s10 => ?_⟩
    have eq := guess_same (w := y.2) (ns := ns) (o := y.1) cok (told_ok cok ns ns) (fun n hn => tab_in ssin hn) (fun n p e => (linkG_in ssin e).1) (told_all (cs := cs) nn nsp) h1 h2
    rw [eq]
    refine ⟨_, s10 _ _ (s9 _ _ eE), by rw [List.length_map, List.length_map, List.length_take]; omega, own_same nE (s59.trans s10), ?_⟩
    rw [upd_same, take_at ey, List.map_append, List.map_append, hgN]
    rfl
  rintro H5 ⟨s45, eE⟩
  rw [lu, List.take_length] at eE
  have shI := ints_shaped ((plansOW m (anyP ss)).map gN)
  refine ⟨_, rfl, _, _, .lst (SqL.of eE) (ints_dp _), .lst (SqL.of (s45 _ _ eD4)) (ints_dp _), shI, shI, _, rfl, ?_⟩
  rw [shaped_eqv shI]
  refine iteF ?_
  have cC := cC.same s45
  have hA4 := ask_same s45 hA4
  have hP4 := DpAll.same s45 _ hP4
  have eP4 := s45 _ _ eP4
  have eD4 := s45 _ _ eD4
  have x04 := x04.trans (ex1_same s45)
  have p4 := p4.same s45
  clear s45 eE nE ea4
  -- at the least
  refine ⟨_, rfl, PL, _, rfl, SqL.of eP4, fun E nE => ?_⟩
  refine lc_it walk_enum (fun i H8 => Same H5 H8 ∧ H8 E = some (.lst [])) ⟨new_same nE, upd_same⟩ (fun i H8 _ h => SqL.of (h.1 _ _ eP4)) ?_ ?_
  · rintro i x H8 H9 hi ⟨s5, eE⟩ ⟨T0, v1, v2, rfl, nT0, rfl, ei, ex⟩
    cases ei
    have s6 := s5.trans (new_same (o := .tup [.int ((i : Nat) : Int), v2]) nT0)
    obtain ⟨y, p, ey, oy, rfl, hp⟩ := planAt (DpAll.same s6 _ hP4) ex
    refine ⟨T0, _, rfl, SqT.of upd_same, rfl, _, _, rfl, _, _, rfl, rfl, ?_⟩
    refine ⟨rfl, ?_⟩
    refine ⟨_, rfl, _, rfl, D, _, _, .int _, rfl, rfl, SqL.of (s6 _ _ eD4), atI_nat (gat ey), ?_⟩
    refine ⟨_, rfl, _, rfl, _, rfl, AK, p, C, ss, y.1, y.2, cs, rfl, ask_same s6 hA4, small, hp, cC.same s6, by have := oy.len; omega, by have := oy.len; omega, oy.nod, oy.lt, fun H10 s7 => ?_⟩
    have le := bound_le (ss := ss) (w := y.2) cok (by have := oy.len; omega) oy.nod oy.lt
    refine ⟨_, _, rfl, rfl, _, rfl, ite2 (fun e => absurd (of_decide_eq_true e) (by omega)) (fun _ => ?_)⟩
    have jT := new_same (o := .tup [.int ((i : Nat) : Int), .ref p]) nT0
    exact ⟨s6.trans s7, s7 _ _ (jT _ _ eE)⟩
  rintro H8 ⟨s45, eE⟩
  refine ⟨Nat.zero_le _, fun z nz => ?_⟩
  have j5 := new_same (o := .lst []) nz
  have ez : upd H8 z (.lst []) z = some (.lst []) := upd_same
  refine ⟨E, z, _, rfl, rfl, SqL.of (j5 _ _ eE), SqL.of ez, _, rfl, ite2 (fun e => absurd e (by decide)) (fun _ => ?_)⟩
  have s5 := s45.trans j5
  have cC := cC.same s5
  have hA4 := ask_same s5 hA4
  have hP4 := DpAll.same s5 _ hP4
  have eP4 := s5 _ _ eP4
  have eD4 := s5 _ _ eD4
  have x04 := x04.trans (ex1_same s5)
  have p4 := p4.same s5
  generalize upd H8 z (.lst []) = H9 at cC hA4 hP4 eP4 eD4 x04 p4 ⊢
  clear s5 j5 ez s45 eE nz nE
  -- told
  refine ⟨_, rfl, _, rfl, AK, C, ss, m, cs, rfl, hA4, small, dr.well, dr.withs, m1, m3, cC, cok, fun vs TL H10 s10 nTL eTL hTL => ?_⟩
  have nTL0 := nTL
  have hP10 := DpAll.same s10 _ hP4
  have eP10 := s10 _ _ eP4
  have eD10 := s10 _ _ eD4
  have x10 := x04.trans (ex1_same s10)
  have p10 := p4.same s10
  have encl := enc_lay (b := anyP ss) m1 m3
  have shP : SeqAt.shaped (.list ((plansOW m (anyP ss)).map encP)) = true := list_shaped fun d hd => by
    obtain ⟨x, hx, rfl⟩ := List.mem_map.mp hd
    exact encl x hx
  have shG : SeqAt.shaped (.list ((goL ss cs m (anyP ss)).map encP)) = true := list_shaped fun d hd => by
    obtain ⟨x, hx, rfl⟩ := List.mem_map.mp hd
    exact encl x (go_mem hx)
  have lg := go_len ss cs m (anyP ss)
  refine ⟨_, rfl, TL, vs, _, rfl, SqL.of eTL, hTL, alike_enc _, sort_enc _, by rw [List.length_map]; omega, fun d hd => ?_, fun ws T2 nT2 hws => ?_⟩
  · obtain ⟨x, hx, rfl⟩ := List.mem_map.mp hd
    show (encP x).depth ≤ 50
    have : (encP x).depth ≤ 50 := by
      have e : (encP x).depth ≤ 2 := by
        have : ∀ ks : List Nat, PyData.depthAll (ks.map fun k => PyData.int ((k : Nat) : Int)) = 0 := fun ks => by
          induction ks with
          | nil => rfl
          | cons k ks ih =>
            simp only [List.map_cons, PyData.depthAll, ih, PyData.depth]
            rfl
        simp only [encP, pl, PyData.depth, PyData.depthAll, this]
        decide
      omega
    exact this
  rw [told_go_enc m1 m3] at hws
  have j3 := new_same (o := .lst ws) nT2
  have e2 : upd H10 T2 (.lst ws) T2 = some (.lst ws) := upd_same
  have hws3 := DpAll.same j3 _ hws
  have hP3 := DpAll.same j3 _ hP10
  have eP3 := j3 _ _ eP10
  have eD3 := j3 _ _ eD10
  have eTL3 := j3 _ _ eTL
  have hTL3 := DpAll.same j3 _ hTL
  have x3 := x10.trans (ex1_same j3)
  have p3 := p10.same j3
  generalize upd H10 T2 (.lst ws) = H11 at e2 hws3 hP3 eP3 eD3 eTL3 hTL3 x3 p3 ⊢
  clear j3 hws nT2 hTL eTL eP10 hP10 eD10 x10 p10 nTL nTL0 s10 hP4 eP4 eD4 x04 p4 hA4 cC
  refine ⟨_, rfl, _, _, .lst (SqL.of e2) hws3, .lst (SqL.of eP3) hP3, shP, shP, _, rfl, ?_⟩
  rw [shaped_eqv shP]
  refine iteT ?_
  clear e2 hws3 ws T2
  refine ⟨_, rfl, _, rfl, _, rfl, D, PL, _, _, rfl, SqL.of eD3, SqL.of eP3, by rw [List.length_map, List.length_map, lu], by rw [List.length_map, List.length_map]; omega, fun Z H12 zs nZ s12 eZ prs => ?_⟩
  have hP12 := DpAll.same s12 _ hP3
  have hzs : DpAll K H12 zs ((plansOW m (anyP ss)).map (encG ss cs)) := by
    refine dp_of_at (by rw [prs.1, List.length_map, List.length_map, List.length_map]) fun i v ev => ?_
    obtain ⟨T, x, y, rfl, eT, ex, ey⟩ := prs.2 i v ev
    obtain ⟨d, ed, hd⟩ := DpAll.at_ hP12 ey
    rw [List.getElem?_map, Option.map_eq_some_iff] at ed
    obtain ⟨w', ew, rfl⟩ := ed
    rw [gat ew] at ex
    cases Option.some.inj ex
    exact ⟨encG ss cs w', by rw [List.getElem?_map, ew]; rfl, .tup (SqT.of eT) (.cons (.int _) (.cons hd .nil))⟩
  refine ⟨Z, zs, _, rfl, SqL.of eZ, hzs, alike_go _ _ _, sort_go _ _ _, by rw [List.length_map]; omega, deep_go _ _ _, fun vs2 p np hv => ?_⟩
  rw [told_go] at hv
  have onG : tupOnlyAll ((goL ss cs m (anyP ss)).map (encG ss cs)) = true := encGs_only ss cs _ fun x h => by have := (ok x (go_mem h)).len; omega
  have j3 := new_same (o := .lst vs2) np
  have s3 := s12.trans j3
  have hv3 := DpAll.same j3 _ hv
  have ep : upd H12 p (.lst vs2) p = some (.lst vs2) := upd_same
  generalize upd H12 p (.lst vs2) = H13 at s3 hv3 ep ⊢
  have lv : vs2.length = (goL ss cs m (anyP ss)).length := by rw [DpAll.len hv, List.length_map]
  refine ⟨p, rfl, ⟨_, SqL.of ep⟩, fun E nE => ?_⟩
  refine lc_it walk_list (fun i H4 => Same H13 H4 ∧ ∃ acc, H4 E = some (.lst acc) ∧ DpAll K H4 acc (((goL ss cs m (anyP ss)).take i).map encP) ∧ acc.length ≤ i) ⟨new_same nE, [], upd_same, .nil, Nat.le_refl _⟩ (fun i H4 _ h => SqL.of (h.1 _ _ ep)) ?_ ?_
  · rintro i x H4 H5 hi ⟨s4, acc, eE, hacc, lacc⟩ ⟨rfl, ex⟩
    obtain ⟨d, ed, hd⟩ := DpAll.at_ (DpAll.same s4 _ hv3) ex
    rw [List.getElem?_map, Option.map_eq_some_iff] at ed
    obtain ⟨y, ey, rfl⟩ := ed
    have hi2 := at_lt ey
    cases hd with
    | tup a b =>
    cases b with
    | cons b1 b =>
    cases b with
    | @cons v2 _ _ _ b2 b =>
    cases b
    cases b1
    have o1 : tupOnlyAll (((goL ss cs m (anyP ss)).take (i + 1)).map encP) = true := encPs_only _ fun x h => by have := (ok x (go_mem (List.mem_of_mem_take h))).len; omega
    refine ⟨_, _, rfl, a, rfl, _, _, rfl, _, _, rfl, rfl, rfl, ?_⟩
    refine ⟨_, rfl, acc, eE, by omega, own_same nE s4, acc ++ [v2], upd_same, ?_, by rw [List.length_append]; show acc.length + 1 ≤ _; omega⟩
    rw [take_at ey, List.map_append] at o1 ⊢
    exact DpAll.tups (Tups.upd_lst eE) _ o1 (DpAll.snoc hacc b2)
  rintro H4 ⟨s4, acc2, eE, hacc2, _⟩
  rw [lv, List.take_length] at hacc2
  have s34 := s3.trans s4
  refine ⟨_, _, .lst (SqL.of (s34 _ _ eTL3)) (DpAll.same s34 _ hTL3), .lst (SqL.of eE) hacc2, shG, shG, ?_⟩
  rw [shaped_eqv shG]
  exact q _ ((p3.same s34).le (by omega)) (x3.trans (ex1_same s34))
end
end K22
end

section
set_option Elab.async false
set_option linter.all false
set_option maxRecDepth 100000
set_option maxHeartbeats 4000000
namespace K22
open PySem PySem.Spec PyProof.Rows L2 Gd
def askD (ss : List Src) (b : Bool) : PyData := .tuple [.tuple (ss.map srcD), .tuple [], .tuple [.str "rows", .tuple [.tuple [.str "number", .int 1]]], .tuple [], .none, .bool b]
theorem askD_only {ss : List Src} {m : Nat} (dr : Drawn ss m) (b : Bool) : tupOnly (askD ss b) = true := by
  have h := srcs_only ss (fun s hs => Nat.le_trans (dr.small s hs).1 (by decide))
  have l5 := dr.five
  simp only [askD, tupOnly, tupOnlyAll, h, Bool.and_true, List.length_map, List.length_cons, List.length_nil, Bool.and_eq_true, decide_eq_true_eq]
  exact ⟨by decide, by omega, by decide, ⟨by decide, trivial, by decide, by decide⟩, by decide⟩
theorem ask_of {K : PySem.W.Frag} {H : Hp} {A : Addr} {ss : List Src} {b : Bool} (h : Dp K H (.ref A) (askD ss b)) : AskAt K H A ss := by
  cases h with
  | tup t k =>
    cases k with
    | cons k1 k =>
      cases k1 with
      | tup t1 k1 => exact ⟨_, _, _, t, rfl, t1, k1⟩
/-! by other names -/
theorem prD_called (r : Str → Str) (p : Pr) : calledD r (Gd.prD p) = Gd.prD (rnP r p) := by
  simp only [Gd.prD, calledD, calledAll, rnP]
theorem srcD_called (r : Str → Str) {s : Src} (h : r s.way = s.way) : calledD r (srcD s) = srcD (rnS r s) := by
  have e : calledAll r (s.pairs.map Gd.prD) = (s.pairs.map (rnP r)).map Gd.prD := by
    rw [calledAll_map, List.map_map, List.map_map]
    exact List.map_congr_left fun p _ => prD_called r p
  simp only [srcD, calledD, calledAll, rnS, e, h]
theorem askD_called (r : Str → Str) {ss : List Src} (h : ∀ s ∈ ss, r s.way = s.way) (h1 : r "rows" = "rows") (h2 : r "number" = "number") : calledD r (askD ss false) = askD (ss.map (rnS r)) false := by
  have e : calledAll r (ss.map srcD) = (ss.map (rnS r)).map srcD := by
    rw [calledAll_map, List.map_map, List.map_map]
    exact List.map_congr_left fun s hs => srcD_called r (h s hs)
  simp only [askD, calledD, calledAll, e, h1, h2]
theorem unD_called (r : Str → Str) : ∀ us : List (Str × Int), calledKv r (unD us) = unD (us.map (rnU r))
  | [] => by simp only [unD, List.map_nil, calledKv]
  | u :: us => by
    have ih := unD_called r us
    unfold unD at ih ⊢
    rw [List.map_cons, List.map_cons, List.map_cons, calledKv, ih, calledD]
    rfl
theorem cns_called (r : Str → Str) : ∀ cs : Cnt, calledKv r (cs.map cnE) = (cs.map (rnE r)).map cnE
  | [] => by simp only [List.map_nil, calledKv]
  | e :: cs => by
    rw [List.map_cons, List.map_cons, List.map_cons, show cnE e = (.str e.1, .tuple [.int e.2.1, .dict (unD e.2.2)]) from rfl, calledKv, cns_called r cs]
    simp only [calledD, calledAll, unD_called]
    rfl
theorem cnD_called (r : Str → Str) (cs : Cnt) : calledD r (cnD cs) = cnD (cs.map (rnE r)) := by
  unfold cnD
  rw [calledD, cns_called]
theorem cnok_rn {r : Str → Str} {cs : Cnt} (h : CnOk cs) : CnOk (cs.map (rnE r)) := fun e he => by
  obtain ⟨x, hx, rfl⟩ := List.mem_map.mp he
  obtain ⟨a, b, c⟩ := h x hx
  refine ⟨a, b, fun u hu => ?_⟩
  obtain ⟨v, hv, rfl⟩ := List.mem_map.mp hu
  exact c v hv
theorem any_rn (r : Str → Str) (ss : List Src) : anyP (ss.map (rnS r)) = anyP ss := by
  unfold anyP
  rw [List.any_map]
  congr 1
  funext s
  show (!(s.pairs.map (rnP r)).isEmpty) = !s.pairs.isEmpty
  rw [List.isEmpty_map]
theorem wi_rn (r : Str → Str) (ss : List Src) : ((ss.map (rnS r)).filter isWi).length = (ss.filter isWi).length := by
  induction ss with
  | nil => rfl
  | cons s ss ih =>
    rw [List.map_cons, List.filter_cons, List.filter_cons, show isWi (rnS r s) = isWi s from rfl]
    cases isWi s with
    | true => rw [if_pos rfl, if_pos rfl, List.length_cons, List.length_cons, ih]
    | false => rw [if_neg Bool.false_ne_true, if_neg Bool.false_ne_true, ih]
def snd2 : PyData → PyData
  | .tuple [_, d] => d
  | d => d
theorem go_rn {r : Str → Str} {ns : List Str} {ss : List Src} {cs : Cnt} {m : Nat} (i : Inj ns r) (hs : SsIn ns ss) (hc : CsIn ns cs) (hm : m ≤ ss.length) (m1 : 1 ≤ m) (m3 : m ≤ 3) :
    (goL (ss.map (rnS r)) (cs.map (rnE r)) m (anyP ss)).map encP = (goL ss cs m (anyP ss)).map encP := by
  have e : (plansOW m (anyP ss)).map (encG (ss.map (rnS r)) (cs.map (rnE r))) = (plansOW m (anyP ss)).map (encG ss cs) := List.map_congr_left fun x hx => by
    have oy := ow_ok m1 m3 hx
    have hl := oy.len
    have lo : x.1.length ≤ ss.length := by omega
    unfold encG
    rw [guess_rn i hs hc x.2 (fun j hj => Nat.lt_of_lt_of_le (oy.lt j hj) lo) (Nat.lt_of_lt_of_le (oy.lt _ (getD_mem' (show 0 < x.1.length by omega))) lo) (led_in oy.lt lo)]
  have e2 := congrArg told e
  rw [told_go, told_go] at e2
  have e3 := congrArg (List.map snd2) e2
  rw [List.map_map, List.map_map] at e3
  exact e3
/-! words -/
theorem zip_fst : ∀ (ns ts : List Str), ns.length = ts.length → (ns.zip ts).map (·.1) = ns
  | [], [], _ => rfl
  | [], _ :: _, h => by simp at h
  | _ :: _, [], h => by simp at h
  | n :: ns, t :: ts, h => by rw [List.zip_cons_cons, List.map_cons, zip_fst ns ts (by simpa using h)]
theorem words_ok {ns ts : List Str} (hl : ns.length = ts.length) (nn : ns.Nodup) (nt : ts.Nodup) : WsOk ns (ns.zip ts) := by
  have key : ∀ x ∈ ns, ∃ i, ns[i]? = some x ∧ ∃ t, ts[i]? = some t ∧ findC (ns.zip ts) x = some (x, t) := fun x hx => by
    obtain ⟨i, hi⟩ := List.mem_iff_getElem?.mp hx
    have i1 := (List.getElem?_eq_some_iff.mp hi).1
    have ht : ts[i]? = some ts[i] := List.getElem?_eq_getElem (by omega)
    refine ⟨i, hi, _, ht, findC_of (by rw [zip_fst ns ts hl]; exact nn) (x, ts[i]) ?_⟩
    refine List.mem_iff_getElem?.mpr ⟨i, ?_⟩
    rw [List.getElem?_zip_eq_some]
    exact ⟨hi, ht⟩
  refine ⟨fun x hx => ?_, fun x hx y hy e => ?_⟩
  · obtain ⟨i, _, t, _, h⟩ := key x hx
    exact ⟨_, h⟩
  · obtain ⟨i, hi, t, ht, h⟩ := key x hx
    obtain ⟨j, hj, u, hu, g⟩ := key y hy
    unfold wordOf at e
    rw [h, g] at e
    have e : t = u := e
    subst e
    have i1 := (List.getElem?_eq_some_iff.mp ht).1
    have : i = j := (List.getElem?_inj i1 nt).mp (ht.trans hu.symm)
    subst this
    exact Option.some.inj (hi.symm.trans hj)
theorem word_off {ns ts : List Str} (hl : ns.length = ts.length) {x : Str} (h : x ∉ ns) : wordOf (ns.zip ts) x = x := by
  unfold wordOf
  rw [findC_none (by rw [zip_fst ns ts hl]; exact h)]
theorem wV_keys {ns ts : List Str} (hl : ns.length = ts.length) (nn : ns.Nodup) : ((wV (ns.zip ts)).map (·.1)).Nodup := by
  have e : (wV (ns.zip ts)).map (·.1) = ns.map (Sum.inr : Str → Key) := by
    unfold wV
    rw [List.map_map]
    have : ns.map (Sum.inr : Str → Key) = ((ns.zip ts).map (·.1)).map Sum.inr := by rw [zip_fst ns ts hl]
    rw [this, List.map_map]
    rfl
  rw [e]
  exact List.pairwise_map.mpr (List.Pairwise.imp (fun n z => n (Sum.inr.inj z)) nn)
theorem prs_words {K : PySem.W.Frag} {H : Hp} : ∀ {ns ts : List Str} {zs : List V}, zs.length = ns.length → ns.length = ts.length →
    (∀ (j : Nat) (v : V), zs[j]? = some v → ∃ (T : Addr) (x y : V), v = V.ref T ∧ H T = some (.tup [x, y]) ∧ (ns.map V.str)[j]? = some x ∧ (ts.map V.str)[j]? = some y) →
    ∃ ps : List Addr, zs = ps.map V.ref ∧ Paired (fun p kv => SqT K H p [kV kv.1, kv.2]) ps (wV (ns.zip ts))
  | [], [], [], _, _, _ => ⟨[], rfl, .nil⟩
  | [], [], _ :: _, h, _, _ => by simp at h
  | [], _ :: _, _, _, h, _ => by simp at h
  | _ :: _, [], _, _, h, _ => by simp at h
  | _ :: _, _ :: _, [], h, _, _ => by simp at h
  | n :: ns, t :: ts, z :: zs, h1, h2, g => by
    obtain ⟨T, x, y, rfl, eT, ex, ey⟩ := g 0 z rfl
    cases Option.some.inj ex
    cases Option.some.inj ey
    obtain ⟨ps, e, pr⟩ := prs_words (by simpa using h1) (by simpa using h2) fun j v hv => g (j + 1) v hv
    exact ⟨T :: ps, by rw [e]; rfl, .cons (SqT.of eT) pr⟩
theorem rot_ok {ns : List Str} (n5 : ns.length = 5) (nn : ns.Nodup) : (ns.drop 1 ++ ns.take 1).length = 5 ∧ (ns.drop 1 ++ ns.take 1).Nodup := by
  have p : (ns.drop 1 ++ ns.take 1).Perm ns := by
    have := (List.perm_append_comm (l₁ := ns.drop 1) (l₂ := ns.take 1))
    rw [List.take_append_drop] at this
    exact this
  exact ⟨by rw [p.length_eq]; exact n5, p.nodup_iff.mpr nn⟩
def xxs : List Str := ["xxa", "xxb", "xxc", "xxd", "xxe"]
theorem xxs_ok : xxs.length = 5 ∧ xxs.Nodup := by decide
theorem lv_str (x : Str) : ∀ n, Lv n (.str x)
  | 0 => trivial
  | _ + 1 => trivial
theorem ask_lv (ss : List Src) : Lv 5 (askD ss false) := by
  intro d hd
  simp only [List.mem_cons, List.not_mem_nil, or_false] at hd
  rcases hd with rfl | rfl | rfl | rfl | rfl | rfl
  · intro d hd
    obtain ⟨s, _, rfl⟩ := List.mem_map.mp hd
    intro d hd
    simp only [List.mem_cons, List.not_mem_nil, or_false] at hd
    rcases hd with rfl | rfl | rfl | rfl
    · trivial
    · trivial
    · trivial
    · intro d hd
      obtain ⟨p, _, rfl⟩ := List.mem_map.mp hd
      intro d hd
      simp only [List.mem_cons, List.not_mem_nil, or_false] at hd
      rcases hd with rfl | rfl | rfl <;> trivial
  · exact fun d hd => nomatch hd
  · intro d hd
    simp only [List.mem_cons, List.not_mem_nil, or_false] at hd
    rcases hd with rfl | rfl
    · trivial
    · intro d hd
      rw [List.mem_singleton.mp hd]
      intro d hd
      simp only [List.mem_cons, List.not_mem_nil, or_false] at hd
      rcases hd with rfl | rfl <;> trivial
  · exact fun d hd => nomatch hd
  · trivial
  · trivial
theorem cn_lv (cs : Cnt) : Lv 3 (cnD cs) := by
  intro p hp
  obtain ⟨e, _, rfl⟩ := List.mem_map.mp hp
  intro d hd
  simp only [List.mem_cons, List.not_mem_nil, or_false] at hd
  rcases hd with rfl | rfl
  · trivial
  · intro p hp
    obtain ⟨u, _, rfl⟩ := List.mem_map.mp hp
    trivial
end K22
end

section
set_option Elab.async false
set_option linter.all false
set_option maxRecDepth 100000
set_option maxHeartbeats 4000000
namespace K22
open PySem PySem.Spec PyProof.Rows L2 Gd
abbrev sEx : Stmt := topS 22
abbrev nEx : List Str := ["_law_pen_here", "_law_asked", "_law_tally", "_law_names_here", "_law_turn", "_law_words", "_law_beside", "_law_more_here", "_law_chosen"]
theorem scEx : FnScope nEx ["_law_pen_here", "_law_asked", "_law_tally", "_law_names_here"] (defScope sEx) := ⟨rfl, rfl, rfl, by decide +kernel, rfl, by decide +kernel, by decide +kernel⟩
def spEx (K : PySem.W.Frag) : Sp := fun vs H Q _ => ∃ (l c A C a : Addr) (S : Int) (ss : List Src) (m : Nat) (cs : Cnt) (ns : List Str), vs = [.ref l, .ref A, .ref C, .ref a] ∧ Pen H l c S ∧ S ≤ 70000 ∧ Dp K H (.ref A) (askD ss false) ∧ Drawn ss m ∧ InNs ns ss ∧
  Cg K H ns (· = l) (.ref C) (cnD cs) ∧ CnS ns cs ∧ H a = some (.lst (ns.map V.str)) ∧ a ≠ l ∧ ns.length = 5 ∧ ns.Nodup ∧ (∀ n ∈ ns, n ∉ specials) ∧ ∀ H', Pen H' l c (S + 4) → Ex1 l H H' → Q (.bl true) H'
section
variable {P : Program} {w : World} {K : PySem.W.Frag} {mg : Str → Option Value} {base : Heap} {f fP fG fC fT fD : Addr} {fd dP dG dC dT dD : FuncData}
theorem ok_ex (F : Fun K "_law_exchanged_right" "_law_exchanged_right" sEx f fd) (ml : mg "list" = none) (mz : mg "zip" = none) (md : mg "dict" = none)
    (FT : Fun K "_law_take" "_law_take" sDraw fT dT) (GT : FnOk P w K mg base CX0 1 fT dT ["_law_pen_here", "_law_many"] spDraw) (bT : Binds K dT ["_law_pen_here", "_law_many"] []) (gT : mg "_law_take" = some (.ref fT))
    (FC : Fun K "_law_called" "_law_called" sCa fC dC) (G6 : FnOk P w K mg base CX0 7 fC dC ["_law_thing", "_law_words"] (spCa K 6)) (G4 : FnOk P w K mg base CX0 5 fC dC ["_law_thing", "_law_words"] (spCa K 4)) (bC : Binds K dC ["_law_thing", "_law_words"] []) (gC : mg "_law_called" = some (.ref fC))
    (FP : Fun K "plans_of" "plans_of" sPl fP dP) (GP : FnOk P w K mg base CX0 3 fP dP ["ask"] (spPl K)) (bP : Binds K dP ["ask"] []) (gP : mg "plans_of" = some (.ref fP))
    (FG : Fun K "guess" "guess" sGs fG dG) (GG : FnOk P w K mg base CX0 3 fG dG ["ask", "plan", "counts"] (spGs K)) (bG : Binds K dG ["ask", "plan", "counts"] []) (gG : mg "guess" = some (.ref fG))
    (FD : Fun K "guessed" "guessed" sGd fD dD) (GD : FnOk P w K mg base CX0 4 fD dD ["ask", "counts"] (spGd K)) (bD : Binds K dD ["ask", "counts"] []) (gD : mg "guessed" = some (.ref fD)) :
    FnOk P w K mg base CX0 8 f fd ["_law_pen_here", "_law_asked", "_law_tally", "_law_names_here"] (spEx K) := by
  refine F.ok scEx (fun vs H Q E h => ?_) (fun cdv A outer s H vs Q E hr h => ?_)
  · obtain ⟨l, c, A, C, a, S, ss, m, cs, ns, rfl, _⟩ := h
    rfl
  obtain ⟨l, c, AK, C, a, S, ss, m, cs, ns, rfl, hP, hS, hA, dr, ins, hC, hcs, ea, nal, n5, nn, nsp, q⟩ := h
  have nd := scEx.nd
  have hu := hu_of hr
  have zl : sizeLine = 16777216 := rfl
  have r1 := hr.mono (show 1 ≤ 7 by decide)
  have r3 := hr.mono (show 3 ≤ 7 by decide)
  have r4 := hr.mono (show 4 ≤ 7 by decide)
  have r5 := hr.mono (show 5 ≤ 7 by decide)
  refine ⟨_, pss_cons (ps_set (i := 4) nd rfl (.inl rfl) (pe_call GT r1 (by rfl) gT FT.kp bT .nil pass0 (pa_cons (pv 0) (pa_cons pe_int pa_nil))))
      (pss_cons (ps_set (i := 5) nd rfl (.inl rfl) (pe_callTy (call_dictP rfl) (by rfl) md (by decide +kernel) (pa_cons (pe_listzip rfl (by rfl) ml (by rfl) mz (pa_cons (pv 3) (pa_cons
        (pe_ix ix_list (pe_lst (pa_cons (pe_op op_cat (pe_slice sl_list (pv 3) (po_some pe_int) po_none) (pe_slice sl_list (pv 3) po_none (po_some pe_int)))
          (pa_cons (pe_lst (pa_cons pe_str (pa_cons pe_str (pa_cons pe_str (pa_cons pe_str (pa_cons pe_str pa_nil)))))) pa_nil))) (pe_op op_modN (pv 4) pe_int) (fun _ _ => rfl)) pa_nil))) pa_nil)))
      (pss_cons (ps_set (i := 6) nd rfl (.inl rfl) (pe_call G6 hr (by rfl) gC FC.kp bC .nil pass0 (pa_cons (pv 1) (pa_cons (pv 5) pa_nil))))
      (pss_cons (ps_set (i := 7) nd rfl (.inl rfl) (pe_call G4 r5 (by rfl) gC FC.kp bC .nil pass0 (pa_cons (pv 2) (pa_cons (pv 5) pa_nil))))
      (pss_cons (ps_if (PW.pt (pw_or (pt_cmpR (op_neD hr.units) (pe_call GP r3 (by rfl) gP FP.kp bP .nil pass0 (pa_cons (pv 6) pa_nil)) (pe_call GP r3 (by rfl) gP FP.kp bP .nil pass0 (pa_cons (pv 1) pa_nil)) (nomark _))
          (pw_or1 (pt_cmpR (op_neD hr.units) (pe_call GD r4 (by rfl) gD FD.kp bD .nil pass0 (pa_cons (pv 6) (pa_cons (pv 7) pa_nil))) (pe_call GD r4 (by rfl) gD FD.kp bD .nil pass0 (pa_cons (pv 1) (pa_cons (pv 2) pa_nil))) (nomark _))))) pss_never pss_nil)
      (pss_cons (ps_for PassesOwn.never rfl (pi_list (pe_call GP r3 (by rfl) gP FP.kp bP .nil pass0 (pa_cons (pv 1) pa_nil))) (pg_name (i := 8) nd rfl (.inl rfl))
        (pss_one (ps_if (pt_cmpR op_ne (pe_call GG r3 (by rfl) gG FG.kp bG .nil pass0 (pa_cons (pv 6) (pa_cons (pv 8) (pa_cons (pv 7) pa_nil)))) (pe_call GG r3 (by rfl) gG FG.kp bG .nil pass0 (pa_cons (pv 1) (pa_cons (pv 8) (pa_cons (pv 2) pa_nil)))) (nomark _)) pss_never pss_nil)))
      (pss_one (ps_ret pe_bl))))))), ?_⟩
  have small : Small ss := ⟨Nat.le_trans dr.five (by decide), fun s hs => Nat.le_trans (dr.small s hs).1 (by decide)⟩
  have ssin : SsIn ns ss := fun s hs => ⟨(ins s hs).2.1, (ins s hs).2.2.1, (ins s hs).2.2.2⟩
  have csin : CsIn ns cs := fun e he => ⟨(hcs.2.2 e he).1, fun u hu => ((hcs.2.2 e he).2.2.2.2.2 u hu).1⟩
  have m1 := dr.m1
  have m3 := dr.m3
  have cok := hcs.ok
  have oA := askD_only dr false
  have fil := dr.well.le
  have l5 := dr.five
  obtain ⟨_, _, _, el0, _⟩ := id hP
  refine ⟨_, rfl, l, c, 5, _, rfl, hP, by decide, by decide, by omega, fun t H1 t0 t1 p1 x1 => ?_⟩
  have hA1 := Dp.tups (Ex1.tups x1 el0) _ oA hA
  have hC1 : Cg K H1 ns (· = l) (.ref C) (cnD cs) := Cg.stay (Ex1.tups x1 el0) _ (fun a o n e => x1 a o n e) (fun _ z => z) hC
  have ea1 := x1 _ _ nal ea
  -- the words
  have hcut1 : cutV (ns.map V.str) (some 1) none = (ns.drop 1).map V.str := by rw [cut1, List.map_drop]
  have hcut2 : cutV (ns.map V.str) none (some 1) = (ns.take 1).map V.str := by
    rw [show (1 : Int) = ((1 : Nat) : Int) from rfl, cutV_to (by rw [List.length_map]; omega), List.map_take]
  refine ⟨_, rfl, _, rfl, _, rfl, a, _, rfl, SqL.of ea1, fun L1 nL1 => ?_⟩
  rw [hcut1]
  have j1 := new_same (o := .lst ((ns.drop 1).map V.str)) nL1
  have e1 : upd H1 L1 (.lst ((ns.drop 1).map V.str)) L1 = some (.lst ((ns.drop 1).map V.str)) := upd_same
  generalize upd H1 L1 (.lst ((ns.drop 1).map V.str)) = H2 at j1 e1 ⊢
  refine ⟨_, rfl, _, rfl, a, _, rfl, SqL.of (j1 _ _ ea1), fun L2 nL2 => ?_⟩
  rw [hcut2]
  have j2 := new_same (o := .lst ((ns.take 1).map V.str)) nL2
  have e2 : upd H2 L2 (.lst ((ns.take 1).map V.str)) L2 = some (.lst ((ns.take 1).map V.str)) := upd_same
  have e1 := j2 _ _ e1
  have s2 := j1.trans j2
  generalize upd H2 L2 (.lst ((ns.take 1).map V.str)) = H3 at s2 e1 e2 ⊢
  obtain ⟨r5, rn⟩ := rot_ok n5 nn
  refine ⟨L1, L2, _, _, rfl, rfl, e1, e2, by rw [List.length_map, List.length_map, List.length_drop, List.length_take]; omega, fun p3 np3 => ?_⟩
  rw [← List.map_append]
  have j3 := new_same (o := .lst ((ns.drop 1 ++ ns.take 1).map V.str)) np3
  have e3 : upd H3 p3 (.lst ((ns.drop 1 ++ ns.take 1).map V.str)) p3 = some (.lst ((ns.drop 1 ++ ns.take 1).map V.str)) := upd_same
  have s3 := s2.trans j3
  generalize upd H3 p3 (.lst ((ns.drop 1 ++ ns.take 1).map V.str)) = H4 at s3 e3 ⊢
  refine ⟨(by show 5 ≤ sizeLine; decide), fun p4 np4 => ?_⟩
  have j4 := new_same (o := .lst [.str "xxa", .str "xxb", .str "xxc", .str "xxd", .str "xxe"]) np4
  have e4 : upd H4 p4 (.lst [.str "xxa", .str "xxb", .str "xxc", .str "xxd", .str "xxe"]) p4 = some (.lst (xxs.map V.str)) := upd_same
  have s4 := s3.trans j4
  have e3 := j4 _ _ e3
  generalize upd H4 p4 (.lst [.str "xxa", .str "xxb", .str "xxc", .str "xxd", .str "xxe"]) = H5 at s4 e3 e4 ⊢
  refine ⟨(by show 2 ≤ sizeLine; decide), fun p5 np5 => ?_⟩
  have j5 := new_same (o := .lst [.ref p3, .ref p4]) np5
  have e5 : upd H5 p5 (.lst [.ref p3, .ref p4]) p5 = some (.lst [.ref p3, .ref p4]) := upd_same
  have s5 := s4.trans j5
  have e3 := j5 _ _ e3
  have e4 := j5 _ _ e4
  generalize upd H5 p5 (.lst [.ref p3, .ref p4]) = H6 at s5 e3 e4 e5 ⊢
  clear e1 e2 s4 s3 s2 j1 j2 j3 j4 j5
  obtain ⟨pt, ts, at', ept, lts, nts⟩ : ∃ (pt : Addr) (ts : List Str), atI [V.ref p3, V.ref p4] (t.fmod 2) = some (V.ref pt) ∧ H6 pt = some (.lst (ts.map V.str)) ∧ ts.length = 5 ∧ ts.Nodup := by
    have h0 : 0 ≤ t.fmod 2 := Int.fmod_nonneg_of_pos t (by decide)
    have h2 : t.fmod 2 < 2 := Int.fmod_lt_of_pos t (by decide)
    rcases (show t.fmod 2 = 0 ∨ t.fmod 2 = 1 by omega) with h | h
    · rw [h]; exact ⟨p3, _, rfl, e3, r5, rn⟩
    · rw [h]; exact ⟨p4, xxs, rfl, e4, xxs_ok.1, xxs_ok.2⟩
  have hl5 : ns.length = ts.length := by omega
  refine ⟨_, rfl, t, 2, rfl, rfl, (show (2 : Int) ≠ 0 by decide), p5, _, _, _, rfl, rfl, SqL.of e5, at', ?_⟩
  refine ⟨a, pt, _, _, rfl, SqL.of (s5 _ _ ea1), SqL.of ept, by rw [List.length_map, List.length_map]; omega, by rw [List.length_map]; omega, fun Z H7 zs nZ s7 eZ prs => ?_⟩
  obtain ⟨ps, ezs, pr⟩ := prs_words (K := K) (ns := ns) (ts := ts) (by rw [prs.1, List.length_map]) hl5 prs.2
  rw [ezs] at eZ
  have wo := words_ok hl5 nn nts
  have woff : ∀ x, x ∉ ns → wordOf (ns.zip ts) x = x := fun x h => word_off hl5 h
  have wk := wV_keys hl5 nn
  refine ⟨Z, ps, _, rfl, SqL.of eZ, pr, fun W nW => ?_⟩
  rw [merge_fresh wk]
  have j8 := new_same (o := .dK (wV (ns.zip ts))) nW
  have eW : upd H7 W (.dK (wV (ns.zip ts))) W = some (.dK (wV (ns.zip ts))) := upd_same
  have s17 := s5.trans s7
  have hC8 := Cg.same j8 (Cg.shun nW _ (Cg.same s17 hC1))
  have s18 := s17.trans j8
  have hA8 := Dp.same s18 _ hA1
  have x8 := x1.trans (ex1_same s18)
  have p8 := p1.same s18
  generalize upd H7 W (.dK (wV (ns.zip ts))) = H8 at eW hC8 hA8 x8 p8 ⊢
  clear s17 s18 j8 nW pr eZ ezs prs s7 nZ Z zs s5 e3 e4 e5 at' ept r5 rn hA1 hC1 ea1 x1 p1 hA hC el0 hcut1 hcut2
  generalize ns.zip ts = ws at wo woff eW
  obtain ⟨r, hr'⟩ : ∃ r, r = wordOf ws := ⟨_, rfl⟩
  rw [← hr'] at woff
  have inj : Inj ns r := by rw [hr']; exact wo.inj
  have spn : ∀ x ∈ specials, r x = x := fun x hx => woff x fun h => nsp x h hx
  have eask : calledD r (askD ss false) = askD (ss.map (rnS r)) false := askD_called r (fun s hs => spn _ (by
    have := (ins s hs).1
    simp only [List.mem_cons, List.not_mem_nil, or_false] at this
    rcases this with h | h | h <;> rw [h] <;> decide)) (spn _ (by decide)) (spn _ (by decide))
  have small' : Small (ss.map (rnS r)) := ⟨by rw [List.length_map]; exact small.1, fun s hs => by
    obtain ⟨s0, h0, rfl⟩ := List.mem_map.mp hs
    show (s0.pairs.map (rnP r)).length ≤ 10
    rw [List.length_map]
    exact small.2 s0 h0⟩
  have oA' : tupOnly (askD (ss.map (rnS r)) false) = true := by
    have h := srcs_only _ small'.2
    have l10 := small'.1
    simp only [askD, tupOnly, tupOnlyAll, h, Bool.and_true, List.length_map, List.length_cons, List.length_nil, Bool.and_eq_true, decide_eq_true_eq]
    exact ⟨by decide, by omega, by decide, ⟨by decide, trivial, by decide, by decide⟩, by decide⟩
  have well' := well_rn inj ssin dr.well
  have withs' : ((ss.map (rnS r)).filter isWi).length = m := by rw [wi_rn]; exact dr.withs
  have cok' := cnok_rn (r := r) cok
  have shP : SeqAt.shaped (.list ((plansOW m (anyP ss)).map encP)) = true := list_shaped fun d hd => by
    obtain ⟨x, hx, rfl⟩ := List.mem_map.mp hd
    exact enc_lay m1 m3 x hx
  have shG : SeqAt.shaped (.list ((goL ss cs m (anyP ss)).map encP)) = true := list_shaped fun d hd => by
    obtain ⟨x, hx, rfl⟩ := List.mem_map.mp hd
    exact enc_lay m1 m3 x (go_mem hx)
  have ok : ∀ x ∈ plansOW m (anyP ss), OwOk m x := fun x h => ow_ok m1 m3 h
  -- by other names
  refine ⟨_, rfl, _, rfl, .ref AK, _, W, ws, ns, _, rfl, eW, .inr rfl, wo, Cg.ofDp _ (N := fun a => a = l ∨ a = W) oA hA8, ask_lv ss, fun v1 H9 s9 hv1 => ?_⟩
  rw [← hr', eask] at hv1
  have hv1 := Dg.toDp _ oA' hv1
  obtain ⟨B, rfl⟩ : ∃ B, v1 = .ref B := by
    cases hv1 with
    | tup _ _ => exact ⟨_, rfl⟩
  refine ⟨_, rfl, _, rfl, .ref C, _, W, ws, ns, _, rfl, s9 _ _ eW, .inr rfl, wo, hC8.same s9, cn_lv cs, fun v2 H10 s10 hv2 => ?_⟩
  rw [← hr', cnD_called] at hv2
  obtain ⟨C2, rfl, hC2⟩ : ∃ C2, v2 = .ref C2 ∧ CtAt K H10 C2 (cs.map (rnE r)) := by
    cases hv2.free with
    | dct e _ k => exact ⟨_, rfl, _, e, k⟩
  have s810 := s9.trans s10
  have hB := ask_of (Dp.same s10 _ hv1)
  have hA10 := ask_of (Dp.same s810 _ hA8)
  have hC10 : CtAt K H10 C cs := by
    cases (Dg.same s810 (Cg.toDg _ hC8)).free with
    | dct e _ k => exact ⟨_, e, k⟩
  have x10 := x8.trans (ex1_same s810)
  have p10 := p8.same s810
  clear hv1 hv2 eW hC8 hA8 s9 s10 s810 x8 p8
  refine ⟨_, rfl, B, _, m, rfl, hB, small', well', withs', m1, m3, fun us1 P1 H11 s11 n1 e1 hP1 _ => ?_⟩
  rw [any_rn, plans_ow] at hP1
  refine ⟨_, rfl, AK, ss, m, rfl, ask_same s11 hA10, small, dr.well, dr.withs, m1, m3, fun us2 P2 H12 s12 n2 e2 hP2 _ => ?_⟩
  rw [plans_ow] at hP2
  refine ⟨_, _, .lst (SqL.of (s12 _ _ e1)) (DpAll.same s12 _ hP1), .lst (SqL.of e2) hP2, shP, shP, _, rfl, ?_⟩
  rw [shaped_eqv shP]
  refine iteF ?_
  have t12 := s11.trans s12
  refine ⟨_, rfl, _, rfl, B, C2, _, m, _, rfl, ask_same t12 hB, small', well', withs', m1, m3, hC2.same t12, cok', fun us3 P3 H13 s13 n3 e3 hP3 => ?_⟩
  rw [any_rn, go_rn inj ssin csin fil m1 m3] at hP3
  have t13 := t12.trans s13
  refine ⟨_, rfl, _, rfl, AK, C, ss, m, cs, rfl, ask_same t13 hA10, small, dr.well, dr.withs, m1, m3, hC10.same t13, cok, fun us4 P4 H14 s14 n4 e4 hP4 => ?_⟩
  have t14 := t13.trans s14
  refine ⟨_, _, .lst (SqL.of (s14 _ _ e3)) (DpAll.same s14 _ hP3), .lst (SqL.of e4) hP4, shG, shG, _, rfl, ?_⟩
  rw [shaped_eqv shG]
  refine iteF ?_
  -- each guess
  refine ⟨_, rfl, AK, ss, m, rfl, ask_same t14 hA10, small, dr.well, dr.withs, m1, m3, fun us PL H15 s15 nP eP hP _ => ?_⟩
  rw [plans_ow] at hP
  have t15 := t14.trans s15
  refine ⟨PL, rfl, ⟨_, SqL.of eP⟩, ?_⟩
  refine for_it walk_list (fun i σ H16 => Same H15 H16 ∧ ∃ y8, σ = [some (.ref l), some (.ref AK), some (.ref C), some (.ref a), some (.int t), some (.ref W), some (.ref B), some (.ref C2), y8])
    ⟨fun _ _ e => e, none, rfl⟩ (fun i σ H16 _ h => SqL.of (h.1 _ _ eP)) ?_ ?_
  · rintro i x σ H16 H17 hi ⟨s16, y8, rfl⟩ ⟨rfl, ex⟩
    obtain ⟨d, ed, hd⟩ := DpAll.at_ (DpAll.same s16 _ hP) ex
    rw [List.getElem?_map, Option.map_eq_some_iff] at ed
    obtain ⟨y, ey, rfl⟩ := ed
    obtain ⟨p, rfl, hp⟩ := pl_at hd
    have oy := ok y (List.mem_of_getElem? ey)
    have ol := oy.len
    have t16 := t15.trans s16
    refine ⟨_, rfl, _, rfl, _, rfl, B, p, C2, _, y.1, y.2, _, rfl, ask_same t16 hB, small', hp, hC2.same t16, cok', by omega, by rw [List.length_map]; omega, oy.nod, oy.lt, fun H18 s18 => ?_⟩
    have t18 := t16.trans s18
    refine ⟨_, rfl, _, rfl, _, rfl, AK, p, C, ss, y.1, y.2, cs, rfl, ask_same t18 hA10, small, hp.same s18, hC10.same t18, cok, by omega, by omega, oy.nod, oy.lt, fun H19 s19 => ?_⟩
    have lo : y.1.length ≤ ss.length := by omega
    rw [guess_rn inj ssin csin y.2 (fun j hj => Nat.lt_of_lt_of_le (oy.lt j hj) lo) (Nat.lt_of_lt_of_le (oy.lt _ (getD_mem' (show 0 < y.1.length by omega))) lo) (led_in oy.lt lo)]
    refine ⟨rfl, _, rfl, ite2 (fun e => absurd e (by simp)) (fun _ => ?_)⟩
    exact ⟨(s16.trans s18).trans s19, _, rfl⟩
  · rintro σ H16 ⟨s16, y8, rfl⟩
    exact q H16 ((p10.same (t15.trans s16)).le (by omega)) (x10.trans (ex1_same (t15.trans s16)))
end
end K22
end

section
set_option Elab.async false
set_option linter.all false
set_option maxRecDepth 100000
set_option maxHeartbeats 4000000
namespace K22
open PySem PySem.Spec PyProof.Rows L2 Gd
abbrev sLaw : Stmt := topS 23
abbrev nLw : List Str := ["_law_script", "_law_pen_here", "_law_turn", "_law_names_here", "_law_asked", "_law_tally"]
theorem scLaw : FnScope nLw ["_law_script"] (defScope sLaw) := ⟨rfl, rfl, rfl, by decide +kernel, rfl, by decide +kernel, by decide +kernel⟩
def spLaw (K : PySem.W.Frag) : Sp := fun vs H Q _ => ∃ (a : Addr) (ns : List Int), vs = [.ref a] ∧ SqL K H a (ns.map V.int) ∧ ns.length ≤ 63 ∧ ∀ H', Q (.bl true) H'
section
variable {P : Program} {w : World} {K : PySem.W.Frag} {mg : Str → Option Value} {base : Heap} {f fE fN fS fC fR fX : Addr} {fd dE dN dS dC dR dX : FuncData}
theorem ok_law (F : Fun K "law" "law" sLaw f fd) (mr : mg "range" = none)
    (FE : Fun K "_law_pen" "_law_pen" sPen fE dE) (GE : FnOk P w K mg base CX0 1 fE dE ["_law_script"] (spPen K)) (bE : Binds K dE ["_law_script"] []) (gE : mg "_law_pen" = some (.ref fE))
    (FN : Fun K "_law_names" "_law_names" sNm fN dN) (GN : FnOk P w K mg base CX0 2 fN dN ["_law_pen_here", "_law_many"] spNm) (bN : Binds K dN ["_law_pen_here", "_law_many"] []) (gN : mg "_law_names" = some (.ref fN))
    (FS : Fun K "_law_sources" "_law_sources" sSc fS dS) (GS : FnOk P w K mg base CX0 2 fS dS ["_law_pen_here", "_law_names_here"] (spSc K)) (bS : Binds K dS ["_law_pen_here", "_law_names_here"] []) (gS : mg "_law_sources" = some (.ref fS))
    (FC : Fun K "_law_counts" "_law_counts" sCt fC dC) (GC : FnOk P w K mg base CX0 2 fC dC ["_law_pen_here", "_law_names_here"] (spCt K)) (bC : Binds K dC ["_law_pen_here", "_law_names_here"] []) (gC : mg "_law_counts" = some (.ref fC))
    (FR : Fun K "_law_right" "_law_right" sRi fR dR) (GR : FnOk P w K mg base CX0 5 fR dR ["_law_pen_here", "_law_asked", "_law_tally", "_law_names_here"] (spRi K)) (bR : Binds K dR ["_law_pen_here", "_law_asked", "_law_tally", "_law_names_here"] []) (gR : mg "_law_right" = some (.ref fR))
    (FX : Fun K "_law_exchanged_right" "_law_exchanged_right" sEx fX dX) (GX : FnOk P w K mg base CX0 8 fX dX ["_law_pen_here", "_law_asked", "_law_tally", "_law_names_here"] (spEx K)) (bX : Binds K dX ["_law_pen_here", "_law_asked", "_law_tally", "_law_names_here"] []) (gX : mg "_law_exchanged_right" = some (.ref fX)) :
    FnG P w K mg base CX0 9 f fd ["_law_script"] (spLaw K) := by
  refine okG F scLaw (fun vs H Q E h => ?_) (fun cv A out s H vs Q E gd hr h => ?_)
  · obtain ⟨a, ns, rfl, _⟩ := h
    rfl
  obtain ⟨a, ns, rfl, ha, hn, q⟩ := h
  have nd := scLaw.nd
  have zl : sizeLine = 16777216 := rfl
  have hr1 := hr.mono (show 1 ≤ 8 by decide)
  have hr2 := hr.mono (show 2 ≤ 8 by decide)
  have hr5 := hr.mono (show 5 ≤ 8 by decide)
  refine ⟨_, pss_cons (ps_set (i := 1) nd rfl (.inl rfl) (pe_call GE hr1 (by rfl) gE FE.kp bE .nil pass0 (pa_cons (pv 0) pa_nil)))
      (pss_cons (ps_for PassesOwn.never rfl (pi_range1 (by rfl) mr (pa_cons pe_int pa_nil)) (pg_name (i := 2) nd rfl (.inl rfl))
      (pss_cons (ps_set (i := 3) nd rfl (.inl rfl) (pe_call GN hr2 (by rfl) gN FN.kp bN .nil pass0 (pa_cons (pv 1) (pa_cons pe_int pa_nil))))
      (pss_cons (ps_set (i := 4) nd rfl (.inl rfl) (pe_tup (pa_cons (pe_call GS hr2 (by rfl) gS FS.kp bS .nil pass0 (pa_cons (pv 1) (pa_cons (pv 3) pa_nil))) (pa_cons (pe_tup pa_nil) (pa_cons (pe_tup (pa_cons pe_str (pa_cons (pe_tup (pa_cons (pe_tup (pa_cons pe_str (pa_cons pe_int pa_nil))) pa_nil)) pa_nil))) (pa_cons (pe_tup pa_nil) (pa_cons pe_non (pa_cons pe_bl pa_nil))))))))
      (pss_cons (ps_set (i := 5) nd rfl (.inl rfl) (pe_call GC hr2 (by rfl) gC FC.kp bC .nil pass0 (pa_cons (pv 1) (pa_cons (pv 3) pa_nil))))
      (pss_one (ps_if (PW.pt (pw_or (pt_not (pt_val (pe_call GR hr5 (by rfl) gR FR.kp bR .nil pass0 (pa_cons (pv 1) (pa_cons (pv 4) (pa_cons (pv 5) (pa_cons (pv 3) pa_nil))))))) (pw_or1 (pt_not (pt_val (pe_call GX hr (by rfl) gX FX.kp bX .nil pass0 (pa_cons (pv 1) (pa_cons (pv 4) (pa_cons (pv 5) (pa_cons (pv 3) pa_nil)))))))))) pss_never pss_nil))))))
      (pss_one (ps_ret pe_bl))), ?_⟩
  refine ⟨_, rfl, a, ns, rfl, ha, hn, fun l c H0 s0 nl nc p0 => ?_⟩
  refine ⟨4, rfl, by decide, by decide, ?_⟩
  refine for_it walk_range (fun i σ H1 => Pen H1 l c (250 * ((i : Nat) : Int)) ∧ ∃ y2 y3 y4 y5, σ = [some (.ref a), some (.ref l), y2, y3, y4, y5])
    ⟨p0.le (by simp), none, none, none, none, rfl⟩ (fun _ _ _ _ _ => trivial) ?_ ?_
  · rintro i x σ H1 H2 hi ⟨p1, y2, y3, y4, y5, rfl⟩ ⟨rfl, rfl⟩
    have hi4 : i < 4 := hi
    refine ⟨_, rfl, l, c, _, rfl, p1, by omega, fun an nms H3 na ea n5 nn pn nsp p3 x3 => ?_⟩
    have nal := (p1.not na).1
    refine ⟨_, rfl, _, rfl, l, c, an, _, nms, rfl, p3, by omega, ea, nal, n5, nn, pn, fun T us ss m H4 hT hus dr ins p4 x4 => ?_⟩
    have ea4 := x4 _ _ nal ea
    have only := srcs_only ss (fun s hs => Nat.le_trans (dr.small s hs).1 (by decide))
    -- the ask
    refine ⟨Nat.zero_le _, fun t1 nt1 => ?_⟩
    have j1 := new_same (o := .tup []) nt1
    have d1 : Dp K (upd H4 t1 (.tup [])) (.ref t1) (.tuple []) := .tup (SqT.of upd_same) .nil
    generalize upd H4 t1 (.tup []) = H5 at j1 d1 ⊢
    refine ⟨(by show 2 ≤ sizeLine; decide), fun t2 nt2 => ?_⟩
    have j2 := new_same (o := .tup [.str "number", .int 1]) nt2
    have d2 : Dp K (upd H5 t2 (.tup [.str "number", .int 1])) (.ref t2) (.tuple [.str "number", .int 1]) := .tup (SqT.of upd_same) (.cons (.str _) (.cons (.int _) .nil))
    generalize upd H5 t2 (.tup [.str "number", .int 1]) = H6 at j2 d2 ⊢
    refine ⟨(by show 1 ≤ sizeLine; decide), fun t3 nt3 => ?_⟩
    have j3 := new_same (o := .tup [.ref t2]) nt3
    have d3 : Dp K (upd H6 t3 (.tup [.ref t2])) (.ref t3) (.tuple [.tuple [.str "number", .int 1]]) := .tup (SqT.of upd_same) (.cons (Dp.tups (Tups.of_same j3) _ rfl d2) .nil)
    generalize upd H6 t3 (.tup [.ref t2]) = H7 at j3 d3 ⊢
    refine ⟨(by show 2 ≤ sizeLine; decide), fun t4 nt4 => ?_⟩
    have j4 := new_same (o := .tup [.str "rows", .ref t3]) nt4
    have d4 : Dp K (upd H7 t4 (.tup [.str "rows", .ref t3])) (.ref t4) (.tuple [.str "rows", .tuple [.tuple [.str "number", .int 1]]]) := .tup (SqT.of upd_same) (.cons (.str _) (.cons (Dp.tups (Tups.of_same j4) _ rfl d3) .nil))
    generalize upd H7 t4 (.tup [.str "rows", .ref t3]) = H8 at j4 d4 ⊢
    refine ⟨Nat.zero_le _, fun t5 nt5 => ?_⟩
    have j5 := new_same (o := .tup []) nt5
    have d5 : Dp K (upd H8 t5 (.tup [])) (.ref t5) (.tuple []) := .tup (SqT.of upd_same) .nil
    generalize upd H8 t5 (.tup []) = H9 at j5 d5 ⊢
    refine ⟨(by show 6 ≤ sizeLine; decide), fun A nA => ?_⟩
    have j6 := new_same (o := .tup [.ref T, .ref t1, .ref t4, .ref t5, .non, .bl false]) nA
    have s410 := ((((j1.trans j2).trans j3).trans j4).trans j5).trans j6
    have dA : Dp K (upd H9 A (.tup [.ref T, .ref t1, .ref t4, .ref t5, .non, .bl false])) (.ref A) (askD ss false) :=
      .tup (SqT.of upd_same) (.cons (.tup (same_tup s410 hT) (DpAll.same s410 _ hus)) (.cons (Dp.same ((((j2.trans j3).trans j4).trans j5).trans j6) _ d1) (.cons (Dp.same (j5.trans j6) _ d4) (.cons (Dp.same j6 _ d5) (.cons .non (.cons (.bl _) .nil))))))
    have p10 := p4.same s410
    have ea10 := s410 _ _ ea4
    generalize upd H9 A (.tup [.ref T, .ref t1, .ref t4, .ref t5, .non, .bl false]) = H10 at dA p10 ea10 ⊢
    clear j1 j2 j3 j4 j5 j6 s410 d1 d2 d3 d4 d5 hT hus only x4 p4 p1 ea4 ea x3 p3
    have oA := askD_only dr false
    refine ⟨_, rfl, _, rfl, l, c, an, _, nms, rfl, p10, by omega, ea10, nal, n5, nn, fun C cs H11 hC hcs p11 x11 => ?_⟩
    obtain ⟨_, _, _, el10, _⟩ := id p10
    have dA11 := Dp.tups (Ex1.tups x11 el10) _ oA dA
    have ea11 := x11 _ _ nal ea10
    have hl10 : H10 l ≠ none := fun z => by rw [el10] at z; cases z
    have hC11 : Cg K H11 nms (· = l) (.ref C) (cnD cs) := Cg.less (fun b z => by rw [z]; exact hl10) hC
    clear hC x11 p10 ea10 dA el10 hl10
    refine ⟨_, rfl, _, rfl, _, rfl, _, rfl, l, c, A, C, an, _, ss, m, cs, nms, rfl, p11, by omega, ask_of dA11, dr, ins, Cg.toDg _ hC11, hcs, ea11, nal, n5, nn, nsp, fun H12 p12 x12 => ?_⟩
    refine ⟨_, rfl, iteF ?_⟩
    obtain ⟨_, _, _, el11, _⟩ := id p11
    have dA12 := Dp.tups (Ex1.tups x12 el11) _ oA dA11
    have ea12 := x12 _ _ nal ea11
    have hC12 : Cg K H12 nms (· = l) (.ref C) (cnD cs) := Cg.stay (Ex1.tups x12 el11) _ (fun a o n e => x12 a o n e) (fun _ z => z) hC11
    refine ⟨_, rfl, _, rfl, _, rfl, _, rfl, l, c, A, C, an, _, ss, m, cs, nms, rfl, p12, by omega, dA12, dr, ins, hC12, hcs, ea12, nal, n5, nn, nsp, fun H13 p13 x13 => ?_⟩
    refine ⟨_, rfl, iteF ?_⟩
    exact ⟨p13.le (by omega), _, _, _, _, rfl⟩
  · rintro σ H1 ⟨p1, y2, y3, y4, y5, rfl⟩
    exact q H1
end
end K22
end

section
set_option Elab.async false
set_option linter.all false
set_option maxRecDepth 100000
set_option maxHeartbeats 8000000
namespace K22
open PySem PySem.Spec PyProof.Rows L2 Gd
theorem all_mk {l : PySem.W.OpenLaw} {w : World} {K : PySem.W.Frag} {h : Heap} {mg : Str → Option Value} {fa : Addr} {f0 f1 f2 f3 f4 f5 f6 f7 f8 f9 f10 f11 f12 f13 f14 f15 f16 f17 f18 f19 : Addr}  (X : K.In h) (G : h.Ns mainGlobals mg) (hfa : mg "law" = some (.ref fa))
    {od0 an0 od1 an1 od2 an2 od3 an3 od4 an4 od5 an5 od6 an6 od7 an7 od8 an8 od9 an9 od10 an10 od11 an11 od12 an12 od13 an13 od14 an14 od15 an15 od16 an16 od17 an17 od18 an18 od19 an19 : Option Addr} {sl0 sl1 sl2 sl3 sl4 sl5 sl6 sl7 sl8 sl9 sl10 sl11 sl12 sl13 sl14 sl15 sl16 sl17 sl18 sl19 : Array (Option Value)} {oc0 kV0 dc0 pm0 cd0 ct0 oc1 kV1 dc1 pm1 cd1 ct1 oc2 kV2 dc2 pm2 cd2 ct2 oc3 kV3 dc3 pm3 cd3 ct3 oc4 kV4 dc4 pm4 cd4 ct4 oc5 kV5 dc5 pm5 cd5 ct5 oc6 kV6 dc6 pm6 cd6 ct6 oc7 kV7 dc7 pm7 cd7 ct7 oc8 kV8 dc8 pm8 cd8 ct8 oc9 kV9 dc9 pm9 cd9 ct9 oc10 kV10 dc10 pm10 cd10 ct10 oc11 kV11 dc11 pm11 cd11 ct11 oc12 kV12 dc12 pm12 cd12 ct12 oc13 kV13 dc13 pm13 cd13 ct13 oc14 kV14 dc14 pm14 cd14 ct14 oc15 kV15 dc15 pm15 cd15 ct15 oc16 kV16 dc16 pm16 cd16 ct16 oc17 kV17 dc17 pm17 cd17 ct17 oc18 kV18 dc18 pm18 cd18 ct18 oc19 kV19 dc19 pm19 cd19 ct19 : Value}
    (aF0 : PySem.W.nsIn K mainGlobals "plans_of" = some (some (.ref f0)))
    (lF0 : K.lookup f0 = some ⟨oc0, od0, .func (PySem.W.fnOf "plans_of" "plans_of" (defArgs sPl) (defBody sPl) (defScope sPl) .none kV0 dc0 pm0 an0 cd0 ct0), sl0⟩)
    (cF0 : PySem.W.codeIn K cd0 "plans_of" = true)
    (kF0 : PySem.W.keepIn K (.ref f0) = true)
    (aF1 : PySem.W.nsIn K mainGlobals "led_to" = some (some (.ref f1)))
    (lF1 : K.lookup f1 = some ⟨oc1, od1, .func (PySem.W.fnOf "led_to" "led_to" (defArgs sLed) (defBody sLed) (defScope sLed) .none kV1 dc1 pm1 an1 cd1 ct1), sl1⟩)
    (cF1 : PySem.W.codeIn K cd1 "led_to" = true)
    (kF1 : PySem.W.keepIn K (.ref f1) = true)
    (aF2 : PySem.W.nsIn K mainGlobals "links_of" = some (some (.ref f2)))
    (lF2 : K.lookup f2 = some ⟨oc2, od2, .func (PySem.W.fnOf "links_of" "links_of" (defArgs sLk) (defBody sLk) (defScope sLk) .none kV2 dc2 pm2 an2 cd2 ct2), sl2⟩)
    (cF2 : PySem.W.codeIn K cd2 "links_of" = true)
    (kF2 : PySem.W.keepIn K (.ref f2) = true)
    (aF3 : PySem.W.nsIn K mainGlobals "pairs_between" = some (some (.ref f3)))
    (lF3 : K.lookup f3 = some ⟨oc3, od3, .func (PySem.W.fnOf "pairs_between" "pairs_between" (defArgs sPB) (defBody sPB) (defScope sPB) .none kV3 dc3 pm3 an3 cd3 ct3), sl3⟩)
    (cF3 : PySem.W.codeIn K cd3 "pairs_between" = true)
    (kF3 : PySem.W.keepIn K (.ref f3) = true)
    (aF4 : PySem.W.nsIn K mainGlobals "guess" = some (some (.ref f4)))
    (lF4 : K.lookup f4 = some ⟨oc4, od4, .func (PySem.W.fnOf "guess" "guess" (defArgs sGs) (defBody sGs) (defScope sGs) .none kV4 dc4 pm4 an4 cd4 ct4), sl4⟩)
    (cF4 : PySem.W.codeIn K cd4 "guess" = true)
    (kF4 : PySem.W.keepIn K (.ref f4) = true)
    (aF5 : PySem.W.nsIn K mainGlobals "_rows_in" = some (some (.ref f5)))
    (lF5 : K.lookup f5 = some ⟨oc5, od5, .func (PySem.W.fnOf "_rows_in" "_rows_in" (defArgs sRw) (defBody sRw) (defScope sRw) .none kV5 dc5 pm5 an5 cd5 ct5), sl5⟩)
    (cF5 : PySem.W.codeIn K cd5 "_rows_in" = true)
    (kF5 : PySem.W.keepIn K (.ref f5) = true)
    (aF6 : PySem.W.nsIn K mainGlobals "_share_of" = some (some (.ref f6)))
    (lF6 : K.lookup f6 = some ⟨oc6, od6, .func (PySem.W.fnOf "_share_of" "_share_of" (defArgs sSh) (defBody sSh) (defScope sSh) .none kV6 dc6 pm6 an6 cd6 ct6), sl6⟩)
    (cF6 : PySem.W.codeIn K cd6 "_share_of" = true)
    (kF6 : PySem.W.keepIn K (.ref f6) = true)
    (aF7 : PySem.W.nsIn K mainGlobals "guessed" = some (some (.ref f7)))
    (lF7 : K.lookup f7 = some ⟨oc7, od7, .func (PySem.W.fnOf "guessed" "guessed" (defArgs sGd) (defBody sGd) (defScope sGd) .none kV7 dc7 pm7 an7 cd7 ct7), sl7⟩)
    (cF7 : PySem.W.codeIn K cd7 "guessed" = true)
    (kF7 : PySem.W.keepIn K (.ref f7) = true)
    (aF8 : PySem.W.nsIn K mainGlobals "_law_pen" = some (some (.ref f8)))
    (lF8 : K.lookup f8 = some ⟨oc8, od8, .func (PySem.W.fnOf "_law_pen" "_law_pen" (defArgs sPen) (defBody sPen) (defScope sPen) .none kV8 dc8 pm8 an8 cd8 ct8), sl8⟩)
    (cF8 : PySem.W.codeIn K cd8 "_law_pen" = true)
    (kF8 : PySem.W.keepIn K (.ref f8) = true)
    (aF9 : PySem.W.nsIn K mainGlobals "_law_take" = some (some (.ref f9)))
    (lF9 : K.lookup f9 = some ⟨oc9, od9, .func (PySem.W.fnOf "_law_take" "_law_take" (defArgs sDraw) (defBody sDraw) (defScope sDraw) .none kV9 dc9 pm9 an9 cd9 ct9), sl9⟩)
    (cF9 : PySem.W.codeIn K cd9 "_law_take" = true)
    (kF9 : PySem.W.keepIn K (.ref f9) = true)
    (aF10 : PySem.W.nsIn K mainGlobals "_law_names" = some (some (.ref f10)))
    (lF10 : K.lookup f10 = some ⟨oc10, od10, .func (PySem.W.fnOf "_law_names" "_law_names" (defArgs sNm) (defBody sNm) (defScope sNm) .none kV10 dc10 pm10 an10 cd10 ct10), sl10⟩)
    (cF10 : PySem.W.codeIn K cd10 "_law_names" = true)
    (kF10 : PySem.W.keepIn K (.ref f10) = true)
    (aF11 : PySem.W.nsIn K mainGlobals "_law_sources" = some (some (.ref f11)))
    (lF11 : K.lookup f11 = some ⟨oc11, od11, .func (PySem.W.fnOf "_law_sources" "_law_sources" (defArgs sSc) (defBody sSc) (defScope sSc) .none kV11 dc11 pm11 an11 cd11 ct11), sl11⟩)
    (cF11 : PySem.W.codeIn K cd11 "_law_sources" = true)
    (kF11 : PySem.W.keepIn K (.ref f11) = true)
    (aF12 : PySem.W.nsIn K mainGlobals "_law_counts" = some (some (.ref f12)))
    (lF12 : K.lookup f12 = some ⟨oc12, od12, .func (PySem.W.fnOf "_law_counts" "_law_counts" (defArgs sCt) (defBody sCt) (defScope sCt) .none kV12 dc12 pm12 an12 cd12 ct12), sl12⟩)
    (cF12 : PySem.W.codeIn K cd12 "_law_counts" = true)
    (kF12 : PySem.W.keepIn K (.ref f12) = true)
    (aF13 : PySem.W.nsIn K mainGlobals "_law_more" = some (some (.ref f13)))
    (lF13 : K.lookup f13 = some ⟨oc13, od13, .func (PySem.W.fnOf "_law_more" "_law_more" (defArgs sMo) (defBody sMo) (defScope sMo) .none kV13 dc13 pm13 an13 cd13 ct13), sl13⟩)
    (cF13 : PySem.W.codeIn K cd13 "_law_more" = true)
    (kF13 : PySem.W.keepIn K (.ref f13) = true)
    (aF14 : PySem.W.nsIn K mainGlobals "_law_told_all" = some (some (.ref f14)))
    (lF14 : K.lookup f14 = some ⟨oc14, od14, .func (PySem.W.fnOf "_law_told_all" "_law_told_all" (defArgs sTo) (defBody sTo) (defScope sTo) .none kV14 dc14 pm14 an14 cd14 ct14), sl14⟩)
    (cF14 : PySem.W.codeIn K cd14 "_law_told_all" = true)
    (kF14 : PySem.W.keepIn K (.ref f14) = true)
    (aF15 : PySem.W.nsIn K mainGlobals "_law_called" = some (some (.ref f15)))
    (lF15 : K.lookup f15 = some ⟨oc15, od15, .func (PySem.W.fnOf "_law_called" "_law_called" (defArgs sCa) (defBody sCa) (defScope sCa) .none kV15 dc15 pm15 an15 cd15 ct15), sl15⟩)
    (cF15 : PySem.W.codeIn K cd15 "_law_called" = true)
    (kF15 : PySem.W.keepIn K (.ref f15) = true)
    (aF16 : PySem.W.nsIn K mainGlobals "_law_bound" = some (some (.ref f16)))
    (lF16 : K.lookup f16 = some ⟨oc16, od16, .func (PySem.W.fnOf "_law_bound" "_law_bound" (defArgs sBd) (defBody sBd) (defScope sBd) .none kV16 dc16 pm16 an16 cd16 ct16), sl16⟩)
    (cF16 : PySem.W.codeIn K cd16 "_law_bound" = true)
    (kF16 : PySem.W.keepIn K (.ref f16) = true)
    (aF17 : PySem.W.nsIn K mainGlobals "_law_right" = some (some (.ref f17)))
    (lF17 : K.lookup f17 = some ⟨oc17, od17, .func (PySem.W.fnOf "_law_right" "_law_right" (defArgs sRi) (defBody sRi) (defScope sRi) .none kV17 dc17 pm17 an17 cd17 ct17), sl17⟩)
    (cF17 : PySem.W.codeIn K cd17 "_law_right" = true)
    (kF17 : PySem.W.keepIn K (.ref f17) = true)
    (aF18 : PySem.W.nsIn K mainGlobals "_law_exchanged_right" = some (some (.ref f18)))
    (lF18 : K.lookup f18 = some ⟨oc18, od18, .func (PySem.W.fnOf "_law_exchanged_right" "_law_exchanged_right" (defArgs sEx) (defBody sEx) (defScope sEx) .none kV18 dc18 pm18 an18 cd18 ct18), sl18⟩)
    (cF18 : PySem.W.codeIn K cd18 "_law_exchanged_right" = true)
    (kF18 : PySem.W.keepIn K (.ref f18) = true)
    (aF19 : PySem.W.nsIn K mainGlobals "law" = some (some (.ref f19)))
    (lF19 : K.lookup f19 = some ⟨oc19, od19, .func (PySem.W.fnOf "law" "law" (defArgs sLaw) (defBody sLaw) (defScope sLaw) .none kV19 dc19 pm19 an19 cd19 ct19), sl19⟩)
    (cF19 : PySem.W.codeIn K cd19 "law" = true)
    (kF19 : PySem.W.keepIn K (.ref f19) = true)
    (aPM : PySem.W.nsIn K mainGlobals "permutations" = some (some (.type "itertools.permutations")))
    (z_enumerate : PySem.W.nsIn K mainGlobals "enumerate" = some none)
    (z_tuple : PySem.W.nsIn K mainGlobals "tuple" = some none)
    (z_list : PySem.W.nsIn K mainGlobals "list" = some none)
    (z_len : PySem.W.nsIn K mainGlobals "len" = some none)
    (z_int : PySem.W.nsIn K mainGlobals "int" = some none)
    (z_range : PySem.W.nsIn K mainGlobals "range" = some none)
    (z_abs : PySem.W.nsIn K mainGlobals "abs" = some none)
    (z_sorted : PySem.W.nsIn K mainGlobals "sorted" = some none)
    (z_max : PySem.W.nsIn K mainGlobals "max" = some none)
    (z_min : PySem.W.nsIn K mainGlobals "min" = some none)
    (z_isinstance : PySem.W.nsIn K mainGlobals "isinstance" = some none)
    (z_dict : PySem.W.nsIn K mainGlobals "dict" = some none)
    (z_str : PySem.W.nsIn K mainGlobals "str" = some none)
    (z_sum : PySem.W.nsIn K mainGlobals "sum" = some none)
    (z_zip : PySem.W.nsIn K mainGlobals "zip" = some none) :
    ∃ fd : FuncData, (∀ (s : Shared) (v : Value), BindsTo s fd ⟨[v], []⟩ [("_law_script", v)]) ∧ ∀ base : Heap, K.In base → base.Ns mainGlobals mg → FnG l.prog w K mg base CX0 9 fa fd ["_law_script"] (spLaw K) := by
  have e := hfa.symm.trans (PySem.W.mg_of X G aF19)
  cases e
  have F0 := fun_mk (st := sPl) lF0 cF0 kF0
  have b0 := F0.binds (ps := ["ask"]) fun _ _ _ _ _ _ us hl => match us, hl with | [_], _ => rfl
  have m0 := PySem.W.mg_of X G aF0
  have F1 := fun_mk (st := sLed) lF1 cF1 kF1
  have b1 := F1.binds (ps := ["ask", "plan"]) fun _ _ _ _ _ _ us hl => match us, hl with | [_, _], _ => rfl
  have m1 := PySem.W.mg_of X G aF1
  have F2 := fun_mk (st := sLk) lF2 cF2 kF2
  have b2 := F2.binds (ps := ["ask", "plan"]) fun _ _ _ _ _ _ us hl => match us, hl with | [_, _], _ => rfl
  have m2 := PySem.W.mg_of X G aF2
  have F3 := fun_mk (st := sPB) lF3 cF3 kF3
  have b3 := F3.binds (ps := ["sources", "number", "ahead"]) fun _ _ _ _ _ _ us hl => match us, hl with | [_, _, _], _ => rfl
  have m3 := PySem.W.mg_of X G aF3
  have F4 := fun_mk (st := sGs) lF4 cF4 kF4
  have b4 := F4.binds (ps := ["ask", "plan", "counts"]) fun _ _ _ _ _ _ us hl => match us, hl with | [_, _, _], _ => rfl
  have m4 := PySem.W.mg_of X G aF4
  have F5 := fun_mk (st := sRw) lF5 cF5 kF5
  have b5 := F5.binds (ps := ["ask", "number", "counts"]) fun _ _ _ _ _ _ us hl => match us, hl with | [_, _, _], _ => rfl
  have m5 := PySem.W.mg_of X G aF5
  have F6 := fun_mk (st := sSh) lF6 cF6 kF6
  have b6 := F6.binds (ps := ["ask", "number", "links", "counts"]) fun _ _ _ _ _ _ us hl => match us, hl with | [_, _, _, _], _ => rfl
  have m6 := PySem.W.mg_of X G aF6
  have F7 := fun_mk (st := sGd) lF7 cF7 kF7
  have b7 := F7.binds (ps := ["ask", "counts"]) fun _ _ _ _ _ _ us hl => match us, hl with | [_, _], _ => rfl
  have m7 := PySem.W.mg_of X G aF7
  have F8 := fun_mk (st := sPen) lF8 cF8 kF8
  have b8 := F8.binds (ps := ["_law_script"]) fun _ _ _ _ _ _ us hl => match us, hl with | [_], _ => rfl
  have m8 := PySem.W.mg_of X G aF8
  have F9 := fun_mk (st := sDraw) lF9 cF9 kF9
  have b9 := F9.binds (ps := ["_law_pen_here", "_law_many"]) fun _ _ _ _ _ _ us hl => match us, hl with | [_, _], _ => rfl
  have m9 := PySem.W.mg_of X G aF9
  have F10 := fun_mk (st := sNm) lF10 cF10 kF10
  have b10 := F10.binds (ps := ["_law_pen_here", "_law_many"]) fun _ _ _ _ _ _ us hl => match us, hl with | [_, _], _ => rfl
  have m10 := PySem.W.mg_of X G aF10
  have F11 := fun_mk (st := sSc) lF11 cF11 kF11
  have b11 := F11.binds (ps := ["_law_pen_here", "_law_names_here"]) fun _ _ _ _ _ _ us hl => match us, hl with | [_, _], _ => rfl
  have m11 := PySem.W.mg_of X G aF11
  have F12 := fun_mk (st := sCt) lF12 cF12 kF12
  have b12 := F12.binds (ps := ["_law_pen_here", "_law_names_here"]) fun _ _ _ _ _ _ us hl => match us, hl with | [_, _], _ => rfl
  have m12 := PySem.W.mg_of X G aF12
  have F13 := fun_mk (st := sMo) lF13 cF13 kF13
  have b13 := F13.binds (ps := ["_law_pen_here", "_law_tally", "_law_is_rows"]) fun _ _ _ _ _ _ us hl => match us, hl with | [_, _, _], _ => rfl
  have m13 := PySem.W.mg_of X G aF13
  have F14 := fun_mk (st := sTo) lF14 cF14 kF14
  have b14 := F14.binds (ps := ["_law_tally", "_law_names_here"]) fun _ _ _ _ _ _ us hl => match us, hl with | [_, _], _ => rfl
  have m14 := PySem.W.mg_of X G aF14
  have F15 := fun_mk (st := sCa) lF15 cF15 kF15
  have b15 := F15.binds (ps := ["_law_thing", "_law_words"]) fun _ _ _ _ _ _ us hl => match us, hl with | [_, _], _ => rfl
  have m15 := PySem.W.mg_of X G aF15
  have F16 := fun_mk (st := sBd) lF16 cF16 kF16
  have b16 := F16.binds (ps := ["_law_asked", "_law_chosen", "_law_tally"]) fun _ _ _ _ _ _ us hl => match us, hl with | [_, _, _], _ => rfl
  have m16 := PySem.W.mg_of X G aF16
  have F17 := fun_mk (st := sRi) lF17 cF17 kF17
  have b17 := F17.binds (ps := ["_law_pen_here", "_law_asked", "_law_tally", "_law_names_here"]) fun _ _ _ _ _ _ us hl => match us, hl with | [_, _, _, _], _ => rfl
  have m17 := PySem.W.mg_of X G aF17
  have F18 := fun_mk (st := sEx) lF18 cF18 kF18
  have b18 := F18.binds (ps := ["_law_pen_here", "_law_asked", "_law_tally", "_law_names_here"]) fun _ _ _ _ _ _ us hl => match us, hl with | [_, _, _, _], _ => rfl
  have m18 := PySem.W.mg_of X G aF18
  have F19 := fun_mk (st := sLaw) lF19 cF19 kF19
  have m19 := PySem.W.mg_of X G aF19
  have y_enumerate := PySem.W.mg_none_of X G z_enumerate
  have y_tuple := PySem.W.mg_none_of X G z_tuple
  have y_list := PySem.W.mg_none_of X G z_list
  have y_len := PySem.W.mg_none_of X G z_len
  have y_int := PySem.W.mg_none_of X G z_int
  have y_range := PySem.W.mg_none_of X G z_range
  have y_abs := PySem.W.mg_none_of X G z_abs
  have y_sorted := PySem.W.mg_none_of X G z_sorted
  have y_max := PySem.W.mg_none_of X G z_max
  have y_min := PySem.W.mg_none_of X G z_min
  have y_isinstance := PySem.W.mg_none_of X G z_isinstance
  have y_dict := PySem.W.mg_none_of X G z_dict
  have y_str := PySem.W.mg_none_of X G z_str
  have y_sum := PySem.W.mg_none_of X G z_sum
  have y_zip := PySem.W.mg_none_of X G z_zip
  refine ⟨PySem.W.fnOf "law" "law" (defArgs sLaw) (defBody sLaw) (defScope sLaw) .none kV19 dc19 pm19 an19 cd19 ct19, fun s v => .of_eq rfl, fun base _ _ => ?_⟩
  have mPM := PySem.W.mg_of X G aPM
  have gPB := ok_pb (K := K) (mg := mg) (P := l.prog) (w := w) (base := base) F3
  have gLk := ok_lk (K := K) (P := l.prog) (w := w) (base := base) F2 y_enumerate y_range y_len F3 gPB b3 m3
  have gPl := ok_pl (K := K) (P := l.prog) (w := w) (base := base) F0 mPM y_list y_range y_len y_sorted F2 gLk b2 m2
  have gLed := ok_led (K := K) (P := l.prog) (w := w) (base := base) F1 y_list y_range y_len
  have gRw := ok_rw (K := K) (mg := mg) (P := l.prog) (w := w) (base := base) F5
  have gSh := ok_sh (K := K) (P := l.prog) (w := w) (base := base) F6 y_max
  have gGs := ok_gs (K := K) (P := l.prog) (w := w) (base := base) F4 F2 gLk b2 m2 F5 gRw b5 m5 F1 gLed b1 m1 F6 gSh b6 m6
  have gGd := ok_gd (K := K) (P := l.prog) (w := w) (base := base) F7 y_sorted F0 gPl b0 m0 F4 gGs b4 m4
  have gPen := ok_pen (K := K) (mg := mg) (P := l.prog) (w := w) (base := base) F8
  have gT := ok_draw (K := K) (P := l.prog) (w := w) (base := base) F9 y_len y_abs y_int
  have gNm := ok_nm (K := K) (P := l.prog) (w := w) (base := base) F10 y_range F9 gT b9 m9
  have gSc := ok_sc (K := K) (P := l.prog) (w := w) (base := base) F11 y_range y_len y_min y_int y_tuple F9 gT b9 m9
  have gCt := ok_ct (K := K) (P := l.prog) (w := w) (base := base) F12 y_min F9 gT b9 m9
  have gMo := ok_mo (K := K) (P := l.prog) (w := w) (base := base) F13 y_sorted y_list y_dict y_min y_max y_enumerate y_int y_len F9 gT b9 m9
  have gTo := ok_to (K := K) (P := l.prog) (w := w) (base := base) F14 y_min
  have gCa6 := ok_ca (K := K) (P := l.prog) (w := w) (base := base) F15 y_isinstance y_tuple y_dict y_str b15 m15 6
  have gCa4 := ok_ca (K := K) (P := l.prog) (w := w) (base := base) F15 y_isinstance y_tuple y_dict y_str b15 m15 4
  have gBd := ok_bd (K := K) (P := l.prog) (w := w) (base := base) F16 y_sorted y_list y_sum F2 gLk b2 m2
  have gRi := ok_ri (K := K) (P := l.prog) (w := w) (base := base) F17 y_sorted y_list y_zip y_enumerate F0 gPl b0 m0 F4 gGs b4 m4 F13 gMo b13 m13 F14 gTo b14 m14 F16 gBd b16 m16 F7 gGd b7 m7
  have gEx := ok_ex (K := K) (P := l.prog) (w := w) (base := base) F18 y_list y_zip y_dict F9 gT b9 m9 F15 gCa6 gCa4 b15 m15 F0 gPl b0 m0 F4 gGs b4 m4 F7 gGd b7 m7
  exact ok_law F19 y_range F8 gPen b8 m8 F10 gNm b10 m10 F11 gSc b11 m11 F12 gCt b12 m12 F17 gRi b17 m17 F18 gEx b18 m18

end K22
open PySem PySem.W PyProof.Rows
set_option maxRecDepth 100000 in
set_option maxHeartbeats 0 in
theorem PySem.Challenge.cw_plansamid_k22_whole_guesses_beside_other_holds : PySem.Challenge.rw_plansamid_k22_whole_guesses_beside_other.Holds := by
  w_on; o_law; k_head; (case hw => w_witness2)
  k_fill
  refine Gd.walkG (l := PySem.Challenge.rw_plansamid_k22_whole_guesses_beside_other) (m := 63) (n := 9) (x := "_law_script") (sp := K22.spLaw) rfl (by decide) rfl ⟨rfl, by decide, by decide⟩ (fun w h Y => PySem.W.kIn_of Y) ?F ?S
  case S =>
    intro K H a ns h1 _ _ h4; exact ⟨a, ns, rfl, h4, h1, fun _ => rfl⟩
  case F =>
    intro w mg fa h KX G hmg
    refine' K22.all_mk KX G hmg ?aF0 ?lF0 ?cF0 ?kF0 ?aF1 ?lF1 ?cF1 ?kF1 ?aF2 ?lF2 ?cF2 ?kF2 ?aF3 ?lF3 ?cF3 ?kF3 ?aF4 ?lF4 ?cF4 ?kF4 ?aF5 ?lF5 ?cF5 ?kF5 ?aF6 ?lF6 ?cF6 ?kF6 ?aF7 ?lF7 ?cF7 ?kF7 ?aF8 ?lF8 ?cF8 ?kF8 ?aF9 ?lF9 ?cF9 ?kF9 ?aF10 ?lF10 ?cF10 ?kF10 ?aF11 ?lF11 ?cF11 ?kF11 ?aF12 ?lF12 ?cF12 ?kF12 ?aF13 ?lF13 ?cF13 ?kF13 ?aF14 ?lF14 ?cF14 ?kF14 ?aF15 ?lF15 ?cF15 ?kF15 ?aF16 ?lF16 ?cF16 ?kF16 ?aF17 ?lF17 ?cF17 ?kF17 ?aF18 ?lF18 ?cF18 ?kF18 ?aF19 ?lF19 ?cF19 ?kF19 ?aPM ?z_enumerate ?z_tuple ?z_list ?z_len ?z_int ?z_range ?z_abs ?z_sorted ?z_max ?z_min ?z_isinstance ?z_dict ?z_str ?z_sum ?z_zip
    (case aF0 => k_is)
    (case lF0 => k_is)
    (case cF0 => k_is)
    (case kF0 => k_is)
    (case aF1 => k_is)
    (case lF1 => k_is)
    (case cF1 => k_is)
    (case kF1 => k_is)
    (case aF2 => k_is)
    (case lF2 => k_is)
    (case cF2 => k_is)
    (case kF2 => k_is)
    (case aF3 => k_is)
    (case lF3 => k_is)
    (case cF3 => k_is)
    (case kF3 => k_is)
    (case aF4 => k_is)
    (case lF4 => k_is)
    (case cF4 => k_is)
    (case kF4 => k_is)
    (case aF5 => k_is)
    (case lF5 => k_is)
    (case cF5 => k_is)
    (case kF5 => k_is)
    (case aF6 => k_is)
    (case lF6 => k_is)
    (case cF6 => k_is)
    (case kF6 => k_is)
    (case aF7 => k_is)
    (case lF7 => k_is)
    (case cF7 => k_is)
    (case kF7 => k_is)
    (case aF8 => k_is)
    (case lF8 => k_is)
    (case cF8 => k_is)
    (case kF8 => k_is)
    (case aF9 => k_is)
    (case lF9 => k_is)
    (case cF9 => k_is)
    (case kF9 => k_is)
    (case aF10 => k_is)
    (case lF10 => k_is)
    (case cF10 => k_is)
    (case kF10 => k_is)
    (case aF11 => k_is)
    (case lF11 => k_is)
    (case cF11 => k_is)
    (case kF11 => k_is)
    (case aF12 => k_is)
    (case lF12 => k_is)
    (case cF12 => k_is)
    (case kF12 => k_is)
    (case aF13 => k_is)
    (case lF13 => k_is)
    (case cF13 => k_is)
    (case kF13 => k_is)
    (case aF14 => k_is)
    (case lF14 => k_is)
    (case cF14 => k_is)
    (case kF14 => k_is)
    (case aF15 => k_is)
    (case lF15 => k_is)
    (case cF15 => k_is)
    (case kF15 => k_is)
    (case aF16 => k_is)
    (case lF16 => k_is)
    (case cF16 => k_is)
    (case kF16 => k_is)
    (case aF17 => k_is)
    (case lF17 => k_is)
    (case cF17 => k_is)
    (case kF17 => k_is)
    (case aF18 => k_is)
    (case lF18 => k_is)
    (case cF18 => k_is)
    (case kF18 => k_is)
    (case aF19 => k_is)
    (case lF19 => k_is)
    (case cF19 => k_is)
    (case kF19 => k_is)
    (case aPM => k_is)
    (case z_enumerate => k_is)
    (case z_tuple => k_is)
    (case z_list => k_is)
    (case z_len => k_is)
    (case z_int => k_is)
    (case z_range => k_is)
    (case z_abs => k_is)
    (case z_sorted => k_is)
    (case z_max => k_is)
    (case z_min => k_is)
    (case z_isinstance => k_is)
    (case z_dict => k_is)
    (case z_str => k_is)
    (case z_sum => k_is)
    (case z_zip => k_is)
end
