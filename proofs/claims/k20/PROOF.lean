import PyProof.Rows.All
import Wide.All
import OpenK.AllK
import Wide.FinOn
import HandS.ForMost
import HandS.ForExc
import HandS.EndBits
import HandS.IsInst
import PyProof.ReprRoads
import PyProof.FitsInt
import PyProof.NeKinds
import HandS.Codes
import HandS.Strs
import HandS.DictComp
import PyProof.EqKinds
import HandS.Defaults
import KE.SortData
import HandS.DictTup
import HandS.ListItems
import KE.KItemsList
import HandS.Zip
import KE.GoesZip
import KE.GoesMore
import HandS.Walk
import KE.GoesEnum
import PyProof.EnumFor
import HandS.TupLe
import HandS.Conv
import PyProof.ReprLen
import HandS.TupAny
import PyProof.Rows.IntBool
import KE.KRevSl
import HandS.Style
import HandS.Text
import HandS.TupSets
import HandS.SetKeys
import HandS.Words
import HandS.WordsDict
import HandS.MakeKwOnly
import HandS.More
import HandS.Finally
import PySem.Challenge.RW_plansamid_k20_counts_told

section
set_option Elab.async false
set_option linter.all false
set_option maxRecDepth 100000
set_option maxHeartbeats 4000000
/-! A def's promise where no text of a container is being put together around it (so that repr is served). -/
namespace Gd
open PySem PySem.Spec PyProof.Rows L2

/-- no container is amid its own text -/
def Free (A : Around) : Prop := A.guards = some []

structure FnG (P : Program) (w : World) (K : PySem.W.Frag) (mg : Str → Option Value)
    (base : Heap) (cx : CXT) (n : Nat) (f : Addr) (fd : FuncData) (ps : List Str) (sp : Sp) : Prop where
  len : ∀ vs H Q E, sp vs H Q E → vs.length = ps.length
  run : ∀ (A : Around) (out : List Env) (s : Shared) (H : Hp) (args : Args) (us : List Value)
      (vs : List V) (Q : VK) (E : XK), Free A → Room n A → Env0 P w K mg base A out s H →
      BindsTo s fd args (ps.zip us) → Vals vs us → sp vs H Q E →
      codeAny (model P w) A (.call (.ref f) args) (CR cx out P w H s Q E) s

section
variable {P : Program} {w : World} {K : PySem.W.Frag} {mg : Str → Option Value} {base : Heap} {cx : CXT}
theorem FnG.ofOk {n : Nat} {f : Addr} {fd : FuncData} {ps : List Str} {sp : Sp}
    (F : FnOk P w K mg base cx n f fd ps sp) : FnG P w K mg base cx n f fd ps sp :=
  ⟨F.len, fun A out s H args us vs Q E _ => F.run A out s H args us vs Q E⟩
theorem FnG.mono {m n : Nat} {f : Addr} {fd : FuncData} {ps : List Str} {sp : Sp}
    (F : FnG P w K mg base cx m f fd ps sp) (h : m ≤ n) : FnG P w K mg base cx n f fd ps sp :=
  ⟨F.len, fun A out s H args us vs Q E g r => F.run A out s H args us vs Q E g (r.mono h)⟩
end

section
variable {X : Cx} {cx : CXT} {n : Nat} {f : Addr} {fd : FuncData} {ps : List Str} {sp : Sp}
  {dvs : List V} {ds : List Value} {E : XK} {x : Str} {p pos : Pos} {e : Expr} {es : List Expr} {t : TA}

theorem run_g {pins : List (Addr × Obj)} {σ : L2.St} {H : Hp} {s : Shared} {Q : VK} {us : List Value} {vs : List V}
    (F : FnG X.prog X.w X.K X.mg X.base cx n f fd ps sp) (g : Free X.A) (hr : Room n X.A)
    (hb : Binds X.K fd ps ds) (hd : Vals dvs ds) (hx : Passes cx X E)
    (I : Inv X pins σ H s) (r : Vals vs us) (h : sp (vs ++ dvs) H Q E) :
    wpAny (model X.prog X.w) X.A (call (.ref f) us) (EP X pins σ Q) X.xe s := by
  have rr : Vals (vs ++ dvs) (us ++ ds) := r.append hd
  have hl : (us ++ ds).length = ps.length := (Paired.length rr).symm.trans (F.len _ _ _ _ h)
  have all := F.run X.A X.stack s H ⟨us, []⟩ (us ++ ds) (vs ++ dvs) Q E g hr I.env0 (hb s us I.kIn hl) rr h
  refine wpAny_call (codeAny_mono all ?_)
  intro o s' z
  cases o with
  | error er => exact hx pins σ H s er s' I z
  | ok fl =>
    cases fl with
    | ret u => exact I.after z
    | _ => exact False.elim z

theorem pe_callG (F : FnG X.prog X.w X.K X.mg X.base cx n f fd ps sp) (g : Free X.A) (hr : Room n X.A)
    (hg : Gl X x) (hm : X.mg x = some (.ref f)) (hk : PySem.W.keepIn X.K (.ref f) = true)
    (hb : Binds X.K fd ps ds) (hd : Vals dvs ds) (hx : Passes cx X E) (ha : PA X (e :: es) t)
    (hdb : (x == ("__debug__" : Str)) = false := by decide)
    (he : starEach (e :: es) X.env = (false, eval e X.env) :: starEach es X.env := by rfl)
    (hpl : (backTo pos (starEach es X.env)).any (·.1) = false := by rfl) :
    PE X (.Call (.Name x p) (e :: es) [] pos) (tCall sp dvs E t) := by
  constructor
  intro pins s σ H Q I h
  refine wpAny_Call_Name_kw (ld_glob I hg hm ?_ hdb)
  have args := ha.run pos pins s σ H _ I h
  refine PySem.W.callWith_K (h₀ := X.base) I.ok.mod.kin hk (thn args ?_) he hpl
  rintro us s1 ⟨vs, H1, J, r, q⟩
  exact ⟨J.kIn, run_g F g hr hb hd hx J r q⟩
end

/-! ### by the body -/
section
variable {P : Program} {w : World} {K : PySem.W.Frag} {mg : Str → Option Value} {base : Heap}
theorem FnG.body {cx : CXT} {n : Nat} {f : Addr} {nm ql : Str} {pr : Arguments} {bd : List Stmt} {sc : Scope}
    {dV kV dc pm cv ct oc : Value} {an od : Option Addr} {sl : Array (Option Value)} {N ps : List Str} {sp : Sp}
    (lk : K.lookup f = some ⟨oc, od, .func (PySem.W.fnOf nm ql pr bd sc dV kV dc pm an cv ct), sl⟩)
    (hc : PySem.W.codeIn K cv ql = true) (S : FnScope N ps sc) (len : ∀ vs H Q E, sp vs H Q E → vs.length = ps.length)
    (hb : ∀ (A : Around) (out : List Env) (s : Shared) (H : Hp) (vs : List V) (Q : VK) (E : XK),
      Free (A.deeper (envOfC ql sc s.heap.objs.size f cv)) → Room n (A.deeper (envOfC ql sc s.heap.objs.size f cv)) →
      sp vs H Q E → ∃ t, PSs (cxOf cx P w K mg base N ql sc f cv A out s H E) bd t ∧
        t { nx := fun _ H' => Q .non H', rt := Q } (start N vs) H) :
    FnG P w K mg base cx (n + 1) f (PySem.W.fnOf nm ql pr bd sc dV kV dc pm an cv ct) ps sp := by
  refine ⟨len, ?_⟩
  intro A out s H args us vs Q E g hr e0 hbd r hsp
  have hl := len _ _ _ _ hsp
  have KX : K.In s.heap := e0.mod.kin.keeps fun b o e => (e0.bs b o e).1
  have lim : s.heap.NoLimit := e0.mod.nolimit.keeps fun b o e => (e0.bs b o e).1
  have kinds : ∀ y ∈ ps.zip us, sc.names.lookup y.1 = some .local ∨
      (sc.names.lookup y.1 = some .cell ∧
        ((cellsFrom (s.heap.objs.size + 1) sc.names []).lookup y.1).isSome = true) := by
    rintro ⟨y, v⟩ hy
    rcases S.par y (List.of_mem_zip hy).1 with q | q
    · left; exact q
    · right; exact ⟨q, PySem.W.cellsFrom_some _ _ _ (.inl q)⟩
  have code := PySem.W.codeRec_of KX hc
  refine codeAny_call_function hr.depth (KX _ _ lk) rfl S.co S.gen rfl code (hbd _ _ _ _ ?_)
  refine wpAny_newFunctionEnv_cells S.kind kinds ?_
  intro env he s1 x
  subst he
  refine ⟨lim.keeps x.toInCall.keep, codeAny_func ?_⟩
  obtain ⟨t, ht, hq⟩ := hb A out s H vs Q E g (hr.deeper _) hsp
  have I := inv_start (CX := cx) (P := P) (w := w) (E := E) S hr.hd e0 hl r x
  refine wpAny_mono (ht.run [] s1 (start N vs) H _ I hq) ?_ fun er s' z => z
  intro fl s' z
  cases fl with
  | ret u =>
    obtain ⟨v, σ', H', J, rv, q⟩ := z
    exact ⟨v, H', J.os, J.bare, J.base, J.hok, rv, q⟩
  | next =>
    obtain ⟨σ', H', J, q⟩ := z
    exact ⟨V.non, H', J.os, J.bare, J.base, J.hok, rfl, q⟩
  | brk =>
    obtain ⟨_, _, _, q⟩ := z
    exact q.elim
  | cont =>
    obtain ⟨_, _, _, q⟩ := z
    exact q.elim

theorem okG {x ql : Str} {st : Stmt} {f : Addr} {fd : FuncData} {N ps : List Str} {n : Nat} {sp : Sp}
    (F : Fun K x ql st f fd) (S : FnScope N ps (defScope st)) (len : ∀ vs H Q E, sp vs H Q E → vs.length = ps.length)
    (hb : ∀ (cv : Value) (A : Around) (out : List Env) (s : Shared) (H : Hp) (vs : List V) (Q : VK) (E : XK),
      Free (A.deeper (envOfC ql (defScope st) s.heap.objs.size f cv)) →
      Room n (A.deeper (envOfC ql (defScope st) s.heap.objs.size f cv)) → sp vs H Q E →
      ∃ t, PSs (cxOf CX0 P w K mg base N ql (defScope st) f cv A out s H E).nox (defBody st) t ∧
        t { nx := fun _ H' => Q .non H', rt := Q } (start N vs) H) :
    FnG P w K mg base CX0 (n + 1) f fd ps sp := by
  obtain ⟨oc, od, kV, dc, pm, an, cv, ct, sl, rfl, lk, hc⟩ := F.ex
  refine FnG.body lk hc S len ?_
  intro A out s H vs Q E g hr hsp
  obtain ⟨t, h, q⟩ := hb cv A out s H vs Q E g hr hsp
  exact ⟨t, h.nox, q⟩
end
end Gd
end

section
set_option Elab.async false
set_option linter.all false
set_option maxRecDepth 100000
set_option maxHeartbeats 4000000
/-! The end of a law's row from a promise of Gd.FnG. -/
namespace Gd
open PySem PySem.Spec PyProof.Rows L2

/-- what is wanted of the law's own call -/
def Yes (s1 : Shared) (r : Result) (s' : Shared) : Prop :=
  r = .ok (.ret (.bool true)) ∧ OldK s1.heap s'.heap ∧ s'.os = s1.os ∧ AllBare s'.gens

section
variable {P : Program} {w : World} {K : PySem.W.Frag} {mg mb : Str → Option Value} {cx : CXT} {n : Nat}
  {fa a : Addr} {fd : FuncData} {x : Str} {sp : Sp} {s1 : Shared} {vs : List Value} {ns : List Int}

theorem begun (H : Hp) (only : Only H) (hS : SqL K H a (ns.map V.int)) (hok : HOk P w H s1.heap)
    (at_a : ∀ b, H b ≠ none → b = a) (noK : H a ≠ none → K.lookup a = none)
    (KX : K.In s1.heap) (hns : s1.heap.Ns mainGlobals mg) (hb : s1.heap.Ns builtinsNs mb)
    (hbb : ∀ y : Str, y ≠ "__name__" → mb y = bootBuiltins y) (hlim : s1.heap.NoLimit) (hg : s1.gens = #[])
    (ha : s1.heap.get? a = some { cls := .type "list", data := .seq vs.toArray }) (hr : Room n callerA)
    (F : ∀ base : Heap, K.In base → base.Ns mainGlobals mg → FnG P w K mg base cx n fa fd [x] sp)
    (hbind : ∀ (s : Shared) (u : Value), BindsTo s fd ⟨[u], []⟩ [(x, u)])
    (hsp : sp [.ref a] H (fun v _ => v = .bl true) fun _ _ _ => False)
    (hCX : ∀ e s', cx [] H s1 (fun _ _ _ => False) e s' → False) :
    codeAny (model P w) callerA (.call (.ref fa) ⟨[.ref a], []⟩) (Yes s1) s1 := by
  -- the base: what isn't tracked
  let B := hidT s1.heap H
  have toB : ∀ {b : Addr} {o : Obj}, s1.heap.get? b = some o → H b = none → B.get? b = some o :=
    fun e z => hidT_get e z
  have notDict : ∀ {b : Addr} {o : Obj} {es : Array DictEntry} {m : Nat},
      s1.heap.get? b = some o → o.data = .dict es m → H b = none := by
    intro b o es m e d
    cases q : H b with
    | none => rfl
    | some u =>
      exfalso
      have eb : b = a := at_a b (by simp [q])
      rw [eb, ha] at e
      cases Option.some.inj e
      cases d
  have nsB : ∀ {b : Addr} {m : Str → Option Value}, s1.heap.Ns b m → B.Ns b m := by
    rintro b m ⟨o, es, ep, e, d, r⟩
    exact ⟨o, es, ep, toB e (notDict e d), d, r⟩
  have inB : K.In B := by
    intro b o e
    refine toB (KX b o e) ?_
    cases q : H b with
    | none => rfl
    | some u =>
      have eb : b = a := at_a b (by simp [q])
      have z := noK (by rw [← eb, q]; simp)
      rw [eb, z] at e
      cases e
  have modB : Mod K mg B := by
    obtain ⟨mc, l1, l2⟩ := hlim
    exact ⟨inB, nsB hns, ⟨mb, nsB hb, hbb⟩, ⟨mc, nsB l1, l2⟩⟩
  have nil : ∀ {b : Addr}, b ∉ ([] : List Addr) := fun z => nomatch z
  have e0 : Env0 P w K mg B callerA [] s1 H :=
    ⟨rfl, modB, fun b o e => of_hidT e, Nat.le_of_eq (hidT_size _ _), trivial, fun b z => (nil z).elim, hok, .of_eq hg⟩
  have got := (F B inB (nsB hns)).run callerA [] s1 H ⟨[.ref a], []⟩ [.ref a] [.ref a] _ _ rfl hr e0
    (hbind s1 (.ref a)) (.cons rfl .nil) hsp
  refine codeAny_mono got ?_
  intro r s' z
  cases r with
  | error er => exact (hCX er s' z).elim
  | ok fl =>
    cases fl with
    | ret u =>
      obtain ⟨v, H', os, bare, un, hok', rv, q⟩ := z
      obtain rfl : v = .bl true := q
      obtain rfl : u = Value.bool true := rv
      refine ⟨rfl, OldK.of_keep ?_, os, bare⟩
      intro b o e
      cases q : H b with
      | none => exact un.keep b o e q (fun z => (nil z).elim) (fun z => (nil z).elim)
      | some u =>
        rcases only b with z | ⟨ob, xs, z⟩
        · exact nomatch q.symm.trans z
        · obtain ⟨g1, _⟩ := hok b _ z
          obtain ⟨g2, _⟩ := hok' b _ (un.frzs b ob _ z)
          exact g2.trans (g1.symm.trans e)
    | _ => exact False.elim z

theorem law_callG (KX : K.In s1.heap) (hns : s1.heap.Ns mainGlobals mg) (hb : s1.heap.Ns builtinsNs mb)
    (hbb : ∀ y : Str, y ≠ "__name__" → mb y = bootBuiltins y) (hlim : s1.heap.NoLimit) (hg : s1.gens = #[])
    (ha : s1.heap.get? a = some { cls := .type "list", data := .seq vs.toArray }) (hi : IntsAre vs ns)
    (hl : ns.length ≤ sizeLine) (hr : Room n callerA)
    (F : ∀ base : Heap, K.In base → base.Ns mainGlobals mg → FnG P w K mg base cx n fa fd [x] sp)
    (hbind : ∀ (s : Shared) (u : Value), BindsTo s fd ⟨[u], []⟩ [(x, u)])
    (hsp : ∀ H : Hp, Only H → SqL K H a (ns.map V.int) → sp [.ref a] H (fun v _ => v = .bl true) fun _ _ _ => False)
    (hCX : ∀ H e s', cx [] H s1 (fun _ _ _ => False) e s' → False) :
    codeAny (model P w) callerA (.call (.ref fa) ⟨[.ref a], []⟩) (Yes s1) s1 := by
  have rv := vals_ints hi
  have hz : vs.toArray.size ≤ sizeLine := by
    rw [List.size_toArray, hi.length]
    exact hl
  cases hk : K.lookup a with
  | some o =>
    have e : some o = some _ := (KX a o hk).symm.trans ha
    cases e
    have here : SqL K (fun _ => none) a (ns.map V.int) := .inr ⟨_, vs.toArray, _, hk, rfl, rfl, rfl, hz, by simpa using rv⟩
    have only : Only (fun _ => none) := fun _ => .inl rfl
    exact begun (fun _ => none) only here (fun b u z => nomatch z) (fun b z => absurd rfl z) (fun z => absurd rfl z)
      KX hns hb hbb hlim hg ha hr F hbind (hsp _ only here) (hCX _)
  | none =>
    let H : Hp := fun b => if b = a then some (.frz { cls := .type "list", data := .seq vs.toArray } (.lst (ns.map V.int))) else none
    have Ha : H a = some (.frz { cls := .type "list", data := .seq vs.toArray } (.lst (ns.map V.int))) := if_pos rfl
    have Hn : ∀ {b : Addr}, b ≠ a → H b = none := fun z => if_neg z
    have only : Only H := by
      intro b
      by_cases eb : b = a
      · right
        subst eb
        exact ⟨_, _, Ha⟩
      · left
        exact Hn eb
    have here : SqL K H a (ns.map V.int) := .inl (.inr ⟨_, Ha⟩)
    refine begun H only here ?_ ?_ (fun _ => hk) KX hns hb hbb hlim hg ha hr F hbind (hsp _ only here) (hCX _)
    · intro b u z
      by_cases eb : b = a
      · subst eb
        rw [Ha] at z
        cases z
        exact ⟨ha, by rw [List.length_map]; exact hl, vs, _, rv, ha⟩
      · rw [Hn eb] at z
        cases z
    · intro b z
      by_cases eb : b = a
      · exact eb
      · exact absurd (Hn eb) z
end

theorem walkG {l : PySem.W.OpenLaw} {m n : Nat} {q : Program} {loose : List Str} {XP : (Str → Option Value) → Heap → Prop}
    {YP : World → Heap → Prop} {d : DefRec} {K : Params → PySem.W.Frag} {sp : PySem.W.Frag → Sp} {x : Str}
    (hn : l.most = some m) (hm : m ≤ sizeLine) (hdf : d.params.defaults = []) (hr : Room n callerA)
    (hY : ∀ (w : World) (h : Heap), YP w h → (K w.params).In h)
    (F : ∀ (w : World) (mg : Str → Option Value) (fa : Addr) (h : Heap), (K w.params).In h → h.Ns mainGlobals mg →
      mg d.name = some (.ref fa) → ∃ fd : FuncData, (∀ (s : Shared) (u : Value), BindsTo s fd ⟨[u], []⟩ [(x, u)]) ∧
        ∀ base : Heap, (K w.params).In base → base.Ns mainGlobals mg →
          FnG l.prog w (K w.params) mg base CX0 n fa fd [x] (sp (K w.params)))
    (hsp : ∀ (K : PySem.W.Frag) (H : Hp) (a : Addr) (ns : List Int), ns.length ≤ m →
      (∀ z ∈ ns, Builtin.Int.intBits z ≤ 1048576) → Only H → SqL K H a (ns.map V.int) →
      sp K [.ref a] H (fun v _ => v = .bl true) fun _ _ _ => False) :
    PySem.W.WalkO q loose XP YP l.row.toRowW d [] (fun f vs => PySem.call f vs) := by
  refine Att.attach_callB hn hdf ?_
  intro w s0 s1 mg mb fa o pm cd dc a vs ns G Y ho hd hcd hmg hobj hints hlen hbits hg
  have KX := hY w _ Y
  obtain ⟨fd, hb, hF⟩ := F w mg fa _ KX G.T.g hmg
  exact law_callG KX G.T.g G.T.b G.T.builtins G.T.nolimit hg hobj hints (Nat.le_trans hlen hm) hr hF hb
    (fun H only hS => hsp _ H a ns hlen hbits only hS) fun H e s' z => z.elim
end Gd
end

section
set_option Elab.async false
set_option linter.all false
set_option maxRecDepth 100000
set_option maxHeartbeats 4000000
/-! What the laws draw from: a list of three numbers, of which each draw takes one more. -/
namespace Gd
open PySem PySem.Spec PyProof.Rows L2

/-- at p: what is left of a great number, the seed, how many were drawn, at most S -/
def Feed (H : Hp) (p : Addr) (S : Int) : Prop := ∃ g x s : Int, H p = some (.lst [.int g, .int x, .int s]) ∧ 0 ≤ s ∧ s ≤ S
theorem Feed.le {H : Hp} {p : Addr} {S T : Int} (h : Feed H p S) (l : S ≤ T) : Feed H p T := by
  obtain ⟨g, x, s, e, a, b⟩ := h
  exact ⟨g, x, s, e, a, by omega⟩
theorem Feed.here {H : Hp} {p : Addr} {S g x s : Int} (h0 : 0 ≤ s) (h : s ≤ S) : Feed (upd H p (.lst [.int g, .int x, .int s])) p S :=
  ⟨g, x, s, upd_same, h0, h⟩
theorem Feed.stays {H : Hp} {p q : Addr} {S : Int} {o : HO} (h : Feed H p S) (n : H q = none) : Feed (upd H q o) p S := by
  obtain ⟨g, x, s, e, a, b⟩ := h
  refine ⟨g, x, s, ?_, a, b⟩
  rw [upd_ne (ne_of_none e n)]
  exact e
/-- all is as it was, but at p -/
def Ex1 (p : Addr) (H H' : Hp) : Prop := ∀ a o, a ≠ p → H a = some o → H' a = some o
theorem Ex1.refl (p : Addr) (H : Hp) : Ex1 p H H := fun _ _ _ h => h
theorem Ex1.trans {p : Addr} {H H1 H2 : Hp} (a : Ex1 p H H1) (b : Ex1 p H1 H2) : Ex1 p H H2 := fun x o n h => b x o n (a x o n h)
theorem Ex1.at {p : Addr} {H : Hp} {o : HO} : Ex1 p H (upd H p o) := fun a u n e => by
  rw [upd_ne n]
  exact e
theorem Ex1.new {p q : Addr} {H : Hp} {o : HO} (n : H q = none) : Ex1 p H (upd H q o) := fun a u _ e => by
  rw [upd_ne (ne_of_none e n)]
  exact e

theorem Feed.lst {H : Hp} {p : Addr} {S : Int} (h : Feed H p S) : ∃ xs, H p = some (.lst xs) := by
  obtain ⟨g, x, s, e, _⟩ := h
  exact ⟨_, e⟩
theorem Feed.ne {H : Hp} {p q : Addr} {S : Int} (h : Feed H p S) (n : H q = none) : q ≠ p := fun z => by
  obtain ⟨xs, e⟩ := h.lst
  rw [z, e] at n
  cases n
def spTake : Sp := fun vs H Q _ => ∃ (p : Addr) (m S : Int), vs = [.ref p, .int m] ∧ Feed H p S ∧ 0 < m ∧ m < 1073741824 ∧
  S ≤ 1000000000 ∧ ∀ (r : Int) (H' : Hp), 0 ≤ r → r < m → Feed H' p (S + 1) → Ex1 p H H' → Q (.int r) H'

theorem fmod_in (a : Int) {b : Int} (h : 0 < b) : 0 ≤ a.fmod b ∧ a.fmod b < b :=
  ⟨Int.fmod_nonneg_of_pos a h, Int.fmod_lt_of_pos a h⟩
end Gd
end

section
set_option Elab.async false
set_option linter.all false
set_option maxRecDepth 100000
set_option maxHeartbeats 4000000
/-! Data: numbers, texts, truths, None, tuples of such. -/
namespace Gd
open PySem PySem.Spec PyProof.Rows L2

mutual
def tupOnly : PyData → Bool
  | .none => true
  | .bool _ => true
  | .int _ => true
  | .str _ => true
  | .tuple ds => decide (ds.length ≤ 1000) && tupOnlyAll ds
  | .list _ => false
  | .dict _ => false
def tupOnlyAll : List PyData → Bool
  | [] => true
  | d :: ds => tupOnly d && tupOnlyAll ds
end

/-- tuples stay -/
def Tups (K : PySem.W.Frag) (H H' : Hp) : Prop := ∀ a xs, SqT K H a xs → SqT K H' a xs
theorem Tups.refl {K : PySem.W.Frag} {H : Hp} : Tups K H H := fun _ _ h => h
theorem Tups.trans {K : PySem.W.Frag} {H H1 H2 : Hp} (a : Tups K H H1) (b : Tups K H1 H2) : Tups K H H2 := fun x y h => b x y (a x y h)
theorem Tups.upd_lst {K : PySem.W.Frag} {H : Hp} {D : Addr} {xs ys : List V} (e : H D = some (.lst xs)) : Tups K H (upd H D (.lst ys)) := by
  intro a zs h
  rcases h with (h | ⟨o, h⟩) | h
  · refine .inl (.inl ?_)
    rw [upd_ne (fun z => by rw [z, e] at h; cases h)]
    exact h
  · refine .inl (.inr ⟨o, ?_⟩)
    rw [upd_ne (fun z => by rw [z, e] at h; cases h)]
    exact h
  · exact .inr h
theorem Tups.of_same {K : PySem.W.Frag} {H H' : Hp} (s : Same H H') : Tups K H H' := by
  intro a zs h
  rcases h with (h | ⟨o, h⟩) | h
  · exact .inl (.inl (s _ _ h))
  · exact .inl (.inr ⟨o, s _ _ h⟩)
  · exact .inr h

theorem Tups.new {K : PySem.W.Frag} {H : Hp} {q : Addr} {o : HO} (n : H q = none) : Tups K H (upd H q o) :=
  .of_same fun b u e => by
    rw [upd_ne (ne_of_none e n)]
    exact e
theorem Ex1.tups {K : PySem.W.Frag} {H H' : Hp} {p : Addr} {xs : List V} (x : Ex1 p H H') (e : H p = some (.lst xs)) : Tups K H H' := by
  intro a zs h
  rcases h with (h | ⟨o, h⟩) | h
  · exact .inl (.inl (x _ _ (fun z => by rw [z, e] at h; cases h) h))
  · exact .inl (.inr ⟨o, x _ _ (fun z => by rw [z, e] at h; cases h) h⟩)
  · exact .inr h
section
variable {K : PySem.W.Frag} {H H' : Hp}
mutual
theorem Dp.tups (t : Tups K H H') : ∀ (d : PyData) {v : V}, tupOnly d = true → Dp K H v d → Dp K H' v d
  | .none, _, _, h => by cases h; exact .non
  | .bool _, _, _, h => by cases h; exact .bl _
  | .int _, _, _, h => by cases h; exact .int _
  | .str _, _, _, h => by cases h; exact .str _
  | .tuple ds, _, o, h => by
    cases h with
    | tup a b =>
      simp only [tupOnly, Bool.and_eq_true] at o
      exact .tup (t _ _ a) (DpAll.tups t ds o.2 b)
  | .list _, _, o, _ => by simp [tupOnly] at o
  | .dict _, _, _, h => by cases h
theorem DpAll.tups (t : Tups K H H') : ∀ (ds : List PyData) {vs : List V}, tupOnlyAll ds = true → DpAll K H vs ds → DpAll K H' vs ds
  | [], _, _, h => by cases h; exact .nil
  | d :: ds, _, o, h => by
    simp only [tupOnlyAll, Bool.and_eq_true] at o
    cases h with
    | cons a b => exact .cons (Dp.tups t d o.1 a) (DpAll.tups t ds o.2 b)
end
mutual
theorem Dp.same (s : Same H H') : ∀ (d : PyData) {v : V}, Dp K H v d → Dp K H' v d
  | .none, _, h => by cases h; exact .non
  | .bool _, _, h => by cases h; exact .bl _
  | .int _, _, h => by cases h; exact .int _
  | .str _, _, h => by cases h; exact .str _
  | .tuple ds, _, h => by
    cases h with
    | tup a b => exact .tup (Tups.of_same s _ _ a) (DpAll.same s ds b)
  | .list ds, _, h => by
    cases h with
    | lst a b => exact .lst (s.seq a) (DpAll.same s ds b)
  | .dict _, _, h => by cases h
theorem DpAll.same (s : Same H H') : ∀ (ds : List PyData) {vs : List V}, DpAll K H vs ds → DpAll K H' vs ds
  | [], _, h => by cases h; exact .nil
  | d :: ds, _, h => by
    cases h with
    | cons a b => exact .cons (Dp.same s d a) (DpAll.same s ds b)
end
theorem DpAll.len : ∀ {vs : List V} {ds : List PyData}, DpAll K H vs ds → vs.length = ds.length
  | _, _, .nil => rfl
  | _, _, .cons _ b => congrArg (· + 1) (DpAll.len b)
theorem DpAll.at_ : ∀ {vs : List V} {ds : List PyData} {i : Nat} {v : V}, DpAll K H vs ds → vs[i]? = some v → ∃ d, ds[i]? = some d ∧ Dp K H v d
  | _, _, _, _, .nil, e => by simp at e
  | _, _, 0, _, .cons a _, e => by
    cases Option.some.inj e
    exact ⟨_, rfl, a⟩
  | _, _, i + 1, _, .cons _ b, e => DpAll.at_ (i := i) b e
theorem DpAll.snoc : ∀ {vs : List V} {ds : List PyData} {v : V} {d : PyData}, DpAll K H vs ds → Dp K H v d → DpAll K H (vs ++ [v]) (ds ++ [d])
  | _, _, _, _, .nil, h => .cons h .nil
  | _, _, _, _, .cons a b, h => .cons a (DpAll.snoc b h)
theorem tupOnlyAll_at : ∀ {ds : List PyData} {i : Nat} {d : PyData}, tupOnlyAll ds = true → ds[i]? = some d → tupOnly d = true
  | [], _, _, _, e => by simp at e
  | x :: r, 0, d, o, e => by
    simp only [tupOnlyAll, Bool.and_eq_true] at o
    cases Option.some.inj e
    exact o.1
  | x :: r, i + 1, d, o, e => by
    simp only [tupOnlyAll, Bool.and_eq_true] at o
    exact tupOnlyAll_at (i := i) o.2 e
theorem tupOnlyAll_take : ∀ {ds : List PyData}, tupOnlyAll ds = true → ∀ i : Nat, tupOnlyAll (ds.take i) = true
  | [], _, i => by rw [List.take_nil] <;> rfl
  | x :: r, o, 0 => rfl
  | x :: r, o, i + 1 => by
    simp only [tupOnlyAll, Bool.and_eq_true] at o
    simp only [List.take_succ_cons, tupOnlyAll, Bool.and_eq_true]
    exact ⟨o.1, tupOnlyAll_take o.2 i⟩
theorem depth_at : ∀ {ds : List PyData} {i : Nat} {d : PyData}, ds[i]? = some d → d.depth ≤ PyData.depthAll ds
  | [], _, _, e => by simp at e
  | x :: r, 0, d, e => by
    cases Option.some.inj e
    simp only [PyData.depthAll]
    omega
  | x :: r, i + 1, d, e => by
    have h := depth_at (ds := r) (i := i) e
    simp only [PyData.depthAll]
    omega
end

/-- the built-in class of data -/
def kindN : PyData → String
  | .none => "NoneType"
  | .bool _ => "bool"
  | .int _ => "int"
  | .str _ => "str"
  | .list _ => "list"
  | .tuple _ => "tuple"
  | .dict _ => "dict"
theorem Dp.kind {K : PySem.W.Frag} {H : Hp} {v : V} {d : PyData} (h : Dp K H v d) (o : tupOnly d = true) : TyX K H v (.type (kindN d)) := by
  cases h with
  | non => exact .base .non
  | bl b => exact .base (.bl b)
  | int i => exact .base (.int i)
  | str x => exact .base (.str x)
  | lst _ _ => simp [tupOnly] at o
  | tup a _ =>
    rcases a with (a | ⟨z, a⟩) | ⟨z, its, n, a, c, _⟩
    · exact .base (.tup a)
    · exact .fTuple a
    · exact .kTuple a c
section
theorem kb0 : kitB "NoneType" "list" = some false ∧ kitB "NoneType" "tuple" = some false ∧ kitB "NoneType" "dict" = some false := by decide +kernel
theorem kb1 : kitB "bool" "list" = some false ∧ kitB "bool" "tuple" = some false ∧ kitB "bool" "dict" = some false := by decide +kernel
theorem kb2 : kitB "int" "list" = some false ∧ kitB "int" "tuple" = some false ∧ kitB "int" "dict" = some false := by decide +kernel
theorem kb3 : kitB "str" "list" = some false ∧ kitB "str" "tuple" = some false ∧ kitB "str" "dict" = some false := by decide +kernel
theorem kb4 : kitB "tuple" "list" = some false ∧ kitB "tuple" "tuple" = some true ∧ kitB "tuple" "dict" = some false := by decide +kernel
theorem kind_list {d : PyData} (o : tupOnly d = true) : kitB (kindN d) "list" = some false := by
  cases d with
  | none => exact kb0.1
  | bool b => exact kb1.1
  | int i => exact kb2.1
  | str x => exact kb3.1
  | tuple ds => exact kb4.1
  | list ds => simp [tupOnly] at o
  | dict ds => simp [tupOnly] at o
theorem kind_dict {d : PyData} (o : tupOnly d = true) : kitB (kindN d) "dict" = some false := by
  cases d with
  | none => exact kb0.2.2
  | bool b => exact kb1.2.2
  | int i => exact kb2.2.2
  | str x => exact kb3.2.2
  | tuple ds => exact kb4.2.2
  | list ds => simp [tupOnly] at o
  | dict ds => simp [tupOnly] at o
theorem kind_tuple {d : PyData} (o : tupOnly d = true) (n : ¬ ∃ ds, d = .tuple ds) : kitB (kindN d) "tuple" = some false := by
  cases d with
  | none => exact kb0.2.1
  | bool b => exact kb1.2.1
  | int i => exact kb2.2.1
  | str x => exact kb3.2.1
  | tuple ds => exact absurd ⟨ds, rfl⟩ n
  | list ds => simp [tupOnly] at o
  | dict ds => simp [tupOnly] at o
end
end Gd
end

section
set_option Elab.async false
set_option linter.all false
set_option maxRecDepth 100000
set_option maxHeartbeats 4000000
/-! repr of data, the reading of a promise that is free of texts under way. -/
namespace Gd
open PySem PySem.Spec PyProof.Rows L2

section
variable {K : PySem.W.Frag} {H : Hp}
mutual
theorem Dp.plain : ∀ (d : PyData) {v : V}, Dp K H v d → d.hasDict = false
  | .none, _, _ => by simp only [PyData.hasDict]
  | .bool _, _, _ => by simp only [PyData.hasDict]
  | .int _, _, _ => by simp only [PyData.hasDict]
  | .str _, _, _ => by simp only [PyData.hasDict]
  | .list ds, _, h => by
    cases h with
    | lst _ k =>
      simp only [PyData.hasDict]
      exact DpAll.plain ds k
  | .tuple ds, _, h => by
    cases h with
    | tup _ k =>
      simp only [PyData.hasDict]
      exact DpAll.plain ds k
  | .dict _, _, h => by cases h
theorem DpAll.plain : ∀ (ds : List PyData) {vs : List V}, DpAll K H vs ds → PyData.hasDictAll ds = false
  | [], _, _ => by simp only [PyData.hasDictAll]
  | d :: ds, _, h => by
    cases h with
    | cons a b =>
      simp only [PyData.hasDictAll, Dp.plain d a, DpAll.plain ds b, Bool.or_self]
end
end

/-- repr(x), x data -/
def rRepr (K : PySem.W.Frag) : List V → Hp → VK → Prop := fun xs H Q =>
  ∃ (x : V) (d : PyData), xs = [x] ∧ Dp K H x d ∧ d.showable = true ∧ d.shown.length ≤ sizeLine ∧ d.depth ≤ 60 ∧ Q (.str d.shown) H

section
variable {X : Cx}
theorem call_repr (g : Free X.A) (hu : X.A.units + 64 < cLine) : CallR X (.builtin "repr") (rRepr X.K) := by
  intro pins s σ H xs us Q I r h
  obtain ⟨x, d, rfl, hd, hs, hz, hdp, q⟩ := h
  obtain ⟨u, rfl, ru⟩ := r.one
  have pl := Dp.plain d hd
  obtain ⟨as, rd⟩ := Dp.reads I d x u hd ru
  have fin : ∀ (h' : Heap) (tk tk' : Nat), (∀ b o, s.heap.get? b = some o → h'.get? b = some o) →
      EP X pins σ Q (.str d.shown tk) { s with heap := h', toks := tk' } :=
    fun h' tk tk' k => ⟨.str d.shown, H, I.kept k, ⟨tk, rfl⟩, q⟩
  have fin0 : ∀ (tk tk' : Nat), EP X pins σ Q (.str d.shown tk) { s with toks := tk' } :=
    fun tk tk' => ⟨.str d.shown, H, I.tok tk', ⟨tk, rfl⟩, q⟩
  cases rd with
  | none => exact P.repr_of_none (fin0 _ _)
  | bool b => exact P.repr_of_bool (fin0 _ _)
  | int i t => exact P.repr_of_int (by simpa [PyData.showable] using hs) (fin0 _ _)
  | str z t => exact P.repr_of_str (fin0 _ _) hz
  | list h1 h2 h3 h4 =>
    exact repr_of_reads' (.list h1 h2 h3 h4) hs (PyData.noDict_hsm pl) g (by omega) (fun _ _ e => e) (fun h' u tk k => fin h' u tk k) hz
  | tuple h1 h2 h3 h4 =>
    exact repr_of_reads' (.tuple h1 h2 h3 h4) hs (PyData.noDict_hsm pl) g (by omega) (fun _ _ e => e) (fun h' u tk k => fin h' u tk k) hz
  | dict h1 h2 h3 h4 h5 => simp [PyData.hasDict] at pl
end
end Gd
end

section
set_option Elab.async false
set_option linter.all false
set_option maxRecDepth 100000
set_option maxHeartbeats 4000000
/-! Lists of ints and slabs in the heap; what they show. -/
namespace Gd
open PySem PySem.Spec PyProof.Rows L2
theorem int_shown {i : Int} (h : i.natAbs ≤ 10 ^ 40) : (PyData.int i).shown.length ≤ 100 ∧ i.natAbs.log2 < 1920 ∧ (PyData.int i).weight ≤ 200 := by
  have h1 : i.natAbs < 10 ^ 41 := Nat.lt_of_le_of_lt h (by decide)
  have hl : i.natAbs.log2 < 190 := by
    by_cases z : i.natAbs = 0
    · rw [z]; decide
    · exact (Nat.log2_lt z).mpr (Nat.lt_of_lt_of_le h1 (by decide +kernel))
  refine ⟨?_, by omega, ?_⟩
  · have e := int_text_length_le10 (k := 41) (by decide) h1
    have e2 : (PyData.int i).shown.length = (toString i).length := by
      show (Str.ofString (toString i)).length = _
      rw [PySem.ofString_length]
    omega
  · simp only [PyData.weight]
    split <;> omega
theorem ints_leaves : ∀ {ns : List Int}, (∀ i ∈ ns, i.natAbs ≤ 10 ^ 40) → PyData.leavesShortAll 100 (ns.map .int) = true ∧ PyData.showableAll (ns.map .int) = true ∧ PyData.weightAll (ns.map .int) ≤ 201 * ns.length ∧ PyData.depthAll (ns.map .int) = 0
  | [], _ => ⟨rfl, rfl, Nat.zero_le _, rfl⟩
  | i :: ns, h => by
    obtain ⟨a, b, c, d⟩ := ints_leaves (ns := ns) fun j hj => h j (by simp [hj])
    obtain ⟨e1, e2, e3⟩ := int_shown (h i (by simp))
    refine ⟨?_, ?_, ?_, ?_⟩
    · simp only [List.map_cons, PyData.leavesShortAll, a, Bool.and_true, PyData.leavesShort, decide_eq_true_eq]
      exact e1
    · simp only [List.map_cons, PyData.showableAll, b, Bool.and_true, PyData.showable, decide_eq_true_eq]
      exact e2
    · simp only [List.map_cons, PyData.weightAll, List.length_cons]
      omega
    · simp only [List.map_cons, PyData.depthAll, d, PyData.depth]
      omega
/-- repr of a list of ints is served -/
theorem ints_shown {ns : List Int} (h : ∀ i ∈ ns, i.natAbs ≤ 10 ^ 40) (hl : ns.length ≤ 700) :
    (PyData.list (ns.map .int)).showable = true ∧ (PyData.list (ns.map .int)).shown.length ≤ sizeLine ∧ (PyData.list (ns.map .int)).depth ≤ 60 := by
  obtain ⟨a, b, c, d⟩ := ints_leaves h
  have hs := PyData.shown_le 100 (by decide) (.list (ns.map .int)) (by simpa only [PyData.leavesShort] using a)
  have hw : (PyData.list (ns.map .int)).weight ≤ 201 * ns.length + 1 := by
    simp only [PyData.weight]
    omega
  have z : sizeLine = 16777216 := rfl
  refine ⟨by simpa only [PyData.showable] using b, by omega, ?_⟩
  simp only [PyData.depth, d]
  omega
theorem one_shown {i : Int} (h : i.natAbs ≤ 10 ^ 40) : (PyData.int i).showable = true ∧ (PyData.int i).shown.length ≤ sizeLine ∧ (PyData.int i).depth ≤ 60 := by
  obtain ⟨e1, e2, e3⟩ := int_shown h
  have z : sizeLine = 16777216 := rfl
  refine ⟨by simpa [PyData.showable] using e2, by omega, by simp only [PyData.depth]; omega⟩
theorem ints_dp {K : PySem.W.Frag} {H : Hp} : ∀ ns : List Int, DpAll K H (ns.map V.int) (ns.map .int)
  | [] => .nil
  | i :: ns => .cons (.int i) (ints_dp ns)
theorem list_dp {K : PySem.W.Frag} {H : Hp} {a : Addr} {ns : List Int} (h : SqL K H a (ns.map V.int)) : Dp K H (.ref a) (.list (ns.map .int)) := .lst h (ints_dp ns)

/-! what stays -/
theorem new_same {H : Hp} {q : Addr} {o : HO} (n : H q = none) : Same H (upd H q o) := fun b u e => by
  rw [upd_ne (ne_of_none e n)]
  exact e
/-- a new object may change -/
theorem own_same {H H' : Hp} {q : Addr} {o : HO} (n : H q = none) (s : Same H H') : Same H (upd H' q o) := fun b u e => by
  rw [upd_ne (ne_of_none e n)]
  exact s b u e
theorem same_tup {K : PySem.W.Frag} {H H' : Hp} (s : Same H H') {a : Addr} {xs : List V} (h : SqT K H a xs) : SqT K H' a xs := by
  rcases h with (h | ⟨o, h⟩) | h
  · exact .inl (.inl (s _ _ h))
  · exact .inl (.inr ⟨o, s _ _ h⟩)
  · exact .inr h
/-- slabs at a: a list of pairs -/
def SlabsAt (K : PySem.W.Frag) (H : Hp) (a : Addr) (ss : List (Nat × Int)) : Prop :=
  ∃ bs : List Addr, SqL K H a (bs.map V.ref) ∧ bs.length = ss.length ∧ ∀ (i : Nat) (b : Addr) (s : Nat × Int), bs[i]? = some b → ss[i]? = some s → SqT K H b [.int (s.1 : Nat), .int s.2]
theorem SlabsAt.same {K : PySem.W.Frag} {H H' : Hp} {a : Addr} {ss : List (Nat × Int)} (h : SlabsAt K H a ss) (s : Same H H') : SlabsAt K H' a ss := by
  obtain ⟨bs, h1, h2, h3⟩ := h
  exact ⟨bs, s.seq h1, h2, fun i b t e1 e2 => same_tup s (h3 i b t e1 e2)⟩
theorem map_at {α : Type} {f : α → V} {xs : List α} {i : Nat} {v : V} (h : (xs.map f)[i]? = some v) : ∃ x, xs[i]? = some x ∧ v = f x := by
  rw [List.getElem?_map] at h
  cases e : xs[i]? with
  | none => rw [e] at h; cases h
  | some x => rw [e] at h; exact ⟨x, rfl, (Option.some.inj h).symm⟩
theorem at_of {α : Type} {xs : List α} {i n : Nat} (hl : xs.length = n) (h : i < n) : ∃ x, xs[i]? = some x := ⟨xs[i]'(by omega), List.getElem?_eq_getElem (by omega)⟩
theorem at_lt {α : Type} {xs : List α} {i : Nat} {x : α} (h : xs[i]? = some x) : i < xs.length := (List.getElem?_eq_some_iff.mp h).1
theorem getD_at {l : List Int} {i : Nat} (h : i < l.length) : l[i]? = some (l.getD i 0) := by
  rw [List.getD_eq_getElem?_getD, List.getElem?_eq_getElem h] <;> rfl
theorem ints_at {l : List Int} {i : Nat} (h : i < l.length) : (l.map V.int)[i]? = some (.int (l.getD i 0)) := by
  rw [List.getElem?_map, getD_at h] <;> rfl
theorem ints_atI {l : List Int} {i : Nat} (h : i < l.length) : atI (l.map V.int) ((i : Nat) : Int) = some (.int (l.getD i 0)) := atI_nat (ints_at h)
theorem take_at {α : Type} {xs : List α} {i : Nat} {x : α} (h : xs[i]? = some x) : xs.take (i + 1) = xs.take i ++ [x] := by
  rw [List.take_add_one, h] <;> rfl
theorem map_set {l : List Int} {i : Nat} {v : Int} : (l.map V.int).set i (.int v) = (l.set i v).map V.int := by
  rw [List.map_set]
section
variable {X : Cx}
/-- l[j], j from nought on, in l[j] op= x -/
def rGetL (K : PySem.W.Frag) : V → V → Hp → VK → Prop := fun o i H Q => ∃ (p : Addr) (xs : List V) (j : Nat) (v : V), o = .ref p ∧ i = .int (j : Nat) ∧ SqL K H p xs ∧ xs[j]? = some v ∧ Q v H
theorem get_list : PGet X (rGetL X.K) := by
  intro pins s σ H o i ov iv Q I r1 r2 h
  obtain ⟨p, xs, j, v, rfl, rfl, hq, he, q⟩ := h
  cases r1
  obtain ⟨t, rfl⟩ := r2
  obtain ⟨its, r, pl, hz⟩ := I.list hq
  obtain ⟨u, eu, ru⟩ := r.get he
  have hl := r.length
  have lt := at_lt he
  have zz : sizeLine = 16777216 := rfl
  have hi := at_lt eu
  refine wpAny_getItem_list pl.isList (by omega) (by omega) ?_ ⟨v, H, I, ru, q⟩
  simpa using eu
end
theorem ixN_nat {n j : Nat} (h : j < n) : ixN n (j : Int) = some j := by
  unfold ixN
  rw [if_pos (by omega), if_pos (by omega)] <;> simp
end Gd
end

section
set_option Elab.async false
set_option linter.all false
set_option maxRecDepth 100000
set_option maxHeartbeats 4000000
namespace Gd
open PySem PySem.Spec PyProof.Rows L2
section
variable {X : Cx}
/-- a list beside [] -/
def rL0 (K : PySem.W.Frag) (neg : Bool) : R2 := fun x y H Q => ∃ a b xs, x = .ref a ∧ y = .ref b ∧ SqL K H a xs ∧ SqL K H b [] ∧ Q (.bl (if neg then !xs.isEmpty else xs.isEmpty)) H
theorem op_eqL0 (hu : X.A.units < cLine) : OpR X (compareOp .Eq) (rL0 X.K false) := by
  intro pins s σ H x y v u Q I rx ry h
  obtain ⟨a, b, xs, rfl, rfl, ha, hb, q⟩ := h
  cases rx
  cases ry
  obtain ⟨its, r, pl, _⟩ := I.list ha
  obtain ⟨its2, r2, pl2, _⟩ := I.list hb
  cases r2
  cases r with
  | nil => exact SeqAt.RcAt.lists (e := fun _ => true) pl.isList pl2.isList rfl hu (fun j h1 _ => absurd h1 (by simp)) _ _ _ _ ⟨.bl _, H, I, rfl, q⟩
  | cons _ _ => exact SeqAt.RcAt.lists_lengths pl.isList pl2.isList (by simp) hu _ _ _ _ ⟨.bl _, H, I, rfl, q⟩
theorem op_neL0 (hu : X.A.units < cLine) : OpR X (compareOp .NotEq) (rL0 X.K true) := by
  intro pins s σ H x y v u Q I rx ry h
  obtain ⟨a, b, xs, rfl, rfl, ha, hb, q⟩ := h
  cases rx
  cases ry
  obtain ⟨its, r, pl, _⟩ := I.list ha
  obtain ⟨its2, r2, pl2, _⟩ := I.list hb
  cases r2
  cases r with
  | nil => exact SeqAt.RcNeAt.lists (e := fun _ => true) pl.isList pl2.isList rfl hu (fun j h1 _ => absurd h1 (by simp)) _ _ _ _ ⟨.bl _, H, I, rfl, q⟩
  | cons _ _ => exact SeqAt.RcNeAt.lists_lengths pl.isList pl2.isList (by simp) hu _ _ _ _ ⟨.bl _, H, I, rfl, q⟩
end
/-! what stays through draws -/
theorem ex1_of_same {p : Addr} {H H' : Hp} (s : Same H H') : Ex1 p H H' := fun b u _ e => s b u e
theorem ex1_own {p q : Addr} {H H' : Hp} {o : HO} (n : H q = none) (x : Ex1 p H H') : Ex1 p H (upd H' q o) := fun b u nb e => by
  rw [upd_ne (ne_of_none e n)]
  exact x b u nb e
theorem Feed.off {H : Hp} {p q : Addr} {S : Int} {o : HO} (F : Feed H p S) (n : q ≠ p) : Feed (upd H q o) p S := by
  obtain ⟨g, x, s, e, a, b⟩ := F
  exact ⟨g, x, s, by rw [upd_ne n.symm]; exact e, a, b⟩
theorem Feed.kept {H H' : Hp} {p : Addr} {S : Int} (F : Feed H p S) (s : Same H H') : Feed H' p S := by
  obtain ⟨g, x, z, ep, a, b⟩ := F
  exact ⟨g, x, z, s _ _ ep, a, b⟩
theorem Feed.not {H : Hp} {p q : Addr} {S : Int} (F : Feed H p S) (n : H q = none) : q ≠ p := F.ne n
theorem ex1_tup {K : PySem.W.Frag} {H H' : Hp} {p a : Addr} {S : Int} {xs : List V} (F : Feed H p S) (x : Ex1 p H H') (h : SqT K H a xs) : SqT K H' a xs := by
  obtain ⟨ys, ep⟩ := F.lst
  rcases h with (h | ⟨o, h⟩) | h
  · exact .inl (.inl (x _ _ (fun z => by rw [z, ep] at h; cases h) h))
  · exact .inl (.inr ⟨o, x _ _ (fun z => by rw [z, ep] at h; cases h) h⟩)
  · exact .inr h
theorem ex1_seq {K : PySem.W.Frag} {H H' : Hp} {p a : Addr} {xs : List V} (n : a ≠ p) (x : Ex1 p H H') (h : SqL K H a xs) : SqL K H' a xs := by
  rcases h with (h | ⟨o, h⟩) | h
  · exact .inl (.inl (x _ _ n h))
  · exact .inl (.inr ⟨o, x _ _ n h⟩)
  · exact .inr h
theorem SlabsAt.drawn {K : PySem.W.Frag} {H H' : Hp} {p a : Addr} {S : Int} {ss : List (Nat × Int)} (h : SlabsAt K H a ss) (F : Feed H p S) (n : a ≠ p) (x : Ex1 p H H') : SlabsAt K H' a ss := by
  obtain ⟨bs, h1, h2, h3⟩ := h
  exact ⟨bs, ex1_seq n x h1, h2, fun i b t e1 e2 => ex1_tup F x (h3 i b t e1 e2)⟩
/-- a new object is not p, and was not there before the draws -/
theorem ex1_free {p q : Addr} {H H' : Hp} (x : Ex1 p H H') (n : q ≠ p) (h : H' q = none) : H q = none := by
  cases e : H q with
  | none => rfl
  | some o => rw [x q o n e] at h; cases h
theorem at_list {α : Type} {f : α → V} {xs : List α} {r : Int} (h0 : 0 ≤ r) (h1 : r < xs.length) : ∃ x, x ∈ xs ∧ atI (xs.map f) r = some (f x) := by
  have h2 : r.toNat < xs.length := by omega
  refine ⟨xs[r.toNat], List.getElem_mem h2, ?_⟩
  have e : ((r.toNat : Nat) : Int) = r := by omega
  have z : atI (xs.map f) ((r.toNat : Nat) : Int) = some (f xs[r.toNat]) := atI_nat (by rw [List.getElem?_map, List.getElem?_eq_getElem h2] <;> rfl)
  rw [e] at z
  exact z
end Gd
end

section
set_option Elab.async false
set_option linter.all false
set_option maxRecDepth 100000
set_option maxHeartbeats 4000000
/-! dicts of data compared, whatever the order their keys stand in; the place of a number in a tuple of numbers -/
namespace Gd
open PySem PySem.Spec PyProof.Rows L2
/-- the same under each key -/
def SameAt (K : PySem.W.Frag) (H : Hp) (ks ls : List (Key × V)) : Prop := ks.length = ls.length ∧ ∀ p ∈ ks, ∃ v' d, valV ls p.1 = some v' ∧ Dp K H p.2 d ∧ Dp K H v' d ∧ SeqAt.shaped d = true
section
variable {X : Cx} {pins : List (Addr × Obj)} {σ : L2.St} {H : Hp} {s : Shared}
theorem hits_data (I : Inv X pins σ H s) {A : Around} (hA : A.units + 64 < cLine) {ls : List (Key × V)} {vb : List (Key × Value)} (rb : KV ls vb) {ks : List (Key × V)} {va : List (Key × Value)} (ra : KV ks va) :
    (∀ p ∈ ks, ∃ v' d, valV ls p.1 = some v' ∧ Dp X.K H p.2 d ∧ Dp X.K H v' d ∧ SeqAt.shaped d = true) → PySem.W.KeqHits A s vb va true := by
  unfold KV at ra
  induction ra with
  | nil => intro _; exact .nil
  | @cons p q ps qs h t ih =>
    intro hp
    obtain ⟨h1, h2⟩ := h
    obtain ⟨v', d, e, d1, d2, sh⟩ := hp p List.mem_cons_self
    have rr : RelO (some v') (valueAt vb p.1) := by rw [← e]; exact rb.val p.1
    obtain ⟨y, hy, ry⟩ := rr.some_of
    obtain ⟨k, v⟩ := q
    have h1' : p.1 = k := h1
    rw [h1'] at hy
    obtain ⟨as, r1⟩ := Dp.reads I d p.2 v d1 h2
    obtain ⟨bs, r2⟩ := Dp.reads I d v' y d2 ry
    have cl := SeqAt.canLay_of_shaped sh
    have dp := SeqAt.depth_of_shaped sh
    have eq := SeqAt.eqAt_reads d d A s v y as bs r1 r2 cl cl (by rw [Nat.min_self]; omega)
    rw [SeqAt.eqv_refl d cl] at eq
    show PySem.W.KeqHits A s vb ((k, v) :: qs) (true && true)
    exact .hit hy eq (ih fun p' hm => hp p' (List.mem_cons_of_mem _ hm))
def rDD (K : PySem.W.Frag) (b : Bool) : R2 := fun x y H Q => ∃ a c ks ls, x = .ref a ∧ y = .ref c ∧ H a = some (.dK ks) ∧ H c = some (.dK ls) ∧ SameAt K H ks ls ∧ Q (.bl b) H
theorem op_eqDD (hu : X.A.units + 65 < cLine) : OpR X (compareOp .Eq) (rDD X.K true) := by
  intro pins s σ H x y v u Q I rx ry h
  obtain ⟨a, b, ks, ls, rfl, rfl, ea, eb, ⟨hlen, hp⟩, q⟩ := h
  obtain rfl : v = Value.ref a := rx
  obtain rfl : u = Value.ref b := ry
  obtain ⟨_, ya, va, ra, da⟩ := (show ObjOk X.prog X.w H s.heap a (.dK ks) from I.hok a _ ea)
  obtain ⟨_, yb, vb, rb, db⟩ := (show ObjOk X.prog X.w H s.heap b (.dK ls) from I.hok b _ eb)
  have hl : va.length = vb.length := by rw [← ra.length, ← rb.length]; exact hlen
  exact PySem.W.keq_eq (knd := mixKind X.prog X.w) (r := true) ya yb da db (by omega) (fun _ => hits_data I (by show X.A.units + 1 + 64 < cLine; omega) rb ra hp) (fin_bl I q (by simp [hl]))
theorem op_neDD (hu : X.A.units + 65 < cLine) : OpR X (compareOp .NotEq) (rDD X.K false) := by
  intro pins s σ H x y v u Q I rx ry h
  obtain ⟨a, b, ks, ls, rfl, rfl, ea, eb, ⟨hlen, hp⟩, q⟩ := h
  obtain rfl : v = Value.ref a := rx
  obtain rfl : u = Value.ref b := ry
  obtain ⟨_, ya, va, ra, da⟩ := (show ObjOk X.prog X.w H s.heap a (.dK ks) from I.hok a _ ea)
  obtain ⟨_, yb, vb, rb, db⟩ := (show ObjOk X.prog X.w H s.heap b (.dK ls) from I.hok b _ eb)
  have hl : va.length = vb.length := by rw [← ra.length, ← rb.length]; exact hlen
  exact PySem.W.keq_ne (knd := mixKind X.prog X.w) (r := true) ya yb da db (by omega) (fun _ => hits_data I (by show X.A.units + 1 + 64 < cLine; omega) rb ra hp) (fin_bl I q (by simp [hl]))
end
theorem flat_ints (ys : List Int) : (ys.map V.int).all flatV = true := by
  rw [List.all_map]
  exact List.all_eq_true.mpr fun _ _ => rfl
section
variable {X : Cx}
/-- t.index(i), the first place -/
def rTupIx (K : PySem.W.Frag) : V → List V → Hp → VK → Prop := fun x xs H Q => ∃ (p : Addr) (ys : List Int) (z : Int) (j : Nat), x = .ref p ∧ xs = [.int z] ∧ SqT K H p (ys.map V.int) ∧ ys[j]? = some z ∧ (∀ m, m < j → ys[m]? ≠ some z) ∧ Q (.int (j : Nat)) H
theorem mt_tup_indexN : MtR X "tuple.index" (rTupIx X.K) := by
  intro pins s σ H x xs v us Q I rx rs h
  obtain ⟨p, ys, z, j, rfl, rfl, hq, hy, hno, q⟩ := h
  cases rx
  obtain ⟨u, rfl, t, rfl⟩ := vals1 rs
  obtain ⟨its, r, pl, hz⟩ := I.tuple hq
  obtain ⟨⟨cls, dd, dt, sl⟩, ho, hc, n, hd⟩ := pl
  simp only at hc hd
  subst hc
  subst hd
  have hl : its.toArray.size = ys.length := by rw [List.size_toArray, ← r.length, List.length_map]
  have hj : j < its.toArray.size := by rw [hl]; exact (List.getElem?_eq_some_iff.mp hy).1
  have at' : ∀ (m : Nat) (hm : m < its.toArray.size), ∃ y t', ys[m]? = some y ∧ its.toArray[m] = Value.int y t' := fun m hm => by
    have hm' : m < ys.length := by rw [← hl]; exact hm
    obtain ⟨w, hw, t', hw'⟩ := r.get (i := m) (x := .int ys[m]) (by simp [hm'])
    refine ⟨ys[m], t', List.getElem?_eq_getElem hm', ?_⟩
    have e := (List.getElem?_eq_some_iff.mp hw).2
    rw [← hw', ← e]
    simp
  refine call_meets PySem.F.slot_tuple_index ⟨_, ho, rfl⟩ PySem.F.entry_tuple_index (PySem.F.args_tuple_index_2 _ _) (TI.tuple_indexAt p its.toArray n dd sl (.int z t) (eqU (.int z)) j hj ?_ ?_)
    ⟨ho, fun w hw => mem_eqAt (x := .int z) ⟨t, rfl⟩ rfl r (flat_ints ys) w (by simpa using hw), ⟨.int (j : Nat), H, I.tok _, ⟨_, rfl⟩, q⟩⟩
  · obtain ⟨y, t', h1, h2⟩ := at' j hj
    rw [hy] at h1
    cases h1
    rw [h2]
    show (z == z) = true
    exact beq_self_eq_true z
  · intro m hm hmj
    obtain ⟨y, t', h1, h2⟩ := at' m hm
    rw [h2]
    show (y == z) = false
    exact beq_eq_false_iff_ne.mpr fun e => hno m hmj (e ▸ h1)
end
/-- a tuple whose object is known: it has no attributes of its own -/
def FzT (H : Hp) (a : Addr) (xs : List V) : Prop := ∃ o : Obj, H a = some (.frz o (.tup xs)) ∧ o.dict = none
theorem FzT.seq {K : PySem.W.Frag} {H : Hp} {a : Addr} {xs : List V} (h : FzT H a xs) : SqT K H a xs := by
  obtain ⟨o, e, _⟩ := h
  exact .inl (.inr ⟨o, e⟩)
theorem FzT.same {H H' : Hp} {a : Addr} {xs : List V} (h : FzT H a xs) (s : Same H H') : FzT H' a xs := by
  obtain ⟨o, e, d⟩ := h
  exact ⟨o, s _ _ e, d⟩
section
variable {X : Cx} {o e : Expr} {es : List Expr} {to : TE} {t : TA} {name : Str} {apos cpos : Pos} {id : String} {r : V → List V → Hp → VK → Prop}
def tBMT (r : V → List V → Hp → VK → Prop) (to : TE) (t : TA) : TE := fun σ H Q => to σ H fun x H1 => (∃ a xs, x = .ref a ∧ FzT H1 a xs) ∧ t σ H1 fun ys H2 => r x ys H2 Q
/-- t.m(..) of such a tuple -/
theorem pe_bmT (slot : Slot "tuple" name id) (hty : typeOf (.builtin id) = pure (.type "method_descriptor")) (hm : MtR X id r) (ho : PE X o to) (ha : PA X (e :: es) t)
    (hbase : attributeBase o name X.env (eval o X.env) = eval o X.env := by rfl)
    (hfew : ((backTo cpos (starEach (e :: es) X.env)).all (fun x => !x.1) && (backToKw cpos (keywordEach [] X.env)).all (fun x => x.1.isSome)
      && decide ((e :: es).length + ([] : List Keyword).length + (if ([] : List Keyword).isEmpty then 0 else 1) < 30)) = true := by rfl)
    (hline : (apos.endLine == cpos.line) = true := by rfl) (hs : starEach (e :: es) X.env = (false, eval e X.env) :: starEach es X.env := by rfl) (hplain : (backTo cpos (starEach es X.env)).any (·.1) = false := by rfl) :
    PE X (.Call (.Attribute o name apos) (e :: es) [] cpos) (tBMT r to t) := by
  refine ⟨fun pins s σ H Q I h => ?_⟩
  refine wpAny_Call_method_late hbase hfew hline rfl (thn (ho.run pins s σ H _ I h) fun v s1 ⟨x, H1, I1, r1, ⟨a, xs, ex, ob, eo, od⟩, q1⟩ => ?_)
  subst ex
  obtain rfl : v = Value.ref a := r1
  obtain ⟨g1, _, its, _, o2, g2, c2, _⟩ := I1.hok a _ eo
  have g3 := g1.symm.trans g2
  cases g3
  refine ⟨"tuple", id, PySem.F.plainAttrs_tuple, slot, hty, ⟨ob, g1, c2⟩, fun b e2 => by cases e2; exact ⟨ob, g1, od⟩, ?_⟩
  have hA := ha.run cpos pins s1 σ H1 _ I1 q1
  rw [hs] at hA ⊢
  refine Calls.callWith_builtin (by show (false || (backTo cpos (starEach es X.env)).any (·.1)) = false; rw [hplain] <;> rfl) (Calls.evalArgs_plain ?_)
  exact thn hA fun us s2 ⟨vs, H2, I2, r2, q2⟩ => hm pins s2 σ H2 (.ref a) vs (.ref a) us Q I2 rfl r2 q2
end
end Gd
end

section
set_option Elab.async false
set_option linter.all false
set_option maxRecDepth 100000
set_option maxHeartbeats 4000000
/-! two lists of the very texts. -/
namespace Gd
open PySem PySem.Spec PyProof.Rows L2
theorem vals_str {ss : List Str} : ∀ {us : List Value}, Vals (ss.map V.str) us → ∀ {j : Nat} {u : Value}, us[j]? = some u → ∃ s t, ss[j]? = some s ∧ u = .str s t := by
  induction ss with
  | nil =>
    intro us r j u h
    cases r
    simp at h
  | cons s ss ih =>
    intro us r j u h
    cases r with
    | cons r1 r2 =>
      cases j with
      | zero =>
        obtain ⟨t, rfl⟩ := r1
        have e := Option.some.inj h
        exact ⟨s, t, rfl, e.symm⟩
      | succ j => exact ih r2 (j := j) (by simpa using h)
section
variable {X : Cx}
def rSS (K : PySem.W.Frag) : R2 := fun x y H Q => ∃ (a b : Addr) (ss : List Str), x = .ref a ∧ y = .ref b ∧ SqL K H a (ss.map V.str) ∧ SqL K H b (ss.map V.str) ∧ Q (.bl true) H
theorem op_eqSS (hu : X.A.units < cLine) : OpR X (compareOp .Eq) (rSS X.K) := by
  intro pins s σ H x y v u Q I rx ry h
  obtain ⟨a, b, ss, rfl, rfl, ha, hb, q⟩ := h
  cases rx
  cases ry
  obtain ⟨its, r, pl, _⟩ := I.list ha
  obtain ⟨its2, r2, pl2, _⟩ := I.list hb
  have l1 : its.length = ss.length := by rw [← r.length, List.length_map]
  have l2 : its2.length = ss.length := by rw [← r2.length, List.length_map]
  refine SeqAt.RcAt.lists (e := fun _ => true) pl.isList pl2.isList (by rw [List.size_toArray, List.size_toArray, l1, l2]) hu (fun j h1 h2 => ?_) _ _ _ _ ?_
  · rw [List.size_toArray] at h1 h2
    obtain ⟨s1, t1, e1, f1⟩ := vals_str r (j := j) (List.getElem?_eq_getElem h1)
    obtain ⟨s2, t2, e2, f2⟩ := vals_str r2 (j := j) (List.getElem?_eq_getElem h2)
    have es : s1 = s2 := Option.some.inj (e1.symm.trans e2)
    subst es
    rw [List.getElem_toArray, List.getElem_toArray, f1, f2]
    have z := SeqAt.EqAt.str_str (A := X.A.in1) (s := s) s1 t1 s1 t2
    rw [beq_self_eq_true] at z
    exact z
  · have e : (List.range its.toArray.size).all (fun _ => true) = true := by simp
    rw [e]
    exact ⟨.bl true, H, I, rfl, q⟩
end
end Gd
end

section
set_option Elab.async false
set_option linter.all false
set_option maxRecDepth 100000
set_option maxHeartbeats 4000000
/-! f(k = v, ..): by names alone, keyword-only ones among them. -/
namespace Gd
open PySem PySem.Spec PyProof.Rows L2
section
variable {X : Cx} {cx : CXT} {k : Nat} {f : Addr} {fd : FuncData} {ps ks : List Str} {sp : Sp} {E : XK} {x : Str} {p pos : Pos} {kws : List Keyword} {tk : TA}
  {g : List Value → List Value → List Value} {gV : List V → List V → List V}
def tKwN (l : Nat) (sp : Sp) (gV : List V → List V → List V) (E : XK) (tk : TA) : TE := fun σ H Q => tk σ H fun zs H2 => zs.length = l ∧ sp (gV [] zs) H2 Q E
theorem pe_kwN (F : FnOk X.prog X.w X.K X.mg X.base cx k f fd ps sp) (hr : Room k X.A) (hg : Gl X x) (hm : X.mg x = some (.ref f)) (hk : PySem.W.keepIn X.K (.ref f) = true)
    (hb : KBn X.K fd ps 0 ks g gV) (hx : Passes cx X E) (hkw : PK X kws tk)
    (hall : (backToKw pos (keywordEach kws X.env)).all (·.1.isSome) = true := by rfl) (hks : (backToKw pos (keywordEach kws X.env)).filterMap (·.1) = ks := by rfl)
    (hdb : (x == ("__debug__" : Str)) = false := by decide)
    (hpl : ((backTo pos (starEach [] X.env)).any (·.1) || (backToKw pos (keywordEach kws X.env)).any (·.1.isNone)) = false := by rfl) :
    PE X (.Call (.Name x p) [] kws pos) (tKwN ks.length sp gV E tk) := by
  constructor
  intro pins s σ H Q I h
  refine wpAny_Call_Name_kw (ld_glob I hg hm ?_ hdb)
  refine PySem.W.callWith_KW0 (h₀ := X.base) I.ok.mod.kin hk hall (thn (hkw.run pos pins s σ H _ I h) ?_) hpl
  rintro ws s2 ⟨zs, H2, J, rz, l2, q⟩
  refine ⟨J.kIn, ?_⟩
  rw [hks]
  exact run_fnN (us := []) (vs := []) F hr hb hx J .nil rz rfl l2 q
end
end Gd
end

section
set_option Elab.async false
set_option linter.all false
set_option maxRecDepth 100000
set_option maxHeartbeats 4000000
/-! sorted(xs) of data of one form: tuples of texts, numbers, within tuples. -/
namespace Gd
open PySem PySem.Spec PyProof.Rows L2 PySem.W
def RD (K : PySem.W.Frag) (H : Hp) (u : Value) (d : PyData) : Prop := ∃ x, RelV x u ∧ Dp K H x d
section
variable {K : PySem.W.Frag} {H : Hp}
theorem each_of : ∀ {xs : List V} {us : List Value} {ds : List PyData}, Vals xs us → DpAll K H xs ds → EachIs (RD K H) us ds
  | _, _, _, .nil, h => by
    cases h
    exact .nil
  | _, _, _, .cons r rs, h => by
    cases h with
    | cons a b => exact .cons ⟨_, r, a⟩ (each_of rs b)
theorem of_each : ∀ {us : List Value} {ds : List PyData}, EachIs (RD K H) us ds → ∃ xs, Vals xs us ∧ DpAll K H xs ds
  | _, _, .nil => ⟨[], .nil, .nil⟩
  | _, _, .cons ⟨x, r, a⟩ h => by
    obtain ⟨xs, rs, b⟩ := of_each h
    exact ⟨x :: xs, .cons r rs, .cons a b⟩
end
/-- the order in which sorted tells -/
def told (ds : List PyData) : List PyData := ds.mergeSort (dataLe false id)
def rSortD (K : PySem.W.Frag) : List V → Hp → VK → Prop := fun xs H Q => ∃ (a : Addr) (vs : List V) (ds : List PyData), xs = [.ref a] ∧ SqL K H a vs ∧ DpAll K H vs ds ∧ AllAlike ds ∧ Sortable ds ∧ ds.length ≤ 1000 ∧ (∀ d ∈ ds, d.depth ≤ 50) ∧
  ∀ (us : List V) (p : Addr), H p = none → DpAll K H us (told ds) → Q (.ref p) (upd H p (.lst us))
theorem call_sortedD {X : Cx} (hu : X.A.units + 64 < cLine) : CallR X (.builtin "sorted") (rSortD X.K) := by
  intro pins s σ H xs us Q I r h
  obtain ⟨a, vs, ds, rfl, hs, hA, al, so, hz, hd, q⟩ := h
  obtain ⟨u, rfl, ru⟩ := r.one
  cases ru
  obtain ⟨its, rv, hl, _⟩ := I.list hs
  have e := each_of rv hA
  have er : EachIs (fun v b => ∃ as, Reads s.heap v (id b) as) its ds := e.mono fun v d ⟨x, r1, r2⟩ => Dp.reads I d x v r2 r1
  have zl : sizeLine = 16777216 := rfl
  refine sorted_data (enc := id) hl.isList e er (by rw [List.map_id]; exact al) (by rw [List.map_id]; exact so) (by omega) (fun b hb => ?_) fun out hlen eo => ?_
  · have := hd b hb
    show X.A.units + 2 + b.depth < cLine
    omega
  · obtain ⟨ws, r2, A2⟩ := of_each eo
    obtain ⟨ep, he⟩ := sortedAll_at s.heap its (List.toArray out)
    have hw : ws.length ≤ sizeLine := by
      have := r2.length
      omega
    exact ⟨.ref _, upd H (s.heap.objs.size + 1) (.lst ws), I.laid (t' := s.toks) (fun _ _ => sortedAll_old) (Nat.le_succ _) ⟨hw, out, ep, r2, he⟩, rfl, q ws _ (I.hok.fresh (Nat.le_succ _)) A2⟩
end Gd
end

section
set_option Elab.async false
set_option linter.all false
set_option maxRecDepth 100000
set_option maxHeartbeats 4000000
/-! sorted(xs) of data of one form; what holds of each and its data stays so -/
namespace Gd
open PySem PySem.Spec PyProof.Rows L2 PySem.W
def RDZ (K : PySem.W.Frag) (H : Hp) (G : V → PyData → Prop) (u : Value) (d : PyData) : Prop := ∃ x, RelV x u ∧ Dp K H x d ∧ G x d
section
variable {K : PySem.W.Frag} {H : Hp} {G : V → PyData → Prop}
theorem each_ofZ : ∀ {xs : List V} {us : List Value} {ds : List PyData}, Vals xs us → DpAll K H xs ds → EachIs G xs ds → EachIs (RDZ K H G) us ds
  | _, _, _, .nil, h, _ => by
    cases h
    exact .nil
  | _, _, _, .cons r rs, h, g => by
    cases h with
    | cons a b =>
      cases g with
      | cons g1 g2 => exact .cons ⟨_, r, a, g1⟩ (each_ofZ rs b g2)
theorem of_eachZ : ∀ {us : List Value} {ds : List PyData}, EachIs (RDZ K H G) us ds → ∃ xs, Vals xs us ∧ DpAll K H xs ds ∧ EachIs G xs ds
  | _, _, .nil => ⟨[], .nil, .nil, .nil⟩
  | _, _, .cons ⟨x, r, a, g⟩ h => by
    obtain ⟨xs, rs, b, c⟩ := of_eachZ h
    exact ⟨x :: xs, .cons r rs, .cons a b, .cons g c⟩
theorem each_snoc {α β : Type} {R : α → β → Prop} {a : α} {b : β} : ∀ {as : List α} {bs : List β}, EachIs R as bs → R a b → EachIs R (as ++ [a]) (bs ++ [b])
  | _, _, .nil, h => .cons h .nil
  | _, _, .cons x r, h => .cons x (each_snoc r h)
theorem each_at {α β : Type} {R : α → β → Prop} : ∀ {as : List α} {bs : List β} {i : Nat} {a : α}, EachIs R as bs → as[i]? = some a → ∃ b, bs[i]? = some b ∧ R a b
  | _, _, _, _, .nil, e => by simp at e
  | _, _, 0, _, .cons x _, e => by
    cases Option.some.inj e
    exact ⟨_, rfl, x⟩
  | _, _, i + 1, _, .cons _ r, e => each_at (i := i) r e
end
def rSortZ (K : PySem.W.Frag) : List V → Hp → VK → Prop := fun xs H Q => ∃ (a : Addr) (vs : List V) (ds : List PyData) (G : V → PyData → Prop), xs = [.ref a] ∧ SqL K H a vs ∧ DpAll K H vs ds ∧ EachIs G vs ds ∧ AllAlike ds ∧ Sortable ds ∧ ds.length ≤ 1000 ∧ (∀ d ∈ ds, d.depth ≤ 50) ∧
  ∀ (us : List V) (p : Addr), H p = none → DpAll K H us (told ds) → EachIs G us (told ds) → Q (.ref p) (upd H p (.lst us))
theorem call_sortedZ {X : Cx} (hu : X.A.units + 64 < cLine) : CallR X (.builtin "sorted") (rSortZ X.K) := by
  intro pins s σ H xs us Q I r h
  obtain ⟨a, vs, ds, G, rfl, hs, hA, g, al, so, hz, hd, q⟩ := h
  obtain ⟨u, rfl, ru⟩ := r.one
  cases ru
  obtain ⟨its, rv, hl, _⟩ := I.list hs
  have e := each_ofZ rv hA g
  have er : EachIs (fun v b => ∃ as, Reads s.heap v (id b) as) its ds := e.mono fun v d ⟨x, r1, r2, _⟩ => Dp.reads I d x v r2 r1
  have zl : sizeLine = 16777216 := rfl
  refine sorted_data (enc := id) hl.isList e er (by rw [List.map_id]; exact al) (by rw [List.map_id]; exact so) (by omega) (fun b hb => ?_) fun out hlen eo => ?_
  · have := hd b hb
    show X.A.units + 2 + b.depth < cLine
    omega
  · obtain ⟨ws, r2, A2, g2⟩ := of_eachZ eo
    obtain ⟨ep, he⟩ := sortedAll_at s.heap its (List.toArray out)
    have hw : ws.length ≤ sizeLine := by
      have := r2.length
      omega
    exact ⟨.ref _, upd H (s.heap.objs.size + 1) (.lst ws), I.laid (t' := s.toks) (fun _ _ => sortedAll_old) (Nat.le_succ _) ⟨hw, out, ep, r2, he⟩, rfl, q ws _ (I.hok.fresh (Nat.le_succ _)) A2 g2⟩
end Gd
end

section
set_option Elab.async false
set_option linter.all false
set_option maxRecDepth 100000
set_option maxHeartbeats 4000000
/-! sorted(xs) of tuples, some of which may be empty. -/
namespace Gd
open PySem PySem.Spec PySem.W PySem.Calls PyProof.Rows PySem.SeqAt
section
variable {prog : Program} {w : World} {A : Around} {E : Value → Shared → Prop} {s : Shared}
theorem call_tup_lt {Q : Value → Shared → Prop} {l b : Addr} {items items2 : Array Value} {e r : Nat → Bool} (hl : s.heap.IsTuple l items) (hb : s.heap.IsTuple b items2)
    (he : ∀ j (h1 : j < items.size) (h2 : j < items2.size), EqAt A.in1 s items[j] items2[j] (e j)) (hr : ∀ j (h1 : j < items.size) (h2 : j < items2.size), e j = false → RcLt A.in1 s items[j] items2[j] (r j))
    (h : Q (.bool (firstLt e r (decide (items.size < items2.size)) (List.range (min items.size items2.size)))) s) : wpAny (model prog w) A (call (.builtin "tuple.__lt__") [.ref l, .ref b]) Q E s := by
  obtain ⟨⟨cls, dd, data, sl⟩, ho, hc, n, hd⟩ := id hl
  obtain ⟨⟨cls2, dd2, data2, sl2⟩, ho2, hc2, n2, hd2⟩ := id hb
  simp only at hc hd hc2 hd2
  subst hc hd hc2 hd2
  exact call_meets F.slot_tuple_lt ⟨_, ho, rfl⟩ F.entry_tuple_lt (F.args_tuple_lt_2 _ _) (tuple_ltAt l b items items2 n n2 dd dd2 sl sl2 e r)
    ⟨ho, ho2, he, hr, h⟩
/-- two keys of which both are tuples -/
theorem oneLt_tup {xs ys : List PyData} {a b : Value} {as bs : List Addr} {Q : Bool → Shared → Prop} (ra : Reads s.heap a (.tuple xs) as) (rb : Reads s.heap b (.tuple ys) bs) (h : alike (.tuple xs) (.tuple ys) = true)
    (hu : A.units + min (PyData.tuple xs).depth (PyData.tuple ys).depth < cLine) (hq : Q (dataLt (.tuple xs) (.tuple ys)) s) : wpAny (model prog w) A (oneLt' true a b) Q E s := by
  have hal : alikeAll xs ys = true := by simpa [alike] using h
  cases ra with
  | @tuple l o vs n _ as₁ h1 h2 h3 h4 =>
    cases rb with
    | @tuple l' o' vs' n' _ bs₁ k1 k2 k3 k4 =>
      have n1 : vs.size = xs.length := by simpa using SeqAt.ReadsAll.length _ _ _ h4
      have n2 : vs'.size = ys.length := by simpa using SeqAt.ReadsAll.length _ _ _ k4
      rw [dataLt_tuple, ← firstLt_toks xs ys hal, ← n1, ← n2] at hq
      rw [oneLt'_eq]
      simp only [if_true]
      refine wpAny_bind (wpAny_cRoomFor (SeqAt.room_here hu) ?_)
      refine wpAny_bind (wpAny_callSpecialIfBound?_slot (T := "tuple") ⟨_, h1, h2⟩ F.slot_tuple_lt (call_tup_lt (e := pairEq xs ys) (r := fun j => dataLt (xs.getD j .none) (ys.getD j .none)) ⟨_, h1, h2, _, h3⟩ ⟨_, k1, k2, _, k3⟩ (fun j j1 j2 => ?_) (fun j j1 j2 hj => ?_) ?_))
      · have := eqAt_alikeAll xs ys A.in1 s vs.toList vs'.toList _ _ h4 k4 hal (SeqAt.room_in hu) j (by simpa using j1) (by simpa using j2)
        simpa using this
      · have := rcLt_alikeAll xs ys A.in1 s vs.toList vs'.toList _ _ h4 k4 hal (SeqAt.room_in hu) j (by simpa using j1) (by simpa using j2) hj
        simpa using this
      · exact wpAny_truthy_bool hq
def nonE : PyData → Bool
  | .tuple (_ :: _) => true
  | _ => false
theorem tup_firsts {M : Model} : ∀ (vs : List Value) (ds : List PyData) {Q : List (Option Value) → Shared → Prop}, EachIs (fun v d => (∃ as, Reads s.heap v d as) ∧ ∃ xs, d = .tuple xs) vs ds →
    (∀ fs : List (Option Value), fs.map (·.isSome) = ds.map nonE → Q fs s) → wpAny M A (vs.mapM firstOfTuple') Q E s
  | _, _, Q, .nil, h => by
    rw [List.mapM_nil]
    exact wpAny_pure (h [] rfl)
  | v :: vs, d :: ds, Q, .cons ⟨⟨as, r⟩, xs, ed⟩ t, h => by
    subst ed
    cases r with
    | @tuple a o ys n _ _ ho hc hd hr =>
      rw [List.mapM_cons]
      refine wpAny_bind ?_
      rw [kas_first_eq]
      refine wpAny_bind (Looks.here (show Looks M s.heap (typeOf (.ref a)) o.cls from (Looks.ld ho).andThen .now) ?_)
      rw [hc, if_neg (by first | decide | simp)]
      refine wpAny_bind (listItems_at ho hd (wpAny_pure ?_))
      refine wpAny_bind (tup_firsts vs ds (Q := fun bs s' => wpAny M A (pure (ys[0]? :: bs)) Q E s') t fun fs hf => wpAny_pure (h _ ?_))
      rw [List.map_cons, List.map_cons, hf]
      refine congrArg (· :: _) ?_
      have n1 : ys.size = xs.length := by simpa using SeqAt.ReadsAll.length _ _ _ hr
      cases xs with
      | nil =>
        have : ys[0]? = none := Array.getElem?_eq_none (by rw [n1]; exact Nat.le_refl _)
        rw [this]
        rfl
      | cons x xr =>
        have : 0 < ys.size := by rw [n1]; exact Nat.succ_pos _
        rw [Array.getElem?_eq_getElem this]
        rfl
/-- tuples can be sorted, empty ones among them -/
theorem SortsAt.tups {vs : List Value} {ds : List PyData} (e : EachIs (fun v d => ∃ as, Reads s.heap v d as) vs ds) (hal : AllAlike ds) (ht : ∀ d ∈ ds, ∃ xs, d = .tuple xs) (hu : ∀ d, d ∈ ds → A.units + d.depth < cLine) : SortsAt prog w A s (dataKind s.heap ds) vs := by
  by_cases all : ∀ d, d ∈ ds → ∃ x r, d = .tuple (x :: r)
  · exact SortsAt.data e hal (.inl all) hu
  have room : ∀ {d d' : PyData}, d ∈ ds → A.units + min d.depth d'.depth < cLine := fun {d d'} hd => Nat.lt_of_le_of_lt (Nat.add_le_add_left (Nat.min_le_left _ _) _) (hu d hd)
  have et : EachIs (fun v d => (∃ as, Reads s.heap v d as) ∧ ∃ xs, d = .tuple xs) vs ds := (each_mem e).mono fun v d ⟨r, m⟩ => ⟨r, ht d m⟩
  have some_no : ds.all nonE = false := by
    cases h : ds.all nonE with
    | false => rfl
    | true =>
      refine absurd (fun d hd => ?_) all
      have := List.all_eq_true.mp h d hd
      obtain ⟨xs, rfl⟩ := ht d hd
      cases xs with
      | nil => cases this
      | cons x r => exact ⟨x, r, rfl⟩
  refine ⟨fun v hv => ?_, ?_⟩
  · obtain ⟨d, hd, as, r⟩ := e.left v hv
    exact ⟨_, dataKind_some hal hd r⟩
  have first : ∀ (fs : List (Option Value)), fs.map (·.isSome) = ds.map nonE → (fs.toArray.all fun x => x.isSome) = false := fun fs hf => by
    have : fs.all (fun x => x.isSome) = false := by
      have e1 : fs.all (fun x => x.isSome) = (fs.map (·.isSome)).all id := by rw [List.all_map]; rfl
      have e2 : ds.all nonE = (ds.map nonE).all id := by rw [List.all_map]; rfl
      rw [e1, hf, ← e2]
      exact some_no
    simpa using this
  by_cases g : (ds.head?.map nonE) = some true
  · refine ⟨general', ?_, fun h2 E Q hq => ?_⟩
    · intro E x y a b Q ha hb hq
      obtain ⟨d, as, hd, ra, rfl⟩ := dataKind_inv ha
      obtain ⟨d', as', hd', rb, rfl⟩ := dataKind_inv hb
      show wpAny _ _ (oneLt' false x y) _ _ _
      refine oneLt_alike (fun z => nomatch z) ra rb (hal d hd d' hd') ?_ (room hd) hq
      obtain ⟨xs, rfl⟩ := ht d hd
      exact fun z => nomatch z
    · rw [keyKind'_eq, List.mapM_toArray, map_eq_pure_bind]
      refine wpAny_bind (wpAny_bind (tup_firsts vs ds et fun fs hf => wpAny_pure ?_))
      rw [if_neg (by rw [first fs hf]; exact Bool.false_ne_true)]
      have h0 : ((fs.toArray)[0]?.bind id).isSome = true := by
        cases fs with
        | nil =>
          cases ds with
          | nil => cases g
          | cons d r => cases hf
        | cons f fr =>
          cases ds with
          | nil => cases hf
          | cons d r =>
            have e1 : f.isSome = nonE d := (List.cons.inj hf).1
            have e2 : nonE d = true := Option.some.inj g
            rw [e2] at e1
            cases f with
            | none => cases e1
            | some v => rfl
      rw [if_pos h0]
      exact wpAny_pure hq
  · refine ⟨oneType', ?_, fun h2 E Q hq => ?_⟩
    · intro E x y a b Q ha hb hq
      obtain ⟨d, as, hd, ra, rfl⟩ := dataKind_inv ha
      obtain ⟨d', as', hd', rb, rfl⟩ := dataKind_inv hb
      rw [keyLt'_oneType]
      have hl := hal d hd d' hd'
      have hr := room (d' := d') hd
      obtain ⟨xs, rfl⟩ := ht d hd
      obtain ⟨ys, rfl⟩ := ht d' hd'
      exact oneLt_tup ra rb hl hr hq
    · obtain ⟨v₁, rest, rfl⟩ : ∃ v₁ rest, vs = v₁ :: rest := by
        cases vs with
        | nil => simp at h2
        | cons v r => exact ⟨v, r, rfl⟩
      rw [keyKind'_eq, List.mapM_toArray, map_eq_pure_bind]
      refine wpAny_bind (wpAny_bind (tup_firsts _ ds et fun fs hf => wpAny_pure ?_))
      rw [if_neg (by rw [first fs hf]; exact Bool.false_ne_true)]
      have h0 : ¬ ((fs.toArray)[0]?.bind id).isSome = true := by
        cases fs with
        | nil => exact fun z => by cases z
        | cons f fr =>
          cases ds with
          | nil => cases hf
          | cons d r =>
            have e1 : f.isSome = nonE d := (List.cons.inj hf).1
            have e2 : nonE d = false := by
              cases hn : nonE d with
              | false => rfl
              | true => exact absurd (congrArg some hn) g
            rw [e2] at e1
            cases f with
            | none => exact fun z => by cases z
            | some v => cases e1
      rw [if_neg h0]
      rw [oneTypeOnly'_eq, List.mapM_toArray, map_eq_pure_bind]
      refine wpAny_bind (wpAny_bind (wpAny_bind (kas_mapM (r := Value.type "tuple") _ (fun v hv Q' hq => ?_) (wpAny_pure ?_))))
      · obtain ⟨d, hd, as, r⟩ := e.left v hv
        obtain ⟨xs, rfl⟩ := ht d hd
        exact (looks_reads r).here hq
      · have hall : ((List.map (fun _ => Value.type "tuple") (v₁ :: rest)).toArray.all fun x => x == Value.type "tuple") = true := by
          simp only [List.all_toArray, List.all_map, List.all_eq_true]
          intro _ _
          rfl
        have h0 : (List.map (fun _ => Value.type "tuple") (v₁ :: rest)).toArray[0]? = some (Value.type "tuple") := by simp
        rw [h0]
        simp only [hall, if_true]
        exact wpAny_pure (wpAny_pure hq)
end
section
open L2
def rSortW (K : PySem.W.Frag) : List V → Hp → VK → Prop := fun xs H Q => ∃ (a : Addr) (vs : List V) (ds : List PyData) (G : V → PyData → Prop), xs = [.ref a] ∧ SqL K H a vs ∧ DpAll K H vs ds ∧ EachIs G vs ds ∧ AllAlike ds ∧ (∀ d ∈ ds, ∃ xs, d = .tuple xs) ∧ ds.length ≤ 1000 ∧ (∀ d ∈ ds, d.depth ≤ 50) ∧
  ∀ (us : List V) (p : Addr), H p = none → DpAll K H us (told ds) → EachIs G us (told ds) → Q (.ref p) (upd H p (.lst us))
theorem call_sortedW {X : Cx} (hu : X.A.units + 64 < cLine) : CallR X (.builtin "sorted") (rSortW X.K) := by
  intro pins s σ H xs us Q I r h
  obtain ⟨a, vs, ds, G, rfl, hs, hA, g, al, ht, hz, hd, q⟩ := h
  obtain ⟨u, rfl, ru⟩ := r.one
  cases ru
  obtain ⟨its, rv, hl, _⟩ := I.list hs
  have e := each_ofZ rv hA g
  have er : EachIs (fun v b => ∃ as, Reads s.heap v (id b) as) its ds := e.mono fun v d ⟨x, r1, r2, _⟩ => Dp.reads I d x v r2 r1
  have zl : sizeLine = 16777216 := rfl
  have er' : EachIs (fun v b => ∃ as, Reads (sortingHeap (copyHeap s.heap its) (s.heap.objs.size + 1) its) v (id b) as) its ds := er.mono fun _ _ ⟨as, r⟩ => ⟨as, PyProof.Rows.Reads.keeps (fun _ _ => sorting_copy_old) r⟩
  have er2 : EachIs (fun v b => ∃ as, Reads (sortingHeap (copyHeap s.heap its) (s.heap.objs.size + 1) its) v b as) its ds := er'
  have hU : ∀ d, d ∈ ds → X.A.in1.in1.units + d.depth < cLine := fun d m => by
    have := hd d m
    show X.A.units + 2 + d.depth < cLine
    omega
  refine sorted_vals hl.isList (SortsAt.tups (s := { s with heap := sortingHeap (copyHeap s.heap its) (s.heap.objs.size + 1) its }) er2 al ht hU) (by rw [e.length]; omega) ?_
  have eo := sortVals_data (enc := id) false e er' (by rw [List.map_id]; exact al)
  rw [List.map_id] at eo
  have hlen : (sortVals (dataKind (sortingHeap (copyHeap s.heap its) (s.heap.objs.size + 1) its) ds) false its its).length = ds.length := by
    rw [sortVals_length false rfl]
    exact e.length
  generalize sortVals (dataKind (sortingHeap (copyHeap s.heap its) (s.heap.objs.size + 1) its) ds) false its its = out at eo hlen ⊢
  obtain ⟨ws, r2, A2, g2⟩ := of_eachZ eo
  obtain ⟨ep, he⟩ := sortedAll_at s.heap its (List.toArray out)
  have hw : ws.length ≤ sizeLine := by
    have := r2.length
    omega
  exact ⟨.ref _, upd H (s.heap.objs.size + 1) (.lst ws), I.laid (t' := s.toks) (fun _ _ => sortedAll_old) (Nat.le_succ _) ⟨hw, out, ep, r2, he⟩, rfl, q ws _ (I.hok.fresh (Nat.le_succ _)) A2 g2⟩
end
end Gd
end

section
set_option Elab.async false
set_option linter.all false
set_option maxRecDepth 100000
set_option maxHeartbeats 4000000
/-! sorted(xs) of tuples, of more of them. -/
namespace Gd
open PySem PySem.Spec PySem.W PySem.Calls PyProof.Rows PySem.SeqAt
section
open L2
def rSortV (K : PySem.W.Frag) : List V → Hp → VK → Prop := fun xs H Q => ∃ (a : Addr) (vs : List V) (ds : List PyData) (G : V → PyData → Prop), xs = [.ref a] ∧ SqL K H a vs ∧ DpAll K H vs ds ∧ EachIs G vs ds ∧ AllAlike ds ∧ (∀ d ∈ ds, ∃ xs, d = .tuple xs) ∧ ds.length ≤ 4000 ∧ (∀ d ∈ ds, d.depth ≤ 50) ∧
  ∀ (us : List V) (p : Addr), H p = none → DpAll K H us (told ds) → EachIs G us (told ds) → Q (.ref p) (upd H p (.lst us))
theorem call_sortedV {X : Cx} (hu : X.A.units + 64 < cLine) : CallR X (.builtin "sorted") (rSortV X.K) := by
  intro pins s σ H xs us Q I r h
  obtain ⟨a, vs, ds, G, rfl, hs, hA, g, al, ht, hz, hd, q⟩ := h
  obtain ⟨u, rfl, ru⟩ := r.one
  cases ru
  obtain ⟨its, rv, hl, _⟩ := I.list hs
  have e := each_ofZ rv hA g
  have er : EachIs (fun v b => ∃ as, Reads s.heap v (id b) as) its ds := e.mono fun v d ⟨x, r1, r2, _⟩ => Dp.reads I d x v r2 r1
  have zl : sizeLine = 16777216 := rfl
  have er' : EachIs (fun v b => ∃ as, Reads (sortingHeap (copyHeap s.heap its) (s.heap.objs.size + 1) its) v (id b) as) its ds := er.mono fun _ _ ⟨as, r⟩ => ⟨as, PyProof.Rows.Reads.keeps (fun _ _ => sorting_copy_old) r⟩
  have er2 : EachIs (fun v b => ∃ as, Reads (sortingHeap (copyHeap s.heap its) (s.heap.objs.size + 1) its) v b as) its ds := er'
  have hU : ∀ d, d ∈ ds → X.A.in1.in1.units + d.depth < cLine := fun d m => by
    have := hd d m
    show X.A.units + 2 + d.depth < cLine
    omega
  refine sorted_vals hl.isList (SortsAt.tups (s := { s with heap := sortingHeap (copyHeap s.heap its) (s.heap.objs.size + 1) its }) er2 al ht hU) (by rw [e.length]; omega) ?_
  have eo := sortVals_data (enc := id) false e er' (by rw [List.map_id]; exact al)
  rw [List.map_id] at eo
  have hlen : (sortVals (dataKind (sortingHeap (copyHeap s.heap its) (s.heap.objs.size + 1) its) ds) false its its).length = ds.length := by
    rw [sortVals_length false rfl]
    exact e.length
  generalize sortVals (dataKind (sortingHeap (copyHeap s.heap its) (s.heap.objs.size + 1) its) ds) false its its = out at eo hlen ⊢
  obtain ⟨ws, r2, A2, g2⟩ := of_eachZ eo
  obtain ⟨ep, he⟩ := sortedAll_at s.heap its (List.toArray out)
  have hw : ws.length ≤ sizeLine := by
    have := r2.length
    omega
  exact ⟨.ref _, upd H (s.heap.objs.size + 1) (.lst ws), I.laid (t' := s.toks) (fun _ _ => sortedAll_old) (Nat.le_succ _) ⟨hw, out, ep, r2, he⟩, rfl, q ws _ (I.hok.fresh (Nat.le_succ _)) A2 g2⟩
end
end Gd
end

section
set_option Elab.async false
set_option linter.all false
set_option maxRecDepth 100000
set_option maxHeartbeats 4000000
/-! repr and sorted within a comprehension. -/
namespace Gd
open PySem PySem.Spec PyProof.Rows L2
section
variable {X : Cx}
theorem call_reprK (K : PySem.W.Frag) (g : Free X.A) (hu : X.A.units + 64 < cLine) (hK : X.K = K := by rfl) : CallR X (.builtin "repr") (rRepr K) := by
  subst hK
  exact call_repr g hu
theorem call_sortedVK (K : PySem.W.Frag) (hu : X.A.units + 64 < cLine) (hK : X.K = K := by rfl) : CallR X (.builtin "sorted") (rSortV K) := by
  subst hK
  exact call_sortedV hu
end
end Gd
end

section
set_option Elab.async false
set_option linter.all false
set_option maxRecDepth 100000
set_option maxHeartbeats 4000000
/-! Sorted lists of the same things are the same. -/
namespace Gd
open PySem PySem.Spec PyProof.Rows L2 PySem.W
theorem perm_sorted {α : Type} {r : α → α → Prop} : ∀ {l u : List α}, l.Perm u → l.Pairwise r → u.Pairwise r → (∀ a ∈ l, ∀ b ∈ l, r a b → r b a → a = b) → l = u
  | [], u, p, _, _, _ => (List.nil_perm.mp p).symm
  | a :: l, [], p, _, _, _ => absurd p.length_eq (by simp)
  | a :: l, b :: u, p, h1, h2, an => by
    have ha : a ∈ b :: u := p.subset (by simp)
    have hb : b ∈ a :: l := p.symm.subset (by simp)
    rw [List.pairwise_cons] at h1 h2
    have e : a = b := by
      rcases List.mem_cons.mp ha with e | ha
      · exact e
      · rcases List.mem_cons.mp hb with e | hb'
        · exact e.symm
        · exact an a (by simp) b hb (h1.1 b hb') (h2.1 a ha)
    subst e
    rw [perm_sorted (List.Perm.cons_inv p) h1.2 h2.2 fun x hx y hy => an x (by simp [hx]) y (by simp [hy])]
theorem le_trans (a b c : PyData) (h1 : dataLe false id a b = true) (h2 : dataLe false id b c = true) : dataLe false id a c = true := by
  have g : ∀ x y : PyData, dataLe false id x y = !dataLt y x := fun _ _ => rfl
  rw [g] at h1 h2 ⊢
  cases h : dataLt c a with
  | false => rfl
  | true =>
    rcases lex_negTrans (O := itemOrd) (keyToks c) (keyToks b) (keyToks a) h with q | q
    · have : dataLt c b = true := q
      rw [this] at h2
      cases h2
    · have : dataLt b a = true := q
      rw [this] at h1
      cases h1
theorem le_total (a b : PyData) : (dataLe false id a b || dataLe false id b a) = true := by
  have g : ∀ x y : PyData, dataLe false id x y = !dataLt y x := fun _ _ => rfl
  rw [g, g]
  cases h : dataLt b a with
  | false => rfl
  | true =>
    cases h2 : dataLt a b with
    | false => rfl
    | true =>
      have := lex_trans (O := itemOrd) (keyToks a) (keyToks b) (keyToks a) h2 h
      rw [lex_irrefl] at this
      cases this
theorem told_sorted (ds : List PyData) : (told ds).Pairwise fun a b => dataLe false id a b = true := List.pairwise_mergeSort le_trans le_total ds
theorem told_perm (ds : List PyData) : (told ds).Perm ds := List.mergeSort_perm ds _
/-- sorted of the same things in another order -/
theorem told_same {ds es : List PyData} (p : ds.Perm es) (an : ∀ a ∈ ds, ∀ b ∈ ds, dataLe false id a b = true → dataLe false id b a = true → a = b) : told ds = told es := by
  refine perm_sorted ((told_perm ds).trans (p.trans (told_perm es).symm)) (told_sorted ds) (told_sorted es) fun a ha b hb => ?_
  exact an a ((told_perm ds).mem_iff.mp ha) b ((told_perm ds).mem_iff.mp hb)
end Gd
end

section
set_option Elab.async false
set_option linter.all false
set_option maxRecDepth 100000
set_option maxHeartbeats 4000000
/-! Data of one form are told apart by their order. -/
namespace Gd
open PySem PySem.Spec PySem.W PyProof.Rows
mutual
theorem toks_inj : ∀ (x y : PyData), alike x y = true → ∀ l m : List (Int ⊕ List Nat), keyToks x ++ l = keyToks y ++ m → x = y ∧ l = m
  | .none, y, h, l, m, e => by
    cases y with
    | none => exact ⟨rfl, by simpa [keyToks] using e⟩
    | _ => exact absurd h (by simp [alike])
  | .bool b, y, h, l, m, e => by
    cases y with
    | bool c =>
      simp only [keyToks, List.cons_append, List.nil_append, List.cons.injEq, Sum.inl.injEq] at e
      refine ⟨?_, e.2⟩
      cases b <;> cases c <;> first | rfl | exact absurd e.1 (by decide)
    | _ => exact absurd h (by simp [alike])
  | .int b, y, h, l, m, e => by
    cases y with
    | int c =>
      simp only [keyToks, List.cons_append, List.nil_append, List.cons.injEq, Sum.inl.injEq] at e
      exact ⟨by rw [e.1], e.2⟩
    | _ => exact absurd h (by simp [alike])
  | .str b, y, h, l, m, e => by
    cases y with
    | str c =>
      simp only [keyToks, List.cons_append, List.nil_append, List.cons.injEq, Sum.inr.injEq] at e
      exact ⟨by rw [str_of_cps e.1], e.2⟩
    | _ => exact absurd h (by simp [alike])
  | .list xs, y, h, l, m, e => by
    cases y with
    | list ys =>
      simp only [keyToks] at e
      obtain ⟨a, b⟩ := toksAll_inj xs ys (by simpa [alike] using h) l m e
      exact ⟨by rw [a], b⟩
    | _ => exact absurd h (by simp [alike])
  | .tuple xs, y, h, l, m, e => by
    cases y with
    | tuple ys =>
      simp only [keyToks] at e
      obtain ⟨a, b⟩ := toksAll_inj xs ys (by simpa [alike] using h) l m e
      exact ⟨by rw [a], b⟩
    | _ => exact absurd h (by simp [alike])
  | .dict _, y, h, _, _, _ => absurd h (by cases y <;> simp [alike])
theorem toksAll_inj : ∀ (xs ys : List PyData), alikeAll xs ys = true → ∀ l m : List (Int ⊕ List Nat), keyToksAll xs ++ l = keyToksAll ys ++ m → xs = ys ∧ l = m
  | [], [], _, l, m, e => ⟨rfl, by simpa [keyToksAll] using e⟩
  | [], y :: ys, _, l, m, e => by
    simp only [keyToksAll, List.cons_append, List.nil_append, List.cons.injEq, Sum.inl.injEq] at e
    exact absurd e.1 (by decide)
  | x :: xs, [], _, l, m, e => by
    simp only [keyToksAll, List.cons_append, List.nil_append, List.cons.injEq, Sum.inl.injEq] at e
    exact absurd e.1 (by decide)
  | x :: xs, y :: ys, h, l, m, e => by
    obtain ⟨h1, h2⟩ := alike_all_cons h
    simp only [keyToksAll, List.cons_append, List.append_assoc, List.cons.injEq, true_and] at e
    obtain ⟨a, b⟩ := toks_inj x y h1 _ _ e
    obtain ⟨c, d⟩ := toksAll_inj xs ys h2 l m b
    exact ⟨by rw [a, c], d⟩
end
theorem alike_anti {a b : PyData} (h : alike a b = true) (h1 : dataLe false id a b = true) (h2 : dataLe false id b a = true) : a = b := by
  have g : ∀ x y : PyData, dataLe false id x y = !dataLt y x := fun _ _ => rfl
  rw [g] at h1 h2
  have e1 : dataLt b a = false := by simpa using h1
  have e2 : dataLt a b = false := by simpa using h2
  have := lex_total (O := itemOrd) (keyToks a) (keyToks b) e2 e1
  exact (toks_inj a b h [] [] (by rw [this])).1
/-- sorted of the same things, all alike, in another order -/
theorem told_alike {ds es : List PyData} (p : ds.Perm es) (al : AllAlike ds) : told ds = told es :=
  told_same p fun a ha b hb => alike_anti (al a ha b hb)
end Gd
end

section
set_option Elab.async false
set_option linter.all false
set_option maxRecDepth 100000
set_option maxHeartbeats 4000000
/-! d.items() as a value; sorted(d.items()) of a dict of texts to numbers. -/
namespace Gd
open PySem PySem.Spec PyProof.Rows L2 PySem.W PySem.Calls
theorem each_ix {α β : Type} {R : α → β → Prop} : ∀ {as : List α} {bs : List β}, as.length = bs.length → (∀ (j : Nat) a b, as[j]? = some a → bs[j]? = some b → R a b) → EachIs R as bs
  | [], [], _, _ => .nil
  | [], _ :: _, h, _ => by cases h
  | _ :: _, [], h, _ => by cases h
  | a :: as, b :: bs, h, f => .cons (f 0 a b rfl rfl) (each_ix (Nat.succ.inj h) fun j x y h1 h2 => f (j + 1) x y (by simpa using h1) (by simpa using h2))
section
variable {X : Cx}
/-- e.items(), as a value -/
def rItemsV : V → List V → Hp → VK → Prop := fun x xs H Q => ∃ (a : Addr) (kvs : List (Key × V)), x = .ref a ∧ xs = [] ∧ H a = some (.dK kvs) ∧ ∀ p, H p = none → Q (.ref p) (upd H p (DX.itemsO p a))
theorem mt_itemsV : MtR X "dict.items" rItemsV := by
  intro pins s σ H x xs v us Q I rx rxs h
  obtain ⟨a, kvs, rfl, rfl, ha, q⟩ := h
  cases rx
  cases rxs
  obtain ⟨hz, hs0, vs, kv, hdo⟩ := I.hok a _ ha
  refine call_meetsIn PySem.F.slot_dict_items hdo.typeIs PySem.F.entry_dict_items (PySem.F.args_dict_items_1 _) (meets_dict_items (mixKind X.prog X.w) a hs0) ⟨⟨vs, hdo⟩, ?_⟩
  have hf : H s.heap.objs.size = none := I.hok.fresh (Nat.le_refl _)
  exact ⟨.ref s.heap.objs.size, upd H s.heap.objs.size (DX.itemsO s.heap.objs.size a), I.laid (t' := s.toks) (fun b u e => Heap.get?_push_of_some _ e) (Nat.le_refl _) (DX.itemsO_ok (Heap.get?_push_size _ rfl)), rfl, q _ hf⟩
def pairI (p : Str × Int) : PyData := .tuple [.str p.1, .int p.2]
def pairK (p : Str × Int) : Key × V := (.inr p.1, .int p.2)
def rSortIt1 (K : PySem.W.Frag) : List V → Hp → VK → Prop := fun xs H Q => ∃ (p a : Addr) (l : List (Str × Int)), xs = [.ref p] ∧ H p = some (DX.itemsO p a) ∧ H a = some (.dK (l.map pairK)) ∧ 0 < l.length ∧ l.length ≤ 1000 ∧
  ∀ H' us q, Same H H' → H q = none → H' q = some (.lst us) → DpAll K H' us (told (l.map pairI)) → Q (.ref q) H'
theorem each_pairs {as : List Addr} {l : List (Str × Int)} : ∀ {out : List Value} {ds : List PyData}, EachIs (fun v d => ∃ (j : Nat) (b : Addr) (e : Str × Int), v = .ref b ∧ as[j]? = some b ∧ l[j]? = some e ∧ d = pairI e) out ds →
    ∃ zs : List (Addr × (Str × Int)), out = zs.map (fun z => .ref z.1) ∧ ds = zs.map (fun z => pairI z.2) ∧ ∀ z ∈ zs, ∃ j : Nat, as[j]? = some z.1 ∧ l[j]? = some z.2
  | _, _, .nil => ⟨[], rfl, rfl, fun _ h => nomatch h⟩
  | _, _, .cons ⟨j, b, e, h1, h2, h3, h4⟩ t => by
    obtain ⟨zs, e1, e2, e3⟩ := each_pairs t
    refine ⟨(b, e) :: zs, by rw [h1, e1]; rfl, by rw [h4, e2]; rfl, fun z hz => ?_⟩
    rcases List.mem_cons.mp hz with rfl | hz
    · exact ⟨j, h2, h3⟩
    · exact e3 z hz
theorem dp_pairs {K : PySem.W.Frag} {H : Hp} : ∀ {zs : List (Addr × (Str × Int))}, (∀ z ∈ zs, H z.1 = some (.tup [.str z.2.1, .int z.2.2])) → DpAll K H (zs.map fun z => V.ref z.1) (zs.map fun z => pairI z.2)
  | [], _ => .nil
  | z :: zs, h => .cons (.tup (SqT.of (h z (List.mem_cons_self ..))) (.cons (.str _) (.cons (.int _) .nil))) (dp_pairs fun y hy => h y (List.mem_cons_of_mem _ hy))
theorem cr_sortedIt (hc : X.calm = true) (hu : X.A.units + 64 < cLine) : CallR X (.builtin "sorted") (rSortIt1 X.K) := by
  intro pins s σ H xs us Q I r h
  obtain ⟨p, a, l, rfl, hp, ha, hl0, hl, q⟩ := h
  obtain rfl := Vals.ref1 r
  have view : s.heap.IsItemsView p a := (show ObjOk X.prog X.w H s.heap p (DX.itemsO p a) from I.hok p _ hp).1
  obtain ⟨hz, hs0, vs, kv, hdo⟩ := I.hok a _ ha
  obtain ⟨ep, hat⟩ := hdo.dictAt
  have lk : (l.map pairK).length = vs.length := Paired.length kv
  rw [List.length_map] at lk
  have hh : X.A.handled = none := I.ok.hd hc
  refine call_function_entry kind_sorted plain_sorted entry_sorted (args_sorted1 _) ?_
  unfold Builtin.«sorted»
  refine wpAny_bind (m := checkCount "sorted" 1 1 _) (wpAny_pure ?_)
  refine wpAny_bind (kdx_collect (A := X.A.in1) (knd := mixKind X.prog X.w) (kvs := vs) (ep := ep) hh view hat (by rw [sizeLine_eq]; omega) fun h' tk as hk hla hG => ?_)
  refine wpAny_bind (wpAny_newList ?_ (by rw [List.length_map, sizeLine_eq]; omega))
  have lal : as.length = l.length := by omega
  have nd : as.Nodup := List.Pairwise.imp (fun {a b} (h : a < b) => Nat.ne_of_lt h) hG.rise
  have pr : ∀ (j : Nat) (b : Addr) (e : Str × Int), as[j]? = some b → l[j]? = some e → ∃ t1 t2, h'.get? b = some { cls := .type "tuple", data := .seq #[.str e.1 t1, .int e.2 t2] } := by
    intro j b e hj he
    obtain ⟨key, k, x, f1, f2, f3⟩ := hG.pairs j b hj
    have e2 : (l.map pairK)[j]? = some (pairK e) := by rw [List.getElem?_map, he]; rfl
    obtain ⟨qv, g1, g2, g3⟩ := LiI.paired_get kv e2
    rw [f1] at g1
    cases g1
    have rk : RelV (kV (pairK e).1) key := by
      rw [g2]
      exact relV_key (show keyIs k key = true from f2)
    obtain ⟨t1, rfl⟩ : ∃ t, key = .str e.1 t := rk
    obtain ⟨t2, rfl⟩ : ∃ t, x = .int e.2 t := g3
    exact ⟨t1, t2, f3⟩
  have ho : (h'.push { cls := .type "list", data := .seq (as.map Value.ref).toArray }).get? h'.objs.size = some (seqObj "list" (as.map Value.ref).toArray 0) := Heap.get?_push_size _ rfl
  have ka : ∀ b o, h'.get? b = some o → (h'.push { cls := .type "list", data := .seq (as.map Value.ref).toArray }).get? b = some o := fun b o e => Heap.get?_push_of_some _ e
  have ne0 : ∀ b o, h'.get? b = some o → b ≠ h'.objs.size := fun b o e => Nat.ne_of_lt (Heap.lt_size e)
  have hlt : s.heap.objs.size ≤ h'.objs.size := by
    have z : 0 < as.length := by omega
    have h0 := List.getElem_mem z
    have z1 := hG.above _ h0
    have z2 := hG.there h0
    exact Nat.le_of_lt (Nat.lt_trans z1 z2)
  generalize h'.push { cls := .type "list", data := .seq (as.map Value.ref).toArray } = h2 at ho ka ⊢
  have er0 : EachIs (fun v d => ∃ (j : Nat) (b : Addr) (e : Str × Int), v = .ref b ∧ as[j]? = some b ∧ l[j]? = some e ∧ d = pairI e) (as.map Value.ref) (l.map pairI) := by
    refine each_ix (by rw [List.length_map, List.length_map, lal]) fun j v d h1 h2 => ?_
    rw [List.getElem?_map, Option.map_eq_some_iff] at h1 h2
    obtain ⟨b, hb, rfl⟩ := h1
    obtain ⟨e, he, rfl⟩ := h2
    exact ⟨j, b, e, rfl, hb, he, rfl⟩
  have al : AllAlike ((l.map pairI).map id) := by
    rw [List.map_id]
    exact AllAlike.of fun b b' => by simp [pairI, alike, alikeAll]
  have so : Sortable ((l.map pairI).map id) := by
    rw [List.map_id]
    exact Sortable.tuples fun b => ⟨_, _, rfl⟩
  have hg : wpAny (model X.prog X.w) X.A.in1 (call (.builtin "list.sort") [.ref h'.objs.size]) (fun _ s' => EP X pins σ Q (.ref h'.objs.size) s') X.xe { s with heap := h2, toks := tk } := by
    have er : EachIs (fun v d => ∃ as, Reads h2 v (id d) as ∧ h'.objs.size ∉ as) (as.map Value.ref) (l.map pairI) := by
      refine er0.mono ?_
      rintro v d ⟨j, b, e, h1, h3, h4, h5⟩
      obtain ⟨t1, t2, g⟩ := pr j b e h3 h4
      refine ⟨[], ?_, fun z => nomatch z⟩
      rw [h1, h5]
      exact .tuple (ka _ _ g) rfl rfl (.cons (.str _ _) (.cons (.int _ _) .nil))
    have hdep : ∀ d ∈ l.map pairI, X.A.in1.units + 1 + (id d).depth < cLine := by
      intro d hd
      obtain ⟨e, _, rfl⟩ := List.mem_map.mp hd
      have : (pairI e).depth ≤ 1 := by simp [pairI, PyData.depth, PyData.depthAll]
      show X.A.units + 1 + 1 + (pairI e).depth < cLine
      omega
    refine list_sort_data (s := { s with heap := h2, toks := tk }) (enc := id) ho er0 er al so (by rw [List.length_map, sizeLine_eq]; omega) hdep fun out hlen eo => ?_
    · obtain ⟨zs, ez, ed, az⟩ := each_pairs eo
      have kF : ∀ b o, b ≠ h'.objs.size → h2.get? b = some o → (sortedHeap h2 h'.objs.size (as.map Value.ref) (List.toArray out)).get? b = some o := fun b o hb e => (sortedHeap_old hb (Heap.lt_size e)).trans e
      have kS : ∀ b o, s.heap.get? b = some o → (sortedHeap h2 h'.objs.size (as.map Value.ref) (List.toArray out)).get? b = some o := fun b o e => kF b o (ne0 _ _ (hk b o e)) (ka b o (hk b o e))
      obtain ⟨eF, heF⟩ := sortedHeap_at (vs := as.map Value.ref) (out := List.toArray out) ho
      have I1 : Inv X pins σ H { s with heap := sortedHeap h2 h'.objs.size (as.map Value.ref) (List.toArray out), toks := tk } := I.kept (t' := tk) kS
      have hn0 : H h'.objs.size = none := I.hok.fresh hlt
      have lz : zs.length = l.length := by
        have z := hlen
        rw [ez, List.length_map, List.length_map] at z
        exact z
      have I2 : Inv X pins σ (upd H h'.objs.size (.lst (zs.map fun z => V.ref z.1))) { s with heap := sortedHeap h2 h'.objs.size (as.map Value.ref) (List.toArray out), toks := tk } :=
        I1.take (t' := tk) (fun b ob _ e => e) (I.fpOk hlt hn0) ⟨by rw [List.length_map, sizeLine_eq]; omega, out, eF, by rw [ez]; exact vals_maps (fun z : Addr × (Str × Int) => V.ref z.1) (fun z => Value.ref z.1) zs fun _ _ => rfl, heF⟩
      obtain ⟨H2, I3, g, qt⟩ := DX.takeT (P := fun b vs => ∃ (j : Nat) (e : Str × Int), as[j]? = some b ∧ l[j]? = some e ∧ vs = [.str e.1, .int e.2]) I as _ I2 nd fun b hb => by
        obtain ⟨j, hj⟩ := List.mem_iff_getElem?.mp hb
        obtain ⟨e, he⟩ : ∃ e, l[j]? = some e := by
          have : j < l.length := by rw [← lal]; exact (List.getElem?_eq_some_iff.mp hj).1
          exact ⟨_, List.getElem?_eq_getElem this⟩
        obtain ⟨t1, t2, hg⟩ := pr j b e hj he
        have hbl : s.heap.objs.size ≤ b := Nat.le_of_lt (hG.above b hb)
        refine ⟨hbl, ?_, [.str e.1, .int e.2], ⟨j, e, hj, he, rfl⟩, fun H3 => ⟨(by rw [sizeLine_eq]; show 2 ≤ 16777216; omega), [.str e.1 t1, .int e.2 t2], .cons ⟨_, rfl⟩ (.cons ⟨_, rfl⟩ .nil), ⟨_, kF _ _ (ne0 _ _ hg) (ka _ _ hg), rfl, 0, rfl⟩⟩⟩
        rw [upd_ne (ne0 _ _ hg)]
        exact I.hok.fresh hbl
      refine ⟨.ref h'.objs.size, H2, I3, rfl, q H2 (zs.map fun z => V.ref z.1) _ (fun b o e => g b o (by rw [upd_ne (ne_of_none e hn0)]; exact e)) hn0 (g _ _ upd_same) ?_⟩
      have ed' : told (l.map pairI) = zs.map fun z => pairI z.2 := ed
      rw [ed']
      refine dp_pairs fun z hz => ?_
      obtain ⟨i, i1, i2⟩ := az z hz
      obtain ⟨vs', ⟨j, e, j1, j2, ev⟩, hH⟩ := qt z.1 (List.mem_of_getElem? i1)
      have eij : i = j := (List.getElem?_inj (List.getElem?_eq_some_iff.mp i1).1 nd).mp (i1.trans j1.symm)
      subst eij
      have ee : e = z.2 := Option.some.inj (j2.symm.trans i2)
      rw [ev, ee] at hH
      exact hH
  refine wpAny_bind (wpAny_holding (wpAny_mono hg (fun _ s' x => ?_) fun _ _ e => e))
  exact wpAny_pure ⟨_, rfl, x⟩
end
end Gd
end

section
set_option Elab.async false
set_option linter.all false
set_option maxRecDepth 100000
set_option maxHeartbeats 4000000
/-! zip(t, l): a tuple beside a list. -/
namespace Gd
open PySem PySem.Spec PyProof.Rows L2

/-- the tuple at a, the list at b, as they stand at each turn -/
def ItTL (K : PySem.W.Frag) (a b : Addr) : It where
  go i H := ∃ (xs ys : List V) (x y : V), SqT K H a xs ∧ SqL K H b ys ∧ xs[i]? = some x ∧ ys[i]? = some y
  yld i H v H' := ∃ T x y, v = .ref T ∧ H T = none ∧ H' = upd H T (.tup [x, y]) ∧ (∀ xs, SqT K H a xs → xs[i]? = some x) ∧ ∀ ys, SqL K H b ys → ys[i]? = some y
  stop i H := ∃ xs ys : List V, SqT K H a xs ∧ SqL K H b ys ∧ ys.length = i ∧ xs.length = i

theorem apN {a b : Nat} (h : ¬ a = b) : (a : Addr) ≠ (b : Addr) := h
theorem apL {x a b : Nat} (h1 : ¬ x = a) (h2 : ¬ x = b) : (x : Addr) ∉ ([a, b] : List Addr) := by
  intro h
  rcases List.mem_cons.mp h with h | h
  · exact h1 h
  · rcases List.mem_cons.mp h with h | h
    · exact h2 h
    · cases h
/-- the five cells of such a zip, the first at n -/
def five (n : Nat) : List Addr := [n + 4, n + 2, n + 3, n, n + 1]
theorem mem5 {n c : Nat} (h : c ∈ five n) : n ≤ c ∧ c < n + 5 := by
  simp only [five, List.mem_cons, List.not_mem_nil, or_false] at h
  omega
theorem in5 {n c : Nat} (h : n ≤ c) (h' : c < n + 5) : c ∈ five n := by
  simp only [five, List.mem_cons, List.not_mem_nil, or_false]
  omega
theorem sep5 {n a b : Nat} (ha : a < n) (hb : b < n) : ZipSep2 (n + 4) (n + 2) (n + 3) n (n + 1) [n, a] [n + 1, b] := by
  constructor
  · exact apN (by omega)
  · exact apN (by omega)
  · exact apN (by omega)
  · exact apN (by omega)
  · simp
  · exact apL (by omega) (by omega)
  · exact apL (by omega) (by omega)
  · exact apN (by omega)
  · simp
  · exact apL (by omega) (by omega)
  · exact apL (by omega) (by omega)
  · exact apL (by omega) (by omega)
  · exact apL (by omega) (by omega)
def St5 (n a b : Nat) (i : Nat) (h : Heap) : Prop :=
  IsZip h (n + 4) (n + 2) (n + 3) .none ∧ IsTupOf2 h (n + 2) (.ref n) (.ref (n + 1)) ∧ (∃ x y, IsTupOf2 h (n + 3) x y) ∧
    h.IsTupleIter n a i ∧ h.IsListIter (n + 1) b i ∧ a < n ∧ b < n ∧ n + 5 ≤ h.objs.size
theorem st5_obj {n a b i : Nat} {h : Heap} (st : St5 n a b i h) {c : Addr} (hc : c ∈ five n) : ∃ o, h.get? c = some o ∧ ∀ v, o.data ≠ .cell v := by
  obtain ⟨hz, hi, ⟨x, y, ho⟩, ⟨o1, e1, _, d1⟩, ⟨o2, e2, _, d2⟩, _⟩ := st
  simp only [five, List.mem_cons, List.not_mem_nil, or_false] at hc
  rcases hc with rfl | rfl | rfl | rfl | rfl
  · exact ⟨_, hz, fun v z => nomatch z⟩
  · exact ⟨_, hi, fun v z => nomatch z⟩
  · exact ⟨_, ho, fun v z => nomatch z⟩
  · exact ⟨o1, e1, fun v z => by rw [d1] at z; cases z⟩
  · exact ⟨o2, e2, fun v z => by rw [d2] at z; cases z⟩
theorem st5_keep {n a b i : Nat} {h h' : Heap} (st : St5 n a b i h) (hs : n + 5 ≤ h'.objs.size) (k : ∀ c ∈ five n, ∀ o, h.get? c = some o → h'.get? c = some o) : St5 n a b i h' := by
  obtain ⟨hz, hi, ⟨x, y, ho⟩, h1, h2, la, lb, _⟩ := st
  have m : ∀ j, j < 5 → n + j ∈ five n := fun j hj => in5 (by omega) (by omega)
  exact ⟨k _ (m 4 (by omega)) _ hz, k _ (m 2 (by omega)) _ hi, ⟨x, y, k _ (m 3 (by omega)) _ ho⟩, h1.at fun o e => k n (m 0 (by omega)) o e, h2.at fun o e => k _ (m 1 (by omega)) o e, la, lb, hs⟩
theorem size_of_get {h : Heap} {n : Nat} {o : Obj} (e : h.get? (n + 4) = some o) : n + 5 ≤ h.objs.size := Heap.lt_size e

theorem turn_TL {P : Program} {w : World} {K : PySem.W.Frag} {elts : List Expr} {kk : Nat} {tpos : Pos} {a b n : Addr} :
    Turn P w K (.Tuple elts kk tpos) (ItTL K a b) (five n) (n + 4) (St5 n a b) where
  mem := in5 (by omega) (by omega)
  obj := fun i h st c hc => st5_obj st hc
  keep := fun i h h' st k => by
    obtain ⟨o, e⟩ : ∃ o, h.get? (n + 4) = some o := ⟨_, st.1⟩
    exact st5_keep st (size_of_get (k _ (in5 (by omega) (by omega)) _ e)) k
  item := by
    intro X hP hw hK hc i pins s σ H E I hf st hg
    subst hP hw hK
    have st0 := st
    obtain ⟨hz, hi, ⟨x0, y0, ho⟩, h1, h2, la, lb, _⟩ := st
    obtain ⟨xs, ys, x, y, qx, qy, hx, hy⟩ := hg
    obtain ⟨as, rv, p, _⟩ := I.tuple qx
    obtain ⟨bs, rv2, p2, _⟩ := I.list qy
    obtain ⟨u, hu, ru⟩ := rv.get hx
    obtain ⟨u2, hu2, ru2⟩ := rv2.get hy
    have hh := I.ok.hd hc
    have hh1 : X.A.in1.handled = none := hh
    have hia : i < as.toArray.size := by
      rw [List.size_toArray]
      exact (List.getElem?_eq_some_iff.mp hu).1
    have hib : i < bs.toArray.size := by
      rw [List.size_toArray]
      exact (List.getElem?_eq_some_iff.mp hu2).1
    refine wpAny_pyNext_zipD2_item (sep5 la lb) (.tuple hh1 n a (Nat.ne_of_lt la) as.toArray) (.list hh1 (n + 1) b (apN (by omega)) bs.toArray) hz hi ho ⟨h1, p⟩ ⟨h2, p2.isList⟩ hia hib ?_
    intro x1 x2 h' tk e1 e2 z' o' g1 g2 hT hsz hk
    have eu : x1 = u := by
      have : as.toArray[i]? = some u := by simpa using hu
      exact Option.some.inj (e1.symm.trans this)
    have eu2 : x2 = u2 := by
      have : bs.toArray[i]? = some u2 := by simpa using hu2
      exact Option.some.inj (e2.symm.trans this)
    subst eu eu2
    have old : ∀ {c o}, s.heap.get? c = some o → c ≠ s.heap.objs.size := fun e => Nat.ne_of_lt (Heap.lt_size e)
    refine ⟨_, rfl, wpAny_letOwnedTupleGo_zip z' fun h3 z3 sb => ?_⟩
    have stay : ∀ c o, c ∉ five n → s.heap.get? c = some o → h3.get? c = some o := fun c o nc e =>
      (sb.2 c (fun q => nc (q ▸ in5 (by omega) (by omega)))).trans (hk c o (fun q => nc (q ▸ in5 (by omega) (by omega))) (fun q => nc (q ▸ in5 (by omega) (by omega)))
        (fun q => nc (q ▸ in5 (by omega) (by omega))) (fun q => nc (q ▸ in5 (by omega) (by omega))) e)
    have t3 : h3.get? s.heap.objs.size = some { cls := .type "tuple", data := .seq #[x1, x2] } := (sb.2 _ (old hz).symm).trans hT
    have fine : ObjOk X.prog X.w (upd H s.heap.objs.size (.tup [x, y])) h3 s.heap.objs.size (.tup [x, y]) :=
      ⟨by show 2 ≤ sizeLine; decide, [x1, x2], .cons ru (.cons ru2 .nil), ⟨_, t3, rfl, _, rfl⟩⟩
    have I3 := I.turnedNew (t' := tk) (ch := five n) stay hf (Nat.le_refl _) fine
    have sz : h3.objs.size = h'.objs.size := sb.1
    have sz2 : n + 5 ≤ s.heap.objs.size := size_of_get hz
    refine ⟨.ref s.heap.objs.size, _, I3, rfl, ⟨_, x, y, rfl, I.hok.fresh (Nat.le_refl _), rfl, fun l hl => ?_, fun l hl => ?_⟩, ⟨z3, ?_, ⟨x1, x2, ?_⟩, ?_, ?_, la, lb, ?_⟩, fun c hcm => ?_⟩
    · rw [I.tuple_inj hl qx]; exact hx
    · rw [I.list_inj hl qy]; exact hy
    · exact (sb.2 _ (apN (by omega))).trans (hk _ _ (apN (by omega)) (apN (by omega)) (apN (by omega)) (apN (by omega)) hi)
    · exact (sb.2 _ (apN (by omega))).trans o'
    · exact g1.1.at fun o q => (sb.2 _ (apN (by omega))).trans q
    · exact g2.1.at fun o q => (sb.2 _ (apN (by omega))).trans q
    · rw [sz, hsz]
      omega
    · have := (mem5 hcm).2
      rw [upd_ne (apN (by omega))]
      exact (hf c hcm).1
  done := by
    intro X hP hw hK hc i pins s σ H E I hf st hg
    subst hP hw hK
    obtain ⟨hz, hi, ⟨x0, y0, ho⟩, h1, h2, la, lb, _⟩ := st
    obtain ⟨xs, ys, qx, qy, ey, ex⟩ := hg
    obtain ⟨as, rv, p, _⟩ := I.tuple qx
    obtain ⟨bs, rv2, p2, _⟩ := I.list qy
    have l1 := rv.length
    have l2 := rv2.length
    have hh := I.ok.hd hc
    have hh1 : X.A.in1.handled = none := hh
    have sa : as.toArray.size = i := by rw [List.size_toArray]; omega
    have sb : bs.toArray.size = i := by rw [List.size_toArray]; omega
    refine wpAny_pyNext_zipD2_end (sep5 la lb) (.tuple hh1 n a (Nat.ne_of_lt la) as.toArray) (.list hh1 (n + 1) b (apN (by omega)) bs.toArray) hz hi ho ⟨h1, p⟩ ⟨h2, p2.isList⟩ (by omega) (by omega) (by omega) ?_
    intro h' tk hk
    refine ⟨rfl, I.turnedL (t' := tk) (ch := five n) (fun c o nc e => ?_) hf⟩
    exact hk c o (fun q => nc (q ▸ in5 (by omega) (by omega))) (fun q => nc (q ▸ in5 (by omega) (by omega))) (fun q => nc (q ▸ in5 (by omega) (by omega))) (fun q => nc (q ▸ in5 (by omega) (by omega))) e
  self := fun A i s Q E st h => wpAny_pyIter_zip st.1 h

def iTL (K : PySem.W.Frag) (ta : TA) : TI := fun σ H R => ta σ H fun vs H1 => ∃ a b xs ys, vs = [.ref a, .ref b] ∧ SqT K H1 a xs ∧ SqL K H1 b ys ∧ xs.length = ys.length ∧ R (ItTL K a b) H1
theorem pi_TL {X : Cx} {e e2 : Expr} {ta : TA} {p pos tpos : Pos} {elts : List Expr} {kk : Nat} (hg : Gl X "zip") (hm : X.mg "zip" = none) (ha : PA X [e, e2] ta)
    (hs : starEach [e, e2] X.env = (false, eval e X.env) :: starEach [e2] X.env := by rfl) (hpl : (backTo pos (starEach [e2] X.env)).any (·.1) = false := by rfl) :
    PI X (.Tuple elts kk tpos) (.Call (.Name "zip" p) [e, e2] [] pos) (iTL X.K ta) := by
  refine ⟨fun pins s σ H R I h => Call_ (ld_blt I hg hm PyProof.Rows.boot_zip (PyProof.Rows.callWith_type1 (thn (ha.run pos pins s σ H _ I h) ?_) hs hpl))⟩
  rintro us s1 ⟨vs, H1, J, r, a, b, xs, ys, rfl, qx, qy, hl, q⟩
  obtain ⟨u1, u2, rfl, r1, r2⟩ := vals2 r
  cases r1
  cases r2
  obtain ⟨as, rv, p1, _⟩ := J.tuple qx
  obtain ⟨bs, rv2, p2, _⟩ := J.list qy
  have la : a < s1.heap.objs.size := by
    obtain ⟨o, e, _⟩ := id p1
    exact Heap.lt_size e
  refine zip_begins2 (begins_tuple a as.toArray) (begins_list b bs.toArray) p1 p2.isList ?_
  intro h' hz hi ho g1 g2 hsz hk
  refine wpAny_pyIter_zip hz ?_
  refine ⟨s1.heap.objs.size + 4, five s1.heap.objs.size, _, _, H1, rfl, J.kept (t' := s1.toks) hk, turn_TL (a := a) (b := b), ?_, fun c hc => ?_, q⟩
  · exact ⟨hz, hi, ⟨_, _, ho⟩, ⟨_, g1, rfl, rfl⟩, ⟨_, g2, rfl, rfl⟩, la, p2.lt, by rw [hsz]; exact Nat.le_refl _⟩
  · have hle := (mem5 hc).1
    exact (J.kept (t' := s1.toks) (fun _ _ z => z)).fpOk hle (J.hok.fresh hle)
end Gd
end

section
set_option Elab.async false
set_option linter.all false
set_option maxRecDepth 100000
set_option maxHeartbeats 4000000
/-! enumerate(t), t a tuple. -/
namespace Gd
open PySem PySem.Spec PyProof.Rows L2
/-- the tuple at a, numbered -/
def ItET (K : PySem.W.Frag) (a : Addr) : It where
  go i H := ∃ (xs : List V) (x : V), SqT K H a xs ∧ xs[i]? = some x
  yld i H v H' := ∃ T x, v = .ref T ∧ H T = none ∧ H' = upd H T (.tup [.int (i : Nat), x]) ∧ ∀ xs, SqT K H a xs → xs[i]? = some x
  stop i H := ∃ xs : List V, SqT K H a xs ∧ xs.length = i
/-- its two cells, the first at n -/
def duo (n : Nat) : List Addr := [n + 1, n]
theorem mem2 {n c : Nat} (h : c ∈ duo n) : n ≤ c ∧ c < n + 2 := by
  simp only [duo, List.mem_cons, List.not_mem_nil, or_false] at h
  omega
theorem in2 {n c : Nat} (h : n ≤ c) (h' : c < n + 2) : c ∈ duo n := by
  simp only [duo, List.mem_cons, List.not_mem_nil, or_false]
  omega
def StE (n a : Nat) (i : Nat) (h : Heap) : Prop := (∃ old, IsEnum h (n + 1) n ((i : Nat) : Int) old) ∧ h.IsTupleIter n a i ∧ a < n ∧ n + 2 ≤ h.objs.size
theorem size2 {h : Heap} {n : Nat} {o : Obj} (e : h.get? (n + 1) = some o) : n + 2 ≤ h.objs.size := Heap.lt_size e
theorem turn_ET {P : Program} {w : World} {K : PySem.W.Frag} {elts : List Expr} {kk : Nat} {tpos : Pos} {a n : Addr} :
    Turn P w K (.Tuple elts kk tpos) (ItET K a) (duo n) (n + 1) (StE n a) where
  mem := in2 (by omega) (by omega)
  obj := fun i h st c hc => by
    obtain ⟨⟨old, e1⟩, ⟨o, e2, _, d2⟩, _⟩ := st
    simp only [duo, List.mem_cons, List.not_mem_nil, or_false] at hc
    rcases hc with rfl | rfl
    · exact ⟨_, e1, fun v z => nomatch z⟩
    · exact ⟨o, e2, fun v z => by rw [d2] at z; cases z⟩
  keep := fun i h h' st k => by
    obtain ⟨⟨old, e1⟩, t1, la, _⟩ := st
    have e3 := k (n + 1) (in2 (by omega) (by omega)) _ e1
    exact ⟨⟨old, e3⟩, t1.at fun o e => k n (in2 (by omega) (by omega)) o e, la, size2 e3⟩
  item := by
    intro X hP hw hK hc i pins s σ H E I hf st hg
    subst hP hw hK
    obtain ⟨⟨old, e1⟩, t1, la, sz0⟩ := st
    obtain ⟨xs, x, qx, hx⟩ := hg
    obtain ⟨as, rv, p, _⟩ := I.tuple qx
    obtain ⟨u, hu, ru⟩ := rv.get hx
    have hh1 : X.A.in1.handled = none := I.ok.hd hc
    have hia : i < as.toArray.size := by
      rw [List.size_toArray]
      exact (List.getElem?_eq_some_iff.mp hu).1
    have nin : (n + 1 : Nat) ∉ ([n, a] : List Addr) := apL (by omega) (by omega)
    refine wpAny_pyNext_enum_itemD (.tuple hh1 n a (Nat.ne_of_lt la) as.toArray) e1 ⟨t1, p⟩ hia (apN (by omega)) nin ?_
    intro y h' tk ey z' g1 hT hsz hk
    have eu : y = u := by
      have : as.toArray[i]? = some u := by simpa using hu
      exact Option.some.inj (ey.symm.trans this)
    subst eu
    refine ⟨_, rfl, wpAny_letOwnedTupleGo_enum z' fun h3 z3 sb => ?_⟩
    have old3 : ∀ {c o}, s.heap.get? c = some o → c ≠ s.heap.objs.size := fun e => Nat.ne_of_lt (Heap.lt_size e)
    have stay : ∀ c o, c ∉ duo n → s.heap.get? c = some o → h3.get? c = some o := fun c o nc e =>
      (sb.2 c (fun q => nc (q ▸ in2 (by omega) (by omega)))).trans (hk c o (fun q => nc (q ▸ in2 (by omega) (by omega))) (fun q => nc (q ▸ in2 (by omega) (by omega))) e)
    have t3 : h3.get? s.heap.objs.size = some { cls := .type "tuple", data := .seq #[.int i tk, y] } := (sb.2 _ (old3 e1).symm).trans hT
    have fine : ObjOk X.prog X.w (upd H s.heap.objs.size (.tup [.int (i : Nat), x])) h3 s.heap.objs.size (.tup [.int (i : Nat), x]) :=
      ⟨by show 2 ≤ sizeLine; decide, [.int i tk, y], .cons ⟨_, rfl⟩ (.cons ru .nil), ⟨_, t3, rfl, _, rfl⟩⟩
    have I3 := I.turnedNew (t' := tk + 1) (ch := duo n) stay hf (Nat.le_refl _) fine
    have sz : h3.objs.size = h'.objs.size := sb.1
    refine ⟨.ref s.heap.objs.size, _, I3, rfl, ⟨_, x, rfl, I.hok.fresh (Nat.le_refl _), rfl, fun l hl => ?_⟩, ⟨⟨y, ?_⟩, ?_, la, ?_⟩, fun c hcm => ?_⟩
    · rw [I.tuple_inj hl qx]; exact hx
    · rw [show ((i + 1 : Nat) : Int) = (i : Int) + 1 by omega]
      exact z3
    · exact g1.1.at fun o q => (sb.2 _ (apN (by omega))).trans q
    · rw [sz, hsz]
      omega
    · have := (mem2 hcm).2
      rw [upd_ne (apN (by omega))]
      exact (hf c hcm).1
  done := by
    intro X hP hw hK hc i pins s σ H E I hf st hg
    subst hP hw hK
    obtain ⟨⟨old, e1⟩, t1, la, sz0⟩ := st
    obtain ⟨xs, qx, ex⟩ := hg
    obtain ⟨as, rv, p, _⟩ := I.tuple qx
    have l1 := rv.length
    have hh1 : X.A.in1.handled = none := I.ok.hd hc
    have sa : as.toArray.size = i := by rw [List.size_toArray]; omega
    subst sa
    refine wpAny_pyNext_enum_endD (.tuple hh1 n a (Nat.ne_of_lt la) as.toArray) e1 ⟨t1, p⟩ ?_
    intro h' hk
    exact ⟨rfl, I.turnedL (t' := s.toks) (ch := duo n) (fun c o nc e => hk c o (fun q => nc (q ▸ in2 (by omega) (by omega))) e) hf⟩
  self := fun A i s Q E st h => by
    obtain ⟨⟨old, e1⟩, _⟩ := st
    exact wpAny_pyIter_enum e1 h

/-! making it -/
abbrev cellE (n : Nat) : Obj := { cls := .type "enumerate", data := .fields #[.none, .bool false, .ref n, rawInt 0, .none, .none] }
theorem make_ET {v : Value} {o : Obj} {Z : Heap → Prop} (B : Begins v o Z) : Meets (Builtin.«enumerate.__new__» ⟨[.type "enumerate", v], []⟩)
    (fun _ R s => Z s.heap ∧ R (.ok (.ret (.ref (s.heap.push o).objs.size))) { s with heap := (s.heap.push o).push (cellE s.heap.objs.size) }) := by
  refine .of_wp fun prog w A R s z => ?_
  obtain ⟨hp, g, d, tk, os⟩ := s
  have sub := sub_enumerate
  have go : ∀ {A' : Around} {F Q : Value → Shared → Prop}, Q (.ref hp.objs.size) ⟨hp.push o, g, d, tk, os⟩ → wpAny (model prog w) A' (pyIter v) Q F ⟨hp, g, d, tk, os⟩ := fun y => B.iter prog w _ _ ⟨hp, g, d, tk, os⟩ _ z.1 y
  wp_walk using go
  refine wpAny_stack_any fun stk => wpAny_pure ?_
  split
  · rename_i c _ _ _ _ _
    cases (c == Value.type "enumerate") <;> (wp_walk using go; exact ⟨_, rfl, z.2⟩)
  · wp_walk using go
    exact ⟨_, rfl, z.2⟩
theorem call_ET {prog : Program} {w : World} {A : Around} {G Q : Value → Shared → Prop} {s : Shared} {v : Value} {o : Obj} {Z : Heap → Prop} (B : Begins v o Z) (z : Z s.heap)
    (q : ∀ h', IsEnum h' (s.heap.objs.size + 1) s.heap.objs.size 0 .none → h'.get? s.heap.objs.size = some o → h'.objs.size = s.heap.objs.size + 2 → (∀ b o', s.heap.get? b = some o' → h'.get? b = some o') →
      Q (.ref (s.heap.objs.size + 1)) { s with heap := h' }) : wpAny (model prog w) A (call (.type "enumerate") [v]) Q G s := by
  have e1 : (s.heap.push o).objs.size = s.heap.objs.size + 1 := Heap.size_push ..
  have e2 : IsEnum ((s.heap.push o).push (cellE s.heap.objs.size)) (s.heap.objs.size + 1) s.heap.objs.size 0 .none := by
    rw [← e1]
    exact Heap.get?_push_size (s.heap.push o) (o := cellE s.heap.objs.size) rfl
  refine callType_new F.called_enumerate (by decide) (F.typeCall_enumerate_1 _) (F.newCall_enumerate_1 _) (fun obj => F.args_object_init_2 obj _) F.entry_enumerate_new (make_ET B) ⟨z, ?_⟩
  show _ ∧ _
  rw [e1]
  exact ⟨⟨_, e2, rfl⟩, q _ e2 (Heap.get?_push_of_some _ (Heap.get?_push_size _ B.free)) (by rw [Heap.size_push, e1]) fun b o' y => Heap.get?_push_of_some _ (Heap.get?_push_of_some _ y)⟩
def iET (K : PySem.W.Frag) (ta : TA) : TI := fun σ H R => ta σ H fun vs H1 => ∃ a xs, vs = [.ref a] ∧ SqT K H1 a xs ∧ R (ItET K a) H1
theorem pi_ET {X : Cx} {e : Expr} {ta : TA} {p pos tpos : Pos} {elts : List Expr} {kk : Nat} (hg : Gl X "enumerate") (hm : X.mg "enumerate" = none) (ha : PA X [e] ta) (hs : starEach [e] X.env = [(false, eval e X.env)] := by rfl) :
    PI X (.Tuple elts kk tpos) (.Call (.Name "enumerate" p) [e] [] pos) (iET X.K ta) := by
  refine ⟨fun pins s σ H R I h => Call_ (ld_blt I hg hm boot_enumerate (PyProof.Rows.callWith_type1 (thn (ha.run pos pins s σ H _ I h) ?_) hs rfl))⟩
  rintro us s1 ⟨vs, H1, J, r, a, xs, rfl, qx, q⟩
  obtain ⟨u1, rfl, r1⟩ := vals1 r
  cases r1
  obtain ⟨as, rv, p1, _⟩ := J.tuple qx
  have la : a < s1.heap.objs.size := by
    obtain ⟨o, e, _⟩ := id p1
    exact Heap.lt_size e
  refine call_ET (begins_tuple a as.toArray) p1 ?_
  intro h' he g1 hsz hk
  refine wpAny_pyIter_enum he ?_
  refine ⟨s1.heap.objs.size + 1, duo s1.heap.objs.size, _, _, H1, rfl, J.kept (t' := s1.toks) hk, turn_ET (a := a), ?_, fun c hc => ?_, q⟩
  · exact ⟨⟨_, he⟩, ⟨_, g1, rfl, rfl⟩, la, by rw [hsz]; exact Nat.le_refl _⟩
  · have hle := (mem2 hc).1
    exact (J.kept (t' := s1.toks) (fun _ _ z => z)).fpOk hle (J.hok.fresh hle)
theorem walk_ET {K : PySem.W.Frag} {a : Addr} {xs : List V} : Walk (ItET K a) xs.length (fun H => SqT K H a xs) (YPair (fun i => some (.int (i : Nat))) (fun i => xs[i]?)) := by
  refine ⟨fun i _ hi q => ⟨xs, xs[i], q, by simp [hi]⟩, fun _ q => ⟨xs, q, rfl⟩, fun i H v H' _ q y => ?_⟩
  obtain ⟨T, x, h1, h2, h3, h4⟩ := y
  exact ⟨T, .int (i : Nat), x, h1, h2, h3, rfl, h4 xs q⟩
/-! is a truth, of a truth or None -/
theorem op_is_fl {X : Cx} : OpR X (compareOp .Is) (fun x y H Q => ∃ b, y = .bl b ∧ ((∃ a, x = .bl a ∧ Q (.bl (decide (a = b))) H) ∨ (x = .non ∧ Q (.bl false) H))) := by
  intro pins s σ H x y v u Q I rx ry h
  obtain ⟨b, rfl, ⟨a, rfl, q⟩ | ⟨rfl, q⟩⟩ := h
  · exact op_is_bl pins s σ H _ _ v u Q I rx ry ⟨a, b, rfl, rfl, q⟩
  · cases rx
    cases (show u = Value.bool b from ry)
    exact wpAny_is_other rfl (fun z => nomatch z) ⟨.bl false, H, I, rfl, q⟩
theorem op_isnot_fl {X : Cx} : OpR X (compareOp .IsNot) (fun x y H Q => ∃ b, y = .bl b ∧ ((∃ a, x = .bl a ∧ Q (.bl (!decide (a = b))) H) ∨ (x = .non ∧ Q (.bl true) H))) := by
  intro pins s σ H x y v u Q I rx ry h
  obtain ⟨b, rfl, ⟨a, rfl, q⟩ | ⟨rfl, q⟩⟩ := h
  · exact op_isnot_bl pins s σ H _ _ v u Q I rx ry ⟨a, b, rfl, rfl, q⟩
  · cases rx
    cases (show u = Value.bool b from ry)
    exact wpAny_isNot_other rfl (fun z => nomatch z) ⟨.bl true, H, I, rfl, q⟩
end Gd
end

section
set_option Elab.async false
set_option linter.all false
set_option maxRecDepth 100000
/-! Methods within a comprehension: what is done may not name the comprehension's own frame. -/
namespace Gd
open PySem PySem.Spec PyProof.Rows L2
section
variable {X : Cx} {o e : Expr} {es : List Expr} {to : TE} {t : TA} {name : Str} {apos cpos : Pos} {T id : String} {r : V → List V → Hp → VK → Prop} {K : PySem.W.Frag}
theorem pe_bmK (K : PySem.W.Frag) (r : V → List V → Hp → VK → Prop) (pa : PlainAttrs T) (slot : Slot T name id) (hty : typeOf (.builtin id) = pure (.type "method_descriptor")) (hm : MtR X id r) (ho : PE X o to) (ha : PA X (e :: es) t) (hK : X.K = K := by rfl)
    (hbase : attributeBase o name X.env (eval o X.env) = eval o X.env := by rfl)
    (hfew : ((backTo cpos (starEach (e :: es) X.env)).all (fun x => !x.1) && (backToKw cpos (keywordEach [] X.env)).all (fun x => x.1.isSome)
      && decide ((e :: es).length + ([] : List Keyword).length + (if ([] : List Keyword).isEmpty then 0 else 1) < 30)) = true := by rfl)
    (hline : (apos.endLine == cpos.line) = true := by rfl) (hs : starEach (e :: es) X.env = (false, eval e X.env) :: starEach es X.env := by rfl) (hplain : (backTo cpos (starEach es X.env)).any (·.1) = false := by rfl) :
    PE X (.Call (.Attribute o name apos) (e :: es) [] cpos) (tBM K T r to t) := by
  subst hK
  exact pe_bm pa slot hty hm ho ha hbase hfew hline hs hplain
theorem pe_tupleOfK (K : PySem.W.Frag) {a : Expr} {ta : TE} {p pos : Pos} (hg : Gl X "tuple") (hm : X.mg "tuple" = none) (ha : PE X a ta) (hK : X.K = K := by rfl) (na : starEach [a] X.env = (false, eval a X.env) :: starEach [] X.env := by rfl) :
    PE X (.Call (.Name "tuple" p) [a] [] pos) (tThen ta (kTup K)) := by
  subst hK
  exact pe_tupleOf hg hm ha na
theorem call_lenK (K : PySem.W.Frag) (hK : X.K = K := by rfl) : CallR X (.builtin "len") (fun xs H Q => ∃ p ys, xs = [V.ref p] ∧ (SqL K H p ys ∨ SqT K H p ys) ∧ Q (.int ys.length) H) := by
  subst hK
  exact call_len_seq
end
end Gd
end

section
set_option Elab.async false
set_option linter.all false
set_option maxRecDepth 100000
set_option maxHeartbeats 4000000
/-! Data with lists, and with two small dicts; what is not in it: the addresses of N. -/
namespace Gd
open PySem PySem.Spec PyProof.Rows L2

mutual
inductive Dd (K : PySem.W.Frag) (H : Hp) (N : Addr → Prop) : V → PyData → Prop
  | non : Dd K H N .non .none
  | bl (b : Bool) : Dd K H N (.bl b) (.bool b)
  | int (i : Int) : Dd K H N (.int i) (.int i)
  | str (x : Str) : Dd K H N (.str x) (.str x)
  | lst {a : Addr} {xs : List V} {ds : List PyData} : H a = some (.lst xs) → ¬ N a → a ≠ sysModules → DdAll K H N xs ds → Dd K H N (.ref a) (.list ds)
  | tup {a : Addr} {xs : List V} {ds : List PyData} : SqT K H a xs → DdAll K H N xs ds → Dd K H N (.ref a) (.tuple ds)
  | dct0 {a : Addr} : H a = some (.dK []) → ¬ N a → Dd K H N (.ref a) (.dict [])
  | dct1 {a : Addr} {x : Str} {i : Int} : H a = some (.dK [(Sum.inr x, .int i)]) → ¬ N a → Dd K H N (.ref a) (.dict [(.str x, .int i)])
inductive DdAll (K : PySem.W.Frag) (H : Hp) (N : Addr → Prop) : List V → List PyData → Prop
  | nil : DdAll K H N [] []
  | cons {v : V} {vs : List V} {d : PyData} {ds : List PyData} : Dd K H N v d → DdAll K H N vs ds → DdAll K H N (v :: vs) (d :: ds)
end

section
variable {K : PySem.W.Frag} {H H' : Hp} {N N' : Addr → Prop}
mutual
theorem Dd.stay (t : Tups K H H') (x : ∀ a o, ¬ N a → H a = some o → H' a = some o) (m : ∀ a, N' a → N a) : ∀ (d : PyData) {v : V}, Dd K H N v d → Dd K H' N' v d
  | .none, _, h => by cases h; exact .non
  | .bool _, _, h => by cases h; exact .bl _
  | .int _, _, h => by cases h; exact .int _
  | .str _, _, h => by cases h; exact .str _
  | .tuple ds, _, h => by
    cases h with
    | tup a b => exact .tup (t _ _ a) (DdAll.stay t x m ds b)
  | .list ds, _, h => by
    cases h with
    | lst a n g b => exact .lst (x _ _ n a) (fun z => n (m _ z)) g (DdAll.stay t x m ds b)
  | .dict ds, _, h => by
    cases h with
    | dct0 a n => exact .dct0 (x _ _ n a) (fun z => n (m _ z))
    | dct1 a n => exact .dct1 (x _ _ n a) (fun z => n (m _ z))
theorem DdAll.stay (t : Tups K H H') (x : ∀ a o, ¬ N a → H a = some o → H' a = some o) (m : ∀ a, N' a → N a) : ∀ (ds : List PyData) {vs : List V}, DdAll K H N vs ds → DdAll K H' N' vs ds
  | [], _, h => by cases h; exact .nil
  | d :: ds, _, h => by
    cases h with
    | cons a b => exact .cons (Dd.stay t x m d a) (DdAll.stay t x m ds b)
end
theorem Dd.same {v : V} {d : PyData} (s : Same H H') (h : Dd K H N v d) : Dd K H' N v d := Dd.stay (Tups.of_same s) (fun a o _ e => s a o e) (fun _ z => z) d h
theorem DdAll.same {vs : List V} {ds : List PyData} (s : Same H H') (h : DdAll K H N vs ds) : DdAll K H' N vs ds := DdAll.stay (Tups.of_same s) (fun a o _ e => s a o e) (fun _ z => z) ds h
theorem Dd.free {v : V} {d : PyData} (h : Dd K H N v d) : Dd K H (fun _ => False) v d := Dd.stay .refl (fun a o _ e => e) (fun _ z => z.elim) d h
theorem DdAll.free {vs : List V} {ds : List PyData} (h : DdAll K H N vs ds) : DdAll K H (fun _ => False) vs ds := DdAll.stay .refl (fun a o _ e => e) (fun _ z => z.elim) ds h
/-- behind a draw -/
theorem Dd.drawn {p : Addr} {ys : List V} {v : V} {d : PyData} (e : H p = some (.lst ys)) (x : Ex1 p H H') (h : Dd K H (· = p) v d) : Dd K H' (· = p) v d :=
  Dd.stay (x.tups e) (fun a o n q => x a o n q) (fun _ z => z) d h
theorem DdAll.drawn {p : Addr} {ys : List V} {vs : List V} {ds : List PyData} (e : H p = some (.lst ys)) (x : Ex1 p H H') (h : DdAll K H (· = p) vs ds) : DdAll K H' (· = p) vs ds :=
  DdAll.stay (x.tups e) (fun a o n q => x a o n q) (fun _ z => z) ds h
mutual
/-- what is new is not in it -/
theorem Dd.shun {q : Addr} (n : H q = none) : ∀ (d : PyData) {v : V}, Dd K H N v d → Dd K H (fun a => N a ∨ a = q) v d
  | .none, _, h => by cases h; exact .non
  | .bool _, _, h => by cases h; exact .bl _
  | .int _, _, h => by cases h; exact .int _
  | .str _, _, h => by cases h; exact .str _
  | .tuple ds, _, h => by
    cases h with
    | tup a b => exact .tup a (DdAll.shun n ds b)
  | .list ds, _, h => by
    cases h with
    | lst a m g b => exact .lst a (fun z => z.elim m (fun z => by rw [z, n] at a; cases a)) g (DdAll.shun n ds b)
  | .dict ds, _, h => by
    cases h with
    | dct0 a m => exact .dct0 a (fun z => z.elim m (fun z => by rw [z, n] at a; cases a))
    | dct1 a m => exact .dct1 a (fun z => z.elim m (fun z => by rw [z, n] at a; cases a))
theorem DdAll.shun {q : Addr} (n : H q = none) : ∀ (ds : List PyData) {vs : List V}, DdAll K H N vs ds → DdAll K H (fun a => N a ∨ a = q) vs ds
  | [], _, h => by cases h; exact .nil
  | d :: ds, _, h => by
    cases h with
    | cons a b => exact .cons (Dd.shun n d a) (DdAll.shun n ds b)
end
theorem DdAll.len : ∀ {vs : List V} {ds : List PyData}, DdAll K H N vs ds → vs.length = ds.length
  | _, _, .nil => rfl
  | _, _, .cons _ b => congrArg (· + 1) (DdAll.len b)
theorem DdAll.at_ : ∀ {vs : List V} {ds : List PyData} {i : Nat} {v : V}, DdAll K H N vs ds → vs[i]? = some v → ∃ d, ds[i]? = some d ∧ Dd K H N v d
  | _, _, _, _, .nil, e => by simp at e
  | _, _, 0, _, .cons a _, e => by
    cases Option.some.inj e
    exact ⟨_, rfl, a⟩
  | _, _, i + 1, _, .cons _ b, e => DdAll.at_ (i := i) b e
theorem DdAll.app : ∀ {vs us : List V} {ds es : List PyData}, DdAll K H N vs ds → DdAll K H N us es → DdAll K H N (vs ++ us) (ds ++ es)
  | _, _, _, _, .nil, h => h
  | _, _, _, _, .cons a b, h => .cons a (DdAll.app b h)
theorem DdAll.take : ∀ {vs : List V} {ds : List PyData}, DdAll K H N vs ds → ∀ i : Nat, DdAll K H N (vs.take i) (ds.take i)
  | _, _, .nil, i => by rw [List.take_nil, List.take_nil]; exact .nil
  | _, _, .cons _ _, 0 => .nil
  | _, _, .cons a b, i + 1 => .cons a (DdAll.take b i)
theorem DdAll.drop : ∀ {vs : List V} {ds : List PyData}, DdAll K H N vs ds → ∀ i : Nat, DdAll K H N (vs.drop i) (ds.drop i)
  | _, _, .nil, i => by rw [List.drop_nil, List.drop_nil]; exact .nil
  | _, _, .cons a b, 0 => .cons a b
  | _, _, .cons a b, i + 1 => DdAll.drop b i
theorem DdAll.rev : ∀ {vs : List V} {ds : List PyData}, DdAll K H N vs ds → DdAll K H N vs.reverse ds.reverse
  | _, _, .nil => .nil
  | _, _, .cons a b => by
    rw [List.reverse_cons, List.reverse_cons]
    exact DdAll.app (DdAll.rev b) (.cons a .nil)
mutual
theorem Dd.ofDp : ∀ (d : PyData) {v : V}, tupOnly d = true → Dp K H v d → Dd K H N v d
  | .none, _, _, h => by cases h; exact .non
  | .bool _, _, _, h => by cases h; exact .bl _
  | .int _, _, _, h => by cases h; exact .int _
  | .str _, _, _, h => by cases h; exact .str _
  | .tuple ds, _, o, h => by
    cases h with
    | tup a b =>
      simp only [tupOnly, Bool.and_eq_true] at o
      exact .tup a (DdAll.ofDp ds o.2 b)
  | .list _, _, o, _ => by simp [tupOnly] at o
  | .dict _, _, o, _ => by simp [tupOnly] at o
theorem DdAll.ofDp : ∀ (ds : List PyData) {vs : List V}, tupOnlyAll ds = true → DpAll K H vs ds → DdAll K H N vs ds
  | [], _, _, h => by cases h; exact .nil
  | d :: ds, _, o, h => by
    simp only [tupOnlyAll, Bool.and_eq_true] at o
    cases h with
    | cons a b => exact .cons (Dd.ofDp d o.1 a) (DdAll.ofDp ds o.2 b)
end
theorem Dd.kind {v : V} {d : PyData} (h : Dd K H N v d) : TyX K H v (.type (kindN d)) := by
  cases h with
  | non => exact .base .non
  | bl b => exact .base (.bl b)
  | int i => exact .base (.int i)
  | str x => exact .base (.str x)
  | lst e _ _ _ => exact .base (.lst e)
  | dct0 e _ => exact .base (.dK e)
  | dct1 e _ => exact .base (.dK e)
  | tup a _ =>
    rcases a with (a | ⟨z, a⟩) | ⟨z, its, n, a, c, _⟩
    · exact .base (.tup a)
    · exact .fTuple a
    · exact .kTuple a c
end
section
variable {X : Cx} {pins : List (Addr × Obj)} {σ : L2.St} {H : Hp} {s : Shared} {N : Addr → Prop}
theorem dk_reads (I : Inv X pins σ H s) {a : Addr} {kvs : List (Key × V)} (e : H a = some (.dK kvs)) :
    (a == sysModules) = false ∧ ∃ vs, KV kvs vs ∧ s.heap.DictOf (mixKind X.prog X.w) a vs := (I.hok a _ e).2
mutual
theorem Dd.reads (I : Inv X pins σ H s) : ∀ (d : PyData) (v : V) (u : Value), Dd X.K H N v d → RelV v u → ∃ as, Reads s.heap u d as ∧ sysModules ∉ as
  | .none, _, _, h, r => by
    cases h
    cases r
    exact ⟨[], .none, nofun⟩
  | .bool b, _, _, h, r => by
    cases h
    cases r
    exact ⟨[], .bool b, nofun⟩
  | .int i, _, _, h, r => by
    cases h
    obtain ⟨t, rfl⟩ := r
    exact ⟨[], .int i t, nofun⟩
  | .str x, _, _, h, r => by
    cases h
    obtain ⟨t, rfl⟩ := r
    exact ⟨[], .str x t, nofun⟩
  | .list ds, _, _, h, r => by
    cases h with
    | lst hs _ g ha =>
      cases r
      obtain ⟨its, rv, pl, _⟩ := I.list (SqL.of hs)
      obtain ⟨o, n, ho, hc, _, hd⟩ := pl
      obtain ⟨as, hr, hn⟩ := Dd.readsAll I ds _ its ha rv
      refine ⟨_, .list ho hc hd hr, fun m => ?_⟩
      rcases List.mem_cons.mp m with m | m
      · exact g m.symm
      · exact hn m
  | .tuple ds, _, _, h, r => by
    cases h with
    | tup hs ha =>
      cases r
      obtain ⟨its, rv, pl, _⟩ := I.tuple hs
      obtain ⟨o, ho, hc, n, hd⟩ := pl
      obtain ⟨as, hr, hn⟩ := Dd.readsAll I ds _ its ha rv
      exact ⟨as, .tuple ho hc hd hr, hn⟩
  | .dict ds, _, _, h, r => by
    cases h with
    | dct0 e _ =>
      cases r
      obtain ⟨g, vs, kv, o, es, ep, ho, ex, hd, ks, ps, _⟩ := dk_reads I e
      cases kv
      cases hes : es.toList with
      | nil =>
        refine ⟨_, .dict (as := []) (bs := []) ho ex.1 hd ?_ ?_, fun m => ?_⟩
        · rw [hes]; exact .nil
        · rw [hes]; exact .nil
        · rcases List.mem_cons.mp m with m | m
          · rw [← m] at g
            simp at g
          · cases m
      | cons z zs =>
        rw [hes] at ps
        cases ps
    | @dct1 a x i e _ =>
      cases r
      obtain ⟨g, vs, kv, o, es, ep, ho, ex, hd, ks, ps, _⟩ := dk_reads I e
      cases kv with
      | @cons _ q _ _ r0 rest =>
      cases rest
      obtain ⟨qk, qv⟩ := q
      obtain ⟨rk, t, rv⟩ := r0
      dsimp only at rk rv
      subst rk rv
      cases hes : es.toList with
      | nil =>
        rw [hes] at ps
        cases ps
      | cons z zs =>
        rw [hes] at ps
        cases ps with
        | cons p1 p2 p3 =>
        cases p3
        obtain ⟨tk, ek⟩ : ∃ tk, z.key = .str x tk := by
          have p1 : keyIs (Sum.inr x) z.key = true := p1
          rcases keyIs_shape p1 with ⟨i, t, h1, h2⟩ | ⟨y, t, h1, h2⟩
          · cases h1
          · cases h1
            exact ⟨t, h2⟩
        refine ⟨_, .dict (as := [] ++ []) (bs := [] ++ []) ho ex.1 hd ?_ ?_, fun m => ?_⟩
        · rw [hes]
          show ReadsAll s.heap [z.key] [.str x] _
          rw [ek]
          exact .cons (.str x tk) .nil
        · rw [hes]
          show ReadsAll s.heap [z.val] [.int i] _
          rw [p2]
          exact .cons (.int i t) .nil
        · rcases List.mem_cons.mp m with m | m
          · rw [← m] at g
            simp at g
          · cases m
theorem Dd.readsAll (I : Inv X pins σ H s) : ∀ (ds : List PyData) (vs : List V) (us : List Value), DdAll X.K H N vs ds → Vals vs us → ∃ as, ReadsAll s.heap us ds as ∧ sysModules ∉ as
  | [], _, _, h, r => by
    cases h
    cases r
    exact ⟨[], .nil, nofun⟩
  | d :: ds, _, _, h, r => by
    cases h with
    | cons h1 h2 =>
      cases r with
      | cons r1 r2 =>
        obtain ⟨as, q1, n1⟩ := Dd.reads I d _ _ h1 r1
        obtain ⟨bs, q2, n2⟩ := Dd.readsAll I ds _ _ h2 r2
        exact ⟨as ++ bs, .cons q1 q2, fun m => (List.mem_append.mp m).elim n1 n2⟩
end
/-- repr(x), x such data -/
def rReprD (K : PySem.W.Frag) : List V → Hp → VK → Prop := fun xs H Q =>
  ∃ (x : V) (d : PyData) (N : Addr → Prop), xs = [x] ∧ Dd K H N x d ∧ d.showable = true ∧ d.shown.length ≤ sizeLine ∧ d.depth ≤ 60 ∧ Q (.str d.shown) H
theorem call_reprD (g : Free X.A) (hu : X.A.units + 64 < cLine) : CallR X (.builtin "repr") (rReprD X.K) := by
  intro pins s σ H xs us Q I r h
  obtain ⟨x, d, N, rfl, hd, hs, hz, hdp, q⟩ := h
  obtain ⟨u, rfl, ru⟩ := r.one
  obtain ⟨as, rd, hn⟩ := Dd.reads I d x u hd ru
  have fin : ∀ (h' : Heap) (tk tk' : Nat), (∀ b o, s.heap.get? b = some o → h'.get? b = some o) →
      EP X pins σ Q (.str d.shown tk) { s with heap := h', toks := tk' } :=
    fun h' tk tk' k => ⟨.str d.shown, H, I.kept k, ⟨tk, rfl⟩, q⟩
  have fin0 : ∀ (tk tk' : Nat), EP X pins σ Q (.str d.shown tk) { s with toks := tk' } :=
    fun tk tk' => ⟨.str d.shown, H, I.tok tk', ⟨tk, rfl⟩, q⟩
  cases rd with
  | none => exact P.repr_of_none (fin0 _ _)
  | bool b => exact P.repr_of_bool (fin0 _ _)
  | int i t => exact P.repr_of_int (by simpa [PyData.showable] using hs) (fin0 _ _)
  | str z t => exact P.repr_of_str (fin0 _ _) hz
  | list h1 h2 h3 h4 =>
    exact repr_of_reads' (.list h1 h2 h3 h4) hs (fun _ => hn) g (by omega) (fun _ _ e => e) (fun h' u tk k => fin h' u tk k) hz
  | tuple h1 h2 h3 h4 =>
    exact repr_of_reads' (.tuple h1 h2 h3 h4) hs (fun _ => hn) g (by omega) (fun _ _ e => e) (fun h' u tk k => fin h' u tk k) hz
  | dict h1 h2 h3 h4 h5 =>
    exact repr_of_reads' (.dict h1 h2 h3 h4 h5) hs (fun _ => hn) g (by omega) (fun _ _ e => e) (fun h' u tk k => fin h' u tk k) hz
end
end Gd
end

section
set_option Elab.async false
set_option linter.all false
set_option maxRecDepth 100000
set_option maxHeartbeats 4000000
namespace Gd
open PySem PySem.Spec PyProof.Rows L2

section
variable {X : Cx}
/-- the address of a new object is none of the interpreter's own -/
theorem new_no {pins : List (Addr × Obj)} {σ : L2.St} {H : Hp} {s : Shared} (I : Inv X pins σ H s) : s.heap.objs.size ≠ sysModules := Nat.ne_of_gt I.big
def tLstS (t : TA) : TE := fun σ H Q => t σ H fun xs H1 => xs.length ≤ sizeLine ∧ ∀ p, H1 p = none → p ≠ sysModules → Q (.ref p) (upd H1 p (.lst xs))
theorem pe_lstS {es : List Expr} {pos : Pos} {t : TA} (h : PA X es t) : PE X (.List es pos) (tLstS t) := by
  constructor
  intro pins s σ H Q I hq
  refine wpAny_List_spliced (thn (h.run pos pins s σ H _ I hq) ?_)
  rintro us s1 ⟨xs, H1, J, r, z, q⟩
  have hn : H1 s1.heap.objs.size = none := J.hok.fresh (Nat.le_refl _)
  have J2 := J.laid (a := s1.heap.objs.size) (o := .lst xs) (h' := s1.heap.push { cls := .type "list", data := .seq us.toArray }) (t' := s1.toks)
    (fun b u e => Heap.get?_push_of_some _ e) (Nat.le_refl _) ⟨z, us, 0, r, Heap.get?_push_size _ rfl⟩
  exact ⟨by rw [← r.length]; exact z, .ref s1.heap.objs.size, _, J2, rfl, q _ hn (new_no J)⟩
theorem call_listS : CallR X (.type "list") (fun xs H Q => ∃ p ys, xs = [.ref p] ∧ SqT X.K H p ys ∧ ∀ l, H l = none → l ≠ sysModules → Q (.ref l) (upd H l (.lst ys))) := by
  intro pins s σ H xs us Q I r h
  obtain ⟨p, ys, rfl, hq, q⟩ := h
  obtain ⟨u, rfl, rx⟩ := r.one
  cases rx
  obtain ⟨its, r', pl, hz⟩ := I.tuple hq
  have hlen := r'.length
  obtain ⟨o, ho, hc, n, hd⟩ := pl
  refine call_list_seq p (.inr rfl) ho hc hd ?_ (by simp only [List.size_toArray] <;> omega)
  intro h' c' kp e
  have J := I.laid (a := s.heap.objs.size) (o := .lst ys) (t' := s.toks) kp (Nat.le_refl _) ⟨hz, its, c', r', e⟩
  exact ⟨.ref s.heap.objs.size, _, J, rfl, q _ (I.hok.fresh (Nat.le_refl _)) (new_no I)⟩

/-! truths as numbers -/
theorem op_add_bi : OpR X (binaryOp .Add) (fun x y H Q => ∃ k i, x = .bl k ∧ y = .int i ∧ Q (.int ((if k = true then 1 else 0) + i)) H) := by
  intro pins s σ H x y v u Q I rx ry h
  obtain ⟨k, i, rfl, rfl, q⟩ := h
  obtain ⟨t, rfl⟩ := ry
  cases rx
  exact IntBool.add_bool_int ⟨.int ((if k = true then 1 else 0) + i), H, I.tok _, ⟨_, rfl⟩, q⟩
theorem op_sub_ib : OpR X (binaryOp .Sub) (fun x y H Q => ∃ i k, x = .int i ∧ y = .bl k ∧ Q (.int (i - (if k = true then 1 else 0))) H) := by
  intro pins s σ H x y v u Q I rx ry h
  obtain ⟨i, k, rfl, rfl, q⟩ := h
  obtain ⟨t, rfl⟩ := rx
  cases ry
  exact IntBool.sub_int_bool ⟨.int (i - (if k = true then 1 else 0)), H, I.tok _, ⟨_, rfl⟩, q⟩
theorem call_str_bool : CallR X (.type "str") (fun xs H Q => ∃ b, xs = [.bl b] ∧ Q (.str (if b then "True" else "False")) H) := by
  intro pins s σ H xs us Q I r h
  obtain ⟨b, rfl, q⟩ := h
  obtain ⟨u, rfl, rx⟩ := r.one
  cases rx
  exact PySem.P.str_of_bool ⟨.str (if b then "True" else "False"), H, I.tok _, ⟨_, rfl⟩, q⟩
end

/-! a dict is no text -/
section
variable {A : Around} {s : Shared} {P : Program} {w : World}
theorem dict_declines (d : Addr) (b : Str) (u : Tok) :
    Meets (Builtin.«dict.__eq__» ⟨[.ref d, .str b u], []⟩) (fun _ R s => s.TypeIs (.ref d) "dict" ∧ R (.ok (.ret .notImplemented)) s) :=
  .of_wp fun prog w A R s h => by
    obtain ⟨hd, h⟩ := h
    show wpAny _ _ (Builtin.Dict.dictSlotArgs "__eq__" ⟨[.ref d, .str b u], []⟩ >>= _) _ _ s
    refine wpAny_bind ?_
    unfold Builtin.Dict.dictSlotArgs
    refine wpAny_bind (wpAny_notOrdered_dict hd ?_)
    refine wpAny_pure ?_
    refine wpAny_bind (wpAny_isInstance (T := "str") (typeIs_str s b u) PySem.F.sub_str_dict ?_)
    simp only [Bool.not_false, if_true]
    exact wpAny_bind (wpAny_rule (wpAny_pure ⟨_, rfl, h⟩))
theorem str_declines (d : Addr) (es : Array DictEntry) (ep : Nat) (b : Str) (u : Tok) :
    Meets (Builtin.«str.__eq__» ⟨[.str b u, .ref d], []⟩)
      (fun _ R s => s.heap.get? d = some { cls := .type "dict", dict := none, data := .dict es ep, slots := #[] } ∧ R (.ok (.ret .notImplemented)) s) :=
  .of_wp fun prog w A R s h => by
    obtain ⟨hp, g, d, tk, os⟩ := s
    obtain ⟨hd, h⟩ := h
    wp_walk using wpAny_load hd
    exact ⟨_, rfl, h⟩
variable {d : Addr} {es : Array DictEntry} {ep : Nat}
theorem rc_dict_str (b : Str) (u : Tok) (ho : s.heap.get? d = some { cls := .type "dict", dict := none, data := .dict es ep, slots := #[] }) (hu : A.units < cLine) :
    SeqAt.RcAt A s (.ref d) (.str b u) false := fun prog w E Q h =>
  SeqAt.rc_eq_decline_or (k := false) ⟨_, ho, rfl⟩ (typeIs_str s b u) (by decide) PySem.F.sub_str_dict PySem.F.slot_dict_eq PySem.F.slot_str_eq_refl
    (fun _ hq => call_meets PySem.F.slot_dict_eq ⟨_, ho, rfl⟩ PySem.F.entry_dict_eq (PySem.F.args_dict_eq_2 _ _) (dict_declines d b u) ⟨⟨_, ho, rfl⟩, hq⟩)
    (fun _ hq => call_meets PySem.F.slot_str_eq_refl (typeIs_str s b u) PySem.F.entry_str_eq (PySem.F.args_str_eq_2 _ _) (str_declines d es ep b u) ⟨ho, hq⟩)
    (fun _ hq => wpAny_of_eq (rfl : isSame (.ref d) (.str b u) = pure false) hq) (.inr hu) h
theorem rc_str_dict (b : Str) (u : Tok) (ho : s.heap.get? d = some { cls := .type "dict", dict := none, data := .dict es ep, slots := #[] }) (hu : A.units < cLine) :
    SeqAt.RcAt A s (.str b u) (.ref d) false := fun prog w E Q h =>
  SeqAt.rc_eq_decline_or (k := false) (typeIs_str s b u) ⟨_, ho, rfl⟩ (by decide) PySem.F.sub_dict_str PySem.F.slot_str_eq PySem.F.slot_dict_eq_refl
    (fun _ hq => call_meets PySem.F.slot_str_eq (typeIs_str s b u) PySem.F.entry_str_eq (PySem.F.args_str_eq_2 _ _) (str_declines d es ep b u) ⟨ho, hq⟩)
    (fun _ hq => call_meets PySem.F.slot_dict_eq_refl ⟨_, ho, rfl⟩ PySem.F.entry_dict_eq (PySem.F.args_dict_eq_2 _ _) (dict_declines d b u) ⟨⟨_, ho, rfl⟩, hq⟩)
    (fun _ hq => wpAny_of_eq (rfl : isSame (.str b u) (.ref d) = pure false) hq) (.inr hu) h
theorem eq_str_dict (b : Str) (u : Tok) (ho : s.heap.get? d = some { cls := .type "dict", dict := none, data := .dict es ep, slots := #[] }) (hu : A.units < cLine) :
    SeqAt.EqAt A s (.str b u) (.ref d) false := fun prog w E Q h => by
  unfold eqBool
  refine wpAny_holding (wpAny_ite_split (fun q => absurd (eq_of_beq q) nofun) (fun _ => ?_))
  exact wpAny_bind (rc_str_dict b u ho hu prog w E _ (wpAny_truthy_bool h))
end

/-! data beside a text -/
def isStr (d : PyData) (b : Str) : Bool := match d with
  | .str x => x == b
  | _ => false
section
variable {X : Cx} {pins : List (Addr × Obj)} {σ : L2.St} {H : Hp} {s : Shared} {N : Addr → Prop} {A : Around}
theorem Dd.dictAt (I : Inv X pins σ H s) {v : V} {u : Value} {ks : List (PyData × PyData)} (h : Dd X.K H N v (.dict ks)) (r : RelV v u) :
    ∃ d es ep, u = .ref d ∧ s.heap.get? d = some { cls := .type "dict", dict := none, data := .dict es ep, slots := #[] } := by
  have key : ∀ {a : Addr} {kvs : List (Key × V)}, H a = some (.dK kvs) → ∃ es ep, s.heap.get? a = some { cls := .type "dict", dict := none, data := .dict es ep, slots := #[] } := by
    intro a kvs e
    obtain ⟨_, vs, _, o, es, ep, ho, ⟨e1, e2, e3⟩, hd, _⟩ := dk_reads I e
    obtain ⟨oc, od, dt, sl⟩ := o
    dsimp only at e1 e2 e3 hd
    subst e1 e2 e3 hd
    exact ⟨es, ep, ho⟩
  cases h with
  | dct0 e _ =>
    cases r
    obtain ⟨es, ep, ho⟩ := key e
    exact ⟨_, es, ep, rfl, ho⟩
  | dct1 e _ =>
    cases r
    obtain ⟨es, ep, ho⟩ := key e
    exact ⟨_, es, ep, rfl, ho⟩
theorem Dd.strEq (I : Inv X pins σ H s) (hu : A.units < cLine) {d : PyData} {v : V} {u : Value} (h : Dd X.K H N v d) (r : RelV v u) (b : Str) (t : Tok) :
    SeqAt.EqAt A s (.str b t) u (isStr d b) := by
  cases d with
  | none =>
    cases h
    cases r
    exact .str_none b t
  | bool k =>
    cases h
    cases r
    exact .str_bool b t k
  | int i =>
    cases h
    obtain ⟨t2, rfl⟩ := r
    exact .str_int b t i t2
  | str x =>
    cases h
    obtain ⟨t2, rfl⟩ := r
    have e := SeqAt.EqAt.str_str (A := A) (s := s) b t x t2
    have e2 : isStr (.str x) b = (b == x) := by
      show (x == b) = (b == x)
      exact Bool.eq_iff_iff.mpr ⟨fun z => by rw [eq_of_beq z] <;> exact beq_self_eq_true _, fun z => by rw [eq_of_beq z] <;> exact beq_self_eq_true _⟩
    rw [e2]
    exact e
  | list ds =>
    cases h with
    | lst e n g k =>
    cases r
    obtain ⟨its, _, pl, _⟩ := I.list (SqL.of e)
    exact .str_list b t pl.isList hu
  | tuple ds =>
    cases h with
    | tup e k =>
    cases r
    obtain ⟨its, _, pl, _⟩ := I.tuple e
    exact .str_tuple b t pl hu
  | dict ks =>
    obtain ⟨a, es, ep, rfl, ho⟩ := Dd.dictAt I h r
    exact eq_str_dict b t ho hu
end
end Gd
end

section
set_option Elab.async false
set_option linter.all false
set_option maxRecDepth 100000
set_option maxHeartbeats 4000000
namespace Gd
open PySem PySem.Spec PyProof.Rows L2

section
variable {X : Cx}
/-- data == a text -/
def rEqS (K : PySem.W.Frag) : R2 := fun x y H Q => ∃ (N : Addr → Prop) (d : PyData) (b : Str), Dd K H N x d ∧ y = .str b ∧ Q (.bl (isStr d b)) H
theorem op_eqS (hu : X.A.units < cLine) : OpR X (compareOp .Eq) (rEqS X.K) := by
  intro pins s σ H x y v u Q I rx ry h
  obtain ⟨N, d, b, h, rfl, q⟩ := h
  obtain ⟨t, rfl⟩ := ry
  have fin : EP X pins σ Q (.bool (isStr d b)) s := ⟨.bl _, H, I, rfl, q⟩
  cases d with
  | none =>
    cases h
    cases rx
    exact SeqAt.RcAt.none_str b t _ _ _ _ fin
  | bool k =>
    cases h
    cases rx
    exact SeqAt.RcAt.bool_str k b t _ _ _ _ fin
  | int i =>
    cases h
    obtain ⟨t2, rfl⟩ := rx
    exact SeqAt.RcAt.int_str i t2 b t _ _ _ _ fin
  | str z =>
    cases h
    obtain ⟨t2, rfl⟩ := rx
    exact SeqAt.RcAt.str_str z t2 b t _ _ _ _ fin
  | list ds =>
    cases h with
    | lst e n g k =>
    cases rx
    obtain ⟨its, _, pl, _⟩ := I.list (SqL.of e)
    exact SeqAt.RcAt.list_str b t pl.isList hu _ _ _ _ fin
  | tuple ds =>
    cases h with
    | tup e k =>
    cases rx
    obtain ⟨its, _, pl, _⟩ := I.tuple e
    exact SeqAt.RcAt.tuple_str b t pl hu _ _ _ _ fin
  | dict ks =>
    obtain ⟨a, es, ep, rfl, ho⟩ := Dd.dictAt I h rx
    exact rc_dict_str b t ho hu _ _ _ _ fin

/-- data not in a tuple of texts -/
def rNiS (K : PySem.W.Frag) : R2 := fun x y H Q => ∃ (N : Addr → Prop) (d : PyData) (p : Addr) (bs : List Str), Dd K H N x d ∧ y = .ref p ∧ SqT K H p (bs.map V.str) ∧ Q (.bl (!bs.any (isStr d))) H
def hitS (d : PyData) : Value → Bool
  | .str b _ => isStr d b
  | _ => false
theorem hits {d : PyData} : ∀ {bs : List Str} {us : List Value}, Vals (bs.map V.str) us → us.any (hitS d) = bs.any (isStr d) ∧ ∀ u ∈ us, ∃ b t, u = .str b t
  | [], _, h => by
    cases h
    exact ⟨rfl, nofun⟩
  | b :: bs, _, h => by
    cases h with
    | cons r rs =>
    obtain ⟨t, rfl⟩ := r
    obtain ⟨e, f⟩ := hits rs
    refine ⟨?_, fun u m => ?_⟩
    · rw [List.any_cons, List.any_cons, e]
      rfl
    · rcases List.mem_cons.mp m with rfl | m
      · exact ⟨b, t, rfl⟩
      · exact f u m
theorem op_notInS (hu : X.A.units + 1 < cLine) : OpR X (compareOp .NotIn) (rNiS X.K) := by
  intro pins s σ H x y v u Q I rx ry h
  obtain ⟨N, d, p, bs, hd, rfl, hp, q⟩ := h
  cases ry
  obtain ⟨its, r, pl, _⟩ := I.tuple hp
  obtain ⟨e, f⟩ := hits (d := d) r
  refine SeqAt.notIn_tupleAt (hitS d) pl (fun w hw => ?_) ⟨.bl _, H, I, rfl, ?_⟩
  · obtain ⟨b, t, rfl⟩ := f w (by simpa using hw)
    exact Dd.strEq I (by show X.A.units + 1 < cLine; exact hu) hd rx b t
  · rw [show its.toArray.any (hitS d) = its.any (hitS d) by simp, e]
    exact q
/-- a tuple == () -/
def rEqT0 (K : PySem.W.Frag) : R2 := fun x y H Q => ∃ a b xs, x = .ref a ∧ y = .ref b ∧ SqT K H a xs ∧ SqT K H b [] ∧ Q (.bl xs.isEmpty) H
theorem op_eqT0 (hu : X.A.units < cLine) : OpR X (compareOp .Eq) (rEqT0 X.K) := by
  intro pins s σ H x y v u Q I rx ry h
  obtain ⟨a, b, xs, rfl, rfl, ha, hb, q⟩ := h
  cases rx
  cases ry
  obtain ⟨its, r, pl, _⟩ := I.tuple ha
  obtain ⟨its2, r2, pl2, _⟩ := I.tuple hb
  cases r2
  have e : ((List.range (min its.toArray.size (#[] : Array Value).size)).all (fun _ => true) && its.toArray.size == (#[] : Array Value).size) = xs.isEmpty := by
    cases r with
    | nil => rfl
    | cons _ _ => simp
  refine SeqAt.RcAt.tuples (e := fun _ => true) pl pl2 hu (fun j _ h2 => absurd h2 (by simp)) _ _ _ _ ⟨.bl _, H, I, rfl, ?_⟩
  rw [e]
  exact q
end

/-! t[::-1] -/
section
variable {prog : Program} {w : World} {A : Around} {E : Value → Shared → Prop} {s : Shared}
theorem places_rev (n : Nat) : Builtin.Slice.slicePlaces ((n : Int) - 1) (-1) (-1) = n := by
  unfold Builtin.Slice.slicePlaces
  rw [if_neg (by decide)]
  split
  · rw [show (-(-1) : Int) = 1 by decide, Int.ediv_one]
    omega
  · omega
theorem pick_rev (xs : Array Value) : ((List.range xs.size).filterMap fun (k : Nat) => xs[(((xs.size : Int) - 1) + (k : Int) * (-1)).toNat]?).toArray = xs.toList.reverse.toArray := by
  have e : (List.range xs.size).filterMap (fun (k : Nat) => xs[(((xs.size : Int) - 1) + (k : Int) * (-1)).toNat]?) =
      ((List.range xs.size).map fun k => xs.size - 1 - k).filterMap (xs[·]?) := by
    rw [List.filterMap_map]
    refine congrArg (fun f => List.filterMap f (List.range xs.size)) (funext fun k => ?_)
    show xs[(((xs.size : Int) - 1) + (k : Int) * (-1)).toNat]? = xs[xs.size - 1 - k]?
    rw [show (((xs.size : Int) - 1) + (k : Int) * (-1)).toNat = xs.size - 1 - k by omega]
  rw [e, PySem.W.krv_range, List.filterMap_reverse, PySem.W.krv_all]
theorem applied_rev {sl : Addr} {vs : Value} {n : Nat} {Q : Int × Int × Nat → Shared → Prop} (hs : s.heap.IsSliceOf sl .none .none vs) (ps : IsPart vs (some (-1)))
    (h : Q ((n : Int) - 1, -1, n) s) : wpAny (model prog w) A (Builtin.Slice.sliceApplied (.ref sl) (pure (n : Int))) Q E s := by
  obtain ⟨os, hos, hcs, hds⟩ := id hs
  unfold Builtin.Slice.sliceApplied Builtin.Slice.sliceFields
  refine wpAny_bind (wpAny_bind (wpAny_field hos hds (x := .none) rfl ?_))
  refine wpAny_bind (wpAny_field hos hds (x := .none) rfl (wpAny_bind (wpAny_field hos hds (x := vs) rfl (wpAny_pure ?_))))
  refine wpAny_bind (HT.slicePart_ ps ?_)
  show wpAny _ _ (if ((-1 : Int) == 0) = true then _ else _) _ _ s
  rw [if_neg (by decide)]
  refine wpAny_bind (slicePart_none (wpAny_bind (slicePart_none (wpAny_bind (wpAny_pure ?_)))))
  show wpAny _ _ (pure ((n : Int) - 1, (-1 : Int), Builtin.Slice.slicePlaces ((n : Int) - 1) (-1) (-1))) _ _ s
  rw [places_rev]
  exact wpAny_pure h
theorem get_rev {t sl : Addr} {items : Array Value} {vs : Value} {Q : Value → Shared → Prop} (ht : IsTup s.heap t items) (hs : s.heap.IsSliceOf sl .none .none vs) (ps : IsPart vs (some (-1)))
    (h : Q (.ref s.heap.objs.size) { s with heap := s.heap.push { cls := .type "tuple", data := .seq items.toList.reverse.toArray } })
    (hz : items.size ≤ sizeLine) : wpAny (model prog w) A (getItem (.ref t) (.ref sl)) Q E s := by
  have ok : sizeOk (.seq items.toList.reverse.toArray) := by
    show items.toList.reverse.toArray.size ≤ sizeLine
    simpa using hz
  obtain ⟨os, hos, hcs, hds⟩ := id hs
  have hT : s.TypeIs (.ref sl) "slice" := ⟨os, hos, hcs⟩
  unfold getItem
  try with_reducible refine wpAny_holding ?_
  refine wpAny_bind (wpAny_sequenceKey ht.typeIs (by decide) ?_)
  refine wpAny_bind (wpAny_callSpecial?_slot (name := Str.ofString "__getitem__") ht.typeIs PyProof.Rows.slot_tuple_getitem
    (wpAny_call_entry PyProof.Rows.slot_tuple_getitem ht.typeIs entry_tuple_getitem ?_ (args_tuple_getitem _ _)))
  show wpAny _ _ (Builtin.Tuple.tupleItemsOf (.ref t) >>= _) _ _ s
  refine wpAny_bind (PyProof.Rows.tupleItemsOf_ ht (wpAny_bind (wpAny_typeOf hT ?_)))
  rw [if_pos (by decide)]
  refine wpAny_bind (applied_rev hs ps ?_)
  have no : ¬ ((((items.size : Int) - 1) == 0 && (-1 : Int) == 1 && items.size == items.size) = true) := by simp
  show wpAny _ _ (if (((items.size : Int) - 1) == 0 && (-1 : Int) == 1 && items.size == items.size) = true then _ else _) _ _ s
  rw [if_neg no, pick_rev]
  first
    | exact wpAny_bind (m := Builtin.Tuple.tupleExact _) (wpAny_newObj_type (wpAny_pure ⟨_, rfl, wpAny_pure h⟩) ok)
    | exact wpAny_bind (m := Builtin.Tuple.tupleExact _) (wpAny_newObj_type (wpAny_bind (wpAny_pure (wpAny_pure ⟨_, rfl, wpAny_pure h⟩))) ok)
    | exact wpAny_bind (wpAny_bind (m := Builtin.Tuple.tupleExact _) (wpAny_newObj_type (wpAny_pure (wpAny_pure ⟨_, rfl, wpAny_pure h⟩)) ok))
    | exact wpAny_bind (wpAny_bind (m := Builtin.Tuple.tupleExact _) (wpAny_newObj_type (wpAny_pure ⟨_, rfl, wpAny_pure h⟩) ok))
end
section
variable {X : Cx}
def tRevT (K : PySem.W.Frag) (te : TE) : TE := fun σ H Q => te σ H fun x H1 => ∃ a xs, x = .ref a ∧ SqT K H1 a xs ∧ ∀ p, H1 p = none → Q (.ref p) (upd H1 p (.tup xs.reverse))
theorem pe_revT {e : Expr} {te : TE} {k : Nat} {p1 p2 p3 pos : Pos} (he : PE X e te) :
    PE X (.Subscript e (.Slice none none (some (.UnaryOp .USub (.Constant (.int 1) k p1) p2)) p3) pos) (tRevT X.K te) := by
  constructor
  intro pins s σ H Q I h
  refine Subscript_ (thn (he.run pins s σ H _ I h) ?_)
  rintro v s1 ⟨x, H1, I1, r1, a, xs, rfl, hx, q⟩
  cases r1
  have hst : PO X (some (.UnaryOp .USub (.Constant (.int 1) k p1) p2)) (tPart (tUn (rU fun i => .int (-i)) (tC (.int 1)))) := po_some (pe_un un_neg pe_int)
  refine wpAny_Slice (thn (po_none.run pins s1 σ H1 (fun o H2 => o = none ∧ H2 = H1) I1 ⟨rfl, rfl⟩) ?_)
  rintro vl s2 ⟨l, H2, I2, pl, rfl, rfl⟩
  refine thn (po_none.run pins s2 σ H2 (fun o H3 => o = none ∧ H3 = H2) I2 ⟨rfl, rfl⟩) ?_
  rintro vu s3 ⟨u, H3, I3, pu, rfl, rfl⟩
  refine thn (hst.run pins s3 σ H3 (fun o H4 => o = some (-1) ∧ H4 = H3) I3 ⟨1, rfl, -1, rfl, rfl, rfl⟩) ?_
  rintro vs s4 ⟨o, H4, I4, ps, rfl, rfl⟩
  cases pl
  cases pu
  have J : Inv X pins σ H4 { s4 with heap := s4.heap.push { cls := .type "slice", data := .fields #[.none, .none, vs] } } := I4.kept (t' := s4.toks) fun b ob z => Heap.get?_push_of_some _ z
  obtain ⟨its, r, ht, hz⟩ := J.tuple hx
  have hlen := r.length
  refine tail_any (ops := [.ref a, .ref s4.heap.objs.size]) ht.typeIs (PyProof.Rows.slot_tuple_getitem.lookup) ?_ (by with_unfolding_all rfl)
  refine get_rev ht (Heap.IsSliceOf.new _ .none .none vs) ps ?_ (by rw [List.size_toArray]; omega)
  refine ⟨.ref _, _, J.laid (t' := s4.toks) (o := .tup xs.reverse) (fun b ob z => Heap.get?_push_of_some _ z) (Nat.le_refl _) ?_, rfl, q _ (J.hok.fresh (Nat.le_refl _))⟩
  exact ⟨by rw [List.length_reverse]; exact hz, _, r.reverse, IsTup.new _ _⟩
end
end Gd
end

section
set_option Elab.async false
set_option linter.all false
set_option maxRecDepth 100000
set_option maxHeartbeats 4000000
/-! A pen: a list of the cells' list at c, the place of the next one, what is left of a great one. -/
namespace Gd
open PySem PySem.Spec PyProof.Rows L2
def Pen (H : Hp) (l c : Addr) (S : Int) : Prop := ∃ (ns : List Int) (t ov : Int), H l = some (.lst [.ref c, .int t, .int ov]) ∧ H c = some (.lst (ns.map V.int)) ∧ ns.length ≤ 63 ∧ 0 ≤ t ∧ t ≤ S
section
variable {H H' : Hp} {l c q : Addr} {S T : Int} {o : HO}
theorem Pen.le (h : Pen H l c S) (le : S ≤ T) : Pen H l c T := by
  obtain ⟨ns, t, ov, a, b, d, e, f⟩ := h
  exact ⟨ns, t, ov, a, b, d, e, by omega⟩
theorem Pen.apart (h : Pen H l c S) : l ≠ c := by
  obtain ⟨ns, t, ov, a, b, _⟩ := h
  intro e
  rw [e, b] at a
  cases ns with
  | nil => cases a
  | cons x r => cases a
theorem Pen.not (h : Pen H l c S) (n : H q = none) : q ≠ l ∧ q ≠ c := by
  obtain ⟨ns, t, ov, a, b, _⟩ := h
  exact ⟨fun e => (by rw [e, a] at n; cases n), fun e => (by rw [e, b] at n; cases n)⟩
theorem Pen.same (h : Pen H l c S) (s : Same H H') : Pen H' l c S := by
  obtain ⟨ns, t, ov, a, b, d, e, f⟩ := h
  exact ⟨ns, t, ov, s _ _ a, s _ _ b, d, e, f⟩
theorem Pen.off (h : Pen H l c S) (n1 : q ≠ l) (n2 : q ≠ c) : Pen (upd H q o) l c S := by
  obtain ⟨ns, t, ov, a, b, d, e, f⟩ := h
  exact ⟨ns, t, ov, by rw [upd_ne n1.symm]; exact a, by rw [upd_ne n2.symm]; exact b, d, e, f⟩
end
theorem sq_le {t B : Int} (h0 : 0 ≤ t) (h : t ≤ B) : 0 ≤ t * t ∧ t * t ≤ B * B := ⟨Int.mul_nonneg h0 h0, Int.mul_le_mul h h h0 (by omega)⟩
theorem mul_le {x t A B : Int} (hx : 0 ≤ x) (hA : x ≤ A) (h0 : 0 ≤ t) (h : t ≤ B) : 0 ≤ x * t ∧ x * t ≤ A * B := ⟨Int.mul_nonneg hx h0, Int.mul_le_mul hA h h0 (by omega)⟩
def spDraw : Sp := fun vs H Q _ => ∃ (l c : Addr) (m S : Int), vs = [.ref l, .int m] ∧ Pen H l c S ∧ 0 < m ∧ m < 1073741824 ∧ S ≤ 100000 ∧
  ∀ (r : Int) (H' : Hp), 0 ≤ r → r < m → Pen H' l c (S + 1) → Ex1 l H H' → Q (.int r) H'
end Gd
end

section
set_option Elab.async false
set_option linter.all false
set_option maxRecDepth 100000
set_option maxHeartbeats 4000000
namespace K20
open PySem PySem.Spec PyProof.Rows L2 Gd
def topS (i : Nat) : Stmt := PySem.Challenge.pw_plansamid_k20_counts_told.main.body.getD i (.Pass ⟨0, 0, 0, 0⟩)
abbrev sPen : Stmt := topS 28
abbrev sDraw : Stmt := topS 29
theorem scPen : FnScope ["_law_script"] ["_law_script"] (defScope sPen) := ⟨rfl, rfl, rfl, by decide +kernel, rfl, by decide +kernel, by decide +kernel⟩
abbrev nDraw : List Str := ["_law_pen_here", "_law_many", "_law_digit", "_law_at", "_law_cell", "_law_whole", "_law_mixed"]
theorem scDraw : FnScope nDraw ["_law_pen_here", "_law_many"] (defScope sDraw) := ⟨rfl, rfl, rfl, by decide +kernel, rfl, by decide +kernel, by decide +kernel⟩
def spPen (K : PySem.W.Frag) : Sp := fun vs H Q _ => ∃ (a : Addr) (ns : List Int), vs = [.ref a] ∧ SqL K H a (ns.map V.int) ∧ ns.length ≤ 63 ∧ ∀ (l c : Addr) (H' : Hp), Same H H' → H l = none → H c = none → Pen H' l c 0 → Q (.ref l) H'
theorem cut_all (xs : List V) (h : xs.length ≤ 63) : cutV xs none (some (63 : Int)) = xs := by
  unfold cutV
  rw [HT.sIx_none, show (63 : Int) = ((63 : Nat) : Int) from rfl, HT.sIx_nat, List.drop_zero, Nat.sub_zero, Nat.min_eq_right h, List.take_length]
section
variable {P : Program} {w : World} {K : PySem.W.Frag} {mg : Str → Option Value} {base : Heap} {f fT : Addr} {fd dT : FuncData}
theorem ok_pen (F : Fun K "_law_pen" "_law_pen" sPen f fd) : FnOk P w K mg base CX0 1 f fd ["_law_script"] (spPen K) := by
  refine F.ok scPen (fun vs H Q E h => ?_) (fun cdv A outer s H vs Q E hr h => ?_)
  · obtain ⟨a, ns, rfl, _⟩ := h
    rfl
  obtain ⟨a, ns, rfl, ha, hn, q⟩ := h
  have nd := scPen.nd
  refine ⟨_, pss_one (ps_ret (pe_lst (pa_cons (pe_slice sl_list (pv 0) po_none (po_some pe_int)) (pa_cons pe_int (pa_cons pe_int pa_nil))))), ?_⟩
  refine ⟨_, rfl, _, rfl, a, _, rfl, ha, fun b nb => ?_⟩
  rw [cut_all _ (by rw [List.length_map]; exact hn)]
  have s1 := new_same (o := .lst (ns.map V.int)) nb
  refine ⟨(by show 3 ≤ sizeLine; decide), fun l nl => ?_⟩
  have s3 := s1.trans (new_same (o := .lst [.ref b, .int 0, .int 0]) nl)
  have ncl : b ≠ l := fun e => by rw [← e, upd_same] at nl; cases nl
  exact q l b _ s3 (s1.free nl) nb ⟨ns, 0, 0, upd_same, by rw [upd_ne ncl]; exact upd_same, hn, by omega, by omega⟩
theorem ok_draw (F : Fun K "_law_take" "_law_take" sDraw f fd) (mn : mg "len" = none) (ma : mg "abs" = none) (mi : mg "int" = none) : FnOk P w K mg base CX0 1 f fd ["_law_pen_here", "_law_many"] spDraw := by
  refine F.ok scDraw (fun vs H Q E h => ?_) (fun cdv A outer s H vs Q E hr h => ?_)
  · obtain ⟨l, c, m, S, rfl, _⟩ := h
    rfl
  obtain ⟨l, c, m, S, rfl, hP, m0, m1, hS, q⟩ := h
  have nlc := hP.apart
  obtain ⟨ns, t, ov, el, ec, hn, t0, t1⟩ := hP
  have nd := scDraw.nd
  have zl : sizeLine = 16777216 := rfl
  refine ⟨_, pss_cons (ps_if (pt_cmpR op_gt (pe_ix ix_list (pv 0) pe_int (fun _ _ => rfl)) pe_int (nomark _))
      (pss_cons (ps_set (i := 2) nd rfl (.inl rfl) (pe_op op_modN (pe_ix ix_list (pv 0) pe_int (fun _ _ => rfl)) (pv 1)))
      (pss_cons (ps_asg (pe_op op_fdivN (pe_ix ix_list (pv 0) pe_int (fun _ _ => rfl)) (pv 1)) (pg_sub (pv 0) pe_int set_list))
      (pss_one (ps_ret (pv 2))))) pss_nil)
    (pss_cons (ps_set (i := 3) nd rfl (.inl rfl) (pe_ix ix_list (pv 0) pe_int (fun _ _ => rfl)))
    (C8.pss_cut (ps_asg (pe_op op_add (pv 3) pe_int) (pg_sub (pv 0) pe_int set_list))
    (pss_cons (ps_set (i := 4) nd rfl (.inl rfl) (pe_op op_add (pe_op op_mul pe_int (pv 3)) pe_int))
    (C8.pss_cut (ps_if (pt_cmpR op_gt (pe_callB call_len_seq (by rfl) mn PySem.boot_len (pa_cons (pe_ix ix_list (pv 0) pe_int (fun _ _ => rfl)) pa_nil)) pe_int (nomark _))
      (pss_one (ps_set (i := 4) nd rfl (.inl rfl) (pe_ix ix_list (pe_ix ix_list (pv 0) pe_int (fun _ _ => rfl)) (pe_op op_modN (pv 3) (pe_callB call_len_seq (by rfl) mn PySem.boot_len (pa_cons (pe_ix ix_list (pv 0) pe_int (fun _ _ => rfl)) pa_nil))) (fun _ _ => rfl)))) pss_nil)
    (C8.pss_cut (ps_if (PW.pt (pw_and (pt_cmpR op_lt (pv 3) (pe_callB call_len_seq (by rfl) mn PySem.boot_len (pa_cons (pe_ix ix_list (pv 0) pe_int (fun _ _ => rfl)) pa_nil)) (nomark _))
        (pw_and1 (pt_cmpR op_ge (pe_callB call_abs (by rfl) ma (by decide +kernel) (pa_cons (pv 4) pa_nil)) (pe_op op_pow pe_int pe_int) (nomark _)))))
      (pss_cons (ps_set (i := 5) nd rfl (.inl rfl) (pe_op op_add (pe_op op_mul pe_int (pe_callB call_abs (by rfl) ma (by decide +kernel) (pa_cons (pv 4) pa_nil))) (pe_callTy call_int1 (by rfl) mi (by decide +kernel) (pa_cons (pe_cmpR op_lt (pv 4) pe_int (nomark _)) pa_nil))))
      (pss_cons (ps_asg (pe_op op_fdivN (pv 5) (pv 1)) (pg_sub (pv 0) pe_int set_list))
      (pss_one (ps_ret (pe_op op_modN (pv 5) (pv 1)))))) pss_nil)
    (C8.pss_cut (ps_set (i := 6) nd rfl (.inl rfl) (pe_op op_modN (pe_op op_pow (pe_op op_add (pe_op op_add (pe_op op_add (pe_op op_modN (pv 4) pe_int) (pe_op op_mul (pe_op op_mul pe_int (pv 3)) (pv 3))) (pe_op op_mul pe_int (pv 3))) pe_int) pe_int) pe_int))
    (C8.pss_cut (ps_set (i := 6) nd rfl (.inl rfl) (pe_op op_modN (pe_op op_pow (pe_op op_add (pe_op op_mul (pv 6) (pe_op op_add (pe_op op_modN (pv 3) pe_int) pe_int)) pe_int) pe_int) pe_int))
    (pss_one (ps_ret (pe_op op_modN (pe_op op_fdivN (pv 6) pe_int) (pv 1))))))))))), ?_⟩
  have L : SqL K H l [.ref c, .int t, .int ov] := SqL.of el
  refine ⟨_, rfl, l, _, 2, _, rfl, rfl, L, atI_nat (j := 2) rfl, _, _, rfl, rfl, _, rfl, ite2 (fun e => ?_) (fun e => ?_)⟩
  · refine ⟨_, rfl, l, _, 2, _, rfl, rfl, L, atI_nat (j := 2) rfl, _, rfl, _, _, rfl, rfl, by omega, ?_⟩
    refine ⟨_, rfl, l, _, 2, _, rfl, rfl, L, atI_nat (j := 2) rfl, _, rfl, _, _, rfl, rfl, ⟨by omega, by omega⟩, ?_⟩
    refine ⟨_, rfl, l, _, 2, 2, rfl, rfl, el, rfl, ?_⟩
    refine ⟨_, rfl, ?_⟩
    obtain ⟨r0, r1⟩ := fmod_in ov m0
    exact q _ _ r0 r1 ⟨ns, t, _, upd_same, by rw [upd_ne nlc.symm]; exact ec, hn, t0, by omega⟩ .at
  refine ⟨_, rfl, l, _, 1, _, rfl, rfl, L, atI_nat (j := 1) rfl, ?_⟩
  refine ⟨fun σ' H' => H' l = some (.lst [.ref c, .int (t + 1), .int ov]) ∧ H' c = some (.lst (ns.map V.int)) ∧ Ex1 l H H' ∧ σ' = [some (.ref l), some (.int m), none, some (.int t), none, none, none], ?_, ?_⟩
  · refine ⟨_, rfl, _, _, rfl, rfl, _, rfl, l, _, 1, 1, rfl, rfl, el, rfl, ?_⟩
    exact ⟨upd_same, by rw [upd_ne nlc.symm]; exact ec, .at, rfl⟩
  rintro σ2 H2 ⟨el2, ec2, x2, rfl⟩
  refine ⟨_, rfl, _, _, rfl, rfl, .inl ⟨by decide, by decide⟩, _, _, rfl, rfl, ?_⟩
  refine ⟨fun σ' H' => Same H2 H' ∧ ∃ v : Int, σ' = [some (.ref l), some (.int m), none, some (.int t), some (.int v), none, none], ?_, ?_⟩
  · refine ⟨_, rfl, l, _, 0, _, rfl, rfl, SqL.of el2, atI_nat (j := 0) rfl, c, _, rfl, .inl (SqL.of ec2), _, _, rfl, rfl, _, rfl, ite2 (fun e => ?_) (fun e => ?_)⟩
    · have e : decide ((0 : Int) < (((ns.map V.int).length : Nat) : Int)) = true := e
      have pos : 0 < ns.length := by
        have := of_decide_eq_true e
        rw [List.length_map] at this
        omega
      obtain ⟨i0, i1⟩ := fmod_in t (b := ((ns.length : Nat) : Int)) (by omega)
      obtain ⟨v, hv, ev⟩ := at_list (f := V.int) (xs := ns) i0 i1
      refine ⟨_, rfl, l, _, 0, _, rfl, rfl, SqL.of el2, atI_nat (j := 0) rfl, _, rfl, _, rfl, l, _, 0, _, rfl, rfl, SqL.of el2, atI_nat (j := 0) rfl, c, _, rfl, .inl (SqL.of ec2), _, _, rfl, rfl, by rw [List.length_map]; omega, ?_⟩
      refine ⟨c, _, _, .int v, rfl, rfl, SqL.of ec2, by rw [List.length_map]; exact ev, ?_⟩
      exact ⟨fun _ _ e => e, v, rfl⟩
    · exact ⟨fun _ _ e => e, _, rfl⟩
  rintro σ3 H3 ⟨s3, v, rfl⟩
  have el3 := s3 _ _ el2
  have ec3 := s3 _ _ ec2
  have x3 : Ex1 l H H3 := x2.trans (ex1_of_same s3)
  refine ⟨fun σ' H' => H' = H3 ∧ σ' = [some (.ref l), some (.int m), none, some (.int t), some (.int v), none, none], ?_, ?_⟩
  · refine ⟨_, rfl, _, rfl, l, _, 0, _, rfl, rfl, SqL.of el3, atI_nat (j := 0) rfl, c, _, rfl, .inl (SqL.of ec3), _, _, rfl, rfl, _, rfl, ite2 (fun e => ?_) (fun e => ?_)⟩
    · refine ⟨_, rfl, _, rfl, 10, 18, rfl, rfl, ⟨by decide, by decide, by decide⟩, _, _, rfl, rfl, _, rfl, ite2 (fun e => ?_) (fun e => ?_)⟩
      · refine ⟨_, rfl, _, rfl, _, _, rfl, rfl, .inl ⟨by decide, by decide⟩, _, rfl, _, _, rfl, rfl, .inr ⟨_, rfl, _, _, rfl, rfl, ?_⟩⟩
        refine ⟨_, rfl, _, rfl, _, _, rfl, rfl, ⟨by omega, by omega⟩, _, rfl, l, _, 2, 2, rfl, rfl, el3, rfl, ?_⟩
        refine ⟨_, rfl, _, rfl, _, _, rfl, rfl, by omega, ?_⟩
        exact q _ _ (fmod_in _ m0).1 (fmod_in _ m0).2 ⟨ns, t + 1, _, upd_same, by rw [upd_ne nlc.symm]; exact ec3, hn, by omega, by omega⟩ (x3.trans .at)
      · exact ⟨rfl, rfl⟩
    · exact ⟨rfl, rfl⟩
  rintro σ4 H4 ⟨rfl, rfl⟩
  obtain ⟨a0, a1⟩ := fmod_in v (b := 2147483563) (by omega)
  obtain ⟨q0, q1⟩ := sq_le t0 (show t ≤ 100000 by omega)
  have e40 : 43037 * t * t = 43037 * (t * t) := Int.mul_assoc ..
  generalize hx0 : v.fmod 2147483563 = x0 at a0 a1
  refine ⟨fun σ' H' => H' = H4 ∧ ∃ x : Int, 0 ≤ x ∧ x < 2147483647 ∧ σ' = [some (.ref l), some (.int m), none, some (.int t), some (.int v), none, some (.int x)], ?_, ?_⟩
  · refine ⟨_, rfl, _, _, rfl, rfl, by omega, _, rfl, _, _, rfl, rfl, .inl ⟨by decide, by decide⟩, _, rfl, _, _, rfl, rfl, .inr ⟨by omega, by omega⟩, _, _, rfl, rfl, _, rfl, _, _, rfl, rfl, .inl ⟨by decide, by decide⟩, _, _, rfl, rfl, _, _, rfl, rfl,
      _, _, rfl, rfl, ⟨by decide, by decide, by rw [hx0, e40]; omega⟩, _, _, rfl, rfl, by omega, ?_⟩
    exact ⟨rfl, _, (fmod_in _ (by omega)).1, (fmod_in _ (by omega)).2, rfl⟩
  rintro σ5 H5 ⟨rfl, x1, b0, b1, rfl⟩
  obtain ⟨u0, u1⟩ := fmod_in t (b := 991) (by omega)
  obtain ⟨c0, c1⟩ := mul_le b0 (show x1 ≤ 2147483647 by omega) (show 0 ≤ t.fmod 991 + 7 by omega) (show t.fmod 991 + 7 ≤ 1000 by omega)
  refine ⟨fun σ' H' => H' = H5 ∧ ∃ x : Int, 0 ≤ x ∧ x < 2147483587 ∧ σ' = [some (.ref l), some (.int m), none, some (.int t), some (.int v), none, some (.int x)], ?_, ?_⟩
  · refine ⟨_, rfl, _, rfl, _, _, rfl, rfl, by omega, _, _, rfl, rfl, _, _, rfl, rfl, .inl ⟨by omega, by omega⟩, _, _, rfl, rfl, _, _, rfl, rfl, ⟨by decide, by decide, by omega⟩, _, _, rfl, rfl, by omega, ?_⟩
    exact ⟨rfl, _, (fmod_in _ (by omega)).1, (fmod_in _ (by omega)).2, rfl⟩
  rintro σ6 H6 ⟨rfl, x2', d0, d1, rfl⟩
  refine ⟨_, rfl, _, _, rfl, rfl, ⟨by omega, by omega⟩, _, rfl, _, _, rfl, rfl, by omega, ?_⟩
  exact q _ _ (fmod_in _ m0).1 (fmod_in _ m0).2 ⟨ns, t + 1, ov, el3, ec3, hn, by omega, by omega⟩ x3
end
end K20
end

section
set_option Elab.async false
set_option linter.all false
set_option maxRecDepth 100000
set_option maxHeartbeats 4000000
namespace K20
open PySem PySem.Spec PyProof.Rows L2 Gd

/-! what a part is, by its data -/
def isLab (x : Str) : Bool := decide (1 ≤ x.length) && decide (x.length ≤ 8) && x.cps.toList.all (fun c => decide (c ∈ ("abcdefghijklmnopqrstuvwxyz" : Str).cps.toList))
def isLabD : PyData → Bool
  | .str x => isLab x
  | _ => false
def isNum : PyData → Bool
  | .int i => decide (-(10 ^ 30 : Int) < i) && decide (i < 10 ^ 30)
  | _ => false
def isWor : PyData → Bool
  | .none => true
  | d => isNum d
def signs : List Str := ["plus", "less", "times", "over"]
def cnt : Nat → PyData → Nat
  | 0, _ => 0
  | k + 1, .tuple ds => match ds with
    | [w, n] => if isStr w "number" && isNum n then 1 else 0
    | [w, x, y] =>
      if isStr w "cell" then (if isLabD x && isLabD y then 1 else 0)
      else if signs.any (isStr w) then (if decide (0 < cnt k x) && decide (0 < cnt k y) then 1 + cnt k x + cnt k y else 0) else 0
    | _ => 0
  | _ + 1, _ => 0
def isPart (d : PyData) : Bool := decide (1 ≤ cnt 5 d) && decide (cnt 5 d ≤ 15)

/-! sizes -/
mutual
def okD (k : Nat) : PyData → Bool
  | .none => true
  | .bool _ => true
  | .int i => decide (i.natAbs ≤ 10 ^ 64 + k)
  | .str x => decide (x.length ≤ 100 + k) && x.cps.toList.all (fun c => decide (c < 128))
  | .list ds => decide (ds.length ≤ k) && okAll k ds
  | .tuple ds => decide (ds.length ≤ k) && okAll k ds
  | .dict kvs => okKv k kvs
def okAll (k : Nat) : List PyData → Bool
  | [] => true
  | d :: ds => okD k d && okAll k ds
def okKv (k : Nat) : List (PyData × PyData) → Bool
  | [] => true
  | (a, b) :: r => okD k a && okD k b && okKv k r
end
mutual
theorem okD.mono {k m : Nat} (l : k ≤ m) : ∀ d : PyData, okD k d = true → okD m d = true
  | .none, _ => rfl
  | .bool _, _ => rfl
  | .int i, h => by
    simp only [okD, decide_eq_true_eq] at h ⊢
    exact Nat.le_trans h (Nat.add_le_add_left l _)
  | .str x, h => by
    simp only [okD, Bool.and_eq_true, decide_eq_true_eq] at h ⊢
    exact ⟨by omega, h.2⟩
  | .list ds, h => by
    simp only [okD, Bool.and_eq_true, decide_eq_true_eq] at h ⊢
    exact ⟨by omega, okAll.mono l ds h.2⟩
  | .tuple ds, h => by
    simp only [okD, Bool.and_eq_true, decide_eq_true_eq] at h ⊢
    exact ⟨by omega, okAll.mono l ds h.2⟩
  | .dict kvs, h => by
    simp only [okD] at h ⊢
    exact okKv.mono l kvs h
theorem okAll.mono {k m : Nat} (l : k ≤ m) : ∀ ds : List PyData, okAll k ds = true → okAll m ds = true
  | [], _ => rfl
  | d :: ds, h => by
    simp only [okAll, Bool.and_eq_true] at h ⊢
    exact ⟨okD.mono l d h.1, okAll.mono l ds h.2⟩
theorem okKv.mono {k m : Nat} (l : k ≤ m) : ∀ kvs : List (PyData × PyData), okKv k kvs = true → okKv m kvs = true
  | [], _ => rfl
  | (a, b) :: r, h => by
    simp only [okKv, Bool.and_eq_true] at h ⊢
    exact ⟨⟨okD.mono l a h.1.1, okD.mono l b h.1.2⟩, okKv.mono l r h.2⟩
end
theorem int_short {i : Int} {k : Nat} (hk : k ≤ 50) (h : i.natAbs ≤ 10 ^ 64 + k) : (PyData.int i).shown.length ≤ 100 ∧ i.natAbs.log2 < 1920 := by
  have h1 : i.natAbs < 10 ^ 65 := Nat.lt_of_le_of_lt h (Nat.lt_of_le_of_lt (Nat.add_le_add_left hk _) (by decide))
  have h2 : i.natAbs < 2 ^ 1920 := Nat.lt_of_lt_of_le h1 (by decide +kernel)
  refine ⟨?_, ?_⟩
  · have e := int_text_length_le10 (k := 65) (by decide) h1
    have e2 : (PyData.int i).shown.length = (toString i).length := by
      show (Str.ofString (toString i)).length = _
      rw [PySem.ofString_length]
    omega
  · by_cases z : i.natAbs = 0
    · rw [z]; decide
    · exact (Nat.log2_lt z).mpr h2
mutual
theorem okD.short {k : Nat} (hk : k ≤ 50) : ∀ d : PyData, okD k d = true → d.leavesShort 100 = true ∧ d.showable = true
  | .none, _ => ⟨rfl, rfl⟩
  | .bool _, _ => ⟨rfl, rfl⟩
  | .int i, h => by
    simp only [okD, decide_eq_true_eq] at h
    obtain ⟨a, b⟩ := int_short hk h
    refine ⟨?_, ?_⟩
    · simpa only [PyData.leavesShort, decide_eq_true_eq] using a
    · simpa [PyData.showable] using b
  | .str x, h => by
    simp only [okD, Bool.and_eq_true, List.all_eq_true, decide_eq_true_eq] at h
    refine ⟨?_, ?_⟩
    · simp only [PyData.leavesShort, List.all_eq_true, decide_eq_true_eq]
      intro c hc
      exact Nat.lt_of_lt_of_le (h.2 c hc) (by decide)
    · simp [PyData.showable]
  | .list ds, h => by
    simp only [okD, Bool.and_eq_true] at h
    obtain ⟨a, b⟩ := okAll.short hk ds h.2
    exact ⟨by simpa only [PyData.leavesShort] using a, by simpa only [PyData.showable] using b⟩
  | .tuple ds, h => by
    simp only [okD, Bool.and_eq_true] at h
    obtain ⟨a, b⟩ := okAll.short hk ds h.2
    exact ⟨by simpa only [PyData.leavesShort] using a, by simpa only [PyData.showable] using b⟩
  | .dict kvs, h => by
    simp only [okD] at h
    obtain ⟨a, b⟩ := okKv.short hk kvs h
    exact ⟨by simpa only [PyData.leavesShort] using a, by simpa only [PyData.showable] using b⟩
theorem okAll.short {k : Nat} (hk : k ≤ 50) : ∀ ds : List PyData, okAll k ds = true → PyData.leavesShortAll 100 ds = true ∧ PyData.showableAll ds = true
  | [], _ => ⟨rfl, rfl⟩
  | d :: ds, h => by
    simp only [okAll, Bool.and_eq_true] at h
    obtain ⟨a, b⟩ := okD.short hk d h.1
    obtain ⟨a2, b2⟩ := okAll.short hk ds h.2
    exact ⟨by simp only [PyData.leavesShortAll, a, a2, Bool.and_self], by simp only [PyData.showableAll, b, b2, Bool.and_self]⟩
theorem okKv.short {k : Nat} (hk : k ≤ 50) : ∀ kvs : List (PyData × PyData), okKv k kvs = true → PyData.leavesShortKv 100 kvs = true ∧ PyData.showableKv kvs = true
  | [], _ => ⟨rfl, rfl⟩
  | (x, y) :: r, h => by
    simp only [okKv, Bool.and_eq_true] at h
    obtain ⟨a, b⟩ := okD.short hk x h.1.1
    obtain ⟨a1, b1⟩ := okD.short hk y h.1.2
    obtain ⟨a2, b2⟩ := okKv.short hk r h.2
    exact ⟨by simp only [PyData.leavesShortKv, a, a1, a2, Bool.and_self], by simp only [PyData.showableKv, b, b1, b2, Bool.and_self]⟩
end
/-- data of bounded size: k longest, w heaviest, n deepest -/
structure Fit (k w n : Nat) (d : PyData) : Prop where
  ok : okD k d = true
  wt : d.weight ≤ w
  dp : d.depth ≤ n
theorem Fit.mono {k w n k' w' n' : Nat} {d : PyData} (f : Fit k w n d) (hk : k ≤ k') (hw : w ≤ w') (hn : n ≤ n') : Fit k' w' n' d :=
  ⟨okD.mono hk d f.ok, Nat.le_trans f.wt hw, Nat.le_trans f.dp hn⟩
theorem Fit.shown {k w n : Nat} {d : PyData} (f : Fit k w n d) (hk : k ≤ 50) (hw : w ≤ 100000) : d.shown.length ≤ sizeLine ∧ d.showable = true := by
  obtain ⟨a, b⟩ := okD.short hk d f.ok
  have h := PyData.shown_le 100 (by decide) d a
  have hw2 := f.wt
  have z : sizeLine = 16777216 := rfl
  exact ⟨by omega, b⟩
theorem okAll_at {k : Nat} : ∀ {ds : List PyData} {i : Nat} {d : PyData}, okAll k ds = true → ds[i]? = some d → okD k d = true
  | [], _, _, _, e => by simp at e
  | x :: r, 0, d, o, e => by
    simp only [okAll, Bool.and_eq_true] at o
    cases Option.some.inj e
    exact o.1
  | x :: r, i + 1, d, o, e => by
    simp only [okAll, Bool.and_eq_true] at o
    exact okAll_at (i := i) o.2 e
end K20
end

section
set_option Elab.async false
set_option linter.all false
set_option maxRecDepth 100000
set_option maxHeartbeats 4000000
namespace K20
open PySem PySem.Spec PyProof.Rows L2 Gd
abbrev sName : Stmt := topS 16
abbrev sWhole : Stmt := topS 17
abbrev sNumber : Stmt := topS 18
theorem scName : FnScope ["thing", "letter"] ["thing"] (defScope sName) :=
  ⟨rfl, rfl, rfl, by decide +kernel, rfl, by decide +kernel, by decide +kernel⟩
theorem scWhole : FnScope ["thing"] ["thing"] (defScope sWhole) :=
  ⟨rfl, rfl, rfl, by decide +kernel, rfl, by decide +kernel, by decide +kernel⟩
theorem scNumber : FnScope ["thing"] ["thing"] (defScope sNumber) :=
  ⟨rfl, rfl, rfl, by decide +kernel, rfl, by decide +kernel, by decide +kernel⟩

/-! which built-in class data is of -/
def isT : PyData → Bool
  | .tuple _ => true
  | _ => false
def isS : PyData → Bool
  | .str _ => true
  | _ => false
def isI : PyData → Bool
  | .int _ => true
  | .bool _ => true
  | _ => false
def isB : PyData → Bool
  | .bool _ => true
  | _ => false
theorem k_tup : ∀ d : PyData, kitB (kindN d) "tuple" = some (isT d)
  | .none => show kitB "NoneType" "tuple" = some false by decide +kernel
  | .bool _ => show kitB "bool" "tuple" = some false by decide +kernel
  | .int _ => show kitB "int" "tuple" = some false by decide +kernel
  | .str _ => show kitB "str" "tuple" = some false by decide +kernel
  | .list _ => show kitB "list" "tuple" = some false by decide +kernel
  | .tuple _ => show kitB "tuple" "tuple" = some true by decide +kernel
  | .dict _ => show kitB "dict" "tuple" = some false by decide +kernel
theorem k_str : ∀ d : PyData, kitB (kindN d) "str" = some (isS d)
  | .none => show kitB "NoneType" "str" = some false by decide +kernel
  | .bool _ => show kitB "bool" "str" = some false by decide +kernel
  | .int _ => show kitB "int" "str" = some false by decide +kernel
  | .str _ => show kitB "str" "str" = some true by decide +kernel
  | .list _ => show kitB "list" "str" = some false by decide +kernel
  | .tuple _ => show kitB "tuple" "str" = some false by decide +kernel
  | .dict _ => show kitB "dict" "str" = some false by decide +kernel
theorem k_int : ∀ d : PyData, kitB (kindN d) "int" = some (isI d)
  | .none => show kitB "NoneType" "int" = some false by decide +kernel
  | .bool _ => show kitB "bool" "int" = some true by decide +kernel
  | .int _ => show kitB "int" "int" = some true by decide +kernel
  | .str _ => show kitB "str" "int" = some false by decide +kernel
  | .list _ => show kitB "list" "int" = some false by decide +kernel
  | .tuple _ => show kitB "tuple" "int" = some false by decide +kernel
  | .dict _ => show kitB "dict" "int" = some false by decide +kernel
theorem k_bool : ∀ d : PyData, kitB (kindN d) "bool" = some (isB d)
  | .none => show kitB "NoneType" "bool" = some false by decide +kernel
  | .bool _ => show kitB "bool" "bool" = some true by decide +kernel
  | .int _ => show kitB "int" "bool" = some false by decide +kernel
  | .str _ => show kitB "str" "bool" = some false by decide +kernel
  | .list _ => show kitB "list" "bool" = some false by decide +kernel
  | .tuple _ => show kitB "tuple" "bool" = some false by decide +kernel
  | .dict _ => show kitB "dict" "bool" = some false by decide +kernel

/-- the program's constants -/
structure Cs (K : PySem.W.Frag) (mg : Str → Option Value) (pS : Addr) : Prop where
  letters : ∃ t, mg "_LETTERS" = some (.str "abcdefghijklmnopqrstuvwxyz" t)
  longest : ∃ t, mg "_LONGEST_NAME" = some (.int 8 t)
  great : ∃ t, mg "_TOO_GREAT" = some (.int (10 ^ 30) t)
  isi : mg "isinstance" = none
  str : mg "str" = none
  int : mg "int" = none
  bool : mg "bool" = none
  len : mg "len" = none
  all : mg "all" = none

/-- a small checker: its answer by the data -/
def spChk (K : PySem.W.Frag) (f : PyData → Bool) : Sp := fun vs H Q _ => ∃ (N : Addr → Prop) (v : V) (d : PyData), vs = [v] ∧ Dd K H N v d ∧ okD 50 d = true ∧
  ∀ H', Same H H' → Q (.bl (f d)) H'
theorem spChk.len {K : PySem.W.Frag} {f : PyData → Bool} : ∀ vs H Q E, spChk K f vs H Q E → vs.length = 1 := by
  rintro vs H Q E ⟨N, v, d, rfl, _⟩
  rfl
section
variable {P : Program} {w : World} {K : PySem.W.Frag} {mg : Str → Option Value} {base : Heap} {f : Addr} {fd : FuncData} {pS : Addr}
theorem ok_whole (F : Fun K "is_whole" "is_whole" sWhole f fd) (C : Cs K mg pS) :
    FnOk P w K mg base CX0 1 f fd ["thing"] (spChk K fun d => isI d && !isB d) := by
  refine F.ok scWhole spChk.len (fun cdv A outer s H vs Q E hr h => ?_)
  obtain ⟨N, v, d, rfl, hd, ok, q⟩ := h
  have nd := scWhole.nd
  refine ⟨_, pss_one (ps_ret (pe_and (pe_callB call_isi (by rfl) C.isi (by decide +kernel) (pa_cons (pv 0) (pa_cons (pe_bltn (v := .ty "int") (by rfl) C.int (by decide +kernel) rfl) pa_nil)))
    (pe_one (pe_not (pe_callB call_isi (by rfl) C.isi (by decide +kernel) (pa_cons (pv 0) (pa_cons (pe_bltn (v := .ty "bool") (by rfl) C.bool (by decide +kernel) rfl) pa_nil))))))), ?_⟩
  refine ⟨_, rfl, _, _, _, _, isI d, rfl, .ty _, hd.kind, kit_ty (k_int d), _, rfl, ite2 (fun e => ?_) (fun e => ?_)⟩
  · refine ⟨_, rfl, _, _, _, _, isB d, rfl, .ty _, hd.kind, kit_ty (k_bool d), _, rfl, ?_⟩
    have z : Q (.bl (isI d && !isB d)) H := q H (fun _ _ e => e)
    rw [e, Bool.true_and] at z
    exact z
  · have z : Q (.bl (isI d && !isB d)) H := q H (fun _ _ e => e)
    rw [Bool.eq_false_iff.mpr e, Bool.false_and] at z
    exact z
/-- a number near nought -/
def nearB (m : Int) (d : PyData) : Bool := match d with
  | .int i => decide (-m < i) && decide (i < m)
  | _ => false
theorem isI_num {K : PySem.W.Frag} {H : Hp} {N : Addr → Prop} {v : V} {d : PyData} (hd : Dd K H N v d) (e : (isI d && !isB d) = true) : ∃ i, d = .int i ∧ v = .int i := by
  cases hd with
  | int i => exact ⟨i, rfl, rfl⟩
  | bl b => exact absurd e Bool.false_ne_true
  | non => exact absurd e Bool.false_ne_true
  | str _ => exact absurd e Bool.false_ne_true
  | lst _ _ _ _ => exact absurd e Bool.false_ne_true
  | tup _ _ => exact absurd e Bool.false_ne_true
  | dct0 _ _ => exact absurd e Bool.false_ne_true
  | dct1 _ _ => exact absurd e Bool.false_ne_true
theorem isNum_no {d : PyData} (e : ¬ (isI d && !isB d) = true) : isNum d = false := by
  cases d with
  | int i => exact absurd rfl e
  | _ => rfl
variable {fW : Addr} {fdW : FuncData}
theorem ok_number (F : Fun K "is_number" "is_number" sNumber f fd) (C : Cs K mg pS) (FW : Fun K "is_whole" "is_whole" sWhole fW fdW)
    (bW : Binds K fdW ["thing"] []) (gW : mg "is_whole" = some (.ref fW)) :
    FnOk P w K mg base CX0 2 f fd ["thing"] (spChk K isNum) := by
  have G : FnOk P w K mg base CX0 1 fW fdW ["thing"] (spChk K fun d => isI d && !isB d) := ok_whole FW C
  refine F.ok scNumber spChk.len (fun cdv A outer s H vs Q E hr h => ?_)
  obtain ⟨N, v, d, rfl, hd, ok, q⟩ := h
  have nd := scNumber.nd
  obtain ⟨tg, gg⟩ := C.great
  refine ⟨_, pss_one (ps_ret (pe_and (pe_call G hr (by rfl) gW FW.kp bW .nil pass0 (pa_cons (pv 0) pa_nil))
    (pe_one (pe_chain op_lt op_lt (pe_un un_neg (pe_glob (v := .int (10 ^ 30)) (by rfl) gg ⟨_, rfl⟩)) (pv 0) (pe_glob (v := .int (10 ^ 30)) (by rfl) gg ⟨_, rfl⟩))))), ?_⟩
  refine ⟨_, rfl, N, v, d, rfl, hd, ok, fun H' sm => ⟨_, rfl, ite2 (fun e => ?_) (fun e => ?_)⟩⟩
  · obtain ⟨i, rfl, rfl⟩ := isI_num hd e
    have z := q H' sm
    refine ⟨_, rfl, _, rfl, _, _, rfl, rfl, _, rfl, ite2 (fun c => ?_) (fun c => ?_)⟩
    · refine ⟨_, _, rfl, rfl, ?_⟩
      rw [show isNum (.int i) = (decide (-(10 ^ 30 : Int) < i) && decide (i < 10 ^ 30)) from rfl, c, Bool.true_and] at z
      exact z
    · rw [show isNum (.int i) = (decide (-(10 ^ 30 : Int) < i) && decide (i < 10 ^ 30)) from rfl, Bool.eq_false_iff.mpr c, Bool.false_and] at z
      exact z
  · have z := q H' sm
    rw [isNum_no e] at z
    exact z
theorem ok_name (F : Fun K "is_name" "is_name" sName f fd) (C : Cs K mg pS) :
    FnOk P w K mg base CX0 1 f fd ["thing"] (spChk K isLabD) := by
  refine F.ok scName spChk.len (fun cdv A outer s H vs Q E hr h => ?_)
  obtain ⟨N, v, d, rfl, hd, ok, q⟩ := h
  have nd := scName.nd
  obtain ⟨tl, gl⟩ := C.letters
  obtain ⟨tn, gn⟩ := C.longest
  refine ⟨_, pss_cons (ps_if (PW.pt (pw_or (pt_not (pt_val (pe_callB call_isi (by rfl) C.isi (by decide +kernel) (pa_cons (pv 0) (pa_cons (pe_bltn (v := .ty "str") (by rfl) C.str (by decide +kernel) rfl) pa_nil)))))
      (pw_or1 (pt_not (pt_chain op_le op_le pe_int (pe_callB call_len_str (by rfl) C.len PySem.boot_len (pa_cons (pv 0) pa_nil)) (pe_glob (v := .int 8) (by rfl) gn ⟨_, rfl⟩))))))
      (pss_one (ps_ret pe_bl)) pss_nil)
    (pss_one (ps_ret (pe_callB (cr_all rfl) (by rfl) C.all (by decide +kernel) (pa_cons (pe_lc (own := [("letter", 1)]) (g := gName 1) (tt := tYes) rfl nd (pi_str (pv 0))
        (blkOk_by (N := ["thing", "letter"]) (sc := defScope sName) (by decide +kernel)) (fun _ _ _ _ _ => pg_name (i := 1) nd rfl (Or.inl rfl)) (fun _ _ _ _ _ => pts_nil)
        (fun _ _ _ _ _ => pe_cmpR op_in_sign (pv 1) (pe_glob (v := .str "abcdefghijklmnopqrstuvwxyz") (by rfl) gl ⟨_, rfl⟩) (by rfl))) pa_nil)))), ?_⟩
  refine ⟨_, rfl, _, _, _, _, isS d, rfl, .ty _, hd.kind, kit_ty (k_str d), _, rfl, ?_⟩
  have no : ∀ e : isLabD d = false, Q (.bl false) H := fun e => by
    have z := q H (fun _ _ e => e)
    rw [e] at z
    exact z
  cases hs : isS d with
  | false =>
    have e : isLabD d = false := by
      cases d with
      | str x => exact Bool.noConfusion hs
      | _ => rfl
    exact iteT (no e)
  | true =>
    refine iteF ?_
    cases d with
    | str x =>
      cases hd
      obtain ⟨xl, xa⟩ : x.length ≤ 150 ∧ x.cps.toList.all (fun c => decide (c < 128)) = true := by simpa only [okD, Bool.and_eq_true, decide_eq_true_eq] using ok
      have xz : x.length ≤ sizeLine := Nat.le_trans xl (by decide)
      have lab : isLabD (.str x) = (decide (1 ≤ x.length) && decide (x.length ≤ 8) && x.cps.toList.all (fun c => decide (c ∈ ("abcdefghijklmnopqrstuvwxyz" : Str).cps.toList))) := rfl
      have cast1 : decide ((1 : Int) ≤ (x.length : Int)) = decide (1 ≤ x.length) := decide_eq_decide.mpr (by omega)
      have cast8 : decide ((x.length : Int) ≤ 8) = decide (x.length ≤ 8) := decide_eq_decide.mpr (by omega)
      refine ⟨_, rfl, x, rfl, xz, _, _, rfl, rfl, _, rfl, ite2 (fun c1 => ?_) (fun c1 => ?_)⟩
      · refine ⟨_, _, rfl, rfl, _, rfl, ?_⟩
        cases c8 : decide ((x.length : Int) ≤ 8) with
        | false =>
          rw [cast8] at c8
          refine iteT (no ?_)
          rw [lab, c8, Bool.and_false, Bool.false_and]
        | true =>
          refine iteF ?_
          rw [cast8] at c8
          rw [cast1] at c1
          rw [c1, c8, Bool.true_and, Bool.true_and] at lab
          refine ⟨_, rfl, x, rfl, fun D hD => ?_⟩
          let al : List Nat := ("abcdefghijklmnopqrstuvwxyz" : Str).cps.toList
          refine lc_it walk_str (fun i H' => Same H H' ∧ H' D = some (.lst ((x.cps.toList.take i).map fun c => V.bl (decide (c ∈ al))))) ?_ ?_ ?_ ?_
          · exact ⟨fun b u e => by rw [upd_ne (ne_of_none e hD)]; exact e, upd_same⟩
          · exact fun _ _ _ _ => trivial
          · rintro i v H1 H2 hi ⟨sm, eD⟩ ⟨rfl, c, ec, rfl⟩
            refine ⟨rfl, ?_⟩
            unfold tYes
            dsimp only
            rw [if_pos rfl]
            have hl : ((x.cps.toList.take i).map fun c => V.bl (decide (c ∈ al))).length < sizeLine := by
              rw [List.length_map, List.length_take]
              have : min i x.cps.toList.length ≤ i := Nat.min_le_left _ _
              have e3 : x.length = x.cps.size := rfl
              have z : sizeLine = 16777216 := rfl
              omega
            refine ⟨_, rfl, c, _, rfl, rfl, _, eD, hl, ?_, ?_⟩
            · intro b u e
              rw [upd_ne (ne_of_none e hD)]
              exact sm _ _ e
            · have e2 : x.cps.toList.take (i + 1) = x.cps.toList.take i ++ [c] := by
                rw [List.take_add_one, Array.getElem?_toList, ec]
                rfl
              rw [e2, List.map_append]
              exact upd_same
          · rintro H1 ⟨sm, eD⟩
            have e3 : x.cps.size = x.cps.toList.length := rfl
            rw [e3, List.take_length] at eD
            have e4 : (x.cps.toList.map fun c => V.bl (decide (c ∈ al))) = (x.cps.toList.map fun c => decide (c ∈ al)).map V.bl := by
              rw [List.map_map]
              rfl
            rw [e4] at eD
            refine ⟨D, _, rfl, SqL.of eD, ?_⟩
            have z := q H1 sm
            rw [lab] at z
            rw [List.all_map]
            exact z
      · refine ⟨_, rfl, iteT (no ?_)⟩
        rw [cast1] at c1
        rw [lab, Bool.eq_false_iff.mpr c1, Bool.false_and, Bool.false_and]
    | _ => exact Bool.noConfusion hs
end
end K20
end

section
set_option Elab.async false
set_option linter.all false
set_option maxRecDepth 100000
set_option maxHeartbeats 4000000
namespace Szg
open PySem PySem.Spec PyProof.Rows L2 Gd
/-! sizes of data -/
structure Sm (w n : Nat) (d : PyData) : Prop where
  lf : d.leavesShort 100 = true
  sh : d.showable = true
  wt : d.weight ≤ w
  dp : d.depth ≤ n
structure Sms (w n : Nat) (ds : List PyData) : Prop where
  lf : PyData.leavesShortAll 100 ds = true
  sh : PyData.showableAll ds = true
  wt : PyData.weightAll ds ≤ w
  dp : PyData.depthAll ds ≤ n
theorem Sm.mono {w n w' n' : Nat} {d : PyData} (h : Sm w n d) (a : w ≤ w') (b : n ≤ n') : Sm w' n' d := ⟨h.lf, h.sh, Nat.le_trans h.wt a, Nat.le_trans h.dp b⟩
theorem Sms.mono {w n w' n' : Nat} {ds : List PyData} (h : Sms w n ds) (a : w ≤ w') (b : n ≤ n') : Sms w' n' ds := ⟨h.lf, h.sh, Nat.le_trans h.wt a, Nat.le_trans h.dp b⟩
theorem Sms.nil {n : Nat} : Sms 0 n [] := ⟨rfl, rfl, Nat.le_refl _, Nat.zero_le _⟩
theorem Sms.cons {w v n : Nat} {d : PyData} {ds : List PyData} (h : Sm w n d) (g : Sms v n ds) : Sms (w + 1 + v) n (d :: ds) := by
  refine ⟨?_, ?_, ?_, ?_⟩
  · simp only [PyData.leavesShortAll, h.lf, g.lf, Bool.and_self]
  · simp only [PyData.showableAll, h.sh, g.sh, Bool.and_self]
  · have := h.wt
    have := g.wt
    simp only [PyData.weightAll]
    omega
  · have := h.dp
    have := g.dp
    simp only [PyData.depthAll]
    omega
theorem Sms.tup {w n : Nat} {ds : List PyData} (g : Sms w n ds) : Sm (w + 1) (n + 1) (.tuple ds) := by
  refine ⟨by simp only [PyData.leavesShort, g.lf], by simp only [PyData.showable, g.sh], ?_, ?_⟩
  · have := g.wt
    simp only [PyData.weight]
    omega
  · have := g.dp
    simp only [PyData.depth]
    omega
theorem Sms.lst {w n : Nat} {ds : List PyData} (g : Sms w n ds) : Sm (w + 1) (n + 1) (.list ds) := by
  refine ⟨by simp only [PyData.leavesShort, g.lf], by simp only [PyData.showable, g.sh], ?_, ?_⟩
  · have := g.wt
    simp only [PyData.weight]
    omega
  · have := g.dp
    simp only [PyData.depth]
    omega
theorem Sm.shown {w n : Nat} {d : PyData} (h : Sm w n d) (a : w ≤ 160000) (b : n ≤ 60) : d.showable = true ∧ d.shown.length ≤ sizeLine ∧ d.depth ≤ 60 := by
  have x := PyData.shown_le 100 (by decide) d h.lf
  have y := h.wt
  have z : sizeLine = 16777216 := rfl
  exact ⟨h.sh, by omega, Nat.le_trans h.dp b⟩
theorem sm_none : Sm 5 0 .none := ⟨rfl, rfl, by decide, by decide⟩
theorem sm_bool (b : Bool) : Sm 5 0 (.bool b) := by cases b <;> exact ⟨rfl, rfl, by decide, by decide⟩
theorem int_log {i : Int} (h : i.natAbs ≤ 10 ^ 62) : i.natAbs.log2 < 207 := by
  by_cases z : i.natAbs = 0
  · rw [z]; decide
  · exact (Nat.log2_lt z).mpr (Nat.lt_of_le_of_lt h (by decide +kernel))
theorem sm_int {i : Int} (h : i.natAbs ≤ 10 ^ 62) : Sm 212 0 (.int i) := by
  have h1 : i.natAbs < 10 ^ 63 := Nat.lt_of_le_of_lt h (by decide)
  have hl := int_log h
  refine ⟨?_, ?_, ?_, Nat.le_refl _⟩
  · have e := int_text_length_le10 (k := 63) (by decide) h1
    have e2 : (PyData.int i).shown.length = (toString i).length := by
      show (Str.ofString (toString i)).length = _
      rw [PySem.ofString_length]
    simp only [PyData.leavesShort, decide_eq_true_eq]
    omega
  · have : i.natAbs.log2 < 1920 := by omega
    simpa [PyData.showable] using this
  · simp only [PyData.weight]
    split <;> omega
/-- a plain text: codes under 128, no longer than 30 -/
def Pl (s : Str) : Prop := (∀ c ∈ s.cps.toList, c < 128) ∧ s.length ≤ 30
theorem sm_str {s : Str} (h : Pl s) : Sm 30 0 (.str s) := by
  refine ⟨?_, ?_, ?_, Nat.le_refl _⟩
  · simp only [PyData.leavesShort, List.all_eq_true, decide_eq_true_eq]
    intro c hc
    exact Nat.lt_of_lt_of_le (h.1 c hc) (by decide)
  · simp [PyData.showable]
  · have w : (PyData.str s).weight = s.length := by simp only [PyData.weight]; rfl
    have := h.2
    omega
theorem Sms.all {w n : Nat} {ds : List PyData} (h : ∀ d ∈ ds, Sm w n d) : Sms ((w + 1) * ds.length) n ds := by
  induction ds with
  | nil => exact Sms.nil
  | cons d ds ih =>
    refine (Sms.cons (h d (by simp)) (ih fun e m => h e (by simp [m]))).mono ?_ (Nat.le_refl _)
    rw [List.length_cons, Nat.mul_add]
    omega
end Szg
end

section
set_option Elab.async false
set_option linter.all false
set_option maxRecDepth 100000
set_option maxHeartbeats 4000000
/-! Sources, their pairs, what ties them; links of an order. -/
namespace Gd
open PySem PySem.Spec PyProof.Rows L2
/-- a pair: its own column, the other's nick, that one's column -/
structure Pr where
  c : Str
  o : Str
  d : Str
deriving DecidableEq
structure Src where
  way : Str
  nick : Str
  table : Str
  pairs : List Pr
def prD (p : Pr) : PyData := .tuple [.str p.c, .str p.o, .str p.d]
def srcD (s : Src) : PyData := .tuple [.str s.way, .str s.nick, .str s.table, .tuple (s.pairs.map Gd.prD)]
def noSrc : Src := ⟨"", "", "", []⟩
def aliasAt (ss : List Src) (k : Nat) : Str := (ss.getD k noSrc).nick
/-- what one pair of a source gives -/
def tie1 (own : Str) (al : List Str) (s : Src) (p : Pr) : List Pr :=
  if decide (s.nick = own) && decide (p.o ∈ al) then [p] else if decide (p.o = own) && decide (s.nick ∈ al) then [⟨p.d, s.nick, p.c⟩] else []
def tieS (own : Str) (al : List Str) (s : Src) : List Pr := s.pairs.flatMap (tie1 own al s)
def tied (ss : List Src) (n : Nat) (js : List Nat) : List Pr := ss.flatMap (tieS (aliasAt ss n) (js.map (aliasAt ss)))
/-- the links of an order -/
def link1 (ss : List Src) (js : List Nat) (n : Nat) : List (Nat × Pr) := match tied ss n js with
  | [] => []
  | p :: _ => [(n, p)]
def linksA (ss : List Src) (order : List Nat) (i : Nat) : List (Nat × Pr) := (List.range i).flatMap fun k => link1 ss (order.take k) (order.getD k 0)
def link2 (ss : List Src) (n : Nat) : List (Nat × Pr) := match (ss.getD n noSrc).pairs with
  | [] => []
  | p :: _ => [(n, p)]
def linksB (ss : List Src) (m i : Nat) : List (Nat × Pr) := (List.range i).flatMap fun k => link2 ss (m + k)
def linksL (ss : List Src) (order : List Nat) : List (Nat × Pr) := linksA ss order order.length ++ linksB ss order.length (ss.length - order.length)
theorem linksA_succ {ss : List Src} {order : List Nat} {i : Nat} : linksA ss order (i + 1) = linksA ss order i ++ link1 ss (order.take i) (order.getD i 0) := by
  unfold linksA
  rw [List.range_succ, List.flatMap_append]
  simp
theorem linksB_succ {ss : List Src} {m i : Nat} : linksB ss m (i + 1) = linksB ss m i ++ link2 ss (m + i) := by
  unfold linksB
  rw [List.range_succ, List.flatMap_append]
  simp
theorem link1_nums {ss : List Src} {js : List Nat} {n : Nat} : ∀ x ∈ link1 ss js n, x.1 = n := by
  intro x hx
  unfold link1 at hx
  split at hx
  · cases hx
  · rw [List.mem_singleton.mp hx]
theorem link2_nums {ss : List Src} {n : Nat} : ∀ x ∈ link2 ss n, x.1 = n := by
  intro x hx
  unfold link2 at hx
  split at hx
  · cases hx
  · rw [List.mem_singleton.mp hx]
theorem linksA_nums {ss : List Src} {order : List Nat} : ∀ {i : Nat}, ∀ x ∈ linksA ss order i, ∃ k, k < i ∧ x.1 = order.getD k 0 := by
  intro i x hx
  unfold linksA at hx
  obtain ⟨k, hk, hx⟩ := List.mem_flatMap.mp hx
  exact ⟨k, List.mem_range.mp hk, link1_nums x hx⟩
theorem linksB_nums {ss : List Src} {m : Nat} : ∀ {i : Nat}, ∀ x ∈ linksB ss m i, m ≤ x.1 ∧ x.1 < m + i := by
  intro i x hx
  unfold linksB at hx
  obtain ⟨k, hk, hx⟩ := List.mem_flatMap.mp hx
  have := List.mem_range.mp hk
  rw [link2_nums x hx]
  omega
/-- well made: aliases unlike, each pair goes to a source of the first m ahead -/
structure Well (ss : List Src) (m : Nat) : Prop where
  le : m ≤ ss.length
  uniq : ∀ i j, i < ss.length → j < ss.length → aliasAt ss i = aliasAt ss j → i = j
  ahead : ∀ k, k < ss.length → ∀ p ∈ (ss.getD k noSrc).pairs, ∃ j, j < k ∧ j < m ∧ p.o = aliasAt ss j
theorem getD_mem' {α : Type} {l : List α} {i : Nat} {d : α} (h : i < l.length) : l.getD i d ∈ l := by
  rw [List.getD_eq_getElem?_getD, List.getElem?_eq_getElem h]
  exact List.getElem_mem h
theorem tied_of {ss : List Src} {n k : Nat} {js : List Nat} {p q : Pr} (hk : k < ss.length) (hp : p ∈ (ss.getD k noSrc).pairs) (h : q ∈ tie1 (aliasAt ss n) (js.map (aliasAt ss)) (ss.getD k noSrc) p) : tied ss n js ≠ [] := by
  intro e
  have : q ∈ tied ss n js := by
    unfold tied
    refine List.mem_flatMap.mpr ⟨ss.getD k noSrc, getD_mem' hk, ?_⟩
    exact List.mem_flatMap.mpr ⟨p, hp, h⟩
  rw [e] at this
  cases this
theorem link1_ne {ss : List Src} {js : List Nat} {n : Nat} (h : tied ss n js ≠ []) : link1 ss js n ≠ [] := by
  unfold link1
  split
  · rename_i e
    exact absurd e h
  · exact fun z => nomatch z
/-- an order of the first m has a link where some source has a pair -/
theorem links_some {ss : List Src} {m : Nat} {order : List Nat} (w : Well ss m) (hl : order.length = m) (hp : ∀ j, j < m → ∃ a, a < m ∧ order.getD a 0 = j) (hlt : ∀ a, a < m → order.getD a 0 < m)
    {k : Nat} (hk : k < ss.length) (h : (ss.getD k noSrc).pairs ≠ []) : linksL ss order ≠ [] := by
  obtain ⟨p, hpm⟩ : ∃ p, p ∈ (ss.getD k noSrc).pairs := by
    cases e : (ss.getD k noSrc).pairs with
    | nil => exact absurd e h
    | cons p _ => exact ⟨p, by simp⟩
  have wle := w.le
  intro e
  rw [linksL, List.append_eq_nil_iff] at e
  obtain ⟨e1, e2⟩ := e
  by_cases c : k < m
  · obtain ⟨j, jk, jm, po⟩ := w.ahead k hk p hpm
    obtain ⟨a, a1, a2⟩ := hp k c
    obtain ⟨b, b1, b2⟩ := hp j jm
    have none_at : ∀ i, i < order.length → link1 ss (order.take i) (order.getD i 0) = [] := fun i hi => by
      unfold linksA at e1
      exact List.flatMap_eq_nil_iff.mp e1 i (List.mem_range.mpr hi)
    have inTake : ∀ {x y : Nat}, x < y → x < m → order.getD x 0 ∈ order.take y := fun {x y} hxy hx => by
      have : (order.take y)[x]? = some (order.getD x 0) := by
        rw [List.getElem?_take_of_lt hxy, List.getD_eq_getElem?_getD, List.getElem?_eq_getElem (by omega)] <;> rfl
      exact List.mem_of_getElem? this
    have hab : a ≠ b := fun z => by
      rw [z, b2] at a2
      omega
    rcases Nat.lt_or_gt_of_ne hab with lt | gt
    · -- the pair's source stands ahead: the other one is tied
      refine link1_ne ?_ (none_at b (by omega))
      rw [b2]
      refine tied_of (q := ⟨p.d, (ss.getD k noSrc).nick, p.c⟩) hk hpm ?_
      have n1 : ¬ (ss.getD k noSrc).nick = aliasAt ss j := fun z => by
        have := w.uniq k j hk (by omega) z
        omega
      have m1 : (ss.getD k noSrc).nick ∈ (order.take b).map (aliasAt ss) := List.mem_map.mpr ⟨k, by have := inTake lt a1; rw [a2] at this; exact this, rfl⟩
      unfold tie1
      rw [decide_eq_false n1, Bool.false_and, if_neg (by simp), decide_eq_true po, decide_eq_true m1]
      simp
    · refine link1_ne ?_ (none_at a (by omega))
      rw [a2]
      refine tied_of (q := p) hk hpm ?_
      have m1 : p.o ∈ (order.take a).map (aliasAt ss) := List.mem_map.mpr ⟨j, by have := inTake gt b1; rw [b2] at this; exact this, po.symm⟩
      unfold tie1
      rw [decide_eq_true (show (ss.getD k noSrc).nick = aliasAt ss k from rfl), decide_eq_true m1]
      simp
  · have : link2 ss k = [] := by
      unfold linksB at e2
      have z := List.flatMap_eq_nil_iff.mp e2 (k - order.length) (List.mem_range.mpr (by omega))
      rw [show order.length + (k - order.length) = k by omega] at z
      exact z
    unfold link2 at this
    split at this
    · rename_i z
      exact h z
    · cases this
theorem links_none {ss : List Src} {order : List Nat} (h : ∀ s ∈ ss, s.pairs = []) : linksL ss order = [] := by
  have t : ∀ n js, tied ss n js = [] := fun n js => by
    unfold tied
    refine List.flatMap_eq_nil_iff.mpr fun s hs => ?_
    unfold tieS
    rw [h s hs]
    rfl
  have a : ∀ i, linksA ss order i = [] := fun i => by
    unfold linksA
    refine List.flatMap_eq_nil_iff.mpr fun k _ => ?_
    unfold link1
    rw [t]
  have b : ∀ m i, linksB ss m i = [] := fun m i => by
    unfold linksB
    refine List.flatMap_eq_nil_iff.mpr fun k _ => ?_
    unfold link2
    have : (ss.getD (m + k) noSrc).pairs = [] := by
      by_cases c : m + k < ss.length
      · exact h _ (getD_mem' c)
      · rw [List.getD_eq_getElem?_getD, List.getElem?_eq_none (by omega)]
        rfl
    rw [this]
  unfold linksL
  rw [a, b]
  rfl
end Gd
end

section
set_option Elab.async false
set_option linter.all false
set_option maxRecDepth 100000
set_option maxHeartbeats 4000000
namespace K20
open PySem PySem.Spec PyProof.Rows L2 Gd
abbrev sNm : Stmt := topS 30
abbrev nNm : List Str := ["_law_pen_here", "_law_many", "_law_letters", "_law_first", "_law_ending", "_law_k"]
theorem scNm : FnScope nNm ["_law_pen_here", "_law_many"] (defScope sNm) := ⟨rfl, rfl, rfl, by decide +kernel, rfl, by decide +kernel, by decide +kernel⟩
def ends5 : List Str := ["", "", "a", "with", "abcdefg"]
def nm (f : Nat) (y : Str) (k : Nat) : Str := (⟨#[97 + (f + 3 * k) % 26]⟩ : Str) ++ y
def nms (f : Nat) (y : Str) : List Str := (List.range 4).map (nm f y)
theorem nms_nodup : ∀ f, f < 26 → ∀ y ∈ ends5, (nms f y).Nodup := by decide +kernel
theorem nm_plain : ∀ k, k < 4 → ∀ f, f < 26 → ∀ y ∈ ends5, ((nm f y k).cps.toList.all fun c => decide (c < 128)) = true ∧ (nm f y k).length ≤ 30 ∧ isLab (nm f y k) = true := by decide +kernel
theorem let26 : ∀ n : Nat, n < 26 → atI ("abcdefghijklmnopqrstuvwxyz" : Str).cps.toList ((n : Nat) : Int) = some (97 + n) := by decide +kernel
def spNm : Sp := fun vs H Q _ => ∃ (l c : Addr) (S : Int), vs = [.ref l, .int 4] ∧ Pen H l c S ∧ S ≤ 90000 ∧
  ∀ (a : Addr) (ns : List Str) (H' : Hp), H a = none → H' a = some (.lst (ns.map V.str)) → ns.length = 4 → ns.Nodup → (∀ n ∈ ns, Szg.Pl n ∧ isLab n = true) → Pen H' l c (S + 2) → Ex1 l H H' → Q (.ref a) H'
theorem upto {n : Nat} : Walk (Itr 0 n) n (fun _ => True) (YFn fun i => .int ((i : Nat) : Int)) :=
  walk_range.mono (fun _ _ => trivial) (fun i H x H' _ _ y => ⟨y.1, y.2.trans (by show V.int (0 + ((i : Nat) : Int)) = V.int ((i : Nat) : Int); rw [Int.zero_add])⟩)
theorem free_ex1 {l q : Addr} {H H' : Hp} (x : Ex1 l H H') (n : q ≠ l) (h : H' q = none) : H q = none := by
  cases e : H q with
  | none => rfl
  | some o =>
    have := x q o n e
    rw [h] at this
    cases this
theorem ex1_same {l : Addr} {H H' : Hp} (s : Same H H') : Ex1 l H H' := fun a o _ e => s a o e
section
variable {P : Program} {w : World} {K : PySem.W.Frag} {mg : Str → Option Value} {base : Heap} {f fT : Addr} {fd dT : FuncData}
theorem ok_nm (F : Fun K "_law_names" "_law_names" sNm f fd) (mr : mg "range" = none) (FT : Fun K "_law_take" "_law_take" sDraw fT dT) (G : FnOk P w K mg base CX0 1 fT dT ["_law_pen_here", "_law_many"] spDraw) (bT : Binds K dT ["_law_pen_here", "_law_many"] []) (gT : mg "_law_take" = some (.ref fT)) :
    FnOk P w K mg base CX0 2 f fd ["_law_pen_here", "_law_many"] spNm := by
  refine F.ok scNm (fun vs H Q E h => ?_) (fun cdv A outer s H vs Q E hr h => ?_)
  · obtain ⟨l, c, S, rfl, _⟩ := h
    rfl
  obtain ⟨l, c, S, rfl, hP, hS, q⟩ := h
  have nd := scNm.nd
  have zl : sizeLine = 16777216 := rfl
  refine ⟨_, pss_cons (ps_set (i := 2) nd rfl (by first | exact .inl rfl | exact .inr rfl) pe_str)
    (pss_cons (ps_set (i := 3) nd rfl (by first | exact .inl rfl | exact .inr rfl) (pe_call G hr (by rfl) gT FT.kp bT .nil pass0 (pa_cons (pv 0) (pa_cons pe_int pa_nil))))
    (pss_cons (ps_set (i := 4) nd rfl (by first | exact .inl rfl | exact .inr rfl) (pe_ix ix_list (pe_lst (pa_cons pe_str (pa_cons pe_str (pa_cons pe_str (pa_cons pe_str (pa_cons pe_str pa_nil)))))) (pe_call G hr (by rfl) gT FT.kp bT .nil pass0 (pa_cons (pv 0) (pa_cons pe_int pa_nil))) (fun _ _ => rfl)))
    (pss_one (ps_ret (pe_lc (own := [("_law_k", 5)]) (g := gName 5) (tt := tYes) rfl nd (pi_range1 (by rfl) mr (pa_cons (pv 1) pa_nil)) (blkOk_by (N := nNm) (sc := defScope sNm) (by decide +kernel)) (fun _ _ _ _ _ => pg_name (i := 5) nd rfl (Or.inl rfl)) (fun _ _ _ _ _ => pts_nil)
      (fun _ _ _ _ _ => pe_op op_add_str (pe_ix ix_str (pv 2) (pe_op op_modN (pe_op op_add (pv 3) (pe_op op_mul pe_int (pv 5))) pe_int) (fun _ _ => rfl)) (pv 4)))))))
  , ?_⟩
  refine ⟨_, rfl, l, c, 26, S, rfl, hP, by decide, by decide, by omega, fun r1 H1 r10 r11 p1 x1 => ?_⟩
  refine ⟨(by show 5 ≤ sizeLine; decide), fun b nb => ?_⟩
  have p2 := p1.same (new_same (o := .lst [.str "", .str "", .str "a", .str "with", .str "abcdefg"]) nb)
  refine ⟨_, rfl, l, c, 5, _, rfl, p2, by decide, by decide, by omega, fun r3 H3 r30 r31 p3 x3 => ?_⟩
  obtain ⟨y, hy, ey⟩ := at_list (f := V.str) (xs := ["", "", "a", "with", "abcdefg"]) r30 (by simpa using r31)
  have ly : y.length ≤ 7 := by
    simp only [List.mem_cons, List.not_mem_nil, or_false] at hy
    rcases hy with rfl | rfl | rfl | rfl | rfl <;> decide +kernel
  refine ⟨b, _, _, .str y, rfl, rfl, SqL.of (x3 _ _ (p1.not nb).1 upd_same), ey, ?_⟩
  have x13 : Ex1 l H H3 := (x1.trans (Ex1.new nb)).trans x3
  refine ⟨_, rfl, _, rfl, by omega, by omega, fun D nD => ?_⟩
  have nDl := (p3.not nD).1
  have nD0 : H D = none := free_ex1 x13 nDl nD
  refine lc_it upto (fun j H5 => Same H3 H5 ∧ H5 D = some (.lst (((List.range j).map (nm r1.toNat y)).map V.str))) ⟨new_same nD, upd_same⟩ (fun _ _ _ _ => trivial) ?_ ?_
  · rintro j x H5 H6 hj ⟨s5, et⟩ ⟨rfl, rfl⟩
    obtain ⟨u0, u1⟩ := fmod_in (r1 + 3 * ((j : Nat) : Int)) (b := 26) (by omega)
    have em : (r1 + 3 * ((j : Nat) : Int)).fmod 26 = (((r1.toNat + 3 * j) % 26 : Nat) : Int) := by
      rw [Int.fmod_eq_emod_of_nonneg _ (by omega)]
      omega
    have ech := let26 ((r1.toNat + 3 * j) % 26) (Nat.mod_lt _ (by decide))
    rw [← em] at ech
    refine ⟨rfl, ?_⟩
    refine ⟨_, rfl, _, rfl, _, rfl, _, _, rfl, rfl, .inl ⟨by decide, by decide⟩, _, _, rfl, rfl, _, _, rfl, rfl, by omega, _, _, _, rfl, rfl, by decide +kernel, ech, ?_⟩
    refine ⟨_, rfl, _, _, rfl, rfl, (by show 1 + y.length ≤ sizeLine; omega), ?_⟩
    refine ⟨_, et, by rw [List.length_map, List.length_map, List.length_range]; omega, own_same nD s5, ?_⟩
    rw [upd_same, List.range_succ, List.map_append, List.map_append]
    rfl
  rintro H5 ⟨s5, et⟩
  refine q D (nms r1.toNat y) H5 nD0 et rfl (nms_nodup _ (by omega) _ hy) (fun n hn => ?_) ((p3.same s5).le (by omega)) (x13.trans (ex1_same s5))
  obtain ⟨k, hk, rfl⟩ := List.mem_map.mp hn
  obtain ⟨a1, a2, a3⟩ := nm_plain k (List.mem_range.mp hk) r1.toNat (by omega) y hy
  exact ⟨⟨fun c hc => of_decide_eq_true (List.all_eq_true.mp a1 c hc), a2⟩, a3⟩
end
end K20
end

section
set_option Elab.async false
set_option linter.all false
set_option maxRecDepth 100000
set_option maxHeartbeats 4000000
/-! set(xs) of texts and whole numbers in a list or a tuple; len of it. -/
namespace Sk
open PySem PySem.Spec PyProof.Rows L2
/-- each once, in the order of the first -/
def uniq {K : Type} [DecidableEq K] (xs : List K) : List K := xs.foldl (fun acc k => if k ∈ acc then acc else acc ++ [k]) []
section
variable {P : Program} {w : World} {K : Type} [DecidableEq K] {knd : KeyKind P w K} {A : Around} {E : Value → Shared → Prop} {s : Shared}
theorem uniq_snoc (xs : List K) (k : K) : uniq (xs ++ [k]) = if k ∈ uniq xs then uniq xs else uniq xs ++ [k] := by
  unfold uniq
  rw [List.foldl_append]
  rfl
theorem uniq_go (xs : List K) : ∀ acc : List K, (xs.foldl (fun acc k => if k ∈ acc then acc else acc ++ [k]) acc).length ≤ acc.length + xs.length := by
  induction xs with
  | nil => exact fun acc => Nat.le_refl _
  | cons k xs ih =>
    intro acc
    rw [List.foldl_cons, List.length_cons]
    have h := ih (if k ∈ acc then acc else acc ++ [k])
    by_cases z : k ∈ acc
    · rw [if_pos z] at h ⊢
      omega
    · rw [if_neg z, List.length_append, List.length_singleton] at h
      rw [if_neg z]
      omega
theorem uniq_len (xs : List K) : (uniq xs).length ≤ xs.length := by
  have h := uniq_go xs []
  rw [List.length_nil, Nat.zero_add] at h
  exact h
abbrev newS (led : Bool) : Obj := { cls := .type "set", dict := none, data := .set #[] 0 (.fresh 0 0 led) }
/-- the set at a holds just these -/
def SetIs (knd : KeyKind P w K) (h : Heap) (a : Addr) (ks : List K) : Prop := h.SetOf knd a (fun k => decide (k ∈ ks)) ks.length
theorem SetIs.kept {h h' : Heap} {a : Addr} {ks : List K} (R : SetIs knd h a ks) (k : ∀ o, h.get? a = some o → h'.get? a = some o) : SetIs knd h' a ks := by
  obtain ⟨o, es, ep, t, ho, r⟩ := R
  exact ⟨o, es, ep, t, k o ho, r⟩
theorem fresh (led : Bool) {h : Heap} {a : Addr} (e : h.get? a = some (newS led)) : SetIs knd h a (uniq ([] : List K)) :=
  ⟨_, #[], 0, _, e, ⟨rfl, rfl, rfl⟩, rfl, (fun e he => by simp at he), (fun k => by simp [uniq]), (by decide), (by rfl), rfl⟩
/-- what stands in a sequence -/
structure Held (knd : KeyKind P w K) (ks : List K) (items : Array Value) : Prop where
  size : items.size = ks.length
  get : ∀ {i : Nat} {v : Value}, items[i]? = some v → ∃ k, ks[i]? = some k ∧ knd.is k v = true ∧ v.scannable = true
/-- the loop of set.update -/
theorem fill {I S : Addr} {fp wr : List Addr} {G : Array GenState → Array GenState → Prop} {n : Nat} {Pv : Nat → Value → Prop} {St : Nat → Shared → Prop} {R : Result → Shared → Prop} (W : WalksS P w A.in1 I fp wr G n Pv St) (hS : S ∉ fp)
    {ks : List K} (hn : n = ks.length) (few : ks.length + 1 < scanBound) (val : ∀ i v, Pv i v → ∃ k, ks[i]? = some k ∧ knd.is k v = true ∧ v.scannable = true) {h0 : Heap} (nS : h0.get? S = none) (nw : ∀ b ∈ wr, h0.get? b = none)
    {fin : Shared} (mv : Moved (S :: wr) G fin fin)
    (hR : ∀ s', Moved (S :: wr) G fin s' → SetIs knd s'.heap S (uniq ks) → (∀ b o, h0.get? b = some o → s'.heap.get? b = some o) → R (.ok (.ret .none)) s') :
    ∀ (m i : Nat) (s : Shared), n - i = m → i ≤ n → St i s → Moved (S :: wr) G fin s → (∀ b o, h0.get? b = some o → s.heap.get? b = some o) → SetIs knd s.heap S (uniq (ks.take i)) →
      codeAny (model P w) A (.builtin "set.update.loop" ⟨[.ref S, .ref I], []⟩) R s := by
  have Sw : S ∉ wr := fun y => hS (W.sub _ y)
  have sub : ∀ b ∈ wr, b ∈ S :: wr := fun b y => List.mem_cons_of_mem _ y
  have old : ∀ {s s' : Shared}, Moved wr G s s' → (∀ b o, h0.get? b = some o → s.heap.get? b = some o) → ∀ b o, h0.get? b = some o → s'.heap.get? b = some o := fun mo k b o e =>
    mo.heap b o (fun y => by rw [nw b y] at e; cases e) (k b o e)
  intro m
  induction m with
  | zero =>
    intro i s hm hi st mo k g
    obtain rfl : i = n := by omega
    rw [hn, List.take_length] at g
    refine codeAny_builtin F.entry_set_update_loop (by
      rw [Around.under_plainId F.plain_set_update_loop _]
      show wpAny _ A.in1 (pyNext (.ref I) >>= _) _ _ s
      exact wpAny_bind (W.done s _ _ st fun s' m' => wpAny_pure (hR s' (mo.trans W.gtrans (m'.mono sub)) (g.kept fun o e => m'.heap S o Sw e) (old m' k))))
  | succ m ih =>
    intro i s hm hi st mo k g
    refine codeAny_builtin F.entry_set_update_loop ?_
    rw [Around.under_plainId F.plain_set_update_loop _]
    show wpAny _ A.in1 (pyNext (.ref I) >>= _) _ _ s
    refine wpAny_bind (W.item i s _ _ (by omega) st fun v s' pv st' m' => ?_)
    obtain ⟨r, er, hr, hsc⟩ := val i v pv
    have k' := old m' k
    have g' : SetIs knd s'.heap S (uniq (ks.take i)) := g.kept fun o e => m'.heap S o Sw e
    show wpAny _ A.in1 (holding [v] (setAdd S v) >>= _) _ _ s'
    refine wpAny_bind (wpAny_holding ?_)
    unfold setAdd
    refine wpAny_holding (wpAny_bind (knd.pyHash hr ?_))
    have room : (uniq (ks.take i)).length + 1 < scanBound := by
      have h1 := uniq_len (ks.take i)
      rw [List.length_take] at h1
      omega
    refine wpAny_setAddHashed_of (knd := knd) (s := { s' with toks := s'.toks + 1 }) hr hsc g' room fun h' sb g2 => ?_
    have k2 : ∀ b o, h0.get? b = some o → h'.get? b = some o := fun b o e => (sb.2 b fun y => by rw [y, nS] at e; cases e).trans (k' b o e)
    have g3 : SetIs knd h' S (uniq (ks.take (i + 1))) := by
      have e : ks.take (i + 1) = ks.take i ++ [r] := by
        rw [List.take_add_one, er]
        rfl
      rw [e, uniq_snoc]
      unfold SetIs
      by_cases z : r ∈ uniq (ks.take i)
      · rw [if_pos z]
        have e1 : (fun k' => decide (k' ∈ uniq (ks.take i)) || decide (k' = r)) = fun k' => decide (k' ∈ uniq (ks.take i)) := by
          funext k'
          by_cases y : k' = r
          · rw [y]
            simp [z]
          · simp [y]
        rw [e1, if_pos (decide_eq_true z)] at g2
        exact g2
      · rw [if_neg z, List.length_append]
        have e1 : (fun k' => decide (k' ∈ uniq (ks.take i)) || decide (k' = r)) = fun k' => decide (k' ∈ uniq (ks.take i) ++ [r]) := by
          funext k'
          simp [List.mem_append]
        rw [e1, if_neg (by simpa using z)] at g2
        exact g2
    refine wpAny_pure ⟨plainId_quiet F.plain_set_update_loop _, ih (i + 1) _ (by omega) (by omega) (W.frame _ s' _ _ st' (Nat.le_succ _) fun b hb o e => (sb.2 b fun y => hS (y ▸ hb)).trans e) ?_ k2 g3⟩
    exact mo.trans W.gtrans ((m'.mono sub).then_heap (Nat.le_succ _) fun b o hb e => (sb.2 b fun y => hb (by rw [y]; simp)).trans e)
set_option maxHeartbeats 3200000 in
/-- set(xs), xs a list -/
theorem call_set_list {l : Addr} {items : Array Value} {ks : List K} {Q : Value → Shared → Prop} (hh : A.handled = none) (hl : s.heap.IsList l items) (hit : Held knd ks items) (few : ks.length + 1 < scanBound)
    (q : ∀ (h' : Heap) (tk : Nat), SetIs knd h' s.heap.objs.size (uniq ks) → (∀ b o, s.heap.get? b = some o → h'.get? b = some o) → Q (.ref s.heap.objs.size) { s with heap := h', toks := tk }) :
    wpAny (model P w) A (call (.type "set") [.ref l]) Q E s := by
  have isz := hit.size
  obtain ⟨_, _, hmro⟩ := F.called_set.mro
  have hmade := F.called_set.made
  have hsub := F.called_set.sub
  have h1 := F.called_set.notType
  have h2 := F.called_set.canCreate
  have hct := F.typeCall_set_1 (.ref l)
  refine wpAny_call (codeAny_of_tree (by
    show wpAny _ _ (callAny (.type "set") _) _ _ _
    refine wpAny_pure ⟨Code.quiet_builtin _ (by decide +kernel), codeAny_builtin F.entry_type_call ?_⟩
    rw [Around.under_plain (weight_type_call_type "set" [.ref l] []) rfl]
    repeat (any_goals (first | assumption | wp_step))
    refine codeAny_mono (code_set_new_1 (.ref l) (E := E) (Q₁ := fun obj s₁ => obj = .ref s.heap.objs.size ∧ ∃ led : Bool, s₁ = { s with heap := s.heap.push (newS led) }) fun led => ⟨rfl, led, rfl⟩) fun r s₁ hr => ?_
    rcases r with e | fl
    · exact hr
    cases fl with
    | ret obj =>
      obtain ⟨rfl, led, rfl⟩ := hr
      obtain ⟨H1, eH1⟩ : ∃ H1, H1 = s.heap.push (newS led) := ⟨_, rfl⟩
      rw [← eH1]
      have hS : H1.get? s.heap.objs.size = some (newS led) := by rw [eH1]; exact Heap.get?_push_size _ rfl
      have up : ∀ b o, s.heap.get? b = some o → H1.get? b = some o := fun b o e => by rw [eH1]; exact Heap.get?_push_of_some _ e
      have zH : H1.objs.size = s.heap.objs.size + 1 := by rw [eH1, Heap.size_push]
      have hT : Shared.TypeIs { s with heap := H1 } (.ref s.heap.objs.size) "set" := ⟨_, hS, rfl⟩
      have hli := F.called_set.init.lookup
      have hbi := F.called_set.init.bind (.ref s.heap.objs.size)
      repeat (any_goals (first | assumption | wp_step))
      refine codeAny_mono (codeAny_call_builtin (R := wants (fun r s₂ => r = .none ∧ ∃ h' tk, s₂ = { s with heap := h', toks := tk } ∧ SetIs knd h' s.heap.objs.size (uniq ks) ∧ ∀ b o, s.heap.get? b = some o → h'.get? b = some o) E)
        F.called_set.init.plain F.entry_set_init (check_set_init_1 hT ?_)) fun r₂ s₂ hr₂ => ?_
      · obtain ⟨⟨_, od, _, os⟩, hol, rfl, nl, rfl⟩ := hl
        have hol1 := up _ _ hol
        have hl1 : H1.IsList l items := ⟨_, hol1, rfl, nl, rfl⟩
        have hsls := F.sub_list_set
        have hslf := F.sub_list_frozenset
        have hne : (Value.type "list" == Value.type "dict") = false := by decide
        unfold Builtin.«set.__init__» noKeywords Builtin.Frozenset.updateFrom
        generalize ePI : pyIter = PI
        wp_walk
        subst ePI
        refine wpAny_pyIter_list hl1 (wpAny_bind (wpAny_runValue ?_))
        have ll : l < s.heap.objs.size := Heap.lt_size hol
        have h3 : A.in1.in1.in1.handled = none := by simp [hh]
        have lI : l ≠ H1.objs.size := by rw [zH]; exact Nat.ne_of_lt (Nat.lt_succ_of_lt ll)
        have nf : s.heap.objs.size ∉ [H1.objs.size, l] := by
          rw [zH, List.mem_cons, List.mem_singleton]
          exact fun y => y.elim (fun e => Nat.succ_ne_self _ e.symm) fun e => Nat.lt_irrefl _ (e ▸ ll)
        have none_at : ∀ b, s.heap.objs.size ≤ b → s.heap.get? b = none := fun b hb => by
          cases y : s.heap.get? b with
          | none => rfl
          | some o => exact absurd (Nat.lt_of_lt_of_le (Heap.lt_size y) hb) (Nat.lt_irrefl _)
        have up2 : ∀ b o, H1.get? b = some o → (H1.push { cls := .type "list_iterator", data := .fields #[.ref l, .int 0 0] }).get? b = some o := fun b o e => Heap.get?_push_of_some _ e
        refine fill (knd := knd) (h0 := s.heap) (fin := { s with heap := H1.push { cls := .type "list_iterator", data := .fields #[.ref l, .int 0 0] } }) ((Walks.list h3 _ l lI items).toS) nf isz few (fun i v hv => hit.get hv) (none_at _ (Nat.le_refl _)) (fun b hb => none_at b ?_)
          (Moved.refl (fun _ => rfl)) (fun s' mo g k => ?_) (items.size - 0) 0 _ (by omega) (Nat.zero_le _) ⟨⟨_, Heap.get?_push_size _ rfl, rfl, rfl⟩, hl1.push _⟩ (Moved.refl (fun _ => rfl)) (fun b o e => up2 b o (up b o e)) (fresh led (up2 _ _ hS))
        · rw [List.mem_singleton.mp hb, zH]
          exact Nat.le_succ _
        · obtain ⟨h', g2, d', tk', os'⟩ := s'
          obtain rfl : g2 = s.gens := mo.gens
          obtain rfl : d' = s.drawn := mo.drawn
          obtain rfl : os' = s.os := mo.os
          show wpAny _ _ _ _ _ _
          refine wpAny_pure ?_
          show wpAny _ _ (ret Value.none) _ _ _
          exact wpAny_pure ⟨rfl, h', tk', rfl, g, k⟩
      · rcases r₂ with e | fl₂
        · exact hr₂
        cases fl₂ with
        | ret r =>
          obtain ⟨rfl, h', tk, rfl, g, k⟩ := hr₂
          repeat (any_goals (first | assumption | wp_step))
          exact q _ _ g k
        | _ => exact hr₂.elim
    | _ => exact hr.elim))
set_option maxHeartbeats 3200000 in
/-- set(xs), xs a tuple -/
theorem call_set_tuple {l : Addr} {items : Array Value} {ks : List K} {Q : Value → Shared → Prop} (hh : A.handled = none) (hl : s.heap.IsTuple l items) (hit : Held knd ks items) (few : ks.length + 1 < scanBound)
    (q : ∀ (h' : Heap) (tk : Nat), SetIs knd h' s.heap.objs.size (uniq ks) → (∀ b o, s.heap.get? b = some o → h'.get? b = some o) → Q (.ref s.heap.objs.size) { s with heap := h', toks := tk }) :
    wpAny (model P w) A (call (.type "set") [.ref l]) Q E s := by
  have isz := hit.size
  obtain ⟨_, _, hmro⟩ := F.called_set.mro
  have hmade := F.called_set.made
  have hsub := F.called_set.sub
  have h1 := F.called_set.notType
  have h2 := F.called_set.canCreate
  have hct := F.typeCall_set_1 (.ref l)
  refine wpAny_call (codeAny_of_tree (by
    show wpAny _ _ (callAny (.type "set") _) _ _ _
    refine wpAny_pure ⟨Code.quiet_builtin _ (by decide +kernel), codeAny_builtin F.entry_type_call ?_⟩
    rw [Around.under_plain (weight_type_call_type "set" [.ref l] []) rfl]
    repeat (any_goals (first | assumption | wp_step))
    refine codeAny_mono (code_set_new_1 (.ref l) (E := E) (Q₁ := fun obj s₁ => obj = .ref s.heap.objs.size ∧ ∃ led : Bool, s₁ = { s with heap := s.heap.push (newS led) }) fun led => ⟨rfl, led, rfl⟩) fun r s₁ hr => ?_
    rcases r with e | fl
    · exact hr
    cases fl with
    | ret obj =>
      obtain ⟨rfl, led, rfl⟩ := hr
      obtain ⟨H1, eH1⟩ : ∃ H1, H1 = s.heap.push (newS led) := ⟨_, rfl⟩
      rw [← eH1]
      have hS : H1.get? s.heap.objs.size = some (newS led) := by rw [eH1]; exact Heap.get?_push_size _ rfl
      have up : ∀ b o, s.heap.get? b = some o → H1.get? b = some o := fun b o e => by rw [eH1]; exact Heap.get?_push_of_some _ e
      have zH : H1.objs.size = s.heap.objs.size + 1 := by rw [eH1, Heap.size_push]
      have hT : Shared.TypeIs { s with heap := H1 } (.ref s.heap.objs.size) "set" := ⟨_, hS, rfl⟩
      have hli := F.called_set.init.lookup
      have hbi := F.called_set.init.bind (.ref s.heap.objs.size)
      repeat (any_goals (first | assumption | wp_step))
      refine codeAny_mono (codeAny_call_builtin (R := wants (fun r s₂ => r = .none ∧ ∃ h' tk, s₂ = { s with heap := h', toks := tk } ∧ SetIs knd h' s.heap.objs.size (uniq ks) ∧ ∀ b o, s.heap.get? b = some o → h'.get? b = some o) E)
        F.called_set.init.plain F.entry_set_init (check_set_init_1 hT ?_)) fun r₂ s₂ hr₂ => ?_
      · obtain ⟨⟨_, od, _, os⟩, hol, rfl, nl, rfl⟩ := hl
        have hol1 := up _ _ hol
        have hl1 : H1.IsTuple l items := ⟨_, hol1, rfl, nl, rfl⟩
        have hsls := F.sub_tuple_set
        have hslf := F.sub_tuple_frozenset
        have hne : (Value.type "tuple" == Value.type "dict") = false := by decide
        unfold Builtin.«set.__init__» noKeywords Builtin.Frozenset.updateFrom
        generalize ePI : pyIter = PI
        wp_walk
        subst ePI
        refine wpAny_pyIter_tuple hl1 (wpAny_bind (wpAny_runValue ?_))
        have ll : l < s.heap.objs.size := Heap.lt_size hol
        have h3 : A.in1.in1.in1.handled = none := by simp [hh]
        have lI : l ≠ H1.objs.size := by rw [zH]; exact Nat.ne_of_lt (Nat.lt_succ_of_lt ll)
        have nf : s.heap.objs.size ∉ [H1.objs.size, l] := by
          rw [zH, List.mem_cons, List.mem_singleton]
          exact fun y => y.elim (fun e => Nat.succ_ne_self _ e.symm) fun e => Nat.lt_irrefl _ (e ▸ ll)
        have none_at : ∀ b, s.heap.objs.size ≤ b → s.heap.get? b = none := fun b hb => by
          cases y : s.heap.get? b with
          | none => rfl
          | some o => exact absurd (Nat.lt_of_lt_of_le (Heap.lt_size y) hb) (Nat.lt_irrefl _)
        have up2 : ∀ b o, H1.get? b = some o → (H1.push { cls := .type "tuple_iterator", data := .fields #[.ref l, .int 0 0] }).get? b = some o := fun b o e => Heap.get?_push_of_some _ e
        refine fill (knd := knd) (h0 := s.heap) (fin := { s with heap := H1.push { cls := .type "tuple_iterator", data := .fields #[.ref l, .int 0 0] } }) ((Walks.tuple h3 _ l lI items).toS) nf isz few (fun i v hv => hit.get hv) (none_at _ (Nat.le_refl _)) (fun b hb => none_at b ?_)
          (Moved.refl (fun _ => rfl)) (fun s' mo g k => ?_) (items.size - 0) 0 _ (by omega) (Nat.zero_le _) ⟨⟨_, Heap.get?_push_size _ rfl, rfl, rfl⟩, hl1.push _⟩ (Moved.refl (fun _ => rfl)) (fun b o e => up2 b o (up b o e)) (fresh led (up2 _ _ hS))
        · rw [List.mem_singleton.mp hb, zH]
          exact Nat.le_succ _
        · obtain ⟨h', g2, d', tk', os'⟩ := s'
          obtain rfl : g2 = s.gens := mo.gens
          obtain rfl : d' = s.drawn := mo.drawn
          obtain rfl : os' = s.os := mo.os
          show wpAny _ _ _ _ _ _
          refine wpAny_pure ?_
          show wpAny _ _ (ret Value.none) _ _ _
          exact wpAny_pure ⟨rfl, h', tk', rfl, g, k⟩
      · rcases r₂ with e | fl₂
        · exact hr₂
        cases fl₂ with
        | ret r =>
          obtain ⟨rfl, h', tk, rfl, g, k⟩ := hr₂
          repeat (any_goals (first | assumption | wp_step))
          exact q _ _ g k
        | _ => exact hr₂.elim
    | _ => exact hr.elim))
end
theorem held_of {P : Program} {w : World} : ∀ {ks : List Key} {its : List Value}, Vals (ks.map kV) its → Held (mixKind P w) ks its.toArray
  | ks, its, r => by
    refine ⟨by rw [List.size_toArray, ← r.length, List.length_map], fun {i v} h => ?_⟩
    have hl : its[i]? = some v := by simpa using h
    have lt : i < ks.length := by
      have := (List.getElem?_eq_some_iff.mp hl).1
      rw [← r.length, List.length_map] at this
      exact this
    obtain ⟨u, hu, ru⟩ := r.get (i := i) (x := kV ks[i]) (by simp [lt])
    rw [hl] at hu
    cases hu
    exact ⟨ks[i], List.getElem?_eq_getElem lt, kV_is ru, key_scan ru⟩
/-- len(set(xs)) -/
def tLenSetK (K : PySem.W.Frag) (ta : TE) : TE := fun σ H Q => ta σ H fun x H1 => ∃ (l : Addr) (ks : List Key), x = .ref l ∧ (SqL K H1 l (ks.map kV) ∨ SqT K H1 l (ks.map kV)) ∧ ks.length ≤ 4000 ∧ Q (.int (uniq ks).length) H1
theorem pe_lenSetK {X : Cx} {a : Expr} {ta : TE} {p p2 q pos : Pos} (hc : X.calm = true) (hg : Gl X "len") (hm : X.mg "len" = none) (hg2 : Gl X "set") (hm2 : X.mg "set" = none) (ha : PE X a ta)
    (na : starEach [a] X.env = (false, eval a X.env) :: starEach [] X.env := by rfl) : PE X (.Call (.Name "len" p) [.Call (.Name "set" p2) [a] [] q] [] pos) (tLenSetK X.K ta) := by
  refine ⟨fun pins s σ H Q I h => ?_⟩
  refine Call_ (ld_blt I hg hm boot_len ?_)
  refine PyProof.Rows.callWith_builtin1 (PyProof.Rows.args_cons ?_ rfl) rfl rfl
  refine Call_ (ld_blt I hg2 hm2 boot_set ?_)
  refine PyProof.Rows.callWith_type1 (PyProof.Rows.args_cons (thn (ha.run pins s σ H _ I h) fun v s1 ⟨x, H1, I1, r1, q1⟩ => PyProof.Rows.args_nil ?_) na) na rfl
  obtain ⟨l, ks, rfl, hq, few, q1⟩ := q1
  cases r1
  have few' : ks.length + 1 < scanBound := by unfold scanBound; omega
  have fin : ∀ (h' : Heap) (tk : Nat), SetIs (mixKind X.prog X.w) h' s1.heap.objs.size (uniq ks) → (∀ b o, s1.heap.get? b = some o → h'.get? b = some o) →
      wpAny (model X.prog X.w) X.A (spliced (backTo pos (starEach [] X.env))) (fun vs s₂ => wpAny (model X.prog X.w) X.A (call (.builtin "len") (Value.ref s1.heap.objs.size :: vs)) (EP X pins σ Q) X.xe s₂) X.xe { s1 with heap := h', toks := tk } := fun h' tk hS hk => by
    refine PyProof.Rows.args_nil ?_
    have ul := uniq_len ks
    obtain ⟨o, es, ep, t, ho, hex, hd, _, _, _, hf, hn⟩ := hS
    have I2 : Inv X pins σ H1 { s1 with heap := h', toks := tk } := I1.kept fun b o e => hk b o e
    refine call_len_set ho hex hd hf (by rw [hn] <;> omega) ⟨.int (uniq ks).length, H1, I2.tok _, ⟨_, by rw [hn]⟩, q1⟩
  rcases hq with hq | hq
  · obtain ⟨its, r, pl, hz⟩ := I1.list hq
    exact call_set_list (knd := mixKind X.prog X.w) (I1.ok.hd hc) pl.isList (held_of r) few' fin
  · obtain ⟨its, r, pl, hz⟩ := I1.tuple hq
    exact call_set_tuple (knd := mixKind X.prog X.w) (I1.ok.hd hc) pl (held_of r) few' fin
end Sk
end

section
set_option Elab.async false
set_option linter.all false
set_option maxRecDepth 100000
set_option maxHeartbeats 4000000
/-! the columns of a table. -/
namespace K20
open PySem PySem.Spec PyProof.Rows L2 Gd
abbrev sCol : Stmt := topS 24
theorem scCol : FnScope ["thing", "column"] ["thing"] (defScope sCol) := ⟨rfl, rfl, rfl, by decide +kernel, rfl, by decide +kernel, by decide +kernel⟩
structure ColsOk (cs : List Str) : Prop where
  one : 1 ≤ cs.length
  four : cs.length ≤ 4
  nd : cs.Nodup
  lab : ∀ c ∈ cs, isLab c = true
def spCol (K : PySem.W.Frag) : Sp := fun vs H Q _ => ∃ (a : Addr) (cs : List Str), vs = [.ref a] ∧ SqT K H a (cs.map V.str) ∧ ColsOk cs ∧ ∀ H', Same H H' → Q (.bl true) H'
structure Ct (mg : Str → Option Value) : Prop where
  cols : ∃ t, mg "_MOST_COLUMNS" = some (.int 4 t)
  tabs : ∃ t, mg "_MOST_TABLES" = some (.int 6 t)
  rows : ∃ t, mg "_MOST_ROWS" = some (.int 60 t)
  tup : mg "tuple" = none
  set_ : mg "set" = none
theorem lab_ok {x : Str} (h : isLab x = true) : okD 50 (.str x) = true := by
  unfold isLab at h
  simp only [Bool.and_eq_true, decide_eq_true_eq, List.all_eq_true] at h
  simp only [okD, Bool.and_eq_true, decide_eq_true_eq]
  have e : (("abcdefghijklmnopqrstuvwxyz" : Str).cps.toList.all fun c => decide (c < 128)) = true := by decide +kernel
  refine ⟨by omega, List.all_eq_true.mpr fun c hc => ?_⟩
  exact List.all_eq_true.mp e c (h.2 c hc)
theorem uniq_go {κ : Type} [DecidableEq κ] : ∀ (xs acc : List κ), (acc ++ xs).Nodup → xs.foldl (fun acc k => if k ∈ acc then acc else acc ++ [k]) acc = acc ++ xs
  | [], acc, _ => by simp
  | x :: xs, acc, hn => by
    have nx : x ∉ acc := fun m => by
      rw [List.nodup_append] at hn
      exact hn.2.2 x m x (by simp) rfl
    rw [List.foldl_cons, if_neg nx, uniq_go xs (acc ++ [x]) (by simpa using hn)]
    simp
theorem uniq_nd {κ : Type} [DecidableEq κ] {cs : List κ} (h : cs.Nodup) : Sk.uniq cs = cs := uniq_go cs [] (by simpa using h)
theorem iteT' {b : Bool} {p q : Prop} (h : b = true) (y : p) : if b = true then p else q := by
  rw [if_pos h]
  exact y
section
variable {P : Program} {w : World} {K : PySem.W.Frag} {mg : Str → Option Value} {base : Heap} {f fN pS : Addr} {fd dN : FuncData}
theorem ok_col (F : Fun K "_are_columns" "_are_columns" sCol f fd) (C : Cs K mg pS) (M : Ct mg)
    (FN : Fun K "is_name" "is_name" sName fN dN) (GN : FnOk P w K mg base CX0 1 fN dN ["thing"] (spChk K isLabD)) (gN : mg "is_name" = some (.ref fN)) (bN : Binds K dN ["thing"] []) : FnOk P w K mg base CX0 2 f fd ["thing"] (spCol K) := by
  refine F.ok scCol (fun vs H Q E h => ?_) (fun cdv A outer s H vs Q E hr h => ?_)
  · obtain ⟨a, cs, rfl, _⟩ := h
    rfl
  obtain ⟨a, cs, rfl, ha, ok, q⟩ := h
  have nd := scCol.nd
  obtain ⟨tc, gc⟩ := M.cols
  refine ⟨_, pss_cons (ps_if (PW.pt (pw_or (pt_not (pt_val (pe_callB call_isi (by rfl) C.isi (by decide +kernel) (pa_cons (pv 0) (pa_cons (pe_bltn (v := .ty "tuple") (by rfl) M.tup (by decide +kernel) rfl) pa_nil)))))
      (pw_or1 (pt_not (pt_chain op_le op_le pe_int (pe_callB call_len_seq (by rfl) C.len PySem.boot_len (pa_cons (pv 0) pa_nil)) (pe_glob (v := .int 4) (by rfl) gc ⟨_, rfl⟩))))))
      (pss_one (ps_ret pe_bl)) pss_nil)
    (pss_one (ps_ret (pe_and (pe_callB (cr_all rfl) (by rfl) C.all (by decide +kernel) (pa_cons (pe_lc (own := [("column", 1)]) (g := gName 1) (tt := tYes) rfl nd (pi_tup (pv 0))
        (blkOk_by (N := ["thing", "column"]) (sc := defScope sCol) (by decide +kernel)) (fun _ _ _ _ _ => pg_name (i := 1) nd rfl (Or.inl rfl)) (fun _ _ _ _ _ => pts_nil)
        (fun _ _ _ _ _ => pe_call GN hr (by rfl) gN FN.kp bN .nil pass0 (pa_cons (pv 1) pa_nil))) pa_nil))
      (pe_one (pe_cmpR op_eq (Sk.pe_lenSetK rfl (by rfl) C.len (by rfl) M.set_ (pv 0)) (pe_callB call_len_seq (by rfl) C.len PySem.boot_len (pa_cons (pv 0) pa_nil)) (nomark _)))))), ?_⟩
  have sa : TyX K H (.ref a) (.type "tuple") := by
    rcases ha with (a1 | ⟨z, a1⟩) | ⟨z, its, n, a1, c, _⟩
    · exact .base (.tup a1)
    · exact .fTuple a1
    · exact .kTuple a1 c
  have l1 := ok.one
  have l4 := ok.four
  have hl : (cs.map V.str).length = cs.length := List.length_map _
  refine ⟨_, rfl, _, _, _, _, true, rfl, .ty _, sa, kit_ty (by decide +kernel), _, rfl, ?_⟩
  refine iteF ?_
  refine ⟨_, rfl, a, _, rfl, .inr ha, ?_⟩
  refine ⟨_, _, rfl, rfl, _, rfl, ite2 (fun c1 => ?_) (fun c1 => absurd (decide_eq_true (show (1 : Int) ≤ ((cs.map V.str).length : Int) by omega)) c1)⟩
  refine ⟨_, _, rfl, rfl, _, rfl, ?_⟩
  have e4 : decide (((cs.map V.str).length : Int) ≤ 4) = true := decide_eq_true (by omega)
  rw [e4]
  refine iteF ?_
  refine ⟨_, rfl, a, rfl, ⟨_, ha⟩, fun D nD => ?_⟩
  refine lc_tup (K := K) (a := a) (xs := cs.map V.str) (fun i H' => Same H H' ∧ H' D = some (.lst ((List.replicate i true).map V.bl))) ⟨new_same nD, upd_same⟩ (fun i H' _ y => Tups.of_same y.1 _ _ ha) ?_ ?_
  · rintro i x H' hx ⟨sm, eD⟩
    rw [List.getElem?_map, Option.map_eq_some_iff] at hx
    obtain ⟨c, hc, rfl⟩ := hx
    have hi : i < cs.length := (List.getElem?_eq_some_iff.mp hc).1
    have lc := ok.lab c (List.mem_of_getElem? hc)
    refine ⟨rfl, ?_⟩
    refine ⟨_, rfl, fun _ => False, .str c, .str c, rfl, .str _, lab_ok lc, fun H'' s'' => ?_⟩
    refine ⟨_, s'' _ _ eD, by rw [List.length_map, List.length_replicate, sizeLine_eq]; omega, fun b o e => ?_, ?_⟩
    · rw [upd_ne (ne_of_none e nD)]
      exact s'' _ _ (sm _ _ e)
    · rw [upd_same, show isLabD (.str c) = true from lc, List.replicate_succ', List.map_append]
      rfl
  rintro H' ⟨sm, eD⟩
  refine ⟨D, _, rfl, SqL.of eD, ?_⟩
  have e5 : (List.replicate (cs.map V.str).length true).all id = true := by simp
  rw [e5]
  refine ⟨_, rfl, iteT' (by rfl) ?_⟩
  have hk : (cs.map (Sum.inr : Str → Key)).map kV = cs.map V.str := by rw [List.map_map]; rfl
  have ndk : (cs.map (Sum.inr : Str → Key)).Nodup := List.Pairwise.map Sum.inr (fun x y h z => h (Sum.inr.inj z)) ok.nd
  have ha2 := Tups.of_same sm _ _ ha
  refine ⟨_, rfl, a, cs.map Sum.inr, rfl, .inr (by rw [hk]; exact ha2), by rw [List.length_map]; omega, ?_⟩
  rw [uniq_nd ndk]
  refine ⟨_, rfl, a, _, rfl, .inr ha2, rfl, ?_⟩
  rw [show decide (V.int (((cs.map (Sum.inr : Str → Key)).length : Nat) : Int) = V.int (((cs.map V.str).length : Nat) : Int)) = true from decide_eq_true (by rw [List.length_map, List.length_map])]
  exact q _ sm
end
end K20
end

section
set_option Elab.async false
set_option linter.all false
set_option maxRecDepth 100000
set_option maxHeartbeats 4000000
/-! deeds. -/
namespace K20
open PySem PySem.Spec PyProof.Rows L2 Gd
inductive Deed where
  | table (n : Str) (cs : List Str)
  | row (n : Str) (ws : List Int)
  | out (n : Str) (k : Nat)
def Deed.name : Deed → Str
  | .table n _ => n
  | .row n _ => n
  | .out n _ => n
def Deed.word : Deed → Str
  | .table _ _ => "table"
  | .row _ _ => "row"
  | .out _ _ => "out"
def WsOk (ws : List Int) : Prop := ∀ i ∈ ws, -(10 ^ 30 : Int) < i ∧ i < 10 ^ 30
def DeedOk : Deed → Prop
  | .table n cs => isLab n = true ∧ ColsOk cs
  | .row n ws => isLab n = true ∧ WsOk ws ∧ ws.length ≤ 1000
  | .out n k => isLab n = true ∧ k ≤ 1000
/-- what the deed is of, at v -/
def WhatAt (K : PySem.W.Frag) (H : Hp) (v : V) : Deed → Prop
  | .table _ cs => ∃ a, v = .ref a ∧ SqT K H a (cs.map V.str)
  | .row _ ws => ∃ a, v = .ref a ∧ SqT K H a (ws.map V.int)
  | .out _ k => v = .int k
def DeedAt (K : PySem.W.Frag) (H : Hp) (t : Addr) (d : Deed) : Prop := ∃ v, SqT K H t [.str d.word, .str d.name, v] ∧ WhatAt K H v d
theorem WhatAt.tups {K : PySem.W.Frag} {H H' : Hp} {v : V} {d : Deed} (t : Tups K H H') (h : WhatAt K H v d) : WhatAt K H' v d := by
  cases d with
  | table n cs =>
    obtain ⟨a, e, h⟩ := h
    exact ⟨a, e, t _ _ h⟩
  | row n ws =>
    obtain ⟨a, e, h⟩ := h
    exact ⟨a, e, t _ _ h⟩
  | out n k => exact h
theorem DeedAt.tups {K : PySem.W.Frag} {H H' : Hp} {a : Addr} {d : Deed} (t : Tups K H H') (h : DeedAt K H a d) : DeedAt K H' a d := by
  obtain ⟨v, e, h⟩ := h
  exact ⟨v, t _ _ e, h.tups t⟩
theorem DeedOk.lab {d : Deed} (h : DeedOk d) : isLab d.name = true := by
  cases d with
  | table n cs => exact h.1
  | row n ws => exact h.1
  | out n k => exact h.1
abbrev sDeed : Stmt := topS 23
theorem scDeed : FnScope ["thing", "worth"] ["thing"] (defScope sDeed) := ⟨rfl, rfl, rfl, by decide +kernel, rfl, by decide +kernel, by decide +kernel⟩
def spDeed (K : PySem.W.Frag) : Sp := fun vs H Q _ => ∃ (t : Addr) (d : Deed), vs = [.ref t] ∧ DeedAt K H t d ∧ DeedOk d ∧ ∀ H', Same H H' → Q (.bl true) H'
theorem tyT {K : PySem.W.Frag} {H : Hp} {a : Addr} {xs : List V} (ha : SqT K H a xs) : TyX K H (.ref a) (.type "tuple") := by
  rcases ha with (a1 | ⟨z, a1⟩) | ⟨z, its, n, a1, c, _⟩
  · exact .base (.tup a1)
  · exact .fTuple a1
  · exact .kTuple a1 c
theorem iteF' {b : Bool} {p q : Prop} (h : ¬ b = true) (y : q) : if b = true then p else q := by
  rw [if_neg h]
  exact y
theorem num_is {c : Int} (h : -(10 ^ 30 : Int) < c ∧ c < 10 ^ 30) : isNum (.int c) = true := by
  show (decide (-(10 ^ 30 : Int) < c) && decide (c < 10 ^ 30)) = true
  rw [decide_eq_true h.1, decide_eq_true h.2]
  rfl
theorem num_ok {c : Int} (h : -(10 ^ 30 : Int) < c ∧ c < 10 ^ 30) : okD 50 (.int c) = true := by
  have a : (10 ^ 30 : Int) ≤ 10 ^ 64 := by decide
  simp only [okD, decide_eq_true_eq]
  have b : ((10 ^ 64 : Nat) : Int) = (10 : Int) ^ 64 := by decide
  omega
section
variable {P : Program} {w : World} {K : PySem.W.Frag} {mg : Str → Option Value} {base : Heap} {f fN fW fM fC pS : Addr} {fd dN dW dM dC : FuncData}
theorem ok_deed (F : Fun K "_is_deed" "_is_deed" sDeed f fd) (C : Cs K mg pS) (M : Ct mg)
    (FN : Fun K "is_name" "is_name" sName fN dN) (GN : FnOk P w K mg base CX0 1 fN dN ["thing"] (spChk K isLabD)) (gN : mg "is_name" = some (.ref fN)) (bN : Binds K dN ["thing"] [])
    (FW : Fun K "is_whole" "is_whole" sWhole fW dW) (GW : FnOk P w K mg base CX0 1 fW dW ["thing"] (spChk K fun d => isI d && !isB d)) (gW : mg "is_whole" = some (.ref fW)) (bW : Binds K dW ["thing"] [])
    (FM : Fun K "is_number" "is_number" sNumber fM dM) (GM : FnOk P w K mg base CX0 2 fM dM ["thing"] (spChk K isNum)) (gM : mg "is_number" = some (.ref fM)) (bM : Binds K dM ["thing"] [])
    (FC : Fun K "_are_columns" "_are_columns" sCol fC dC) (GC : FnOk P w K mg base CX0 2 fC dC ["thing"] (spCol K)) (gC : mg "_are_columns" = some (.ref fC)) (bC : Binds K dC ["thing"] []) :
    FnOk P w K mg base CX0 3 f fd ["thing"] (spDeed K) := by
  refine F.ok scDeed (fun vs H Q E h => ?_) (fun cdv A outer s H vs Q E hr h => ?_)
  · obtain ⟨t, d, rfl, _⟩ := h
    rfl
  obtain ⟨t, d, rfl, ⟨v, ht, hv⟩, ok, q⟩ := h
  have nd := scDeed.nd
  have r1 : Room 1 _ := hr.mono (by decide)
  refine ⟨_, pss_cons (ps_if (PW.pt (pw_or (pt_not (pt_val (pe_callB call_isi (by rfl) C.isi (by decide +kernel) (pa_cons (pv 0) (pa_cons (pe_bltn (v := .ty "tuple") (by rfl) M.tup (by decide +kernel) rfl) pa_nil)))))
      (pw_or (pt_cmpR op_ne (pe_callB call_len_seq (by rfl) C.len PySem.boot_len (pa_cons (pv 0) pa_nil)) pe_int (nomark _))
      (pw_or1 (pt_not (pt_val (pe_call GN r1 (by rfl) gN FN.kp bN .nil pass0 (pa_cons (pe_ix ix_tup (pv 0) pe_int (fun _ _ => rfl)) pa_nil))))))))
      (pss_one (ps_ret pe_bl)) pss_nil)
    (pss_cons (ps_if (pt_cmpR op_eq (pe_ix ix_tup (pv 0) pe_int (fun _ _ => rfl)) pe_str (nomark _)) (pss_one (ps_ret (pe_call GC hr (by rfl) gC FC.kp bC .nil pass0 (pa_cons (pe_ix ix_tup (pv 0) pe_int (fun _ _ => rfl)) pa_nil)))) pss_nil)
    (pss_cons (ps_if (pt_cmpR op_eq (pe_ix ix_tup (pv 0) pe_int (fun _ _ => rfl)) pe_str (nomark _))
      (pss_one (ps_ret (pe_and (pe_callB call_isi (by rfl) C.isi (by decide +kernel) (pa_cons (pe_ix ix_tup (pv 0) pe_int (fun _ _ => rfl)) (pa_cons (pe_bltn (v := .ty "tuple") (by rfl) M.tup (by decide +kernel) rfl) pa_nil)))
        (pe_one (pe_callB (cr_all rfl) (by rfl) C.all (by decide +kernel) (pa_cons (pe_lc (own := [("worth", 1)]) (g := gName 1) (tt := tYes) rfl nd (pi_tup (pe_ix ix_tup (pv 0) pe_int (fun _ _ => rfl)))
          (blkOk_by (N := ["thing", "worth"]) (sc := defScope sDeed) (by decide +kernel)) (fun _ _ _ _ _ => pg_name (i := 1) nd rfl (Or.inl rfl)) (fun _ _ _ _ _ => pts_nil)
          (fun _ _ _ _ _ => pe_call GM hr (by rfl) gM FM.kp bM .nil pass0 (pa_cons (pv 1) pa_nil))) pa_nil)))))) pss_nil)
    (pss_one (ps_ret (pe_and (pe_cmpR op_eq (pe_ix ix_tup (pv 0) pe_int (fun _ _ => rfl)) pe_str (nomark _)) (pe_and (pe_call GW r1 (by rfl) gW FW.kp bW .nil pass0 (pa_cons (pe_ix ix_tup (pv 0) pe_int (fun _ _ => rfl)) pa_nil))
      (pe_one (pe_cmpR op_ge (pe_ix ix_tup (pv 0) pe_int (fun _ _ => rfl)) pe_int (nomark _))))))))), ?_⟩
  have at0 : atI [V.str d.word, V.str d.name, v] 0 = some (.str d.word) := atI_nat (j := 0) rfl
  have at1 : atI [V.str d.word, V.str d.name, v] 1 = some (.str d.name) := atI_nat (j := 1) rfl
  have at2 : atI [V.str d.word, V.str d.name, v] 2 = some v := atI_nat (j := 2) rfl
  refine ⟨_, rfl, _, _, _, _, true, rfl, .ty _, tyT ht, kit_ty (by decide +kernel), _, rfl, iteF ?_⟩
  refine ⟨_, rfl, t, _, rfl, .inr ht, rfl, _, rfl, iteF ?_⟩
  refine ⟨_, rfl, t, _, 1, _, rfl, rfl, ht, at1, fun _ => False, _, .str d.name, rfl, .str _, lab_ok ok.lab, fun H1 s1 => ?_⟩
  refine ⟨_, rfl, ?_⟩
  rw [show isLabD (.str d.name) = true from ok.lab]
  refine iteF ?_
  have ht1 := Tups.of_same s1 _ _ ht
  have hv1 := hv.tups (Tups.of_same s1)
  refine ⟨_, rfl, t, _, 0, _, rfl, rfl, ht1, at0, rfl, _, rfl, ?_⟩
  cases d with
  | table n cs =>
    obtain ⟨a, rfl, ha⟩ := hv1
    refine iteT' (decide_eq_true rfl) ?_
    exact ⟨_, rfl, t, _, 2, _, rfl, rfl, ht1, at2, a, cs, rfl, ha, ok.2, fun H2 s2 => q H2 (s1.trans s2)⟩
  | row n ws =>
    obtain ⟨a, rfl, ha⟩ := hv1
    refine iteF' (by rw [decide_eq_true_eq]; intro z; exact absurd (V.str.inj z) (show ¬ ("row" : Str) = "table" by decide)) ?_
    refine ⟨_, rfl, t, _, 0, _, rfl, rfl, ht1, at0, rfl, _, rfl, iteT' (decide_eq_true rfl) ?_⟩
    refine ⟨_, rfl, t, _, 2, _, rfl, rfl, ht1, at2, _, _, _, _, true, rfl, .ty _, tyT ha, kit_ty (by decide +kernel), _, rfl, iteT' (by rfl) ?_⟩
    refine ⟨_, rfl, t, _, 2, _, rfl, rfl, ht1, at2, a, rfl, ⟨_, ha⟩, fun D nD => ?_⟩
    refine lc_tup (K := K) (a := a) (xs := ws.map V.int) (fun i H' => Same H1 H' ∧ H' D = some (.lst ((List.replicate i true).map V.bl))) ⟨new_same nD, upd_same⟩ (fun i H' _ y => Tups.of_same y.1 _ _ ha) ?_ ?_
    · rintro i x H' hx ⟨sm, eD⟩
      rw [List.getElem?_map, Option.map_eq_some_iff] at hx
      obtain ⟨c, hc, rfl⟩ := hx
      have hi : i < ws.length := (List.getElem?_eq_some_iff.mp hc).1
      have lc := ok.2.1 c (List.mem_of_getElem? hc)
      have l3 := ok.2.2
      refine ⟨rfl, ?_⟩
      refine ⟨_, rfl, fun _ => False, .int c, .int c, rfl, .int _, num_ok lc, fun H'' s'' => ?_⟩
      refine ⟨_, s'' _ _ eD, by rw [List.length_map, List.length_replicate, sizeLine_eq]; omega, fun b o e => ?_, ?_⟩
      · rw [upd_ne (ne_of_none e nD)]
        exact s'' _ _ (sm _ _ e)
      · rw [upd_same, show isNum (.int c) = true from num_is lc, List.replicate_succ', List.map_append]
        rfl
    rintro H' ⟨sm, eD⟩
    refine ⟨D, _, rfl, SqL.of eD, ?_⟩
    have e5 : (List.replicate (ws.map V.int).length true).all id = true := by simp
    rw [e5]
    exact q _ (s1.trans sm)
  | out n k =>
    obtain rfl := hv1
    have oKK : okD 50 (.int (k : Int)) = true := by
      have z := ok.2
      simp only [okD, decide_eq_true_eq]
      omega
    refine iteF' (by rw [decide_eq_true_eq]; intro z; exact absurd (V.str.inj z) (show ¬ ("out" : Str) = "table" by decide)) ?_
    refine ⟨_, rfl, t, _, 0, _, rfl, rfl, ht1, at0, rfl, _, rfl, iteF' (by rw [decide_eq_true_eq]; intro z; exact absurd (V.str.inj z) (show ¬ ("out" : Str) = "row" by decide)) ?_⟩
    refine ⟨_, rfl, t, _, 0, _, rfl, rfl, ht1, at0, rfl, _, rfl, iteT' (decide_eq_true rfl) ?_⟩
    refine ⟨_, rfl, t, _, 2, _, rfl, rfl, ht1, at2, fun _ => False, _, .int k, rfl, .int _, oKK, fun H2 s2 => ?_⟩
    refine ⟨_, rfl, iteT' (by rfl) ?_⟩
    refine ⟨_, rfl, t, _, 2, _, rfl, rfl, Tups.of_same s2 _ _ ht1, at2, _, _, rfl, rfl, ?_⟩
    show Q (.bl (decide ((0 : Int) ≤ (k : Int)))) H2
    rw [show decide ((0 : Int) ≤ (k : Int)) = true from decide_eq_true (by omega)]
    exact q _ (s1.trans s2)
end
end K20
end

section
set_option Elab.async false
set_option linter.all false
set_option maxRecDepth 100000
set_option maxHeartbeats 4000000
/-! Tables: what stands in the heap, by footprints. -/
namespace K20
open PySem PySem.Spec PyProof.Rows L2 Gd
/-- a row: its worths, the deed that put it, the one that took it out -/
structure Rw where
  ws : List Int
  put : Nat
  out : Option Nat
structure Tab where
  name : Str
  cols : List Str
  made : Nat
  rows : List Rw
structure Shelf where
  deeds : List Deed
  tabs : List Tab
def onTab (n : Str) (f : Tab → Tab) (t : Tab) : Tab := if t.name = n then f t else t
def Shelf.act (x : Shelf) (d : Deed) : Shelf :=
  { deeds := x.deeds ++ [d]
    tabs := match d with
      | .table n cs => x.tabs ++ [⟨n, cs, x.deeds.length, []⟩]
      | .row n ws => x.tabs.map (onTab n fun t => { t with rows := t.rows ++ [⟨ws, x.deeds.length, none⟩] })
      | .out n k => x.tabs.map (onTab n fun t => { t with rows := t.rows.modify k fun r => { r with out := some x.deeds.length } }) }
def outV : Option Nat → V
  | none => .non
  | some i => .int i
/-- a row stands at v -/
def RowAt (K : PySem.W.Frag) (H : Hp) (v : V) (r : Rw) : Prop := ∃ a b, v = .ref a ∧ SqT K H a [.ref b, .int r.put, outV r.out] ∧ SqT K H b (r.ws.map V.int)
def RowsAt (K : PySem.W.Frag) (H : Hp) (vs : List V) (rs : List Rw) : Prop := PySem.W.EachIs (RowAt K H) vs rs
def sf (a b c d : Addr) : List (Str × V) := [("_deeds", .ref a), ("_columns", .ref b), ("_made", .ref c), ("_rows", .ref d)]
/-- the three dicts, by the places of what they hold -/
def colsK (ts : List Tab) (ca : Nat → Addr) : List (Key × V) := ts.zipIdx.map fun p => (.inr p.1.name, .ref (ca p.2))
def madeK (ts : List Tab) : List (Key × V) := ts.map fun t => (.inr t.name, .int t.made)
def rowsK (ts : List Tab) (rl : Nat → Addr) : List (Key × V) := ts.zipIdx.map fun p => (.inr p.1.name, .ref (rl p.2))
/-- tables stand at p, on the objects F -/
structure ShelfAt (K : PySem.W.Frag) (C : Addr) (H : Hp) (p : Addr) (x : Shelf) (dx a b c d : Addr) (ds : List V) (ca rl : Nat → Addr) : Prop where
  ins : H p = some (.ins C dx (sf a b c d))
  deeds : H a = some (.lst ds)
  deed : PySem.W.EachIs (fun v e => ∃ t, v = .ref t ∧ DeedAt K H t e) ds x.deeds
  cols : H b = some (.dK (colsK x.tabs ca))
  colAt : ∀ i t, x.tabs[i]? = some t → SqT K H (ca i) (t.cols.map V.str)
  made : H c = some (.dK (madeK x.tabs))
  rows : H d = some (.dK (rowsK x.tabs rl))
  rowAt : ∀ i t, x.tabs[i]? = some t → ∃ vs, H (rl i) = some (.lst vs) ∧ RowsAt K H vs t.rows
  bc : b ≠ c
  bd : b ≠ d
  cd : c ≠ d
  apart : ∀ i j, i < x.tabs.length → j < x.tabs.length → rl i = rl j → i = j
  offA : ∀ i, i < x.tabs.length → rl i ≠ a
def foot (p a b c d : Addr) (n : Nat) (rl : Nat → Addr) (q : Addr) : Prop := q = p ∨ q = a ∨ q = b ∨ q = c ∨ q = d ∨ ∃ i, i < n ∧ q = rl i
def ShelfF (K : PySem.W.Frag) (C : Addr) (H : Hp) (p : Addr) (x : Shelf) (F : Addr → Prop) : Prop :=
  ∃ dx a b c d ds ca rl, ShelfAt K C H p x dx a b c d ds ca rl ∧ ∀ q, F q ↔ foot p a b c d x.tabs.length rl q
section
variable {K : PySem.W.Frag} {C : Addr} {H H' : Hp} {p : Addr} {x : Shelf} {F : Addr → Prop}
theorem RowAt.tups {v : V} {r : Rw} (t : Tups K H H') (h : RowAt K H v r) : RowAt K H' v r := by
  obtain ⟨a, b, e, h1, h2⟩ := h
  exact ⟨a, b, e, t _ _ h1, t _ _ h2⟩
theorem RowsAt.tups {vs : List V} {rs : List Rw} (t : Tups K H H') (h : RowsAt K H vs rs) : RowsAt K H' vs rs := h.mono fun _ _ y => y.tups t
/-- what keeps the footprint and all tuples keeps the shelf -/
theorem ShelfF.keep (h : ShelfF K C H p x F) (t : Tups K H H') (k : ∀ b o, F b → H b = some o → H' b = some o) : ShelfF K C H' p x F := by
  obtain ⟨dx, a, b, c, d, ds, ca, rl, s, hF⟩ := h
  refine ⟨dx, a, b, c, d, ds, ca, rl, ⟨k _ _ ((hF _).mpr (.inl rfl)) s.ins, k _ _ ((hF _).mpr (.inr (.inl rfl))) s.deeds, ?_, k _ _ ((hF _).mpr (.inr (.inr (.inl rfl)))) s.cols, fun i t0 e => t _ _ (s.colAt i t0 e),
    k _ _ ((hF _).mpr (.inr (.inr (.inr (.inl rfl))))) s.made, k _ _ ((hF _).mpr (.inr (.inr (.inr (.inr (.inl rfl)))))) s.rows, fun i t0 e => ?_, s.bc, s.bd, s.cd, s.apart, s.offA⟩, hF⟩
  · exact s.deed.mono fun v e ⟨q, e1, e2⟩ => ⟨q, e1, e2.tups t⟩
  · obtain ⟨vs, e1, e2⟩ := s.rowAt i t0 e
    exact ⟨vs, k _ _ ((hF _).mpr (.inr (.inr (.inr (.inr (.inr ⟨i, (List.getElem?_eq_some_iff.mp e).1, rfl⟩)))))) e1, e2.tups t⟩
theorem ShelfF.same (h : ShelfF K C H p x F) (s : Same H H') : ShelfF K C H' p x F := h.keep (Tups.of_same s) fun b o _ e => s b o e
/-- all of the footprint is there, and none of it is a tuple -/
theorem ShelfF.kind (h : ShelfF K C H p x F) {q : Addr} (hq : F q) : (∃ dx fs, H q = some (.ins C dx fs)) ∨ (∃ xs, H q = some (.lst xs)) ∨ ∃ kvs, H q = some (.dK kvs) := by
  obtain ⟨dx, a, b, c, d, ds, ca, rl, s, hF⟩ := h
  rcases (hF q).mp hq with rfl | rfl | rfl | rfl | rfl | ⟨i, hi, rfl⟩
  · exact .inl ⟨_, _, s.ins⟩
  · exact .inr (.inl ⟨_, s.deeds⟩)
  · exact .inr (.inr ⟨_, s.cols⟩)
  · exact .inr (.inr ⟨_, s.made⟩)
  · exact .inr (.inr ⟨_, s.rows⟩)
  · obtain ⟨vs, e, _⟩ := s.rowAt i _ (List.getElem?_eq_getElem hi)
    exact .inr (.inl ⟨_, e⟩)
theorem ShelfF.here (h : ShelfF K C H p x F) {q : Addr} (hq : F q) : ∃ o, H q = some o := by
  rcases h.kind hq with ⟨dx, fs, e⟩ | ⟨xs, e⟩ | ⟨kvs, e⟩
  · exact ⟨_, e⟩
  · exact ⟨_, e⟩
  · exact ⟨_, e⟩
theorem ShelfF.ne (h : ShelfF K C H p x F) {q r : Addr} (hq : F q) (n : H r = none) : q ≠ r := fun e => by
  obtain ⟨o, z⟩ := h.here hq
  rw [e, n] at z
  cases z
theorem ShelfF.self (h : ShelfF K C H p x F) : F p := by
  obtain ⟨dx, a, b, c, d, ds, ca, rl, s, hF⟩ := h
  exact (hF p).mpr (.inl rfl)
end
/-! ### what the dicts give -/
theorem valV_idx {f : Nat → V} : ∀ (ts : List Tab) (k : Nat) (i : Nat) (t : Tab), (ts.map Tab.name).Nodup → ts[i]? = some t → valV ((ts.zipIdx k).map fun p => ((.inr p.1.name : Key), f p.2)) (.inr t.name) = some (f (k + i))
  | [], _, _, _, _, h => by simp at h
  | t0 :: ts, k, 0, t, _, h => by
    obtain rfl : t0 = t := by simpa using h
    rw [List.zipIdx_cons, List.map_cons]
    exact valV_pos rfl
  | t0 :: ts, k, i + 1, t, nd, h => by
    rw [List.map_cons, List.nodup_cons] at nd
    have hi : ts[i]? = some t := by simpa using h
    rw [List.zipIdx_cons, List.map_cons, valV_neg, valV_idx ts (k + 1) i t nd.2 hi]
    · congr 2
      omega
    · exact fun z => nd.1 (List.mem_map.mpr ⟨t, List.mem_of_getElem? hi, (Sum.inr.inj z).symm⟩)
theorem valV_idx_no {f : Nat → V} {n : Str} : ∀ (ts : List Tab) (k : Nat), n ∉ ts.map Tab.name → valV ((ts.zipIdx k).map fun p => ((.inr p.1.name : Key), f p.2)) (.inr n) = none
  | [], _, _ => rfl
  | t0 :: ts, k, h => by
    rw [List.map_cons, List.mem_cons, not_or] at h
    rw [List.zipIdx_cons, List.map_cons, valV_neg (fun z => h.1 (Sum.inr.inj z).symm)]
    exact valV_idx_no ts (k + 1) h.2
theorem valV_made : ∀ (ts : List Tab) (i : Nat) (t : Tab), (ts.map Tab.name).Nodup → ts[i]? = some t → valV (madeK ts) (.inr t.name) = some (.int t.made)
  | [], _, _, _, h => by simp at h
  | t0 :: ts, 0, t, _, h => by
    obtain rfl : t0 = t := by simpa using h
    exact valV_pos rfl
  | t0 :: ts, i + 1, t, nd, h => by
    rw [List.map_cons, List.nodup_cons] at nd
    have hi : ts[i]? = some t := by simpa using h
    have e : valV (madeK (t0 :: ts)) (.inr t.name) = valV (madeK ts) (.inr t.name) := valV_neg (fun z => nd.1 (List.mem_map.mpr ⟨t, List.mem_of_getElem? hi, (Sum.inr.inj z).symm⟩))
    rw [e]
    exact valV_made ts i t nd.2 hi
theorem valV_made_no {n : Str} : ∀ (ts : List Tab), n ∉ ts.map Tab.name → valV (madeK ts) (.inr n) = none
  | [], _ => rfl
  | t0 :: ts, h => by
    rw [List.map_cons, List.mem_cons, not_or] at h
    have e : valV (madeK (t0 :: ts)) (.inr n) = valV (madeK ts) (.inr n) := valV_neg (fun z => h.1 (Sum.inr.inj z).symm)
    rw [e]
    exact valV_made_no ts h.2
end K20
end

section
set_option Elab.async false
set_option linter.all false
set_option maxRecDepth 100000
set_option maxHeartbeats 4000000
/-! Tables: the methods that read. -/
namespace K20
open PySem PySem.Spec PyProof.Rows L2 Gd
abbrev sMom : Stmt := inClass (topS 26) 5
abbrev sMof : Stmt := inClass (topS 26) 6
abbrev sRows : Stmt := inClass (topS 26) 7
abbrev sColumns : Stmt := inClass (topS 26) 9
abbrev sNames : Stmt := inClass (topS 26) 10
theorem scMom : FnScope ["self"] ["self"] (defScope sMom) := ⟨rfl, rfl, rfl, by decide +kernel, rfl, by decide +kernel, by decide +kernel⟩
theorem scMof : FnScope ["self", "name", "moment"] ["self", "name", "moment"] (defScope sMof) := ⟨rfl, rfl, rfl, by decide +kernel, rfl, by decide +kernel, by decide +kernel⟩
abbrev nRows : List Str := ["self", "name", "moment", "then", "number", "worths", "put", "out"]
theorem scRows : FnScope nRows ["self", "name", "moment"] (defScope sRows) := ⟨rfl, rfl, rfl, by decide +kernel, rfl, by decide +kernel, by decide +kernel⟩
theorem scColumns : FnScope ["self", "name", "moment"] ["self", "name", "moment"] (defScope sColumns) := ⟨rfl, rfl, rfl, by decide +kernel, rfl, by decide +kernel, by decide +kernel⟩
abbrev nNames : List Str := ["self", "moment", "then", "name"]
theorem scNames : FnScope nNames ["self", "moment"] (defScope sNames) := ⟨rfl, rfl, rfl, by decide +kernel, rfl, by decide +kernel, by decide +kernel⟩
/-- what the class is by the heap of the top -/
structure TxtT (K : PySem.W.Frag) (mg : Str → Option Value) (C : Addr) : Prop where
  cl : Cls K C
  nD : NoAttr K C "_deeds"
  nC : NoAttr K C "_columns"
  nM : NoAttr K C "_made"
  nR : NoAttr K C "_rows"
  so : mg "sorted" = none
  en : mg "enumerate" = none
section
variable {a b c d : Addr}
theorem sf_d : (sf a b c d).lookup ("_deeds" : Str) = some (.ref a) := by rfl
theorem sf_c : (sf a b c d).lookup ("_columns" : Str) = some (.ref b) := by rfl
theorem sf_m : (sf a b c d).lookup ("_made" : Str) = some (.ref c) := by rfl
theorem sf_r : (sf a b c d).lookup ("_rows" : Str) = some (.ref d) := by rfl
theorem sf_no {n : Str} (h : (["_deeds", "_columns", "_made", "_rows"] : List Str).contains n = false) : (sf a b c d).lookup n = none := by
  simp only [List.contains_cons, Bool.or_eq_false_iff, List.contains_nil] at h
  unfold sf
  simp [List.lookup, h]
end
/-- what is held of tables that are well made -/
structure ShelfOk (x : Shelf) : Prop where
  nd : (x.tabs.map Tab.name).Nodup
  lab : ∀ t ∈ x.tabs, isLab t.name = true
  deeds : x.deeds.length ≤ 4000
  tabs : x.tabs.length ≤ 6
  rows : ∀ t ∈ x.tabs, t.rows.length ≤ 60
  ws : ∀ t ∈ x.tabs, ∀ r ∈ t.rows, r.ws.length ≤ 1000
def momV : Option Nat → V
  | none => .non
  | some i => .int i
def Shelf.mo (x : Shelf) (o : Option Nat) : Nat := o.getD x.deeds.length
def spMom (K : PySem.W.Frag) (C : Addr) : Sp := fun vs H Q _ => ∃ (p : Addr) (x : Shelf) (F : Addr → Prop), vs = [.ref p] ∧ ShelfF K C H p x F ∧ x.deeds.length ≤ 4000 ∧ Q (.int x.deeds.length) H
def spMof (K : PySem.W.Frag) (C : Addr) : Sp := fun vs H Q _ => ∃ (p : Addr) (x : Shelf) (F : Addr → Prop) (i : Nat) (t : Tab) (o : Option Nat), vs = [.ref p, .str t.name, momV o] ∧ ShelfF K C H p x F ∧ ShelfOk x ∧ x.tabs[i]? = some t ∧ x.mo o ≤ x.deeds.length ∧ t.made < x.mo o ∧
  ∀ H', Same H H' → Q (.int (x.mo o)) H'
section
variable {P : Program} {w : World} {K : PySem.W.Frag} {mg : Str → Option Value} {base : Heap} {f fN pS C : Addr} {fd dN : FuncData}
theorem ok_mom (F : Fun K "moment" "Tables.moment" sMom f fd) (T : TxtT K mg C) (N : Cs K mg pS) : FnOk P w K mg base CX0 1 f fd ["self"] (spMom K C) := by
  refine F.ok scMom (fun vs H Q E h => ?_) (fun cdv A outer s H vs Q E hr h => ?_)
  · obtain ⟨p, x, F, rfl, _⟩ := h
    rfl
  obtain ⟨p, x, FF, rfl, ⟨dx, a, b, c, d, ds, ca, rl, S, hF⟩, hl, q⟩ := h
  refine ⟨_, pss_one (ps_ret (pe_callB call_len_seq (by rfl) N.len PySem.boot_len (pa_cons (pe_fld (pv 0) rfl) pa_nil))), ?_⟩
  refine ⟨_, rfl, p, C, dx, _, _, rfl, S.ins, T.cl, T.nD, sf_d, a, _, rfl, .inl (SqL.of S.deeds), ?_⟩
  rw [show ds.length = x.deeds.length from S.deed.length]
  exact q
theorem ok_mof (F : Fun K "_moment_of" "Tables._moment_of" sMof f fd) (T : TxtT K mg C) (N : Cs K mg pS)
    (FN : Fun K "is_name" "is_name" sName fN dN) (GN : FnOk P w K mg base CX0 1 fN dN ["thing"] (spChk K isLabD)) (gN : mg "is_name" = some (.ref fN)) (bN : Binds K dN ["thing"] []) : FnOk P w K mg base CX0 2 f fd ["self", "name", "moment"] (spMof K C) := by
  refine F.ok scMof (fun vs H Q E h => ?_) (fun cdv A outer s H vs Q E hr h => ?_)
  · obtain ⟨p, x, F, i, t, o, rfl, _⟩ := h
    rfl
  obtain ⟨p, x, FF, i, t, o, rfl, hS, ok, ht, mo1, mo2, q⟩ := h
  have nd := scMof.nd
  have hu := hu_of hr
  refine ⟨_, C8.pss_cut (ps_if (pt_cmpR op_isN (pv 2) pe_non (nomark _)) (pss_one (ps_set (i := 2) nd rfl (.inl rfl) (pe_callB call_len_seq (by rfl) N.len PySem.boot_len (pa_cons (pe_fld (pv 0) rfl) pa_nil)))) pss_nil)
    (pss_cons (ps_if (PW.pt (pw_or (pt_not (pt_val (pe_call GN hr (by rfl) gN FN.kp bN .nil pass0 (pa_cons (pv 1) pa_nil)))) (pw_or1 (pt_cmp (pc_dnotin hu (pv 1) (pe_fld (pv 0) rfl)))))) pss_never pss_nil)
    (pss_cons (ps_if (PW.pt (pw_or (pt_cmpR op_gt (pv 2) (pe_callB call_len_seq (by rfl) N.len PySem.boot_len (pa_cons (pe_fld (pv 0) rfl) pa_nil)) (nomark _)) (pw_or1 (pt_cmpR op_ge (pe_dget hu (pe_fld (pv 0) rfl) (pv 1) (fun _ _ => rfl)) (pv 2) (nomark _))))) pss_never pss_nil)
    (pss_one (ps_ret (pv 2))))), ?_⟩
  obtain ⟨dx, a, b, c, d, ds, ca, rl, S, hF⟩ := hS
  have lds : ds.length = x.deeds.length := S.deed.length
  have hla : isLab t.name = true := ok.lab t (List.mem_of_getElem? ht)
  have vm : valV (madeK x.tabs) (.inr t.name) = some (.int t.made) := valV_made x.tabs i t ok.nd ht
  refine ⟨fun σ' H' => H' = H ∧ σ' = [some (.ref p), some (.str t.name), some (.int (x.mo o))], ?_, ?_⟩
  · cases o with
    | none =>
      refine ⟨_, rfl, rfl, _, rfl, iteT' (decide_eq_true rfl) ?_⟩
      refine ⟨_, rfl, p, C, dx, _, _, rfl, S.ins, T.cl, T.nD, sf_d, a, _, rfl, .inl (SqL.of S.deeds), rfl, ?_⟩
      rw [lds]
      rfl
    | some m =>
      refine ⟨_, rfl, rfl, _, rfl, iteF' (by rw [decide_eq_true_eq]; exact fun z => nomatch z) ?_⟩
      exact ⟨rfl, rfl⟩
  rintro σ' H' ⟨rfl, rfl⟩
  refine ⟨_, rfl, fun _ => False, _, .str t.name, rfl, .str _, lab_ok hla, fun H1 s1 => ⟨_, rfl, ?_⟩⟩
  rw [show isLabD (.str t.name) = true from hla]
  refine iteF ?_
  have i1 := s1 _ _ S.ins
  have m1 := s1 _ _ S.made
  have g1 : DGet H1 c (.str t.name) (some (.int t.made)) := by
    have z := DGet.k (k := .inr t.name) m1
    rw [vm] at z
    exact z
  refine ⟨_, rfl, _, rfl, p, C, dx, _, _, rfl, i1, T.cl, T.nM, sf_m, c, _, rfl, g1, _, rfl, iteF ?_⟩
  refine ⟨_, rfl, _, rfl, p, C, dx, _, _, rfl, i1, T.cl, T.nD, sf_d, a, _, rfl, .inl (SqL.of (s1 _ _ S.deeds)), _, _, rfl, rfl, _, rfl, ?_⟩
  rw [lds, show decide (((x.mo o : Nat) : Int) > ((x.deeds.length : Nat) : Int)) = false from decide_eq_false (by omega)]
  refine iteF ?_
  refine ⟨_, rfl, p, C, dx, _, _, rfl, i1, T.cl, T.nM, sf_m, _, rfl, c, _, rfl, g1, _, rfl, _, _, rfl, rfl, _, rfl, ?_⟩
  rw [show decide (((t.made : Nat) : Int) ≥ ((x.mo o : Nat) : Int)) = false from decide_eq_false (by omega)]
  refine iteF ?_
  exact ⟨_, rfl, q _ s1⟩
end
end K20
end

section
set_option Elab.async false
set_option linter.all false
set_option maxRecDepth 100000
set_option maxHeartbeats 4000000
/-! Tables: rows, columns. -/
namespace K20
open PySem PySem.Spec PyProof.Rows L2 Gd
structure Mt (P : Program) (w : World) (K : PySem.W.Frag) (mg : Str → Option Value) (base : Heap) (C : Addr) (m : Str) (ps : List Str) (cx : CXT) (k : Nat) (sp : Sp) : Prop where
  ex : ∃ (f : Addr) (fd : FuncData), Meth K C m f ∧ FnOk P w K mg base cx k f fd ps sp ∧ Binds K fd ps []
theorem each_at {α β : Type} {R : α → β → Prop} : ∀ {as : List α} {bs : List β} {i : Nat} {a : α}, PySem.W.EachIs R as bs → as[i]? = some a → ∃ b, bs[i]? = some b ∧ R a b
  | _, _, _, _, .nil, h => by simp at h
  | _, _, 0, _, .cons (b := b) h _, e => by
    cases (show some _ = some _ from e)
    exact ⟨b, rfl, h⟩
  | _, _, i + 1, _, .cons _ t, e => each_at t (i := i) (by simpa using e)
def stands (m : Nat) (r : Rw) : Bool := decide (r.put < m) && (match r.out with
  | none => true
  | some o => decide (m ≤ o))
/-- the rows of a moment, with their numbers -/
def Tab.at (t : Tab) (m : Nat) (k : Nat) : List (Nat × Rw) := ((t.rows.take k).zipIdx.map fun p => (p.2, p.1)).filter fun p => stands m p.2
def rowD (p : Nat × Rw) : PyData := .tuple [.int p.1, .tuple (p.2.ws.map PyData.int)]
theorem dp_ints {K : PySem.W.Frag} {H : Hp} : ∀ ws : List Int, DpAll K H (ws.map V.int) (ws.map PyData.int)
  | [] => .nil
  | w :: ws => .cons (.int w) (dp_ints ws)
theorem ints_only : ∀ ws : List Int, tupOnlyAll (ws.map PyData.int) = true
  | [] => rfl
  | w :: ws => by
    show (tupOnly (.int w) && tupOnlyAll (ws.map PyData.int)) = true
    rw [ints_only ws]
    rfl
theorem rowD_only {p : Nat × Rw} (h : p.2.ws.length ≤ 1000) : tupOnly (rowD p) = true := by
  have e : tupOnly (.tuple (p.2.ws.map PyData.int)) = true := by
    simp only [tupOnly, Bool.and_eq_true, decide_eq_true_eq]
    exact ⟨by rw [List.length_map]; omega, ints_only _⟩
  unfold rowD
  simp only [tupOnly, tupOnlyAll, Bool.and_eq_true, decide_eq_true_eq] at e ⊢
  exact ⟨by show 2 ≤ 1000; decide, trivial, e, trivial⟩
theorem rowDs_only : ∀ l : List (Nat × Rw), (∀ p ∈ l, p.2.ws.length ≤ 1000) → tupOnlyAll (l.map rowD) = true
  | [], _ => rfl
  | p :: l, h => by
    show (tupOnly (rowD p) && tupOnlyAll (l.map rowD)) = true
    rw [rowD_only (h p (by simp)), rowDs_only l fun q hq => h q (by simp [hq])]
    rfl
theorem at_mem {t : Tab} {m k : Nat} {p : Nat × Rw} (h : p ∈ t.at m k) : p.2 ∈ t.rows := by
  unfold Tab.at at h
  obtain ⟨q, hq, e⟩ := List.mem_map.mp (List.mem_filter.mp h).1
  rw [← e]
  exact List.mem_of_mem_take (List.fst_mem_of_mem_zipIdx hq)
theorem at_succ (t : Tab) (m k : Nat) (r : Rw) (h : t.rows[k]? = some r) : t.at m (k + 1) = if stands m r = true then t.at m k ++ [(k, r)] else t.at m k := by
  have hk : k < t.rows.length := (List.getElem?_eq_some_iff.mp h).1
  unfold Tab.at
  rw [List.take_add_one, h]
  show List.filter _ (List.map _ ((t.rows.take k ++ [r]).zipIdx)) = _
  rw [List.zipIdx_append, List.map_append, List.filter_append]
  have e : (t.rows.take k).length = k := by rw [List.length_take]; omega
  rw [e, Nat.zero_add]
  show _ ++ List.filter _ [(k, r)] = _
  by_cases z : stands m r = true
  · rw [if_pos z]
    simp [z]
  · rw [if_neg z]
    simp [z]
def spColumns (K : PySem.W.Frag) (C : Addr) : Sp := fun vs H Q _ => ∃ (p : Addr) (x : Shelf) (F : Addr → Prop) (i : Nat) (t : Tab) (o : Option Nat), vs = [.ref p, .str t.name, momV o] ∧ ShelfF K C H p x F ∧ ShelfOk x ∧ x.tabs[i]? = some t ∧ x.mo o ≤ x.deeds.length ∧ t.made < x.mo o ∧
  ∀ H' a, Same H H' → SqT K H' a (t.cols.map V.str) → Q (.ref a) H'
def spRows (K : PySem.W.Frag) (C : Addr) : Sp := fun vs H Q _ => ∃ (p : Addr) (x : Shelf) (F : Addr → Prop) (i : Nat) (t : Tab) (o : Option Nat), vs = [.ref p, .str t.name, momV o] ∧ ShelfF K C H p x F ∧ ShelfOk x ∧ x.tabs[i]? = some t ∧ x.mo o ≤ x.deeds.length ∧ t.made < x.mo o ∧
  ∀ H' D us, Same H H' → H D = none → H' D = some (.lst us) → DpAll K H' us ((t.at (x.mo o) t.rows.length).map rowD) → Q (.ref D) H'
section
variable {P : Program} {w : World} {K : PySem.W.Frag} {mg : Str → Option Value} {base : Heap} {f pS C : Addr} {fd : FuncData}
theorem ok_columns (F : FunD K "columns" "Tables.columns" (defArgs sColumns) (defBody sColumns) (defScope sColumns) [] [("moment", .non)] f fd) (T : TxtT K mg C) (M : Mt P w K mg base C "_moment_of" ["self", "name", "moment"] CX0 2 (spMof K C)) :
    FnOk P w K mg base CX0 3 f fd ["self", "name", "moment"] (spColumns K C) := by
  refine F.ok scColumns (fun vs H Q E h => ?_) (fun cdv A outer s H vs Q E hr h => ?_)
  · obtain ⟨p, x, F, i, t, o, rfl, _⟩ := h
    rfl
  obtain ⟨p, x, FF, i, t, o, rfl, hS, ok, ht, mo1, mo2, q⟩ := h
  obtain ⟨fM, dM, mM, GM, bM⟩ := M.ex
  have nd := scColumns.nd
  have hu := hu_of hr
  refine ⟨_, pss_cons (ps_expr (pe_meth (pv 0) T.cl mM GM hr bM .nil pass0 (pa_cons (pv 1) (pa_cons (pv 2) pa_nil)))) (pss_one (ps_ret (pe_dget hu (pe_fld (pv 0) rfl) (pv 1) (fun _ _ => rfl)))), ?_⟩
  have hS0 := hS
  obtain ⟨dx, a, b, c, d, ds, ca, rl, S, hF⟩ := hS
  refine ⟨_, rfl, p, dx, _, rfl, S.ins, sf_no (by decide), _, rfl, _, rfl, p, x, FF, i, t, o, rfl, hS0, ok, ht, mo1, mo2, fun H1 s1 => ?_⟩
  have g1 : DGet H1 b (.str t.name) (some (.ref (ca i))) := by
    have z := DGet.k (k := .inr t.name) (s1 _ _ S.cols)
    unfold colsK at z
    rw [valV_idx (f := fun j => .ref (ca j)) x.tabs 0 i t ok.nd ht, Nat.zero_add] at z
    exact z
  exact ⟨_, rfl, p, C, dx, _, _, rfl, s1 _ _ S.ins, T.cl, T.nC, sf_c, _, rfl, b, _, rfl, g1, q H1 _ s1 (Tups.of_same s1 _ _ (S.colAt i t ht))⟩
theorem ok_rows (F : FunD K "rows" "Tables.rows" (defArgs sRows) (defBody sRows) (defScope sRows) [] [("moment", .non)] f fd) (T : TxtT K mg C) (M : Mt P w K mg base C "_moment_of" ["self", "name", "moment"] CX0 2 (spMof K C)) :
    FnOk P w K mg base CX0 3 f fd ["self", "name", "moment"] (spRows K C) := by
  refine F.ok scRows (fun vs H Q E h => ?_) (fun cdv A outer s H vs Q E hr h => ?_)
  · obtain ⟨p, x, F, i, t, o, rfl, _⟩ := h
    rfl
  obtain ⟨p, x, FF, i, t, o, rfl, hS, ok, ht, mo1, mo2, q⟩ := h
  obtain ⟨fM, dM, mM, GM, bM⟩ := M.ex
  have nd := scRows.nd
  have hu := hu_of hr
  refine ⟨_, pss_cons (ps_set (i := 3) nd rfl (by first | exact .inl rfl | exact .inr rfl) (pe_meth (pv 0) T.cl mM GM hr bM .nil pass0 (pa_cons (pv 1) (pa_cons (pv 2) pa_nil))))
    (pss_one (ps_ret (pe_lc (own := [("number", 4), ("worths", 5), ("put", 6), ("out", 7)]) (g := gTup K 2 (gCons (gName 4) (gCons (gTup K 3 (gCons (gName 5) (gCons (gName 6) (gCons (gName 7) gNil)))) gNil))) rfl nd
      (pi_enum (by rfl) T.en (pa_cons (pe_dget hu (pe_fld (pv 0) rfl) (pv 1) (fun _ _ => rfl)) pa_nil)) (blkOk_by (N := nRows) (sc := defScope sRows) (by decide +kernel))
      (fun _ _ _ _ _ => pg_tup rfl (pgs_cons (pg_name (i := 4) nd rfl (Or.inl rfl)) (pgs_cons (pg_tup rfl (pgs_cons (pg_name (i := 5) nd rfl (Or.inl rfl)) (pgs_cons (pg_name (i := 6) nd rfl (Or.inl rfl)) (pgs_cons (pg_name (i := 7) nd rfl (Or.inl rfl)) pgs_nil)))) pgs_nil)))
      (fun _ _ _ _ _ => pts_one (PW.pt (pw_and (pt_cmpR op_lt (pv 6) (pv 3) (nomark _)) (pw_and1 (PW.pt (pw_or (pt_cmpR op_isN (pv 7) pe_non (nomark _)) (pw_or1 (pt_cmpR op_ge (pv 7) (pv 3) (nomark _)))))))))
      (fun _ _ _ _ _ => pe_tup (pa_cons (pv 4) (pa_cons (pv 5) pa_nil)))))), ?_⟩
  have hS0 := hS
  obtain ⟨dx, a, b, c, d, ds, ca, rl, S, hF⟩ := hS
  refine ⟨_, rfl, p, dx, _, rfl, S.ins, sf_no (by decide), _, rfl, _, rfl, p, x, FF, i, t, o, rfl, hS0, ok, ht, mo1, mo2, fun H1 s1 => ?_⟩
  have g1 : DGet H1 d (.str t.name) (some (.ref (rl i))) := by
    have z := DGet.k (k := .inr t.name) (s1 _ _ S.rows)
    unfold rowsK at z
    rw [valV_idx (f := fun j => .ref (rl j)) x.tabs 0 i t ok.nd ht, Nat.zero_add] at z
    exact z
  obtain ⟨vs, ev, hv⟩ := S.rowAt i t ht
  have lv : vs.length = t.rows.length := hv.length
  have l60 := ok.rows t (List.mem_of_getElem? ht)
  have wsl : ∀ r ∈ t.rows, r.ws.length ≤ 1000 := fun r hr0 => ok.ws t (List.mem_of_getElem? ht) r hr0
  refine ⟨_, rfl, p, C, dx, _, _, rfl, s1 _ _ S.ins, T.cl, T.nR, sf_r, _, rfl, d, _, rfl, g1, rl i, _, rfl, SqL.of (s1 _ _ ev), fun D nD => ?_⟩
  have e1 := s1 _ _ ev
  have r1 : RowsAt K H1 vs t.rows := hv.tups (Tups.of_same s1)
  generalize hm : x.mo o = m at mo1 mo2 q ⊢
  refine lc_it walk_enum (fun k H5 => Same H1 H5 ∧ ∃ us, H5 D = some (.lst us) ∧ DpAll K H5 us ((t.at m k).map rowD)) ⟨new_same nD, [], upd_same, by
      have z : t.at m 0 = [] := rfl
      rw [z]
      exact .nil⟩ (fun k H5 _ h => SqL.of (h.1 _ _ e1)) ?_ ?_
  · rintro k y H5 H6 hk ⟨s5, us, eD, dA⟩ ⟨T0, v1, v2, rfl, nT0, rfl, ei, ex⟩
    cases ei
    have hk : k < vs.length := hk
    have j6 := new_same (o := .tup [.int ((k : Nat) : Int), v2]) nT0
    have s6 := s5.trans j6
    obtain ⟨r, er, hr'⟩ := each_at r1 ex
    obtain ⟨ra, wa, rfl, hra, hwa⟩ := hr'.tups (Tups.of_same s6)
    have eD6 := j6 _ _ eD
    have dA6 := DpAll.same j6 _ dA
    have e6 : upd H5 T0 (.tup [.int ((k : Nat) : Int), .ref ra]) T0 = some (.tup [.int ((k : Nat) : Int), .ref ra]) := upd_same
    generalize upd H5 T0 (.tup [.int ((k : Nat) : Int), .ref ra]) = H6 at s6 hra hwa eD6 dA6 e6 ⊢
    have lu : us.length ≤ k := by
      have z := DpAll.len dA6
      rw [z, List.length_map]
      unfold Tab.at
      refine Nat.le_trans (List.length_filter_le _ _) ?_
      rw [List.length_map, List.length_zipIdx, List.length_take]
      omega
    have no : ∀ G, stands m r ≠ true → Same H6 G → Same H1 G ∧ ∃ us, G D = some (.lst us) ∧ DpAll K G us ((t.at m (k + 1)).map rowD) := fun G z sG => by
      rw [at_succ t m k r er, if_neg z]
      exact ⟨s6.trans sG, us, sG _ _ eD6, DpAll.same sG _ dA6⟩
    refine ⟨T0, _, rfl, SqT.of e6, rfl, _, _, rfl, _, _, rfl, ⟨ra, _, rfl, hra, rfl, _, _, rfl, _, _, rfl, _, _, rfl, rfl, ?_⟩⟩
    have yes : stands m r = true → ∀ q, H6 q = none → ∃ acc, upd H6 q (.tup [.int ((k : Nat) : Int), .ref wa]) D = some (.lst acc) ∧ acc.length < sizeLine ∧ Same H1 (upd (upd H6 q (.tup [.int ((k : Nat) : Int), .ref wa])) D (.lst (acc ++ [.ref q]))) ∧
        ∃ us, upd (upd H6 q (.tup [.int ((k : Nat) : Int), .ref wa])) D (.lst (acc ++ [.ref q])) D = some (.lst us) ∧ DpAll K (upd (upd H6 q (.tup [.int ((k : Nat) : Int), .ref wa])) D (.lst (acc ++ [.ref q]))) us ((t.at m (k + 1)).map rowD) := fun z q nq => by
      have jq := new_same (o := .tup [.int ((k : Nat) : Int), .ref wa]) nq
      have eD7 := jq _ _ eD6
      have dA7 := DpAll.same jq _ dA6
      have hwa7 := Tups.of_same jq _ _ hwa
      have eq7 : upd H6 q (.tup [.int ((k : Nat) : Int), .ref wa]) q = some (.tup [.int ((k : Nat) : Int), .ref wa]) := upd_same
      have s7 := s6.trans jq
      generalize upd H6 q (.tup [.int ((k : Nat) : Int), .ref wa]) = H7 at eD7 dA7 hwa7 eq7 s7 ⊢
      have dr : Dp K H7 (.ref q) (rowD (k, r)) := .tup (SqT.of eq7) (.cons (.int _) (.cons (.tup hwa7 (dp_ints r.ws)) .nil))
      have tp : Tups K H7 (upd H7 D (.lst (us ++ [.ref q]))) := .upd_lst eD7
      refine ⟨us, eD7, by rw [sizeLine_eq]; omega, fun b u e => ?_, us ++ [.ref q], upd_same, ?_⟩
      · rw [upd_ne (ne_of_none e nD)]
        exact s7 _ _ e
      · rw [at_succ t m k r er, if_pos z, List.map_append]
        exact DpAll.snoc (DpAll.tups tp _ (rowDs_only _ (fun p hp => wsl p.2 (at_mem hp))) dA7) (Dp.tups tp _ (rowD_only (wsl r (List.mem_of_getElem? er))) dr)
    refine ⟨rfl, rfl, ?_⟩
    refine ⟨_, rfl, _, rfl, _, _, rfl, rfl, _, rfl, ite2 (fun c1 => ?_) (fun c1 => iteF ?_)⟩
    · have c1 : ((r.put : Nat) : Int) < ((m : Nat) : Int) := by simpa using c1
      have p1 : decide (r.put < m) = true := decide_eq_true (by omega)
      cases ho : r.out with
      | none =>
        refine ⟨_, rfl, rfl, _, rfl, iteT' (decide_eq_true rfl) (iteT ?_)⟩
        exact ⟨_, rfl, _, rfl, (by show 2 ≤ sizeLine; decide), yes (by unfold stands; rw [p1, ho]; rfl)⟩
      | some o2 =>
        refine ⟨_, rfl, rfl, _, rfl, iteF' (by rw [decide_eq_true_eq]; exact fun z => nomatch z) ?_⟩
        refine ⟨_, rfl, _, rfl, _, _, rfl, rfl, _, rfl, ?_⟩
        cases hc : decide (((m : Nat) : Int) ≤ ((o2 : Nat) : Int)) with
        | true =>
          have : m ≤ o2 := by simpa using hc
          refine iteT ?_
          exact ⟨_, rfl, _, rfl, (by show 2 ≤ sizeLine; decide), yes (by unfold stands; rw [p1, ho]; simpa using this)⟩
        | false =>
          have : ¬ m ≤ o2 := by simpa using hc
          exact iteF (no H6 (by unfold stands; rw [p1, ho]; simpa using this) (Same.refl _))
    · have c1 : ¬ ((r.put : Nat) : Int) < ((m : Nat) : Int) := by simpa using c1
      have p1 : decide (r.put < m) = false := decide_eq_false (by omega)
      exact no H6 (by unfold stands; rw [p1]; simp) (Same.refl _)
  · rintro H5 ⟨s5, us, eD, dA⟩
    rw [lv] at dA
    exact q H5 D us (s1.trans s5) (s1.free nD) eD dA
end
end K20
end

section
set_option Elab.async false
set_option linter.all false
set_option maxRecDepth 100000
set_option maxHeartbeats 4000000
/-! Tables: the methods that change. -/
namespace K20
open PySem PySem.Spec PyProof.Rows L2 Gd
abbrev sMake : Stmt := inClass (topS 26) 2
theorem scMake : FnScope ["self", "name", "columns"] ["self", "name", "columns"] (defScope sMake) := ⟨rfl, rfl, rfl, by decide +kernel, rfl, by decide +kernel, by decide +kernel⟩
/-- what is not of the footprint stays; what is new to it was free -/
structure After (H : Hp) (F : Addr → Prop) (H' : Hp) (F' : Addr → Prop) : Prop where
  off : ∀ b o, ¬ F b → H b = some o → H' b = some o
  new : ∀ b, F' b → F b ∨ H b = none
theorem colsK_snoc (ts : List Tab) (t : Tab) (ca : Nat → Addr) : colsK (ts ++ [t]) ca = colsK ts ca ++ [(.inr t.name, .ref (ca ts.length))] := by
  unfold colsK
  rw [List.zipIdx_append, List.map_append]
  simp
theorem rowsK_snoc (ts : List Tab) (t : Tab) (rl : Nat → Addr) : rowsK (ts ++ [t]) rl = rowsK ts rl ++ [(.inr t.name, .ref (rl ts.length))] := colsK_snoc ts t rl
theorem colsK_ext {ts : List Tab} {ca cb : Nat → Addr} (h : ∀ i, i < ts.length → ca i = cb i) : colsK ts ca = colsK ts cb := by
  unfold colsK
  refine List.map_congr_left fun p hp => ?_
  have := List.snd_lt_of_mem_zipIdx hp
  rw [h p.2 (by omega)]
theorem putK_new {kvs : List (Key × V)} {k : Key} {v : V} (h : valV kvs k = none) : putK kvs k v = kvs ++ [(k, v)] := by
  unfold putK
  rw [if_neg]
  rw [valV_any, h]
  decide
theorem tups_off {K : PySem.W.Frag} {H H' : Hp} (h : ∀ q o, H q = some o → (∀ kvs, o ≠ .dK kvs) → (∀ xs, o ≠ .lst xs) → (∀ C dx fs, o ≠ .ins C dx fs) → H' q = some o) : Tups K H H' := fun b xs z => by
  rcases z with (z | ⟨o, z⟩) | z
  · exact .inl (.inl (h _ _ z (fun _ y => nomatch y) (fun _ y => nomatch y) (fun _ _ _ y => nomatch y)))
  · exact .inl (.inr ⟨o, h _ _ z (fun _ y => nomatch y) (fun _ y => nomatch y) (fun _ _ _ y => nomatch y)⟩)
  · exact .inr z
def spMake (K : PySem.W.Frag) (C : Addr) : Sp := fun vs H Q _ => ∃ (p ac : Addr) (x : Shelf) (F : Addr → Prop) (n : Str) (cs : List Str), vs = [.ref p, .str n, .ref ac] ∧ ShelfF K C H p x F ∧ ShelfOk x ∧ n ∉ x.tabs.map Tab.name ∧ x.tabs.length < 6 ∧ SqT K H ac (cs.map V.str) ∧
  ∀ H' F', ShelfF K C H' p { x with tabs := x.tabs ++ [⟨n, cs, x.deeds.length, []⟩] } F' → After H F H' F' → Q .non H'
section
variable {P : Program} {w : World} {K : PySem.W.Frag} {mg : Str → Option Value} {base : Heap} {f pS C : Addr} {fd : FuncData}
theorem ok_make (F : Fun K "_make" "Tables._make" sMake f fd) (T : TxtT K mg C) (N : Cs K mg pS) (Ct : Ct mg) : FnOk P w K mg base CX0 1 f fd ["self", "name", "columns"] (spMake K C) := by
  refine F.ok scMake (fun vs H Q E h => ?_) (fun cdv A outer s H vs Q E hr h => ?_)
  · obtain ⟨p, ac, x, F, n, cs, rfl, _⟩ := h
    rfl
  obtain ⟨p, ac, x, FF, n, cs, rfl, hS, ok, hn, h6, hc, q⟩ := h
  have nd := scMake.nd
  have hu := hu_of hr
  obtain ⟨t6, g6⟩ := Ct.tabs
  refine ⟨_, pss_cons (ps_if (pt_cmp (pc_din hu (pv 1) (pe_fld (pv 0) rfl))) pss_never pss_nil)
    (pss_cons (ps_if (pt_cmpR op_eq (pe_callB L2.call_lenD (by rfl) N.len PySem.boot_len (pa_cons (pe_fld (pv 0) rfl) pa_nil)) (pe_glob (v := .int 6) (by rfl) g6 ⟨_, rfl⟩) (nomark _)) pss_never pss_nil)
    (pss_cons (ps_dput hu (pe_fld (pv 0) rfl) (pv 1) (pv 2) rfl)
    (pss_cons (ps_dput hu (pe_fld (pv 0) rfl) (pv 1) (pe_callB call_len_seq (by rfl) N.len PySem.boot_len (pa_cons (pe_fld (pv 0) rfl) pa_nil)) rfl)
    (pss_one (ps_dput hu (pe_fld (pv 0) rfl) (pv 1) (pe_lst pa_nil) rfl))))), ?_⟩
  obtain ⟨dx, a, b, c, d, ds, ca, rl, S, hF⟩ := hS
  have lds : ds.length = x.deeds.length := S.deed.length
  have npb : p ≠ b := ne_of S.ins S.cols (fun z => nomatch z)
  have npc : p ≠ c := ne_of S.ins S.made (fun z => nomatch z)
  have npd : p ≠ d := ne_of S.ins S.rows (fun z => nomatch z)
  have nab : a ≠ b := ne_of S.deeds S.cols (fun z => nomatch z)
  have nac : a ≠ c := ne_of S.deeds S.made (fun z => nomatch z)
  have nad : a ≠ d := ne_of S.deeds S.rows (fun z => nomatch z)
  have g0 : DGet H b (.str n) none := by
    have z := DGet.k (k := .inr n) S.cols
    unfold colsK at z
    rw [valV_idx_no (f := fun j => .ref (ca j)) x.tabs 0 hn] at z
    exact z
  refine ⟨_, rfl, _, rfl, p, C, dx, _, _, rfl, S.ins, T.cl, T.nC, sf_c, b, _, rfl, g0, _, rfl, iteF ?_⟩
  have lcols : (colsK x.tabs ca).length = x.tabs.length := by unfold colsK; rw [List.length_map, List.length_zipIdx]
  have lrows : (rowsK x.tabs rl).length = x.tabs.length := by unfold rowsK; rw [List.length_map, List.length_zipIdx]
  have lmade : (madeK x.tabs).length = x.tabs.length := by unfold madeK; rw [List.length_map]
  refine ⟨_, rfl, p, C, dx, _, _, rfl, S.ins, T.cl, T.nC, sf_c, b, _, rfl, S.cols, rfl, _, rfl, iteF' (by rw [decide_eq_true_eq, lcols]; intro z; have := V.int.inj z; omega) ?_⟩
  -- columns
  refine ⟨_, rfl, _, rfl, p, C, dx, _, _, rfl, S.ins, T.cl, T.nC, sf_c, _, rfl, b, _, rfl, DPut.k (k := .inr n) S.cols (by rw [lcols, sizeLine_eq]; omega), ?_⟩
  have pc : putK (colsK x.tabs ca) (.inr n) (.ref ac) = colsK (x.tabs ++ [⟨n, cs, x.deeds.length, []⟩]) (fun i => if i = x.tabs.length then ac else ca i) := by
    rw [putK_new (kvs := colsK x.tabs ca) (valV_idx_no (f := fun j => .ref (ca j)) x.tabs 0 hn), colsK_snoc]
    show _ = _ ++ [((.inr n : Key), V.ref (if x.tabs.length = x.tabs.length then ac else ca x.tabs.length))]
    rw [if_pos rfl]
    congr 1
    exact colsK_ext fun i hi => by rw [if_neg (by omega)]
  have b1 : upd H b (.dK (putK (colsK x.tabs ca) (.inr n) (.ref ac))) b = some (.dK (colsK (x.tabs ++ [⟨n, cs, x.deeds.length, []⟩]) (fun i => if i = x.tabs.length then ac else ca i))) := by rw [upd_same, pc]
  have k1 : ∀ q, q ≠ b → upd H b (.dK (putK (colsK x.tabs ca) (.inr n) (.ref ac))) q = H q := fun q nq => upd_ne nq
  generalize upd H b (.dK (putK (colsK x.tabs ca) (.inr n) (.ref ac))) = H1 at b1 k1 ⊢
  -- made
  have i1 : H1 p = some (.ins C dx (sf a b c d)) := (k1 p npb).trans S.ins
  have c1 : H1 c = some (.dK (madeK x.tabs)) := (k1 c S.bc.symm).trans S.made
  refine ⟨_, rfl, p, C, dx, _, _, rfl, i1, T.cl, T.nD, sf_d, a, _, rfl, .inl (SqL.of ((k1 a nab).trans S.deeds)), _, rfl, p, C, dx, _, _, rfl, i1, T.cl, T.nM, sf_m, _, rfl, c, _, rfl, DPut.k (k := .inr n) c1 (by rw [lmade, sizeLine_eq]; omega), ?_⟩
  have pm : putK (madeK x.tabs) (.inr n) (.int ((ds.length : Nat) : Int)) = madeK (x.tabs ++ [⟨n, cs, x.deeds.length, []⟩]) := by
    rw [putK_new (valV_made_no x.tabs hn), lds]
    unfold madeK
    rw [List.map_append]
    rfl
  have c2 : upd H1 c (.dK (putK (madeK x.tabs) (.inr n) (.int ((ds.length : Nat) : Int)))) c = some (.dK (madeK (x.tabs ++ [⟨n, cs, x.deeds.length, []⟩]))) := by rw [upd_same, pm]
  have k2 : ∀ q, q ≠ c → upd H1 c (.dK (putK (madeK x.tabs) (.inr n) (.int ((ds.length : Nat) : Int)))) q = H1 q := fun q nq => upd_ne nq
  generalize upd H1 c (.dK (putK (madeK x.tabs) (.inr n) (.int ((ds.length : Nat) : Int)))) = H2 at c2 k2 ⊢
  -- rows
  refine ⟨Nat.zero_le _, fun l nl => ?_⟩
  have i2 : H2 p = some (.ins C dx (sf a b c d)) := (k2 p npc).trans i1
  have d2 : H2 d = some (.dK (rowsK x.tabs rl)) := (k2 d S.cd.symm).trans ((k1 d S.bd.symm).trans S.rows)
  have b2 := (k2 b S.bc).trans b1
  have npl : p ≠ l := ne_of_none i2 nl
  have ndl : d ≠ l := ne_of_none d2 nl
  have nbl : b ≠ l := ne_of_none b2 nl
  have ncl : c ≠ l := ne_of_none c2 nl
  have nl0 : H l = none := by
    rw [← k1 l nbl.symm, ← k2 l ncl.symm]
    exact nl
  have d3 : upd H2 l (.lst []) d = some (.dK (rowsK x.tabs rl)) := (upd_ne ndl).trans d2
  refine ⟨_, rfl, p, C, dx, _, _, rfl, (upd_ne npl).trans i2, T.cl, T.nR, sf_r, _, rfl, d, _, rfl, DPut.k (k := .inr n) d3 (by rw [lrows, sizeLine_eq]; omega), ?_⟩
  have pr : putK (rowsK x.tabs rl) (.inr n) (.ref l) = rowsK (x.tabs ++ [⟨n, cs, x.deeds.length, []⟩]) (fun i => if i = x.tabs.length then l else rl i) := by
    rw [putK_new (kvs := rowsK x.tabs rl) (valV_idx_no (f := fun j => .ref (rl j)) x.tabs 0 hn), rowsK_snoc]
    show _ = _ ++ [((.inr n : Key), V.ref (if x.tabs.length = x.tabs.length then l else rl x.tabs.length))]
    rw [if_pos rfl]
    congr 1
    exact colsK_ext (ca := rl) (cb := fun i => if i = x.tabs.length then l else rl i) fun i hi => by rw [if_neg (by omega)]
  rw [pr]
  obtain ⟨H4, eH4⟩ : ∃ H4, H4 = upd (upd H2 l (.lst [])) d (.dK (rowsK (x.tabs ++ [⟨n, cs, x.deeds.length, []⟩]) (fun i => if i = x.tabs.length then l else rl i))) := ⟨_, rfl⟩
  rw [← eH4]
  have k4 : ∀ q, q ≠ b → q ≠ c → q ≠ d → q ≠ l → H4 q = H q := fun q q1 q2 q3 q4 => by rw [eH4, upd_ne q3, upd_ne q4, k2 q q2, k1 q q1]
  have tp : Tups K H H4 := tups_off fun q o e n1 n2 n3 => by
    rw [k4 q (fun z => n1 _ (by rw [z, S.cols] at e; exact (Option.some.inj e).symm)) (fun z => n1 _ (by rw [z, S.made] at e; exact (Option.some.inj e).symm)) (fun z => n1 _ (by rw [z, S.rows] at e; exact (Option.some.inj e).symm)) (ne_of_none e nl0)]
    exact e
  have nal : a ≠ l := ne_of_none S.deeds nl0
  have rlk : ∀ i, i < x.tabs.length → rl i ≠ l ∧ H4 (rl i) = H (rl i) := fun i hi => by
    obtain ⟨vs, e, _⟩ := S.rowAt i _ (List.getElem?_eq_getElem hi)
    have z := ne_of_none e nl0
    exact ⟨z, k4 _ (ne_of e S.cols (fun z => nomatch z)) (ne_of e S.made (fun z => nomatch z)) (ne_of e S.rows (fun z => nomatch z)) z⟩
  have split : ∀ i t, (x.tabs ++ [⟨n, cs, x.deeds.length, []⟩])[i]? = some t → (i < x.tabs.length ∧ x.tabs[i]? = some t) ∨ (i = x.tabs.length ∧ t = ⟨n, cs, x.deeds.length, []⟩) := fun i t e => by
    by_cases hi : i < x.tabs.length
    · rw [List.getElem?_append_left hi] at e
      exact .inl ⟨hi, e⟩
    · rw [List.getElem?_append_right (by omega)] at e
      have z : i - x.tabs.length = 0 := by
        have := (List.getElem?_eq_some_iff.mp e).1
        simp at this
        omega
      rw [z] at e
      exact .inr ⟨by omega, (by simpa using e.symm)⟩
  refine q H4 (foot p a b c d (x.tabs.length + 1) (fun i => if i = x.tabs.length then l else rl i)) ⟨dx, a, b, c, d, ds, (fun i => if i = x.tabs.length then ac else ca i), (fun i => if i = x.tabs.length then l else rl i), ⟨?_, ?_, S.deed.mono fun v e ⟨t, h1, h2⟩ => ⟨t, h1, h2.tups tp⟩, ?_, fun i t e => ?_, ?_, ?_, fun i t e => ?_, S.bc, S.bd, S.cd, fun i j hi hj e => ?_, fun i hi => ?_⟩, fun r => by rw [List.length_append]; exact Iff.rfl⟩ ⟨fun r o nf e => ?_, fun r hr' => ?_⟩
  · rw [eH4, upd_ne npd, upd_ne npl]
    exact i2
  · rw [k4 a nab nac nad nal]
    exact S.deeds
  · rw [eH4, upd_ne S.bd, upd_ne nbl]
    exact b2
  · rcases split i t e with ⟨hi, e⟩ | ⟨rfl, rfl⟩
    · rw [if_neg (by omega)]
      exact tp _ _ (S.colAt i t e)
    · rw [if_pos rfl]
      exact tp _ _ hc
  · rw [eH4, upd_ne S.cd, upd_ne ncl]
    exact c2
  · rw [eH4, upd_same]
  · rcases split i t e with ⟨hi, e⟩ | ⟨rfl, rfl⟩
    · rw [if_neg (by omega)]
      obtain ⟨vs, e1, e2⟩ := S.rowAt i t e
      exact ⟨vs, (rlk i hi).2.trans e1, e2.tups tp⟩
    · rw [if_pos rfl]
      exact ⟨[], by rw [eH4, upd_ne ndl.symm, upd_same], .nil⟩
  · have hi : i < x.tabs.length + 1 := by simpa using hi
    have hj : j < x.tabs.length + 1 := by simpa using hj
    by_cases zi : i = x.tabs.length
    · by_cases zj : j = x.tabs.length
      · omega
      · rw [if_pos zi, if_neg zj] at e
        exact absurd e.symm (rlk j (by omega)).1
    · by_cases zj : j = x.tabs.length
      · rw [if_neg zi, if_pos zj] at e
        exact absurd e (rlk i (by omega)).1
      · rw [if_neg zi, if_neg zj] at e
        exact S.apart i j (by omega) (by omega) e
  · have hi : i < x.tabs.length + 1 := by simpa using hi
    by_cases zi : i = x.tabs.length
    · rw [if_pos zi]
      exact nal.symm
    · rw [if_neg zi]
      exact S.offA i (by omega)
  · have nf : ¬ foot p a b c d x.tabs.length rl r := fun z => nf ((hF r).mpr z)
    unfold foot at nf
    simp only [not_or] at nf
    rw [k4 r nf.2.2.1 nf.2.2.2.1 nf.2.2.2.2.1 (ne_of_none e nl0)]
    exact e
  · rw [hF]
    rcases hr' with z | z | z | z | z | ⟨i, hi, z⟩
    · exact .inl (.inl z)
    · exact .inl (.inr (.inl z))
    · exact .inl (.inr (.inr (.inl z)))
    · exact .inl (.inr (.inr (.inr (.inl z))))
    · exact .inl (.inr (.inr (.inr (.inr (.inl z)))))
    · dsimp only at z
      by_cases zi : i = x.tabs.length
      · rw [if_pos zi] at z
        rw [z]
        exact .inr nl0
      · rw [if_neg zi] at z
        exact .inl (.inr (.inr (.inr (.inr (.inr ⟨i, by omega, z⟩)))))
end
end K20
end

section
set_option Elab.async false
set_option linter.all false
set_option maxRecDepth 100000
set_option maxHeartbeats 4000000
/-! Tables: a row put, a row taken out. -/
namespace K20
open PySem PySem.Spec PyProof.Rows L2 Gd
abbrev sPut : Stmt := inClass (topS 26) 3
abbrev sOut : Stmt := inClass (topS 26) 4
abbrev nPut : List Str := ["self", "name", "worths", "number"]
theorem scPut : FnScope nPut ["self", "name", "worths"] (defScope sPut) := ⟨rfl, rfl, rfl, by decide +kernel, rfl, by decide +kernel, by decide +kernel⟩
abbrev nOut : List Str := ["self", "name", "number", "worths", "put", "out"]
theorem scOut : FnScope nOut ["self", "name", "number"] (defScope sOut) := ⟨rfl, rfl, rfl, by decide +kernel, rfl, by decide +kernel, by decide +kernel⟩
/-- the rows of one table changed -/
def Shelf.onRows (x : Shelf) (n : Str) (g : List Rw → List Rw) : Shelf := { x with tabs := x.tabs.map (onTab n fun t => { t with rows := g t.rows }) }
theorem onTab_same (n : Str) (g : List Rw → List Rw) (t : Tab) : (onTab n (fun t => { t with rows := g t.rows }) t).name = t.name ∧ (onTab n (fun t => { t with rows := g t.rows }) t).cols = t.cols ∧ (onTab n (fun t => { t with rows := g t.rows }) t).made = t.made := by
  unfold onTab
  split
  · exact ⟨rfl, rfl, rfl⟩
  · exact ⟨rfl, rfl, rfl⟩
theorem colsK_on (n : Str) (g : List Rw → List Rw) (ts : List Tab) (ca : Nat → Addr) : colsK (ts.map (onTab n fun t => { t with rows := g t.rows })) ca = colsK ts ca := by
  unfold colsK
  rw [List.zipIdx_map, List.map_map]
  refine List.map_congr_left fun p _ => ?_
  show ((.inr (onTab n _ p.1).name : Key), _) = _
  rw [(onTab_same n g p.1).1]
  rfl
theorem madeK_on (n : Str) (g : List Rw → List Rw) (ts : List Tab) : madeK (ts.map (onTab n fun t => { t with rows := g t.rows })) = madeK ts := by
  unfold madeK
  rw [List.map_map]
  refine List.map_congr_left fun t _ => ?_
  show ((.inr (onTab n _ t).name : Key), V.int ((onTab n _ t).made : Nat)) = _
  rw [(onTab_same n g t).1, (onTab_same n g t).2.2]
theorem name_inj {ts : List Tab} (nd : (ts.map Tab.name).Nodup) {i j : Nat} {t u : Tab} (hi : ts[i]? = some t) (hj : ts[j]? = some u) (e : t.name = u.name) : i = j := by
  obtain ⟨li, ei⟩ := List.getElem?_eq_some_iff.mp hi
  obtain ⟨lj, ej⟩ := List.getElem?_eq_some_iff.mp hj
  have := (List.getElem_inj (i := i) (j := j) (h₀ := by rw [List.length_map]; exact li) (h₁ := by rw [List.length_map]; exact lj) nd).mp (by rw [List.getElem_map, List.getElem_map, ei, ej, e])
  exact this
section
variable {K : PySem.W.Frag} {C : Addr} {H H' : Hp} {p dx a b c d : Addr} {x : Shelf} {ds : List V} {ca rl : Nat → Addr}
theorem ShelfAt.change (S : ShelfAt K C H p x dx a b c d ds ca rl) (nd : (x.tabs.map Tab.name).Nodup) {i : Nat} {t : Tab} (ht : x.tabs[i]? = some t) (g : List Rw → List Rw) {vs' : List V} (e1 : H' (rl i) = some (.lst vs')) (e2 : RowsAt K H' vs' (g t.rows))
    (k : ∀ q o, q ≠ rl i → H q = some o → H' q = some o) : ShelfAt K C H' p (x.onRows t.name g) dx a b c d ds ca rl := by
  have li : i < x.tabs.length := (List.getElem?_eq_some_iff.mp ht).1
  obtain ⟨vs, ev, hv⟩ := S.rowAt i t ht
  have tp : Tups K H H' := by
    intro q ys z
    have ne : ∀ {o : HO}, H q = some o → (∀ xs, o ≠ .lst xs) → q ≠ rl i := fun z1 n e => by
      rw [e, ev] at z1
      exact n _ (Option.some.inj z1).symm
    rcases z with (z | ⟨o, z⟩) | z
    · exact .inl (.inl (k _ _ (ne z (fun _ y => nomatch y)) z))
    · exact .inl (.inr ⟨o, k _ _ (ne z (fun _ y => nomatch y)) z⟩)
    · exact .inr z
  have nm : ∀ (j : Nat) (u : Tab), (x.onRows t.name g).tabs[j]? = some u → ∃ t0, x.tabs[j]? = some t0 ∧ u = onTab t.name (fun t => { t with rows := g t.rows }) t0 := fun j u e => by
    have e : (x.tabs.map (onTab t.name fun t => { t with rows := g t.rows }))[j]? = some u := e
    rw [List.getElem?_map, Option.map_eq_some_iff] at e
    obtain ⟨t0, z, rfl⟩ := e
    exact ⟨t0, z, rfl⟩
  have ln : (x.onRows t.name g).tabs.length = x.tabs.length := List.length_map _
  refine ⟨k _ _ (ne_of S.ins ev (fun z => nomatch z)) S.ins, k _ _ (S.offA i li).symm S.deeds, S.deed.mono fun v e ⟨q, h1, h2⟩ => ⟨q, h1, h2.tups tp⟩, ?_, fun j u e => ?_, ?_, ?_, fun j u e => ?_, S.bc, S.bd, S.cd, fun j1 j2 h1 h2 e => S.apart j1 j2 (by rw [← ln]; exact h1) (by rw [← ln]; exact h2) e, fun j hj => S.offA j (by rw [← ln]; exact hj)⟩
  · rw [show colsK (x.onRows t.name g).tabs ca = colsK x.tabs ca from colsK_on _ _ _ _]
    exact k _ _ (ne_of S.cols ev (fun z => nomatch z)) S.cols
  · obtain ⟨t0, z, rfl⟩ := nm j u e
    rw [(onTab_same t.name g t0).2.1]
    exact tp _ _ (S.colAt j t0 z)
  · rw [show madeK (x.onRows t.name g).tabs = madeK x.tabs from madeK_on _ _ _]
    exact k _ _ (ne_of S.made ev (fun z => nomatch z)) S.made
  · rw [show rowsK (x.onRows t.name g).tabs rl = rowsK x.tabs rl from colsK_on _ _ _ _]
    exact k _ _ (ne_of S.rows ev (fun z => nomatch z)) S.rows
  · obtain ⟨t0, z, rfl⟩ := nm j u e
    by_cases ij : j = i
    · subst ij
      rw [ht] at z
      cases z
      refine ⟨vs', e1, ?_⟩
      unfold onTab
      rw [if_pos rfl]
      exact e2
    · have lj : j < x.tabs.length := (List.getElem?_eq_some_iff.mp z).1
      obtain ⟨ws, f1, f2⟩ := S.rowAt j t0 z
      refine ⟨ws, k _ _ (fun y => ij (S.apart j i lj li y)) f1, ?_⟩
      unfold onTab
      rw [if_neg (fun y => ij (name_inj nd z ht y))]
      exact f2.tups tp
end
theorem each_snoc {α β : Type} {R : α → β → Prop} : ∀ {as : List α} {bs : List β} {a : α} {b : β}, PySem.W.EachIs R as bs → R a b → PySem.W.EachIs R (as ++ [a]) (bs ++ [b])
  | _, _, _, _, .nil, h => .cons h .nil
  | _, _, _, _, .cons h t, k => .cons h (each_snoc t k)
def spPut (K : PySem.W.Frag) (C : Addr) : Sp := fun vs H Q _ => ∃ (p aw : Addr) (x : Shelf) (F : Addr → Prop) (i : Nat) (t : Tab) (ws : List Int), vs = [.ref p, .str t.name, .ref aw] ∧ ShelfF K C H p x F ∧ ShelfOk x ∧ x.tabs[i]? = some t ∧ t.rows.length < 60 ∧ SqT K H aw (ws.map V.int) ∧ ws.length = t.cols.length ∧
  ∀ H', ShelfF K C H' p (x.onRows t.name fun rs => rs ++ [⟨ws, x.deeds.length, none⟩]) F → After H F H' F → Q (.int t.rows.length) H'
section
variable {P : Program} {w : World} {K : PySem.W.Frag} {mg : Str → Option Value} {base : Heap} {f pS C : Addr} {fd : FuncData}
theorem ok_put (F : Fun K "_put" "Tables._put" sPut f fd) (T : TxtT K mg C) (N : Cs K mg pS) (Ct : Ct mg) : FnOk P w K mg base CX0 1 f fd ["self", "name", "worths"] (spPut K C) := by
  refine F.ok scPut (fun vs H Q E h => ?_) (fun cdv A outer s H vs Q E hr h => ?_)
  · obtain ⟨p, ac, x, F, i, t, cs, rfl, _⟩ := h
    rfl
  obtain ⟨p, aw, x, FF, i, t, ws, rfl, hS, ok, ht, h60, hw, hl, q⟩ := h
  have nd := scPut.nd
  have hu := hu_of hr
  obtain ⟨t6, g6⟩ := Ct.rows
  refine ⟨_, pss_cons (ps_if (pt_cmp (pc_dnotin hu (pv 1) (pe_fld (pv 0) rfl))) pss_never pss_nil)
    (pss_cons (ps_set (i := 3) nd rfl (.inl rfl) (pe_callB call_len_seq (by rfl) N.len PySem.boot_len (pa_cons (pe_dget hu (pe_fld (pv 0) rfl) (pv 1) (fun _ _ => rfl)) pa_nil)))
    (pss_cons (ps_if (pt_cmpR op_eq (pv 3) (pe_glob (v := .int 60) (by rfl) g6 ⟨_, rfl⟩) (nomark _)) pss_never pss_nil)
    (pss_cons (ps_if (pt_cmpR op_ne (pe_callB call_len_seq (by rfl) N.len PySem.boot_len (pa_cons (pv 2) pa_nil)) (pe_callB call_len_seq (by rfl) N.len PySem.boot_len (pa_cons (pe_dget hu (pe_fld (pv 0) rfl) (pv 1) (fun _ _ => rfl)) pa_nil)) (nomark _)) pss_never pss_nil)
    (pss_cons (ps_expr (pe_bm PySem.F.plainAttrs_list PySem.F.slot_list_append PySem.F.type_list_append mt_append (pe_dget hu (pe_fld (pv 0) rfl) (pv 1) (fun _ _ => rfl)) (pa_cons (pe_tup (pa_cons (pv 2) (pa_cons (pe_callB call_len_seq (by rfl) N.len PySem.boot_len (pa_cons (pe_fld (pv 0) rfl) pa_nil)) (pa_cons pe_non pa_nil)))) pa_nil)))
    (pss_one (ps_ret (pv 3))))))), ?_⟩
  obtain ⟨dx, a, b, c, d, ds, ca, rl, S, hF⟩ := hS
  have lds : ds.length = x.deeds.length := S.deed.length
  have li : i < x.tabs.length := (List.getElem?_eq_some_iff.mp ht).1
  have gc : ∀ {G : Hp}, Same H G → DGet G b (.str t.name) (some (.ref (ca i))) := fun s1 => by
    have z := DGet.k (k := .inr t.name) (s1 _ _ S.cols)
    unfold colsK at z
    rw [valV_idx (f := fun j => .ref (ca j)) x.tabs 0 i t ok.nd ht, Nat.zero_add] at z
    exact z
  have gr : ∀ {G : Hp}, Same H G → DGet G d (.str t.name) (some (.ref (rl i))) := fun s1 => by
    have z := DGet.k (k := .inr t.name) (s1 _ _ S.rows)
    unfold rowsK at z
    rw [valV_idx (f := fun j => .ref (rl j)) x.tabs 0 i t ok.nd ht, Nat.zero_add] at z
    exact z
  obtain ⟨vs, ev, hv⟩ := S.rowAt i t ht
  have lv : vs.length = t.rows.length := hv.length
  have s0 := Same.refl H
  refine ⟨_, rfl, _, rfl, p, C, dx, _, _, rfl, S.ins, T.cl, T.nC, sf_c, b, _, rfl, gc s0, _, rfl, iteF ?_⟩
  refine ⟨_, rfl, p, C, dx, _, _, rfl, S.ins, T.cl, T.nR, sf_r, _, rfl, d, _, rfl, gr s0, rl i, _, rfl, .inl (SqL.of ev), ?_⟩
  refine ⟨_, rfl, rfl, _, rfl, iteF' (by rw [decide_eq_true_eq, lv]; intro z; have := V.int.inj z; omega) ?_⟩
  refine ⟨_, rfl, aw, _, rfl, .inr hw, _, rfl, p, C, dx, _, _, rfl, S.ins, T.cl, T.nC, sf_c, _, rfl, b, _, rfl, gc s0, ca i, _, rfl, .inr (S.colAt i t ht), rfl, _, rfl, iteF' (by rw [List.length_map, List.length_map, hl]; simp) ?_⟩
  refine ⟨_, rfl, p, C, dx, _, _, rfl, S.ins, T.cl, T.nR, sf_r, _, rfl, d, _, rfl, gr s0, .inl ⟨rfl, _, SqL.of ev⟩, _, rfl, _, rfl, p, C, dx, _, _, rfl, S.ins, T.cl, T.nD, sf_d, a, _, rfl, .inl (SqL.of S.deeds), (by show 3 ≤ sizeLine; decide), fun r nr => ?_⟩
  have jr := new_same (o := .tup [.ref aw, .int ((ds.length : Nat) : Int), .non]) nr
  have er : upd H r (.tup [.ref aw, .int ((ds.length : Nat) : Int), .non]) r = some (.tup [.ref aw, .int ((ds.length : Nat) : Int), .non]) := upd_same
  generalize upd H r (.tup [.ref aw, .int ((ds.length : Nat) : Int), .non]) = H1 at jr er ⊢
  have ev1 := jr _ _ ev
  refine ⟨rl i, vs, _, rfl, rfl, ev1, by rw [lv, sizeLine_eq]; omega, _, rfl, ?_⟩
  rw [lv]
  have kk : ∀ q o, q ≠ rl i → H q = some o → upd H1 (rl i) (.lst (vs ++ [.ref r])) q = some o := fun q o ne e => by
    rw [upd_ne ne]
    exact jr _ _ e
  have tp1 : Tups K H1 (upd H1 (rl i) (.lst (vs ++ [.ref r]))) := .upd_lst ev1
  have hv2 : RowsAt K (upd H1 (rl i) (.lst (vs ++ [.ref r]))) (vs ++ [.ref r]) (t.rows ++ [⟨ws, x.deeds.length, none⟩]) := by
    refine each_snoc ((RowsAt.tups (Tups.of_same jr) hv).tups tp1) ⟨r, aw, rfl, tp1 _ _ (SqT.of ?_), tp1 _ _ (Tups.of_same jr _ _ hw)⟩
    rw [er, lds]
    rfl
  refine q _ ⟨dx, a, b, c, d, ds, ca, rl, S.change ok.nd ht (fun rs => rs ++ [⟨ws, x.deeds.length, none⟩]) upd_same hv2 kk, fun y => ?_⟩ ⟨fun y o nf e => kk y o (fun z => nf ((hF y).mpr (.inr (.inr (.inr (.inr (.inr ⟨i, li, z⟩))))))) e, fun y hy => .inl hy⟩
  rw [hF, show (x.onRows t.name fun rs => rs ++ [⟨ws, x.deeds.length, none⟩]).tabs.length = x.tabs.length from List.length_map _]
end
end K20
end

section
set_option Elab.async false
set_option linter.all false
set_option maxRecDepth 100000
set_option maxHeartbeats 4000000
/-! Tables: a row taken out. -/
namespace K20
open PySem PySem.Spec PyProof.Rows L2 Gd
theorem each_set {α β : Type} {R : α → β → Prop} {a : α} {b : β} (k : R a b) : ∀ {as : List α} {bs : List β} (i : Nat), PySem.W.EachIs R as bs → PySem.W.EachIs R (as.set i a) (bs.set i b)
  | _, _, _, .nil => .nil
  | _, _, 0, .cons _ t => .cons k t
  | _, _, i + 1, .cons h t => .cons h (each_set k i t)
theorem each_get {α β : Type} {R : α → β → Prop} : ∀ {as : List α} {bs : List β} {i : Nat} {b : β}, PySem.W.EachIs R as bs → bs[i]? = some b → ∃ a, as[i]? = some a ∧ R a b
  | _, _, _, _, .nil, h => by simp at h
  | _, _, 0, _, .cons (a := a) h _, e => by
    cases (show some _ = some _ from e)
    exact ⟨a, rfl, h⟩
  | _, _, i + 1, _, .cons _ t, e => each_get t (i := i) (by simpa using e)
def spOut (K : PySem.W.Frag) (C : Addr) : Sp := fun vs H Q _ => ∃ (p : Addr) (x : Shelf) (F : Addr → Prop) (i : Nat) (t : Tab) (k : Nat) (r : Rw), vs = [.ref p, .str t.name, .int k] ∧ ShelfF K C H p x F ∧ ShelfOk x ∧ x.tabs[i]? = some t ∧ t.rows[k]? = some r ∧ r.out = none ∧
  ∀ H', ShelfF K C H' p (x.onRows t.name fun rs => rs.set k ⟨r.ws, r.put, some x.deeds.length⟩) F → After H F H' F → Q .non H'
section
variable {P : Program} {w : World} {K : PySem.W.Frag} {mg : Str → Option Value} {base : Heap} {f pS C : Addr} {fd : FuncData}
theorem ok_out (F : Fun K "_take_out" "Tables._take_out" sOut f fd) (T : TxtT K mg C) (N : Cs K mg pS) : FnOk P w K mg base CX0 1 f fd ["self", "name", "number"] (spOut K C) := by
  refine F.ok scOut (fun vs H Q E h => ?_) (fun cdv A outer s H vs Q E hr h => ?_)
  · obtain ⟨p, x, F, i, t, k, r, rfl, _⟩ := h
    rfl
  obtain ⟨p, x, FF, i, t, k, r, rfl, hS, ok, ht, hk, ho, q⟩ := h
  have nd := scOut.nd
  have hu := hu_of hr
  refine ⟨_, pss_cons (ps_if (pt_cmp (pc_dnotin hu (pv 1) (pe_fld (pv 0) rfl))) pss_never pss_nil)
    (pss_cons (ps_if (pt_cmpR op_ge (pv 2) (pe_callB call_len_seq (by rfl) N.len PySem.boot_len (pa_cons (pe_dget hu (pe_fld (pv 0) rfl) (pv 1) (fun _ _ => rfl)) pa_nil)) (nomark _)) pss_never pss_nil)
    (pss_cons (ps_asg (pe_ix ix_list (pe_dget hu (pe_fld (pv 0) rfl) (pv 1) (fun _ _ => rfl)) (pv 2) (fun _ _ => rfl)) (pg_tup (n := 3) rfl (pgs_cons (pg_name (i := 3) nd rfl (.inl rfl)) (pgs_cons (pg_name (i := 4) nd rfl (.inl rfl)) (pgs_cons (pg_name (i := 5) nd rfl (.inl rfl)) pgs_nil)))))
    (pss_cons (ps_if (pt_cmpR op_notN (pv 5) pe_non (nomark _)) pss_never pss_nil)
    (pss_one (ps_asg (pe_tup (pa_cons (pv 3) (pa_cons (pv 4) (pa_cons (pe_callB call_len_seq (by rfl) N.len PySem.boot_len (pa_cons (pe_fld (pv 0) rfl) pa_nil)) pa_nil)))) (pg_sub (pe_dget hu (pe_fld (pv 0) rfl) (pv 1) (fun _ _ => rfl)) (pv 2) set_list)))))), ?_⟩
  obtain ⟨dx, a, b, c, d, ds, ca, rl, S, hF⟩ := hS
  have lds : ds.length = x.deeds.length := S.deed.length
  have li : i < x.tabs.length := (List.getElem?_eq_some_iff.mp ht).1
  have gc : ∀ {G : Hp}, Same H G → DGet G b (.str t.name) (some (.ref (ca i))) := fun s1 => by
    have z := DGet.k (k := .inr t.name) (s1 _ _ S.cols)
    unfold colsK at z
    rw [valV_idx (f := fun j => .ref (ca j)) x.tabs 0 i t ok.nd ht, Nat.zero_add] at z
    exact z
  have gr : ∀ {G : Hp}, Same H G → DGet G d (.str t.name) (some (.ref (rl i))) := fun s1 => by
    have z := DGet.k (k := .inr t.name) (s1 _ _ S.rows)
    unfold rowsK at z
    rw [valV_idx (f := fun j => .ref (rl j)) x.tabs 0 i t ok.nd ht, Nat.zero_add] at z
    exact z
  obtain ⟨vs, ev, hv⟩ := S.rowAt i t ht
  have lv : vs.length = t.rows.length := hv.length
  have lk : k < t.rows.length := (List.getElem?_eq_some_iff.mp hk).1
  have s0 := Same.refl H
  obtain ⟨v0, hv0, ra, wa, rfl, hra, hwa⟩ := each_get hv hk
  refine ⟨_, rfl, _, rfl, p, C, dx, _, _, rfl, S.ins, T.cl, T.nC, sf_c, b, _, rfl, gc s0, _, rfl, iteF ?_⟩
  refine ⟨_, rfl, _, rfl, p, C, dx, _, _, rfl, S.ins, T.cl, T.nR, sf_r, _, rfl, d, _, rfl, gr s0, rl i, _, rfl, .inl (SqL.of ev), _, _, rfl, rfl, _, rfl, iteF' (by rw [decide_eq_true_eq, lv]; omega) ?_⟩
  refine ⟨_, rfl, p, C, dx, _, _, rfl, S.ins, T.cl, T.nR, sf_r, _, rfl, d, _, rfl, gr s0, _, rfl, rl i, vs, _, .ref ra, rfl, rfl, SqL.of ev, atI_nat hv0, ra, _, rfl, hra, rfl, _, _, rfl, _, _, rfl, _, _, rfl, rfl, ?_⟩
  rw [ho]
  refine ⟨_, rfl, rfl, _, rfl, iteF' (by show ¬ (!decide (V.non = V.non)) = true; simp) ?_⟩
  refine ⟨_, rfl, _, rfl, _, rfl, p, C, dx, _, _, rfl, S.ins, T.cl, T.nD, sf_d, a, _, rfl, .inl (SqL.of S.deeds), (by show 3 ≤ sizeLine; decide), fun r2 nr => ?_⟩
  have jr := new_same (o := .tup [.ref wa, .int ((r.put : Nat) : Int), .int ((ds.length : Nat) : Int)]) nr
  have er : upd H r2 (.tup [.ref wa, .int ((r.put : Nat) : Int), .int ((ds.length : Nat) : Int)]) r2 = some (.tup [.ref wa, .int ((r.put : Nat) : Int), .int ((ds.length : Nat) : Int)]) := upd_same
  generalize upd H r2 (.tup [.ref wa, .int ((r.put : Nat) : Int), .int ((ds.length : Nat) : Int)]) = H1 at jr er ⊢
  have ev1 := jr _ _ ev
  refine ⟨_, rfl, p, C, dx, _, _, rfl, jr _ _ S.ins, T.cl, T.nR, sf_r, _, rfl, d, _, rfl, gr jr, _, rfl, rl i, vs, _, k, rfl, rfl, ev1, (by unfold ixN; rw [if_pos (by omega), if_pos (by omega)]; simp), ?_⟩
  have kk : ∀ q o, q ≠ rl i → H q = some o → upd H1 (rl i) (.lst (vs.set k (.ref r2))) q = some o := fun q o ne e => by
    rw [upd_ne ne]
    exact jr _ _ e
  have tp1 : Tups K H1 (upd H1 (rl i) (.lst (vs.set k (.ref r2)))) := .upd_lst ev1
  have hv2 : RowsAt K (upd H1 (rl i) (.lst (vs.set k (.ref r2)))) (vs.set k (.ref r2)) (t.rows.set k ⟨r.ws, r.put, some x.deeds.length⟩) := by
    refine each_set ⟨r2, wa, rfl, tp1 _ _ (SqT.of ?_), tp1 _ _ (Tups.of_same jr _ _ hwa)⟩ k ((RowsAt.tups (Tups.of_same jr) hv).tups tp1)
    rw [er, lds]
    rfl
  refine q _ ⟨dx, a, b, c, d, ds, ca, rl, S.change ok.nd ht (fun rs => rs.set k ⟨r.ws, r.put, some x.deeds.length⟩) upd_same hv2 kk, fun y => ?_⟩ ⟨fun y o nf e => kk y o (fun z => nf ((hF y).mpr (.inr (.inr (.inr (.inr (.inr ⟨i, li, z⟩))))))) e, fun y hy => .inl hy⟩
  rw [hF, show (x.onRows t.name fun rs => rs.set k ⟨r.ws, r.put, some x.deeds.length⟩).tabs.length = x.tabs.length from List.length_map _]
end
end K20
end

section
set_option Elab.async false
set_option linter.all false
set_option maxRecDepth 100000
set_option maxHeartbeats 4000000
/-! Tables: a deed done. -/
namespace K20
open PySem PySem.Spec PyProof.Rows L2 Gd
abbrev sDo : Stmt := inClass (topS 26) 1
abbrev nDo : List Str := ["self", "deed", "word", "name", "what", "number"]
theorem scDo : FnScope nDo ["self", "deed"] (defScope sDo) := ⟨rfl, rfl, rfl, by decide +kernel, rfl, by decide +kernel, by decide +kernel⟩
/-- a deed that can be done, and what stands behind it but for the list of deeds -/
def Can (x : Shelf) : Deed → Shelf → Prop
  | .table n cs, y => n ∉ x.tabs.map Tab.name ∧ x.tabs.length < 6 ∧ y = { x with tabs := x.tabs ++ [⟨n, cs, x.deeds.length, []⟩] }
  | .row n ws, y => ∃ (i : Nat) (t : Tab), x.tabs[i]? = some t ∧ t.name = n ∧ t.rows.length < 60 ∧ ws.length = t.cols.length ∧ y = x.onRows n fun rs => rs ++ [⟨ws, x.deeds.length, none⟩]
  | .out n k, y => ∃ (i : Nat) (t : Tab) (r : Rw), x.tabs[i]? = some t ∧ t.name = n ∧ t.rows[k]? = some r ∧ r.out = none ∧ y = x.onRows n fun rs => rs.set k ⟨r.ws, r.put, some x.deeds.length⟩
theorem Can.deeds {x y : Shelf} {d : Deed} (h : Can x d y) : y.deeds = x.deeds := by
  cases d with
  | table n cs => rw [h.2.2]
  | row n ws =>
    obtain ⟨i, t, _, _, _, _, rfl⟩ := h
    rfl
  | out n k =>
    obtain ⟨i, t, r, _, _, _, _, rfl⟩ := h
    rfl
def spDo (K : PySem.W.Frag) (C : Addr) : Sp := fun vs H Q _ => ∃ (p t : Addr) (x y : Shelf) (F : Addr → Prop) (d : Deed), vs = [.ref p, .ref t] ∧ ShelfF K C H p x F ∧ ShelfOk x ∧ x.deeds.length < 4000 ∧ DeedAt K H t d ∧ DeedOk d ∧ Can x d y ∧
  ∀ H' F' v, ShelfF K C H' p { y with deeds := x.deeds ++ [d] } F' → After H F H' F' → Q v H'
section
variable {K : PySem.W.Frag} {C : Addr} {H H1 H' : Hp} {p : Addr} {x y : Shelf} {F F' F1 : Addr → Prop}
theorem After.tups (h : ShelfF K C H p x F) (a : After H F H' F') : Tups K H H' := by
  intro q ys z
  have ne : ∀ {o : HO}, H q = some o → (∀ kvs, o ≠ .dK kvs) → (∀ xs, o ≠ .lst xs) → (∀ C dx fs, o ≠ .ins C dx fs) → ¬ F q := fun z1 n1 n2 n3 hq => by
    rcases h.kind hq with ⟨dx, fs, e⟩ | ⟨xs, e⟩ | ⟨kvs, e⟩
    · rw [e] at z1
      exact n3 _ _ _ (Option.some.inj z1).symm
    · rw [e] at z1
      exact n2 _ (Option.some.inj z1).symm
    · rw [e] at z1
      exact n1 _ (Option.some.inj z1).symm
  rcases z with (z | ⟨o, z⟩) | z
  · exact .inl (.inl (a.off _ _ (ne z (fun _ y => nomatch y) (fun _ y => nomatch y) (fun _ _ _ y => nomatch y)) z))
  · exact .inl (.inr ⟨o, a.off _ _ (ne z (fun _ y => nomatch y) (fun _ y => nomatch y) (fun _ _ _ y => nomatch y)) z⟩)
  · exact .inr z
theorem After.ofSame (s : Same H H1) (a : After H1 F H' F') : After H F H' F' := ⟨fun b o nf e => a.off b o nf (s _ _ e), fun b hb => (a.new b hb).imp id fun z => s.free z⟩
end
section
variable {P : Program} {w : World} {K : PySem.W.Frag} {mg : Str → Option Value} {base : Heap} {f fD pS C : Addr} {fd dD : FuncData}
theorem ok_do (F : Fun K "do" "Tables.do" sDo f fd) (T : TxtT K mg C)
    (FD : Fun K "_is_deed" "_is_deed" sDeed fD dD) (GD : FnOk P w K mg base CX0 3 fD dD ["thing"] (spDeed K)) (gD : mg "_is_deed" = some (.ref fD)) (bD : Binds K dD ["thing"] [])
    (MM : Mt P w K mg base C "_make" ["self", "name", "columns"] CX0 1 (spMake K C)) (MP : Mt P w K mg base C "_put" ["self", "name", "worths"] CX0 1 (spPut K C)) (MO : Mt P w K mg base C "_take_out" ["self", "name", "number"] CX0 1 (spOut K C)) :
    FnOk P w K mg base CX0 4 f fd ["self", "deed"] (spDo K C) := by
  refine F.ok scDo (fun vs H Q E h => ?_) (fun cdv A outer s H vs Q E hr h => ?_)
  · obtain ⟨p, t, x, y, F, d, rfl, _⟩ := h
    rfl
  obtain ⟨p, t, x, y, FF, d, rfl, hS, ok, h4, hd, dok, can, q⟩ := h
  obtain ⟨fM, dM, mM, GM, bM⟩ := MM.ex
  obtain ⟨fP, dP, mP, GP, bP⟩ := MP.ex
  obtain ⟨fO, dO, mO, GO, bO⟩ := MO.ex
  have nd := scDo.nd
  have r1 : Room 1 _ := hr.mono (by decide)
  refine ⟨_, pss_cons (ps_if (pt_not (pt_val (pe_call GD hr (by rfl) gD FD.kp bD .nil pass0 (pa_cons (pv 1) pa_nil)))) pss_never pss_nil)
    (pss_cons (ps_asg (pv 1) (pg_tup (n := 3) rfl (pgs_cons (pg_name (i := 2) nd rfl (.inl rfl)) (pgs_cons (pg_name (i := 3) nd rfl (.inl rfl)) (pgs_cons (pg_name (i := 4) nd rfl (.inl rfl)) pgs_nil)))))
    (pss_cons (ps_set (i := 5) nd rfl (.inl rfl) pe_non)
    (C8.pss_cut (ps_if (pt_cmpR op_eq (pv 2) pe_str (nomark _)) (pss_one (ps_expr (pe_meth (pv 0) T.cl mM GM r1 bM .nil pass0 (pa_cons (pv 3) (pa_cons (pv 4) pa_nil)))))
      (pss_one (ps_if (pt_cmpR op_eq (pv 2) pe_str (nomark _)) (pss_one (ps_set (i := 5) nd rfl (.inl rfl) (pe_meth (pv 0) T.cl mP GP r1 bP .nil pass0 (pa_cons (pv 3) (pa_cons (pv 4) pa_nil)))))
        (pss_one (ps_expr (pe_meth (pv 0) T.cl mO GO r1 bO .nil pass0 (pa_cons (pv 3) (pa_cons (pv 4) pa_nil))))))))
    (pss_cons (ps_expr (pe_bm PySem.F.plainAttrs_list PySem.F.slot_list_append PySem.F.type_list_append mt_append (pe_fld (pv 0) rfl) (pa_cons (pv 1) pa_nil)))
    (pss_one (ps_ret (pv 5))))))), ?_⟩
  refine ⟨_, rfl, t, d, rfl, hd, dok, fun H1 s1 => ⟨_, rfl, iteF ?_⟩⟩
  have hS1 := hS.same s1
  have hd1 := hd.tups (Tups.of_same s1)
  obtain ⟨wv, ht, hw⟩ := id hd1
  refine ⟨_, rfl, t, _, rfl, ht, rfl, _, _, rfl, _, _, rfl, _, _, rfl, rfl, ?_⟩
  refine ⟨fun σ' H' => ∃ F' v, σ' = [some (.ref p), some (.ref t), some (.str d.word), some (.str d.name), some wv, some v] ∧ ShelfF K C H' p y F' ∧ After H1 FF H' F', ?_, ?_⟩
  · have si : ∃ dx fs, H1 p = some (.ins C dx fs) ∧ fs.lookup ("_make" : Str) = none ∧ fs.lookup ("_put" : Str) = none ∧ fs.lookup ("_take_out" : Str) = none := by
      obtain ⟨dx, a, b, c, e, ds, ca, rl, S, hF⟩ := hS1
      exact ⟨dx, _, S.ins, sf_no (by decide), sf_no (by decide), sf_no (by decide)⟩
    obtain ⟨dx, fs, ip, l1, l2, l3⟩ := si
    cases d with
    | table n cs =>
      obtain ⟨ac, rfl, hac⟩ := hw
      obtain ⟨c1, c2, rfl⟩ := can
      refine ⟨_, rfl, rfl, _, rfl, iteT' (decide_eq_true rfl) ?_⟩
      exact ⟨_, rfl, p, dx, fs, rfl, ip, l1, _, rfl, _, rfl, p, ac, x, FF, n, cs, rfl, hS1, ok, c1, c2, hac, fun H' F' h1 h2 => ⟨F', _, rfl, h1, h2⟩⟩
    | row n ws =>
      obtain ⟨aw, rfl, haw⟩ := hw
      obtain ⟨i, tb, c1, rfl, c3, c4, rfl⟩ := can
      refine ⟨_, rfl, rfl, _, rfl, iteF' (by rw [decide_eq_true_eq]; intro z; exact absurd (V.str.inj z) (show ¬ ("row" : Str) = "table" by decide)) ?_⟩
      refine ⟨_, rfl, rfl, _, rfl, iteT' (decide_eq_true rfl) ?_⟩
      exact ⟨_, rfl, p, dx, fs, rfl, ip, l2, _, rfl, _, rfl, p, aw, x, FF, i, tb, ws, rfl, hS1, ok, c1, c3, haw, c4, fun H' h1 h2 => ⟨FF, _, rfl, h1, h2⟩⟩
    | out n k =>
      obtain rfl := hw
      obtain ⟨i, tb, r, c1, rfl, c3, c4, rfl⟩ := can
      refine ⟨_, rfl, rfl, _, rfl, iteF' (by rw [decide_eq_true_eq]; intro z; exact absurd (V.str.inj z) (show ¬ ("out" : Str) = "table" by decide)) ?_⟩
      refine ⟨_, rfl, rfl, _, rfl, iteF' (by rw [decide_eq_true_eq]; intro z; exact absurd (V.str.inj z) (show ¬ ("out" : Str) = "row" by decide)) ?_⟩
      exact ⟨_, rfl, p, dx, fs, rfl, ip, l3, _, rfl, _, rfl, p, x, FF, i, tb, k, r, rfl, hS1, ok, c1, c3, c4, fun H' h1 h2 => ⟨FF, _, rfl, h1, h2⟩⟩
  rintro σ' H' ⟨F', v, rfl, hy, af⟩
  have hd2 := hd1.tups (af.tups hS1)
  have yd := can.deeds
  obtain ⟨dx, a, b, c, e, ds, ca, rl, S, hF⟩ := hy
  have lds : ds.length = x.deeds.length := by rw [← yd]; exact S.deed.length
  refine ⟨_, rfl, p, C, dx, _, _, rfl, S.ins, T.cl, T.nD, sf_d, .inl ⟨rfl, _, SqL.of S.deeds⟩, _, rfl, a, ds, _, rfl, rfl, S.deeds, by rw [sizeLine_eq]; omega, ?_⟩
  refine ⟨_, rfl, ?_⟩
  have tp : Tups K H' (upd H' a (.lst (ds ++ [.ref t]))) := .upd_lst S.deeds
  have ne : ∀ {q : Addr} {o : HO}, H' q = some o → (∀ xs, o ≠ .lst xs) → upd H' a (.lst (ds ++ [.ref t])) q = some o := fun z n => by
    rw [upd_ne (fun y => by rw [y, S.deeds] at z; exact n _ (Option.some.inj z).symm)]
    exact z
  refine q _ F' v ⟨dx, a, b, c, e, ds ++ [.ref t], ca, rl, ⟨ne S.ins (fun _ z => nomatch z), upd_same, ?_, ne S.cols (fun _ z => nomatch z), fun i t0 h => tp _ _ (S.colAt i t0 h), ne S.made (fun _ z => nomatch z), ne S.rows (fun _ z => nomatch z), fun i t0 h => ?_, S.bc, S.bd, S.cd, S.apart, S.offA⟩, hF⟩ ?_
  · rw [← yd]
    exact each_snoc (S.deed.mono fun u d0 ⟨q0, h1, h2⟩ => ⟨q0, h1, h2.tups tp⟩) ⟨t, rfl, hd2.tups tp⟩
  · obtain ⟨vs, e1, e2⟩ := S.rowAt i t0 h
    exact ⟨vs, by rw [upd_ne (S.offA i (List.getElem?_eq_some_iff.mp h).1)]; exact e1, e2.tups tp⟩
  · refine After.ofSame s1 ⟨fun r o nf z => ?_, af.new⟩
    have nr : r ≠ a := fun y => by
      rw [y] at nf z
      rcases (af.new a ((hF a).mpr (.inr (.inl rfl)))) with h | h
      · exact nf h
      · rw [h] at z
        cases z
    rw [upd_ne nr]
    exact af.off r o nf z
end
end K20
end

section
set_option Elab.async false
set_option linter.all false
set_option maxRecDepth 100000
set_option maxHeartbeats 4000000
/-! Tables made; what stays well made. -/
namespace K20
open PySem PySem.Spec PyProof.Rows L2 Gd
abbrev sInit : Stmt := inClass (topS 26) 0
abbrev nInit : List Str := ["self", "deeds", "deed"]
theorem scInit : FnScope nInit ["self", "deeds"] (defScope sInit) := ⟨rfl, rfl, rfl, by decide +kernel, rfl, by decide +kernel, by decide +kernel⟩
theorem okFD {P : Program} {w : World} {K : PySem.W.Frag} {mg : Str → Option Value} {base : Heap} {x qual : Str} {st : Stmt} {dvs : List V} {kws : List (Str × V)} {f : Addr} {fd : FuncData} {N ps : List Str} {k : Nat} {sp : Sp} (F : FunD K x qual (defArgs st) (defBody st) (defScope st) dvs kws f fd) (S : FnScope N ps (defScope st)) (len : ∀ vs H Q E, sp vs H Q E → vs.length = ps.length)
    (hbody : ∀ (cdv : Value) (A : Around) (outer : List Env) (s : Shared) (H : Hp) (vs : List V) (Q : VK) (E : XK), Room k (A.deeper (envOfC qual (defScope st) s.heap.objs.size f cdv)) → sp vs H Q E →
      ∃ t, PSs (cxOf CX0 P w K mg base N qual (defScope st) f cdv A outer s H E).nox (defBody st) t ∧ t { nx := fun _ H' => Q .non H', rt := Q } (L2.start N vs) H) : FnOk P w K mg base CX0 (k + 1) f fd ps sp := by
  obtain ⟨oc, od, dV, kV, doc, pm, an, cdv, ct, osl, rfl, lk, hcd, _, _⟩ := F.ex
  refine fn_of lk hcd S len fun A outer s H vs Q E hr hsp => ?_
  obtain ⟨t, h, q⟩ := hbody cdv A outer s H vs Q E hr hsp
  exact ⟨t, h.nox, q⟩
def spInit (K : PySem.W.Frag) (C : Addr) : Sp := fun vs H Q _ => ∃ (p e dx : Addr), vs = [.ref p, .ref e] ∧ H p = some (.ins C dx []) ∧ SqT K H e [] ∧
  ∀ H' F', ShelfF K C H' p ⟨[], []⟩ F' → (∀ b o, b ≠ p → H b = some o → H' b = some o) → (∀ b, F' b → b = p ∨ H b = none) → Q .non H'
section
variable {P : Program} {w : World} {K : PySem.W.Frag} {mg : Str → Option Value} {base : Heap} {f C : Addr} {fd : FuncData} {dvs : List V} {kws : List (Str × V)}
theorem ok_init (F : FunD K "__init__" "Tables.__init__" (defArgs sInit) (defBody sInit) (defScope sInit) dvs kws f fd) (T : TxtT K mg C) : FnOk P w K mg base CX0 1 f fd ["self", "deeds"] (spInit K C) := by
  refine okFD F scInit (fun vs H Q E h => ?_) (fun cdv A outer s H vs Q E hr h => ?_)
  · obtain ⟨p, e, dx, rfl, _⟩ := h
    rfl
  obtain ⟨p, e, dx, rfl, hp, he, q⟩ := h
  have nd := scInit.nd
  refine ⟨_, pss_cons (ps_fld (pv 0) (pe_lst pa_nil) rfl) (pss_cons (ps_fld (pv 0) pe_dnewK rfl) (pss_cons (ps_fld (pv 0) pe_dnewK rfl) (pss_cons (ps_fld (pv 0) pe_dnewK rfl)
    (pss_one (ps_for PassesOwn.never rfl (pi_tup (pv 1)) (pg_name (i := 2) nd rfl (.inl rfl)) pss_never))))), ?_⟩
  refine ⟨Nat.zero_le _, fun a na => ?_⟩
  have npa : p ≠ a := ne_of_none hp na
  refine ⟨_, rfl, p, C, dx, _, rfl, (upd_ne npa).trans hp, T.cl, T.nD, (by show 0 < 1000; decide), ?_⟩
  have p1 : upd (upd H a (.lst [])) p (.ins C dx (putF "_deeds" (.ref a) [])) p = some (.ins C dx (putF "_deeds" (.ref a) [])) := upd_same
  have a1 : upd (upd H a (.lst [])) p (.ins C dx (putF "_deeds" (.ref a) [])) a = some (.lst []) := by rw [upd_ne npa.symm, upd_same]
  have k1 : ∀ q, q ≠ p → q ≠ a → upd (upd H a (.lst [])) p (.ins C dx (putF "_deeds" (.ref a) [])) q = H q := fun q h1 h2 => by rw [upd_ne h1, upd_ne h2]
  generalize upd (upd H a (.lst [])) p (.ins C dx (putF "_deeds" (.ref a) [])) = H1 at p1 a1 k1 ⊢
  intro b nb
  have npb : p ≠ b := ne_of_none p1 nb
  have nab : a ≠ b := ne_of_none a1 nb
  refine ⟨_, rfl, p, C, dx, _, rfl, (upd_ne npb).trans p1, T.cl, T.nC, (by show 1 < 1000; decide), ?_⟩
  have p2 : upd (upd H1 b (.dK [])) p (.ins C dx (putF "_columns" (.ref b) (putF "_deeds" (.ref a) []))) p = some (.ins C dx (putF "_columns" (.ref b) (putF "_deeds" (.ref a) []))) := upd_same
  have b2 : upd (upd H1 b (.dK [])) p (.ins C dx (putF "_columns" (.ref b) (putF "_deeds" (.ref a) []))) b = some (.dK []) := by rw [upd_ne npb.symm, upd_same]
  have k2 : ∀ q, q ≠ p → q ≠ b → upd (upd H1 b (.dK [])) p (.ins C dx (putF "_columns" (.ref b) (putF "_deeds" (.ref a) []))) q = H1 q := fun q h1 h2 => by rw [upd_ne h1, upd_ne h2]
  generalize upd (upd H1 b (.dK [])) p (.ins C dx (putF "_columns" (.ref b) (putF "_deeds" (.ref a) []))) = H2 at p2 b2 k2 ⊢
  have a2 := (k2 a npa.symm nab).trans a1
  intro c nc
  have npc : p ≠ c := ne_of_none p2 nc
  have nac : a ≠ c := ne_of_none a2 nc
  have nbc : b ≠ c := ne_of_none b2 nc
  refine ⟨_, rfl, p, C, dx, _, rfl, (upd_ne npc).trans p2, T.cl, T.nM, (by show 2 < 1000; decide), ?_⟩
  have p3 : upd (upd H2 c (.dK [])) p (.ins C dx (putF "_made" (.ref c) (putF "_columns" (.ref b) (putF "_deeds" (.ref a) [])))) p = some (.ins C dx (putF "_made" (.ref c) (putF "_columns" (.ref b) (putF "_deeds" (.ref a) [])))) := upd_same
  have c3 : upd (upd H2 c (.dK [])) p (.ins C dx (putF "_made" (.ref c) (putF "_columns" (.ref b) (putF "_deeds" (.ref a) [])))) c = some (.dK []) := by rw [upd_ne npc.symm, upd_same]
  have k3 : ∀ q, q ≠ p → q ≠ c → upd (upd H2 c (.dK [])) p (.ins C dx (putF "_made" (.ref c) (putF "_columns" (.ref b) (putF "_deeds" (.ref a) [])))) q = H2 q := fun q h1 h2 => by rw [upd_ne h1, upd_ne h2]
  generalize upd (upd H2 c (.dK [])) p (.ins C dx (putF "_made" (.ref c) (putF "_columns" (.ref b) (putF "_deeds" (.ref a) [])))) = H3 at p3 c3 k3 ⊢
  have a3 := (k3 a npa.symm nac).trans a2
  have b3 := (k3 b npb.symm nbc).trans b2
  intro d nd'
  have npd : p ≠ d := ne_of_none p3 nd'
  have nad : a ≠ d := ne_of_none a3 nd'
  have nbd : b ≠ d := ne_of_none b3 nd'
  have ncd : c ≠ d := ne_of_none c3 nd'
  refine ⟨_, rfl, p, C, dx, _, rfl, (upd_ne npd).trans p3, T.cl, T.nR, (by show 3 < 1000; decide), ?_⟩
  have p4 : upd (upd H3 d (.dK [])) p (.ins C dx (putF "_rows" (.ref d) (putF "_made" (.ref c) (putF "_columns" (.ref b) (putF "_deeds" (.ref a) []))))) p = some (.ins C dx (sf a b c d)) := by rw [upd_same]; rfl
  have d4 : upd (upd H3 d (.dK [])) p (.ins C dx (putF "_rows" (.ref d) (putF "_made" (.ref c) (putF "_columns" (.ref b) (putF "_deeds" (.ref a) []))))) d = some (.dK []) := by rw [upd_ne npd.symm, upd_same]
  have k4 : ∀ q, q ≠ p → q ≠ d → upd (upd H3 d (.dK [])) p (.ins C dx (putF "_rows" (.ref d) (putF "_made" (.ref c) (putF "_columns" (.ref b) (putF "_deeds" (.ref a) []))))) q = H3 q := fun q h1 h2 => by rw [upd_ne h1, upd_ne h2]
  generalize upd (upd H3 d (.dK [])) p (.ins C dx (putF "_rows" (.ref d) (putF "_made" (.ref c) (putF "_columns" (.ref b) (putF "_deeds" (.ref a) []))))) = H4 at p4 d4 k4 ⊢
  have a4 := (k4 a npa.symm nad).trans a3
  have b4 := (k4 b npb.symm nbd).trans b3
  have c4 := (k4 c npc.symm ncd).trans c3
  have nb0 : H b = none := by rw [← k1 b npb.symm nab.symm]; exact nb
  have nc0 : H c = none := by rw [← k1 c npc.symm nac.symm, ← k2 c npc.symm nbc.symm]; exact nc
  have nd0 : H d = none := by rw [← k1 d npd.symm nad.symm, ← k2 d npd.symm nbd.symm, ← k3 d npd.symm ncd.symm]; exact nd'
  have off : ∀ q o, q ≠ p → H q = some o → H4 q = some o := fun q o n e => by
    rw [k4 q n (ne_of_none e nd0), k3 q n (ne_of_none e nc0), k2 q n (ne_of_none e nb0), k1 q n (ne_of_none e na)]
    exact e
  have he4 : SqT K H4 e [] := by
    rcases he with (z | ⟨o, z⟩) | z
    · exact .inl (.inl (off _ _ (ne_of z hp (fun y => nomatch y)) z))
    · exact .inl (.inr ⟨o, off _ _ (ne_of z hp (fun y => nomatch y)) z⟩)
    · exact .inr z
  refine ⟨_, rfl, e, rfl, ⟨_, he4⟩, ?_⟩
  refine for_it (walk_tup (xs := [])) (fun i σ H' => H' = H4) rfl (fun i σ H' _ z => by rw [z]; exact he4) (fun i x σ H5 H6 hi _ _ => absurd hi (Nat.not_lt_zero _)) ?_
  rintro σ H5 rfl
  refine q H5 (foot p a b c d 0 (fun _ => a)) ⟨dx, a, b, c, d, [], (fun _ => a), (fun _ => a), ⟨p4, a4, .nil, b4, fun i t h => by simp at h, c4, d4, fun i t h => by simp at h, nbc, nbd, ncd, fun i j h => absurd h (Nat.not_lt_zero _), fun i h => absurd h (Nat.not_lt_zero _)⟩, fun r => Iff.rfl⟩ off fun r hr' => ?_
  rcases hr' with z | z | z | z | z | ⟨i, hi, _⟩
  · exact .inl z
  · exact .inr (by rw [z]; exact na)
  · exact .inr (by rw [z]; exact nb0)
  · exact .inr (by rw [z]; exact nc0)
  · exact .inr (by rw [z]; exact nd0)
  · exact absurd hi (Nat.not_lt_zero _)
end
end K20
end

section
set_option Elab.async false
set_option linter.all false
set_option maxRecDepth 100000
set_option maxHeartbeats 4000000
/-! Tables: names. -/
namespace K20
open PySem PySem.Spec PyProof.Rows L2 Gd
theorem pe_fldK (K : PySem.W.Frag) {X : Cx} {e : Expr} {f : Str} {pos : Pos} {ta : TE} (he : PE X e ta) (hb : attributeBase e f X.env (eval e X.env) = eval e X.env := by rfl) (hK : X.K = K := by rfl) : PE X (.Attribute e f pos) (tFld K ta f) := by
  subst hK
  exact pe_fld he hb
/-- the names of a moment, in the order of their making -/
def namesAt (ts : List Tab) (m : Nat) : List Str := (ts.filter fun t => decide (t.made < m)).map Tab.name
def spNames (K : PySem.W.Frag) (C : Addr) : Sp := fun vs H Q _ => ∃ (p : Addr) (x : Shelf) (F : Addr → Prop) (o : Option Nat), vs = [.ref p, momV o] ∧ ShelfF K C H p x F ∧ ShelfOk x ∧
  ∀ H' D (ys : List Str), ys.Perm (namesAt x.tabs (x.mo o)) → sortedS ys = true → Same H H' → H D = none → H' D = some (.lst (ys.map V.str)) → Q (.ref D) H'
theorem namesAt_succ (ts : List Tab) (m k : Nat) (t : Tab) (h : ts[k]? = some t) : namesAt (ts.take (k + 1)) m = if t.made < m then namesAt (ts.take k) m ++ [t.name] else namesAt (ts.take k) m := by
  unfold namesAt
  rw [List.take_add_one, h]
  show List.map _ (List.filter _ (ts.take k ++ [t])) = _
  rw [List.filter_append, List.map_append]
  by_cases z : t.made < m
  · rw [if_pos z]
    simp [z]
  · rw [if_neg z]
    simp [z]
section
variable {P : Program} {w : World} {K : PySem.W.Frag} {mg : Str → Option Value} {base : Heap} {f pS C : Addr} {fd : FuncData}
theorem ok_names (F : FunD K "names" "Tables.names" (defArgs sNames) (defBody sNames) (defScope sNames) [] [("moment", .non)] f fd) (T : TxtT K mg C) (N : Cs K mg pS) : FnOk P w K mg base CX0 1 f fd ["self", "moment"] (spNames K C) := by
  refine okFD F scNames (fun vs H Q E h => ?_) (fun cdv A outer s H vs Q E hr h => ?_)
  · obtain ⟨p, x, F, o, rfl, _⟩ := h
    rfl
  obtain ⟨p, x, FF, o, rfl, hS, ok, q⟩ := h
  have nd := scNames.nd
  have hu := hu_of hr
  refine ⟨_, C8.pss_cut (ps_set (i := 2) nd rfl (by first | exact .inl rfl | exact .inr rfl) (pe_ifExp (pt_cmpR op_isN (pv 1) pe_non (nomark _)) (pe_callB call_len_seq (by rfl) N.len PySem.boot_len (pa_cons (pe_fld (pv 0) rfl) pa_nil)) (pv 1)))
    (pss_one (ps_ret (pe_callB cr_sortedS (by rfl) T.so (by decide +kernel) (pa_cons (pe_lock (pe_lc (own := [("name", 3)]) (g := gName 3) rfl nd (pi_keys (pe_fld (pv 0) rfl)) (blkOk_by (N := nNames) (sc := defScope sNames) (by decide +kernel)) (fun _ _ _ _ _ => pg_name (i := 3) nd rfl (Or.inl rfl))
      (fun _ _ _ _ _ => pts_one (pt_cmpR op_lt (pe_dget hu (pe_fldK K (pv 0)) (pv 3) (fun _ _ => rfl)) (pv 2) (nomark _))) (fun _ _ _ _ _ => pv 3))) pa_nil)))), ?_⟩
  obtain ⟨dx, a, b, c, d, ds, ca, rl, S, hF⟩ := hS
  have lds : ds.length = x.deeds.length := S.deed.length
  refine ⟨fun σ' H' => H' = H ∧ σ' = [some (.ref p), some (momV o), some (.int (x.mo o)), none], ?_, ?_⟩
  · cases o with
    | none =>
      refine ⟨_, rfl, rfl, _, rfl, iteT' (decide_eq_true rfl) ?_⟩
      refine ⟨_, rfl, p, C, dx, _, _, rfl, S.ins, T.cl, T.nD, sf_d, a, _, rfl, .inl (SqL.of S.deeds), rfl, ?_⟩
      rw [lds]
      rfl
    | some m =>
      refine ⟨_, rfl, rfl, _, rfl, iteF' (by rw [decide_eq_true_eq]; exact fun z => nomatch z) ?_⟩
      exact ⟨_, rfl, rfl, rfl⟩
  rintro σ' H' ⟨rfl, rfl⟩
  generalize hm : x.mo o = m at q ⊢
  have npc : p ≠ c := ne_of S.ins S.made (fun z => nomatch z)
  refine ⟨c, _, S.made, trivial, fun od => ?_⟩
  have eL : upd H' c (.frz od (.dK (madeK x.tabs))) c = some (.frz od (.dK (madeK x.tabs))) := upd_same
  have oL : ∀ q o, q ≠ c → H' q = some o → upd H' c (.frz od (.dK (madeK x.tabs))) q = some o := fun q o n e => by rw [upd_ne n]; exact e
  have fL : ∀ q, upd H' c (.frz od (.dK (madeK x.tabs))) q = none → q ≠ c ∧ H' q = none := fun q e => by
    have n : q ≠ c := fun z => by rw [z, upd_same] at e; cases e
    rw [upd_ne n] at e
    exact ⟨n, e⟩
  generalize upd H' c (.frz od (.dK (madeK x.tabs))) = HL at eL oL fL ⊢
  refine ⟨_, rfl, p, C, dx, _, _, rfl, oL _ _ npc S.ins, T.cl, T.nM, sf_m, c, od, rfl, .inl ⟨_, eL, fun D nD => ?_⟩⟩
  obtain ⟨nDc, nD0⟩ := fL D nD
  have lmade : (madeK x.tabs).length = x.tabs.length := by unfold madeK; rw [List.length_map]
  refine lc_it walk_keys (fun k H5 => H5 c = some (.frz od (.dK (madeK x.tabs))) ∧ (∀ q o, q ≠ c → H' q = some o → H5 q = some o) ∧ H5 D = some (.lst ((namesAt (x.tabs.take k) m).map V.str)))
    ⟨by rw [upd_ne nDc.symm]; exact eL, fun q o n e => by rw [upd_ne (ne_of_none e nD0)]; exact oL q o n e, upd_same⟩ (fun k H5 _ h => h.1) ?_ ?_
  · rintro k y H5 H6 hk ⟨hc, ho, hD⟩ ⟨rfl, ky, v, ek, rfl⟩
    rw [lmade] at hk
    have ht : x.tabs[k]? = some x.tabs[k] := List.getElem?_eq_getElem hk
    have ek2 : (ky, v) = ((.inr x.tabs[k].name : Key), V.int (x.tabs[k].made : Nat)) := by
      unfold madeK at ek
      rw [List.getElem?_map, ht] at ek
      exact (Option.some.inj ek).symm
    cases ek2
    have g1 : DGet H6 c (.str x.tabs[k].name) (some (.int (x.tabs[k].made : Nat))) := .inl ⟨_, .inr x.tabs[k].name, .inr ⟨od, hc⟩, rfl, (valV_made x.tabs k _ ok.nd ht).symm⟩
    refine ⟨rfl, ?_⟩
    refine ⟨_, rfl, p, C, dx, _, _, rfl, ho _ _ npc S.ins, T.cl, T.nM, sf_m, _, rfl, c, _, rfl, g1, _, rfl, _, _, rfl, rfl, _, rfl, ?_⟩
    rw [namesAt_succ x.tabs m k _ ht]
    by_cases z : x.tabs[k].made < m
    · rw [if_pos z]
      refine iteT' (decide_eq_true (by omega)) ?_
      have l6 := ok.tabs
      refine ⟨_, rfl, _, hD, ?_, by rw [upd_ne nDc.symm]; exact hc, fun q o n e => by rw [upd_ne (ne_of_none e nD0)]; exact ho q o n e, by rw [upd_same, List.map_append]; rfl⟩
      rw [List.length_map, sizeLine_eq]
      unfold namesAt
      have h1 := List.length_filter_le (fun t : Tab => decide (t.made < m)) (x.tabs.take k)
      rw [List.length_map]
      rw [List.length_take] at h1
      omega
    · rw [if_neg z]
      exact iteF' (by rw [decide_eq_true_eq]; omega) ⟨hc, ho, hD⟩
  rintro H5 ⟨hc, ho, hD⟩
  rw [lmade, List.take_length] at hD
  refine ⟨hc, ?_⟩
  have D5 : upd H5 c (.dK (madeK x.tabs)) D = some (.lst ((namesAt x.tabs m).map V.str)) := by rw [upd_ne nDc]; exact hD
  have s5 : Same H' (upd H5 c (.dK (madeK x.tabs))) := fun q o e => by
    by_cases n : q = c
    · rw [n] at e ⊢
      rw [upd_same, ← S.made, e]
    · rw [upd_ne n]
      exact ho q o n e
  refine ⟨D, _, rfl, SqL.of D5, ?_, fun ys r py sy nr => q _ r ys py sy (s5.trans (new_same nr)) (s5.free nr) upd_same⟩
  unfold namesAt
  have l6 := ok.tabs
  have h1 := List.length_filter_le (fun t : Tab => decide (t.made < m)) x.tabs
  rw [List.length_map]
  omega
end
end K20
end

section
set_option Elab.async false
set_option linter.all false
set_option maxRecDepth 100000
set_option maxHeartbeats 4000000
/-! Tables: what a deed keeps well made. -/
namespace K20
open PySem PySem.Spec PyProof.Rows L2 Gd
theorem onRows_names (x : Shelf) (n : Str) (g : List Rw → List Rw) : (x.onRows n g).tabs.map Tab.name = x.tabs.map Tab.name := by
  show (x.tabs.map (onTab n fun t => { t with rows := g t.rows })).map Tab.name = _
  rw [List.map_map]
  exact List.map_congr_left fun t _ => (onTab_same n g t).1
theorem onRows_mem {x : Shelf} {n : Str} {g : List Rw → List Rw} {u : Tab} (h : u ∈ (x.onRows n g).tabs) : ∃ t ∈ x.tabs, u.name = t.name ∧ u.cols = t.cols ∧ u.made = t.made ∧ ((t.name ≠ n ∧ u.rows = t.rows) ∨ (t.name = n ∧ u.rows = g t.rows)) := by
  obtain ⟨t, ht, e⟩ := List.mem_map.mp (show u ∈ x.tabs.map (onTab n fun t => { t with rows := g t.rows }) from h)
  refine ⟨t, ht, ?_⟩
  obtain ⟨a1, a2, a3⟩ := onTab_same n g t
  rw [← e]
  refine ⟨a1, a2, a3, ?_⟩
  unfold onTab
  by_cases z : t.name = n
  · rw [if_pos z]
    exact .inr ⟨z, rfl⟩
  · rw [if_neg z]
    exact .inl ⟨z, rfl⟩
theorem tab_one {x : Shelf} (nd : (x.tabs.map Tab.name).Nodup) {i : Nat} {t u : Tab} (hi : x.tabs[i]? = some t) (hu : u ∈ x.tabs) (e : u.name = t.name) : u = t := by
  obtain ⟨j, hj⟩ := List.mem_iff_getElem?.mp hu
  have := name_inj nd hj hi e
  rw [this, hi] at hj
  exact (Option.some.inj hj).symm
theorem ok_on {x : Shelf} (ok : ShelfOk x) {ds : List Deed} (hl : ds.length ≤ 4000) (n : Str) (g : List Rw → List Rw) (h1 : ∀ t ∈ x.tabs, t.name = n → (g t.rows).length ≤ 60) (h2 : ∀ t ∈ x.tabs, t.name = n → ∀ r ∈ g t.rows, r.ws.length ≤ 1000) : ShelfOk ⟨ds, (x.onRows n g).tabs⟩ := by
  refine ⟨by rw [onRows_names]; exact ok.nd, fun u hu => ?_, hl, by show (x.onRows n g).tabs.length ≤ 6; rw [show (x.onRows n g).tabs.length = x.tabs.length from List.length_map _]; exact ok.tabs, fun u hu => ?_, fun u hu => ?_⟩
  · obtain ⟨t, ht, e1, _⟩ := onRows_mem hu
    rw [e1]
    exact ok.lab t ht
  · obtain ⟨t, ht, _, _, _, (⟨_, e⟩ | ⟨en, e⟩)⟩ := onRows_mem hu
    · rw [e]
      exact ok.rows t ht
    · rw [e]
      exact h1 t ht en
  · obtain ⟨t, ht, _, _, _, (⟨_, e⟩ | ⟨en, e⟩)⟩ := onRows_mem hu
    · rw [e]
      exact ok.ws t ht
    · rw [e]
      exact h2 t ht en
/-- a deed keeps all well made -/
theorem ShelfOk.next {x y : Shelf} {d : Deed} (ok : ShelfOk x) (dok : DeedOk d) (can : Can x d y) (h : x.deeds.length < 4000) : ShelfOk { y with deeds := x.deeds ++ [d] } := by
  have hl : (x.deeds ++ [d]).length ≤ 4000 := by
    rw [List.length_append, List.length_singleton]
    omega
  cases d with
  | table n cs =>
    obtain ⟨c1, c2, rfl⟩ := can
    refine ⟨?_, fun t ht => ?_, hl, ?_, fun t ht => ?_, fun t ht => ?_⟩
    · show ((x.tabs ++ [(⟨n, cs, x.deeds.length, []⟩ : Tab)]).map Tab.name).Nodup
      rw [List.map_append]
      refine List.nodup_append.mpr ⟨ok.nd, by simp, fun a ha b hb e => ?_⟩
      have hb : b = n := by simpa using hb
      rw [e, hb] at ha
      exact c1 ha
    · rcases List.mem_append.mp (show t ∈ x.tabs ++ [(⟨n, cs, x.deeds.length, []⟩ : Tab)] from ht) with m | m
      · exact ok.lab t m
      · rw [List.mem_singleton.mp m]
        exact dok.1
    · show (x.tabs ++ [(⟨n, cs, x.deeds.length, []⟩ : Tab)]).length ≤ 6
      rw [List.length_append, List.length_singleton]
      omega
    · rcases List.mem_append.mp (show t ∈ x.tabs ++ [(⟨n, cs, x.deeds.length, []⟩ : Tab)] from ht) with m | m
      · exact ok.rows t m
      · rw [List.mem_singleton.mp m]
        exact Nat.zero_le _
    · rcases List.mem_append.mp (show t ∈ x.tabs ++ [(⟨n, cs, x.deeds.length, []⟩ : Tab)] from ht) with m | m
      · exact ok.ws t m
      · rw [List.mem_singleton.mp m]
        exact fun r hr => absurd hr (by simp)
  | row n ws =>
    obtain ⟨i, t0, h0, rfl, h60, hw, rfl⟩ := can
    refine ok_on ok hl t0.name _ (fun t ht en => ?_) fun t ht en r hr => ?_
    · rw [tab_one ok.nd h0 ht en, List.length_append, List.length_singleton]
      omega
    · rcases List.mem_append.mp hr with m | m
      · exact ok.ws t ht r m
      · rw [List.mem_singleton.mp m]
        exact dok.2.2
  | out n k =>
    obtain ⟨i, t0, r0, h0, rfl, hk, ho, rfl⟩ := can
    refine ok_on ok hl t0.name _ (fun t ht en => ?_) fun t ht en r hr => ?_
    · rw [List.length_set]
      exact ok.rows t ht
    · rcases List.mem_or_eq_of_mem_set hr with m | m
      · exact ok.ws t ht r m
      · rw [m]
        exact ok.ws t0 (List.mem_of_getElem? h0) r0 (List.mem_of_getElem? hk)
end K20
end

section
set_option Elab.async false
set_option linter.all false
set_option maxRecDepth 100000
set_option maxHeartbeats 4000000
/-! the law's model of tables: a dict of tuples of columns, a list of rows, each a list, and the moment; a deed goes into it. -/
namespace K20
open PySem PySem.Spec PyProof.Rows L2 Gd
def outW : Option Nat → V
  | none => .non
  | some o => .int ((o + 1 : Nat) : Int)
def mRow (r : Rw) (b : Addr) : List V := [.ref b, outW r.out, .int ((r.put + 1 : Nat) : Int)]
structure ModAt (K : PySem.W.Frag) (H : Hp) (M : Addr) (ts : List Tab) (mt ml : Nat → Addr) (mr : Nat → Nat → Addr) : Prop where
  dict : H M = some (.dK (colsK ts mt))
  tup : ∀ i t, ts[i]? = some t → ∃ ca, SqT K H (mt i) [.ref ca, .ref (ml i), .int ((t.made + 1 : Nat) : Int)] ∧ SqT K H ca (t.cols.map V.str)
  lst : ∀ i t, ts[i]? = some t → H (ml i) = some (.lst ((List.range t.rows.length).map fun k => V.ref (mr i k)))
  row : ∀ i t k r, ts[i]? = some t → t.rows[k]? = some r → ∃ b, H (mr i k) = some (.lst (mRow r b)) ∧ SqT K H b (r.ws.map V.int)
  apL : ∀ i j, i < ts.length → j < ts.length → ml i = ml j → i = j
  apR : ∀ i k j m t u, ts[i]? = some t → ts[j]? = some u → k < t.rows.length → m < u.rows.length → mr i k = mr j m → i = j ∧ k = m
  apX : ∀ i j k t, i < ts.length → ts[j]? = some t → k < t.rows.length → ml i ≠ mr j k
def mfoot (M : Addr) (ts : List Tab) (ml : Nat → Addr) (mr : Nat → Nat → Addr) (q : Addr) : Prop := q = M ∨ (∃ i, i < ts.length ∧ q = ml i) ∨ ∃ i t k, ts[i]? = some t ∧ k < t.rows.length ∧ q = mr i k
def ModF (K : PySem.W.Frag) (H : Hp) (M : Addr) (ts : List Tab) (G : Addr → Prop) : Prop := ∃ mt ml mr, ModAt K H M ts mt ml mr ∧ ∀ q, G q ↔ mfoot M ts ml mr q
section
variable {K : PySem.W.Frag} {H H' : Hp} {M : Addr} {ts : List Tab} {mt ml : Nat → Addr} {mr : Nat → Nat → Addr} {G : Addr → Prop}
theorem ModF.keep (h : ModF K H M ts G) (t : Tups K H H') (k : ∀ b o, G b → H b = some o → H' b = some o) : ModF K H' M ts G := by
  obtain ⟨mt, ml, mr, S, hG⟩ := h
  refine ⟨mt, ml, mr, ⟨k _ _ ((hG _).mpr (.inl rfl)) S.dict, fun i t0 e => ?_, fun i t0 e => ?_, fun i t0 j r e1 e2 => ?_, S.apL, S.apR, S.apX⟩, hG⟩
  · obtain ⟨ca, h1, h2⟩ := S.tup i t0 e
    exact ⟨ca, t _ _ h1, t _ _ h2⟩
  · exact k _ _ ((hG _).mpr (.inr (.inl ⟨i, (List.getElem?_eq_some_iff.mp e).1, rfl⟩))) (S.lst i t0 e)
  · obtain ⟨b, h1, h2⟩ := S.row i t0 j r e1 e2
    exact ⟨b, k _ _ ((hG _).mpr (.inr (.inr ⟨i, t0, j, e1, (List.getElem?_eq_some_iff.mp e2).1, rfl⟩))) h1, t _ _ h2⟩
theorem ModF.same (h : ModF K H M ts G) (s : Same H H') : ModF K H' M ts G := h.keep (Tups.of_same s) fun b o _ e => s b o e
theorem ModF.kind (h : ModF K H M ts G) {q : Addr} (hq : G q) : (∃ xs, H q = some (.lst xs)) ∨ ∃ kvs, H q = some (.dK kvs) := by
  obtain ⟨mt, ml, mr, S, hG⟩ := h
  rcases (hG q).mp hq with rfl | ⟨i, hi, rfl⟩ | ⟨i, t, k, e1, e2, rfl⟩
  · exact .inr ⟨_, S.dict⟩
  · exact .inl ⟨_, S.lst i _ (List.getElem?_eq_getElem hi)⟩
  · obtain ⟨b, e, _⟩ := S.row i t k _ e1 (List.getElem?_eq_getElem e2)
    exact .inl ⟨_, e⟩
theorem ModF.here (h : ModF K H M ts G) {q : Addr} (hq : G q) : ∃ o, H q = some o := by
  rcases h.kind hq with ⟨xs, e⟩ | ⟨kvs, e⟩
  · exact ⟨_, e⟩
  · exact ⟨_, e⟩
theorem ModF.self (h : ModF K H M ts G) : G M := by
  obtain ⟨mt, ml, mr, S, hG⟩ := h
  exact (hG M).mpr (.inl rfl)
theorem ModF.tups (h : ModF K H M ts G) {G' : Addr → Prop} (a : After H G H' G') : Tups K H H' := by
  refine tups_off fun q o e n1 n2 n3 => a.off q o (fun hq => ?_) e
  rcases h.kind hq with ⟨xs, z⟩ | ⟨kvs, z⟩
  · rw [e] at z
    exact n2 _ (Option.some.inj z)
  · rw [e] at z
    exact n1 _ (Option.some.inj z)
end
theorem snoc_at {α : Type} {ts : List α} {t u : α} {j : Nat} (e : (ts ++ [t])[j]? = some u) : (j < ts.length ∧ ts[j]? = some u) ∨ (j = ts.length ∧ u = t) := by
  have l : j < (ts ++ [t]).length := (List.getElem?_eq_some_iff.mp e).1
  rw [List.length_append, List.length_singleton] at l
  by_cases h : j < ts.length
  · rw [List.getElem?_append_left h] at e
    exact .inl ⟨h, e⟩
  · have h : j = ts.length := by omega
    subst h
    rw [List.getElem?_append_right (Nat.le_refl _), Nat.sub_self] at e
    exact .inr ⟨rfl, (Option.some.inj e).symm⟩
theorem on_at {x : Shelf} (nd : (x.tabs.map Tab.name).Nodup) {i : Nat} {t : Tab} (ht : x.tabs[i]? = some t) (g : List Rw → List Rw) {j : Nat} {u : Tab} (e : (x.onRows t.name g).tabs[j]? = some u) :
    (j = i ∧ u = { t with rows := g t.rows }) ∨ (j ≠ i ∧ x.tabs[j]? = some u) := by
  have e : (x.tabs.map (onTab t.name fun t => { t with rows := g t.rows }))[j]? = some u := e
  rw [List.getElem?_map, Option.map_eq_some_iff] at e
  obtain ⟨t0, z, rfl⟩ := e
  by_cases ij : j = i
  · subst ij
    rw [ht] at z
    cases z
    refine .inl ⟨rfl, ?_⟩
    unfold onTab
    rw [if_pos rfl]
  · refine .inr ⟨ij, ?_⟩
    unfold onTab
    rw [if_neg (fun y => ij (name_inj nd z ht y))]
    exact z
section
variable {K : PySem.W.Frag} {H H' : Hp} {M : Addr} {x : Shelf} {mt ml : Nat → Addr} {mr : Nat → Nat → Addr} {G : Addr → Prop}
/-- a table more -/
theorem ModAt.table (S : ModAt K H M x.tabs mt ml mr) {t : Tab} (tr : t.rows = []) {q1 q2 ca : Addr} (n1 : H q1 = none) (dM : H' M = some (.dK (colsK (x.tabs ++ [t]) fun i => if i = x.tabs.length then q2 else mt i)))
    (e1 : H' q1 = some (.lst [])) (e2 : SqT K H' q2 [.ref ca, .ref q1, .int ((t.made + 1 : Nat) : Int)]) (e3 : SqT K H' ca (t.cols.map V.str)) (kp : ∀ b o, b ≠ M → H b = some o → H' b = some o) :
    ModAt K H' M (x.tabs ++ [t]) (fun i => if i = x.tabs.length then q2 else mt i) (fun i => if i = x.tabs.length then q1 else ml i) mr := by
  have tp : Tups K H H' := tups_off fun q o e a1 a2 a3 => kp q o (fun z => by rw [z, S.dict] at e; exact a1 _ (Option.some.inj e).symm) e
  have nl : ∀ i t0, x.tabs[i]? = some t0 → ml i ≠ q1 := fun i t0 e z => by
    have := S.lst i t0 e
    rw [z, n1] at this
    cases this
  refine ⟨dM, fun i t0 e => ?_, fun i t0 e => ?_, fun i t0 k r h1 h2 => ?_, fun i j hi hj e => ?_, fun i k j m t0 u h1 h2 h3 h4 e => ?_, fun i j k t0 hi h1 h2 e => ?_⟩
  · rcases snoc_at e with ⟨l, z⟩ | ⟨l, z⟩
    · obtain ⟨c0, h1, h2⟩ := S.tup i t0 z
      refine ⟨c0, ?_, tp _ _ h2⟩
      simp only [if_neg (Nat.ne_of_lt l)]
      exact tp _ _ h1
    · subst l z
      simp only [if_pos rfl]
      exact ⟨ca, e2, e3⟩
  · rcases snoc_at e with ⟨l, z⟩ | ⟨l, z⟩
    · simp only [if_neg (Nat.ne_of_lt l)]
      exact kp _ _ (ne_of (S.lst i t0 z) S.dict (fun y => nomatch y)) (S.lst i t0 z)
    · subst l z
      simp only [if_pos rfl]
      rw [tr]
      exact e1
  · rcases snoc_at h1 with ⟨l, z⟩ | ⟨l, z⟩
    · obtain ⟨b, f1, f2⟩ := S.row i t0 k r z h2
      exact ⟨b, kp _ _ (ne_of f1 S.dict (fun y => nomatch y)) f1, tp _ _ f2⟩
    · subst l z
      rw [tr] at h2
      simp at h2
  · rw [List.length_append, List.length_singleton] at hi hj
    by_cases a : i = x.tabs.length
    · by_cases b : j = x.tabs.length
      · omega
      · rw [if_pos a, if_neg b] at e
        exact absurd e.symm (nl j _ (List.getElem?_eq_getElem (by omega)))
    · by_cases b : j = x.tabs.length
      · rw [if_neg a, if_pos b] at e
        exact absurd e (nl i _ (List.getElem?_eq_getElem (by omega)))
      · rw [if_neg a, if_neg b] at e
        exact S.apL i j (by omega) (by omega) e
  · rcases snoc_at h1 with ⟨l1, z1⟩ | ⟨l1, z1⟩
    · rcases snoc_at h2 with ⟨l2, z2⟩ | ⟨l2, z2⟩
      · exact S.apR i k j m t0 u z1 z2 h3 h4 e
      · subst z2
        rw [tr] at h4
        cases h4
    · subst z1
      rw [tr] at h3
      cases h3
  · rcases snoc_at h1 with ⟨l1, z1⟩ | ⟨l1, z1⟩
    · obtain ⟨b, f1, _⟩ := S.row j t0 k _ z1 (List.getElem?_eq_getElem h2)
      rw [List.length_append, List.length_singleton] at hi
      by_cases a : i = x.tabs.length
      · rw [if_pos a] at e
        rw [← e, n1] at f1
        cases f1
      · rw [if_neg a] at e
        exact S.apX i j k t0 (by omega) z1 h2 e
    · subst z1
      rw [tr] at h2
      cases h2
/-- a row more -/
theorem ModAt.put (S : ModAt K H M x.tabs mt ml mr) (nd : (x.tabs.map Tab.name).Nodup) {i : Nat} {t : Tab} (ht : x.tabs[i]? = some t) (r : Rw) {q b : Addr} (nq : H q = none) (eq : H' q = some (.lst (mRow r b))) (eb : SqT K H' b (r.ws.map V.int))
    (el : H' (ml i) = some (.lst ((List.range t.rows.length).map (fun k => V.ref (mr i k)) ++ [.ref q]))) (kp : ∀ b o, b ≠ ml i → H b = some o → H' b = some o) :
    ModAt K H' M (x.onRows t.name fun rs => rs ++ [r]).tabs mt ml (fun j k => if j = i ∧ k = t.rows.length then q else mr j k) := by
  have li : i < x.tabs.length := (List.getElem?_eq_some_iff.mp ht).1
  have L0 := S.lst i t ht
  have tp : Tups K H H' := tups_off fun q o e a1 a2 a3 => kp q o (fun z => by rw [z, L0] at e; exact a2 _ (Option.some.inj e).symm) e
  have ln : (x.onRows t.name fun rs => rs ++ [r]).tabs.length = x.tabs.length := List.length_map _
  have nr : ∀ j u k, x.tabs[j]? = some u → k < u.rows.length → mr j k ≠ q := fun j u k e l z => by
    obtain ⟨b, f1, _⟩ := S.row j u k _ e (List.getElem?_eq_getElem l)
    rw [z, nq] at f1
    cases f1
  have old : ∀ j u k, (x.onRows t.name fun rs => rs ++ [r]).tabs[j]? = some u → k < u.rows.length → (j = i ∧ k = t.rows.length ∧ u.rows[k]? = some r) ∨ (¬ (j = i ∧ k = t.rows.length) ∧ ∃ u0, x.tabs[j]? = some u0 ∧ k < u0.rows.length ∧ u.rows[k]? = u0.rows[k]?) := fun j u k e l => by
    rcases on_at nd ht _ e with ⟨rfl, rfl⟩ | ⟨n, z⟩
    · have l : k < (t.rows ++ [r]).length := l
      rw [List.length_append, List.length_singleton] at l
      by_cases kk : k = t.rows.length
      · refine .inl ⟨rfl, kk, ?_⟩
        show (t.rows ++ [r])[k]? = some r
        rw [kk, List.getElem?_append_right (Nat.le_refl _), Nat.sub_self]
        rfl
      · refine .inr ⟨fun y => kk y.2, t, ht, by omega, ?_⟩
        show (t.rows ++ [r])[k]? = _
        rw [List.getElem?_append_left (by omega)]
    · exact .inr ⟨fun y => n y.1, u, z, l, rfl⟩
  have len : ∀ j u, (x.onRows t.name fun rs => rs ++ [r]).tabs[j]? = some u → j < x.tabs.length := fun j u e => by rw [← ln]; exact (List.getElem?_eq_some_iff.mp e).1
  refine ⟨?_, fun j u e => ?_, fun j u e => ?_, fun j u k r0 h1 h2 => ?_, fun j1 j2 h1 h2 e => S.apL j1 j2 (by rw [← ln]; exact h1) (by rw [← ln]; exact h2) e, fun j k j2 m u v h1 h2 h3 h4 e => ?_, fun j j2 k u hj h1 h2 e => ?_⟩
  · rw [show colsK (x.onRows t.name fun rs => rs ++ [r]).tabs mt = colsK x.tabs mt from colsK_on t.name (fun rs => rs ++ [r]) x.tabs mt]
    exact kp _ _ (ne_of S.dict L0 (fun y => nomatch y)) S.dict
  · rcases on_at nd ht _ e with ⟨rfl, rfl⟩ | ⟨n, z⟩
    · obtain ⟨ca, f1, f2⟩ := S.tup j t ht
      exact ⟨ca, tp _ _ f1, tp _ _ f2⟩
    · obtain ⟨ca, f1, f2⟩ := S.tup j u z
      exact ⟨ca, tp _ _ f1, tp _ _ f2⟩
  · rcases on_at nd ht _ e with ⟨rfl, rfl⟩ | ⟨n, z⟩
    · rw [el]
      show some (HO.lst _) = some (.lst ((List.range (t.rows ++ [r]).length).map _))
      rw [List.length_append, List.length_singleton, List.range_succ, List.map_append]
      congr 3
      · refine List.map_congr_left fun k hk => ?_
        rw [List.mem_range] at hk
        rw [if_neg (fun y => by omega)]
      · simp
    · have lj := (List.getElem?_eq_some_iff.mp z).1
      rw [kp _ _ (fun y => n (S.apL j i lj li y)) (S.lst j u z)]
      congr 2
      refine List.map_congr_left fun k hk => ?_
      rw [if_neg (fun y => n y.1)]
  · have lk := (List.getElem?_eq_some_iff.mp h2).1
    rcases old j u k h1 lk with ⟨a1, a2, a3⟩ | ⟨a1, u0, a2, a3, a4⟩
    · rw [a3] at h2
      cases h2
      simp only [if_pos (show j = i ∧ k = t.rows.length from ⟨a1, a2⟩)]
      exact ⟨b, eq, eb⟩
    · rw [a4] at h2
      obtain ⟨b0, f1, f2⟩ := S.row j u0 k r0 a2 h2
      simp only [if_neg a1]
      exact ⟨b0, kp _ _ (fun y => S.apX i j k u0 li a2 a3 y.symm) f1, tp _ _ f2⟩
  · rcases old j u k h1 h3 with ⟨a1, a2, a3⟩ | ⟨a1, u0, a2, a3, a4⟩
    · rcases old j2 v m h2 h4 with ⟨b1, b2, b3⟩ | ⟨b1, v0, b2, b3, b4⟩
      · exact ⟨a1.trans b1.symm, a2.trans b2.symm⟩
      · simp only [if_pos (show j = i ∧ k = t.rows.length from ⟨a1, a2⟩), if_neg b1] at e
        exact absurd e.symm (nr j2 v0 m b2 b3)
    · rcases old j2 v m h2 h4 with ⟨b1, b2, b3⟩ | ⟨b1, v0, b2, b3, b4⟩
      · simp only [if_neg a1, if_pos (show j2 = i ∧ m = t.rows.length from ⟨b1, b2⟩)] at e
        exact absurd e (nr j u0 k a2 a3)
      · simp only [if_neg a1, if_neg b1] at e
        exact S.apR j k j2 m u0 v0 a2 b2 a3 b3 e
  · rw [ln] at hj
    rcases old j2 u k h1 h2 with ⟨a1, a2, a3⟩ | ⟨a1, u0, a2, a3, a4⟩
    · simp only [if_pos (show j2 = i ∧ k = t.rows.length from ⟨a1, a2⟩)] at e
      have := S.lst j _ (List.getElem?_eq_getElem hj)
      rw [e, nq] at this
      cases this
    · simp only [if_neg a1] at e
      exact S.apX j j2 k u0 hj a2 a3 e
/-- a row changed -/
theorem ModAt.out (S : ModAt K H M x.tabs mt ml mr) (nd : (x.tabs.map Tab.name).Nodup) {i k : Nat} {t : Tab} (ht : x.tabs[i]? = some t) (lk : k < t.rows.length) (r : Rw) {b : Addr} (eq : H' (mr i k) = some (.lst (mRow r b))) (eb : SqT K H' b (r.ws.map V.int))
    (kp : ∀ b o, b ≠ mr i k → H b = some o → H' b = some o) : ModAt K H' M (x.onRows t.name fun rs => rs.set k r).tabs mt ml mr := by
  have li : i < x.tabs.length := (List.getElem?_eq_some_iff.mp ht).1
  obtain ⟨b0, L0, _⟩ := S.row i t k _ ht (List.getElem?_eq_getElem lk)
  have tp : Tups K H H' := tups_off fun q o e a1 a2 a3 => kp q o (fun z => by rw [z, L0] at e; exact a2 _ (Option.some.inj e).symm) e
  have ln : (x.onRows t.name fun rs => rs.set k r).tabs.length = x.tabs.length := List.length_map _
  have old : ∀ j u, (x.onRows t.name fun rs => rs.set k r).tabs[j]? = some u → ∃ u0, x.tabs[j]? = some u0 ∧ u.cols = u0.cols ∧ u.made = u0.made ∧ u.rows.length = u0.rows.length ∧ (∀ m, ¬ (j = i ∧ m = k) → u.rows[m]? = u0.rows[m]?) ∧ (j = i → u.rows[k]? = some r) := fun j u e => by
    rcases on_at nd ht _ e with ⟨rfl, rfl⟩ | ⟨n, z⟩
    · refine ⟨t, ht, rfl, rfl, List.length_set, fun m hm => ?_, fun _ => ?_⟩
      · show (t.rows.set k r)[m]? = _
        rw [List.getElem?_set_ne (fun y => hm ⟨rfl, y.symm⟩)]
      · show (t.rows.set k r)[k]? = _
        rw [List.getElem?_set_self lk]
    · exact ⟨u, z, rfl, rfl, rfl, fun _ _ => rfl, fun y => absurd y n⟩
  refine ⟨?_, fun j u e => ?_, fun j u e => ?_, fun j u m r0 h1 h2 => ?_, fun j1 j2 h1 h2 e => S.apL j1 j2 (by rw [← ln]; exact h1) (by rw [← ln]; exact h2) e, fun j m j2 m2 u v h1 h2 h3 h4 e => ?_, fun j j2 m u hj h1 h2 e => ?_⟩
  · rw [show colsK (x.onRows t.name fun rs => rs.set k r).tabs mt = colsK x.tabs mt from colsK_on t.name (fun rs => rs.set k r) x.tabs mt]
    exact kp _ _ (ne_of S.dict L0 (fun y => nomatch y)) S.dict
  · obtain ⟨u0, a1, a2, a3, _⟩ := old j u e
    obtain ⟨ca, f1, f2⟩ := S.tup j u0 a1
    rw [a2, a3]
    exact ⟨ca, tp _ _ f1, tp _ _ f2⟩
  · obtain ⟨u0, a1, a2, a3, a4, _⟩ := old j u e
    rw [a4]
    exact kp _ _ (fun y => S.apX j i k t (List.getElem?_eq_some_iff.mp a1).1 ht lk y) (S.lst j u0 a1)
  · obtain ⟨u0, a1, a2, a3, a4, a5, a6⟩ := old j u h1
    by_cases z : j = i ∧ m = k
    · obtain ⟨rfl, rfl⟩ := z
      rw [a6 rfl] at h2
      cases h2
      exact ⟨b, eq, eb⟩
    · have lm : m < u0.rows.length := by rw [← a4]; exact (List.getElem?_eq_some_iff.mp h2).1
      rw [a5 m z] at h2
      obtain ⟨b1, f1, f2⟩ := S.row j u0 m r0 a1 h2
      exact ⟨b1, kp _ _ (fun y => z (S.apR j m i k u0 t a1 ht lm lk y)) f1, tp _ _ f2⟩
  · obtain ⟨u0, a1, _, _, a4, _⟩ := old j u h1
    obtain ⟨v0, b1, _, _, b4, _⟩ := old j2 v h2
    exact S.apR j m j2 m2 u0 v0 a1 b1 (by rw [← a4]; exact h3) (by rw [← b4]; exact h4) e
  · obtain ⟨u0, a1, _, _, a4, _⟩ := old j2 u h1
    exact S.apX j j2 m u0 (by rw [← ln]; exact hj) a1 (by rw [← a4]; exact h2) e
end
end K20
end

section
set_option Elab.async false
set_option linter.all false
/-! a dict comprehension over whatever is walked. -/
namespace Gd
open PySem PySem.Spec PyProof.Rows L2
section
variable {J : It} {n : Nat} {G : Hp → Prop} {Y : Nat → Hp → V → Hp → Prop}
theorem dc_it (w : Walk J n G Y) {g : TG} {tt : TT} {tk tv : TE} {vs : List Nat} {σ : L2.St} {H1 : Hp} {D : Addr} {Qd : Hp → Prop} (Pv : Nat → Hp → Prop) (h0 : Pv 0 (upd H1 D (.dK []))) (hG : ∀ i H, i ≤ n → Pv i H → G H)
    (hs : ∀ i x H H', i < n → Pv i H → Y i H x H' → g x (wipe σ vs) H' fun σ2 H2 => wipe σ2 vs = wipe σ vs ∧ tt σ2 H2 fun b H3 =>
      if b = true then tk σ2 H3 fun y H4 => tv σ2 H4 fun z H5 => ∃ kvs k, y = kV k ∧ H5 D = some (.dK kvs) ∧ kvs.length < sizeLine ∧ Pv (i + 1) (upd H5 D (.dK (putK kvs k z))) else Pv (i + 1) H3) (hd : ∀ H, Pv n H → Qd H) :
    ∃ W : Nat → Nat → Hp → Prop, (∃ m, W 0 m (upd H1 D (.dK []))) ∧ ∀ i m H, W i m H →
      (J.stop i H ∧ Qd H) ∨ (J.go i H ∧ ∃ Nx : Hp → Prop, (∀ H', Nx H' → ∃ m', m' < m ∧ W (i + 1) m' H') ∧ ∀ x H', J.yld i H x H' → g x (wipe σ vs) H' fun σ2 H2 => wipe σ2 vs = wipe σ vs ∧ tt σ2 H2 fun b H3 =>
        if b = true then tk σ2 H3 fun y H4 => tv σ2 H4 fun z H5 => ∃ kvs k, y = kV k ∧ H5 D = some (.dK kvs) ∧ kvs.length < sizeLine ∧ Nx (upd H5 D (.dK (putK kvs k z))) else Nx H3) := by
  refine ⟨fun i m H => m = n - i ∧ i ≤ n ∧ Pv i H, ⟨n, by simp, Nat.zero_le _, h0⟩, ?_⟩
  rintro i m H ⟨rfl, hi, p⟩
  have q := hG i H hi p
  by_cases hlt : i < n
  · exact .inr ⟨w.goes i H hlt q, Pv (i + 1), fun H' p' => ⟨n - (i + 1), by omega, rfl, hlt, p'⟩, fun x H' y => hs i x H H' hlt p (w.yields i H x H' hlt q y)⟩
  · have e : i = n := by omega
    subst e
    exact .inl ⟨w.stops H q, hd H p⟩
end
end Gd
end

section
set_option Elab.async false
set_option linter.all false
set_option maxRecDepth 100000
set_option maxHeartbeats 4000000
/-! o.m(e, .., k = v, ..) and o.m(k = v, ..), f(k = v, ..): keyword-only parameters among them. -/
namespace Gd
open PySem PySem.Spec PyProof.Rows L2
section
variable {X : Cx} {cx : CXT} {k n : Nat} {C f : Addr} {fd : FuncData} {ps ks : List Str} {sp : Sp} {E : XK} {m : Str} {o e : Expr} {es : List Expr} {apos pos : Pos} {kws : List Keyword} {ta : TE} {t tk : TA}
  {g : List Value → List Value → List Value} {gV : List V → List V → List V}
def tMethN (C : Addr) (m : Str) (n l : Nat) (sp : Sp) (gV : List V → List V → List V) (E : XK) (ta : TE) (t tk : TA) : TE := fun σ H Q => ta σ H fun x H1 => ∃ a dx fs, x = .ref a ∧ H1 a = some (.ins C dx fs) ∧ fs.lookup m = none ∧
  t σ H1 fun vs H2 => tk σ H2 fun zs H3 => vs.length = n ∧ zs.length = l ∧ sp (gV (.ref a :: vs) zs) H3 Q E
theorem pe_methN {pl : Sem Bool} (he : PE X o ta) (c : Cls X.K C) (hm : Meth X.K C m f) (F : FnOk X.prog X.w X.K X.mg X.base cx k f fd ps sp) (hr : Room k X.A) (hb : KBn X.K fd ps (n + 1) ks g gV) (hx : Passes cx X E) (ha : PA X (e :: es) t) (hkw : PK X kws tk)
    (hall : (backToKw pos (keywordEach kws X.env)).all (·.1.isSome) = true := by rfl) (hks : (backToKw pos (keywordEach kws X.env)).filterMap (·.1) = ks := by rfl)
    (hst : starEach (e :: es) X.env = (false, eval e X.env) :: starEach es X.env := by rfl)
    (hpl : ((backTo pos (starEach (e :: es) X.env)).any (·.1) || (backToKw pos (keywordEach kws X.env)).any (·.1.isNone)) = false := by rfl)
    (ht : eval (.Call (.Attribute o m apos) (e :: es) kws pos) X.env = (do
      let it ← eval o X.env
      standAt apos.atName
      let (q, ahead) ← holding [it] (getMethod it m pl)
      callWith pos q ahead (backTo pos (starEach (e :: es) X.env)) (backToKw pos (keywordEach kws X.env))) := by rfl) :
    PE X (.Call (.Attribute o m apos) (e :: es) kws pos) (tMethN C m n ks.length sp gV E ta t tk) := by
  constructor
  intro pins s σ H Q I h
  refine PySem.W.methodCall_KW (pl := pl) (thn (he.run pins s σ H _ I h) ?_) ht
  rintro u s1 ⟨x, H1, J, rx, a, dx, fs, rfl, ea, l, q⟩
  obtain rfl : u = Value.ref a := rx
  refine getmeth_ok J ea c hm l ?_
  refine PySem.W.callWith_KW (first := [.ref a]) (h₀ := X.base) J.ok.mod.kin hm.kp hall (thn (ha.run pos pins s1 σ H1 _ J q) ?_) hpl hst
  rintro us s2 ⟨vs, H2, J2, r, q2⟩
  refine thn (hkw.run pos pins s2 σ H2 _ J2 q2) fun ws s3 ⟨zs, H3, J3, rz, l1, l2, q3⟩ => ⟨J3.kIn, ?_⟩
  rw [hks]
  exact run_fnN (us := .ref a :: us) (vs := .ref a :: vs) F hr hb hx J3 (.cons rfl r) rz (by rw [List.length_cons, l1]) l2 q3
/-- o.m(k = v, ..) -/
def tMethN0 (C : Addr) (m : Str) (l : Nat) (sp : Sp) (gV : List V → List V → List V) (E : XK) (ta : TE) (tk : TA) : TE := fun σ H Q => ta σ H fun x H1 => ∃ a dx fs, x = .ref a ∧ H1 a = some (.ins C dx fs) ∧ fs.lookup m = none ∧
  tk σ H1 fun zs H3 => zs.length = l ∧ sp (gV [.ref a] zs) H3 Q E
theorem pe_methN0 {pl : Sem Bool} (he : PE X o ta) (c : Cls X.K C) (hm : Meth X.K C m f) (F : FnOk X.prog X.w X.K X.mg X.base cx k f fd ps sp) (hr : Room k X.A) (hb : KBn X.K fd ps 1 ks g gV) (hx : Passes cx X E) (hkw : PK X kws tk)
    (hall : (backToKw pos (keywordEach kws X.env)).all (·.1.isSome) = true := by rfl) (hks : (backToKw pos (keywordEach kws X.env)).filterMap (·.1) = ks := by rfl)
    (hpl : ((backTo pos (starEach [] X.env)).any (·.1) || (backToKw pos (keywordEach kws X.env)).any (·.1.isNone)) = false := by rfl)
    (ht : eval (.Call (.Attribute o m apos) [] kws pos) X.env = (do
      let it ← eval o X.env
      standAt apos.atName
      let (q, ahead) ← holding [it] (getMethod it m pl)
      callWith pos q ahead (backTo pos (starEach [] X.env)) (backToKw pos (keywordEach kws X.env))) := by rfl) :
    PE X (.Call (.Attribute o m apos) [] kws pos) (tMethN0 C m ks.length sp gV E ta tk) := by
  constructor
  intro pins s σ H Q I h
  refine PySem.W.methodCall_KW (pl := pl) (thn (he.run pins s σ H _ I h) ?_) ht
  rintro u s1 ⟨x, H1, J, rx, a, dx, fs, rfl, ea, l, q⟩
  obtain rfl : u = Value.ref a := rx
  refine getmeth_ok J ea c hm l ?_
  refine PySem.W.callWith_KW0 (first := [.ref a]) (h₀ := X.base) J.ok.mod.kin hm.kp hall (thn (hkw.run pos pins s1 σ H1 _ J q) ?_) hpl
  rintro ws s2 ⟨zs, H2, J2, rz, q2⟩
  refine ⟨J2.kIn, ?_⟩
  rw [hks]
  exact run_fnN (us := [.ref a]) (vs := [.ref a]) F hr hb hx J2 (.cons rfl .nil) rz rfl q2.1 q2.2
end
end Gd
end

section
set_option Elab.async false
set_option linter.all false
set_option maxRecDepth 100000
set_option maxHeartbeats 4000000
/-! counts of tables: what is counted of one. -/
namespace K20
open PySem PySem.Spec PyProof.Rows L2 Gd
theorem ix_tupK (K : PySem.W.Frag) {X : Cx} (hK : X.K = K := by rfl) : IxR X (rIxT K) := by
  subst hK
  exact ix_tup
theorem valV_not {κ : Type} [DecidableEq κ] {k : κ} : ∀ {kvs : List (κ × V)}, (∀ p ∈ kvs, p.1 ≠ k) → valV kvs k = none
  | [], _ => rfl
  | p :: kvs, h => by
    rw [valV_neg (h p (by simp))]
    exact valV_not fun q hq => h q (by simp [hq])
def wsD (p : Nat × Rw) : PyData := .tuple (p.2.ws.map PyData.int)
theorem wsD_only {p : Nat × Rw} (h : p.2.ws.length ≤ 1000) : tupOnly (wsD p) = true := by
  unfold wsD
  simp only [tupOnly, Bool.and_eq_true, decide_eq_true_eq]
  exact ⟨by rw [List.length_map]; omega, ints_only _⟩
theorem wsDs_only : ∀ l : List (Nat × Rw), (∀ p ∈ l, p.2.ws.length ≤ 1000) → tupOnlyAll (l.map wsD) = true
  | [], _ => rfl
  | p :: l, h => by
    show (tupOnly (wsD p) && tupOnlyAll (l.map wsD)) = true
    rw [wsD_only (h p (by simp)), wsDs_only l fun q hq => h q (by simp [hq])]
    rfl
/-- a method that takes n values and the moment by name -/
structure MtN (P : Program) (w : World) (K : PySem.W.Frag) (mg : Str → Option Value) (base : Heap) (C : Addr) (m : Str) (ps : List Str) (n : Nat) (cx : CXT) (k : Nat) (sp : Sp) : Prop where
  ex : ∃ (f : Addr) (fd : FuncData) (g : List Value → List Value → List Value), Meth K C m f ∧ FnOk P w K mg base cx k f fd ps sp ∧ KBn K fd ps (n + 1) ["moment"] g fun vs zs => vs ++ zs
/-- how the worths of one column are counted -/
def unlike (l : List (Nat × Rw)) (j : Nat) : Nat := (Sk.uniq (l.map fun p => ((.inl (p.2.ws.getD j 0)) : Key))).length
def countsK (cs : List Str) (l : List (Nat × Rw)) : List (Key × V) := cs.zipIdx.map fun p => (.inr p.1, .int (unlike l p.2))
theorem dp_ints_inv {K : PySem.W.Frag} {H : Hp} : ∀ {ws : List Int} {xs : List V}, DpAll K H xs (ws.map PyData.int) → xs = ws.map V.int
  | [], _, h => by cases h; rfl
  | w :: ws, _, h => by
    cases h with
    | cons h1 h2 =>
    cases h1
    rw [dp_ints_inv h2]
    rfl
theorem counts_put {cs : List Str} {l : List (Nat × Rw)} {k : Nat} {col : Str} (nd : cs.Nodup) (h : cs[k]? = some col) : putK ((countsK cs l).take k) (.inr col) (.int (unlike l k)) = (countsK cs l).take (k + 1) := by
  have hk : k < cs.length := (List.getElem?_eq_some_iff.mp h).1
  have e : (countsK cs l)[k]? = some (.inr col, .int (unlike l k)) := by
    unfold countsK
    rw [List.getElem?_map, List.getElem?_zipIdx, h]
    simp
  rw [List.take_add_one, e, putK_new]
  · rfl
  · refine valV_not fun p hp z => ?_
    obtain ⟨j, hj⟩ := List.mem_iff_getElem?.mp hp
    rw [List.getElem?_take] at hj
    split at hj
    · rename_i jk
      unfold countsK at hj
      rw [List.getElem?_map, List.getElem?_zipIdx] at hj
      cases hc : cs[j]? with
      | none => rw [hc] at hj; simp at hj
      | some c2 =>
        rw [hc] at hj
        have hj : p = ((.inr c2 : Key), V.int (unlike l j)) := by simpa using hj.symm
        rw [hj] at z
        have : c2 = col := Sum.inr.inj z
        rw [this] at hc
        have lj : j < cs.length := by omega
        have := (List.getElem_inj (i := j) (j := k) (h₀ := lj) (h₁ := hk) nd).mp (by rw [(List.getElem?_eq_some_iff.mp hc).2, (List.getElem?_eq_some_iff.mp h).2])
        omega
    · cases hj
abbrev sCnt : Stmt := topS 3
abbrev nCnt : List Str := ["tables", "name", "moment", "rows", "unlikes", "at", "column", "number", "worths"]
theorem scCnt : FnScope nCnt ["tables", "name", "moment"] (defScope sCnt) := ⟨rfl, rfl, rfl, by decide +kernel, rfl, by decide +kernel, by decide +kernel⟩
def spCnt (K : PySem.W.Frag) (C : Addr) : Sp := fun vs H Q _ => ∃ (p : Addr) (x : Shelf) (F : Addr → Prop) (i : Nat) (t : Tab) (o : Option Nat), vs = [.ref p, .str t.name, momV o] ∧ ShelfF K C H p x F ∧ ShelfOk x ∧ x.tabs[i]? = some t ∧ x.mo o ≤ x.deeds.length ∧ t.made < x.mo o ∧
  t.cols.Nodup ∧ t.cols.length ≤ 4 ∧ (∀ r ∈ t.rows, r.ws.length = t.cols.length) ∧
  ∀ H' r u, Same H H' → H u = none → H' u = some (.dK (countsK t.cols (t.at (x.mo o) t.rows.length))) → SqT K H' r [.int (t.at (x.mo o) t.rows.length).length, .ref u] → Q (.ref r) H'
section
variable {P : Program} {w : World} {K : PySem.W.Frag} {mg : Str → Option Value} {base : Heap} {f pS C : Addr} {fd : FuncData}
theorem ok_cnt (F : Fun K "_counted" "_counted" sCnt f fd) (T : TxtT K mg C) (N : Cs K mg pS) (M : Ct mg) (MR : MtN P w K mg base C "rows" ["self", "name", "moment"] 1 CX0 3 (spRows K C)) (MC : MtN P w K mg base C "columns" ["self", "name", "moment"] 1 CX0 3 (spColumns K C)) :
    FnOk P w K mg base CX0 4 f fd ["tables", "name", "moment"] (spCnt K C) := by
  refine F.ok scCnt (fun vs H Q E h => ?_) (fun cdv A outer s H vs Q E hr h => ?_)
  · obtain ⟨p, x, F, i, t, o, rfl, _⟩ := h
    rfl
  obtain ⟨p, x, FF, i, t, o, rfl, hS, ok, ht, mo1, mo2, cnd, c4, wl, q⟩ := h
  obtain ⟨fR, dR, gR', mR, GR, bR⟩ := MR.ex
  obtain ⟨fC, dC, gC', mC, GC, bC⟩ := MC.ex
  have nd := scCnt.nd
  have hu := hu_of hr
  refine ⟨_, pss_cons (ps_setLc (i := 3) (own := [("number", 7), ("worths", 8)]) (g := gTup K 2 (gCons (gName 7) (gCons (gName 8) gNil))) (tt := tYes) rfl nd rfl rfl (by rfl) (pi_list (pe_methN (pv 0) T.cl mR GR hr bR pass0 (pa_cons (pv 1) pa_nil) (pk_cons (pv 2) pk_nil)))
      (blkOk_by (N := nCnt) (sc := defScope sCnt) (by decide +kernel)) (fun _ _ _ _ _ => pg_tup rfl (pgs_cons (pg_name (i := 7) nd rfl (Or.inl rfl)) (pgs_cons (pg_name (i := 8) nd rfl (Or.inl rfl)) pgs_nil))) (fun _ _ _ _ _ => pts_nil) (fun _ _ _ _ _ => pv 8))
    (pss_cons (ps_set (i := 4) nd rfl (.inl rfl) pe_dnewK)
    (C8.pss_cut (ps_for PassesOwn.never rfl (pi_ET (by rfl) T.en (pa_cons (pe_methN (pv 0) T.cl mC GC hr bC pass0 (pa_cons (pv 1) pa_nil) (pk_cons (pv 2) pk_nil)) pa_nil)) (pg_tup rfl (pgs_cons (pg_name (i := 5) nd rfl (by first | exact .inl rfl | exact .inr rfl)) (pgs_cons (pg_name (i := 6) nd rfl (.inl rfl)) pgs_nil)))
      (pss_one (ps_dput hu (pv 4) (pv 6) (Sk.pe_lenSetK rfl (by rfl) N.len (by rfl) M.set_ (pe_lc (own := [("worths", 8)]) (g := gName 8) (tt := tYes) rfl nd (pi_list (pv 3)) (blkOk_by (N := nCnt) (sc := defScope sCnt) (by decide +kernel)) (fun _ _ _ _ _ => pg_name (i := 8) nd rfl (Or.inl rfl)) (fun _ _ _ _ _ => pts_nil)
        (fun _ _ _ _ _ => pe_ix (ix_tupK K) (pv 8) (pv 5) (fun _ _ => rfl)))) rfl)))
    (pss_one (ps_ret (pe_tup (pa_cons (pe_callB call_len_seq (by rfl) N.len PySem.boot_len (pa_cons (pv 3) pa_nil)) (pa_cons (pv 4) pa_nil))))))), ?_⟩
  have hS0 := hS
  obtain ⟨dx, a, b, c, d, ds, ca, rl, S, hF⟩ := hS
  refine ⟨_, rfl, p, dx, _, rfl, S.ins, sf_no (by decide), _, rfl, _, rfl, rfl, rfl, p, x, FF, i, t, o, rfl, hS0, ok, ht, mo1, mo2, fun H1 D us s1 nD eD dA => ?_⟩
  have wsl : ∀ r ∈ t.rows, r.ws.length ≤ 1000 := fun r hr0 => ok.ws t (List.mem_of_getElem? ht) r hr0
  have mem_l : ∀ p ∈ t.at (x.mo o) t.rows.length, p.2 ∈ t.rows := fun p hp => at_mem hp
  have l60 : (t.at (x.mo o) t.rows.length).length ≤ 60 := by
    have z := ok.rows t (List.mem_of_getElem? ht)
    unfold Tab.at
    refine Nat.le_trans (List.length_filter_le _ _) ?_
    rw [List.length_map, List.length_zipIdx, List.length_take]
    omega
  generalize hl : t.at (x.mo o) t.rows.length = l at dA q mem_l l60
  have lus : us.length = l.length := by rw [DpAll.len dA, List.length_map]
  refine ⟨D, rfl, ⟨_, SqL.of eD⟩, fun R nR => ?_⟩
  refine lc_list (K := K) (a := D) (xs := us) (fun k H' => Same H1 H' ∧ ∃ ws, H' R = some (.lst ws) ∧ ws.length = k ∧ DpAll K H' ws ((l.take k).map wsD)) ⟨new_same nR, [], upd_same, rfl, .nil⟩ (fun k H' _ y => SqL.of (y.1 _ _ eD)) ?_ ?_
  · rintro k y H' hy ⟨sm, ws, eR, lw, dw⟩
    obtain ⟨e0, he, hd⟩ := DpAll.at_ (DpAll.same sm _ dA) hy
    rw [List.getElem?_map, Option.map_eq_some_iff] at he
    obtain ⟨e1, he1, rfl⟩ := he
    have hk : k < l.length := (List.getElem?_eq_some_iff.mp he1).1
    cases hd with
    | @tup q xs _ hq hxs =>
    cases hxs with
    | cons h1 hxs =>
    cases hxs with
    | @cons wv _ _ _ h2 hxs =>
    cases hxs
    cases h1
    refine ⟨q, _, rfl, hq, rfl, _, _, rfl, _, _, rfl, rfl, ?_⟩
    refine ⟨rfl, ?_⟩
    have tp : Tups K H' (upd H' R (.lst (ws ++ [wv]))) := .upd_lst eR
    refine ⟨_, rfl, ws, eR, by rw [lw, sizeLine_eq]; omega, fun b0 o0 e => ?_, ws ++ [wv], upd_same, by rw [List.length_append, lw]; rfl, ?_⟩
    · rw [upd_ne (ne_of_none e nR)]
      exact sm _ _ e
    · rw [List.take_add_one, he1, List.map_append]
      exact DpAll.snoc (DpAll.tups tp _ (wsDs_only _ fun p hp => wsl p.2 (mem_l p (List.mem_of_mem_take hp))) dw) (Dp.tups tp _ (wsD_only (wsl e1.2 (mem_l e1 (List.mem_of_getElem? he1)))) h2)
  rintro H2 ⟨sm, ws, eR, lw, dw⟩
  rw [lus, List.take_length] at dw
  have lw : ws.length = l.length := by rw [lw, lus]
  intro U nU
  have jU := new_same (o := .dK []) nU
  have eU : upd H2 U (.dK []) U = some (.dK []) := upd_same
  have s12 := s1.trans sm
  have nU0 : H U = none := s12.free nU
  have eR3 := jU _ _ eR
  have dw3 := DpAll.same jU _ dw
  have s3 := s12.trans jU
  generalize upd H2 U (.dK []) = H3 at jU eU eR3 dw3 s3 ⊢
  have lcs : (countsK t.cols l).length = t.cols.length := by unfold countsK; rw [List.length_map, List.length_zipIdx]
  refine ⟨fun σ' H' => (∃ x5 x6, σ' = [some (.ref p), some (.str t.name), some (momV o), some (.ref R), some (.ref U), x5, x6, none, none]) ∧ Same H H' ∧ H' U = some (.dK (countsK t.cols l)) ∧ H' R = some (.lst ws), ?_, ?_⟩
  · refine ⟨_, rfl, p, dx, _, rfl, s3 _ _ S.ins, sf_no (by decide), _, rfl, _, rfl, rfl, rfl, p, x, FF, i, t, o, rfl, hS0.same s3, ok, ht, mo1, mo2, fun H4 ca4 s4 hca => ⟨ca4, _, rfl, hca, ?_⟩⟩
    have eU4 := s4 _ _ eU
    have eR4 := s4 _ _ eR3
    have dw4 := DpAll.same s4 _ dw3
    have nRU : R ≠ U := ne_of eR3 eU (fun z => nomatch z)
    refine for_it (walk_ET (K := K) (a := ca4) (xs := t.cols.map V.str)) (fun k σ G => (∃ x5 x6, σ = [some (.ref p), some (.str t.name), some (momV o), some (.ref R), some (.ref U), x5, x6, none, none]) ∧ (∀ b0 o0, b0 ≠ U → H4 b0 = some o0 → G b0 = some o0) ∧ G U = some (.dK ((countsK t.cols l).take k)))
      ⟨⟨_, _, rfl⟩, fun _ _ _ e => e, eU4⟩ (fun k σ G _ z => ?_) ?_ ?_
    · rcases hca with (z1 | ⟨o1, z1⟩) | z1
      · exact .inl (.inl (z.2.1 _ _ (ne_of z1 eU4 (fun y => nomatch y)) z1))
      · exact .inl (.inr ⟨o1, z.2.1 _ _ (ne_of z1 eU4 (fun y => nomatch y)) z1⟩)
      · exact .inr z1
    · rintro k y σ G G1 hk ⟨⟨x5, x6, rfl⟩, off, eUk⟩ ⟨T0, v1, v2, rfl, nT0, rfl, ei, ex⟩
      cases ei
      have ex : (t.cols.map V.str)[k]? = some v2 := ex
      rw [List.getElem?_map, Option.map_eq_some_iff] at ex
      obtain ⟨col, hcol, rfl⟩ := ex
      have hk : k < t.cols.length := (List.getElem?_eq_some_iff.mp hcol).1
      have j0 := new_same (o := .tup [.int ((k : Nat) : Int), .str col]) nT0
      have e0 : upd G T0 (.tup [.int ((k : Nat) : Int), .str col]) T0 = some (.tup [.int ((k : Nat) : Int), .str col]) := upd_same
      have eU5 := j0 _ _ eUk
      have off5 : ∀ b0 o0, b0 ≠ U → H4 b0 = some o0 → upd G T0 (.tup [.int ((k : Nat) : Int), .str col]) b0 = some o0 := fun b0 o0 n e => j0 _ _ (off b0 o0 n e)
      generalize upd G T0 (.tup [.int ((k : Nat) : Int), .str col]) = G5 at j0 e0 eU5 off5 ⊢
      refine ⟨T0, _, rfl, SqT.of e0, rfl, _, _, rfl, _, _, rfl, rfl, ?_⟩
      have eR5 := off5 _ _ nRU eR4
      have tp5 : Tups K H4 G5 := fun q ys z => by
        rcases z with (z1 | ⟨o1, z1⟩) | z1
        · exact .inl (.inl (off5 _ _ (ne_of z1 eU4 (fun y => nomatch y)) z1))
        · exact .inl (.inr ⟨o1, off5 _ _ (ne_of z1 eU4 (fun y => nomatch y)) z1⟩)
        · exact .inr z1
      have dw5 := DpAll.tups tp5 _ (wsDs_only _ fun p hp => wsl p.2 (mem_l p hp)) dw4
      refine ⟨_, rfl, R, rfl, ⟨_, SqL.of eR5⟩, fun D2 nD2 => ?_⟩
      refine lc_list (K := K) (a := R) (xs := ws) (fun j H' => Same G5 H' ∧ H' D2 = some (.lst ((l.take j).map fun e => V.int (e.2.ws.getD k 0)))) ⟨new_same nD2, upd_same⟩ (fun j H' _ y => SqL.of (y.1 _ _ eR5)) ?_ ?_
      · rintro j y H' hy ⟨sm5, eD2⟩
        obtain ⟨e0', he, hd⟩ := DpAll.at_ (DpAll.same sm5 _ dw5) hy
        rw [List.getElem?_map, Option.map_eq_some_iff] at he
        obtain ⟨e1, he1, rfl⟩ := he
        have hj : j < l.length := (List.getElem?_eq_some_iff.mp he1).1
        have lw1 : e1.2.ws.length = t.cols.length := wl _ (mem_l e1 (List.mem_of_getElem? he1))
        cases hd with
        | @tup q xs _ hq hxs =>
        have exs : xs = e1.2.ws.map V.int := dp_ints_inv hxs
        subst exs
        have gk : (e1.2.ws.map V.int)[k]? = some (.int (e1.2.ws.getD k 0)) := by
          rw [List.getElem?_map, List.getD_eq_getElem?_getD, List.getElem?_eq_getElem (by omega)]
          rfl
        refine ⟨rfl, ?_⟩
        refine ⟨_, rfl, _, rfl, q, _, _, _, rfl, rfl, hq, atI_nat gk, _, eD2, by rw [List.length_map, List.length_take, sizeLine_eq]; omega, fun b0 o0 e => ?_, ?_⟩
        · rw [upd_ne (ne_of_none e nD2)]
          exact sm5 _ _ e
        · rw [upd_same, List.take_add_one, he1, List.map_append]
          rfl
      rintro H6 ⟨sm6, eD6⟩
      rw [lw, List.take_length] at eD6
      have ek : l.map (fun e => V.int (e.2.ws.getD k 0)) = (l.map fun e => ((.inl (e.2.ws.getD k 0)) : Key)).map kV := by rw [List.map_map]; rfl
      refine ⟨D2, l.map fun e => .inl (e.2.ws.getD k 0), rfl, .inl (by rw [← ek]; exact SqL.of eD6), by rw [List.length_map]; omega, ?_⟩
      have eU6 := sm6 _ _ eU5
      refine ⟨_, rfl, _, rfl, U, _, rfl, DPut.k (k := .inr col) eU6 (by rw [List.length_take, sizeLine_eq]; omega), ⟨_, _, rfl⟩, fun b0 o0 n e => by rw [upd_ne n]; exact sm6 _ _ (off5 b0 o0 n e), ?_⟩
      rw [upd_same]
      exact congrArg (fun z => some (HO.dK z)) (counts_put (l := l) cnd hcol)
    · rintro σ G ⟨⟨x5, x6, rfl⟩, off, eUk⟩
      rw [List.length_map, ← lcs, List.take_length] at eUk
      refine ⟨⟨_, _, rfl⟩, fun b0 o0 e => off b0 o0 (ne_of_none e nU0) (s4 _ _ (s3 _ _ e)), eUk, off _ _ nRU eR4⟩
  rintro σ' H' ⟨⟨x5, x6, rfl⟩, sH, eU', eR'⟩
  refine ⟨_, rfl, R, _, rfl, .inl (SqL.of eR'), _, rfl, (by show 2 ≤ sizeLine; decide), fun r nr => ?_⟩
  have jr := new_same (o := .tup [.int ((ws.length : Nat) : Int), .ref U]) nr
  refine q _ r U (sH.trans jr) nU0 (jr _ _ eU') (SqT.of ?_)
  rw [upd_same, lw]
end
end K20
end

section
set_option Elab.async false
set_option linter.all false
set_option maxRecDepth 100000
set_option maxHeartbeats 4000000
/-! counts_of. -/
namespace K20
open PySem PySem.Spec PyProof.Rows L2 Gd
abbrev sCo : Stmt := topS 2
abbrev nCo : List Str := ["tables", "moment", "name"]
theorem scCo : FnScope nCo ["tables", "moment"] (defScope sCo) := ⟨rfl, rfl, rfl, by decide +kernel, rfl, by decide +kernel, by decide +kernel⟩
theorem tups_dK {K : PySem.W.Frag} {H : Hp} {D : Addr} {xs ys : List (Key × V)} (e : H D = some (.dK xs)) : Tups K H (upd H D (.dK ys)) := tups_off fun q o z n1 _ _ => by
  rw [upd_ne (fun y => by rw [y, e] at z; exact n1 _ (Option.some.inj z).symm)]
  exact z
/-- tables whose rows may be counted -/
structure FitS (x : Shelf) : Prop where
  ok : ShelfOk x
  nd : ∀ t ∈ x.tabs, t.cols.Nodup
  four : ∀ t ∈ x.tabs, t.cols.length ≤ 4
  wide : ∀ t ∈ x.tabs, ∀ r ∈ t.rows, r.ws.length = t.cols.length
/-- what is told of the table n at a moment, at v -/
def ToldAt (K : PySem.W.Frag) (H0 H : Hp) (D : Addr) (x : Shelf) (m : Nat) (kv : Key × V) (n : Str) : Prop :=
  kv.1 = .inr n ∧ ∃ t r u, t ∈ x.tabs ∧ t.name = n ∧ kv.2 = .ref r ∧ u ≠ D ∧ H0 u = none ∧ SqT K H r [.int (t.at m t.rows.length).length, .ref u] ∧ H u = some (.dK (countsK t.cols (t.at m t.rows.length)))
def spCo (K : PySem.W.Frag) (C : Addr) : Sp := fun vs H Q _ => ∃ (p : Addr) (x : Shelf) (F : Addr → Prop) (o : Option Nat), vs = [.ref p, momV o] ∧ ShelfF K C H p x F ∧ FitS x ∧ x.mo o ≤ x.deeds.length ∧
  ∀ H' D kvs (ys : List Str), ys.Perm (namesAt x.tabs (x.mo o)) → sortedS ys = true → Same H H' → H D = none → H' D = some (.dK kvs) → PySem.W.EachIs (ToldAt K H H' D x (x.mo o)) kvs ys → Q (.ref D) H'
section
variable {P : Program} {w : World} {K : PySem.W.Frag} {mg : Str → Option Value} {base : Heap} {f fN pS C : Addr} {fd dN : FuncData}
theorem ok_co {kws : List (Str × V)} (F : FunD K "counts_of" "counts_of" (defArgs sCo) (defBody sCo) (defScope sCo) [] kws f fd) (T : TxtT K mg C) (MN : MtN P w K mg base C "names" ["self", "moment"] 0 CX0 1 (spNames K C))
    (FN : Fun K "_counted" "_counted" sCnt fN dN) (GN : FnOk P w K mg base CX0 4 fN dN ["tables", "name", "moment"] (spCnt K C)) (gN : mg "_counted" = some (.ref fN)) (bN : Binds K dN ["tables", "name", "moment"] []) :
    FnOk P w K mg base CX0 5 f fd ["tables", "moment"] (spCo K C) := by
  refine okFD F scCo (fun vs H Q E h => ?_) (fun cdv A outer s H vs Q E hr h => ?_)
  · obtain ⟨p, x, F, o, rfl, _⟩ := h
    rfl
  obtain ⟨p, x, FF, o, rfl, hS, fit, mo1, q⟩ := h
  obtain ⟨fM, dM, gM', mM, GM, bM⟩ := MN.ex
  have nd := scCo.nd
  refine ⟨_, pss_one (ps_ret (pe_dc (own := [("name", 2)]) (g := gName 2) (tt := tYes) rfl nd (pi_list (pe_methN0 (pv 0) T.cl mM GM (hr.mono (by decide)) bM pass0 (pk_cons (pv 1) pk_nil))) (blkOk_by (N := nCo) (sc := defScope sCo) (by decide +kernel))
    (fun _ _ _ _ _ => pg_name (i := 2) nd rfl (Or.inl rfl)) (fun _ _ _ _ _ => pts_nil) (fun _ _ _ _ _ => pv 2) (fun _ _ _ _ _ => pe_call GN hr (by rfl) gN FN.kp bN .nil pass0 (pa_cons (pv 0) (pa_cons (pv 2) (pa_cons (pv 1) pa_nil)))))), ?_⟩
  have hS0 := hS
  obtain ⟨dx, a, b, c, d, ds, ca, rl, S, hF⟩ := hS
  have ok := fit.ok
  refine ⟨_, rfl, p, dx, _, rfl, S.ins, sf_no (by decide), _, rfl, rfl, p, x, FF, o, rfl, hS0, ok, fun H1 L ys py sy s1 nL eL => ⟨L, rfl, ⟨_, SqL.of eL⟩, fun D nD => ?_⟩⟩
  have nD0 : H D = none := s1.free nD
  have nod : ys.Nodup := py.nodup_iff.mpr (List.Nodup.sublist (List.Sublist.map _ List.filter_sublist) ok.nd)
  refine dc_it (walk_list (K := K) (a := L) (xs := ys.map V.str)) (fun k H' => (∀ b0 o0, H1 b0 = some o0 → H' b0 = some o0) ∧ ∃ kvs, H' D = some (.dK kvs) ∧ PySem.W.EachIs (ToldAt K H H' D x (x.mo o)) kvs (ys.take k)) ⟨new_same nD, [], upd_same, .nil⟩ (fun k H' _ y => SqL.of (y.1 _ _ eL)) ?_ ?_
  · rintro k y H' H'' hk ⟨sm, kvs, eD, rel⟩ ⟨rfl, hy⟩
    have hy : (ys.map V.str)[k]? = some y := hy
    rw [List.getElem?_map, Option.map_eq_some_iff] at hy
    obtain ⟨n, hn, rfl⟩ := hy
    obtain ⟨t, ht, en⟩ := List.mem_map.mp (py.mem_iff.mp (List.mem_of_getElem? hn))
    obtain ⟨ht, hm⟩ := List.mem_filter.mp ht
    have hm : t.made < x.mo o := of_decide_eq_true hm
    obtain ⟨i, hi⟩ := List.mem_iff_getElem?.mp ht
    subst en
    have s2 : Same H H'' := s1.trans sm
    refine ⟨rfl, ?_⟩
    refine ⟨_, rfl, _, rfl, _, rfl, _, rfl, p, x, FF, i, t, o, rfl, hS0.same s2, ok, hi, mo1, hm, fit.nd t ht, fit.four t ht, fit.wide t ht, fun H3 r u s3 nu eu er => ?_⟩
    have eD3 := s3 _ _ eD
    have nuD : u ≠ D := fun e => by
      rw [e, eD] at nu
      cases nu
    have tp : Tups K H3 (upd H3 D (.dK (putK kvs (.inr t.name) (.ref r)))) := tups_dK eD3
    have lk : kvs.length = (ys.take k).length := rel.length
    have off : ∀ b0 o0, b0 ≠ D → H3 b0 = some o0 → upd H3 D (.dK (putK kvs (.inr t.name) (.ref r))) b0 = some o0 := fun b0 o0 n e => by rw [upd_ne n]; exact e
    refine ⟨kvs, .inr t.name, rfl, eD3, ?_, fun b0 o0 e => off _ _ (ne_of_none e nD) (s3 _ _ (sm _ _ e)), putK kvs (.inr t.name) (.ref r), upd_same, ?_⟩
    · rw [lk, List.length_take, sizeLine_eq]
      have : ys.length ≤ 6 := by
        rw [py.length_eq]
        unfold namesAt
        rw [List.length_map]
        exact Nat.le_trans (List.length_filter_le _ _) ok.tabs
      omega
    · have pk : putK kvs (.inr t.name) (.ref r) = kvs ++ [(.inr t.name, .ref r)] := by
        refine putK_new (valV_not fun q hq z => ?_)
        obtain ⟨n0, hn0, e1, _⟩ := rel.left q hq
        rw [e1] at z
        have z : n0 = t.name := Sum.inr.inj z
        rw [z] at hn0
        obtain ⟨j, hj⟩ := List.mem_iff_getElem?.mp hn0
        rw [List.getElem?_take] at hj
        split at hj
        · obtain ⟨l1, g1⟩ := List.getElem?_eq_some_iff.mp hj
          obtain ⟨l2, g2⟩ := List.getElem?_eq_some_iff.mp hn
          have := (List.getElem_inj (h₀ := l1) (h₁ := l2) nod).mp (by rw [g1, g2])
          omega
        · cases hj
      rw [pk] at tp off ⊢
      rw [List.take_add_one, hn]
      exact each_snoc (rel.mono fun kv n0 ⟨e1, t1, r1, u1, h1, h2, h3, h4, h5, h6, h7⟩ => ⟨e1, t1, r1, u1, h1, h2, h3, h4, h5, tp _ _ (Tups.of_same s3 _ _ h6), off _ _ h4 (s3 _ _ h7)⟩) ⟨rfl, t, r, u, ht, rfl, rfl, nuD, s2.free nu, tp _ _ er, off _ _ nuD eu⟩
  · rintro H' ⟨sm, kvs, eD, rel⟩
    rw [List.length_map, List.take_length] at rel
    exact q H' D kvs ys py sy (s1.trans sm) nD0 eD rel
end
end K20
end

section
set_option Elab.async false
set_option linter.all false
set_option maxRecDepth 100000
set_option maxHeartbeats 4000000
/-! a deed goes into the law's model. -/
namespace K20
open PySem PySem.Spec PyProof.Rows L2 Gd
abbrev sGoes : Stmt := topS 33
abbrev nGoes : List Str := ["_law_model", "_law_deed_here", "_law_when", "_law_word", "_law_name", "_law_what"]
theorem scGoes : FnScope nGoes ["_law_model", "_law_deed_here", "_law_when"] (defScope sGoes) := ⟨rfl, rfl, rfl, by decide +kernel, rfl, by decide +kernel, by decide +kernel⟩
def spGoes (K : PySem.W.Frag) : Sp := fun vs H Q _ => ∃ (M t : Addr) (x y : Shelf) (G : Addr → Prop) (d : Deed), vs = [.ref M, .ref t, .int ((x.deeds.length + 1 : Nat) : Int)] ∧ ModF K H M x.tabs G ∧ ShelfOk x ∧ DeedAt K H t d ∧ Can x d y ∧
  ∀ H' G', ModF K H' M y.tabs G' → After H G H' G' → Q .non H'
theorem valV_idx0 {ts : List Tab} {f : Nat → Addr} (nd : (ts.map Tab.name).Nodup) {i : Nat} {t : Tab} (h : ts[i]? = some t) : valV (colsK ts f) (.inr t.name) = some (.ref (f i)) := by
  unfold colsK
  rw [valV_idx (f := fun j => .ref (f j)) ts 0 i t nd h, Nat.zero_add]
section
variable {P : Program} {w : World} {K : PySem.W.Frag} {mg : Str → Option Value} {base : Heap} {f : Addr} {fd : FuncData}
theorem ok_goes (F : Fun K "_law_goes" "_law_goes" sGoes f fd) : FnOk P w K mg base CX0 1 f fd ["_law_model", "_law_deed_here", "_law_when"] (spGoes K) := by
  refine F.ok scGoes (fun vs H Q E h => ?_) (fun cdv A outer s H vs Q E hr h => ?_)
  · obtain ⟨M, t, x, y, G, d, rfl, _⟩ := h
    rfl
  obtain ⟨M, t, x, y, G, d, rfl, hM, ok, hd, can, q⟩ := h
  have nd := scGoes.nd
  have hu := hu_of hr
  refine ⟨_, pss_cons (ps_asg (pv 1) (pg_tup (n := 3) rfl (pgs_cons (pg_name (i := 3) nd rfl (.inl rfl)) (pgs_cons (pg_name (i := 4) nd rfl (.inl rfl)) (pgs_cons (pg_name (i := 5) nd rfl (.inl rfl)) pgs_nil)))))
    (pss_one (ps_if (pt_cmpR op_eq (pv 3) pe_str (nomark _)) (pss_one (ps_dput hu (pv 0) (pv 4) (pe_tup (pa_cons (pv 5) (pa_cons (pe_lst pa_nil) (pa_cons (pv 2) pa_nil)))) rfl))
      (pss_one (ps_if (pt_cmpR op_eq (pv 3) pe_str (nomark _))
        (pss_one (ps_expr (pe_bm PySem.F.plainAttrs_list PySem.F.slot_list_append PySem.F.type_list_append mt_append (pe_ix ix_tup (pe_dget hu (pv 0) (pv 4) (fun _ _ => rfl)) pe_int (fun _ _ => rfl)) (pa_cons (pe_lst (pa_cons (pv 5) (pa_cons pe_non (pa_cons (pv 2) pa_nil)))) pa_nil))))
        (pss_one (ps_asg (pv 2) (pg_sub (pe_ix ix_list (pe_ix ix_tup (pe_dget hu (pv 0) (pv 4) (fun _ _ => rfl)) pe_int (fun _ _ => rfl)) (pv 5) (fun _ _ => rfl)) pe_int set_list))))))), ?_⟩
  obtain ⟨wv, ht, hw⟩ := id hd
  refine ⟨_, rfl, t, _, rfl, ht, rfl, _, _, rfl, _, _, rfl, _, _, rfl, rfl, ?_⟩
  have hM0 := hM
  obtain ⟨mt, ml, mr, S, hG⟩ := hM
  cases d with
  | table n cs =>
    obtain ⟨ac, rfl, hac⟩ := hw
    obtain ⟨c1, c2, rfl⟩ := can
    refine ⟨_, rfl, rfl, _, rfl, iteT' (decide_eq_true rfl) ?_⟩
    refine ⟨_, rfl, Nat.zero_le _, fun q1 n1 => ⟨_, rfl, by show 3 ≤ sizeLine; decide, fun q2 n2 => ?_⟩⟩
    have j1 := new_same (o := .lst []) n1
    have j2 := new_same (o := .tup [.ref ac, .ref q1, .int ((x.deeds.length + 1 : Nat) : Int)]) n2
    have e1 : upd (upd H q1 (.lst [])) q2 (.tup [.ref ac, .ref q1, .int ((x.deeds.length + 1 : Nat) : Int)]) q1 = some (.lst []) := j2 _ _ upd_same
    have e2 : upd (upd H q1 (.lst [])) q2 (.tup [.ref ac, .ref q1, .int ((x.deeds.length + 1 : Nat) : Int)]) q2 = some (.tup [.ref ac, .ref q1, .int ((x.deeds.length + 1 : Nat) : Int)]) := upd_same
    have s2 := j1.trans j2
    have n20 : H q2 = none := j1.free n2
    generalize upd (upd H q1 (.lst [])) q2 (.tup [.ref ac, .ref q1, .int ((x.deeds.length + 1 : Nat) : Int)]) = H2 at e1 e2 s2 ⊢
    have dM := s2 _ _ S.dict
    have lcols : (colsK x.tabs mt).length = x.tabs.length := by unfold colsK; rw [List.length_map, List.length_zipIdx]
    refine ⟨_, rfl, _, rfl, M, _, rfl, DPut.k (k := .inr n) dM (by rw [lcols, sizeLine_eq]; omega), ?_⟩
    have nq1 : q1 ≠ M := fun z => by rw [z, S.dict] at n1; cases n1
    have nq2 : q2 ≠ M := fun z => by rw [z, S.dict] at n20; cases n20
    have nca : SqT K (upd H2 M (.dK (putK (colsK x.tabs mt) (.inr n) (.ref q2)))) ac (cs.map V.str) := tups_dK dM _ _ (Tups.of_same s2 _ _ hac)
    have pc : putK (colsK x.tabs mt) (.inr n) (.ref q2) = colsK (x.tabs ++ [⟨n, cs, x.deeds.length, []⟩]) (fun i => if i = x.tabs.length then q2 else mt i) := by
      rw [putK_new (kvs := colsK x.tabs mt) (valV_idx_no (f := fun j => .ref (mt j)) x.tabs 0 c1), colsK_snoc]
      show _ = _ ++ [((.inr n : Key), V.ref (if x.tabs.length = x.tabs.length then q2 else mt x.tabs.length))]
      rw [if_pos rfl]
      congr 1
      exact colsK_ext fun i hi => by rw [if_neg (by omega)]
    have kp : ∀ b o, b ≠ M → H b = some o → upd H2 M (.dK (putK (colsK x.tabs mt) (.inr n) (.ref q2))) b = some o := fun b o nb e => by rw [upd_ne nb]; exact s2 _ _ e
    refine q _ (mfoot M (x.tabs ++ [⟨n, cs, x.deeds.length, []⟩]) (fun i => if i = x.tabs.length then q1 else ml i) mr) ⟨_, _, _, S.table (t := ⟨n, cs, x.deeds.length, []⟩) rfl n1 (by rw [upd_same, pc]) (by rw [upd_ne nq1]; exact e1) (SqT.of (by rw [upd_ne nq2]; exact e2)) nca kp, fun _ => .rfl⟩ ⟨fun b o nf e => kp b o (fun z => nf ((hG b).mpr (.inl z))) e, fun b hb => ?_⟩
    rcases hb with rfl | ⟨i, hi, rfl⟩ | ⟨i, t0, k, h1, h2, rfl⟩
    · exact .inl ((hG _).mpr (.inl rfl))
    · rw [List.length_append, List.length_singleton] at hi
      by_cases z : i = x.tabs.length
      · simp only [if_pos z]
        exact .inr n1
      · simp only [if_neg z]
        exact .inl ((hG _).mpr (.inr (.inl ⟨i, by omega, rfl⟩)))
    · rcases snoc_at h1 with ⟨l1, z1⟩ | ⟨l1, z1⟩
      · exact .inl ((hG _).mpr (.inr (.inr ⟨i, t0, k, z1, h2, rfl⟩)))
      · subst z1
        cases h2
  | row n ws =>
    obtain ⟨aw, rfl, haw⟩ := hw
    obtain ⟨i, tb, c1, rfl, c3, c4, rfl⟩ := can
    refine ⟨_, rfl, rfl, _, rfl, iteF' (by rw [decide_eq_true_eq]; intro z; exact absurd (V.str.inj z) (show ¬ ("row" : Str) = "table" by decide)) ?_⟩
    refine ⟨_, rfl, rfl, _, rfl, iteT' (decide_eq_true rfl) ?_⟩
    have li : i < x.tabs.length := (List.getElem?_eq_some_iff.mp c1).1
    obtain ⟨ca, hT, hC⟩ := S.tup i tb c1
    have L0 := S.lst i tb c1
    have g1 : DGet H M (.str tb.name) (some (.ref (mt i))) := by
      have z := DGet.k (k := .inr tb.name) S.dict
      rw [valV_idx0 ok.nd c1] at z
      exact z
    refine ⟨_, rfl, _, rfl, M, _, rfl, g1, mt i, _, 1, _, rfl, rfl, hT, atI_nat (j := 1) rfl, .inl ⟨rfl, _, SqL.of L0⟩, _, rfl, _, rfl, by show 3 ≤ sizeLine; decide, fun qn nq => ?_⟩
    have jq := new_same (o := .lst [.ref aw, .non, .int ((x.deeds.length + 1 : Nat) : Int)]) nq
    have eq1 : upd H qn (.lst [.ref aw, .non, .int ((x.deeds.length + 1 : Nat) : Int)]) qn = some (.lst (mRow ⟨ws, x.deeds.length, none⟩ aw)) := upd_same
    generalize upd H qn (.lst [.ref aw, .non, .int ((x.deeds.length + 1 : Nat) : Int)]) = H1 at jq eq1 ⊢
    have L1 := jq _ _ L0
    have nql : qn ≠ ml i := fun z => by rw [z, L0] at nq; cases nq
    have c60 := c3
    refine ⟨ml i, _, _, rfl, rfl, L1, by rw [List.length_map, List.length_range, sizeLine_eq]; omega, ?_⟩
    have kp : ∀ b o, b ≠ ml i → H b = some o → upd H1 (ml i) (.lst ((List.range tb.rows.length).map (fun k => V.ref (mr i k)) ++ [.ref qn])) b = some o := fun b o nb e => by rw [upd_ne nb]; exact jq _ _ e
    have tp : Tups K H1 (upd H1 (ml i) (.lst ((List.range tb.rows.length).map (fun k => V.ref (mr i k)) ++ [.ref qn]))) := .upd_lst L1
    refine q _ (mfoot M (x.onRows tb.name fun rs => rs ++ [⟨ws, x.deeds.length, none⟩]).tabs ml fun j k => if j = i ∧ k = tb.rows.length then qn else mr j k) ⟨mt, ml, _, S.put ok.nd c1 ⟨ws, x.deeds.length, none⟩ (b := aw) nq (by rw [upd_ne nql]; exact eq1) (tp _ _ (Tups.of_same jq _ _ haw)) upd_same kp, fun _ => .rfl⟩
      ⟨fun b o nf e => kp b o (fun z => nf ((hG b).mpr (.inr (.inl ⟨i, li, z⟩)))) e, fun b hb => ?_⟩
    rcases hb with rfl | ⟨j, hj, rfl⟩ | ⟨j, t0, k, h1, h2, rfl⟩
    · exact .inl ((hG _).mpr (.inl rfl))
    · refine .inl ((hG _).mpr (.inr (.inl ⟨j, ?_, rfl⟩)))
      rw [show (x.onRows tb.name fun rs => rs ++ [⟨ws, x.deeds.length, none⟩]).tabs.length = x.tabs.length from List.length_map _] at hj
      exact hj
    · by_cases z : j = i ∧ k = tb.rows.length
      · simp only [if_pos z]
        exact .inr nq
      · simp only [if_neg z]
        rcases on_at ok.nd c1 _ h1 with ⟨rfl, rfl⟩ | ⟨n1, z1⟩
        · refine .inl ((hG _).mpr (.inr (.inr ⟨j, tb, k, c1, ?_, rfl⟩)))
          have h2 : k < (tb.rows ++ [_]).length := h2
          rw [List.length_append, List.length_singleton] at h2
          have : k ≠ tb.rows.length := fun y => z ⟨rfl, y⟩
          omega
        · exact .inl ((hG _).mpr (.inr (.inr ⟨j, t0, k, z1, h2, rfl⟩)))
  | out n k =>
    obtain rfl := hw
    obtain ⟨i, tb, r, c1, rfl, c3, c4, rfl⟩ := can
    refine ⟨_, rfl, rfl, _, rfl, iteF' (by rw [decide_eq_true_eq]; intro z; exact absurd (V.str.inj z) (show ¬ ("out" : Str) = "table" by decide)) ?_⟩
    refine ⟨_, rfl, rfl, _, rfl, iteF' (by rw [decide_eq_true_eq]; intro z; exact absurd (V.str.inj z) (show ¬ ("out" : Str) = "row" by decide)) ?_⟩
    have li : i < x.tabs.length := (List.getElem?_eq_some_iff.mp c1).1
    have lk : k < tb.rows.length := (List.getElem?_eq_some_iff.mp c3).1
    obtain ⟨ca, hT, hC⟩ := S.tup i tb c1
    have L0 := S.lst i tb c1
    obtain ⟨b, R0, W0⟩ := S.row i tb k r c1 c3
    have g1 : DGet H M (.str tb.name) (some (.ref (mt i))) := by
      have z := DGet.k (k := .inr tb.name) S.dict
      rw [valV_idx0 ok.nd c1] at z
      exact z
    have ak : atI ((List.range tb.rows.length).map fun k => V.ref (mr i k)) ((k : Nat) : Int) = some (.ref (mr i k)) := atI_nat (by
      rw [List.getElem?_map, List.getElem?_range lk]
      rfl)
    refine ⟨_, rfl, _, rfl, _, rfl, M, _, rfl, g1, mt i, _, 1, _, rfl, rfl, hT, atI_nat (j := 1) rfl, _, rfl, ml i, _, _, _, rfl, rfl, SqL.of L0, ak, mr i k, _, 1, 1, rfl, rfl, R0, rfl, ?_⟩
    have kp : ∀ b0 o, b0 ≠ mr i k → H b0 = some o → upd H (mr i k) (.lst ((mRow r b).set 1 (.int ((x.deeds.length + 1 : Nat) : Int)))) b0 = some o := fun b0 o nb e => by rw [upd_ne nb]; exact e
    have tp : Tups K H (upd H (mr i k) (.lst ((mRow r b).set 1 (.int ((x.deeds.length + 1 : Nat) : Int))))) := .upd_lst R0
    refine q _ G ⟨mt, ml, mr, S.out ok.nd c1 lk ⟨r.ws, r.put, some x.deeds.length⟩ (b := b) (by rw [upd_same]; rfl) (tp _ _ W0) kp, fun b0 => ?_⟩ ⟨fun b0 o nf e => kp b0 o (fun z => nf ((hG b0).mpr (.inr (.inr ⟨i, tb, k, c1, lk, z⟩)))) e, fun b0 h0 => .inl h0⟩
    rw [hG]
    have ln : (x.onRows tb.name fun rs => rs.set k ⟨r.ws, r.put, some x.deeds.length⟩).tabs.length = x.tabs.length := List.length_map _
    unfold mfoot
    rw [ln]
    refine or_congr .rfl (or_congr .rfl ⟨fun ⟨j, t0, m, h1, h2, h3⟩ => ?_, fun ⟨j, t0, m, h1, h2, h3⟩ => ?_⟩)
    · by_cases z : j = i
      · subst z
        rw [c1] at h1
        cases h1
        refine ⟨j, { tb with rows := tb.rows.set k ⟨r.ws, r.put, some x.deeds.length⟩ }, m, ?_, by show m < (tb.rows.set k _).length; rw [List.length_set]; exact h2, h3⟩
        show (x.tabs.map (onTab tb.name fun t => { t with rows := t.rows.set k _ }))[j]? = _
        rw [List.getElem?_map, c1]
        show some (onTab tb.name _ tb) = _
        unfold onTab
        rw [if_pos rfl]
      · refine ⟨j, t0, m, ?_, h2, h3⟩
        show (x.tabs.map (onTab tb.name fun t => { t with rows := t.rows.set k _ }))[j]? = _
        rw [List.getElem?_map, h1]
        show some (onTab tb.name _ t0) = _
        unfold onTab
        rw [if_neg (fun y => z (name_inj ok.nd h1 c1 y))]
    · rcases on_at ok.nd c1 _ h1 with ⟨rfl, rfl⟩ | ⟨n1, z1⟩
      · refine ⟨j, tb, m, c1, ?_, h3⟩
        have h2 : m < (tb.rows.set k _).length := h2
        rw [List.length_set] at h2
        exact h2
      · exact ⟨j, t0, m, z1, h2, h3⟩
end
end K20
end

section
set_option Elab.async false
set_option linter.all false
set_option maxRecDepth 100000
set_option maxHeartbeats 4000000
/-! the law draws a worth, a deed. -/
namespace K20
open PySem PySem.Spec PyProof.Rows L2 Gd
abbrev sWor : Stmt := topS 31
theorem scWor : FnScope ["_law_pen_here"] ["_law_pen_here"] (defScope sWor) := ⟨rfl, rfl, rfl, by decide +kernel, rfl, by decide +kernel, by decide +kernel⟩
abbrev sLDeed : Stmt := topS 32
abbrev nLDeed : List Str := ["_law_pen_here", "_law_names_here", "_law_model", "_law_fresh", "_law_there", "_law_way", "_law_name", "_law_turn", "_law_rows", "_law_number", "_law_row", "_law_column"]
theorem scLDeed : FnScope nLDeed ["_law_pen_here", "_law_names_here", "_law_model"] (defScope sLDeed) := ⟨rfl, rfl, rfl, by decide +kernel, rfl, by decide +kernel, by decide +kernel⟩
def spWor : Sp := fun vs H Q _ => ∃ (l c : Addr) (S : Int), vs = [.ref l] ∧ Pen H l c S ∧ S ≤ 90000 ∧
  ∀ (w : Int) (H' : Hp), -(10 ^ 30 : Int) < w → w < 10 ^ 30 → Pen H' l c (S + 2) → Ex1 l H H' → Q (.int w) H'
theorem wor_at {r u : Int} (h0 : 0 ≤ r) (h1 : r < 8) (u0 : 0 ≤ u) (u1 : u < 120) : ∃ w : Int, atI ([0, 1, 9, 10, -1, 10 ^ 30 - 1, 1 - 10 ^ 30, u].map V.int) r = some (.int w) ∧ -(10 ^ 30 : Int) < w ∧ w < 10 ^ 30 := by
  obtain ⟨v, hv, e⟩ := at_list (f := V.int) (xs := [0, 1, 9, 10, -1, 10 ^ 30 - 1, 1 - 10 ^ 30, u]) h0 (by simpa using h1)
  refine ⟨v, e, ?_⟩
  simp only [List.mem_cons, List.not_mem_nil, or_false] at hv
  have z : (10 ^ 30 : Int) = 1000000000000000000000000000000 := by decide
  rcases hv with rfl | rfl | rfl | rfl | rfl | rfl | rfl | rfl <;> constructor <;> omega
theorem ix_listK (K : PySem.W.Frag) {X : Cx} (hK : X.K = K := by rfl) : IxR X (rIxL K) := by
  subst hK
  exact ix_list
/-- what is held of the law's tables while it draws -/
structure Few (ns : List Str) (x : Shelf) : Prop where
  fit : FitS x
  name : ∀ t ∈ x.tabs, t.name ∈ ns
  rows : ∀ t ∈ x.tabs, t.rows.length ≤ x.deeds.length
  deeds : x.deeds.length ≤ 40
  one : ∀ t ∈ x.tabs, 1 ≤ t.cols.length
  made : ∀ t ∈ x.tabs, t.made < x.deeds.length
  cl : ∀ t ∈ x.tabs, ∀ c ∈ t.cols, isLab c = true
theorem len_sub {α : Type} [DecidableEq α] : ∀ {l m : List α}, l.Nodup → (∀ a ∈ l, a ∈ m) → l.length ≤ m.length
  | [], _, _, _ => Nat.zero_le _
  | a :: l, m, nd, h => by
    rw [List.nodup_cons] at nd
    have ha : a ∈ m := h a (List.mem_cons_self ..)
    have z := len_sub (l := l) (m := m.erase a) nd.2 fun b hb => (List.mem_erase_of_ne (fun e => nd.1 (by rw [← e]; exact hb))).mpr (h b (List.mem_cons_of_mem _ hb))
    have e := List.length_erase_of_mem ha
    have p : 0 < m.length := List.length_pos_of_mem ha
    rw [List.length_cons]
    omega
theorem Few.tabs {ns : List Str} {x : Shelf} (h : Few ns x) : x.tabs.length ≤ ns.length := by
  have z := len_sub (l := x.tabs.map Tab.name) (m := ns) h.fit.ok.nd fun n hn => by
    obtain ⟨t, ht, rfl⟩ := List.mem_map.mp hn
    exact h.name t ht
  rw [List.length_map] at z
  exact z
theorem rot_ok {ns : List Str} (h4 : ns.length = 4) (nd : ns.Nodup) {k r : Nat} (hk : k < 4) (hr : r < 4) : 1 ≤ (((ns ++ ns).drop k).take (1 + r)).length ∧ (((ns ++ ns).drop k).take (1 + r)).length ≤ 4 ∧ (((ns ++ ns).drop k).take (1 + r)).Nodup ∧ ∀ c ∈ ((ns ++ ns).drop k).take (1 + r), c ∈ ns := by
  refine ⟨?_, ?_, ?_, fun c hc => ?_⟩
  · rw [List.length_take, List.length_drop, List.length_append]
    omega
  · rw [List.length_take]
    omega
  · match ns, h4 with
    | [a, b, c, d], _ =>
      simp only [List.nodup_cons, List.mem_cons, List.not_mem_nil, or_false, not_or, not_false_eq_true, true_and, List.nodup_nil, and_true] at nd
      obtain ⟨⟨n1, n2, n3⟩, ⟨n4, n5⟩, n6⟩ := nd
      have hk : k = 0 ∨ k = 1 ∨ k = 2 ∨ k = 3 := by omega
      have hr : r = 0 ∨ r = 1 ∨ r = 2 ∨ r = 3 := by omega
      rcases hk with rfl | rfl | rfl | rfl <;> rcases hr with rfl | rfl | rfl | rfl <;> simp_all [Ne.symm, eq_comm]
  · have z := List.mem_of_mem_drop (List.mem_of_mem_take hc)
    rw [List.mem_append] at z
    exact z.elim id id
def spLDeed (K : PySem.W.Frag) : Sp := fun vs H Q _ => ∃ (l c N M : Addr) (S : Int) (ns : List Str) (x : Shelf) (G : Addr → Prop), vs = [.ref l, .ref N, .ref M] ∧ Pen H l c S ∧ S ≤ 80000 ∧ H N = some (.lst (ns.map V.str)) ∧ N ≠ l ∧ ns.length = 4 ∧ ns.Nodup ∧ (∀ n ∈ ns, isLab n = true) ∧
  ModF K H M x.tabs G ∧ ¬ G l ∧ Few ns x ∧
  ∀ (t : Addr) (d : Deed) (y : Shelf) (H' : Hp), DeedAt K H' t d → DeedOk d → Can x d y → d.name ∈ ns → Pen H' l c (S + 20) → Ex1 l H H' → Q (.ref t) H'
theorem filt_succ {p : Str → Bool} {ns : List Str} {j : Nat} {n : Str} (h : ns[j]? = some n) : (ns.take (j + 1)).filter p = if p n = true then (ns.take j).filter p ++ [n] else (ns.take j).filter p := by
  rw [List.take_add_one, h, List.filter_append]
  by_cases z : p n = true
  · simp [z]
  · simp [z]
/-- the rows that stand now, by their numbers -/
def inNow (t : Tab) (k : Nat) : Bool := match t.rows[k]? with
  | some r => r.out.isNone
  | none => false
def outs (t : Tab) (j : Nat) : List Nat := (List.range j).filter (inNow t)
theorem outs_succ (t : Tab) (j : Nat) (r : Rw) (h : t.rows[j]? = some r) : outs t (j + 1) = if r.out = none then outs t j ++ [j] else outs t j := by
  unfold outs
  rw [List.range_succ, List.filter_append]
  have e : inNow t j = r.out.isNone := by unfold inNow; rw [h]
  cases ho : r.out with
  | none =>
    rw [ho] at e
    simp [e]
  | some o =>
    rw [ho] at e
    simp [e]
theorem outs_len (t : Tab) (j : Nat) : (outs t j).length ≤ j := by
  unfold outs
  refine Nat.le_trans (List.length_filter_le _ _) ?_
  rw [List.length_range]
  exact Nat.le_refl _
theorem outs_mem (t : Tab) {k j : Nat} (h : k ∈ outs t j) : ∃ r, t.rows[k]? = some r ∧ r.out = none := by
  have z := (List.mem_filter.mp h).2
  unfold inNow at z
  cases e : t.rows[k]? with
  | none => rw [e] at z; cases z
  | some r =>
    rw [e] at z
    exact ⟨r, rfl, by simpa using z⟩
section
variable {P : Program} {w : World} {K : PySem.W.Frag} {mg : Str → Option Value} {base : Heap} {f fT fW : Addr} {fd dT dW : FuncData}
theorem ok_wor (F : Fun K "_law_worth" "_law_worth" sWor f fd) (FT : Fun K "_law_take" "_law_take" sDraw fT dT) (G : FnOk P w K mg base CX0 1 fT dT ["_law_pen_here", "_law_many"] spDraw) (bT : Binds K dT ["_law_pen_here", "_law_many"] []) (gT : mg "_law_take" = some (.ref fT)) :
    FnOk P w K mg base CX0 2 f fd ["_law_pen_here"] spWor := by
  refine F.ok scWor (fun vs H Q E h => ?_) (fun cdv A outer s H vs Q E hr h => ?_)
  · obtain ⟨l, c, S, rfl, _⟩ := h
    rfl
  obtain ⟨l, c, S, rfl, hP, hS, q⟩ := h
  have nd := scWor.nd
  refine ⟨_, pss_one (ps_ret (pe_ix ix_list (pe_lst (pa_cons pe_int (pa_cons pe_int (pa_cons pe_int (pa_cons pe_int (pa_cons (pe_un un_neg pe_int) (pa_cons (pe_op op_sub (pe_op op_pow pe_int pe_int) pe_int) (pa_cons (pe_op op_sub pe_int (pe_op op_pow pe_int pe_int)) (pa_cons (pe_call G hr (by rfl) gT FT.kp bT .nil pass0 (pa_cons (pv 0) (pa_cons pe_int pa_nil))) pa_nil)))))))))
    (pe_call G hr (by rfl) gT FT.kp bT .nil pass0 (pa_cons (pv 0) (pa_cons pe_int pa_nil))) (fun _ _ => rfl))), ?_⟩
  refine ⟨_, rfl, 10, 30, rfl, rfl, ⟨by decide, by decide, by decide⟩, _, _, rfl, rfl, 10, 30, rfl, rfl, ⟨by decide, by decide, by decide⟩, _, _, rfl, rfl, _, rfl, l, c, 120, S, rfl, hP, by decide, by decide, by omega, fun u H1 u0 u1 p1 x1 => ?_⟩
  refine ⟨(by show 8 ≤ sizeLine; decide), fun b nb => ?_⟩
  have j1 := new_same (o := .lst ([0, 1, 9, 10, -1, 10 ^ 30 - 1, 1 - 10 ^ 30, u].map V.int)) nb
  have nbl := (p1.not nb).1
  refine ⟨_, rfl, l, c, 8, _, rfl, p1.same j1, by decide, by decide, by omega, fun r H2 r0 r1 p2 x2 => ?_⟩
  obtain ⟨wv, ew, w0, w1⟩ := wor_at r0 r1 u0 u1
  exact ⟨b, _, _, _, rfl, rfl, SqL.of (x2 _ _ nbl (upd_same (o := .lst ([0, 1, 9, 10, -1, 10 ^ 30 - 1, 1 - 10 ^ 30, u].map V.int)))), ew, q wv H2 w0 w1 (p2.le (by omega)) ((x1.trans (Ex1.new nb)).trans x2)⟩
theorem ok_ldeed (F : Fun K "_law_deed" "_law_deed" sLDeed f fd) (mn : mg "len" = none) (me : mg "enumerate" = none) (mt_ : mg "tuple" = none) (FT : Fun K "_law_take" "_law_take" sDraw fT dT) (GT : FnOk P w K mg base CX0 1 fT dT ["_law_pen_here", "_law_many"] spDraw) (bT : Binds K dT ["_law_pen_here", "_law_many"] []) (gT : mg "_law_take" = some (.ref fT))
    (FW : Fun K "_law_worth" "_law_worth" sWor fW dW) (GW : FnOk P w K mg base CX0 2 fW dW ["_law_pen_here"] spWor) (bW : Binds K dW ["_law_pen_here"] []) (gW : mg "_law_worth" = some (.ref fW)) :
    FnOk P w K mg base CX0 3 f fd ["_law_pen_here", "_law_names_here", "_law_model"] (spLDeed K) := by
  refine F.ok scLDeed (fun vs H Q E h => ?_) (fun cdv A outer s H vs Q E hr h => ?_)
  · obtain ⟨l, c, N, M, S, ns, x, G, rfl, _⟩ := h
    rfl
  obtain ⟨l, c, N, M, S, ns, x, G, rfl, hP, hS, eN, nNl, h4, ndn, lab, hM, nG, few, q⟩ := h
  have nd := scLDeed.nd
  have hu := hu_of hr
  have hu0 := Nat.lt_of_succ_lt hu
  have r1 : Room 1 _ := hr.mono (by decide)
  refine ⟨_, pss_cons (ps_setLc (i := 3) (own := [("_law_name", 6)]) (g := gName 6) rfl nd rfl rfl (by rfl) (pi_list (pv 1)) (blkOk_by (N := nLDeed) (sc := defScope sLDeed) (by decide +kernel)) (fun _ _ _ _ _ => pg_name (i := 6) nd rfl (Or.inl rfl)) (fun _ _ _ _ _ => pts_one (pt_cmp (pc_dnotin hu (pv 6) (pv 2)))) (fun _ _ _ _ _ => pv 6))
    (pss_cons (ps_setLc (i := 4) (own := [("_law_name", 6)]) (g := gName 6) rfl nd rfl rfl (by rfl) (pi_list (pv 1)) (blkOk_by (N := nLDeed) (sc := defScope sLDeed) (by decide +kernel)) (fun _ _ _ _ _ => pg_name (i := 6) nd rfl (Or.inl rfl)) (fun _ _ _ _ _ => pts_one (pt_cmp (pc_din hu (pv 6) (pv 2)))) (fun _ _ _ _ _ => pv 6))
    (pss_cons (ps_set (i := 5) nd rfl (by first | exact .inl rfl | exact .inr rfl) (pe_call GT r1 (by rfl) gT FT.kp bT .nil pass0 (pa_cons (pv 0) (pa_cons pe_int pa_nil))))
    (pss_cons (ps_if (PW.pt (pw_or (pt_cmpR (op_eqL0 hu0) (pv 4) (pe_lst pa_nil) (nomark _)) (pw_or1 (PW.pt (pw_and (pt_cmpR op_eq (pv 5) pe_int (nomark _)) (pw_and1 (pt_cmpR (op_neL0 hu0) (pv 3) (pe_lst pa_nil) (nomark _))))))))
      (pss_cons (ps_set (i := 6) nd rfl (by first | exact .inl rfl | exact .inr rfl) (pe_ix ix_list (pv 3) (pe_call GT r1 (by rfl) gT FT.kp bT .nil pass0 (pa_cons (pv 0) (pa_cons (pe_callB call_len_seq (by rfl) mn PySem.boot_len (pa_cons (pv 3) pa_nil)) pa_nil))) (fun _ _ => rfl)))
      (pss_cons (ps_set (i := 7) nd rfl (by first | exact .inl rfl | exact .inr rfl) (pe_call GT r1 (by rfl) gT FT.kp bT .nil pass0 (pa_cons (pv 0) (pa_cons pe_int pa_nil))))
      (pss_one (ps_ret (pe_tup (pa_cons pe_str (pa_cons (pv 6) (pa_cons (pe_tupleOf (by rfl) mt_ (pe_slice sl_list (pe_op op_cat (pv 1) (pv 1)) (po_some (pv 7)) (po_some (pe_op op_add (pe_op op_add (pv 7) pe_int) (pe_call GT r1 (by rfl) gT FT.kp bT .nil pass0 (pa_cons (pv 0) (pa_cons pe_int pa_nil))))))) pa_nil)))))))) pss_nil)
    (pss_cons (ps_set (i := 6) nd rfl (by first | exact .inl rfl | exact .inr rfl) (pe_ix ix_list (pv 4) (pe_call GT r1 (by rfl) gT FT.kp bT .nil pass0 (pa_cons (pv 0) (pa_cons (pe_callB call_len_seq (by rfl) mn PySem.boot_len (pa_cons (pv 4) pa_nil)) pa_nil))) (fun _ _ => rfl)))
    (pss_cons (ps_setLc (i := 8) (own := [("_law_number", 9), ("_law_row", 10)]) (g := gTup K 2 (gCons (gName 9) (gCons (gName 10) gNil))) rfl nd rfl rfl (by rfl) (pi_enum (by rfl) me (pa_cons (pe_ix ix_tup (pe_dget hu (pv 2) (pv 6) (fun _ _ => rfl)) pe_int (fun _ _ => rfl)) pa_nil)) (blkOk_by (N := nLDeed) (sc := defScope sLDeed) (by decide +kernel))
      (fun _ _ _ _ _ => pg_tup rfl (pgs_cons (pg_name (i := 9) nd rfl (Or.inl rfl)) (pgs_cons (pg_name (i := 10) nd rfl (Or.inl rfl)) pgs_nil))) (fun _ _ _ _ _ => pts_one (pt_cmpR op_isN (pe_ix (ix_listK K) (pv 10) pe_int (fun _ _ => rfl)) pe_non (nomark _))) (fun _ _ _ _ _ => pv 9))
    (pss_cons (ps_if (PW.pt (pw_and (pt_cmpR op_lt (pv 5) pe_int (nomark _)) (pw_and1 (pt_cmpR (op_neL0 hu0) (pv 8) (pe_lst pa_nil) (nomark _)))))
      (pss_one (ps_ret (pe_tup (pa_cons pe_str (pa_cons (pv 6) (pa_cons (pe_ix ix_list (pv 8) (pe_call GT r1 (by rfl) gT FT.kp bT .nil pass0 (pa_cons (pv 0) (pa_cons (pe_callB call_len_seq (by rfl) mn PySem.boot_len (pa_cons (pv 8) pa_nil)) pa_nil))) (fun _ _ => rfl)) pa_nil)))))) pss_nil)
    (pss_one (ps_ret (pe_tup (pa_cons pe_str (pa_cons (pv 6) (pa_cons (pe_tupleOf (by rfl) mt_ (pe_lc (own := [("_law_column", 11)]) (g := gName 11) (tt := tYes) rfl nd (pi_tup (pe_ix ix_tup (pe_dget hu (pv 2) (pv 6) (fun _ _ => rfl)) pe_int (fun _ _ => rfl))) (blkOk_by (N := nLDeed) (sc := defScope sLDeed) (by decide +kernel)) (fun _ _ _ _ _ => pg_name (i := 11) nd rfl (Or.inl rfl)) (fun _ _ _ _ _ => pts_nil)
      (fun _ _ _ _ _ => pe_call GW hr (by rfl) gW FW.kp bW .nil pass0 (pa_cons (pv 0) pa_nil)))) pa_nil)))))))))))), ?_⟩
  obtain ⟨mt, ml, mr, S1, hG⟩ := hM
  have nMl : M ≠ l := fun z => nG ((hG _).mpr (.inl z.symm))
  have tupX : ∀ {G' : Hp}, Ex1 l H G' → Tups K H G' := fun xg => tups_off fun q o e n1 n2 n3 => xg q o (fun z => by
    obtain ⟨ns0, t0, ov0, el, _⟩ := hP
    rw [z, el] at e
    exact n2 _ (Option.some.inj e).symm) e
  have dIn : ∀ {G' : Hp} {n : Str}, G' M = some (.dK (colsK x.tabs mt)) → (n ∈ x.tabs.map Tab.name → ∃ v, DGet G' M (.str n) (some v)) ∧ (n ∉ x.tabs.map Tab.name → DGet G' M (.str n) none) := fun {G' n} e => by
    refine ⟨fun hn => ?_, fun hn => ?_⟩
    · obtain ⟨t, ht, rfl⟩ := List.mem_map.mp hn
      obtain ⟨i, hi⟩ := List.mem_iff_getElem?.mp ht
      have z := DGet.k (k := .inr t.name) e
      rw [valV_idx0 few.fit.ok.nd hi] at z
      exact ⟨_, z⟩
    · have z := DGet.k (k := .inr n) e
      unfold colsK at z
      rw [valV_idx_no (f := fun j => .ref (mt j)) x.tabs 0 hn] at z
      exact z
  refine ⟨_, rfl, N, rfl, ⟨_, SqL.of eN⟩, fun a3 n3 => ?_⟩
  refine lc_list (K := K) (a := N) (xs := ns.map V.str) (fun j G' => Same H G' ∧ G' a3 = some (.lst (((ns.take j).filter fun n => decide (n ∉ x.tabs.map Tab.name)).map V.str))) ⟨new_same n3, upd_same⟩ (fun j G' _ z => SqL.of (z.1 _ _ eN)) ?_ ?_
  · rintro j y G' hy ⟨sg, eD⟩
    rw [List.getElem?_map, Option.map_eq_some_iff] at hy
    obtain ⟨n, hn, rfl⟩ := hy
    have hj : j < ns.length := (List.getElem?_eq_some_iff.mp hn).1
    refine ⟨rfl, ?_⟩
    obtain ⟨d1, d2⟩ := dIn (n := n) (sg _ _ S1.dict)
    rw [filt_succ hn]
    by_cases z : n ∈ x.tabs.map Tab.name
    · obtain ⟨v, dv⟩ := d1 z
      refine ⟨_, rfl, _, rfl, M, _, rfl, dv, _, rfl, iteF ?_⟩
      rw [if_neg (by rw [decide_eq_true_eq]; exact fun y => y z)]
      exact ⟨sg, eD⟩
    · refine ⟨_, rfl, _, rfl, M, _, rfl, d2 z, _, rfl, iteT' rfl ?_⟩
      rw [if_pos (decide_eq_true z)]
      refine ⟨_, rfl, _, eD, ?_, own_same n3 sg, by rw [upd_same, List.map_append]; rfl⟩
      rw [List.length_map, sizeLine_eq]
      have := List.length_filter_le (fun n => decide (n ∉ x.tabs.map Tab.name)) (ns.take j)
      rw [List.length_take] at this
      omega
  rintro H1 ⟨s1, e1⟩
  rw [List.length_map, List.take_length] at e1
  refine ⟨_, rfl, N, rfl, ⟨_, SqL.of (s1 _ _ eN)⟩, fun a4 n4 => ?_⟩
  refine lc_list (K := K) (a := N) (xs := ns.map V.str) (fun j G' => Same H1 G' ∧ G' a4 = some (.lst (((ns.take j).filter fun n => decide (n ∈ x.tabs.map Tab.name)).map V.str))) ⟨new_same n4, upd_same⟩ (fun j G' _ z => SqL.of (z.1 _ _ (s1 _ _ eN))) ?_ ?_
  · rintro j y G' hy ⟨sg, eD⟩
    rw [List.getElem?_map, Option.map_eq_some_iff] at hy
    obtain ⟨n, hn, rfl⟩ := hy
    have hj : j < ns.length := (List.getElem?_eq_some_iff.mp hn).1
    refine ⟨rfl, ?_⟩
    obtain ⟨d1, d2⟩ := dIn (n := n) (sg _ _ (s1 _ _ S1.dict))
    rw [filt_succ hn]
    by_cases z : n ∈ x.tabs.map Tab.name
    · obtain ⟨v, dv⟩ := d1 z
      refine ⟨_, rfl, _, rfl, M, _, rfl, dv, _, rfl, iteT' rfl ?_⟩
      rw [if_pos (decide_eq_true z)]
      refine ⟨_, rfl, _, eD, ?_, own_same n4 sg, by rw [upd_same, List.map_append]; rfl⟩
      rw [List.length_map, sizeLine_eq]
      have := List.length_filter_le (fun n => decide (n ∈ x.tabs.map Tab.name)) (ns.take j)
      rw [List.length_take] at this
      omega
    · refine ⟨_, rfl, _, rfl, M, _, rfl, d2 z, _, rfl, iteF ?_⟩
      rw [if_neg (by rw [decide_eq_true_eq]; exact z)]
      exact ⟨sg, eD⟩
  rintro H2 ⟨s2, e2⟩
  rw [List.length_map, List.take_length] at e2
  have e12 := s2 _ _ e1
  have xS : Ex1 l H H2 := ex1_same (s1.trans s2)
  have pS := hP.same (s1.trans s2)
  have n3l := (hP.not n3).1
  have n4l := ((hP.same s1).not n4).1
  refine ⟨_, rfl, l, c, 8, S, rfl, pS, by decide, by decide, by omega, fun way H3 w0 w1 p3 x3 => ?_⟩
  have xW := xS.trans x3
  have e3 := x3 _ _ n3l e12
  have e4 := x3 _ _ n4l e2
  have eN3 := xW _ _ nNl eN
  obtain ⟨fr, efr⟩ : ∃ fr, fr = ns.filter fun n => decide (n ∉ x.tabs.map Tab.name) := ⟨_, rfl⟩
  obtain ⟨th, eth⟩ : ∃ th, th = ns.filter fun n => decide (n ∈ x.tabs.map Tab.name) := ⟨_, rfl⟩
  have split : th = [] → fr ≠ [] := fun z1 z2 => by
    have hn : 0 < ns.length := by omega
    have hm := List.getElem_mem hn
    by_cases y : ns[0] ∈ x.tabs.map Tab.name
    · have : ns[0] ∈ th := by rw [eth]; exact List.mem_filter.mpr ⟨hm, decide_eq_true y⟩
      rw [z1] at this
      cases this
    · have : ns[0] ∈ fr := by rw [efr]; exact List.mem_filter.mpr ⟨hm, decide_eq_true y⟩
      rw [z2] at this
      cases this
  rw [← efr] at e3
  rw [← eth] at e4
  refine ⟨_, rfl, Nat.zero_le _, fun b5 n5 => ?_⟩
  have j5 := new_same (o := .lst []) n5
  have e5 : upd H3 b5 (.lst []) b5 = some (.lst []) := upd_same
  have p4 := p3.same j5
  have x4 := xW.trans (Ex1.new (o := .lst []) n5)
  have e3 := j5 _ _ e3
  have e4 := j5 _ _ e4
  have eN4 := j5 _ _ eN3
  generalize upd H3 b5 (.lst []) = H4 at e5 p4 x4 e3 e4 eN4 ⊢
  refine ⟨a4, b5, _, rfl, rfl, SqL.of e4, SqL.of e5, _, rfl, ite2 (fun c1 => ?_) (fun c1 => ?_)⟩
  · have tz : th = [] := by
      cases th with
      | nil => rfl
      | cons a b => cases c1
    have fne := split tz
    have pX := p4
    have xX := x4
    have eNX := eN4
    refine iteT' rfl ?_
    have ff : fr.length ≠ 0 := fun z => fne (List.length_eq_zero_iff.mp z)
    have f4 : fr.length ≤ 4 := by rw [← h4, efr]; exact List.length_filter_le _ _
    refine ⟨_, rfl, _, rfl, _, rfl, a3, _, rfl, .inl (SqL.of e3), l, c, _, _, rfl, pX, by rw [List.length_map]; omega, by rw [List.length_map]; omega, by omega, fun r5 H5 r50 r51 p5 x5 => ?_⟩
    obtain ⟨nm, hnm, enm⟩ := at_list (f := V.str) (xs := fr) r50 (by simpa using r51)
    have e35 := x5 _ _ n3l e3
    refine ⟨a3, _, _, .str nm, rfl, rfl, SqL.of e35, enm, ?_⟩
    have hfr : nm ∈ ns ∧ nm ∉ x.tabs.map Tab.name := by
      have z := List.mem_filter.mp (show nm ∈ ns.filter _ by rw [efr] at hnm; exact hnm)
      exact ⟨z.1, of_decide_eq_true z.2⟩
    refine ⟨_, rfl, l, c, 4, _, rfl, p5, by decide, by decide, by omega, fun r6 H6 r60 r61 p6 x6 => ?_⟩
    obtain ⟨k, rfl⟩ : ∃ k : Nat, r6 = ((k : Nat) : Int) := ⟨r6.toNat, by omega⟩
    have eN6 := x6 _ _ nNl (x5 _ _ nNl eNX)
    refine ⟨_, rfl, _, rfl, _, rfl, N, N, _, _, rfl, rfl, eN6, eN6, by rw [List.length_map, sizeLine_eq]; omega, fun b8 n8 => ?_⟩
    have j8 := new_same (o := .lst (ns.map V.str ++ ns.map V.str)) n8
    have e8 : upd H6 b8 (.lst (ns.map V.str ++ ns.map V.str)) b8 = some (.lst ((ns ++ ns).map V.str)) := by rw [upd_same, List.map_append]
    have p7 := p6.same j8
    have n8l := (p6.not n8).1
    have x7 := ((xX.trans x5).trans x6).trans (Ex1.new (o := .lst (ns.map V.str ++ ns.map V.str)) n8)
    generalize upd H6 b8 (.lst (ns.map V.str ++ ns.map V.str)) = H7 at e8 p7 x7 ⊢
    refine ⟨_, rfl, _, rfl, _, rfl, _, _, rfl, rfl, _, rfl, l, c, 4, _, rfl, p7, by decide, by decide, by omega, fun r9 H9 r90 r91 p9 x9 => ?_⟩
    obtain ⟨j, rfl⟩ : ∃ j : Nat, r9 = ((j : Nat) : Int) := ⟨r9.toNat, by omega⟩
    refine ⟨_, _, rfl, rfl, _, rfl, b8, _, rfl, SqL.of (x9 _ _ n8l e8), fun cq ncq => ?_⟩
    have ecut : cutV ((ns ++ ns).map V.str) (some ((k : Nat) : Int)) (some (((k : Nat) : Int) + 1 + ((j : Nat) : Int))) = (((ns ++ ns).drop k).take (1 + j)).map V.str := by
      rw [show ((k : Nat) : Int) + 1 + ((j : Nat) : Int) = ((k + 1 + j : Nat) : Int) by omega]
      unfold cutV
      rw [HT.sIx_nat, HT.sIx_nat, List.length_map, List.length_append, h4, Nat.min_eq_left (by omega), Nat.min_eq_left (by omega), ← List.map_drop, ← List.map_take, show k + 1 + j - k = 1 + j by omega]
    rw [ecut]
    obtain ⟨o1, o2, o3, o4⟩ := rot_ok h4 ndn (k := k) (r := j) (by omega) (by omega)
    generalize ((ns ++ ns).drop k).take (1 + j) = cs at o1 o2 o3 o4 ⊢
    have jc := new_same (o := .lst (cs.map V.str)) ncq
    have pA := p9.same jc
    have xA := (x7.trans x9).trans (Ex1.new (o := .lst (cs.map V.str)) ncq)
    have ec : upd H9 cq (.lst (cs.map V.str)) cq = some (.lst (cs.map V.str)) := upd_same
    generalize upd H9 cq (.lst (cs.map V.str)) = HA at pA xA ec ⊢
    refine .inl ⟨cq, _, rfl, SqL.of ec, fun tq ntq => ⟨by show 3 ≤ sizeLine; decide, fun dq ndq => ?_⟩⟩
    have jt := new_same (o := .tup (cs.map V.str)) ntq
    have jd := new_same (o := .tup [.str "table", .str nm, .ref tq]) ndq
    refine q dq (.table nm cs) { x with tabs := x.tabs ++ [⟨nm, cs, x.deeds.length, []⟩] } _ ⟨.ref tq, SqT.of upd_same, tq, rfl, Tups.of_same jd _ _ (SqT.of upd_same)⟩ ⟨lab nm hfr.1, o1, o2, o3, fun z hz => lab z (o4 z hz)⟩ ⟨hfr.2, by have := few.tabs; omega, rfl⟩ hfr.1 (((pA.same jt).same jd).le (by omega)) ((xA.trans (Ex1.new ntq)).trans (Ex1.new ndq))
  · have tne : th ≠ [] := fun z => c1 (by rw [z]; rfl)
    refine ⟨_, rfl, rfl, _, rfl, ite2 (fun c2 => ?_) (fun c2 => ?_)⟩
    · refine ⟨_, rfl, Nat.zero_le _, fun b6 n6 => ?_⟩
      have j6 := new_same (o := .lst []) n6
      have e6 : upd H4 b6 (.lst []) b6 = some (.lst []) := upd_same
      have pX := p4.same j6
      have xX := x4.trans (Ex1.new (o := .lst []) n6)
      have e3 := j6 _ _ e3
      have e4 := j6 _ _ e4
      have eNX := j6 _ _ eN4
      generalize upd H4 b6 (.lst []) = HX at e6 pX xX e3 e4 eNX ⊢
      refine ⟨a3, b6, _, rfl, rfl, SqL.of e3, SqL.of e6, _, rfl, ite2 (fun c3 => ?_) (fun c3 => ?_)⟩
      · have fne : fr ≠ [] := fun z => by rw [z] at c3; cases c3
        have ff : fr.length ≠ 0 := fun z => fne (List.length_eq_zero_iff.mp z)
        have f4 : fr.length ≤ 4 := by rw [← h4, efr]; exact List.length_filter_le _ _
        refine ⟨_, rfl, _, rfl, _, rfl, a3, _, rfl, .inl (SqL.of e3), l, c, _, _, rfl, pX, by rw [List.length_map]; omega, by rw [List.length_map]; omega, by omega, fun r5 H5 r50 r51 p5 x5 => ?_⟩
        obtain ⟨nm, hnm, enm⟩ := at_list (f := V.str) (xs := fr) r50 (by simpa using r51)
        have e35 := x5 _ _ n3l e3
        refine ⟨a3, _, _, .str nm, rfl, rfl, SqL.of e35, enm, ?_⟩
        have hfr : nm ∈ ns ∧ nm ∉ x.tabs.map Tab.name := by
          have z := List.mem_filter.mp (show nm ∈ ns.filter _ by rw [efr] at hnm; exact hnm)
          exact ⟨z.1, of_decide_eq_true z.2⟩
        refine ⟨_, rfl, l, c, 4, _, rfl, p5, by decide, by decide, by omega, fun r6 H6 r60 r61 p6 x6 => ?_⟩
        obtain ⟨k, rfl⟩ : ∃ k : Nat, r6 = ((k : Nat) : Int) := ⟨r6.toNat, by omega⟩
        have eN6 := x6 _ _ nNl (x5 _ _ nNl eNX)
        refine ⟨_, rfl, _, rfl, _, rfl, N, N, _, _, rfl, rfl, eN6, eN6, by rw [List.length_map, sizeLine_eq]; omega, fun b8 n8 => ?_⟩
        have j8 := new_same (o := .lst (ns.map V.str ++ ns.map V.str)) n8
        have e8 : upd H6 b8 (.lst (ns.map V.str ++ ns.map V.str)) b8 = some (.lst ((ns ++ ns).map V.str)) := by rw [upd_same, List.map_append]
        have p7 := p6.same j8
        have n8l := (p6.not n8).1
        have x7 := ((xX.trans x5).trans x6).trans (Ex1.new (o := .lst (ns.map V.str ++ ns.map V.str)) n8)
        generalize upd H6 b8 (.lst (ns.map V.str ++ ns.map V.str)) = H7 at e8 p7 x7 ⊢
        refine ⟨_, rfl, _, rfl, _, rfl, _, _, rfl, rfl, _, rfl, l, c, 4, _, rfl, p7, by decide, by decide, by omega, fun r9 H9 r90 r91 p9 x9 => ?_⟩
        obtain ⟨j, rfl⟩ : ∃ j : Nat, r9 = ((j : Nat) : Int) := ⟨r9.toNat, by omega⟩
        refine ⟨_, _, rfl, rfl, _, rfl, b8, _, rfl, SqL.of (x9 _ _ n8l e8), fun cq ncq => ?_⟩
        have ecut : cutV ((ns ++ ns).map V.str) (some ((k : Nat) : Int)) (some (((k : Nat) : Int) + 1 + ((j : Nat) : Int))) = (((ns ++ ns).drop k).take (1 + j)).map V.str := by
          rw [show ((k : Nat) : Int) + 1 + ((j : Nat) : Int) = ((k + 1 + j : Nat) : Int) by omega]
          unfold cutV
          rw [HT.sIx_nat, HT.sIx_nat, List.length_map, List.length_append, h4, Nat.min_eq_left (by omega), Nat.min_eq_left (by omega), ← List.map_drop, ← List.map_take, show k + 1 + j - k = 1 + j by omega]
        rw [ecut]
        obtain ⟨o1, o2, o3, o4⟩ := rot_ok h4 ndn (k := k) (r := j) (by omega) (by omega)
        generalize ((ns ++ ns).drop k).take (1 + j) = cs at o1 o2 o3 o4 ⊢
        have jc := new_same (o := .lst (cs.map V.str)) ncq
        have pA := p9.same jc
        have xA := (x7.trans x9).trans (Ex1.new (o := .lst (cs.map V.str)) ncq)
        have ec : upd H9 cq (.lst (cs.map V.str)) cq = some (.lst (cs.map V.str)) := upd_same
        generalize upd H9 cq (.lst (cs.map V.str)) = HA at pA xA ec ⊢
        refine .inl ⟨cq, _, rfl, SqL.of ec, fun tq ntq => ⟨by show 3 ≤ sizeLine; decide, fun dq ndq => ?_⟩⟩
        have jt := new_same (o := .tup (cs.map V.str)) ntq
        have jd := new_same (o := .tup [.str "table", .str nm, .ref tq]) ndq
        refine q dq (.table nm cs) { x with tabs := x.tabs ++ [⟨nm, cs, x.deeds.length, []⟩] } _ ⟨.ref tq, SqT.of upd_same, tq, rfl, Tups.of_same jd _ _ (SqT.of upd_same)⟩ ⟨lab nm hfr.1, o1, o2, o3, fun z hz => lab z (o4 z hz)⟩ ⟨hfr.2, by have := few.tabs; omega, rfl⟩ hfr.1 (((pA.same jt).same jd).le (by omega)) ((xA.trans (Ex1.new ntq)).trans (Ex1.new ndq))
      · have tt : th.length ≠ 0 := fun z => tne (List.length_eq_zero_iff.mp z)
        have t4 : th.length ≤ 4 := by rw [← h4, eth]; exact List.length_filter_le _ _
        refine ⟨_, rfl, _, rfl, _, rfl, a4, _, rfl, .inl (SqL.of e4), l, c, _, _, rfl, pX, by rw [List.length_map]; omega, by rw [List.length_map]; omega, by omega, fun r5 H5 r50 r51 p5 x5 => ?_⟩
        obtain ⟨nm, hnm, enm⟩ := at_list (f := V.str) (xs := th) r50 (by simpa using r51)
        refine ⟨a4, _, _, .str nm, rfl, rfl, SqL.of (x5 _ _ n4l e4), enm, ?_⟩
        obtain ⟨t, htm, rfl⟩ : ∃ t ∈ x.tabs, t.name = nm := by
          rw [eth] at hnm
          exact List.mem_map.mp (of_decide_eq_true (List.mem_filter.mp hnm).2)
        obtain ⟨i, ht⟩ := List.mem_iff_getElem?.mp htm
        have xx5 := xX.trans x5
        obtain ⟨ca, hT, hC⟩ := S1.tup i t ht
        have L0 := S1.lst i t ht
        have gm : ∀ {G' : Hp}, G' M = some (.dK (colsK x.tabs mt)) → DGet G' M (.str t.name) (some (.ref (mt i))) := fun e => by
          have z := DGet.k (k := .inr t.name) e
          rw [valV_idx0 few.fit.ok.nd ht] at z
          exact z
        have nlM : ml i ≠ l := fun z => nG ((hG _).mpr (.inr (.inl ⟨i, (List.getElem?_eq_some_iff.mp ht).1, z.symm⟩)))
        have c4 := few.fit.four t htm
        refine ⟨_, rfl, _, rfl, M, _, rfl, gm (xx5 _ _ nMl S1.dict), mt i, _, 1, _, rfl, rfl, tupX xx5 _ _ hT, atI_nat (j := 1) rfl, ml i, _, rfl, SqL.of (xx5 _ _ nlM L0), fun D8 nD8 => ?_⟩
        have nD8l := (p5.not nD8).1
        refine lc_it walk_enum (fun j G' => Same H5 G' ∧ G' D8 = some (.lst ((outs t j).map fun k => V.int ((k : Nat) : Int)))) ⟨new_same nD8, upd_same⟩ (fun j G' _ z => SqL.of (z.1 _ _ (xx5 _ _ nlM L0))) ?_ ?_
        · rintro j y G' G2 hj ⟨sg, eD⟩ ⟨T0, v1, v2, rfl, nT0, rfl, ei, ex⟩
          cases ei
          rw [List.length_map, List.length_range] at hj
          have ex : ((List.range t.rows.length).map fun k => V.ref (mr i k))[j]? = some v2 := ex
          rw [List.getElem?_map, List.getElem?_range hj] at ex
          cases ex
          have j0 := new_same (o := .tup [.int ((j : Nat) : Int), .ref (mr i j)]) nT0
          have e0 : upd G' T0 (.tup [.int ((j : Nat) : Int), .ref (mr i j)]) T0 = some (.tup [.int ((j : Nat) : Int), .ref (mr i j)]) := upd_same
          have s2 := sg.trans j0
          have eD2 := j0 _ _ eD
          generalize upd G' T0 (.tup [.int ((j : Nat) : Int), .ref (mr i j)]) = G2 at e0 s2 eD2 ⊢
          obtain ⟨b, R0, W0⟩ := S1.row i t j _ ht (List.getElem?_eq_getElem hj)
          have nrl : mr i j ≠ l := fun z => nG ((hG _).mpr (.inr (.inr ⟨i, t, j, ht, hj, z.symm⟩)))
          refine ⟨T0, _, rfl, SqT.of e0, rfl, _, _, rfl, _, _, rfl, rfl, ?_⟩
          refine ⟨rfl, ?_⟩
          refine ⟨_, rfl, mr i j, _, 1, _, rfl, rfl, SqL.of (s2 _ _ (xx5 _ _ nrl R0)), atI_nat (j := 1) rfl, rfl, _, rfl, ?_⟩
          rw [outs_succ t j _ (List.getElem?_eq_getElem hj)]
          by_cases z : t.rows[j].out = none
          · rw [if_pos z]
            refine iteT' (by rw [z]; exact decide_eq_true rfl) ?_
            have l60 := few.rows t htm
            have l40 := few.deeds
            refine ⟨_, rfl, _, eD2, ?_, own_same nD8 s2, by rw [upd_same, List.map_append]; rfl⟩
            rw [List.length_map, sizeLine_eq]
            have := outs_len t j
            omega
          · rw [if_neg z]
            refine iteF' (by
              rw [decide_eq_true_eq]
              intro y
              cases ho : t.rows[j].out with
              | none => exact z ho
              | some o =>
                rw [ho] at y
                cases y) ⟨s2, eD2⟩
        rintro H8 ⟨s8, eD8⟩
        rw [List.length_map, List.length_range] at eD8
        have p8 := p5.same s8
        have x8 := xx5.trans (ex1_same s8)
        refine ⟨_, rfl, _, _, rfl, rfl, _, rfl, ite2 (fun e => ?_) (fun e => ?_)⟩
        · refine ⟨_, rfl, Nat.zero_le _, fun b9 n9 => ?_⟩
          have j9 := new_same (o := .lst []) n9
          have e9 : upd H8 b9 (.lst []) b9 = some (.lst []) := upd_same
          have pY := p8.same j9
          have xY := x8.trans (Ex1.new (o := .lst []) n9)
          have eD9 := j9 _ _ eD8
          generalize upd H8 b9 (.lst []) = HY at e9 pY xY eD9 ⊢
          refine ⟨D8, b9, _, rfl, rfl, SqL.of eD9, SqL.of e9, _, rfl, ite2 (fun e2 => ?_) (fun e2 => ?_)⟩
          · have lo : (outs t t.rows.length).length ≠ 0 := fun z => by
              rw [List.length_eq_zero_iff.mp z] at e2
              cases e2
            have lo2 := outs_len t t.rows.length
            have l60 := few.rows t htm
            have l40 := few.deeds
            refine ⟨_, rfl, _, rfl, _, rfl, _, rfl, D8, _, rfl, .inl (SqL.of eD9), l, c, _, _, rfl, pY, by rw [List.length_map]; omega, by rw [List.length_map]; omega, by omega, fun rA HA rA0 rA1 pA xA => ?_⟩
            obtain ⟨k, hk, ek⟩ := at_list (f := fun k : Nat => V.int ((k : Nat) : Int)) (xs := outs t t.rows.length) rA0 (by simpa using rA1)
            refine ⟨D8, _, _, _, rfl, rfl, SqL.of (xA _ _ nD8l eD9), ek, by show 3 ≤ sizeLine; decide, fun dq ndq => ?_⟩
            obtain ⟨r, hr1, hr2⟩ := outs_mem t hk
            have jd := new_same (o := .tup [.str "out", .str t.name, .int ((k : Nat) : Int)]) ndq
            have lk := (List.getElem?_eq_some_iff.mp hr1).1
            exact q dq (.out t.name k) _ _ ⟨.int ((k : Nat) : Int), SqT.of upd_same, rfl⟩ ⟨lab _ (few.name t htm), by omega⟩ ⟨i, t, r, ht, rfl, hr1, hr2, rfl⟩ (few.name t htm) ((pA.same jd).le (by omega)) ((xY.trans xA).trans (Ex1.new ndq))
          · have gY : DGet HY M (.str t.name) (some (.ref (mt i))) := gm (xY _ _ nMl S1.dict)
            refine ⟨_, rfl, _, rfl, _, rfl, M, _, rfl, gY, mt i, _, 0, _, rfl, rfl, tupX xY _ _ hT, atI_nat (j := 0) rfl, ca, rfl, ⟨_, tupX xY _ _ hC⟩, fun D nD => ?_⟩
            have nDl := (pY.not nD).1
            have nD0 : H D = none := free_ex1 xY nDl nD
            refine lc_tup (K := K) (a := ca) (xs := t.cols.map V.str) (fun j G' => Ex1 l HY G' ∧ Pen G' l c (S + 5 + 2 * ((j : Nat) : Int)) ∧ ∃ ws : List Int, G' D = some (.lst (ws.map V.int)) ∧ ws.length = j ∧ WsOk ws) ⟨Ex1.new nD, (pY.same (new_same nD)).le (by omega), [], upd_same, rfl, fun i hi => nomatch hi⟩ (fun j G' _ z => tupX (xY.trans z.1) _ _ hC) ?_ ?_
            · rintro j y G' hy ⟨xg, pg, ws, eD, lw, okw⟩
              rw [List.getElem?_map, Option.map_eq_some_iff] at hy
              obtain ⟨cn, hcn, rfl⟩ := hy
              have hj : j < t.cols.length := (List.getElem?_eq_some_iff.mp hcn).1
              refine ⟨rfl, ?_⟩
              refine ⟨_, rfl, l, c, _, rfl, pg, by omega, fun wv G2 w0 w1 p2 x2 => ?_⟩
              have eD2 := x2 _ _ nDl eD
              refine ⟨ws.map V.int, eD2, by rw [List.length_map, sizeLine_eq]; omega, ex1_own nD (xg.trans x2), by rw [show S + 5 + 2 * ((j + 1 : Nat) : Int) = S + 5 + 2 * ((j : Nat) : Int) + 2 by omega]; exact p2.off nDl (fun z => by subst z; exact (pY.not nD).2 rfl), ws ++ [wv], by rw [upd_same, List.map_append]; rfl, by rw [List.length_append, lw]; rfl, fun i hi => ?_⟩
              rcases List.mem_append.mp hi with hi | hi
              · exact okw i hi
              · rw [List.mem_singleton.mp hi]
                exact ⟨w0, w1⟩
            rintro HC ⟨xC, pC, ws, eD, lw, okw⟩
            rw [List.length_map] at lw pC
            refine .inl ⟨D, _, rfl, SqL.of eD, fun tq ntq => ⟨by show 3 ≤ sizeLine; decide, fun dq ndq => ?_⟩⟩
            have jt := new_same (o := .tup (ws.map V.int)) ntq
            have jd := new_same (o := .tup [.str "row", .str t.name, .ref tq]) ndq
            have l60 := few.rows t htm
            have l40 := few.deeds
            refine q dq (.row t.name ws) _ _ ⟨.ref tq, SqT.of upd_same, tq, rfl, Tups.of_same jd _ _ (SqT.of upd_same)⟩ ⟨lab _ (few.name t htm), okw, by omega⟩ ⟨i, t, ht, rfl, by omega, lw, rfl⟩ (few.name t htm) (((pC.same jt).same jd).le (by omega)) (((xY.trans xC).trans (Ex1.new ntq)).trans (Ex1.new ndq))
        · have pY := p8
          have xY := x8
          generalize H8 = HY at pY xY ⊢
          have gY : DGet HY M (.str t.name) (some (.ref (mt i))) := gm (xY _ _ nMl S1.dict)
          refine ⟨_, rfl, _, rfl, _, rfl, M, _, rfl, gY, mt i, _, 0, _, rfl, rfl, tupX xY _ _ hT, atI_nat (j := 0) rfl, ca, rfl, ⟨_, tupX xY _ _ hC⟩, fun D nD => ?_⟩
          have nDl := (pY.not nD).1
          have nD0 : H D = none := free_ex1 xY nDl nD
          refine lc_tup (K := K) (a := ca) (xs := t.cols.map V.str) (fun j G' => Ex1 l HY G' ∧ Pen G' l c (S + 5 + 2 * ((j : Nat) : Int)) ∧ ∃ ws : List Int, G' D = some (.lst (ws.map V.int)) ∧ ws.length = j ∧ WsOk ws) ⟨Ex1.new nD, (pY.same (new_same nD)).le (by omega), [], upd_same, rfl, fun i hi => nomatch hi⟩ (fun j G' _ z => tupX (xY.trans z.1) _ _ hC) ?_ ?_
          · rintro j y G' hy ⟨xg, pg, ws, eD, lw, okw⟩
            rw [List.getElem?_map, Option.map_eq_some_iff] at hy
            obtain ⟨cn, hcn, rfl⟩ := hy
            have hj : j < t.cols.length := (List.getElem?_eq_some_iff.mp hcn).1
            refine ⟨rfl, ?_⟩
            refine ⟨_, rfl, l, c, _, rfl, pg, by omega, fun wv G2 w0 w1 p2 x2 => ?_⟩
            have eD2 := x2 _ _ nDl eD
            refine ⟨ws.map V.int, eD2, by rw [List.length_map, sizeLine_eq]; omega, ex1_own nD (xg.trans x2), by rw [show S + 5 + 2 * ((j + 1 : Nat) : Int) = S + 5 + 2 * ((j : Nat) : Int) + 2 by omega]; exact p2.off nDl (fun z => by subst z; exact (pY.not nD).2 rfl), ws ++ [wv], by rw [upd_same, List.map_append]; rfl, by rw [List.length_append, lw]; rfl, fun i hi => ?_⟩
            rcases List.mem_append.mp hi with hi | hi
            · exact okw i hi
            · rw [List.mem_singleton.mp hi]
              exact ⟨w0, w1⟩
          rintro HC ⟨xC, pC, ws, eD, lw, okw⟩
          rw [List.length_map] at lw pC
          refine .inl ⟨D, _, rfl, SqL.of eD, fun tq ntq => ⟨by show 3 ≤ sizeLine; decide, fun dq ndq => ?_⟩⟩
          have jt := new_same (o := .tup (ws.map V.int)) ntq
          have jd := new_same (o := .tup [.str "row", .str t.name, .ref tq]) ndq
          have l60 := few.rows t htm
          have l40 := few.deeds
          refine q dq (.row t.name ws) _ _ ⟨.ref tq, SqT.of upd_same, tq, rfl, Tups.of_same jd _ _ (SqT.of upd_same)⟩ ⟨lab _ (few.name t htm), okw, by omega⟩ ⟨i, t, ht, rfl, by omega, lw, rfl⟩ (few.name t htm) (((pC.same jt).same jd).le (by omega)) (((xY.trans xC).trans (Ex1.new ntq)).trans (Ex1.new ndq))
    · have pX := p4
      have xX := x4
      have eNX := eN4
      have tt : th.length ≠ 0 := fun z => tne (List.length_eq_zero_iff.mp z)
      have t4 : th.length ≤ 4 := by rw [← h4, eth]; exact List.length_filter_le _ _
      refine ⟨_, rfl, _, rfl, _, rfl, a4, _, rfl, .inl (SqL.of e4), l, c, _, _, rfl, pX, by rw [List.length_map]; omega, by rw [List.length_map]; omega, by omega, fun r5 H5 r50 r51 p5 x5 => ?_⟩
      obtain ⟨nm, hnm, enm⟩ := at_list (f := V.str) (xs := th) r50 (by simpa using r51)
      refine ⟨a4, _, _, .str nm, rfl, rfl, SqL.of (x5 _ _ n4l e4), enm, ?_⟩
      obtain ⟨t, htm, rfl⟩ : ∃ t ∈ x.tabs, t.name = nm := by
        rw [eth] at hnm
        exact List.mem_map.mp (of_decide_eq_true (List.mem_filter.mp hnm).2)
      obtain ⟨i, ht⟩ := List.mem_iff_getElem?.mp htm
      have xx5 := xX.trans x5
      obtain ⟨ca, hT, hC⟩ := S1.tup i t ht
      have L0 := S1.lst i t ht
      have gm : ∀ {G' : Hp}, G' M = some (.dK (colsK x.tabs mt)) → DGet G' M (.str t.name) (some (.ref (mt i))) := fun e => by
        have z := DGet.k (k := .inr t.name) e
        rw [valV_idx0 few.fit.ok.nd ht] at z
        exact z
      have nlM : ml i ≠ l := fun z => nG ((hG _).mpr (.inr (.inl ⟨i, (List.getElem?_eq_some_iff.mp ht).1, z.symm⟩)))
      have c4 := few.fit.four t htm
      refine ⟨_, rfl, _, rfl, M, _, rfl, gm (xx5 _ _ nMl S1.dict), mt i, _, 1, _, rfl, rfl, tupX xx5 _ _ hT, atI_nat (j := 1) rfl, ml i, _, rfl, SqL.of (xx5 _ _ nlM L0), fun D8 nD8 => ?_⟩
      have nD8l := (p5.not nD8).1
      refine lc_it walk_enum (fun j G' => Same H5 G' ∧ G' D8 = some (.lst ((outs t j).map fun k => V.int ((k : Nat) : Int)))) ⟨new_same nD8, upd_same⟩ (fun j G' _ z => SqL.of (z.1 _ _ (xx5 _ _ nlM L0))) ?_ ?_
      · rintro j y G' G2 hj ⟨sg, eD⟩ ⟨T0, v1, v2, rfl, nT0, rfl, ei, ex⟩
        cases ei
        rw [List.length_map, List.length_range] at hj
        have ex : ((List.range t.rows.length).map fun k => V.ref (mr i k))[j]? = some v2 := ex
        rw [List.getElem?_map, List.getElem?_range hj] at ex
        cases ex
        have j0 := new_same (o := .tup [.int ((j : Nat) : Int), .ref (mr i j)]) nT0
        have e0 : upd G' T0 (.tup [.int ((j : Nat) : Int), .ref (mr i j)]) T0 = some (.tup [.int ((j : Nat) : Int), .ref (mr i j)]) := upd_same
        have s2 := sg.trans j0
        have eD2 := j0 _ _ eD
        generalize upd G' T0 (.tup [.int ((j : Nat) : Int), .ref (mr i j)]) = G2 at e0 s2 eD2 ⊢
        obtain ⟨b, R0, W0⟩ := S1.row i t j _ ht (List.getElem?_eq_getElem hj)
        have nrl : mr i j ≠ l := fun z => nG ((hG _).mpr (.inr (.inr ⟨i, t, j, ht, hj, z.symm⟩)))
        refine ⟨T0, _, rfl, SqT.of e0, rfl, _, _, rfl, _, _, rfl, rfl, ?_⟩
        refine ⟨rfl, ?_⟩
        refine ⟨_, rfl, mr i j, _, 1, _, rfl, rfl, SqL.of (s2 _ _ (xx5 _ _ nrl R0)), atI_nat (j := 1) rfl, rfl, _, rfl, ?_⟩
        rw [outs_succ t j _ (List.getElem?_eq_getElem hj)]
        by_cases z : t.rows[j].out = none
        · rw [if_pos z]
          refine iteT' (by rw [z]; exact decide_eq_true rfl) ?_
          have l60 := few.rows t htm
          have l40 := few.deeds
          refine ⟨_, rfl, _, eD2, ?_, own_same nD8 s2, by rw [upd_same, List.map_append]; rfl⟩
          rw [List.length_map, sizeLine_eq]
          have := outs_len t j
          omega
        · rw [if_neg z]
          refine iteF' (by
            rw [decide_eq_true_eq]
            intro y
            cases ho : t.rows[j].out with
            | none => exact z ho
            | some o =>
              rw [ho] at y
              cases y) ⟨s2, eD2⟩
      rintro H8 ⟨s8, eD8⟩
      rw [List.length_map, List.length_range] at eD8
      have p8 := p5.same s8
      have x8 := xx5.trans (ex1_same s8)
      refine ⟨_, rfl, _, _, rfl, rfl, _, rfl, ite2 (fun e => ?_) (fun e => ?_)⟩
      · refine ⟨_, rfl, Nat.zero_le _, fun b9 n9 => ?_⟩
        have j9 := new_same (o := .lst []) n9
        have e9 : upd H8 b9 (.lst []) b9 = some (.lst []) := upd_same
        have pY := p8.same j9
        have xY := x8.trans (Ex1.new (o := .lst []) n9)
        have eD9 := j9 _ _ eD8
        generalize upd H8 b9 (.lst []) = HY at e9 pY xY eD9 ⊢
        refine ⟨D8, b9, _, rfl, rfl, SqL.of eD9, SqL.of e9, _, rfl, ite2 (fun e2 => ?_) (fun e2 => ?_)⟩
        · have lo : (outs t t.rows.length).length ≠ 0 := fun z => by
            rw [List.length_eq_zero_iff.mp z] at e2
            cases e2
          have lo2 := outs_len t t.rows.length
          have l60 := few.rows t htm
          have l40 := few.deeds
          refine ⟨_, rfl, _, rfl, _, rfl, _, rfl, D8, _, rfl, .inl (SqL.of eD9), l, c, _, _, rfl, pY, by rw [List.length_map]; omega, by rw [List.length_map]; omega, by omega, fun rA HA rA0 rA1 pA xA => ?_⟩
          obtain ⟨k, hk, ek⟩ := at_list (f := fun k : Nat => V.int ((k : Nat) : Int)) (xs := outs t t.rows.length) rA0 (by simpa using rA1)
          refine ⟨D8, _, _, _, rfl, rfl, SqL.of (xA _ _ nD8l eD9), ek, by show 3 ≤ sizeLine; decide, fun dq ndq => ?_⟩
          obtain ⟨r, hr1, hr2⟩ := outs_mem t hk
          have jd := new_same (o := .tup [.str "out", .str t.name, .int ((k : Nat) : Int)]) ndq
          have lk := (List.getElem?_eq_some_iff.mp hr1).1
          exact q dq (.out t.name k) _ _ ⟨.int ((k : Nat) : Int), SqT.of upd_same, rfl⟩ ⟨lab _ (few.name t htm), by omega⟩ ⟨i, t, r, ht, rfl, hr1, hr2, rfl⟩ (few.name t htm) ((pA.same jd).le (by omega)) ((xY.trans xA).trans (Ex1.new ndq))
        · have gY : DGet HY M (.str t.name) (some (.ref (mt i))) := gm (xY _ _ nMl S1.dict)
          refine ⟨_, rfl, _, rfl, _, rfl, M, _, rfl, gY, mt i, _, 0, _, rfl, rfl, tupX xY _ _ hT, atI_nat (j := 0) rfl, ca, rfl, ⟨_, tupX xY _ _ hC⟩, fun D nD => ?_⟩
          have nDl := (pY.not nD).1
          have nD0 : H D = none := free_ex1 xY nDl nD
          refine lc_tup (K := K) (a := ca) (xs := t.cols.map V.str) (fun j G' => Ex1 l HY G' ∧ Pen G' l c (S + 5 + 2 * ((j : Nat) : Int)) ∧ ∃ ws : List Int, G' D = some (.lst (ws.map V.int)) ∧ ws.length = j ∧ WsOk ws) ⟨Ex1.new nD, (pY.same (new_same nD)).le (by omega), [], upd_same, rfl, fun i hi => nomatch hi⟩ (fun j G' _ z => tupX (xY.trans z.1) _ _ hC) ?_ ?_
          · rintro j y G' hy ⟨xg, pg, ws, eD, lw, okw⟩
            rw [List.getElem?_map, Option.map_eq_some_iff] at hy
            obtain ⟨cn, hcn, rfl⟩ := hy
            have hj : j < t.cols.length := (List.getElem?_eq_some_iff.mp hcn).1
            refine ⟨rfl, ?_⟩
            refine ⟨_, rfl, l, c, _, rfl, pg, by omega, fun wv G2 w0 w1 p2 x2 => ?_⟩
            have eD2 := x2 _ _ nDl eD
            refine ⟨ws.map V.int, eD2, by rw [List.length_map, sizeLine_eq]; omega, ex1_own nD (xg.trans x2), by rw [show S + 5 + 2 * ((j + 1 : Nat) : Int) = S + 5 + 2 * ((j : Nat) : Int) + 2 by omega]; exact p2.off nDl (fun z => by subst z; exact (pY.not nD).2 rfl), ws ++ [wv], by rw [upd_same, List.map_append]; rfl, by rw [List.length_append, lw]; rfl, fun i hi => ?_⟩
            rcases List.mem_append.mp hi with hi | hi
            · exact okw i hi
            · rw [List.mem_singleton.mp hi]
              exact ⟨w0, w1⟩
          rintro HC ⟨xC, pC, ws, eD, lw, okw⟩
          rw [List.length_map] at lw pC
          refine .inl ⟨D, _, rfl, SqL.of eD, fun tq ntq => ⟨by show 3 ≤ sizeLine; decide, fun dq ndq => ?_⟩⟩
          have jt := new_same (o := .tup (ws.map V.int)) ntq
          have jd := new_same (o := .tup [.str "row", .str t.name, .ref tq]) ndq
          have l60 := few.rows t htm
          have l40 := few.deeds
          refine q dq (.row t.name ws) _ _ ⟨.ref tq, SqT.of upd_same, tq, rfl, Tups.of_same jd _ _ (SqT.of upd_same)⟩ ⟨lab _ (few.name t htm), okw, by omega⟩ ⟨i, t, ht, rfl, by omega, lw, rfl⟩ (few.name t htm) (((pC.same jt).same jd).le (by omega)) (((xY.trans xC).trans (Ex1.new ntq)).trans (Ex1.new ndq))
      · have pY := p8
        have xY := x8
        generalize H8 = HY at pY xY ⊢
        have gY : DGet HY M (.str t.name) (some (.ref (mt i))) := gm (xY _ _ nMl S1.dict)
        refine ⟨_, rfl, _, rfl, _, rfl, M, _, rfl, gY, mt i, _, 0, _, rfl, rfl, tupX xY _ _ hT, atI_nat (j := 0) rfl, ca, rfl, ⟨_, tupX xY _ _ hC⟩, fun D nD => ?_⟩
        have nDl := (pY.not nD).1
        have nD0 : H D = none := free_ex1 xY nDl nD
        refine lc_tup (K := K) (a := ca) (xs := t.cols.map V.str) (fun j G' => Ex1 l HY G' ∧ Pen G' l c (S + 5 + 2 * ((j : Nat) : Int)) ∧ ∃ ws : List Int, G' D = some (.lst (ws.map V.int)) ∧ ws.length = j ∧ WsOk ws) ⟨Ex1.new nD, (pY.same (new_same nD)).le (by omega), [], upd_same, rfl, fun i hi => nomatch hi⟩ (fun j G' _ z => tupX (xY.trans z.1) _ _ hC) ?_ ?_
        · rintro j y G' hy ⟨xg, pg, ws, eD, lw, okw⟩
          rw [List.getElem?_map, Option.map_eq_some_iff] at hy
          obtain ⟨cn, hcn, rfl⟩ := hy
          have hj : j < t.cols.length := (List.getElem?_eq_some_iff.mp hcn).1
          refine ⟨rfl, ?_⟩
          refine ⟨_, rfl, l, c, _, rfl, pg, by omega, fun wv G2 w0 w1 p2 x2 => ?_⟩
          have eD2 := x2 _ _ nDl eD
          refine ⟨ws.map V.int, eD2, by rw [List.length_map, sizeLine_eq]; omega, ex1_own nD (xg.trans x2), by rw [show S + 5 + 2 * ((j + 1 : Nat) : Int) = S + 5 + 2 * ((j : Nat) : Int) + 2 by omega]; exact p2.off nDl (fun z => by subst z; exact (pY.not nD).2 rfl), ws ++ [wv], by rw [upd_same, List.map_append]; rfl, by rw [List.length_append, lw]; rfl, fun i hi => ?_⟩
          rcases List.mem_append.mp hi with hi | hi
          · exact okw i hi
          · rw [List.mem_singleton.mp hi]
            exact ⟨w0, w1⟩
        rintro HC ⟨xC, pC, ws, eD, lw, okw⟩
        rw [List.length_map] at lw pC
        refine .inl ⟨D, _, rfl, SqL.of eD, fun tq ntq => ⟨by show 3 ≤ sizeLine; decide, fun dq ndq => ?_⟩⟩
        have jt := new_same (o := .tup (ws.map V.int)) ntq
        have jd := new_same (o := .tup [.str "row", .str t.name, .ref tq]) ndq
        have l60 := few.rows t htm
        have l40 := few.deeds
        refine q dq (.row t.name ws) _ _ ⟨.ref tq, SqT.of upd_same, tq, rfl, Tups.of_same jd _ _ (SqT.of upd_same)⟩ ⟨lab _ (few.name t htm), okw, by omega⟩ ⟨i, t, ht, rfl, by omega, lw, rfl⟩ (few.name t htm) (((pC.same jt).same jd).le (by omega)) (((xY.trans xC).trans (Ex1.new ntq)).trans (Ex1.new ndq))
end
end K20
end

section
set_option Elab.async false
set_option linter.all false
set_option maxRecDepth 100000
set_option maxHeartbeats 4000000
/-! what a deed keeps of the law's tables. -/
namespace K20
open PySem PySem.Spec PyProof.Rows L2 Gd
theorem FitS.next {x y : Shelf} {d : Deed} (fit : FitS x) (dok : DeedOk d) (can : Can x d y) (h : x.deeds.length < 4000) : FitS { y with deeds := x.deeds ++ [d] } := by
  have ok := fit.ok.next dok can h
  cases d with
  | table n cs =>
    obtain ⟨c1, c2, rfl⟩ := can
    have sp : ∀ t ∈ x.tabs ++ [⟨n, cs, x.deeds.length, []⟩], t ∈ x.tabs ∨ t = ⟨n, cs, x.deeds.length, []⟩ := fun t ht => by
      rcases List.mem_append.mp ht with h | h
      · exact .inl h
      · exact .inr (List.mem_singleton.mp h)
    refine ⟨ok, fun t ht => ?_, fun t ht => ?_, fun t ht => ?_⟩
    · rcases sp t ht with h | rfl
      · exact fit.nd t h
      · exact dok.2.nd
    · rcases sp t ht with h | rfl
      · exact fit.four t h
      · exact dok.2.four
    · rcases sp t ht with h | rfl
      · exact fit.wide t h
      · exact fun r hr => nomatch hr
  | row n ws =>
    obtain ⟨i, t, ht, rfl, h60, hl, rfl⟩ := can
    refine ⟨ok, fun u hu => ?_, fun u hu => ?_, fun u hu => ?_⟩
    · obtain ⟨t0, h0, _, e2, _, _⟩ := onRows_mem (x := x) (n := t.name) (g := fun rs => rs ++ [⟨ws, x.deeds.length, none⟩]) hu
      rw [e2]
      exact fit.nd t0 h0
    · obtain ⟨t0, h0, _, e2, _, _⟩ := onRows_mem (x := x) (n := t.name) (g := fun rs => rs ++ [⟨ws, x.deeds.length, none⟩]) hu
      rw [e2]
      exact fit.four t0 h0
    · obtain ⟨t0, h0, _, e2, _, (⟨_, e⟩ | ⟨en, e⟩)⟩ := onRows_mem (x := x) (n := t.name) (g := fun rs => rs ++ [⟨ws, x.deeds.length, none⟩]) hu
      · rw [e, e2]
        exact fit.wide t0 h0
      · rw [e, e2]
        intro r hr
        rcases List.mem_append.mp hr with h | h
        · exact fit.wide t0 h0 r h
        · rw [List.mem_singleton.mp h, tab_one fit.ok.nd ht h0 en]
          exact hl
  | out n k =>
    obtain ⟨i, t, r, ht, rfl, hk, ho, rfl⟩ := can
    refine ⟨ok, fun u hu => ?_, fun u hu => ?_, fun u hu => ?_⟩
    · obtain ⟨t0, h0, _, e2, _, _⟩ := onRows_mem (x := x) (n := t.name) (g := fun rs => rs.set k ⟨r.ws, r.put, some x.deeds.length⟩) hu
      rw [e2]
      exact fit.nd t0 h0
    · obtain ⟨t0, h0, _, e2, _, _⟩ := onRows_mem (x := x) (n := t.name) (g := fun rs => rs.set k ⟨r.ws, r.put, some x.deeds.length⟩) hu
      rw [e2]
      exact fit.four t0 h0
    · obtain ⟨t0, h0, _, e2, _, (⟨_, e⟩ | ⟨en, e⟩)⟩ := onRows_mem (x := x) (n := t.name) (g := fun rs => rs.set k ⟨r.ws, r.put, some x.deeds.length⟩) hu
      · rw [e, e2]
        exact fit.wide t0 h0
      · rw [e, e2]
        intro r0 hr
        rcases List.mem_or_eq_of_mem_set hr with h | h
        · exact fit.wide t0 h0 r0 h
        · rw [h]
          have z := fit.wide t (List.mem_of_getElem? ht) r (List.mem_of_getElem? hk)
          rw [tab_one fit.ok.nd ht h0 en]
          exact z
theorem Few.next {ns : List Str} {x y : Shelf} {d : Deed} (few : Few ns x) (dok : DeedOk d) (can : Can x d y) (hn : d.name ∈ ns) (h : x.deeds.length < 40) : Few ns { y with deeds := x.deeds ++ [d] } := by
  have fit := few.fit.next dok can (by omega)
  have hl : (x.deeds ++ [d]).length = x.deeds.length + 1 := by rw [List.length_append, List.length_singleton]
  cases d with
  | table n cs =>
    obtain ⟨c1, c2, rfl⟩ := can
    have sp : ∀ t ∈ x.tabs ++ [⟨n, cs, x.deeds.length, []⟩], t ∈ x.tabs ∨ t = ⟨n, cs, x.deeds.length, []⟩ := fun t ht => by
      rcases List.mem_append.mp ht with h | h
      · exact .inl h
      · exact .inr (List.mem_singleton.mp h)
    refine ⟨fit, fun t ht => ?_, fun t ht => ?_, by show (x.deeds ++ [_]).length ≤ 40; omega, fun t ht => ?_, fun t ht => ?_, fun t ht => ?_⟩
    · rcases sp t ht with h | rfl
      · exact few.name t h
      · exact hn
    · show t.rows.length ≤ (x.deeds ++ [_]).length
      rcases sp t ht with h | rfl
      · have := few.rows t h
        omega
      · exact Nat.zero_le _
    · rcases sp t ht with h | rfl
      · exact few.one t h
      · exact dok.2.one
    · show t.made < (x.deeds ++ [_]).length
      rcases sp t ht with h | rfl
      · have := few.made t h
        omega
      · show x.deeds.length < _
        omega
    · rcases sp t ht with h | rfl
      · exact few.cl t h
      · exact dok.2.lab
  | row n ws =>
    obtain ⟨i, t, ht, rfl, h60, hl2, rfl⟩ := can
    refine ⟨fit, fun u hu => ?_, fun u hu => ?_, by show (x.deeds ++ [_]).length ≤ 40; omega, fun u hu => ?_, fun u hu => ?_, fun u hu => ?_⟩
    · obtain ⟨t0, h0, e1, _⟩ := onRows_mem (x := x) (n := t.name) (g := fun rs => rs ++ [⟨ws, x.deeds.length, none⟩]) hu
      rw [e1]
      exact few.name t0 h0
    · show u.rows.length ≤ (x.deeds ++ [_]).length
      obtain ⟨t0, h0, _, e2, _, (⟨_, e⟩ | ⟨en, e⟩)⟩ := onRows_mem (x := x) (n := t.name) (g := fun rs => rs ++ [⟨ws, x.deeds.length, none⟩]) hu
      · rw [e]
        have := few.rows t0 h0
        omega
      · rw [e, List.length_append, List.length_singleton]
        have := few.rows t0 h0
        omega
    · obtain ⟨t0, h0, _, e2, _, _⟩ := onRows_mem (x := x) (n := t.name) (g := fun rs => rs ++ [⟨ws, x.deeds.length, none⟩]) hu
      rw [e2]
      exact few.one t0 h0
    · show u.made < (x.deeds ++ [_]).length
      obtain ⟨t0, h0, _, _, e3, _⟩ := onRows_mem (x := x) (n := t.name) (g := fun rs => rs ++ [⟨ws, x.deeds.length, none⟩]) hu
      rw [e3]
      have := few.made t0 h0
      omega
    · obtain ⟨t0, h0, _, e2, _, _⟩ := onRows_mem (x := x) (n := t.name) (g := fun rs => rs ++ [⟨ws, x.deeds.length, none⟩]) hu
      rw [e2]
      exact few.cl t0 h0
  | out n k =>
    obtain ⟨i, t, r, ht, rfl, hk, ho, rfl⟩ := can
    refine ⟨fit, fun u hu => ?_, fun u hu => ?_, by show (x.deeds ++ [_]).length ≤ 40; omega, fun u hu => ?_, fun u hu => ?_, fun u hu => ?_⟩
    · obtain ⟨t0, h0, e1, _⟩ := onRows_mem (x := x) (n := t.name) (g := fun rs => rs.set k ⟨r.ws, r.put, some x.deeds.length⟩) hu
      rw [e1]
      exact few.name t0 h0
    · show u.rows.length ≤ (x.deeds ++ [_]).length
      obtain ⟨t0, h0, _, e2, _, (⟨_, e⟩ | ⟨en, e⟩)⟩ := onRows_mem (x := x) (n := t.name) (g := fun rs => rs.set k ⟨r.ws, r.put, some x.deeds.length⟩) hu
      · rw [e]
        have := few.rows t0 h0
        omega
      · rw [e, List.length_set]
        have := few.rows t0 h0
        omega
    · obtain ⟨t0, h0, _, e2, _, _⟩ := onRows_mem (x := x) (n := t.name) (g := fun rs => rs.set k ⟨r.ws, r.put, some x.deeds.length⟩) hu
      rw [e2]
      exact few.one t0 h0
    · show u.made < (x.deeds ++ [_]).length
      obtain ⟨t0, h0, _, _, e3, _⟩ := onRows_mem (x := x) (n := t.name) (g := fun rs => rs.set k ⟨r.ws, r.put, some x.deeds.length⟩) hu
      rw [e3]
      have := few.made t0 h0
      omega
    · obtain ⟨t0, h0, _, e2, _, _⟩ := onRows_mem (x := x) (n := t.name) (g := fun rs => rs.set k ⟨r.ws, r.put, some x.deeds.length⟩) hu
      rw [e2]
      exact few.cl t0 h0
/-- behind a deed some table is there -/
theorem Can.some {x y : Shelf} {d : Deed} (can : Can x d y) : y.tabs ≠ [] := by
  cases d with
  | table n cs =>
    obtain ⟨_, _, rfl⟩ := can
    simp
  | row n ws =>
    obtain ⟨i, t, ht, _, _, _, rfl⟩ := can
    intro z
    have : (x.tabs.map _) = [] := z
    rw [List.map_eq_nil_iff] at this
    rw [this] at ht
    simp at ht
  | out n k =>
    obtain ⟨i, t, r, ht, _, _, _, rfl⟩ := can
    intro z
    have : (x.tabs.map _) = [] := z
    rw [List.map_eq_nil_iff] at this
    rw [this] at ht
    simp at ht
end K20
end

section
set_option Elab.async false
set_option linter.all false
set_option maxRecDepth 100000
set_option maxHeartbeats 4000000
/-! what the law counts of a moment. -/
namespace K20
open PySem PySem.Spec PyProof.Rows L2 Gd
/-! ### texts in order -/
def unS : PyData → Str
  | .str s => s
  | _ => ""
def ordS (ns : List Str) : List Str := (told (ns.map PyData.str)).map unS
theorem told_strs (ns : List Str) : ∀ d ∈ told (ns.map PyData.str), ∃ s, d = .str s := fun d hd => by
  obtain ⟨s, _, e⟩ := List.mem_map.mp ((told_perm _).mem_iff.mp hd)
  exact ⟨s, e.symm⟩
theorem ordS_map (ns : List Str) : (ordS ns).map PyData.str = told (ns.map PyData.str) := by
  unfold ordS
  rw [List.map_map]
  have h := told_strs ns
  generalize told (ns.map PyData.str) = l at h
  induction l with
  | nil => rfl
  | cons d l ih =>
    obtain ⟨s, e⟩ := h d (by simp)
    rw [List.map_cons, ih fun d hd => h d (by simp [hd]), e]
    rfl
theorem ordS_perm (ns : List Str) : (ordS ns).Perm ns := by
  have z := (told_perm (ns.map PyData.str)).map unS
  rw [List.map_map, show unS ∘ PyData.str = id from rfl, List.map_id] at z
  exact z
theorem alike_strs (ns : List Str) : PySem.W.AllAlike (ns.map PyData.str) := PySem.W.AllAlike.of fun a b => by simp [PySem.W.alike]
theorem ordS_eq {ns ms : List Str} (p : ns.Perm ms) : ordS ns = ordS ms := by
  unfold ordS
  rw [told_alike (p.map _) (alike_strs ns)]
theorem ordS_filter (ns : List Str) (f : Str → Bool) : (ordS ns).filter f = ordS (ns.filter f) := by
  have inj : ∀ a b : List Str, a.map PyData.str = b.map PyData.str → a = b := fun a b h => by
    have z := congrArg (List.map unS) h
    rw [List.map_map, List.map_map, show unS ∘ PyData.str = id from rfl, List.map_id, List.map_id] at z
    exact z
  refine inj _ _ ?_
  have p : ((ordS ns).filter f).Perm (ns.filter f) := (ordS_perm ns).filter f
  refine perm_sorted (r := fun a b => PySem.W.dataLe false id a b = true) ((p.trans (ordS_perm (ns.filter f)).symm).map _) ?_ ?_ fun a ha b hb h1 h2 => ?_
  · have z := told_sorted (ns.map PyData.str)
    rw [← ordS_map] at z
    exact List.Pairwise.sublist (List.Sublist.map _ List.filter_sublist) z
  · rw [ordS_map]
    exact told_sorted _
  · obtain ⟨s, _, rfl⟩ := List.mem_map.mp ha
    obtain ⟨u, _, rfl⟩ := List.mem_map.mp hb
    exact alike_anti (by simp [PySem.W.alike]) h1 h2
/-! ### what is told of a table -/
def ways (t : Tab) (m : Nat) : List (Str × Int) := t.cols.zipIdx.map fun p => (p.1, (unlike (t.at m t.rows.length) p.2 : Int))
theorem countsK_ways (t : Tab) (m : Nat) : countsK t.cols (t.at m t.rows.length) = (ways t m).map pairK := by
  unfold countsK ways
  rw [List.map_map]
  rfl
def tabD (t : Tab) (m : Nat) : PyData := .tuple [.str t.name, .int (t.at m t.rows.length).length, .list (told ((ways t m).map pairI))]
def tdat (ts : List Tab) (m : Nat) (n : Str) : PyData := match ts.find? fun t => decide (t.name = n) with
  | some t => tabD t m
  | none => .none
theorem tdat_of {ts : List Tab} (nd : (ts.map Tab.name).Nodup) {t : Tab} (h : t ∈ ts) (m : Nat) : tdat ts m t.name = tabD t m := by
  unfold tdat
  have e : ts.find? (fun u => decide (u.name = t.name)) = some t := by
    induction ts with
    | nil => cases h
    | cons u ts ih =>
      rw [List.map_cons, List.nodup_cons] at nd
      by_cases z : u.name = t.name
      · rw [List.find?_cons_of_pos (by simpa using z)]
        rcases List.mem_cons.mp h with h | h
        · rw [h]
        · exact absurd (by rw [z]; exact List.mem_map.mpr ⟨t, h, rfl⟩) nd.1
      · rw [List.find?_cons_of_neg (by simpa using z)]
        rcases List.mem_cons.mp h with h | h
        · exact absurd (by rw [h]) z
        · exact ih nd.2 h
  rw [e]
def madeOf (ts : List Tab) (m : Nat) (n : Str) : Bool := ts.any fun t => decide (t.name = n) && decide (t.made < m)
theorem madeOf_of {ts : List Tab} (nd : (ts.map Tab.name).Nodup) {t : Tab} (h : t ∈ ts) (m : Nat) : madeOf ts m t.name = decide (t.made < m) := by
  unfold madeOf
  induction ts with
  | nil => cases h
  | cons u ts ih =>
    rw [List.map_cons, List.nodup_cons] at nd
    rw [List.any_cons]
    rcases List.mem_cons.mp h with h | h
    · subst h
      have : (ts.any fun u => decide (u.name = t.name) && decide (u.made < m)) = false := by
        rw [List.any_eq_false]
        intro u hu
        have : u.name ≠ t.name := fun z => nd.1 (by rw [← z]; exact List.mem_map.mpr ⟨u, hu, rfl⟩)
        simp [this]
      rw [this]
      simp
    · have z : u.name ≠ t.name := fun z => nd.1 (by rw [z]; exact List.mem_map.mpr ⟨t, h, rfl⟩)
      rw [ih nd.2 h]
      simp [z]
theorem names_filter {ts : List Tab} (nd : (ts.map Tab.name).Nodup) (m : Nat) : (ts.map Tab.name).filter (madeOf ts m) = namesAt ts m := by
  unfold namesAt
  rw [List.filter_map]
  congr 1
  refine List.filter_congr fun t ht => ?_
  exact madeOf_of nd ht m
/-- what is due of a moment -/
def dueD (ts : List Tab) (m : Nat) : PyData := .list ((ordS (namesAt ts m)).map (tdat ts m))
end K20
end

section
set_option Elab.async false
set_option linter.all false
set_option maxRecDepth 100000
set_option maxHeartbeats 4000000
/-! what the law counts of a moment: the law's def. -/
namespace K20
open PySem PySem.Spec PyProof.Rows L2 Gd
abbrev sDue : Stmt := topS 34
abbrev nDue : List Str := ["_law_model", "_law_when", "_law_found", "_law_name", "_law_columns", "_law_rows", "_law_first", "_law_some", "_law_ways", "_law_row", "_law_at", "_law_column"]
theorem scDue : FnScope nDue ["_law_model", "_law_when"] (defScope sDue) := ⟨rfl, rfl, rfl, by decide +kernel, rfl, by decide +kernel, by decide +kernel⟩
/-- the names of the comprehension of ways -/
def scWays : Scope := { kind := .function, names := [(".0", .local), ("_law_at", .cell), ("_law_column", .local), ("len", .globalImplicit), ("set", .globalImplicit), ("_law_some", .cell)], isGenerator := false, isCoroutine := false }
theorem pi_listK (K : PySem.W.Frag) {X : Cx} {tg l : Expr} {tl : TE} (hl : PE X l tl) (hK : X.K = K := by rfl) : PI X tg l (iList K tl) := by
  subst hK
  exact pi_list hl
theorem pe_lenSetKK (K : PySem.W.Frag) {X : Cx} {a : Expr} {ta : TE} {p p2 q pos : Pos} (hc : X.calm = true) (hg : Gl X "len") (hm : X.mg "len" = none) (hg2 : Gl X "set") (hm2 : X.mg "set" = none) (ha : PE X a ta) (hK : X.K = K := by rfl)
    (na : starEach [a] X.env = (false, eval a X.env) :: starEach [] X.env := by rfl) : PE X (.Call (.Name "len" p) [.Call (.Name "set" p2) [a] [] q] [] pos) (Sk.tLenSetK K ta) := by
  subst hK
  exact Sk.pe_lenSetK hc hg hm hg2 hm2 ha na
/-- what is told of a table, at v -/
def TabAt (K : PySem.W.Frag) (G : Hp) (D : Addr) (ts : List Tab) (m : Nat) (v : V) (n : Str) : Prop :=
  ∃ t r R us, t ∈ ts ∧ t.name = n ∧ v = .ref r ∧ R ≠ D ∧ SqT K G r [.str n, .int ((t.at m t.rows.length).length : Nat), .ref R] ∧ G R = some (.lst us) ∧ DpAll K G us (told ((ways t m).map pairI))
theorem pairs_only (l : List (Str × Int)) : tupOnlyAll (told (l.map pairI)) = true := by
  have h : ∀ ds : List PyData, (∀ d ∈ ds, tupOnly d = true) → tupOnlyAll ds = true := fun ds => by
    induction ds with
    | nil => intro _; rfl
    | cons d ds ih =>
      intro h
      show (tupOnly d && tupOnlyAll ds) = true
      rw [h d (by simp), ih fun e he => h e (by simp [he])]
      rfl
  refine h _ fun d hd => ?_
  obtain ⟨p, _, rfl⟩ := List.mem_map.mp ((told_perm _).mem_iff.mp hd)
  rfl
theorem TabAt.keep {K : PySem.W.Frag} {G G' : Hp} {D : Addr} {ts : List Tab} {m : Nat} {v : V} {n : Str} (t : Tups K G G') (k : ∀ b o, b ≠ D → G b = some o → G' b = some o) (h : TabAt K G D ts m v n) : TabAt K G' D ts m v n := by
  obtain ⟨u, r, R, us, h1, h2, h3, h4, h5, h6, h7⟩ := h
  exact ⟨u, r, R, us, h1, h2, h3, h4, t _ _ h5, k _ _ h4 h6, DpAll.tups t _ (pairs_only _) h7⟩
theorem TabAt.dp {K : PySem.W.Frag} {G : Hp} {D : Addr} {ts : List Tab} {m : Nat} (nd : (ts.map Tab.name).Nodup) : ∀ {vs : List V} {ys : List Str}, PySem.W.EachIs (TabAt K G D ts m) vs ys → DpAll K G vs (ys.map (tdat ts m))
  | _, _, .nil => .nil
  | _, _, .cons ⟨t, r, R, us, h1, h2, h3, h4, h5, h6, h7⟩ c => by
    refine .cons ?_ (TabAt.dp nd c)
    rw [← h2, tdat_of nd h1, h3]
    rw [← h2] at h5
    exact .tup h5 (.cons (.str _) (.cons (.int _) (.cons (.lst (SqL.of h6) h7) .nil)))
theorem dp_strs_inv {K : PySem.W.Frag} {H : Hp} : ∀ {ws : List Str} {xs : List V}, DpAll K H xs (ws.map PyData.str) → xs = ws.map V.str
  | [], _, h => by cases h; rfl
  | w :: ws, _, h => by
    cases h with
    | cons h1 h2 =>
    cases h1
    rw [dp_strs_inv h2]
    rfl
theorem dp_strs {K : PySem.W.Frag} {H : Hp} : ∀ ws : List Str, DpAll K H (ws.map V.str) (ws.map PyData.str)
  | [] => .nil
  | w :: ws => .cons (.str w) (dp_strs ws)
theorem keys_cols (ts : List Tab) (f : Nat → Addr) : ((colsK ts f).map fun kv => kV kv.1) = (ts.map Tab.name).map V.str := by
  unfold colsK
  rw [List.map_map, List.map_map]
  have e : ∀ (l : List Tab) (k : Nat), (l.zipIdx k).map ((fun kv : Key × V => kV kv.1) ∘ fun p => ((.inr p.1.name : Key), V.ref (f p.2))) = l.map (V.str ∘ Tab.name) := fun l => by
    induction l with
    | nil => intro k; rfl
    | cons t l ih =>
      intro k
      rw [List.zipIdx_cons, List.map_cons, ih, List.map_cons]
      rfl
  exact e ts 0
theorem strs_sortable (ns : List Str) : PySem.W.Sortable (ns.map PyData.str) := PySem.W.Sortable.others fun b => ⟨(fun z => nomatch z), (fun _ z => nomatch z)⟩
theorem pairs_alike (l : List (Str × Int)) : PySem.W.AllAlike (l.map pairI) := PySem.W.AllAlike.of fun b b' => by simp [pairI, PySem.W.alike, PySem.W.alikeAll]
theorem pairs_sortable (l : List (Str × Int)) : PySem.W.Sortable (l.map pairI) := PySem.W.Sortable.tuples fun b => ⟨_, _, rfl⟩
theorem pairs_depth (l : List (Str × Int)) : ∀ d ∈ l.map pairI, d.depth ≤ 50 := fun d hd => by
  obtain ⟨p, _, rfl⟩ := List.mem_map.mp hd
  simp [pairI, PyData.depth, PyData.depthAll]
def spDue (K : PySem.W.Frag) : Sp := fun vs H Q _ => ∃ (M : Addr) (x : Shelf) (G : Addr → Prop) (m : Nat), vs = [.ref M, .int ((m : Nat) : Int)] ∧ ModF K H M x.tabs G ∧ FitS x ∧ ∀ H' D, Same H H' → H D = none → Dp K H' (.ref D) (dueD x.tabs m) → Q (.ref D) H'
section
variable {P : Program} {w : World} {K : PySem.W.Frag} {mg : Str → Option Value} {base : Heap} {f : Addr} {fd : FuncData}
theorem ok_due (F : Fun K "_law_due" "_law_due" sDue f fd) (mn : mg "len" = none) (me : mg "enumerate" = none) (ms : mg "sorted" = none) (ml_ : mg "list" = none) (mset : mg "set" = none) : FnOk P w K mg base CX0 1 f fd ["_law_model", "_law_when"] (spDue K) := by
  refine F.ok scDue (fun vs H Q E h => ?_) (fun cdv A outer s H vs Q E hr h => ?_)
  · obtain ⟨M, x, G, m, rfl, _⟩ := h
    rfl
  obtain ⟨M, x, G, m, rfl, hM, fit, q⟩ := h
  have nd := scDue.nd
  have hu := hu_of hr
  refine ⟨_, pss_cons (ps_set (i := 2) nd rfl (by first | exact .inl rfl | exact .inr rfl) (pe_lst pa_nil))
    (C8.pss_cut (ps_for PassesOwn.never rfl (pi_list (pe_callB (call_sortedD hr.units) (by rfl) ms (by decide +kernel) (pa_cons (pe_callTy (call_listD rfl) (by rfl) ml_ (by decide +kernel) (pa_cons (pv 0) pa_nil)) pa_nil))) (pg_name (i := 3) nd rfl (by first | exact .inl rfl | exact .inr rfl))
      (pss_cons (ps_asg (pe_dget hu (pv 0) (pv 3) (fun _ _ => rfl)) (pg_tup (n := 3) rfl (pgs_cons (pg_name (i := 4) nd rfl (by first | exact .inl rfl | exact .inr rfl)) (pgs_cons (pg_name (i := 5) nd rfl (by first | exact .inl rfl | exact .inr rfl)) (pgs_cons (pg_name (i := 6) nd rfl (by first | exact .inl rfl | exact .inr rfl)) pgs_nil)))))
      (pss_cons (ps_set (i := 7) nd rfl (by first | exact .inl rfl | exact .inr rfl) (pe_lc (own := [("_law_row", 9)]) (g := gName 9) rfl nd (pi_list (pv 5)) (blkOk_by (N := nDue) (sc := defScope sDue) (by decide +kernel)) (fun _ _ _ _ _ => pg_name (i := 9) nd rfl (Or.inl rfl))
        (fun _ _ _ _ _ => pts_one (PW.pt (pw_and (pt_cmpR op_le (pe_ix (ix_listK K) (pv 9) pe_int (fun _ _ => rfl)) (pv 1) (nomark _)) (pw_and1 (PW.pt (pw_or (pt_cmpR op_isN (pe_ix (ix_listK K) (pv 9) pe_int (fun _ _ => rfl)) pe_non (nomark _)) (pw_or1 (pt_cmpR op_gt (pe_ix (ix_listK K) (pv 9) pe_int (fun _ _ => rfl)) (pv 1) (nomark _)))))))))
        (fun _ _ _ _ _ => pe_ix (ix_listK K) (pv 9) pe_int (fun _ _ => rfl))))
      (pss_one (ps_if (pt_cmpR op_le (pv 6) (pv 1) (nomark _))
        (pss_cons (ps_setLc (i := 8) (own := [("_law_at", 10), ("_law_column", 11)]) (g := gTup K 2 (gCons (gName 10) (gCons (gName 11) gNil))) (tt := tYes) rfl nd rfl rfl (by rfl) (pi_ET (by rfl) me (pa_cons (pv 4) pa_nil)) (blkOk_by (N := nDue) (sc := defScope sDue) (by decide +kernel))
          (fun _ _ _ _ _ => pg_tup rfl (pgs_cons (pg_name (i := 10) nd rfl (Or.inr rfl)) (pgs_cons (pg_name (i := 11) nd rfl (Or.inl rfl)) pgs_nil))) (fun _ _ _ _ _ => pts_nil)
          (fun _ _ _ _ _ => pe_tup (pa_cons (pv 11) (pa_cons (pe_lenSetKK K rfl (by rfl) mn (by rfl) mset (pe_lc (own := [("_law_row", 9)]) (g := gName 9) (tt := tYes) rfl nd (pi_listK K (pv 7)) (blkOk_by (N := nDue) (sc := scWays) (by decide +kernel)) (fun _ _ _ _ _ => pg_name (i := 9) nd rfl (Or.inl rfl)) (fun _ _ _ _ _ => pts_nil)
            (fun _ _ _ _ _ => pe_ix (ix_tupK K) (pv 9) (pv 10) (fun _ _ => rfl)))) pa_nil))))
        (pss_one (ps_expr (pe_bm PySem.F.plainAttrs_list PySem.F.slot_list_append PySem.F.type_list_append mt_append (pv 2) (pa_cons (pe_tup (pa_cons (pv 3) (pa_cons (pe_callB call_len_seq (by rfl) mn PySem.boot_len (pa_cons (pv 7) pa_nil)) (pa_cons (pe_callB (call_sortedD hr.units) (by rfl) ms (by decide +kernel) (pa_cons (pv 8) pa_nil)) pa_nil)))) pa_nil))))) pss_nil)))))
    (pss_one (ps_ret (pv 2)))), ?_⟩
  refine ⟨Nat.zero_le _, fun D nD => ?_⟩
  have j1 := new_same (o := .lst []) nD
  have eD1 : upd H D (.lst []) D = some (.lst []) := upd_same
  generalize upd H D (.lst []) = H1 at j1 eD1 ⊢
  obtain ⟨mt, ml, mr, S, hG⟩ := hM
  have lcols : (colsK x.tabs mt).length = x.tabs.length := by unfold colsK; rw [List.length_map, List.length_zipIdx]
  refine ⟨fun σ' G2 => (∃ y3 y4 y5 y6 y7 y8, σ' = [some (.ref M), some (.int ((m : Nat) : Int)), some (.ref D), y3, y4, y5, y6, y7, y8, none, none, none]) ∧ Same H G2 ∧ ∃ vs, G2 D = some (.lst vs) ∧ PySem.W.EachIs (TabAt K G2 D x.tabs m) vs (ordS (namesAt x.tabs m)), ?_, ?_⟩
  · refine ⟨_, rfl, M, _, rfl, .inl (j1 _ _ S.dict), fun L0 nL0 => ?_⟩
    rw [keys_cols]
    have j2 := new_same (o := .lst ((x.tabs.map Tab.name).map V.str)) nL0
    have eL0 : upd H1 L0 (.lst ((x.tabs.map Tab.name).map V.str)) L0 = some (.lst ((x.tabs.map Tab.name).map V.str)) := upd_same
    generalize upd H1 L0 (.lst ((x.tabs.map Tab.name).map V.str)) = H2 at j2 eL0 ⊢
    have l6 := fit.ok.tabs
    refine ⟨L0, _, (x.tabs.map Tab.name).map PyData.str, rfl, SqL.of eL0, dp_strs _, alike_strs _, strs_sortable _, by rw [List.length_map, List.length_map]; omega, fun d hd => ?_, fun us L nL dU => ?_⟩
    · obtain ⟨n, _, rfl⟩ := List.mem_map.mp hd
      exact Nat.zero_le _
    rw [← ordS_map] at dU
    obtain rfl := dp_strs_inv dU
    have j3 := new_same (o := .lst ((ordS (x.tabs.map Tab.name)).map V.str)) nL
    have eL : upd H2 L (.lst ((ordS (x.tabs.map Tab.name)).map V.str)) L = some (.lst ((ordS (x.tabs.map Tab.name)).map V.str)) := upd_same
    have s13 := j2.trans j3
    generalize upd H2 L (.lst ((ordS (x.tabs.map Tab.name)).map V.str)) = H3 at j3 eL s13 ⊢
    have eD3 := s13 _ _ eD1
    have nLD : L ≠ D := fun z => by rw [z, j2 _ _ eD1] at nL; cases nL
    have sH3 := j1.trans s13
    refine ⟨L, rfl, ⟨_, SqL.of eL⟩, ?_⟩
    have py := ordS_perm (x.tabs.map Tab.name)
    have ef := ordS_filter (x.tabs.map Tab.name) (madeOf x.tabs m)
    rw [names_filter fit.ok.nd m] at ef
    rw [← ef]
    generalize ordS (x.tabs.map Tab.name) = ys at py eL nLD ef ⊢
    have nod : ys.Nodup := py.nodup_iff.mpr fit.ok.nd
    have ly : ys.length ≤ 6 := by rw [py.length_eq, List.length_map]; exact l6
    refine for_it (walk_list (K := K) (a := L) (xs := ys.map V.str)) (fun k σ G1 => (∃ y3 y4 y5 y6 y7 y8, σ = [some (.ref M), some (.int ((m : Nat) : Int)), some (.ref D), y3, y4, y5, y6, y7, y8, none, none, none]) ∧ (∀ b o, b ≠ D → H3 b = some o → G1 b = some o) ∧ ∃ vs, G1 D = some (.lst vs) ∧ vs.length ≤ k ∧ PySem.W.EachIs (TabAt K G1 D x.tabs m) vs ((ys.take k).filter (madeOf x.tabs m)))
      ⟨⟨_, _, _, _, _, _, rfl⟩, fun _ _ _ e => e, [], eD3, Nat.le_refl _, .nil⟩ (fun k σ G1 _ z => SqL.of (z.2.1 _ _ nLD eL)) ?_ ?_
    · rintro k y σ G1 G2 hk ⟨⟨y3, y4, y5, y6, y7, y8, rfl⟩, off, vs, eD, lv, rel⟩ ⟨rfl, hy⟩
      have hy : (ys.map V.str)[k]? = some y := hy
      rw [List.getElem?_map, Option.map_eq_some_iff] at hy
      obtain ⟨n, hn, rfl⟩ := hy
      have hk6 : k < ys.length := (List.getElem?_eq_some_iff.mp hn).1
      obtain ⟨t, ht, rfl⟩ := List.mem_map.mp (py.mem_iff.mp (List.mem_of_getElem? hn))
      obtain ⟨i, hi⟩ := List.mem_iff_getElem?.mp ht
      have nn : ∀ {b o}, H b = some o → b ≠ D := fun e => ne_of_none e nD
      have offH : ∀ b o, H b = some o → G2 b = some o := fun b o e => off b o (nn e) (sH3 _ _ e)
      obtain ⟨ca, hT, hC⟩ := S.tup i t hi
      have tpH : Tups K H G2 := Tups.of_same offH
      have gd : DGet G2 M (.str t.name) (some (.ref (mt i))) := by
        have z := DGet.k (k := .inr t.name) (offH _ _ S.dict)
        rw [valV_idx0 fit.ok.nd hi] at z
        exact z
      refine ⟨_, rfl, _, rfl, M, _, rfl, gd, mt i, _, rfl, tpH _ _ hT, rfl, _, _, rfl, _, _, rfl, _, _, rfl, rfl, ?_⟩
      have L1 := S.lst i t hi
      refine ⟨_, rfl, ml i, rfl, ⟨_, SqL.of (offH _ _ L1)⟩, fun R nR => ?_⟩
      have nR0 : R ≠ D := fun z => by rw [z, eD] at nR; cases nR
      have wsl : ∀ r ∈ t.rows, r.ws.length ≤ 1000 := fun r hr0 => fit.ok.ws t ht r hr0
      have wide := fit.wide t ht
      have l60 := fit.ok.rows t ht
      have at60 : ∀ j, (t.at m j).length ≤ 60 := fun j => by
        unfold Tab.at
        refine Nat.le_trans (List.length_filter_le _ _) ?_
        rw [List.length_map, List.length_zipIdx, List.length_take]
        omega
      refine lc_list (K := K) (a := ml i) (xs := (List.range t.rows.length).map fun k => V.ref (mr i k)) (fun j G' => Same G2 G' ∧ ∃ ws, G' R = some (.lst ws) ∧ DpAll K G' ws ((t.at m j).map wsD)) ⟨new_same nR, [], upd_same, by
          have z : t.at m 0 = [] := rfl
          rw [z]
          exact .nil⟩ (fun j G' _ z => SqL.of (z.1 _ _ (offH _ _ L1))) ?_ ?_
      · rintro j y G' hy ⟨sg, ws, eR, dw⟩
        have hj : j < t.rows.length := by
          have := (List.getElem?_eq_some_iff.mp hy).1
          rw [List.length_map, List.length_range] at this
          exact this
        rw [List.getElem?_map, List.getElem?_range hj] at hy
        cases hy
        have er : t.rows[j]? = some t.rows[j] := List.getElem?_eq_getElem hj
        obtain ⟨b, R0, W0⟩ := S.row i t j _ hi er
        generalize t.rows[j] = r at er R0 W0
        have Rg := sg _ _ (offH _ _ R0)
        have Wg := Tups.of_same sg _ _ (tpH _ _ W0)
        have row : SqL K G' (mr i j) (mRow r b) := SqL.of Rg
        rw [at_succ t m j r er]
        refine ⟨rfl, ?_⟩
        have lw : ws.length ≤ 60 := by
          rw [DpAll.len dw, List.length_map]
          exact at60 j
        have no : stands m r ≠ true → Same G2 G' ∧ ∃ ws, G' R = some (.lst ws) ∧ DpAll K G' ws ((if stands m r = true then t.at m j ++ [(j, r)] else t.at m j).map wsD) := fun z => by
          rw [if_neg z]
          exact ⟨sg, ws, eR, dw⟩
        have yes : stands m r = true → ∃ acc, G' R = some (.lst acc) ∧ acc.length < sizeLine ∧ Same G2 (upd G' R (.lst (acc ++ [.ref b]))) ∧ ∃ ws, upd G' R (.lst (acc ++ [.ref b])) R = some (.lst ws) ∧ DpAll K (upd G' R (.lst (acc ++ [.ref b]))) ws ((if stands m r = true then t.at m j ++ [(j, r)] else t.at m j).map wsD) := fun z => by
          rw [if_pos z]
          have tp : Tups K G' (upd G' R (.lst (ws ++ [.ref b]))) := .upd_lst eR
          refine ⟨ws, eR, by rw [sizeLine_eq]; omega, own_same nR sg, ws ++ [.ref b], upd_same, ?_⟩
          rw [List.map_append]
          exact DpAll.snoc (DpAll.tups tp _ (wsDs_only _ fun p hp => wsl p.2 (at_mem hp)) dw) (.tup (tp _ _ Wg) (dp_ints _))
        refine ⟨_, rfl, mr i j, _, 2, _, rfl, rfl, row, atI_nat (j := 2) rfl, _, rfl, _, _, rfl, rfl, _, rfl, ?_⟩
        by_cases c1 : r.put < m
        · refine iteT' (decide_eq_true (by omega)) ?_
          refine ⟨_, rfl, mr i j, _, 1, _, rfl, rfl, row, atI_nat (j := 1) rfl, rfl, _, rfl, ?_⟩
          cases ho : r.out with
          | none =>
            refine iteT' (decide_eq_true rfl) ?_
            refine ⟨_, rfl, mr i j, _, 0, _, rfl, rfl, row, atI_nat (j := 0) rfl, yes ?_⟩
            unfold stands
            rw [ho]
            simpa using c1
          | some o =>
            refine iteF' (by rw [decide_eq_true_eq]; exact fun z => nomatch z) ?_
            refine ⟨_, rfl, mr i j, _, 1, _, rfl, rfl, row, (by rw [show mRow r b = [.ref b, outW r.out, .int ((r.put + 1 : Nat) : Int)] from rfl, ho]; exact atI_nat (j := 1) rfl), _, rfl, _, _, rfl, rfl, _, rfl, ?_⟩
            by_cases c2 : m ≤ o
            · refine iteT' (decide_eq_true (by omega)) ?_
              refine ⟨_, rfl, mr i j, _, 0, _, rfl, rfl, row, atI_nat (j := 0) rfl, yes ?_⟩
              unfold stands
              rw [ho]
              simp [c1, c2]
            · refine iteF' (by rw [decide_eq_true_eq]; omega) (no ?_)
              unfold stands
              rw [ho]
              simp [c2]
        · refine iteF' (by rw [decide_eq_true_eq]; omega) (no ?_)
          unfold stands
          simp [c1]
      rintro H5 ⟨s5, ws, eR, dw⟩
      rw [List.length_map, List.length_range] at dw
      have lw : ws.length = (t.at m t.rows.length).length := by rw [DpAll.len dw, List.length_map]
      have eD5 := s5 _ _ eD
      have offH5 : ∀ b o, H b = some o → H5 b = some o := fun b o e => s5 _ _ (offH _ _ e)
      have mem_l : ∀ p ∈ t.at m t.rows.length, p.2 ∈ t.rows := fun p hp => at_mem hp
      have hyn : (ys.take (k + 1)).filter (madeOf x.tabs m) = if t.made < m then (ys.take k).filter (madeOf x.tabs m) ++ [t.name] else (ys.take k).filter (madeOf x.tabs m) := by
        rw [filt_succ hn, madeOf_of fit.ok.nd ht]
        by_cases z : t.made < m
        · rw [if_pos z, if_pos (decide_eq_true z)]
        · rw [if_neg z, if_neg (by rw [decide_eq_true_eq]; exact z)]
      refine ⟨_, rfl, _, rfl, _, _, rfl, rfl, _, rfl, ?_⟩
      by_cases tm : t.made < m
      · refine iteT' (decide_eq_true (by omega)) ?_
        rw [if_pos tm] at hyn
        have hC5 : SqT K H5 ca (t.cols.map V.str) := Tups.of_same offH5 _ _ hC
        refine ⟨_, rfl, ca, _, rfl, hC5, fun W nW => ?_⟩
        have nWD : W ≠ D := fun z => by rw [z, eD5] at nW; cases nW
        have c4 := fit.four t ht
        have lway : (ways t m).length = t.cols.length := by unfold ways; rw [List.length_map, List.length_zipIdx]
        refine lc_it (walk_ET (K := K) (a := ca) (xs := t.cols.map V.str)) (fun j G' => Same H5 G' ∧ ∃ us, G' W = some (.lst us) ∧ DpAll K G' us (((ways t m).take j).map pairI)) ⟨new_same nW, [], upd_same, .nil⟩ (fun j G' _ z => Tups.of_same z.1 _ _ hC5) ?_ ?_
        · rintro j y G3 G4 hj ⟨sg, us, eW, du⟩ ⟨T0, v1, v2, rfl, nT0, rfl, ei, ex⟩
          cases ei
          have ex : (t.cols.map V.str)[j]? = some v2 := ex
          rw [List.getElem?_map, Option.map_eq_some_iff] at ex
          obtain ⟨col, hcol, rfl⟩ := ex
          have hj : j < t.cols.length := (List.getElem?_eq_some_iff.mp hcol).1
          have j0 := new_same (o := .tup [.int ((j : Nat) : Int), .str col]) nT0
          have e0 : upd G3 T0 (.tup [.int ((j : Nat) : Int), .str col]) T0 = some (.tup [.int ((j : Nat) : Int), .str col]) := upd_same
          have s4 := sg.trans j0
          have eW4 := j0 _ _ eW
          have du4 := DpAll.same j0 _ du
          generalize upd G3 T0 (.tup [.int ((j : Nat) : Int), .str col]) = G4 at j0 e0 s4 eW4 du4 ⊢
          refine ⟨T0, _, rfl, SqT.of e0, rfl, _, _, rfl, _, _, rfl, rfl, ?_⟩
          refine ⟨rfl, ?_⟩
          have eR4 := s4 _ _ eR
          have dw4 := DpAll.same s4 _ dw
          refine ⟨_, rfl, _, rfl, R, rfl, ⟨_, SqL.of eR4⟩, fun D2 nD2 => ?_⟩
          refine lc_list (K := K) (a := R) (xs := ws) (fun i H' => Same G4 H' ∧ H' D2 = some (.lst (((t.at m t.rows.length).take i).map fun e => V.int (e.2.ws.getD j 0)))) ⟨new_same nD2, upd_same⟩ (fun i H' _ y => SqL.of (y.1 _ _ eR4)) ?_ ?_
          · rintro i2 y H' hy ⟨sm5, eD2⟩
            obtain ⟨e0', he, hd⟩ := DpAll.at_ (DpAll.same sm5 _ dw4) hy
            rw [List.getElem?_map, Option.map_eq_some_iff] at he
            obtain ⟨e1, he1, rfl⟩ := he
            have hi2 : i2 < (t.at m t.rows.length).length := (List.getElem?_eq_some_iff.mp he1).1
            have lw1 : e1.2.ws.length = t.cols.length := wide _ (mem_l e1 (List.mem_of_getElem? he1))
            cases hd with
            | @tup q0 xs _ hq hxs =>
            have exs : xs = e1.2.ws.map V.int := dp_ints_inv hxs
            subst exs
            have gk : (e1.2.ws.map V.int)[j]? = some (.int (e1.2.ws.getD j 0)) := by
              rw [List.getElem?_map, List.getD_eq_getElem?_getD, List.getElem?_eq_getElem (by omega)]
              rfl
            have l60' := at60 t.rows.length
            refine ⟨rfl, ?_⟩
            refine ⟨_, rfl, _, rfl, q0, _, _, _, rfl, rfl, hq, atI_nat gk, _, eD2, by rw [List.length_map, List.length_take, sizeLine_eq]; omega, own_same nD2 sm5, ?_⟩
            rw [upd_same, List.take_add_one, he1, List.map_append]
            rfl
          rintro H6 ⟨sm6, eD6⟩
          rw [lw, List.take_length] at eD6
          have ek : (t.at m t.rows.length).map (fun e => V.int (e.2.ws.getD j 0)) = ((t.at m t.rows.length).map fun e => ((.inl (e.2.ws.getD j 0)) : Key)).map kV := by rw [List.map_map]; rfl
          have l60' := at60 t.rows.length
          refine ⟨D2, (t.at m t.rows.length).map fun e => .inl (e.2.ws.getD j 0), rfl, .inl (by rw [← ek]; exact SqL.of eD6), by rw [List.length_map]; omega, by show 2 ≤ sizeLine; decide, fun tq ntq => ?_⟩
          have hun : unlike (t.at m t.rows.length) j = (Sk.uniq (List.map (fun e => Sum.inl (e.2.ws.getD j 0)) (t.at m t.rows.length))).length := rfl
          rw [← hun]
          generalize unlike (t.at m t.rows.length) j = un at hun ⊢
          have jt := new_same (o := .tup [.str col, .int ((un : Nat) : Int)]) ntq
          have et : upd H6 tq (.tup [.str col, .int ((un : Nat) : Int)]) tq = some (.tup [.str col, .int ((un : Nat) : Int)]) := upd_same
          have s7 := sm6.trans jt
          have s67 := jt
          generalize upd H6 tq (.tup [.str col, .int ((un : Nat) : Int)]) = H7 at et s7 ⊢
          have eW7 := s7 _ _ eW4
          have s57 := s4.trans s7
          have lus : us.length = j := by rw [DpAll.len du, List.length_map, List.length_take, lway]; omega
          have tp : Tups K H7 (upd H7 W (.lst (us ++ [.ref tq]))) := .upd_lst eW7
          refine ⟨us, eW7, by rw [sizeLine_eq]; omega, own_same nW s57, us ++ [.ref tq], upd_same, ?_⟩
          have ewj : (ways t m)[j]? = some (col, ((un : Nat) : Int)) := by
            unfold ways
            rw [List.getElem?_map, List.getElem?_zipIdx, hcol, hun]
            simp [unlike]
          rw [List.take_add_one, ewj, List.map_append]
          have only : tupOnlyAll (((ways t m).take j).map pairI) = true := by
            generalize (ways t m).take j = l
            induction l with
            | nil => rfl
            | cons a l ih => exact ih
          exact DpAll.snoc (DpAll.tups tp _ only (DpAll.same s7 _ du4)) (.tup (tp _ _ (SqT.of et)) (.cons (.str _) (.cons (.int _) .nil)))
        rintro H8 ⟨s8, us, eW, du⟩
        rw [List.length_map, ← lway, List.take_length] at du
        have eR8 := s8 _ _ eR
        have eD8 := s8 _ _ eD5
        refine ⟨_, rfl, .inl ⟨rfl, _, SqL.of eD8⟩, _, rfl, _, rfl, R, _, rfl, .inl (SqL.of eR8), ?_⟩
        refine ⟨_, rfl, W, us, (ways t m).map pairI, rfl, SqL.of eW, du, pairs_alike _, pairs_sortable _, by rw [List.length_map, lway]; omega, pairs_depth _, fun us2 R2 nR2 du2 => ?_⟩
        have j9 := new_same (o := .lst us2) nR2
        have eR2 : upd H8 R2 (.lst us2) R2 = some (.lst us2) := upd_same
        have du9 := DpAll.same j9 _ du2
        have eD9 := j9 _ _ eD8
        have s9 := s8.trans j9
        have nR2D : R2 ≠ D := fun z => by rw [z, eD8] at nR2; cases nR2
        generalize upd H8 R2 (.lst us2) = H9 at j9 eR2 du9 eD9 s9 ⊢
        refine ⟨by show 3 ≤ sizeLine; decide, fun tq ntq => ?_⟩
        rw [lw]
        have jt := new_same (o := .tup [.str t.name, .int ((t.at m t.rows.length).length : Nat), .ref R2]) ntq
        have et : upd H9 tq (.tup [.str t.name, .int ((t.at m t.rows.length).length : Nat), .ref R2]) tq = some (.tup [.str t.name, .int ((t.at m t.rows.length).length : Nat), .ref R2]) := upd_same
        have sA := s9.trans jt
        have eDA := jt _ _ eD9
        have eRA := jt _ _ eR2
        have duA := DpAll.same jt _ du9
        generalize upd H9 tq (.tup [.str t.name, .int ((t.at m t.rows.length).length : Nat), .ref R2]) = HA at et sA eDA eRA duA ⊢
        have sG := s5.trans sA
        refine ⟨D, vs, _, rfl, rfl, eDA, by rw [sizeLine_eq]; omega, ?_⟩
        have tp : Tups K HA (upd HA D (.lst (vs ++ [.ref tq]))) := .upd_lst eDA
        have kk : ∀ b o, b ≠ D → HA b = some o → upd HA D (.lst (vs ++ [.ref tq])) b = some o := fun b o nb e => by rw [upd_ne nb]; exact e
        refine ⟨⟨_, _, _, _, _, _, rfl⟩, fun b o nb e => kk b o nb (sG _ _ (off b o nb e)), vs ++ [.ref tq], upd_same, by rw [List.length_append, List.length_singleton]; omega, ?_⟩
        rw [hyn]
        refine each_snoc (rel.mono fun v n h => (h.keep (Tups.of_same sG) fun b o nb e => sG _ _ e).keep tp kk) ⟨t, tq, R2, us2, ht, rfl, rfl, nR2D, tp _ _ (SqT.of et), kk _ _ nR2D eRA, DpAll.tups tp _ (pairs_only _) duA⟩
      · refine iteF' (by rw [decide_eq_true_eq]; omega) ?_
        rw [if_neg tm] at hyn
        refine ⟨⟨_, _, _, _, _, _, rfl⟩, fun b o nb e => s5 _ _ (off b o nb e), vs, eD5, by omega, ?_⟩
        rw [hyn]
        exact rel.mono fun v n h => h.keep (Tups.of_same s5) fun b o nb e => s5 _ _ e
    · rintro σ G1 ⟨⟨y3, y4, y5, y6, y7, y8, rfl⟩, off, vs, eD, lv, rel⟩
      rw [List.length_map, List.take_length] at rel
      exact ⟨⟨_, _, _, _, _, _, rfl⟩, fun b o e => off b o (ne_of_none e nD) (sH3 _ _ e), vs, eD, rel⟩
  rintro σ' G2 ⟨⟨y3, y4, y5, y6, y7, y8, rfl⟩, sG, vs, eD, rel⟩
  refine ⟨_, rfl, q G2 D sG nD ?_⟩
  exact .lst (SqL.of eD) (TabAt.dp fit.ok.nd rel)
end
end K20
end

section
set_option Elab.async false
set_option linter.all false
set_option maxRecDepth 100000
set_option maxHeartbeats 4000000
/-! what is told, as a list. -/
namespace K20
open PySem PySem.Spec PyProof.Rows L2 Gd
abbrev sShape : Stmt := topS 35
theorem scShape : FnScope ["_law_found", "_law_rows", "_law_name"] ["_law_found"] (defScope sShape) := ⟨rfl, rfl, rfl, by decide +kernel, rfl, by decide +kernel, by decide +kernel⟩
section
variable {K : PySem.W.Frag} {H0 H : Hp} {D : Addr} {x : Shelf} {m : Nat}
theorem told_keys : ∀ {kvs : List (Key × V)} {ys : List Str}, PySem.W.EachIs (ToldAt K H0 H D x m) kvs ys → (kvs.map fun kv => kV kv.1) = ys.map V.str
  | _, _, .nil => rfl
  | _, _, .cons ⟨e, _⟩ t => by
    rw [List.map_cons, List.map_cons, told_keys t, e]
    rfl
theorem told_get : ∀ {kvs : List (Key × V)} {ys : List Str} {n : Str}, PySem.W.EachIs (ToldAt K H0 H D x m) kvs ys → n ∈ ys → ∃ v, valV kvs (.inr n) = some v ∧ ToldAt K H0 H D x m (.inr n, v) n
  | _, _, _, .nil, h => nomatch h
  | kv :: kvs, y :: ys, n, .cons r t, h => by
    by_cases z : y = n
    · subst z
      obtain ⟨e, r2⟩ := r
      refine ⟨kv.2, ?_, rfl, r2⟩
      exact valV_pos e
    · rcases List.mem_cons.mp h with h | h
      · exact absurd h.symm z
      · obtain ⟨v, e1, e2⟩ := told_get t h
        refine ⟨v, ?_, e2⟩
        rw [valV_neg (by rw [r.1]; exact fun w => z (Sum.inr.inj w))]
        exact e1
end
def spShape (K : PySem.W.Frag) : Sp := fun vs H Q _ => ∃ (D : Addr) (x : Shelf) (m : Nat) (H0 : Hp) (kvs : List (Key × V)) (ys : List Str), vs = [.ref D] ∧ H D = some (.dK kvs) ∧ PySem.W.EachIs (ToldAt K H0 H D x m) kvs ys ∧ ys.Perm (namesAt x.tabs m) ∧ FitS x ∧ (∀ t ∈ x.tabs, 1 ≤ t.cols.length) ∧
  ∀ H' R, Same H H' → H R = none → Dp K H' (.ref R) (dueD x.tabs m) → Q (.ref R) H'
section
variable {P : Program} {w : World} {K : PySem.W.Frag} {mg : Str → Option Value} {base : Heap} {f : Addr} {fd : FuncData}
theorem ok_shape (F : Fun K "_law_shape" "_law_shape" sShape f fd) (mn : mg "len" = none) (mi : mg "isinstance" = none) (ms : mg "sorted" = none) (ml_ : mg "list" = none) (mt_ : mg "tuple" = none) (md : mg "dict" = none) : FnOk P w K mg base CX0 1 f fd ["_law_found"] (spShape K) := by
  refine F.ok scShape (fun vs H Q E h => ?_) (fun cdv A outer s H vs Q E hr h => ?_)
  · obtain ⟨D, x, m, H0, kvs, ys, rfl, _⟩ := h
    rfl
  obtain ⟨D, x, m, H0, kvs, ys, rfl, hD, rel, py, fit, one, q⟩ := h
  have nd := scShape.nd
  have hu := hu_of hr
  refine ⟨_, pss_cons (ps_if (pt_not (pt_val (pe_callB call_isi (by rfl) mi (by decide +kernel) (pa_cons (pv 0) (pa_cons (pe_bltn (v := .ty "dict") (by rfl) md (by decide +kernel) rfl) pa_nil))))) pss_never pss_nil)
    (pss_cons (ps_set (i := 1) nd rfl (by first | exact .inl rfl | exact .inr rfl) (pe_lst pa_nil))
    (C8.pss_cut (ps_for PassesOwn.never rfl (pi_list (pe_callB (call_sortedD hr.units) (by rfl) ms (by decide +kernel) (pa_cons (pe_callTy (call_listD rfl) (by rfl) ml_ (by decide +kernel) (pa_cons (pv 0) pa_nil)) pa_nil))) (pg_name (i := 2) nd rfl (by first | exact .inl rfl | exact .inr rfl))
      (pss_cons (ps_if (PW.pt (pw_or (pt_not (pt_val (pe_callB call_isi (by rfl) mi (by decide +kernel) (pa_cons (pe_dget hu (pv 0) (pv 2) (fun _ _ => rfl)) (pa_cons (pe_bltn (v := .ty "tuple") (by rfl) mt_ (by decide +kernel) rfl) pa_nil)))))
        (pw_or (pt_cmpR op_ne (pe_callB call_len_seq (by rfl) mn PySem.boot_len (pa_cons (pe_dget hu (pv 0) (pv 2) (fun _ _ => rfl)) pa_nil)) pe_int (nomark _))
        (pw_or1 (pt_not (pt_val (pe_callB call_isi (by rfl) mi (by decide +kernel) (pa_cons (pe_ix ix_tup (pe_dget hu (pv 0) (pv 2) (fun _ _ => rfl)) pe_int (fun _ _ => rfl)) (pa_cons (pe_bltn (v := .ty "dict") (by rfl) md (by decide +kernel) rfl) pa_nil))))))))) pss_never pss_nil)
      (pss_one (ps_expr (pe_bm PySem.F.plainAttrs_list PySem.F.slot_list_append PySem.F.type_list_append mt_append (pv 1) (pa_cons (pe_tup (pa_cons (pv 2) (pa_cons (pe_ix ix_tup (pe_dget hu (pv 0) (pv 2) (fun _ _ => rfl)) pe_int (fun _ _ => rfl))
        (pa_cons (pe_callB (cr_sortedIt rfl hr.units) (by rfl) ms (by decide +kernel) (pa_cons (pe_bm0 PySem.F.plainAttrs_dict PySem.F.slot_dict_items PySem.F.type_dict_items mt_itemsV (pe_ix ix_tup (pe_dget hu (pv 0) (pv 2) (fun _ _ => rfl)) pe_int (fun _ _ => rfl))) pa_nil)) pa_nil)))) pa_nil))))))
    (pss_one (ps_ret (pv 1))))), ?_⟩
  refine ⟨_, rfl, _, _, _, _, true, rfl, .ty _, .base (.dK hD), kit_ty (by decide +kernel), _, rfl, iteF ?_⟩
  refine ⟨Nat.zero_le _, fun B nB => ?_⟩
  have j1 := new_same (o := .lst []) nB
  have eB1 : upd H B (.lst []) B = some (.lst []) := upd_same
  generalize upd H B (.lst []) = H1 at j1 eB1 ⊢
  refine ⟨fun σ' G2 => (∃ y2, σ' = [some (.ref D), some (.ref B), y2]) ∧ Same H G2 ∧ ∃ vs, G2 B = some (.lst vs) ∧ PySem.W.EachIs (TabAt K G2 B x.tabs m) vs (ordS (namesAt x.tabs m)), ?_, ?_⟩
  · refine ⟨_, rfl, D, _, rfl, .inl (j1 _ _ hD), fun L0 nL0 => ?_⟩
    rw [told_keys rel]
    have j2 := new_same (o := .lst (ys.map V.str)) nL0
    have eL0 : upd H1 L0 (.lst (ys.map V.str)) L0 = some (.lst (ys.map V.str)) := upd_same
    generalize upd H1 L0 (.lst (ys.map V.str)) = H2 at j2 eL0 ⊢
    have l6 : ys.length ≤ 6 := by
      rw [py.length_eq]
      unfold namesAt
      rw [List.length_map]
      exact Nat.le_trans (List.length_filter_le _ _) fit.ok.tabs
    refine ⟨L0, _, ys.map PyData.str, rfl, SqL.of eL0, dp_strs _, alike_strs _, strs_sortable _, by rw [List.length_map]; omega, fun d hd => ?_, fun us L nL dU => ?_⟩
    · obtain ⟨n, _, rfl⟩ := List.mem_map.mp hd
      exact Nat.zero_le _
    rw [← ordS_map] at dU
    obtain rfl := dp_strs_inv dU
    have j3 := new_same (o := .lst ((ordS ys).map V.str)) nL
    have eL : upd H2 L (.lst ((ordS ys).map V.str)) L = some (.lst ((ordS ys).map V.str)) := upd_same
    have s13 := j2.trans j3
    generalize upd H2 L (.lst ((ordS ys).map V.str)) = H3 at j3 eL s13 ⊢
    have eB3 := s13 _ _ eB1
    have nLB : L ≠ B := fun z => by rw [z, j2 _ _ eB1] at nL; cases nL
    have sH3 := j1.trans s13
    refine ⟨L, rfl, ⟨_, SqL.of eL⟩, ?_⟩
    have pz := ordS_perm ys
    rw [← ordS_eq py]
    generalize ordS ys = zs at pz eL nLB ⊢
    have lz : zs.length ≤ 6 := by rw [pz.length_eq]; exact l6
    refine for_it (walk_list (K := K) (a := L) (xs := zs.map V.str)) (fun k σ G1 => (∃ y2, σ = [some (.ref D), some (.ref B), y2]) ∧ (∀ b o, b ≠ B → H3 b = some o → G1 b = some o) ∧ ∃ vs, G1 B = some (.lst vs) ∧ PySem.W.EachIs (TabAt K G1 B x.tabs m) vs (zs.take k))
      ⟨⟨_, rfl⟩, fun _ _ _ e => e, [], eB3, .nil⟩ (fun k σ G1 _ z => SqL.of (z.2.1 _ _ nLB eL)) ?_ ?_
    · rintro k y σ G1 G2 hk ⟨⟨y2, rfl⟩, off, vs, eB, rl⟩ ⟨rfl, hy⟩
      have hy : (zs.map V.str)[k]? = some y := hy
      rw [List.getElem?_map, Option.map_eq_some_iff] at hy
      obtain ⟨n, hn, rfl⟩ := hy
      have hk6 : k < zs.length := (List.getElem?_eq_some_iff.mp hn).1
      have offH : ∀ b o, H b = some o → G2 b = some o := fun b o e => off b o (ne_of_none e nB) (sH3 _ _ e)
      obtain ⟨v, ev, _, t, r, u, ht, en, rfl, nuD, _, hr2, hu2⟩ := told_get rel (pz.mem_iff.mp (List.mem_of_getElem? hn))
      subst en
      have gd : DGet G2 D (.str t.name) (some (.ref r)) := by
        have z := DGet.k (k := .inr t.name) (offH _ _ hD)
        rw [ev] at z
        exact z
      have hr3 := Tups.of_same offH _ _ hr2
      have hu3 := offH _ _ hu2
      rw [countsK_ways] at hu3
      refine ⟨_, rfl, _, rfl, D, _, rfl, gd, _, _, _, _, true, rfl, .ty _, tyT hr3, kit_ty (by decide +kernel), _, rfl, iteF ?_⟩
      refine ⟨_, rfl, _, rfl, D, _, rfl, gd, r, _, rfl, .inr hr3, rfl, _, rfl, iteF ?_⟩
      refine ⟨_, rfl, _, rfl, D, _, rfl, gd, r, _, 1, _, rfl, rfl, hr3, atI_nat (j := 1) rfl, _, _, _, _, true, rfl, .ty _, .base (.dK hu3), kit_ty (by decide +kernel), _, rfl, iteF ?_⟩
      refine ⟨_, rfl, .inl ⟨rfl, _, SqL.of eB⟩, _, rfl, _, rfl, _, rfl, D, _, rfl, gd, r, _, 0, _, rfl, rfl, hr3, atI_nat (j := 0) rfl, _, rfl, _, rfl, D, _, rfl, gd, r, _, 1, _, rfl, rfl, hr3, atI_nat (j := 1) rfl, .inr (.inr (.inl ⟨rfl, .inl ⟨_, hu3⟩⟩)), u, _, rfl, rfl, hu3, fun vp nvp => ?_⟩
      have j5 := new_same (o := L2.DX.itemsO vp u) nvp
      have evp : upd G2 vp (L2.DX.itemsO vp u) vp = some (L2.DX.itemsO vp u) := upd_same
      have eB5 := j5 _ _ eB
      have hu5 := j5 _ _ hu3
      generalize upd G2 vp (L2.DX.itemsO vp u) = G5 at j5 evp eB5 hu5 ⊢
      have lway : (ways t m).length = t.cols.length := by unfold ways; rw [List.length_map, List.length_zipIdx]
      have c1 := one t ht
      have c4 := fit.four t ht
      refine ⟨vp, u, ways t m, rfl, evp, hu5, by omega, by omega, fun G6 us2 R2 s6 nR2 eR2 du2 => ?_⟩
      have eB6 := s6 _ _ eB5
      have nRB : R2 ≠ B := fun z => by rw [z, eB5] at nR2; cases nR2
      refine ⟨by show 3 ≤ sizeLine; decide, fun tq ntq => ?_⟩
      have jt := new_same (o := .tup [.str t.name, .int ((t.at m t.rows.length).length : Nat), .ref R2]) ntq
      have et : upd G6 tq (.tup [.str t.name, .int ((t.at m t.rows.length).length : Nat), .ref R2]) tq = some (.tup [.str t.name, .int ((t.at m t.rows.length).length : Nat), .ref R2]) := upd_same
      have sA := (j5.trans s6).trans jt
      have eBA := jt _ _ eB6
      have eRA := jt _ _ eR2
      have duA := DpAll.same jt _ du2
      generalize upd G6 tq (.tup [.str t.name, .int ((t.at m t.rows.length).length : Nat), .ref R2]) = HA at et sA eBA eRA duA ⊢
      have lv : vs.length ≤ k := by
        rw [rl.length, List.length_take]
        omega
      refine ⟨B, vs, _, rfl, rfl, eBA, by rw [sizeLine_eq]; omega, ?_⟩
      have tp : Tups K HA (upd HA B (.lst (vs ++ [.ref tq]))) := .upd_lst eBA
      have kk : ∀ b o, b ≠ B → HA b = some o → upd HA B (.lst (vs ++ [.ref tq])) b = some o := fun b o nb e => by rw [upd_ne nb]; exact e
      refine ⟨⟨_, rfl⟩, fun b o nb e => kk b o nb (sA _ _ (off b o nb e)), vs ++ [.ref tq], upd_same, ?_⟩
      rw [List.take_add_one, hn]
      exact each_snoc (rl.mono fun v n h => (h.keep (Tups.of_same sA) fun b o nb e => sA _ _ e).keep tp kk) ⟨t, tq, R2, us2, ht, rfl, rfl, nRB, tp _ _ (SqT.of et), kk _ _ nRB eRA, DpAll.tups tp _ (pairs_only _) duA⟩
    · rintro σ G1 ⟨⟨y2, rfl⟩, off, vs, eB, rl⟩
      rw [List.length_map, List.take_length] at rl
      exact ⟨⟨_, rfl⟩, fun b o e => off b o (ne_of_none e nB) (sH3 _ _ e), vs, eB, rl⟩
  rintro σ' G2 ⟨⟨y2, rfl⟩, sG, vs, eB, rl⟩
  exact ⟨_, rfl, q G2 B sG nB (.lst (SqL.of eB) (TabAt.dp fit.ok.nd rl))⟩
end
end K20
end

section
set_option Elab.async false
set_option linter.all false
set_option maxRecDepth 100000
set_option maxHeartbeats 4000000
/-! pen, names, tables and the law's model beside one another; sizes. -/
namespace K20
open PySem PySem.Spec PyProof.Rows L2 Gd
structure St (K : PySem.W.Frag) (C : Addr) (H : Hp) (l c N M p : Addr) (ns : List Str) (ts : List Tab) (x : Shelf) (F G : Addr → Prop) (S : Int) : Prop where
  pen : Pen H l c S
  nam : H N = some (.lst (ns.map V.str))
  nNl : N ≠ l
  mod : ModF K H M ts G
  shf : ShelfF K C H p x F
  ap : ∀ q, F q → ¬ G q
  ol : ¬ F l ∧ ¬ G l
  oc : ¬ F c ∧ ¬ G c
  oN : ¬ F N ∧ ¬ G N
section
variable {K : PySem.W.Frag} {C : Addr} {H H' : Hp} {l c N M p : Addr} {ns : List Str} {ts ts' : List Tab} {x x' : Shelf} {F G F' G' : Addr → Prop} {S S' : Int}
theorem Pen.keep {H H' : Hp} {l c : Addr} {S : Int} (h : Pen H l c S) (k : ∀ b o, (b = l ∨ b = c) → H b = some o → H' b = some o) : Pen H' l c S := by
  obtain ⟨a, t, ov, e1, e2, r⟩ := h
  exact ⟨a, t, ov, k _ _ (.inl rfl) e1, k _ _ (.inr rfl) e2, r⟩
theorem Pen.hl {H : Hp} {l c : Addr} {S : Int} (h : Pen H l c S) : (∃ xs, H l = some (.lst xs)) ∧ ∃ xs, H c = some (.lst xs) := by
  obtain ⟨a, t, ov, e1, e2, r⟩ := h
  exact ⟨⟨_, e1⟩, _, e2⟩
theorem St.keep (h : St K C H l c N M p ns ts x F G S) (t : Tups K H H') (k : ∀ b o, (F b ∨ G b ∨ b = l ∨ b = c ∨ b = N) → H b = some o → H' b = some o) : St K C H' l c N M p ns ts x F G S :=
  ⟨Pen.keep h.pen fun b o hb e => k b o (.inr (.inr (hb.elim .inl fun z => .inr (.inl z)))) e, k _ _ (.inr (.inr (.inr (.inr rfl)))) h.nam, h.nNl, h.mod.keep t fun b o hb e => k b o (.inr (.inl hb)) e, h.shf.keep t fun b o hb e => k b o (.inl hb) e, h.ap, h.ol, h.oc, h.oN⟩
theorem St.same (h : St K C H l c N M p ns ts x F G S) (s : Same H H') : St K C H' l c N M p ns ts x F G S := h.keep (Tups.of_same s) fun b o _ e => s b o e
theorem St.draw (h : St K C H l c N M p ns ts x F G S) (xx : Ex1 l H H') (pn : Pen H' l c S') : St K C H' l c N M p ns ts x F G S' := by
  obtain ⟨⟨xs, el⟩, _⟩ := Pen.hl h.pen
  have t : Tups K H H' := tups_off fun q o e n1 n2 n3 => xx q o (fun z => by
    rw [z, el] at e
    exact n2 _ (Option.some.inj e).symm) e
  refine ⟨pn, xx _ _ h.nNl h.nam, h.nNl, h.mod.keep t fun b o hb e => xx b o (fun z => h.ol.2 (by rw [← z]; exact hb)) e, h.shf.keep t fun b o hb e => xx b o (fun z => h.ol.1 (by rw [← z]; exact hb)) e, h.ap, h.ol, h.oc, h.oN⟩
theorem St.model (h : St K C H l c N M p ns ts x F G S) (m : ModF K H' M ts' G') (a : After H G H' G') : St K C H' l c N M p ns ts' x F G' S := by
  have t : Tups K H H' := h.mod.tups a
  obtain ⟨⟨xl, el⟩, xc, ec⟩ := Pen.hl h.pen
  have nw : ∀ {q : Addr} {o : HO}, ¬ G q → H q = some o → ¬ G' q := fun n e hq => by
    rcases a.new _ hq with z | z
    · exact n z
    · rw [e] at z
      cases z
  refine ⟨Pen.keep h.pen fun b o hb e => a.off b o (hb.elim (fun z => by rw [z]; exact h.ol.2) fun z => by rw [z]; exact h.oc.2) e, a.off _ _ h.oN.2 h.nam, h.nNl, m, h.shf.keep t fun b o hb e => a.off b o (h.ap b hb) e, fun q hq => ?_, ⟨h.ol.1, nw h.ol.2 el⟩, ⟨h.oc.1, nw h.oc.2 ec⟩, ⟨h.oN.1, nw h.oN.2 h.nam⟩⟩
  obtain ⟨o, e⟩ := h.shf.here hq
  exact nw (h.ap q hq) e
theorem St.shelf (h : St K C H l c N M p ns ts x F G S) (m : ShelfF K C H' p x' F') (a : After H F H' F') : St K C H' l c N M p ns ts x' F' G S := by
  have t : Tups K H H' := a.tups h.shf
  obtain ⟨⟨xl, el⟩, xc, ec⟩ := Pen.hl h.pen
  have nw : ∀ {q : Addr} {o : HO}, ¬ F q → H q = some o → ¬ F' q := fun n e hq => by
    rcases a.new _ hq with z | z
    · exact n z
    · rw [e] at z
      cases z
  refine ⟨Pen.keep h.pen fun b o hb e => a.off b o (hb.elim (fun z => by rw [z]; exact h.ol.1) fun z => by rw [z]; exact h.oc.1) e, a.off _ _ h.oN.1 h.nam, h.nNl, h.mod.keep t fun b o hb e => a.off b o (fun z => h.ap b z hb) e, m, fun q hq hg => ?_, ⟨nw h.ol.1 el, h.ol.2⟩, ⟨nw h.oc.1 ec, h.oc.2⟩, ⟨nw h.oN.1 h.nam, h.oN.2⟩⟩
  obtain ⟨o, e⟩ := h.mod.here hg
  exact nw (fun z => h.ap q z hg) e hq
/-- what is new and not the model's nor the tables' may be cleared -/
theorem St.wiped (h : St K C H l c N M p ns ts x F G S) {q : Addr} {kvs : List (Key × V)} (e : H q = some (.dK kvs)) (nf : ¬ F q) (ng : ¬ G q) : St K C (upd H q (.dK [])) l c N M p ns ts x F G S := by
  obtain ⟨⟨xl, el⟩, xc, ec⟩ := Pen.hl h.pen
  refine h.keep (tups_dK e) fun b o hb z => ?_
  rw [upd_ne]
  · exact z
  · intro y
    rw [y] at hb
    rcases hb with y1 | y1 | y1 | y1 | y1
    · exact nf y1
    · exact ng y1
    · rw [y1, el] at e
      cases e
    · rw [y1, ec] at e
      cases e
    · rw [y1, h.nam] at e
      cases e
theorem St.fresh (h : St K C H l c N M p ns ts x F G S) {q : Addr} (n : H q = none) : ¬ F q ∧ ¬ G q := by
  refine ⟨fun hq => ?_, fun hq => ?_⟩
  · obtain ⟨o, e⟩ := h.shf.here hq
    rw [e] at n
    cases n
  · obtain ⟨o, e⟩ := h.mod.here hq
    rw [e] at n
    cases n
end
/-! ### sizes -/
theorem lab_plain {s : Str} (h : isLab s = true) : Szg.Pl s := by
  simp only [isLab, Bool.and_eq_true, decide_eq_true_eq, List.all_eq_true] at h
  obtain ⟨⟨h1, h2⟩, h3⟩ := h
  refine ⟨fun c hc => ?_, by omega⟩
  have z : ∀ c ∈ ("abcdefghijklmnopqrstuvwxyz" : Str).cps.toList, c < 128 := by decide +kernel
  exact z c (h3 c hc)
theorem due_sm {ns : List Str} {x : Shelf} (few : Few ns x) (m : Nat) : Szg.Sm 60000 4 (dueD x.tabs m) := by
  have small : ∀ k : Nat, k ≤ 100 → Szg.Sm 212 0 (.int ((k : Nat) : Int)) := fun k hk => Szg.sm_int (Nat.le_trans (show ((k : Nat) : Int).natAbs ≤ 100 by omega) (by decide))
  have at60 : ∀ t ∈ x.tabs, (t.at m t.rows.length).length ≤ 60 := fun t ht => by
    unfold Tab.at
    refine Nat.le_trans (List.length_filter_le _ _) ?_
    rw [List.length_map, List.length_zipIdx, List.length_take]
    have := few.fit.ok.rows t ht
    omega
  have prs : ∀ t ∈ x.tabs, ∀ d ∈ told ((ways t m).map pairI), Szg.Sm 300 1 d := fun t ht d hd => by
    obtain ⟨p, hp, rfl⟩ := List.mem_map.mp ((told_perm _).mem_iff.mp hd)
    unfold ways at hp
    obtain ⟨q, hq, rfl⟩ := List.mem_map.mp hp
    have hc := few.cl t ht q.1 (List.fst_mem_of_mem_zipIdx hq)
    have hu : unlike (t.at m t.rows.length) q.2 ≤ 60 := by
      unfold unlike
      refine Nat.le_trans (Sk.uniq_len _) ?_
      rw [List.length_map]
      exact at60 t ht
    exact (Szg.Sms.tup (Szg.Sms.cons (Szg.sm_str (lab_plain hc)) (Szg.Sms.cons (small _ (by omega)) Szg.Sms.nil))).mono (by decide) (by decide)
  have tab : ∀ t ∈ x.tabs, Szg.Sm 3000 3 (tabD t m) := fun t ht => by
    have l4 : (told ((ways t m).map pairI)).length ≤ 4 := by
      rw [(told_perm _).length_eq, List.length_map]
      unfold ways
      rw [List.length_map, List.length_zipIdx]
      exact few.fit.four t ht
    have z := Szg.Sms.lst (Szg.Sms.all (prs t ht))
    have z2 : Szg.Sm 1300 2 (.list (told ((ways t m).map pairI))) := z.mono (by omega) (Nat.le_refl _)
    have z3 : Szg.Sm 30 2 (.str t.name) := (Szg.sm_str (lab_plain (few.fit.ok.lab t ht))).mono (Nat.le_refl _) (by decide)
    have z4 : Szg.Sm 212 2 (.int ((t.at m t.rows.length).length : Nat)) := (small _ (by have := at60 t ht; omega)).mono (Nat.le_refl _) (by decide)
    exact (Szg.Sms.tup (Szg.Sms.cons z3 (Szg.Sms.cons z4 (Szg.Sms.cons z2 Szg.Sms.nil)))).mono (by decide) (by decide)
  have all : ∀ d ∈ (ordS (namesAt x.tabs m)).map (tdat x.tabs m), Szg.Sm 3000 3 d := fun d hd => by
    obtain ⟨n, hn, rfl⟩ := List.mem_map.mp hd
    have hn := (ordS_perm _).mem_iff.mp hn
    unfold namesAt at hn
    obtain ⟨t, ht, rfl⟩ := List.mem_map.mp hn
    have ht := (List.mem_filter.mp ht).1
    rw [tdat_of few.fit.ok.nd ht]
    exact tab t ht
  have l6 : ((ordS (namesAt x.tabs m)).map (tdat x.tabs m)).length ≤ 6 := by
    rw [List.length_map, (ordS_perm _).length_eq]
    unfold namesAt
    rw [List.length_map]
    exact Nat.le_trans (List.length_filter_le _ _) few.fit.ok.tabs
  exact (Szg.Sms.lst (Szg.Sms.all all)).mono (by omega) (by decide)
theorem due_shown {ns : List Str} {x : Shelf} (few : Few ns x) (m : Nat) : (dueD x.tabs m).showable = true ∧ (dueD x.tabs m).shown.length ≤ sizeLine ∧ (dueD x.tabs m).depth ≤ 60 := (due_sm few m).shown (by decide) (by decide)
end K20
end

section
set_option Elab.async false
set_option linter.all false
set_option maxRecDepth 100000
set_option maxHeartbeats 4000000
/-! the law's def. -/
namespace K20
open PySem PySem.Spec PyProof.Rows L2 Gd
abbrev sLaw : Stmt := topS 36
abbrev nLaw : List Str := ["_law_script", "_law_pen_here", "_law_names_here", "_law_model", "_law_shelf", "_law_when", "_law_deed_here", "_law_found", "_law_due_here", "_law_elder", "_law_told", "_law_k"]
theorem scLaw : FnScope nLaw ["_law_script"] (defScope sLaw) := ⟨rfl, rfl, rfl, by decide +kernel, rfl, by decide +kernel, by decide +kernel⟩
def spLaw (K : PySem.W.Frag) : Sp := fun vs H Q _ => ∃ (a : Addr) (ns : List Int), vs = [.ref a] ∧ SqL K H a (ns.map V.int) ∧ ns.length ≤ 63 ∧ ∀ H', Q (.bl true) H'
theorem ToldAt.same {K : PySem.W.Frag} {H0 H H' : Hp} {D : Addr} {x : Shelf} {m : Nat} (s : Same H H') {kv : Key × V} {n : Str} (h : ToldAt K H0 H D x m kv n) : ToldAt K H0 H' D x m kv n := by
  obtain ⟨e, t, r, u, h1, h2, h3, h4, h5, h6, h7⟩ := h
  exact ⟨e, t, r, u, h1, h2, h3, h4, h5, Tups.of_same s _ _ h6, s _ _ h7⟩
theorem pick4 {r u : Int} (h0 : 0 ≤ r) (h1 : r < 4) (u0 : 0 ≤ u) (u1 : u < 30) : ∃ v : Int, atI ([3, 9, 29, u].map V.int) r = some (.int v) ∧ 0 ≤ v ∧ v < 30 := by
  obtain ⟨v, hv, e⟩ := at_list (f := V.int) (xs := [3, 9, 29, u]) h0 (by simpa using h1)
  refine ⟨v, e, ?_⟩
  simp only [List.mem_cons, List.not_mem_nil, or_false] at hv
  rcases hv with rfl | rfl | rfl | rfl <;> constructor <;> omega
theorem shelf0 {ns : List Str} : Few ns ⟨[], []⟩ := ⟨⟨⟨List.Pairwise.nil, fun _ h => (nomatch h), Nat.zero_le _, Nat.zero_le _, fun _ h => (nomatch h), fun _ h => (nomatch h)⟩, fun _ h => (nomatch h), fun _ h => (nomatch h), fun _ h => (nomatch h)⟩, fun _ h => (nomatch h), fun _ h => (nomatch h), Nat.zero_le _, fun _ h => (nomatch h), fun _ h => (nomatch h), fun _ h => (nomatch h)⟩
theorem shelf_ins {K : PySem.W.Frag} {C : Addr} {H : Hp} {p : Addr} {x : Shelf} {F : Addr → Prop} (h : ShelfF K C H p x F) {n : Str} (hn : (["_deeds", "_columns", "_made", "_rows"] : List Str).contains n = false) : ∃ dx fs, H p = some (.ins C dx fs) ∧ fs.lookup n = none := by
  obtain ⟨dx, a, b, c, d, ds, ca, rl, S, hF⟩ := h
  exact ⟨dx, _, S.ins, sf_no hn⟩
section
variable {P : Program} {w : World} {K : PySem.W.Frag} {mg : Str → Option Value} {base : Heap} {f C fE fT fN fL fG fU fS fC fI eI : Addr} {fd dE dT dN dL dG dU dS dC dI : FuncData} {dsC dsI : List Value} {gk1 gk2 : List Value → List Value → List Value}
theorem ok_law (F : Fun K "law" "law" sLaw f fd) (T : TxtT K mg C) (mr : mg "range" = none) (mp : mg "repr" = none) (ms : mg "sorted" = none) (ml_ : mg "list" = none)
    (FE : Fun K "_law_pen" "_law_pen" sPen fE dE) (GE : FnOk P w K mg base CX0 1 fE dE ["_law_script"] (spPen K)) (gE : mg "_law_pen" = some (.ref fE)) (bE : Binds K dE ["_law_script"] [])
    (FT : Fun K "_law_take" "_law_take" sDraw fT dT) (GT : FnOk P w K mg base CX0 1 fT dT ["_law_pen_here", "_law_many"] spDraw) (gT : mg "_law_take" = some (.ref fT)) (bT : Binds K dT ["_law_pen_here", "_law_many"] [])
    (FN : Fun K "_law_names" "_law_names" sNm fN dN) (GN : FnOk P w K mg base CX0 2 fN dN ["_law_pen_here", "_law_many"] spNm) (gN : mg "_law_names" = some (.ref fN)) (bN : Binds K dN ["_law_pen_here", "_law_many"] [])
    (FL : Fun K "_law_deed" "_law_deed" sLDeed fL dL) (GL : FnOk P w K mg base CX0 3 fL dL ["_law_pen_here", "_law_names_here", "_law_model"] (spLDeed K)) (gL : mg "_law_deed" = some (.ref fL)) (bL : Binds K dL ["_law_pen_here", "_law_names_here", "_law_model"] [])
    (FG : Fun K "_law_goes" "_law_goes" sGoes fG dG) (GG : FnOk P w K mg base CX0 1 fG dG ["_law_model", "_law_deed_here", "_law_when"] (spGoes K)) (gG : mg "_law_goes" = some (.ref fG)) (bG : Binds K dG ["_law_model", "_law_deed_here", "_law_when"] [])
    (FU : Fun K "_law_due" "_law_due" sDue fU dU) (GU : FnOk P w K mg base CX0 1 fU dU ["_law_model", "_law_when"] (spDue K)) (gU : mg "_law_due" = some (.ref fU)) (bU : Binds K dU ["_law_model", "_law_when"] [])
    (FS : Fun K "_law_shape" "_law_shape" sShape fS dS) (GS : FnOk P w K mg base CX0 1 fS dS ["_law_found"] (spShape K)) (gS : mg "_law_shape" = some (.ref fS)) (bS : Binds K dS ["_law_found"] [])
    (kC : PySem.W.keepIn K (.ref fC) = true) (GC : FnOk P w K mg base CX0 5 fC dC ["tables", "moment"] (spCo K C)) (gC : mg "counts_of" = some (.ref fC)) (bC : Binds K dC ["tables", "moment"] dsC) (hC : Vals [V.non] dsC)
    (b1 : KBn K dC ["tables", "moment"] 1 ["moment"] gk1 fun vs zs => vs ++ zs) (b2 : KBn K dC ["tables", "moment"] 0 ["tables", "moment"] gk2 fun vs zs => vs ++ zs)
    (MK : Mk K C fI) (GI : FnOk P w K mg base CX0 1 fI dI ["self", "deeds"] (spInit K C)) (gI : mg "Tables" = some (.ref C)) (bI : Binds K dI ["self", "deeds"] dsI) (hI : Vals [V.ref eI] dsI) (heI : ∀ H, SqT K H eI [])
    (MM : Mt P w K mg base C "moment" ["self"] CX0 1 (spMom K C)) (MD : Mt P w K mg base C "do" ["self", "deed"] CX0 4 (spDo K C)) :
    FnG P w K mg base CX0 6 f fd ["_law_script"] (spLaw K) := by
  refine okG F scLaw (fun vs H Q E h => ?_) (fun cv A out s H vs Q E gd hr h => ?_)
  · obtain ⟨a, ns, rfl, _⟩ := h
    rfl
  obtain ⟨a, nums, rfl, ha, hn, q⟩ := h
  obtain ⟨fM, dM, mM, GM, bM⟩ := MM.ex
  obtain ⟨fD, dD, mD, GD, bD⟩ := MD.ex
  have nd := scLaw.nd
  have hu := hu_of hr
  have hu0 := Nat.lt_of_succ_lt hu
  have hu5 : (A.deeper (envOfC "law" (defScope sLaw) s.heap.objs.size f cv)).units + 65 < cLine := by have := hr.un; omega
  have r1 := hr.mono (show 1 ≤ 5 by decide)
  have r2 := hr.mono (show 2 ≤ 5 by decide)
  have r3 := hr.mono (show 3 ≤ 5 by decide)
  have r4 := hr.mono (show 4 ≤ 5 by decide)
  have zl : sizeLine = 16777216 := rfl
  refine ⟨_, pss_cons (ps_set (i := 1) nd rfl (by first | exact .inl rfl | exact .inr rfl) (pe_call GE r1 (by rfl) gE FE.kp bE .nil pass0 (pa_cons (pv 0) pa_nil)))
    (pss_cons (ps_set (i := 2) nd rfl (by first | exact .inl rfl | exact .inr rfl) (pe_call GN r2 (by rfl) gN FN.kp bN .nil pass0 (pa_cons (pv 1) (pa_cons pe_int pa_nil))))
    (pss_cons (ps_set (i := 3) nd rfl (by first | exact .inl rfl | exact .inr rfl) pe_dnewK)
    (pss_cons (ps_set (i := 4) nd rfl (by first | exact .inl rfl | exact .inr rfl) (pe_make0 MK GI r2 (by rfl) gI bI hI pass0))
    (pss_cons (ps_if (pt_cmpR (op_neDD hu5) (pe_call GC hr (by rfl) gC kC bC hC pass0 (pa_cons (pv 4) pa_nil)) pe_dnewK (nomark _)) pss_never pss_nil)
    (C8.pss_cut (ps_for PassesOwn.never rfl (pi_range2 (by rfl) mr (pa_cons pe_int (pa_cons (pe_op op_add pe_int (pe_ix ix_list (pe_lst (pa_cons pe_int (pa_cons pe_int (pa_cons pe_int (pa_cons (pe_call GT r1 (by rfl) gT FT.kp bT .nil pass0 (pa_cons (pv 1) (pa_cons pe_int pa_nil))) pa_nil))))) (pe_call GT r1 (by rfl) gT FT.kp bT .nil pass0 (pa_cons (pv 1) (pa_cons pe_int pa_nil))) (fun _ _ => rfl))) pa_nil))) (pg_name (i := 5) nd rfl (by first | exact .inl rfl | exact .inr rfl))
      (pss_cons (ps_set (i := 6) nd rfl (by first | exact .inl rfl | exact .inr rfl) (pe_call GL r3 (by rfl) gL FL.kp bL .nil pass0 (pa_cons (pv 1) (pa_cons (pv 2) (pa_cons (pv 3) pa_nil)))))
      (pss_cons (ps_expr (pe_call GG r1 (by rfl) gG FG.kp bG .nil pass0 (pa_cons (pv 3) (pa_cons (pv 6) (pa_cons (pv 5) pa_nil)))))
      (pss_cons (ps_expr (pe_meth (pv 4) T.cl mD GD r4 bD .nil pass0 (pa_cons (pv 6) pa_nil)))
      (pss_cons (ps_set (i := 7) nd rfl (by first | exact .inl rfl | exact .inr rfl) (pe_call GC hr (by rfl) gC kC bC hC pass0 (pa_cons (pv 4) pa_nil)))
      (pss_cons (ps_set (i := 8) nd rfl (by first | exact .inl rfl | exact .inr rfl) (pe_callB (call_repr gd hr.units) (by rfl) mp (by decide +kernel) (pa_cons (pe_call GU r1 (by rfl) gU FU.kp bU .nil pass0 (pa_cons (pv 3) (pa_cons (pv 5) pa_nil))) pa_nil)))
      (pss_cons (ps_if (pt_cmpR op_ne (pe_callB (call_repr gd hr.units) (by rfl) mp (by decide +kernel) (pa_cons (pe_call GS r1 (by rfl) gS FS.kp bS .nil pass0 (pa_cons (pv 7) pa_nil)) pa_nil)) (pv 8) (nomark _)) pss_never pss_nil)
      (pss_cons (ps_expr (pe_dclear (pe_ix ix_tup (pe_dget hu (pv 7) (pe_ix ix_list (pe_callB (call_sortedD hr.units) (by rfl) ms (by decide +kernel) (pa_cons (pe_callTy (call_listD rfl) (by rfl) ml_ (by decide +kernel) (pa_cons (pv 7) pa_nil)) pa_nil)) pe_int (fun _ _ => rfl)) (fun _ _ => rfl)) pe_int (fun _ _ => rfl))))
      (pss_cons (ps_expr (pe_dclear (pv 7)))
      (pss_cons (ps_set (i := 9) nd rfl (by first | exact .inl rfl | exact .inr rfl) (pe_call GT r1 (by rfl) gT FT.kp bT .nil pass0 (pa_cons (pv 1) (pa_cons (pe_op op_add (pv 5) pe_int) pa_nil))))
      (pss_cons (ps_if (pt_cmpR op_ne (pe_callB (call_repr gd hr.units) (by rfl) mp (by decide +kernel) (pa_cons (pe_call GS r1 (by rfl) gS FS.kp bS .nil pass0 (pa_cons (pe_kwN GC hr (by rfl) gC kC b2 pass0 (pk_cons (pv 4) (pk_cons (pv 9) pk_nil))) pa_nil)) pa_nil))
          (pe_callB (call_repr gd hr.units) (by rfl) mp (by decide +kernel) (pa_cons (pe_call GU r1 (by rfl) gU FU.kp bU .nil pass0 (pa_cons (pv 3) (pa_cons (pv 9) pa_nil))) pa_nil)) (nomark _)) pss_never pss_nil)
      (pss_one (ps_if (PW.pt (pw_or (pt_cmpR op_ne (pe_callB (call_repr gd hr.units) (by rfl) mp (by decide +kernel) (pa_cons (pe_call GS r1 (by rfl) gS FS.kp bS .nil pass0 (pa_cons (pe_callN GC hr (by rfl) gC kC b1 pass0 (pa_cons (pv 4) pa_nil) (pk_cons (pv 5) pk_nil)) pa_nil)) pa_nil)) (pv 8) (nomark _))
          (pw_or1 (pt_cmpR op_ne (pe_meth0 (pv 4) T.cl mM GM r1 bM .nil pass0) (pv 5) (nomark _))))) pss_never pss_nil)))))))))))))
    (pss_cons (ps_setLc (i := 10) (own := [("_law_k", 11)]) (g := gName 11) (tt := tYes) rfl nd rfl rfl (by rfl) (pi_range1 (by rfl) mr (pa_cons (pe_meth0 (pv 4) T.cl mM GM r1 bM .nil pass0) pa_nil)) (blkOk_by (N := nLaw) (sc := defScope sLaw) (by decide +kernel)) (fun _ _ _ _ _ => pg_name (i := 11) nd rfl (Or.inl rfl)) (fun _ _ _ _ _ => pts_nil)
      (fun _ _ _ _ _ => pe_callB (call_reprK K gd hr.units) (by rfl) mp (by decide +kernel) (pa_cons (pe_call GS r1 (by rfl) gS FS.kp bS .nil pass0 (pa_cons (pe_callN GC hr (by rfl) gC kC b1 pass0 (pa_cons (pv 4) pa_nil) (pk_cons (pv 11) pk_nil)) pa_nil)) pa_nil)))
    (pss_one (ps_ret (pe_cmpR (op_eqSS hu0) (pv 10) (pe_lc (own := [("_law_k", 11)]) (g := gName 11) (tt := tYes) rfl nd (pi_range1 (by rfl) mr (pa_cons (pe_meth0 (pv 4) T.cl mM GM r1 bM .nil pass0) pa_nil)) (blkOk_by (N := nLaw) (sc := defScope sLaw) (by decide +kernel)) (fun _ _ _ _ _ => pg_name (i := 11) nd rfl (Or.inl rfl)) (fun _ _ _ _ _ => pts_nil)
      (fun _ _ _ _ _ => pe_callB (call_reprK K gd hr.units) (by rfl) mp (by decide +kernel) (pa_cons (pe_call GU r1 (by rfl) gU FU.kp bU .nil pass0 (pa_cons (pv 3) (pa_cons (pv 11) pa_nil))) pa_nil))) (nomark _)))))))))), ?_⟩
  refine ⟨_, rfl, a, nums, rfl, ha, hn, fun l c H1 s1 nl nc p1 => ?_⟩
  refine ⟨_, rfl, l, c, 0, rfl, p1, by decide, fun N ns H2 nN eN h4 ndn lab p2 x2 => ?_⟩
  have nNl : N ≠ l := (p1.not nN).1
  have nNc : N ≠ c := (p1.not nN).2
  intro M nM
  have nMl := (p2.not nM).1
  have nMc := (p2.not nM).2
  have nMN : M ≠ N := fun z => by rw [z, eN] at nM; cases nM
  have eM : upd H2 M (.dK []) M = some (.dK []) := upd_same
  have p3 := p2.same (new_same (o := .dK []) nM)
  have eN3 := new_same (o := .dK []) nM _ _ eN
  generalize upd H2 M (.dK []) = H3 at eM p3 eN3 ⊢
  intro p dx np ndx npx
  refine ⟨p, eI, dx, rfl, upd_same, heI _, fun H4 F0 shf off new => ⟨rfl, ?_⟩⟩
  have off3 : ∀ b o, b ≠ p → H3 b = some o → H4 b = some o := fun b o nb e => off b o nb (by rw [upd_ne nb, upd_ne (ne_of_none e ndx)]; exact e)
  obtain ⟨⟨xl, el⟩, xc, ec⟩ := Pen.hl p3
  have old : ∀ {b : Addr} {o : HO}, H3 b = some o → ¬ F0 b := fun {b o} e hb => by
    have nb : b ≠ p := ne_of_none e np
    rcases new b hb with z | z
    · exact nb z
    · rw [upd_ne nb, upd_ne (ne_of_none e ndx), e] at z
      cases z
  have st0 : St K C H4 l c N M p ns [] ⟨[], []⟩ F0 (mfoot M [] (fun _ => 0) fun _ _ => 0) 2 := by
    have hG : ∀ q, mfoot M [] (fun _ => 0) (fun _ _ => 0) q ↔ q = M := fun q => by
      refine ⟨fun h => ?_, fun h => .inl h⟩
      rcases h with h | ⟨i, h, _⟩ | ⟨i, t, k, h, _⟩
      · exact h
      · exact absurd h (Nat.not_lt_zero _)
      · simp at h
    refine ⟨Pen.keep p3 fun b o hb e => off3 b o (ne_of_none e np) e, off3 _ _ (ne_of_none eN3 np) eN3, nNl, ⟨fun _ => 0, _, _, ⟨off3 _ _ (ne_of_none eM np) eM, fun i t h => by simp at h, fun i t h => by simp at h, fun i t k r h => by simp at h, fun i j h => absurd h (Nat.not_lt_zero _), fun i k j m t u h => by simp at h, fun i j k t h => absurd h (Nat.not_lt_zero _)⟩, fun q => .rfl⟩, shf, fun q hq hg => ?_, ⟨old el, fun z => nMl ((hG _).mp z).symm⟩, ⟨old ec, fun z => nMc ((hG _).mp z).symm⟩, ⟨old eN3, fun z => nMN ((hG _).mp z).symm⟩⟩
    rw [(hG q).mp hg] at hq
    exact old eM hq
  clear off3 old new off
  refine ⟨_, rfl, p, ⟨[], []⟩, F0, none, rfl, st0.shf, (shelf0 (ns := ns)).fit, Nat.le_refl _, fun H5 D kvs ys py _ s5 nD eD rel => ?_⟩
  intro U nU
  have z0 : ys = [] := List.perm_nil.mp py
  subst z0
  cases rel
  have j6 := new_same (o := .dK []) nU
  refine ⟨D, U, [], [], rfl, rfl, j6 _ _ eD, upd_same, ⟨rfl, fun _ h => nomatch h⟩, _, rfl, iteF ?_⟩
  have st6 := (st0.same s5).same j6
  generalize upd H5 U (.dK []) = H6 at st6 ⊢
  clear eD nD s5 j6 nU eM p3 eN3 el ec st0
  -- the deeds
  refine ⟨fun σ' H' => ∃ (x : Shelf) (F G : Addr → Prop) (y5 y6 y7 y8 y9 : Option V) (S : Int), σ' = [some (.ref a), some (.ref l), some (.ref N), some (.ref M), some (.ref p), y5, y6, y7, y8, y9, none, none] ∧ St K C H' l c N M p ns x.tabs x F G S ∧ Few ns x, ?_, ?_⟩
  · refine ⟨_, rfl, l, c, 30, _, rfl, st6.pen, by decide, by decide, by decide, fun u H7 u0 u1 p7 x7 => ?_⟩
    have st7 := st6.draw x7 p7
    refine ⟨by show 4 ≤ sizeLine; decide, fun b nb => ?_⟩
    have j8 := new_same (o := .lst ([3, 9, 29, u].map V.int)) nb
    have nbl := (st7.pen.not nb).1
    refine ⟨_, rfl, l, c, 4, _, rfl, (st7.same j8).pen, by decide, by decide, by decide, fun r H9 v0 v1 p9 x9 => ?_⟩
    have st9 := (st7.same j8).draw x9 p9
    obtain ⟨n, en, n0, n1⟩ := pick4 v0 v1 u0 u1
    refine ⟨b, _, _, .int n, rfl, rfl, SqL.of (x9 _ _ nbl (upd_same (o := .lst ([3, 9, 29, u].map V.int)))), en, _, _, rfl, rfl, ?_⟩
    refine ⟨1, 2 + n, rfl, ⟨by decide, by decide, by omega, by omega⟩, ?_⟩
    refine for_it (walk_range (lo := 1) (n := ((2 + n) - 1).toNat)) (fun i σ H' => ∃ (x : Shelf) (F G : Addr → Prop) (y5 y6 y7 y8 y9 : Option V), σ = [some (.ref a), some (.ref l), some (.ref N), some (.ref M), some (.ref p), y5, y6, y7, y8, y9, none, none] ∧ St K C H' l c N M p ns x.tabs x F G (10 + 40 * ((i : Nat) : Int)) ∧ Few ns x ∧ x.deeds.length = i)
      ⟨⟨[], []⟩, _, _, _, _, _, _, _, rfl, ⟨st9.pen.le (by omega), st9.nam, st9.nNl, st9.mod, st9.shf, st9.ap, st9.ol, st9.oc, st9.oN⟩, shelf0, rfl⟩ (fun _ _ _ _ _ => trivial) ?_ ?_
    · rintro i wv σ G1 G2 hi ⟨x, F, G, y5, y6, y7, y8, y9, rfl, st, few, hl⟩ ⟨rfl, rfl⟩
      have hi30 : i < 30 := by omega
      show gName 5 (.int (1 + ((i : Nat) : Int))) _ _ _
      rw [show (1 : Int) + ((i : Nat) : Int) = ((x.deeds.length + 1 : Nat) : Int) by rw [hl]; omega]
      refine ⟨_, rfl, _, rfl, _, rfl, l, c, N, M, _, ns, x, G, rfl, st.pen, by omega, st.nam, st.nNl, h4, ndn, fun n hn => (lab n hn).2, st.mod, st.ol.2, few, fun t d y G3 hd dok can hdn p3 x3 => ?_⟩
      have st3 := st.draw x3 p3
      refine ⟨_, rfl, _, rfl, _, rfl, M, t, x, y, G, d, rfl, st3.mod, few.fit.ok, hd, can, fun G4 Gm m4 a4 => ?_⟩
      have st4 := st3.model m4 a4
      have hd4 := hd.tups (st3.mod.tups a4)
      obtain ⟨dx4, fs4, ip4, lk4⟩ := shelf_ins st4.shf (n := "do") (by decide)
      refine ⟨_, rfl, p, dx4, fs4, rfl, ip4, lk4, _, rfl, p, t, x, y, F, d, rfl, st4.shf, few.fit.ok, by omega, hd4, dok, can, fun G5 Fm v5 m5 a5 => ?_⟩
      have st5 := st4.shelf m5 a5
      have few5 := few.next dok can hdn (by omega)
      have some5 := can.some
      have l5 : ({ y with deeds := x.deeds ++ [d] } : Shelf).deeds.length = x.deeds.length + 1 := by
        show (x.deeds ++ [d]).length = _
        rw [List.length_append, List.length_singleton]
      have st5 : St K C G5 l c N M p ns ({ y with deeds := x.deeds ++ [d] } : Shelf).tabs { y with deeds := x.deeds ++ [d] } Fm Gm _ := st5
      have some5 : ({ y with deeds := x.deeds ++ [d] } : Shelf).tabs ≠ [] := some5
      generalize ({ y with deeds := x.deeds ++ [d] } : Shelf) = x5 at st5 few5 l5 some5
      rw [← l5]
      clear st st3 st4 hd hd4 can dok few m4 a4 m5 a5
      have em : x5.mo none = x5.deeds.length := rfl
      have dueS := fun m => due_shown few5 m
      -- found
      refine ⟨_, rfl, p, x5, Fm, none, rfl, st5.shf, few5.fit, Nat.le_refl _, fun G6 D kvs ys py sy s6 nD eD rel => ?_⟩
      rw [em] at py rel
      have st6 := st5.same s6
      refine ⟨_, rfl, _, rfl, M, x5, Gm, x5.deeds.length, rfl, st6.mod, few5.fit, fun G7 R7 s7 n7 d7 => ?_⟩
      have st7 := st6.same s7
      refine ⟨_, _, rfl, d7, (dueS _).1, (dueS _).2.1, (dueS _).2.2, ?_⟩
      have rel7 := rel.mono fun kv n h => ToldAt.same s7 h
      refine ⟨_, rfl, D, x5, x5.deeds.length, G5, kvs, ys, rfl, s7 _ _ eD, rel7, py, few5.fit, few5.one, fun G8 R8 s8 n8 d8 => ?_⟩
      refine ⟨_, _, rfl, d8, (dueS _).1, (dueS _).2.1, (dueS _).2.2, _, rfl, rfl, _, rfl, iteF' (by show ¬ (!decide (_ = _)) = true; simp) ?_⟩
      have st8 := st7.same s8
      have eD8 := s8 _ _ (s7 _ _ eD)
      have rel8 := rel7.mono fun kv n h => ToldAt.same s8 h
      -- cleared
      refine ⟨_, rfl, _, rfl, D, _, rfl, .inl eD8, fun L0 nL0 => ?_⟩
      rw [told_keys rel8]
      have jL0 := new_same (o := .lst (ys.map V.str)) nL0
      have eL0 : upd G8 L0 (.lst (ys.map V.str)) L0 = some (.lst (ys.map V.str)) := upd_same
      have st9 := st8.same jL0
      have eD9 := jL0 _ _ eD8
      have rel9 := rel8.mono fun kv n h => ToldAt.same jL0 h
      generalize upd G8 L0 (.lst (ys.map V.str)) = G9 at eL0 st9 eD9 rel9 ⊢
      have l6 : ys.length ≤ 6 := by
        rw [py.length_eq]
        unfold namesAt
        rw [List.length_map]
        exact Nat.le_trans (List.length_filter_le _ _) few5.fit.ok.tabs
      refine ⟨L0, _, ys.map PyData.str, rfl, SqL.of eL0, dp_strs _, alike_strs _, strs_sortable _, by rw [List.length_map]; omega, fun d hd => ?_, fun us L nL dU => ?_⟩
      · obtain ⟨n, _, rfl⟩ := List.mem_map.mp hd
        exact Nat.zero_le _
      rw [← ordS_map] at dU
      obtain rfl := dp_strs_inv dU
      have jL := new_same (o := .lst ((ordS ys).map V.str)) nL
      have eL : upd G9 L (.lst ((ordS ys).map V.str)) L = some (.lst ((ordS ys).map V.str)) := upd_same
      have stA := st9.same jL
      have eDA := jL _ _ eD9
      have relA := rel9.mono fun kv n h => ToldAt.same jL h
      generalize upd G9 L (.lst ((ordS ys).map V.str)) = GA at eL stA eDA relA ⊢
      have lys : 0 < (ordS ys).length := by
        rw [(ordS_perm ys).length_eq, py.length_eq]
        unfold namesAt
        rw [List.length_map]
        obtain ⟨t0, h0⟩ : ∃ t0, t0 ∈ x5.tabs := by
          cases e : x5.tabs with
          | nil => exact absurd e some5
          | cons t0 r => exact ⟨t0, List.mem_cons_self ..⟩
        exact List.length_pos_of_mem (List.mem_filter.mpr ⟨h0, decide_eq_true (few5.made t0 h0)⟩)
      have e0 : (ordS ys)[0]? = some (ordS ys)[0] := List.getElem?_eq_getElem lys
      have m0 : (ordS ys)[0] ∈ ys := (ordS_perm ys).mem_iff.mp (List.getElem_mem lys)
      generalize (ordS ys)[0] = n0 at e0 m0
      obtain ⟨v, ev, _, t1, r1', u1, ht1, en1, rfl, nuD, nu0, hr1, hu1⟩ := told_get relA m0
      have gd0 : DGet GA D (.str n0) (some (.ref r1')) := by
        have z := DGet.k (k := .inr n0) eDA
        rw [ev] at z
        exact z
      refine ⟨L, _, 0, _, rfl, rfl, SqL.of eL, atI_nat (j := 0) (by rw [List.getElem?_map, e0]; rfl), D, _, rfl, gd0, r1', _, 1, _, rfl, rfl, hr1, atI_nat (j := 1) rfl, .inr (.inr (.inl ⟨rfl, .inl ⟨_, hu1⟩⟩)), u1, _, rfl, rfl, hu1, ?_⟩
      have fu := st5.fresh nu0
      have fD := st5.fresh nD
      have stB := stA.wiped hu1 fu.1 fu.2
      have eDB : upd GA u1 (.dK []) D = some (.dK kvs) := by rw [upd_ne nuD.symm]; exact eDA
      generalize upd GA u1 (.dK []) = GB at stB eDB ⊢
      refine ⟨_, rfl, .inr (.inr (.inl ⟨rfl, .inl ⟨_, eDB⟩⟩)), D, _, rfl, rfl, eDB, ?_⟩
      have stC := stB.wiped eDB fD.1 fD.2
      generalize upd GB D (.dK []) = GC' at stC ⊢
      clear stB stA st9 st8 st7 st6 st5 relA rel9 rel8 rel7 rel eDB eDA eD9 eD8 eD hu1 hr1 gd0 eL eL0 d7 d8
      -- an elder moment
      refine ⟨_, rfl, _, rfl, _, _, rfl, rfl, l, c, _, _, rfl, stC.pen, by omega, by omega, by omega, fun r HD r0 r1v pD xD => ?_⟩
      have stD := stC.draw xD pD
      obtain ⟨e, rfl⟩ : ∃ e : Nat, r = ((e : Nat) : Int) := ⟨r.toNat, by omega⟩
      have he : e ≤ x5.deeds.length := by omega
      refine ⟨_, rfl, _, rfl, rfl, p, x5, Fm, some e, rfl, stD.shf, few5.fit, he, fun HE D2 kvs2 ys2 py2 sy2 sE nD2 eD2 rel2 => ?_⟩
      have stE := stD.same sE
      refine ⟨D2, x5, e, HD, kvs2, ys2, rfl, eD2, rel2, py2, few5.fit, few5.one, fun HF RF sF nF dF => ?_⟩
      have stF := stE.same sF
      refine ⟨_, _, rfl, dF, (dueS _).1, (dueS _).2.1, (dueS _).2.2, ?_⟩
      refine ⟨_, rfl, _, rfl, M, x5, Gm, e, rfl, stF.mod, few5.fit, fun HG RG sG nG dG => ?_⟩
      have stG := stF.same sG
      refine ⟨_, _, rfl, dG, (dueS _).1, (dueS _).2.1, (dueS _).2.2, rfl, _, rfl, iteF' (by show ¬ (!decide (_ = _)) = true; simp) ?_⟩
      -- the moment now
      refine ⟨_, rfl, _, rfl, rfl, rfl, p, x5, Fm, some x5.deeds.length, rfl, stG.shf, few5.fit, Nat.le_refl _, fun HH D3 kvs3 ys3 py3 sy3 sH nD3 eD3 rel3 => ?_⟩
      have stH := stG.same sH
      refine ⟨D3, x5, x5.deeds.length, HG, kvs3, ys3, rfl, eD3, rel3, py3, few5.fit, few5.one, fun HI RI sI nI dI => ?_⟩
      have stI := stH.same sI
      refine ⟨_, _, rfl, dI, (dueS _).1, (dueS _).2.1, (dueS _).2.2, _, rfl, rfl, _, rfl, iteF' (by show ¬ (!decide (_ = _)) = true; simp) ?_⟩
      obtain ⟨dx9, fs9, ip9, lk9⟩ := shelf_ins stI.shf (n := "moment") (by decide)
      refine ⟨_, rfl, p, dx9, fs9, rfl, ip9, lk9, p, x5, Fm, rfl, stI.shf, few5.fit.ok.deeds, _, rfl, rfl, _, rfl, iteF' (by show ¬ (!decide (_ = _)) = true; simp) ?_⟩
      exact ⟨x5, Fm, Gm, _, _, _, _, _, rfl, ⟨stI.pen.le (by omega), stI.nam, stI.nNl, stI.mod, stI.shf, stI.ap, stI.ol, stI.oc, stI.oN⟩, few5, by omega⟩
    · rintro σ G1 ⟨x, F, G, y5, y6, y7, y8, y9, rfl, st, few, hl⟩
      exact ⟨x, F, G, _, _, _, _, _, _, rfl, st, few⟩
  rintro σ' H7 ⟨x, F, G, y5, y6, y7, y8, y9, S, rfl, st, few⟩
  have dueS := fun m => due_shown few m
  have ld := few.deeds
  obtain ⟨dx7, fs7, ip7, lk7⟩ := shelf_ins st.shf (n := "moment") (by decide)
  refine ⟨_, rfl, p, dx7, fs7, rfl, ip7, lk7, p, x, F, rfl, st.shf, few.fit.ok.deeds, _, rfl, by omega, by omega, fun D nD => ?_⟩
  refine lc_it (upto (n := x.deeds.length)) (fun j G' => Same H7 G' ∧ G' D = some (.lst (((List.range j).map fun k => (dueD x.tabs k).shown).map V.str))) ⟨new_same nD, upd_same⟩ (fun _ _ _ _ => trivial) ?_ ?_
  · rintro j wv G1 G2 hj ⟨sg, eD⟩ ⟨rfl, rfl⟩
    have st1 := st.same sg
    refine ⟨rfl, ?_⟩
    refine ⟨_, rfl, _, rfl, rfl, rfl, p, x, F, some j, rfl, st1.shf, few.fit, Nat.le_of_lt hj, fun G3 D3 kvs3 ys3 py3 sy3 s3 nD3 eD3 rel3 => ?_⟩
    refine ⟨D3, x, j, _, kvs3, ys3, rfl, eD3, rel3, py3, few.fit, few.one, fun G4 R4 s4 n4 d4 => ?_⟩
    have s14 := s3.trans s4
    refine ⟨_, _, rfl, d4, (dueS _).1, (dueS _).2.1, (dueS _).2.2, _, s14 _ _ eD, by rw [List.length_map, List.length_map, List.length_range]; omega, own_same nD (sg.trans s14), ?_⟩
    rw [upd_same, List.range_succ, List.map_append, List.map_append]
    rfl
  rintro H8 ⟨s8, eD8⟩
  have st8 := st.same s8
  obtain ⟨dx8, fs8, ip8, lk8⟩ := shelf_ins st8.shf (n := "moment") (by decide)
  refine ⟨_, rfl, _, rfl, p, dx8, fs8, rfl, ip8, lk8, p, x, F, rfl, st8.shf, few.fit.ok.deeds, _, rfl, by omega, by omega, fun D2 nD2 => ?_⟩
  refine lc_it (upto (n := x.deeds.length)) (fun j G' => Same H8 G' ∧ G' D2 = some (.lst (((List.range j).map fun k => (dueD x.tabs k).shown).map V.str))) ⟨new_same nD2, upd_same⟩ (fun _ _ _ _ => trivial) ?_ ?_
  · rintro j wv G1 G2 hj ⟨sg, eD⟩ ⟨rfl, rfl⟩
    have st1 := st8.same sg
    refine ⟨rfl, ?_⟩
    refine ⟨_, rfl, _, rfl, M, x, G, j, rfl, st1.mod, few.fit, fun G3 R3 s3 n3 d3 => ?_⟩
    refine ⟨_, _, rfl, d3, (dueS _).1, (dueS _).2.1, (dueS _).2.2, _, s3 _ _ eD, by rw [List.length_map, List.length_map, List.length_range]; omega, own_same nD2 (sg.trans s3), ?_⟩
    rw [upd_same, List.range_succ, List.map_append, List.map_append]
    rfl
  rintro H9 ⟨s9, eD9⟩
  exact ⟨D, D2, _, rfl, rfl, SqL.of (s9 _ _ eD8), SqL.of eD9, q _⟩
end
end K20
end

section
set_option Elab.async false
set_option linter.all false
set_option maxRecDepth 100000
set_option maxHeartbeats 8000000
namespace K20
open PySem PySem.Spec PyProof.Rows L2 Gd
theorem all_mk {l : PySem.W.OpenLaw} {w : World} {K : PySem.W.Frag} {h : Heap} {mg : Str → Option Value} {fa : Addr} {C T0 E0 f0 f1 f2 f3 f4 f5 f6 f7 f8 f9 f10 f11 f12 f13 f14 f15 f16 f17 f18 f19 f20 f21 f22 f23 f24 f25 D15 D22 D23 D24 : Addr} (X : K.In h) (G : h.Ns mainGlobals mg) (hfa : mg "law" = some (.ref fa))
    {td0 te0 od0 an0 od1 an1 od2 an2 od3 an3 od4 an4 od5 an5 od6 an6 od7 an7 od8 an8 od9 an9 od10 an10 od11 an11 od12 an12 od13 an13 od14 an14 od15 an15 od16 an16 od17 an17 od18 an18 od19 an19 od20 an20 od21 an21 od22 an22 od23 an23 od24 an24 od25 an25 : Option Addr} {ts0 ts1 sl0 sl1 sl2 sl3 sl4 sl5 sl6 sl7 sl8 sl9 sl10 sl11 sl12 sl13 sl14 sl15 sl16 sl17 sl18 sl19 sl20 sl21 sl22 sl23 sl24 sl25 : Array (Option Value)} {tc0 oc0 dc0 pm0 cd0 ct0 kV0 oc1 dc1 pm1 cd1 ct1 kV1 oc2 dc2 pm2 cd2 ct2 kV2 oc3 dc3 pm3 cd3 ct3 kV3 oc4 dc4 pm4 cd4 ct4 kV4 oc5 dc5 pm5 cd5 ct5 kV5 oc6 dc6 pm6 cd6 ct6 kV6 oc7 dc7 pm7 cd7 ct7 kV7 oc8 dc8 pm8 cd8 ct8 kV8 oc9 dc9 pm9 cd9 ct9 kV9 oc10 dc10 pm10 cd10 ct10 kV10 oc11 dc11 pm11 cd11 ct11 kV11 oc12 dc12 pm12 cd12 ct12 kV12 oc13 dc13 pm13 cd13 ct13 kV13 oc14 dc14 pm14 cd14 ct14 kV14 oc15 dc15 pm15 cd15 ct15 oc16 dc16 pm16 cd16 ct16 kV16 oc17 dc17 pm17 cd17 ct17 kV17 oc18 dc18 pm18 cd18 ct18 kV18 oc19 dc19 pm19 cd19 ct19 kV19 oc20 dc20 pm20 cd20 ct20 kV20 oc21 dc21 pm21 cd21 ct21 kV21 oc22 dc22 pm22 cd22 ct22 oc23 dc23 pm23 cd23 ct23 oc24 dc24 pm24 cd24 ct24 oc25 dc25 pm25 cd25 ct25 kV25 : Value} {tn0 tn1 : Nat} {tk0 tk1 tk2 tk3 tk4 tk5 : Tok}
    (aC : PySem.W.nsIn K mainGlobals "Tables" = some (some (.ref C)))
    (aF0 : PySem.W.nsIn K mainGlobals "_counted" = some (some (.ref f0)))
    (lF0 : K.lookup f0 = some ⟨oc0, od0, .func (PySem.W.fnOf "_counted" "_counted" (defArgs sCnt) (defBody sCnt) (defScope sCnt) .none kV0 dc0 pm0 an0 cd0 ct0), sl0⟩)
    (cF0 : PySem.W.codeIn K cd0 "_counted" = true)
    (kF0 : PySem.W.keepIn K (.ref f0) = true)
    (aF1 : PySem.W.nsIn K mainGlobals "is_name" = some (some (.ref f1)))
    (lF1 : K.lookup f1 = some ⟨oc1, od1, .func (PySem.W.fnOf "is_name" "is_name" (defArgs sName) (defBody sName) (defScope sName) .none kV1 dc1 pm1 an1 cd1 ct1), sl1⟩)
    (cF1 : PySem.W.codeIn K cd1 "is_name" = true)
    (kF1 : PySem.W.keepIn K (.ref f1) = true)
    (aF2 : PySem.W.nsIn K mainGlobals "is_whole" = some (some (.ref f2)))
    (lF2 : K.lookup f2 = some ⟨oc2, od2, .func (PySem.W.fnOf "is_whole" "is_whole" (defArgs sWhole) (defBody sWhole) (defScope sWhole) .none kV2 dc2 pm2 an2 cd2 ct2), sl2⟩)
    (cF2 : PySem.W.codeIn K cd2 "is_whole" = true)
    (kF2 : PySem.W.keepIn K (.ref f2) = true)
    (aF3 : PySem.W.nsIn K mainGlobals "is_number" = some (some (.ref f3)))
    (lF3 : K.lookup f3 = some ⟨oc3, od3, .func (PySem.W.fnOf "is_number" "is_number" (defArgs sNumber) (defBody sNumber) (defScope sNumber) .none kV3 dc3 pm3 an3 cd3 ct3), sl3⟩)
    (cF3 : PySem.W.codeIn K cd3 "is_number" = true)
    (kF3 : PySem.W.keepIn K (.ref f3) = true)
    (aF4 : PySem.W.nsIn K mainGlobals "_is_deed" = some (some (.ref f4)))
    (lF4 : K.lookup f4 = some ⟨oc4, od4, .func (PySem.W.fnOf "_is_deed" "_is_deed" (defArgs sDeed) (defBody sDeed) (defScope sDeed) .none kV4 dc4 pm4 an4 cd4 ct4), sl4⟩)
    (cF4 : PySem.W.codeIn K cd4 "_is_deed" = true)
    (kF4 : PySem.W.keepIn K (.ref f4) = true)
    (aF5 : PySem.W.nsIn K mainGlobals "_are_columns" = some (some (.ref f5)))
    (lF5 : K.lookup f5 = some ⟨oc5, od5, .func (PySem.W.fnOf "_are_columns" "_are_columns" (defArgs sCol) (defBody sCol) (defScope sCol) .none kV5 dc5 pm5 an5 cd5 ct5), sl5⟩)
    (cF5 : PySem.W.codeIn K cd5 "_are_columns" = true)
    (kF5 : PySem.W.keepIn K (.ref f5) = true)
    (aF6 : PySem.W.nsIn K mainGlobals "_law_pen" = some (some (.ref f6)))
    (lF6 : K.lookup f6 = some ⟨oc6, od6, .func (PySem.W.fnOf "_law_pen" "_law_pen" (defArgs sPen) (defBody sPen) (defScope sPen) .none kV6 dc6 pm6 an6 cd6 ct6), sl6⟩)
    (cF6 : PySem.W.codeIn K cd6 "_law_pen" = true)
    (kF6 : PySem.W.keepIn K (.ref f6) = true)
    (aF7 : PySem.W.nsIn K mainGlobals "_law_take" = some (some (.ref f7)))
    (lF7 : K.lookup f7 = some ⟨oc7, od7, .func (PySem.W.fnOf "_law_take" "_law_take" (defArgs sDraw) (defBody sDraw) (defScope sDraw) .none kV7 dc7 pm7 an7 cd7 ct7), sl7⟩)
    (cF7 : PySem.W.codeIn K cd7 "_law_take" = true)
    (kF7 : PySem.W.keepIn K (.ref f7) = true)
    (aF8 : PySem.W.nsIn K mainGlobals "_law_names" = some (some (.ref f8)))
    (lF8 : K.lookup f8 = some ⟨oc8, od8, .func (PySem.W.fnOf "_law_names" "_law_names" (defArgs sNm) (defBody sNm) (defScope sNm) .none kV8 dc8 pm8 an8 cd8 ct8), sl8⟩)
    (cF8 : PySem.W.codeIn K cd8 "_law_names" = true)
    (kF8 : PySem.W.keepIn K (.ref f8) = true)
    (aF9 : PySem.W.nsIn K mainGlobals "_law_worth" = some (some (.ref f9)))
    (lF9 : K.lookup f9 = some ⟨oc9, od9, .func (PySem.W.fnOf "_law_worth" "_law_worth" (defArgs sWor) (defBody sWor) (defScope sWor) .none kV9 dc9 pm9 an9 cd9 ct9), sl9⟩)
    (cF9 : PySem.W.codeIn K cd9 "_law_worth" = true)
    (kF9 : PySem.W.keepIn K (.ref f9) = true)
    (aF10 : PySem.W.nsIn K mainGlobals "_law_deed" = some (some (.ref f10)))
    (lF10 : K.lookup f10 = some ⟨oc10, od10, .func (PySem.W.fnOf "_law_deed" "_law_deed" (defArgs sLDeed) (defBody sLDeed) (defScope sLDeed) .none kV10 dc10 pm10 an10 cd10 ct10), sl10⟩)
    (cF10 : PySem.W.codeIn K cd10 "_law_deed" = true)
    (kF10 : PySem.W.keepIn K (.ref f10) = true)
    (aF11 : PySem.W.nsIn K mainGlobals "_law_goes" = some (some (.ref f11)))
    (lF11 : K.lookup f11 = some ⟨oc11, od11, .func (PySem.W.fnOf "_law_goes" "_law_goes" (defArgs sGoes) (defBody sGoes) (defScope sGoes) .none kV11 dc11 pm11 an11 cd11 ct11), sl11⟩)
    (cF11 : PySem.W.codeIn K cd11 "_law_goes" = true)
    (kF11 : PySem.W.keepIn K (.ref f11) = true)
    (aF12 : PySem.W.nsIn K mainGlobals "_law_due" = some (some (.ref f12)))
    (lF12 : K.lookup f12 = some ⟨oc12, od12, .func (PySem.W.fnOf "_law_due" "_law_due" (defArgs sDue) (defBody sDue) (defScope sDue) .none kV12 dc12 pm12 an12 cd12 ct12), sl12⟩)
    (cF12 : PySem.W.codeIn K cd12 "_law_due" = true)
    (kF12 : PySem.W.keepIn K (.ref f12) = true)
    (aF13 : PySem.W.nsIn K mainGlobals "_law_shape" = some (some (.ref f13)))
    (lF13 : K.lookup f13 = some ⟨oc13, od13, .func (PySem.W.fnOf "_law_shape" "_law_shape" (defArgs sShape) (defBody sShape) (defScope sShape) .none kV13 dc13 pm13 an13 cd13 ct13), sl13⟩)
    (cF13 : PySem.W.codeIn K cd13 "_law_shape" = true)
    (kF13 : PySem.W.keepIn K (.ref f13) = true)
    (aF14 : PySem.W.nsIn K mainGlobals "law" = some (some (.ref f14)))
    (lF14 : K.lookup f14 = some ⟨oc14, od14, .func (PySem.W.fnOf "law" "law" (defArgs sLaw) (defBody sLaw) (defScope sLaw) .none kV14 dc14 pm14 an14 cd14 ct14), sl14⟩)
    (cF14 : PySem.W.codeIn K cd14 "law" = true)
    (kF14 : PySem.W.keepIn K (.ref f14) = true)
    (aF15 : PySem.W.nsIn K mainGlobals "counts_of" = some (some (.ref f15)))
    (lF15 : K.lookup f15 = some ⟨oc15, od15, .func (PySem.W.fnOf "counts_of" "counts_of" (defArgs sCo) (defBody sCo) (defScope sCo) .none (.ref D15) dc15 pm15 an15 cd15 ct15), sl15⟩)
    (cF15 : PySem.W.codeIn K cd15 "counts_of" = true)
    (kF15 : PySem.W.keepIn K (.ref f15) = true)
    (dF15 : PySem.W.nsIn K D15 "moment" = some (some .none))
    (aF16 : PySem.W.findIn K (.ref C) "do" = some (some (.ref f16)))
    (iF16 : PySem.W.isFn K (.ref f16) = true)
    (lF16 : K.lookup f16 = some ⟨oc16, od16, .func (PySem.W.fnOf "do" "Tables.do" (defArgs sDo) (defBody sDo) (defScope sDo) .none kV16 dc16 pm16 an16 cd16 ct16), sl16⟩)
    (cF16 : PySem.W.codeIn K cd16 "Tables.do" = true)
    (kF16 : PySem.W.keepIn K (.ref f16) = true)
    (aF17 : PySem.W.findIn K (.ref C) "_make" = some (some (.ref f17)))
    (iF17 : PySem.W.isFn K (.ref f17) = true)
    (lF17 : K.lookup f17 = some ⟨oc17, od17, .func (PySem.W.fnOf "_make" "Tables._make" (defArgs sMake) (defBody sMake) (defScope sMake) .none kV17 dc17 pm17 an17 cd17 ct17), sl17⟩)
    (cF17 : PySem.W.codeIn K cd17 "Tables._make" = true)
    (kF17 : PySem.W.keepIn K (.ref f17) = true)
    (aF18 : PySem.W.findIn K (.ref C) "_put" = some (some (.ref f18)))
    (iF18 : PySem.W.isFn K (.ref f18) = true)
    (lF18 : K.lookup f18 = some ⟨oc18, od18, .func (PySem.W.fnOf "_put" "Tables._put" (defArgs sPut) (defBody sPut) (defScope sPut) .none kV18 dc18 pm18 an18 cd18 ct18), sl18⟩)
    (cF18 : PySem.W.codeIn K cd18 "Tables._put" = true)
    (kF18 : PySem.W.keepIn K (.ref f18) = true)
    (aF19 : PySem.W.findIn K (.ref C) "_take_out" = some (some (.ref f19)))
    (iF19 : PySem.W.isFn K (.ref f19) = true)
    (lF19 : K.lookup f19 = some ⟨oc19, od19, .func (PySem.W.fnOf "_take_out" "Tables._take_out" (defArgs sOut) (defBody sOut) (defScope sOut) .none kV19 dc19 pm19 an19 cd19 ct19), sl19⟩)
    (cF19 : PySem.W.codeIn K cd19 "Tables._take_out" = true)
    (kF19 : PySem.W.keepIn K (.ref f19) = true)
    (aF20 : PySem.W.findIn K (.ref C) "moment" = some (some (.ref f20)))
    (iF20 : PySem.W.isFn K (.ref f20) = true)
    (lF20 : K.lookup f20 = some ⟨oc20, od20, .func (PySem.W.fnOf "moment" "Tables.moment" (defArgs sMom) (defBody sMom) (defScope sMom) .none kV20 dc20 pm20 an20 cd20 ct20), sl20⟩)
    (cF20 : PySem.W.codeIn K cd20 "Tables.moment" = true)
    (kF20 : PySem.W.keepIn K (.ref f20) = true)
    (aF21 : PySem.W.findIn K (.ref C) "_moment_of" = some (some (.ref f21)))
    (iF21 : PySem.W.isFn K (.ref f21) = true)
    (lF21 : K.lookup f21 = some ⟨oc21, od21, .func (PySem.W.fnOf "_moment_of" "Tables._moment_of" (defArgs sMof) (defBody sMof) (defScope sMof) .none kV21 dc21 pm21 an21 cd21 ct21), sl21⟩)
    (cF21 : PySem.W.codeIn K cd21 "Tables._moment_of" = true)
    (kF21 : PySem.W.keepIn K (.ref f21) = true)
    (aF22 : PySem.W.findIn K (.ref C) "rows" = some (some (.ref f22)))
    (iF22 : PySem.W.isFn K (.ref f22) = true)
    (lF22 : K.lookup f22 = some ⟨oc22, od22, .func (PySem.W.fnOf "rows" "Tables.rows" (defArgs sRows) (defBody sRows) (defScope sRows) .none (.ref D22) dc22 pm22 an22 cd22 ct22), sl22⟩)
    (cF22 : PySem.W.codeIn K cd22 "Tables.rows" = true)
    (kF22 : PySem.W.keepIn K (.ref f22) = true)
    (dF22 : PySem.W.nsIn K D22 "moment" = some (some .none))
    (aF23 : PySem.W.findIn K (.ref C) "columns" = some (some (.ref f23)))
    (iF23 : PySem.W.isFn K (.ref f23) = true)
    (lF23 : K.lookup f23 = some ⟨oc23, od23, .func (PySem.W.fnOf "columns" "Tables.columns" (defArgs sColumns) (defBody sColumns) (defScope sColumns) .none (.ref D23) dc23 pm23 an23 cd23 ct23), sl23⟩)
    (cF23 : PySem.W.codeIn K cd23 "Tables.columns" = true)
    (kF23 : PySem.W.keepIn K (.ref f23) = true)
    (dF23 : PySem.W.nsIn K D23 "moment" = some (some .none))
    (aF24 : PySem.W.findIn K (.ref C) "names" = some (some (.ref f24)))
    (iF24 : PySem.W.isFn K (.ref f24) = true)
    (lF24 : K.lookup f24 = some ⟨oc24, od24, .func (PySem.W.fnOf "names" "Tables.names" (defArgs sNames) (defBody sNames) (defScope sNames) .none (.ref D24) dc24 pm24 an24 cd24 ct24), sl24⟩)
    (cF24 : PySem.W.codeIn K cd24 "Tables.names" = true)
    (kF24 : PySem.W.keepIn K (.ref f24) = true)
    (dF24 : PySem.W.nsIn K D24 "moment" = some (some .none))
    (aF25 : PySem.W.findIn K (.ref C) "__init__" = some (some (.ref f25)))
    (iF25 : PySem.W.isFn K (.ref f25) = true)
    (lF25 : K.lookup f25 = some ⟨oc25, od25, .func (PySem.W.fnOf "__init__" "Tables.__init__" (defArgs sInit) (defBody sInit) (defScope sInit) (.ref T0) kV25 dc25 pm25 an25 cd25 ct25), sl25⟩)
    (cF25 : PySem.W.codeIn K cd25 "Tables.__init__" = true)
    (kF25 : PySem.W.keepIn K (.ref f25) = true)
    (lT0 : K.lookup T0 = some ⟨tc0, td0, .seq #[.ref E0] tn0, ts0⟩)
    (lE0 : K.lookup E0 = some ⟨.type "tuple", te0, .seq #[] tn1, ts1⟩)
    (pg : PySem.W.plainGet K C Str.empty = true)
    (hd : PySem.W.hasDictIn K C = true)
    (po : PySem.W.plainOver K C = true)
    (sa : PySem.W.findIn K (.ref C) "__setattr__" = some (some (.builtin "object.__setattr__")))
    (mk : PySem.W.makesIn K C = true)
    (kc : PySem.W.keepIn K (.ref C) = true)
    (n_deeds : PySem.W.findIn K (.ref C) "_deeds" = some none)
    (n_columns : PySem.W.findIn K (.ref C) "_columns" = some none)
    (n_made : PySem.W.findIn K (.ref C) "_made" = some none)
    (n_rows : PySem.W.findIn K (.ref C) "_rows" = some none)
    (q0 : PySem.W.nsIn K mainGlobals "_LETTERS" = some (some (.str "abcdefghijklmnopqrstuvwxyz" tk0)))
    (q1 : PySem.W.nsIn K mainGlobals "_LONGEST_NAME" = some (some (.int 8 tk1)))
    (q2 : PySem.W.nsIn K mainGlobals "_TOO_GREAT" = some (some (.int 1000000000000000000000000000000 tk2)))
    (q3 : PySem.W.nsIn K mainGlobals "_MOST_COLUMNS" = some (some (.int 4 tk3)))
    (q4 : PySem.W.nsIn K mainGlobals "_MOST_TABLES" = some (some (.int 6 tk4)))
    (q5 : PySem.W.nsIn K mainGlobals "_MOST_ROWS" = some (some (.int 60 tk5)))
    (z_sorted : PySem.W.nsIn K mainGlobals "sorted" = some none)
    (z_enumerate : PySem.W.nsIn K mainGlobals "enumerate" = some none)
    (z_isinstance : PySem.W.nsIn K mainGlobals "isinstance" = some none)
    (z_str : PySem.W.nsIn K mainGlobals "str" = some none)
    (z_int : PySem.W.nsIn K mainGlobals "int" = some none)
    (z_bool : PySem.W.nsIn K mainGlobals "bool" = some none)
    (z_len : PySem.W.nsIn K mainGlobals "len" = some none)
    (z_all : PySem.W.nsIn K mainGlobals "all" = some none)
    (z_tuple : PySem.W.nsIn K mainGlobals "tuple" = some none)
    (z_set : PySem.W.nsIn K mainGlobals "set" = some none)
    (z_range : PySem.W.nsIn K mainGlobals "range" = some none)
    (z_abs : PySem.W.nsIn K mainGlobals "abs" = some none)
    (z_repr : PySem.W.nsIn K mainGlobals "repr" = some none)
    (z_list : PySem.W.nsIn K mainGlobals "list" = some none)
    (z_dict : PySem.W.nsIn K mainGlobals "dict" = some none) :
    ∃ fd : FuncData, (∀ (s : Shared) (v : Value), BindsTo s fd ⟨[v], []⟩ [("_law_script", v)]) ∧ ∀ base : Heap, K.In base → base.Ns mainGlobals mg → FnG l.prog w K mg base CX0 6 fa fd ["_law_script"] (spLaw K) := by
  have e := hfa.symm.trans (PySem.W.mg_of X G aF14)
  cases e
  have F0 := fun_mk (st := sCnt) lF0 cF0 kF0
  have b0 := F0.binds (ps := ["tables", "name", "moment"]) fun _ _ _ _ _ _ us hl => match us, hl with | [_, _, _], _ => rfl
  have m0 := PySem.W.mg_of X G aF0
  have F1 := fun_mk (st := sName) lF1 cF1 kF1
  have b1 := F1.binds (ps := ["thing"]) fun _ _ _ _ _ _ us hl => match us, hl with | [_], _ => rfl
  have m1 := PySem.W.mg_of X G aF1
  have F2 := fun_mk (st := sWhole) lF2 cF2 kF2
  have b2 := F2.binds (ps := ["thing"]) fun _ _ _ _ _ _ us hl => match us, hl with | [_], _ => rfl
  have m2 := PySem.W.mg_of X G aF2
  have F3 := fun_mk (st := sNumber) lF3 cF3 kF3
  have b3 := F3.binds (ps := ["thing"]) fun _ _ _ _ _ _ us hl => match us, hl with | [_], _ => rfl
  have m3 := PySem.W.mg_of X G aF3
  have F4 := fun_mk (st := sDeed) lF4 cF4 kF4
  have b4 := F4.binds (ps := ["thing"]) fun _ _ _ _ _ _ us hl => match us, hl with | [_], _ => rfl
  have m4 := PySem.W.mg_of X G aF4
  have F5 := fun_mk (st := sCol) lF5 cF5 kF5
  have b5 := F5.binds (ps := ["thing"]) fun _ _ _ _ _ _ us hl => match us, hl with | [_], _ => rfl
  have m5 := PySem.W.mg_of X G aF5
  have F6 := fun_mk (st := sPen) lF6 cF6 kF6
  have b6 := F6.binds (ps := ["_law_script"]) fun _ _ _ _ _ _ us hl => match us, hl with | [_], _ => rfl
  have m6 := PySem.W.mg_of X G aF6
  have F7 := fun_mk (st := sDraw) lF7 cF7 kF7
  have b7 := F7.binds (ps := ["_law_pen_here", "_law_many"]) fun _ _ _ _ _ _ us hl => match us, hl with | [_, _], _ => rfl
  have m7 := PySem.W.mg_of X G aF7
  have F8 := fun_mk (st := sNm) lF8 cF8 kF8
  have b8 := F8.binds (ps := ["_law_pen_here", "_law_many"]) fun _ _ _ _ _ _ us hl => match us, hl with | [_, _], _ => rfl
  have m8 := PySem.W.mg_of X G aF8
  have F9 := fun_mk (st := sWor) lF9 cF9 kF9
  have b9 := F9.binds (ps := ["_law_pen_here"]) fun _ _ _ _ _ _ us hl => match us, hl with | [_], _ => rfl
  have m9 := PySem.W.mg_of X G aF9
  have F10 := fun_mk (st := sLDeed) lF10 cF10 kF10
  have b10 := F10.binds (ps := ["_law_pen_here", "_law_names_here", "_law_model"]) fun _ _ _ _ _ _ us hl => match us, hl with | [_, _, _], _ => rfl
  have m10 := PySem.W.mg_of X G aF10
  have F11 := fun_mk (st := sGoes) lF11 cF11 kF11
  have b11 := F11.binds (ps := ["_law_model", "_law_deed_here", "_law_when"]) fun _ _ _ _ _ _ us hl => match us, hl with | [_, _, _], _ => rfl
  have m11 := PySem.W.mg_of X G aF11
  have F12 := fun_mk (st := sDue) lF12 cF12 kF12
  have b12 := F12.binds (ps := ["_law_model", "_law_when"]) fun _ _ _ _ _ _ us hl => match us, hl with | [_, _], _ => rfl
  have m12 := PySem.W.mg_of X G aF12
  have F13 := fun_mk (st := sShape) lF13 cF13 kF13
  have b13 := F13.binds (ps := ["_law_found"]) fun _ _ _ _ _ _ us hl => match us, hl with | [_], _ => rfl
  have m13 := PySem.W.mg_of X G aF13
  have F14 := fun_mk (st := sLaw) lF14 cF14 kF14
  have m14 := PySem.W.mg_of X G aF14
  have F15 : FunD K "counts_of" "counts_of" (defArgs sCo) (defBody sCo) (defScope sCo) [] [("moment", .non)] f15 _ := ⟨⟨_, _, _, _, _, _, _, _, _, _, rfl, lF15, cF15, .inl ⟨rfl, rfl⟩, .inr ⟨_, rfl, fun q hq => by rw [List.mem_singleton.mp hq]; exact ⟨_, dF15, rfl⟩⟩⟩, kF15⟩
  have m15 := PySem.W.mg_of X G aF15
  obtain ⟨dsC, hC, bC⟩ := F15.binds0 (ps := ["tables", "moment"]) 1 (by simp) rfl fun _ _ _ _ _ _ us ks h1 h2 => match us, ks, h1, h2 with | [_], [_], _, _ => ⟨_, _, _, _, _, _, rfl, rfl, rfl⟩
  obtain ⟨mw1, kb1⟩ := F15.kbinds0 (ps := ["tables", "moment"]) 1 ["moment"] [] (fun vs _ zs => vs ++ zs) (by simp) (fun q hq => nomatch hq) (fun a _ c => a.append c) fun _ _ _ _ _ _ us mv ws h1 h2 h3 => match us, mv, ws, h1, h2, h3 with | [_], [], [_], _, _, _ => rfl
  obtain ⟨mw2, kb2⟩ := F15.kbinds0 (ps := ["tables", "moment"]) 0 ["tables", "moment"] [] (fun vs _ zs => vs ++ zs) (by simp) (fun q hq => nomatch hq) (fun a _ c => a.append c) fun _ _ _ _ _ _ us mv ws h1 h2 h3 => match us, mv, ws, h1, h2, h3 with | [], [], [_, _], _, _, _ => rfl
  have F16 := fun_mk (st := sDo) lF16 cF16 kF16
  have b16 := F16.binds (ps := ["self", "deed"]) fun _ _ _ _ _ _ us hl => match us, hl with | [_, _], _ => rfl
  have m16 : Meth K C "do" f16 := ⟨aF16, iF16, kF16⟩
  have F17 := fun_mk (st := sMake) lF17 cF17 kF17
  have b17 := F17.binds (ps := ["self", "name", "columns"]) fun _ _ _ _ _ _ us hl => match us, hl with | [_, _, _], _ => rfl
  have m17 : Meth K C "_make" f17 := ⟨aF17, iF17, kF17⟩
  have F18 := fun_mk (st := sPut) lF18 cF18 kF18
  have b18 := F18.binds (ps := ["self", "name", "worths"]) fun _ _ _ _ _ _ us hl => match us, hl with | [_, _, _], _ => rfl
  have m18 : Meth K C "_put" f18 := ⟨aF18, iF18, kF18⟩
  have F19 := fun_mk (st := sOut) lF19 cF19 kF19
  have b19 := F19.binds (ps := ["self", "name", "number"]) fun _ _ _ _ _ _ us hl => match us, hl with | [_, _, _], _ => rfl
  have m19 : Meth K C "_take_out" f19 := ⟨aF19, iF19, kF19⟩
  have F20 := fun_mk (st := sMom) lF20 cF20 kF20
  have b20 := F20.binds (ps := ["self"]) fun _ _ _ _ _ _ us hl => match us, hl with | [_], _ => rfl
  have m20 : Meth K C "moment" f20 := ⟨aF20, iF20, kF20⟩
  have F21 := fun_mk (st := sMof) lF21 cF21 kF21
  have b21 := F21.binds (ps := ["self", "name", "moment"]) fun _ _ _ _ _ _ us hl => match us, hl with | [_, _, _], _ => rfl
  have m21 : Meth K C "_moment_of" f21 := ⟨aF21, iF21, kF21⟩
  have F22 : FunD K "rows" "Tables.rows" (defArgs sRows) (defBody sRows) (defScope sRows) [] [("moment", .non)] f22 _ := ⟨⟨_, _, _, _, _, _, _, _, _, _, rfl, lF22, cF22, .inl ⟨rfl, rfl⟩, .inr ⟨_, rfl, fun q hq => by rw [List.mem_singleton.mp hq]; exact ⟨_, dF22, rfl⟩⟩⟩, kF22⟩
  have m22 : Meth K C "rows" f22 := ⟨aF22, iF22, kF22⟩
  obtain ⟨mv22, kb22⟩ := F22.kbinds0 (ps := ["self", "name", "moment"]) 2 ["moment"] [] (fun vs _ zs => vs ++ zs) (by simp) (fun q hq => nomatch hq) (fun a _ c => a.append c) fun _ _ _ _ _ _ us mv ws h1 h2 h3 => match us, mv, ws, h1, h2, h3 with | [u0, u1], [], [_], _, _, _ => rfl
  have F23 : FunD K "columns" "Tables.columns" (defArgs sColumns) (defBody sColumns) (defScope sColumns) [] [("moment", .non)] f23 _ := ⟨⟨_, _, _, _, _, _, _, _, _, _, rfl, lF23, cF23, .inl ⟨rfl, rfl⟩, .inr ⟨_, rfl, fun q hq => by rw [List.mem_singleton.mp hq]; exact ⟨_, dF23, rfl⟩⟩⟩, kF23⟩
  have m23 : Meth K C "columns" f23 := ⟨aF23, iF23, kF23⟩
  obtain ⟨mv23, kb23⟩ := F23.kbinds0 (ps := ["self", "name", "moment"]) 2 ["moment"] [] (fun vs _ zs => vs ++ zs) (by simp) (fun q hq => nomatch hq) (fun a _ c => a.append c) fun _ _ _ _ _ _ us mv ws h1 h2 h3 => match us, mv, ws, h1, h2, h3 with | [u0, u1], [], [_], _, _, _ => rfl
  have F24 : FunD K "names" "Tables.names" (defArgs sNames) (defBody sNames) (defScope sNames) [] [("moment", .non)] f24 _ := ⟨⟨_, _, _, _, _, _, _, _, _, _, rfl, lF24, cF24, .inl ⟨rfl, rfl⟩, .inr ⟨_, rfl, fun q hq => by rw [List.mem_singleton.mp hq]; exact ⟨_, dF24, rfl⟩⟩⟩, kF24⟩
  have m24 : Meth K C "names" f24 := ⟨aF24, iF24, kF24⟩
  obtain ⟨mv24, kb24⟩ := F24.kbinds0 (ps := ["self", "moment"]) 1 ["moment"] [] (fun vs _ zs => vs ++ zs) (by simp) (fun q hq => nomatch hq) (fun a _ c => a.append c) fun _ _ _ _ _ _ us mv ws h1 h2 h3 => match us, mv, ws, h1, h2, h3 with | [u0], [], [_], _, _, _ => rfl
  have F25 : FunD K "__init__" "Tables.__init__" (defArgs sInit) (defBody sInit) (defScope sInit) [.ref E0] [] f25 _ := ⟨⟨_, _, _, _, _, _, _, _, _, _, rfl, lF25, cF25, .inr ⟨(by simp), T0, _, [.ref E0], _, rfl, lT0, rfl, .cons rfl .nil⟩, .inl rfl⟩, kF25⟩
  have m25 : Meth K C "__init__" f25 := ⟨aF25, iF25, kF25⟩
  obtain ⟨dsI, hI, bI⟩ := F25.binds1 (ps := ["self", "deeds"]) 1 0 (by simp) rfl fun _ _ _ _ _ _ _ us its h1 h2 => match us, its, h1, h2 with | [_], [_], _, _ => ⟨_, rfl, rfl⟩
  have y_sorted := PySem.W.mg_none_of X G z_sorted
  have y_enumerate := PySem.W.mg_none_of X G z_enumerate
  have y_isinstance := PySem.W.mg_none_of X G z_isinstance
  have y_str := PySem.W.mg_none_of X G z_str
  have y_int := PySem.W.mg_none_of X G z_int
  have y_bool := PySem.W.mg_none_of X G z_bool
  have y_len := PySem.W.mg_none_of X G z_len
  have y_all := PySem.W.mg_none_of X G z_all
  have y_tuple := PySem.W.mg_none_of X G z_tuple
  have y_set := PySem.W.mg_none_of X G z_set
  have y_range := PySem.W.mg_none_of X G z_range
  have y_abs := PySem.W.mg_none_of X G z_abs
  have y_repr := PySem.W.mg_none_of X G z_repr
  have y_list := PySem.W.mg_none_of X G z_list
  have y_dict := PySem.W.mg_none_of X G z_dict
  have Cs0 : Cs K mg 0 := ⟨⟨_, PySem.W.mg_of X G q0⟩, ⟨_, PySem.W.mg_of X G q1⟩, ⟨_, PySem.W.mg_of X G q2⟩, y_isinstance, y_str, y_int, y_bool, y_len, y_all⟩
  have Ct0 : Ct mg := ⟨⟨_, PySem.W.mg_of X G q3⟩, ⟨_, PySem.W.mg_of X G q4⟩, ⟨_, PySem.W.mg_of X G q5⟩, y_tuple, y_set⟩
  have T : TxtT K mg C := ⟨⟨pg, hd, po, sa⟩, n_deeds, n_columns, n_made, n_rows, y_sorted, y_enumerate⟩
  have heI : ∀ H : Hp, SqT K H E0 [] := fun H => .inr ⟨_, _, _, lE0, rfl, rfl, Nat.zero_le _, .nil⟩
  refine ⟨PySem.W.fnOf "law" "law" (defArgs sLaw) (defBody sLaw) (defScope sLaw) .none kV14 dc14 pm14 an14 cd14 ct14, fun s v => .of_eq rfl, fun base _ _ => ?_⟩
  have gName := ok_name (P := l.prog) (w := w) (base := base) F1 Cs0
  have gWhole := ok_whole (P := l.prog) (w := w) (base := base) F2 Cs0
  have gNumber := ok_number (P := l.prog) (w := w) (base := base) F3 Cs0 F2 b2 m2
  have gCol := ok_col (P := l.prog) (w := w) (base := base) F5 Cs0 Ct0 F1 gName m1 b1
  have gDeed := ok_deed (P := l.prog) (w := w) (base := base) F4 Cs0 Ct0 F1 gName m1 b1 F2 gWhole m2 b2 F3 gNumber m3 b3 F5 gCol m5 b5
  have MK1 : Mt l.prog w K mg base C "_make" ["self", "name", "columns"] CX0 1 (spMake K C) := ⟨_, _, m17, ok_make (P := l.prog) (w := w) (base := base) F17 T Cs0 Ct0, b17⟩
  have MP : Mt l.prog w K mg base C "_put" ["self", "name", "worths"] CX0 1 (spPut K C) := ⟨_, _, m18, ok_put (P := l.prog) (w := w) (base := base) F18 T Cs0 Ct0, b18⟩
  have MO : Mt l.prog w K mg base C "_take_out" ["self", "name", "number"] CX0 1 (spOut K C) := ⟨_, _, m19, ok_out (P := l.prog) (w := w) (base := base) F19 T Cs0, b19⟩
  have MD : Mt l.prog w K mg base C "do" ["self", "deed"] CX0 4 (spDo K C) := ⟨_, _, m16, ok_do (P := l.prog) (w := w) (base := base) F16 T F4 gDeed m4 b4 MK1 MP MO, b16⟩
  have MM : Mt l.prog w K mg base C "moment" ["self"] CX0 1 (spMom K C) := ⟨_, _, m20, ok_mom (P := l.prog) (w := w) (base := base) F20 T Cs0, b20⟩
  have MF : Mt l.prog w K mg base C "_moment_of" ["self", "name", "moment"] CX0 2 (spMof K C) := ⟨_, _, m21, ok_mof (P := l.prog) (w := w) (base := base) F21 T Cs0 F1 gName m1 b1, b21⟩
  have MR : MtN l.prog w K mg base C "rows" ["self", "name", "moment"] 1 CX0 3 (spRows K C) := ⟨_, _, _, m22, ok_rows (P := l.prog) (w := w) (base := base) F22 T MF, kb22⟩
  have MC : MtN l.prog w K mg base C "columns" ["self", "name", "moment"] 1 CX0 3 (spColumns K C) := ⟨_, _, _, m23, ok_columns (P := l.prog) (w := w) (base := base) F23 T MF, kb23⟩
  have MN : MtN l.prog w K mg base C "names" ["self", "moment"] 0 CX0 1 (spNames K C) := ⟨_, _, _, m24, ok_names (P := l.prog) (w := w) (base := base) F24 T Cs0, kb24⟩
  have gCnt := ok_cnt (P := l.prog) (w := w) (base := base) F0 T Cs0 Ct0 MR MC
  have gCo := ok_co (P := l.prog) (w := w) (base := base) F15 T MN F0 gCnt m0 b0
  have gInit := ok_init (P := l.prog) (w := w) (base := base) F25 T
  have gPen := ok_pen (P := l.prog) (w := w) (base := base) (mg := mg) F6
  have gDraw := ok_draw (P := l.prog) (w := w) (base := base) (K := K) F7 y_len y_abs y_int
  have gNm := ok_nm (P := l.prog) (w := w) (base := base) (K := K) F8 y_range F7 gDraw b7 m7
  have gWor := ok_wor (P := l.prog) (w := w) (base := base) (K := K) F9 F7 gDraw b7 m7
  have gLd := ok_ldeed (P := l.prog) (w := w) (base := base) (K := K) F10 y_len y_enumerate y_tuple F7 gDraw b7 m7 F9 gWor b9 m9
  have gGoes := ok_goes (P := l.prog) (w := w) (base := base) (mg := mg) F11
  have gDue := ok_due (P := l.prog) (w := w) (base := base) F12 y_len y_enumerate y_sorted y_list y_set
  have gShape := ok_shape (P := l.prog) (w := w) (base := base) F13 y_len y_isinstance y_sorted y_list y_tuple y_dict
  exact ok_law F14 T y_range y_repr y_sorted y_list F6 gPen m6 b6 F7 gDraw m7 b7 F8 gNm m8 b8 F10 gLd m10 b10 F11 gGoes m11 b11 F12 gDue m12 b12 F13 gShape m13 b13
    kF15 gCo m15 bC hC kb1 kb2 ⟨mk, aF25, iF25, kc⟩ gInit (PySem.W.mg_of X G aC) bI hI heI MM MD
end K20
open PySem PySem.W PyProof.Rows
set_option maxRecDepth 100000 in
set_option maxHeartbeats 0 in
theorem PySem.Challenge.cw_plansamid_k20_counts_told_holds : PySem.Challenge.rw_plansamid_k20_counts_told.Holds := by
  w_on; o_law; k_head; (case hw => w_witness2)
  k_fill
  refine Gd.walkG (l := PySem.Challenge.rw_plansamid_k20_counts_told) (m := 63) (n := 6) (x := "_law_script") (sp := K20.spLaw) rfl (by decide) rfl ⟨rfl, by decide, by decide⟩ (fun w h Y => PySem.W.kIn_of Y) ?F ?S
  case S =>
    intro K H a ns h1 _ _ h4
    exact ⟨a, ns, rfl, h4, h1, fun _ => rfl⟩
  case F =>
    intro w mg fa h KX G hmg
    refine' K20.all_mk KX G hmg ?aC ?aF0 ?lF0 ?cF0 ?kF0 ?aF1 ?lF1 ?cF1 ?kF1 ?aF2 ?lF2 ?cF2 ?kF2 ?aF3 ?lF3 ?cF3 ?kF3 ?aF4 ?lF4 ?cF4 ?kF4 ?aF5 ?lF5 ?cF5 ?kF5 ?aF6 ?lF6 ?cF6 ?kF6 ?aF7 ?lF7 ?cF7 ?kF7 ?aF8 ?lF8 ?cF8 ?kF8 ?aF9 ?lF9 ?cF9 ?kF9 ?aF10 ?lF10 ?cF10 ?kF10 ?aF11 ?lF11 ?cF11 ?kF11 ?aF12 ?lF12 ?cF12 ?kF12 ?aF13 ?lF13 ?cF13 ?kF13 ?aF14 ?lF14 ?cF14 ?kF14 ?aF15 ?lF15 ?cF15 ?kF15 ?dF15 ?aF16 ?iF16 ?lF16 ?cF16 ?kF16 ?aF17 ?iF17 ?lF17 ?cF17 ?kF17 ?aF18 ?iF18 ?lF18 ?cF18 ?kF18 ?aF19 ?iF19 ?lF19 ?cF19 ?kF19 ?aF20 ?iF20 ?lF20 ?cF20 ?kF20 ?aF21 ?iF21 ?lF21 ?cF21 ?kF21 ?aF22 ?iF22 ?lF22 ?cF22 ?kF22 ?dF22 ?aF23 ?iF23 ?lF23 ?cF23 ?kF23 ?dF23 ?aF24 ?iF24 ?lF24 ?cF24 ?kF24 ?dF24 ?aF25 ?iF25 ?lF25 ?cF25 ?kF25 ?lT0 ?lE0 ?pg ?hd ?po ?sa ?mk ?kc ?n_deeds ?n_columns ?n_made ?n_rows ?q0 ?q1 ?q2 ?q3 ?q4 ?q5 ?z_sorted ?z_enumerate ?z_isinstance ?z_str ?z_int ?z_bool ?z_len ?z_all ?z_tuple ?z_set ?z_range ?z_abs ?z_repr ?z_list ?z_dict
    (case aC => k_is)
    (case aF0 => k_is)
    (case lF0 => k_is)
    (case cF0 => k_is)
    (case kF0 => k_is)
    (case aF1 => k_is)
    (case lF1 => k_is)
    (case cF1 => k_is)
    (case kF1 => k_is)
    (case aF2 => k_is)
    (case lF2 => k_is)
    (case cF2 => k_is)
    (case kF2 => k_is)
    (case aF3 => k_is)
    (case lF3 => k_is)
    (case cF3 => k_is)
    (case kF3 => k_is)
    (case aF4 => k_is)
    (case lF4 => k_is)
    (case cF4 => k_is)
    (case kF4 => k_is)
    (case aF5 => k_is)
    (case lF5 => k_is)
    (case cF5 => k_is)
    (case kF5 => k_is)
    (case aF6 => k_is)
    (case lF6 => k_is)
    (case cF6 => k_is)
    (case kF6 => k_is)
    (case aF7 => k_is)
    (case lF7 => k_is)
    (case cF7 => k_is)
    (case kF7 => k_is)
    (case aF8 => k_is)
    (case lF8 => k_is)
    (case cF8 => k_is)
    (case kF8 => k_is)
    (case aF9 => k_is)
    (case lF9 => k_is)
    (case cF9 => k_is)
    (case kF9 => k_is)
    (case aF10 => k_is)
    (case lF10 => k_is)
    (case cF10 => k_is)
    (case kF10 => k_is)
    (case aF11 => k_is)
    (case lF11 => k_is)
    (case cF11 => k_is)
    (case kF11 => k_is)
    (case aF12 => k_is)
    (case lF12 => k_is)
    (case cF12 => k_is)
    (case kF12 => k_is)
    (case aF13 => k_is)
    (case lF13 => k_is)
    (case cF13 => k_is)
    (case kF13 => k_is)
    (case aF14 => k_is)
    (case lF14 => k_is)
    (case cF14 => k_is)
    (case kF14 => k_is)
    (case aF15 => k_is)
    (case lF15 => k_is)
    (case cF15 => k_is)
    (case kF15 => k_is)
    (case dF15 => k_is)
    (case aF16 => k_is)
    (case iF16 => k_is)
    (case lF16 => k_is)
    (case cF16 => k_is)
    (case kF16 => k_is)
    (case aF17 => k_is)
    (case iF17 => k_is)
    (case lF17 => k_is)
    (case cF17 => k_is)
    (case kF17 => k_is)
    (case aF18 => k_is)
    (case iF18 => k_is)
    (case lF18 => k_is)
    (case cF18 => k_is)
    (case kF18 => k_is)
    (case aF19 => k_is)
    (case iF19 => k_is)
    (case lF19 => k_is)
    (case cF19 => k_is)
    (case kF19 => k_is)
    (case aF20 => k_is)
    (case iF20 => k_is)
    (case lF20 => k_is)
    (case cF20 => k_is)
    (case kF20 => k_is)
    (case aF21 => k_is)
    (case iF21 => k_is)
    (case lF21 => k_is)
    (case cF21 => k_is)
    (case kF21 => k_is)
    (case aF22 => k_is)
    (case iF22 => k_is)
    (case lF22 => k_is)
    (case cF22 => k_is)
    (case kF22 => k_is)
    (case dF22 => k_is)
    (case aF23 => k_is)
    (case iF23 => k_is)
    (case lF23 => k_is)
    (case cF23 => k_is)
    (case kF23 => k_is)
    (case dF23 => k_is)
    (case aF24 => k_is)
    (case iF24 => k_is)
    (case lF24 => k_is)
    (case cF24 => k_is)
    (case kF24 => k_is)
    (case dF24 => k_is)
    (case aF25 => k_is)
    (case iF25 => k_is)
    (case lF25 => k_is)
    (case cF25 => k_is)
    (case kF25 => k_is)
    (case lT0 => k_is)
    (case lE0 => k_is)
    (case pg => k_is)
    (case hd => k_is)
    (case po => k_is)
    (case sa => k_is)
    (case mk => k_is)
    (case kc => k_is)
    (case n_deeds => k_is)
    (case n_columns => k_is)
    (case n_made => k_is)
    (case n_rows => k_is)
    (case q0 => k_is)
    (case q1 => k_is)
    (case q2 => k_is)
    (case q3 => k_is)
    (case q4 => k_is)
    (case q5 => k_is)
    (case z_sorted => k_is)
    (case z_enumerate => k_is)
    (case z_isinstance => k_is)
    (case z_str => k_is)
    (case z_int => k_is)
    (case z_bool => k_is)
    (case z_len => k_is)
    (case z_all => k_is)
    (case z_tuple => k_is)
    (case z_set => k_is)
    (case z_range => k_is)
    (case z_abs => k_is)
    (case z_repr => k_is)
    (case z_list => k_is)
    (case z_dict => k_is)
end
