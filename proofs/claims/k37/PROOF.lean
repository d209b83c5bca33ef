import PyProof.Rows.All
import Wide.All
import OpenK.AllK
import Wide.FinOn
import HandS.ForMost
import HandS.ForExc
import HandS.EndBits
import HandS.Defaults
import PyProof.ReprRoads
import PyProof.FitsInt
import PyProof.NeKinds
import HandS.Conv
import HandS.IsInst
import PyProof.ReprLen
import HandS.TupAny
import PyProof.Rows.IntBool
import KE.KRevSl
import HandS.Style
import HandS.Codes
import HandS.Text
import HandS.Walk
import HandS.Wide
import HandS.Zip
import KE.GoesZip
import KE.GoesMore
import KE.GoesEnum
import PyProof.EnumFor
import HandS.TupLe
import KE.SortData
import PyProof.TableTree
import PyProof.FactsTree
import PyProof.PlainAttrs
import PyProof.CallType
import PyProof.TupleOfSeq
import HandS.TupSets
import HandS.Strs
import HandS.SetKeys
import HandS.Words
import HandS.WordsDict
import HandS.Flow
import HandS.MakeKwOnly
import PySem.Challenge.RW_plansamid_k37_what_visits_take

section
set_option Elab.async false
set_option linter.all false
set_option maxRecDepth 100000
set_option maxHeartbeats 4000000
/-! A def's promise where no text of a container is being put together around it (so that repr is served). -/
namespace Gd
open PySem PySem.Spec PyProof.Rows L2

/-- no container is amid its own text -/
def Free (A : Around) : Prop := A.guards = some []

structure FnG (P : Program) (w : World) (K : PySem.W.Frag) (mg : Str → Option Value)
    (base : Heap) (cx : CXT) (n : Nat) (f : Addr) (fd : FuncData) (ps : List Str) (sp : Sp) : Prop where
  len : ∀ vs H Q E, sp vs H Q E → vs.length = ps.length
  run : ∀ (A : Around) (out : List Env) (s : Shared) (H : Hp) (args : Args) (us : List Value)
      (vs : List V) (Q : VK) (E : XK), Free A → Room n A → Env0 P w K mg base A out s H →
      BindsTo s fd args (ps.zip us) → Vals vs us → sp vs H Q E →
      codeAny (model P w) A (.call (.ref f) args) (CR cx out P w H s Q E) s

section
variable {P : Program} {w : World} {K : PySem.W.Frag} {mg : Str → Option Value} {base : Heap} {cx : CXT}
theorem FnG.ofOk {n : Nat} {f : Addr} {fd : FuncData} {ps : List Str} {sp : Sp}
    (F : FnOk P w K mg base cx n f fd ps sp) : FnG P w K mg base cx n f fd ps sp :=
  ⟨F.len, fun A out s H args us vs Q E _ => F.run A out s H args us vs Q E⟩
theorem FnG.mono {m n : Nat} {f : Addr} {fd : FuncData} {ps : List Str} {sp : Sp}
    (F : FnG P w K mg base cx m f fd ps sp) (h : m ≤ n) : FnG P w K mg base cx n f fd ps sp :=
  ⟨F.len, fun A out s H args us vs Q E g r => F.run A out s H args us vs Q E g (r.mono h)⟩
end

section
variable {X : Cx} {cx : CXT} {n : Nat} {f : Addr} {fd : FuncData} {ps : List Str} {sp : Sp}
  {dvs : List V} {ds : List Value} {E : XK} {x : Str} {p pos : Pos} {e : Expr} {es : List Expr} {t : TA}

theorem run_g {pins : List (Addr × Obj)} {σ : L2.St} {H : Hp} {s : Shared} {Q : VK} {us : List Value} {vs : List V}
    (F : FnG X.prog X.w X.K X.mg X.base cx n f fd ps sp) (g : Free X.A) (hr : Room n X.A)
    (hb : Binds X.K fd ps ds) (hd : Vals dvs ds) (hx : Passes cx X E)
    (I : Inv X pins σ H s) (r : Vals vs us) (h : sp (vs ++ dvs) H Q E) :
    wpAny (model X.prog X.w) X.A (call (.ref f) us) (EP X pins σ Q) X.xe s := by
  have rr : Vals (vs ++ dvs) (us ++ ds) := r.append hd
  have hl : (us ++ ds).length = ps.length := (Paired.length rr).symm.trans (F.len _ _ _ _ h)
  have all := F.run X.A X.stack s H ⟨us, []⟩ (us ++ ds) (vs ++ dvs) Q E g hr I.env0 (hb s us I.kIn hl) rr h
  refine wpAny_call (codeAny_mono all ?_)
  intro o s' z
  cases o with
  | error er => exact hx pins σ H s er s' I z
  | ok fl =>
    cases fl with
    | ret u => exact I.after z
    | _ => exact False.elim z

theorem pe_callG (F : FnG X.prog X.w X.K X.mg X.base cx n f fd ps sp) (g : Free X.A) (hr : Room n X.A)
    (hg : Gl X x) (hm : X.mg x = some (.ref f)) (hk : PySem.W.keepIn X.K (.ref f) = true)
    (hb : Binds X.K fd ps ds) (hd : Vals dvs ds) (hx : Passes cx X E) (ha : PA X (e :: es) t)
    (hdb : (x == ("__debug__" : Str)) = false := by decide)
    (he : starEach (e :: es) X.env = (false, eval e X.env) :: starEach es X.env := by rfl)
    (hpl : (backTo pos (starEach es X.env)).any (·.1) = false := by rfl) :
    PE X (.Call (.Name x p) (e :: es) [] pos) (tCall sp dvs E t) := by
  constructor
  intro pins s σ H Q I h
  refine wpAny_Call_Name_kw (ld_glob I hg hm ?_ hdb)
  have args := ha.run pos pins s σ H _ I h
  refine PySem.W.callWith_K (h₀ := X.base) I.ok.mod.kin hk (thn args ?_) he hpl
  rintro us s1 ⟨vs, H1, J, r, q⟩
  exact ⟨J.kIn, run_g F g hr hb hd hx J r q⟩
end

/-! ### by the body -/
section
variable {P : Program} {w : World} {K : PySem.W.Frag} {mg : Str → Option Value} {base : Heap}
theorem FnG.body {cx : CXT} {n : Nat} {f : Addr} {nm ql : Str} {pr : Arguments} {bd : List Stmt} {sc : Scope}
    {dV kV dc pm cv ct oc : Value} {an od : Option Addr} {sl : Array (Option Value)} {N ps : List Str} {sp : Sp}
    (lk : K.lookup f = some ⟨oc, od, .func (PySem.W.fnOf nm ql pr bd sc dV kV dc pm an cv ct), sl⟩)
    (hc : PySem.W.codeIn K cv ql = true) (S : FnScope N ps sc) (len : ∀ vs H Q E, sp vs H Q E → vs.length = ps.length)
    (hb : ∀ (A : Around) (out : List Env) (s : Shared) (H : Hp) (vs : List V) (Q : VK) (E : XK),
      Free (A.deeper (envOfC ql sc s.heap.objs.size f cv)) → Room n (A.deeper (envOfC ql sc s.heap.objs.size f cv)) →
      sp vs H Q E → ∃ t, PSs (cxOf cx P w K mg base N ql sc f cv A out s H E) bd t ∧
        t { nx := fun _ H' => Q .non H', rt := Q } (start N vs) H) :
    FnG P w K mg base cx (n + 1) f (PySem.W.fnOf nm ql pr bd sc dV kV dc pm an cv ct) ps sp := by
  refine ⟨len, ?_⟩
  intro A out s H args us vs Q E g hr e0 hbd r hsp
  have hl := len _ _ _ _ hsp
  have KX : K.In s.heap := e0.mod.kin.keeps fun b o e => (e0.bs b o e).1
  have lim : s.heap.NoLimit := e0.mod.nolimit.keeps fun b o e => (e0.bs b o e).1
  have kinds : ∀ y ∈ ps.zip us, sc.names.lookup y.1 = some .local ∨
      (sc.names.lookup y.1 = some .cell ∧
        ((cellsFrom (s.heap.objs.size + 1) sc.names []).lookup y.1).isSome = true) := by
    rintro ⟨y, v⟩ hy
    rcases S.par y (List.of_mem_zip hy).1 with q | q
    · left; exact q
    · right; exact ⟨q, PySem.W.cellsFrom_some _ _ _ (.inl q)⟩
  have code := PySem.W.codeRec_of KX hc
  refine codeAny_call_function hr.depth (KX _ _ lk) rfl S.co S.gen rfl code (hbd _ _ _ _ ?_)
  refine wpAny_newFunctionEnv_cells S.kind kinds ?_
  intro env he s1 x
  subst he
  refine ⟨lim.keeps x.toInCall.keep, codeAny_func ?_⟩
  obtain ⟨t, ht, hq⟩ := hb A out s H vs Q E g (hr.deeper _) hsp
  have I := inv_start (CX := cx) (P := P) (w := w) (E := E) S hr.hd e0 hl r x
  refine wpAny_mono (ht.run [] s1 (start N vs) H _ I hq) ?_ fun er s' z => z
  intro fl s' z
  cases fl with
  | ret u =>
    obtain ⟨v, σ', H', J, rv, q⟩ := z
    exact ⟨v, H', J.os, J.bare, J.base, J.hok, rv, q⟩
  | next =>
    obtain ⟨σ', H', J, q⟩ := z
    exact ⟨V.non, H', J.os, J.bare, J.base, J.hok, rfl, q⟩
  | brk =>
    obtain ⟨_, _, _, q⟩ := z
    exact q.elim
  | cont =>
    obtain ⟨_, _, _, q⟩ := z
    exact q.elim

theorem okG {x ql : Str} {st : Stmt} {f : Addr} {fd : FuncData} {N ps : List Str} {n : Nat} {sp : Sp}
    (F : Fun K x ql st f fd) (S : FnScope N ps (defScope st)) (len : ∀ vs H Q E, sp vs H Q E → vs.length = ps.length)
    (hb : ∀ (cv : Value) (A : Around) (out : List Env) (s : Shared) (H : Hp) (vs : List V) (Q : VK) (E : XK),
      Free (A.deeper (envOfC ql (defScope st) s.heap.objs.size f cv)) →
      Room n (A.deeper (envOfC ql (defScope st) s.heap.objs.size f cv)) → sp vs H Q E →
      ∃ t, PSs (cxOf CX0 P w K mg base N ql (defScope st) f cv A out s H E).nox (defBody st) t ∧
        t { nx := fun _ H' => Q .non H', rt := Q } (start N vs) H) :
    FnG P w K mg base CX0 (n + 1) f fd ps sp := by
  obtain ⟨oc, od, kV, dc, pm, an, cv, ct, sl, rfl, lk, hc⟩ := F.ex
  refine FnG.body lk hc S len ?_
  intro A out s H vs Q E g hr hsp
  obtain ⟨t, h, q⟩ := hb cv A out s H vs Q E g hr hsp
  exact ⟨t, h.nox, q⟩
end
end Gd
end

section
set_option Elab.async false
set_option linter.all false
set_option maxRecDepth 100000
set_option maxHeartbeats 4000000
/-! The end of a law's row from a promise of Gd.FnG. -/
namespace Gd
open PySem PySem.Spec PyProof.Rows L2

/-- what is wanted of the law's own call -/
def Yes (s1 : Shared) (r : Result) (s' : Shared) : Prop :=
  r = .ok (.ret (.bool true)) ∧ OldK s1.heap s'.heap ∧ s'.os = s1.os ∧ AllBare s'.gens

section
variable {P : Program} {w : World} {K : PySem.W.Frag} {mg mb : Str → Option Value} {cx : CXT} {n : Nat}
  {fa a : Addr} {fd : FuncData} {x : Str} {sp : Sp} {s1 : Shared} {vs : List Value} {ns : List Int}

theorem begun (H : Hp) (only : Only H) (hS : SqL K H a (ns.map V.int)) (hok : HOk P w H s1.heap)
    (at_a : ∀ b, H b ≠ none → b = a) (noK : H a ≠ none → K.lookup a = none)
    (KX : K.In s1.heap) (hns : s1.heap.Ns mainGlobals mg) (hb : s1.heap.Ns builtinsNs mb)
    (hbb : ∀ y : Str, y ≠ "__name__" → mb y = bootBuiltins y) (hlim : s1.heap.NoLimit) (hg : s1.gens = #[])
    (ha : s1.heap.get? a = some { cls := .type "list", data := .seq vs.toArray }) (hr : Room n callerA)
    (F : ∀ base : Heap, K.In base → base.Ns mainGlobals mg → FnG P w K mg base cx n fa fd [x] sp)
    (hbind : ∀ (s : Shared) (u : Value), BindsTo s fd ⟨[u], []⟩ [(x, u)])
    (hsp : sp [.ref a] H (fun v _ => v = .bl true) fun _ _ _ => False)
    (hCX : ∀ e s', cx [] H s1 (fun _ _ _ => False) e s' → False) :
    codeAny (model P w) callerA (.call (.ref fa) ⟨[.ref a], []⟩) (Yes s1) s1 := by
  -- the base: what isn't tracked
  let B := hidT s1.heap H
  have toB : ∀ {b : Addr} {o : Obj}, s1.heap.get? b = some o → H b = none → B.get? b = some o :=
    fun e z => hidT_get e z
  have notDict : ∀ {b : Addr} {o : Obj} {es : Array DictEntry} {m : Nat},
      s1.heap.get? b = some o → o.data = .dict es m → H b = none := by
    intro b o es m e d
    cases q : H b with
    | none => rfl
    | some u =>
      exfalso
      have eb : b = a := at_a b (by simp [q])
      rw [eb, ha] at e
      cases Option.some.inj e
      cases d
  have nsB : ∀ {b : Addr} {m : Str → Option Value}, s1.heap.Ns b m → B.Ns b m := by
    rintro b m ⟨o, es, ep, e, d, r⟩
    exact ⟨o, es, ep, toB e (notDict e d), d, r⟩
  have inB : K.In B := by
    intro b o e
    refine toB (KX b o e) ?_
    cases q : H b with
    | none => rfl
    | some u =>
      have eb : b = a := at_a b (by simp [q])
      have z := noK (by rw [← eb, q]; simp)
      rw [eb, z] at e
      cases e
  have modB : Mod K mg B := by
    obtain ⟨mc, l1, l2⟩ := hlim
    exact ⟨inB, nsB hns, ⟨mb, nsB hb, hbb⟩, ⟨mc, nsB l1, l2⟩⟩
  have nil : ∀ {b : Addr}, b ∉ ([] : List Addr) := fun z => nomatch z
  have e0 : Env0 P w K mg B callerA [] s1 H :=
    ⟨rfl, modB, fun b o e => of_hidT e, Nat.le_of_eq (hidT_size _ _), trivial, fun b z => (nil z).elim, hok, .of_eq hg⟩
  have got := (F B inB (nsB hns)).run callerA [] s1 H ⟨[.ref a], []⟩ [.ref a] [.ref a] _ _ rfl hr e0
    (hbind s1 (.ref a)) (.cons rfl .nil) hsp
  refine codeAny_mono got ?_
  intro r s' z
  cases r with
  | error er => exact (hCX er s' z).elim
  | ok fl =>
    cases fl with
    | ret u =>
      obtain ⟨v, H', os, bare, un, hok', rv, q⟩ := z
      obtain rfl : v = .bl true := q
      obtain rfl : u = Value.bool true := rv
      refine ⟨rfl, OldK.of_keep ?_, os, bare⟩
      intro b o e
      cases q : H b with
      | none => exact un.keep b o e q (fun z => (nil z).elim) (fun z => (nil z).elim)
      | some u =>
        rcases only b with z | ⟨ob, xs, z⟩
        · exact nomatch q.symm.trans z
        · obtain ⟨g1, _⟩ := hok b _ z
          obtain ⟨g2, _⟩ := hok' b _ (un.frzs b ob _ z)
          exact g2.trans (g1.symm.trans e)
    | _ => exact False.elim z

theorem law_callG (KX : K.In s1.heap) (hns : s1.heap.Ns mainGlobals mg) (hb : s1.heap.Ns builtinsNs mb)
    (hbb : ∀ y : Str, y ≠ "__name__" → mb y = bootBuiltins y) (hlim : s1.heap.NoLimit) (hg : s1.gens = #[])
    (ha : s1.heap.get? a = some { cls := .type "list", data := .seq vs.toArray }) (hi : IntsAre vs ns)
    (hl : ns.length ≤ sizeLine) (hr : Room n callerA)
    (F : ∀ base : Heap, K.In base → base.Ns mainGlobals mg → FnG P w K mg base cx n fa fd [x] sp)
    (hbind : ∀ (s : Shared) (u : Value), BindsTo s fd ⟨[u], []⟩ [(x, u)])
    (hsp : ∀ H : Hp, Only H → SqL K H a (ns.map V.int) → sp [.ref a] H (fun v _ => v = .bl true) fun _ _ _ => False)
    (hCX : ∀ H e s', cx [] H s1 (fun _ _ _ => False) e s' → False) :
    codeAny (model P w) callerA (.call (.ref fa) ⟨[.ref a], []⟩) (Yes s1) s1 := by
  have rv := vals_ints hi
  have hz : vs.toArray.size ≤ sizeLine := by
    rw [List.size_toArray, hi.length]
    exact hl
  cases hk : K.lookup a with
  | some o =>
    have e : some o = some _ := (KX a o hk).symm.trans ha
    cases e
    have here : SqL K (fun _ => none) a (ns.map V.int) := .inr ⟨_, vs.toArray, _, hk, rfl, rfl, rfl, hz, by simpa using rv⟩
    have only : Only (fun _ => none) := fun _ => .inl rfl
    exact begun (fun _ => none) only here (fun b u z => nomatch z) (fun b z => absurd rfl z) (fun z => absurd rfl z)
      KX hns hb hbb hlim hg ha hr F hbind (hsp _ only here) (hCX _)
  | none =>
    let H : Hp := fun b => if b = a then some (.frz { cls := .type "list", data := .seq vs.toArray } (.lst (ns.map V.int))) else none
    have Ha : H a = some (.frz { cls := .type "list", data := .seq vs.toArray } (.lst (ns.map V.int))) := if_pos rfl
    have Hn : ∀ {b : Addr}, b ≠ a → H b = none := fun z => if_neg z
    have only : Only H := by
      intro b
      by_cases eb : b = a
      · right
        subst eb
        exact ⟨_, _, Ha⟩
      · left
        exact Hn eb
    have here : SqL K H a (ns.map V.int) := .inl (.inr ⟨_, Ha⟩)
    refine begun H only here ?_ ?_ (fun _ => hk) KX hns hb hbb hlim hg ha hr F hbind (hsp _ only here) (hCX _)
    · intro b u z
      by_cases eb : b = a
      · subst eb
        rw [Ha] at z
        cases z
        exact ⟨ha, by rw [List.length_map]; exact hl, vs, _, rv, ha⟩
      · rw [Hn eb] at z
        cases z
    · intro b z
      by_cases eb : b = a
      · exact eb
      · exact absurd (Hn eb) z
end

theorem walkG {l : PySem.W.OpenLaw} {m n : Nat} {q : Program} {loose : List Str} {XP : (Str → Option Value) → Heap → Prop}
    {YP : World → Heap → Prop} {d : DefRec} {K : Params → PySem.W.Frag} {sp : PySem.W.Frag → Sp} {x : Str}
    (hn : l.most = some m) (hm : m ≤ sizeLine) (hdf : d.params.defaults = []) (hr : Room n callerA)
    (hY : ∀ (w : World) (h : Heap), YP w h → (K w.params).In h)
    (F : ∀ (w : World) (mg : Str → Option Value) (fa : Addr) (h : Heap), (K w.params).In h → h.Ns mainGlobals mg →
      mg d.name = some (.ref fa) → ∃ fd : FuncData, (∀ (s : Shared) (u : Value), BindsTo s fd ⟨[u], []⟩ [(x, u)]) ∧
        ∀ base : Heap, (K w.params).In base → base.Ns mainGlobals mg →
          FnG l.prog w (K w.params) mg base CX0 n fa fd [x] (sp (K w.params)))
    (hsp : ∀ (K : PySem.W.Frag) (H : Hp) (a : Addr) (ns : List Int), ns.length ≤ m →
      (∀ z ∈ ns, Builtin.Int.intBits z ≤ 1048576) → Only H → SqL K H a (ns.map V.int) →
      sp K [.ref a] H (fun v _ => v = .bl true) fun _ _ _ => False) :
    PySem.W.WalkO q loose XP YP l.row.toRowW d [] (fun f vs => PySem.call f vs) := by
  refine Att.attach_callB hn hdf ?_
  intro w s0 s1 mg mb fa o pm cd dc a vs ns G Y ho hd hcd hmg hobj hints hlen hbits hg
  have KX := hY w _ Y
  obtain ⟨fd, hb, hF⟩ := F w mg fa _ KX G.T.g hmg
  exact law_callG KX G.T.g G.T.b G.T.builtins G.T.nolimit hg hobj hints (Nat.le_trans hlen hm) hr hF hb
    (fun H only hS => hsp _ H a ns hlen hbits only hS) fun H e s' z => z.elim
end Gd
end

section
set_option Elab.async false
set_option linter.all false
set_option maxRecDepth 100000
set_option maxHeartbeats 4000000
/-! f(k = v, ..): by names alone, keyword-only ones among them. -/
namespace Gd
open PySem PySem.Spec PyProof.Rows L2
section
variable {X : Cx} {cx : CXT} {k : Nat} {f : Addr} {fd : FuncData} {ps ks : List Str} {sp : Sp} {E : XK} {x : Str} {p pos : Pos} {kws : List Keyword} {tk : TA}
  {g : List Value → List Value → List Value} {gV : List V → List V → List V}
def tKwN (l : Nat) (sp : Sp) (gV : List V → List V → List V) (E : XK) (tk : TA) : TE := fun σ H Q => tk σ H fun zs H2 => zs.length = l ∧ sp (gV [] zs) H2 Q E
theorem pe_kwN (F : FnOk X.prog X.w X.K X.mg X.base cx k f fd ps sp) (hr : Room k X.A) (hg : Gl X x) (hm : X.mg x = some (.ref f)) (hk : PySem.W.keepIn X.K (.ref f) = true)
    (hb : KBn X.K fd ps 0 ks g gV) (hx : Passes cx X E) (hkw : PK X kws tk)
    (hall : (backToKw pos (keywordEach kws X.env)).all (·.1.isSome) = true := by rfl) (hks : (backToKw pos (keywordEach kws X.env)).filterMap (·.1) = ks := by rfl)
    (hdb : (x == ("__debug__" : Str)) = false := by decide)
    (hpl : ((backTo pos (starEach [] X.env)).any (·.1) || (backToKw pos (keywordEach kws X.env)).any (·.1.isNone)) = false := by rfl) :
    PE X (.Call (.Name x p) [] kws pos) (tKwN ks.length sp gV E tk) := by
  constructor
  intro pins s σ H Q I h
  refine wpAny_Call_Name_kw (ld_glob I hg hm ?_ hdb)
  refine PySem.W.callWith_KW0 (h₀ := X.base) I.ok.mod.kin hk hall (thn (hkw.run pos pins s σ H _ I h) ?_) hpl
  rintro ws s2 ⟨zs, H2, J, rz, l2, q⟩
  refine ⟨J.kIn, ?_⟩
  rw [hks]
  exact run_fnN (us := []) (vs := []) F hr hb hx J .nil rz rfl l2 q
end
end Gd
end

section
set_option Elab.async false
set_option linter.all false
set_option maxRecDepth 100000
set_option maxHeartbeats 4000000
/-! What the laws draw from: a list of three numbers, of which each draw takes one more. -/
namespace Gd
open PySem PySem.Spec PyProof.Rows L2

/-- at p: what is left of a great number, the seed, how many were drawn, at most S -/
def Feed (H : Hp) (p : Addr) (S : Int) : Prop := ∃ g x s : Int, H p = some (.lst [.int g, .int x, .int s]) ∧ 0 ≤ s ∧ s ≤ S
theorem Feed.le {H : Hp} {p : Addr} {S T : Int} (h : Feed H p S) (l : S ≤ T) : Feed H p T := by
  obtain ⟨g, x, s, e, a, b⟩ := h
  exact ⟨g, x, s, e, a, by omega⟩
theorem Feed.here {H : Hp} {p : Addr} {S g x s : Int} (h0 : 0 ≤ s) (h : s ≤ S) : Feed (upd H p (.lst [.int g, .int x, .int s])) p S :=
  ⟨g, x, s, upd_same, h0, h⟩
theorem Feed.stays {H : Hp} {p q : Addr} {S : Int} {o : HO} (h : Feed H p S) (n : H q = none) : Feed (upd H q o) p S := by
  obtain ⟨g, x, s, e, a, b⟩ := h
  refine ⟨g, x, s, ?_, a, b⟩
  rw [upd_ne (ne_of_none e n)]
  exact e
/-- all is as it was, but at p -/
def Ex1 (p : Addr) (H H' : Hp) : Prop := ∀ a o, a ≠ p → H a = some o → H' a = some o
theorem Ex1.refl (p : Addr) (H : Hp) : Ex1 p H H := fun _ _ _ h => h
theorem Ex1.trans {p : Addr} {H H1 H2 : Hp} (a : Ex1 p H H1) (b : Ex1 p H1 H2) : Ex1 p H H2 := fun x o n h => b x o n (a x o n h)
theorem Ex1.at {p : Addr} {H : Hp} {o : HO} : Ex1 p H (upd H p o) := fun a u n e => by
  rw [upd_ne n]
  exact e
theorem Ex1.new {p q : Addr} {H : Hp} {o : HO} (n : H q = none) : Ex1 p H (upd H q o) := fun a u _ e => by
  rw [upd_ne (ne_of_none e n)]
  exact e

theorem Feed.lst {H : Hp} {p : Addr} {S : Int} (h : Feed H p S) : ∃ xs, H p = some (.lst xs) := by
  obtain ⟨g, x, s, e, _⟩ := h
  exact ⟨_, e⟩
theorem Feed.ne {H : Hp} {p q : Addr} {S : Int} (h : Feed H p S) (n : H q = none) : q ≠ p := fun z => by
  obtain ⟨xs, e⟩ := h.lst
  rw [z, e] at n
  cases n
def spTake : Sp := fun vs H Q _ => ∃ (p : Addr) (m S : Int), vs = [.ref p, .int m] ∧ Feed H p S ∧ 0 < m ∧ m < 1073741824 ∧
  S ≤ 1000000000 ∧ ∀ (r : Int) (H' : Hp), 0 ≤ r → r < m → Feed H' p (S + 1) → Ex1 p H H' → Q (.int r) H'

theorem fmod_in (a : Int) {b : Int} (h : 0 < b) : 0 ≤ a.fmod b ∧ a.fmod b < b :=
  ⟨Int.fmod_nonneg_of_pos a h, Int.fmod_lt_of_pos a h⟩
end Gd
end

section
set_option Elab.async false
set_option linter.all false
set_option maxRecDepth 100000
set_option maxHeartbeats 4000000
/-! repr of data, the reading of a promise that is free of texts under way. -/
namespace Gd
open PySem PySem.Spec PyProof.Rows L2

section
variable {K : PySem.W.Frag} {H : Hp}
mutual
theorem Dp.plain : ∀ (d : PyData) {v : V}, Dp K H v d → d.hasDict = false
  | .none, _, _ => by simp only [PyData.hasDict]
  | .bool _, _, _ => by simp only [PyData.hasDict]
  | .int _, _, _ => by simp only [PyData.hasDict]
  | .str _, _, _ => by simp only [PyData.hasDict]
  | .list ds, _, h => by
    cases h with
    | lst _ k =>
      simp only [PyData.hasDict]
      exact DpAll.plain ds k
  | .tuple ds, _, h => by
    cases h with
    | tup _ k =>
      simp only [PyData.hasDict]
      exact DpAll.plain ds k
  | .dict _, _, h => by cases h
theorem DpAll.plain : ∀ (ds : List PyData) {vs : List V}, DpAll K H vs ds → PyData.hasDictAll ds = false
  | [], _, _ => by simp only [PyData.hasDictAll]
  | d :: ds, _, h => by
    cases h with
    | cons a b =>
      simp only [PyData.hasDictAll, Dp.plain d a, DpAll.plain ds b, Bool.or_self]
end
end

/-- repr(x), x data -/
def rRepr (K : PySem.W.Frag) : List V → Hp → VK → Prop := fun xs H Q =>
  ∃ (x : V) (d : PyData), xs = [x] ∧ Dp K H x d ∧ d.showable = true ∧ d.shown.length ≤ sizeLine ∧ d.depth ≤ 60 ∧ Q (.str d.shown) H

section
variable {X : Cx}
theorem call_repr (g : Free X.A) (hu : X.A.units + 64 < cLine) : CallR X (.builtin "repr") (rRepr X.K) := by
  intro pins s σ H xs us Q I r h
  obtain ⟨x, d, rfl, hd, hs, hz, hdp, q⟩ := h
  obtain ⟨u, rfl, ru⟩ := r.one
  have pl := Dp.plain d hd
  obtain ⟨as, rd⟩ := Dp.reads I d x u hd ru
  have fin : ∀ (h' : Heap) (tk tk' : Nat), (∀ b o, s.heap.get? b = some o → h'.get? b = some o) →
      EP X pins σ Q (.str d.shown tk) { s with heap := h', toks := tk' } :=
    fun h' tk tk' k => ⟨.str d.shown, H, I.kept k, ⟨tk, rfl⟩, q⟩
  have fin0 : ∀ (tk tk' : Nat), EP X pins σ Q (.str d.shown tk) { s with toks := tk' } :=
    fun tk tk' => ⟨.str d.shown, H, I.tok tk', ⟨tk, rfl⟩, q⟩
  cases rd with
  | none => exact P.repr_of_none (fin0 _ _)
  | bool b => exact P.repr_of_bool (fin0 _ _)
  | int i t => exact P.repr_of_int (by simpa [PyData.showable] using hs) (fin0 _ _)
  | str z t => exact P.repr_of_str (fin0 _ _) hz
  | list h1 h2 h3 h4 =>
    exact repr_of_reads' (.list h1 h2 h3 h4) hs (PyData.noDict_hsm pl) g (by omega) (fun _ _ e => e) (fun h' u tk k => fin h' u tk k) hz
  | tuple h1 h2 h3 h4 =>
    exact repr_of_reads' (.tuple h1 h2 h3 h4) hs (PyData.noDict_hsm pl) g (by omega) (fun _ _ e => e) (fun h' u tk k => fin h' u tk k) hz
  | dict h1 h2 h3 h4 h5 => simp [PyData.hasDict] at pl
end
end Gd
end

section
set_option Elab.async false
set_option linter.all false
set_option maxRecDepth 100000
set_option maxHeartbeats 4000000
/-! Lists of ints and slabs in the heap; what they show. -/
namespace Gd
open PySem PySem.Spec PyProof.Rows L2
theorem int_shown {i : Int} (h : i.natAbs ≤ 10 ^ 40) : (PyData.int i).shown.length ≤ 100 ∧ i.natAbs.log2 < 1920 ∧ (PyData.int i).weight ≤ 200 := by
  have h1 : i.natAbs < 10 ^ 41 := Nat.lt_of_le_of_lt h (by decide)
  have hl : i.natAbs.log2 < 190 := by
    by_cases z : i.natAbs = 0
    · rw [z]; decide
    · exact (Nat.log2_lt z).mpr (Nat.lt_of_lt_of_le h1 (by decide +kernel))
  refine ⟨?_, by omega, ?_⟩
  · have e := int_text_length_le10 (k := 41) (by decide) h1
    have e2 : (PyData.int i).shown.length = (toString i).length := by
      show (Str.ofString (toString i)).length = _
      rw [PySem.ofString_length]
    omega
  · simp only [PyData.weight]
    split <;> omega
theorem ints_leaves : ∀ {ns : List Int}, (∀ i ∈ ns, i.natAbs ≤ 10 ^ 40) → PyData.leavesShortAll 100 (ns.map .int) = true ∧ PyData.showableAll (ns.map .int) = true ∧ PyData.weightAll (ns.map .int) ≤ 201 * ns.length ∧ PyData.depthAll (ns.map .int) = 0
  | [], _ => ⟨rfl, rfl, Nat.zero_le _, rfl⟩
  | i :: ns, h => by
    obtain ⟨a, b, c, d⟩ := ints_leaves (ns := ns) fun j hj => h j (by simp [hj])
    obtain ⟨e1, e2, e3⟩ := int_shown (h i (by simp))
    refine ⟨?_, ?_, ?_, ?_⟩
    · simp only [List.map_cons, PyData.leavesShortAll, a, Bool.and_true, PyData.leavesShort, decide_eq_true_eq]
      exact e1
    · simp only [List.map_cons, PyData.showableAll, b, Bool.and_true, PyData.showable, decide_eq_true_eq]
      exact e2
    · simp only [List.map_cons, PyData.weightAll, List.length_cons]
      omega
    · simp only [List.map_cons, PyData.depthAll, d, PyData.depth]
      omega
/-- repr of a list of ints is served -/
theorem ints_shown {ns : List Int} (h : ∀ i ∈ ns, i.natAbs ≤ 10 ^ 40) (hl : ns.length ≤ 700) :
    (PyData.list (ns.map .int)).showable = true ∧ (PyData.list (ns.map .int)).shown.length ≤ sizeLine ∧ (PyData.list (ns.map .int)).depth ≤ 60 := by
  obtain ⟨a, b, c, d⟩ := ints_leaves h
  have hs := PyData.shown_le 100 (by decide) (.list (ns.map .int)) (by simpa only [PyData.leavesShort] using a)
  have hw : (PyData.list (ns.map .int)).weight ≤ 201 * ns.length + 1 := by
    simp only [PyData.weight]
    omega
  have z : sizeLine = 16777216 := rfl
  refine ⟨by simpa only [PyData.showable] using b, by omega, ?_⟩
  simp only [PyData.depth, d]
  omega
theorem one_shown {i : Int} (h : i.natAbs ≤ 10 ^ 40) : (PyData.int i).showable = true ∧ (PyData.int i).shown.length ≤ sizeLine ∧ (PyData.int i).depth ≤ 60 := by
  obtain ⟨e1, e2, e3⟩ := int_shown h
  have z : sizeLine = 16777216 := rfl
  refine ⟨by simpa [PyData.showable] using e2, by omega, by simp only [PyData.depth]; omega⟩
theorem ints_dp {K : PySem.W.Frag} {H : Hp} : ∀ ns : List Int, DpAll K H (ns.map V.int) (ns.map .int)
  | [] => .nil
  | i :: ns => .cons (.int i) (ints_dp ns)
theorem list_dp {K : PySem.W.Frag} {H : Hp} {a : Addr} {ns : List Int} (h : SqL K H a (ns.map V.int)) : Dp K H (.ref a) (.list (ns.map .int)) := .lst h (ints_dp ns)

/-! what stays -/
theorem new_same {H : Hp} {q : Addr} {o : HO} (n : H q = none) : Same H (upd H q o) := fun b u e => by
  rw [upd_ne (ne_of_none e n)]
  exact e
/-- a new object may change -/
theorem own_same {H H' : Hp} {q : Addr} {o : HO} (n : H q = none) (s : Same H H') : Same H (upd H' q o) := fun b u e => by
  rw [upd_ne (ne_of_none e n)]
  exact s b u e
theorem same_tup {K : PySem.W.Frag} {H H' : Hp} (s : Same H H') {a : Addr} {xs : List V} (h : SqT K H a xs) : SqT K H' a xs := by
  rcases h with (h | ⟨o, h⟩) | h
  · exact .inl (.inl (s _ _ h))
  · exact .inl (.inr ⟨o, s _ _ h⟩)
  · exact .inr h
/-- slabs at a: a list of pairs -/
def SlabsAt (K : PySem.W.Frag) (H : Hp) (a : Addr) (ss : List (Nat × Int)) : Prop :=
  ∃ bs : List Addr, SqL K H a (bs.map V.ref) ∧ bs.length = ss.length ∧ ∀ (i : Nat) (b : Addr) (s : Nat × Int), bs[i]? = some b → ss[i]? = some s → SqT K H b [.int (s.1 : Nat), .int s.2]
theorem SlabsAt.same {K : PySem.W.Frag} {H H' : Hp} {a : Addr} {ss : List (Nat × Int)} (h : SlabsAt K H a ss) (s : Same H H') : SlabsAt K H' a ss := by
  obtain ⟨bs, h1, h2, h3⟩ := h
  exact ⟨bs, s.seq h1, h2, fun i b t e1 e2 => same_tup s (h3 i b t e1 e2)⟩
theorem map_at {α : Type} {f : α → V} {xs : List α} {i : Nat} {v : V} (h : (xs.map f)[i]? = some v) : ∃ x, xs[i]? = some x ∧ v = f x := by
  rw [List.getElem?_map] at h
  cases e : xs[i]? with
  | none => rw [e] at h; cases h
  | some x => rw [e] at h; exact ⟨x, rfl, (Option.some.inj h).symm⟩
theorem at_of {α : Type} {xs : List α} {i n : Nat} (hl : xs.length = n) (h : i < n) : ∃ x, xs[i]? = some x := ⟨xs[i]'(by omega), List.getElem?_eq_getElem (by omega)⟩
theorem at_lt {α : Type} {xs : List α} {i : Nat} {x : α} (h : xs[i]? = some x) : i < xs.length := (List.getElem?_eq_some_iff.mp h).1
theorem getD_at {l : List Int} {i : Nat} (h : i < l.length) : l[i]? = some (l.getD i 0) := by
  rw [List.getD_eq_getElem?_getD, List.getElem?_eq_getElem h] <;> rfl
theorem ints_at {l : List Int} {i : Nat} (h : i < l.length) : (l.map V.int)[i]? = some (.int (l.getD i 0)) := by
  rw [List.getElem?_map, getD_at h] <;> rfl
theorem ints_atI {l : List Int} {i : Nat} (h : i < l.length) : atI (l.map V.int) ((i : Nat) : Int) = some (.int (l.getD i 0)) := atI_nat (ints_at h)
theorem take_at {α : Type} {xs : List α} {i : Nat} {x : α} (h : xs[i]? = some x) : xs.take (i + 1) = xs.take i ++ [x] := by
  rw [List.take_add_one, h] <;> rfl
theorem map_set {l : List Int} {i : Nat} {v : Int} : (l.map V.int).set i (.int v) = (l.set i v).map V.int := by
  rw [List.map_set]
section
variable {X : Cx}
/-- l[j], j from nought on, in l[j] op= x -/
def rGetL (K : PySem.W.Frag) : V → V → Hp → VK → Prop := fun o i H Q => ∃ (p : Addr) (xs : List V) (j : Nat) (v : V), o = .ref p ∧ i = .int (j : Nat) ∧ SqL K H p xs ∧ xs[j]? = some v ∧ Q v H
theorem get_list : PGet X (rGetL X.K) := by
  intro pins s σ H o i ov iv Q I r1 r2 h
  obtain ⟨p, xs, j, v, rfl, rfl, hq, he, q⟩ := h
  cases r1
  obtain ⟨t, rfl⟩ := r2
  obtain ⟨its, r, pl, hz⟩ := I.list hq
  obtain ⟨u, eu, ru⟩ := r.get he
  have hl := r.length
  have lt := at_lt he
  have zz : sizeLine = 16777216 := rfl
  have hi := at_lt eu
  refine wpAny_getItem_list pl.isList (by omega) (by omega) ?_ ⟨v, H, I, ru, q⟩
  simpa using eu
end
theorem ixN_nat {n j : Nat} (h : j < n) : ixN n (j : Int) = some j := by
  unfold ixN
  rw [if_pos (by omega), if_pos (by omega)] <;> simp
end Gd
end

section
set_option Elab.async false
set_option linter.all false
set_option maxRecDepth 100000
set_option maxHeartbeats 4000000
namespace Gd
open PySem PySem.Spec PyProof.Rows L2
section
variable {X : Cx}
/-- a list beside [] -/
def rL0 (K : PySem.W.Frag) (neg : Bool) : R2 := fun x y H Q => ∃ a b xs, x = .ref a ∧ y = .ref b ∧ SqL K H a xs ∧ SqL K H b [] ∧ Q (.bl (if neg then !xs.isEmpty else xs.isEmpty)) H
theorem op_eqL0 (hu : X.A.units < cLine) : OpR X (compareOp .Eq) (rL0 X.K false) := by
  intro pins s σ H x y v u Q I rx ry h
  obtain ⟨a, b, xs, rfl, rfl, ha, hb, q⟩ := h
  cases rx
  cases ry
  obtain ⟨its, r, pl, _⟩ := I.list ha
  obtain ⟨its2, r2, pl2, _⟩ := I.list hb
  cases r2
  cases r with
  | nil => exact SeqAt.RcAt.lists (e := fun _ => true) pl.isList pl2.isList rfl hu (fun j h1 _ => absurd h1 (by simp)) _ _ _ _ ⟨.bl _, H, I, rfl, q⟩
  | cons _ _ => exact SeqAt.RcAt.lists_lengths pl.isList pl2.isList (by simp) hu _ _ _ _ ⟨.bl _, H, I, rfl, q⟩
theorem op_neL0 (hu : X.A.units < cLine) : OpR X (compareOp .NotEq) (rL0 X.K true) := by
  intro pins s σ H x y v u Q I rx ry h
  obtain ⟨a, b, xs, rfl, rfl, ha, hb, q⟩ := h
  cases rx
  cases ry
  obtain ⟨its, r, pl, _⟩ := I.list ha
  obtain ⟨its2, r2, pl2, _⟩ := I.list hb
  cases r2
  cases r with
  | nil => exact SeqAt.RcNeAt.lists (e := fun _ => true) pl.isList pl2.isList rfl hu (fun j h1 _ => absurd h1 (by simp)) _ _ _ _ ⟨.bl _, H, I, rfl, q⟩
  | cons _ _ => exact SeqAt.RcNeAt.lists_lengths pl.isList pl2.isList (by simp) hu _ _ _ _ ⟨.bl _, H, I, rfl, q⟩
end
/-! what stays through draws -/
theorem ex1_of_same {p : Addr} {H H' : Hp} (s : Same H H') : Ex1 p H H' := fun b u _ e => s b u e
theorem ex1_own {p q : Addr} {H H' : Hp} {o : HO} (n : H q = none) (x : Ex1 p H H') : Ex1 p H (upd H' q o) := fun b u nb e => by
  rw [upd_ne (ne_of_none e n)]
  exact x b u nb e
theorem Feed.off {H : Hp} {p q : Addr} {S : Int} {o : HO} (F : Feed H p S) (n : q ≠ p) : Feed (upd H q o) p S := by
  obtain ⟨g, x, s, e, a, b⟩ := F
  exact ⟨g, x, s, by rw [upd_ne n.symm]; exact e, a, b⟩
theorem Feed.kept {H H' : Hp} {p : Addr} {S : Int} (F : Feed H p S) (s : Same H H') : Feed H' p S := by
  obtain ⟨g, x, z, ep, a, b⟩ := F
  exact ⟨g, x, z, s _ _ ep, a, b⟩
theorem Feed.not {H : Hp} {p q : Addr} {S : Int} (F : Feed H p S) (n : H q = none) : q ≠ p := F.ne n
theorem ex1_tup {K : PySem.W.Frag} {H H' : Hp} {p a : Addr} {S : Int} {xs : List V} (F : Feed H p S) (x : Ex1 p H H') (h : SqT K H a xs) : SqT K H' a xs := by
  obtain ⟨ys, ep⟩ := F.lst
  rcases h with (h | ⟨o, h⟩) | h
  · exact .inl (.inl (x _ _ (fun z => by rw [z, ep] at h; cases h) h))
  · exact .inl (.inr ⟨o, x _ _ (fun z => by rw [z, ep] at h; cases h) h⟩)
  · exact .inr h
theorem ex1_seq {K : PySem.W.Frag} {H H' : Hp} {p a : Addr} {xs : List V} (n : a ≠ p) (x : Ex1 p H H') (h : SqL K H a xs) : SqL K H' a xs := by
  rcases h with (h | ⟨o, h⟩) | h
  · exact .inl (.inl (x _ _ n h))
  · exact .inl (.inr ⟨o, x _ _ n h⟩)
  · exact .inr h
theorem SlabsAt.drawn {K : PySem.W.Frag} {H H' : Hp} {p a : Addr} {S : Int} {ss : List (Nat × Int)} (h : SlabsAt K H a ss) (F : Feed H p S) (n : a ≠ p) (x : Ex1 p H H') : SlabsAt K H' a ss := by
  obtain ⟨bs, h1, h2, h3⟩ := h
  exact ⟨bs, ex1_seq n x h1, h2, fun i b t e1 e2 => ex1_tup F x (h3 i b t e1 e2)⟩
/-- a new object is not p, and was not there before the draws -/
theorem ex1_free {p q : Addr} {H H' : Hp} (x : Ex1 p H H') (n : q ≠ p) (h : H' q = none) : H q = none := by
  cases e : H q with
  | none => rfl
  | some o => rw [x q o n e] at h; cases h
theorem at_list {α : Type} {f : α → V} {xs : List α} {r : Int} (h0 : 0 ≤ r) (h1 : r < xs.length) : ∃ x, x ∈ xs ∧ atI (xs.map f) r = some (f x) := by
  have h2 : r.toNat < xs.length := by omega
  refine ⟨xs[r.toNat], List.getElem_mem h2, ?_⟩
  have e : ((r.toNat : Nat) : Int) = r := by omega
  have z : atI (xs.map f) ((r.toNat : Nat) : Int) = some (f xs[r.toNat]) := atI_nat (by rw [List.getElem?_map, List.getElem?_eq_getElem h2] <;> rfl)
  rw [e] at z
  exact z
end Gd
end

section
set_option Elab.async false
set_option linter.all false
set_option maxRecDepth 100000
/-! Methods within a comprehension: what is done may not name the comprehension's own frame. -/
namespace Gd
open PySem PySem.Spec PyProof.Rows L2
section
variable {X : Cx} {o e : Expr} {es : List Expr} {to : TE} {t : TA} {name : Str} {apos cpos : Pos} {T id : String} {r : V → List V → Hp → VK → Prop} {K : PySem.W.Frag}
theorem pe_bmK (K : PySem.W.Frag) (r : V → List V → Hp → VK → Prop) (pa : PlainAttrs T) (slot : Slot T name id) (hty : typeOf (.builtin id) = pure (.type "method_descriptor")) (hm : MtR X id r) (ho : PE X o to) (ha : PA X (e :: es) t) (hK : X.K = K := by rfl)
    (hbase : attributeBase o name X.env (eval o X.env) = eval o X.env := by rfl)
    (hfew : ((backTo cpos (starEach (e :: es) X.env)).all (fun x => !x.1) && (backToKw cpos (keywordEach [] X.env)).all (fun x => x.1.isSome)
      && decide ((e :: es).length + ([] : List Keyword).length + (if ([] : List Keyword).isEmpty then 0 else 1) < 30)) = true := by rfl)
    (hline : (apos.endLine == cpos.line) = true := by rfl) (hs : starEach (e :: es) X.env = (false, eval e X.env) :: starEach es X.env := by rfl) (hplain : (backTo cpos (starEach es X.env)).any (·.1) = false := by rfl) :
    PE X (.Call (.Attribute o name apos) (e :: es) [] cpos) (tBM K T r to t) := by
  subst hK
  exact pe_bm pa slot hty hm ho ha hbase hfew hline hs hplain
theorem pe_tupleOfK (K : PySem.W.Frag) {a : Expr} {ta : TE} {p pos : Pos} (hg : Gl X "tuple") (hm : X.mg "tuple" = none) (ha : PE X a ta) (hK : X.K = K := by rfl) (na : starEach [a] X.env = (false, eval a X.env) :: starEach [] X.env := by rfl) :
    PE X (.Call (.Name "tuple" p) [a] [] pos) (tThen ta (kTup K)) := by
  subst hK
  exact pe_tupleOf hg hm ha na
theorem call_lenK (K : PySem.W.Frag) (hK : X.K = K := by rfl) : CallR X (.builtin "len") (fun xs H Q => ∃ p ys, xs = [V.ref p] ∧ (SqL K H p ys ∨ SqT K H p ys) ∧ Q (.int ys.length) H) := by
  subst hK
  exact call_len_seq
end
end Gd
end

section
set_option Elab.async false
set_option linter.all false
set_option maxRecDepth 100000
set_option maxHeartbeats 4000000
/-! o.m(e, .., k = v, ..) and o.m(k = v, ..), f(k = v, ..): keyword-only parameters among them. -/
namespace Gd
open PySem PySem.Spec PyProof.Rows L2
section
variable {X : Cx} {cx : CXT} {k n : Nat} {C f : Addr} {fd : FuncData} {ps ks : List Str} {sp : Sp} {E : XK} {m : Str} {o e : Expr} {es : List Expr} {apos pos : Pos} {kws : List Keyword} {ta : TE} {t tk : TA}
  {g : List Value → List Value → List Value} {gV : List V → List V → List V}
def tMethN (C : Addr) (m : Str) (n l : Nat) (sp : Sp) (gV : List V → List V → List V) (E : XK) (ta : TE) (t tk : TA) : TE := fun σ H Q => ta σ H fun x H1 => ∃ a dx fs, x = .ref a ∧ H1 a = some (.ins C dx fs) ∧ fs.lookup m = none ∧
  t σ H1 fun vs H2 => tk σ H2 fun zs H3 => vs.length = n ∧ zs.length = l ∧ sp (gV (.ref a :: vs) zs) H3 Q E
theorem pe_methN {pl : Sem Bool} (he : PE X o ta) (c : Cls X.K C) (hm : Meth X.K C m f) (F : FnOk X.prog X.w X.K X.mg X.base cx k f fd ps sp) (hr : Room k X.A) (hb : KBn X.K fd ps (n + 1) ks g gV) (hx : Passes cx X E) (ha : PA X (e :: es) t) (hkw : PK X kws tk)
    (hall : (backToKw pos (keywordEach kws X.env)).all (·.1.isSome) = true := by rfl) (hks : (backToKw pos (keywordEach kws X.env)).filterMap (·.1) = ks := by rfl)
    (hst : starEach (e :: es) X.env = (false, eval e X.env) :: starEach es X.env := by rfl)
    (hpl : ((backTo pos (starEach (e :: es) X.env)).any (·.1) || (backToKw pos (keywordEach kws X.env)).any (·.1.isNone)) = false := by rfl)
    (ht : eval (.Call (.Attribute o m apos) (e :: es) kws pos) X.env = (do
      let it ← eval o X.env
      standAt apos.atName
      let (q, ahead) ← holding [it] (getMethod it m pl)
      callWith pos q ahead (backTo pos (starEach (e :: es) X.env)) (backToKw pos (keywordEach kws X.env))) := by rfl) :
    PE X (.Call (.Attribute o m apos) (e :: es) kws pos) (tMethN C m n ks.length sp gV E ta t tk) := by
  constructor
  intro pins s σ H Q I h
  refine PySem.W.methodCall_KW (pl := pl) (thn (he.run pins s σ H _ I h) ?_) ht
  rintro u s1 ⟨x, H1, J, rx, a, dx, fs, rfl, ea, l, q⟩
  obtain rfl : u = Value.ref a := rx
  refine getmeth_ok J ea c hm l ?_
  refine PySem.W.callWith_KW (first := [.ref a]) (h₀ := X.base) J.ok.mod.kin hm.kp hall (thn (ha.run pos pins s1 σ H1 _ J q) ?_) hpl hst
  rintro us s2 ⟨vs, H2, J2, r, q2⟩
  refine thn (hkw.run pos pins s2 σ H2 _ J2 q2) fun ws s3 ⟨zs, H3, J3, rz, l1, l2, q3⟩ => ⟨J3.kIn, ?_⟩
  rw [hks]
  exact run_fnN (us := .ref a :: us) (vs := .ref a :: vs) F hr hb hx J3 (.cons rfl r) rz (by rw [List.length_cons, l1]) l2 q3
/-- o.m(k = v, ..) -/
def tMethN0 (C : Addr) (m : Str) (l : Nat) (sp : Sp) (gV : List V → List V → List V) (E : XK) (ta : TE) (tk : TA) : TE := fun σ H Q => ta σ H fun x H1 => ∃ a dx fs, x = .ref a ∧ H1 a = some (.ins C dx fs) ∧ fs.lookup m = none ∧
  tk σ H1 fun zs H3 => zs.length = l ∧ sp (gV [.ref a] zs) H3 Q E
theorem pe_methN0 {pl : Sem Bool} (he : PE X o ta) (c : Cls X.K C) (hm : Meth X.K C m f) (F : FnOk X.prog X.w X.K X.mg X.base cx k f fd ps sp) (hr : Room k X.A) (hb : KBn X.K fd ps 1 ks g gV) (hx : Passes cx X E) (hkw : PK X kws tk)
    (hall : (backToKw pos (keywordEach kws X.env)).all (·.1.isSome) = true := by rfl) (hks : (backToKw pos (keywordEach kws X.env)).filterMap (·.1) = ks := by rfl)
    (hpl : ((backTo pos (starEach [] X.env)).any (·.1) || (backToKw pos (keywordEach kws X.env)).any (·.1.isNone)) = false := by rfl)
    (ht : eval (.Call (.Attribute o m apos) [] kws pos) X.env = (do
      let it ← eval o X.env
      standAt apos.atName
      let (q, ahead) ← holding [it] (getMethod it m pl)
      callWith pos q ahead (backTo pos (starEach [] X.env)) (backToKw pos (keywordEach kws X.env))) := by rfl) :
    PE X (.Call (.Attribute o m apos) [] kws pos) (tMethN0 C m ks.length sp gV E ta tk) := by
  constructor
  intro pins s σ H Q I h
  refine PySem.W.methodCall_KW (pl := pl) (thn (he.run pins s σ H _ I h) ?_) ht
  rintro u s1 ⟨x, H1, J, rx, a, dx, fs, rfl, ea, l, q⟩
  obtain rfl : u = Value.ref a := rx
  refine getmeth_ok J ea c hm l ?_
  refine PySem.W.callWith_KW0 (first := [.ref a]) (h₀ := X.base) J.ok.mod.kin hm.kp hall (thn (hkw.run pos pins s1 σ H1 _ J q) ?_) hpl
  rintro ws s2 ⟨zs, H2, J2, rz, q2⟩
  refine ⟨J2.kIn, ?_⟩
  rw [hks]
  exact run_fnN (us := [.ref a]) (vs := [.ref a]) F hr hb hx J2 (.cons rfl .nil) rz rfl q2.1 q2.2
end
end Gd
end

section
set_option Elab.async false
set_option linter.all false
set_option maxRecDepth 100000
set_option maxHeartbeats 4000000
/-! Data: numbers, texts, truths, None, tuples of such. -/
namespace Gd
open PySem PySem.Spec PyProof.Rows L2

mutual
def tupOnly : PyData → Bool
  | .none => true
  | .bool _ => true
  | .int _ => true
  | .str _ => true
  | .tuple ds => decide (ds.length ≤ 1000) && tupOnlyAll ds
  | .list _ => false
  | .dict _ => false
def tupOnlyAll : List PyData → Bool
  | [] => true
  | d :: ds => tupOnly d && tupOnlyAll ds
end

/-- tuples stay -/
def Tups (K : PySem.W.Frag) (H H' : Hp) : Prop := ∀ a xs, SqT K H a xs → SqT K H' a xs
theorem Tups.refl {K : PySem.W.Frag} {H : Hp} : Tups K H H := fun _ _ h => h
theorem Tups.trans {K : PySem.W.Frag} {H H1 H2 : Hp} (a : Tups K H H1) (b : Tups K H1 H2) : Tups K H H2 := fun x y h => b x y (a x y h)
theorem Tups.upd_lst {K : PySem.W.Frag} {H : Hp} {D : Addr} {xs ys : List V} (e : H D = some (.lst xs)) : Tups K H (upd H D (.lst ys)) := by
  intro a zs h
  rcases h with (h | ⟨o, h⟩) | h
  · refine .inl (.inl ?_)
    rw [upd_ne (fun z => by rw [z, e] at h; cases h)]
    exact h
  · refine .inl (.inr ⟨o, ?_⟩)
    rw [upd_ne (fun z => by rw [z, e] at h; cases h)]
    exact h
  · exact .inr h
theorem Tups.of_same {K : PySem.W.Frag} {H H' : Hp} (s : Same H H') : Tups K H H' := by
  intro a zs h
  rcases h with (h | ⟨o, h⟩) | h
  · exact .inl (.inl (s _ _ h))
  · exact .inl (.inr ⟨o, s _ _ h⟩)
  · exact .inr h

theorem Tups.new {K : PySem.W.Frag} {H : Hp} {q : Addr} {o : HO} (n : H q = none) : Tups K H (upd H q o) :=
  .of_same fun b u e => by
    rw [upd_ne (ne_of_none e n)]
    exact e
theorem Ex1.tups {K : PySem.W.Frag} {H H' : Hp} {p : Addr} {xs : List V} (x : Ex1 p H H') (e : H p = some (.lst xs)) : Tups K H H' := by
  intro a zs h
  rcases h with (h | ⟨o, h⟩) | h
  · exact .inl (.inl (x _ _ (fun z => by rw [z, e] at h; cases h) h))
  · exact .inl (.inr ⟨o, x _ _ (fun z => by rw [z, e] at h; cases h) h⟩)
  · exact .inr h
section
variable {K : PySem.W.Frag} {H H' : Hp}
mutual
theorem Dp.tups (t : Tups K H H') : ∀ (d : PyData) {v : V}, tupOnly d = true → Dp K H v d → Dp K H' v d
  | .none, _, _, h => by cases h; exact .non
  | .bool _, _, _, h => by cases h; exact .bl _
  | .int _, _, _, h => by cases h; exact .int _
  | .str _, _, _, h => by cases h; exact .str _
  | .tuple ds, _, o, h => by
    cases h with
    | tup a b =>
      simp only [tupOnly, Bool.and_eq_true] at o
      exact .tup (t _ _ a) (DpAll.tups t ds o.2 b)
  | .list _, _, o, _ => by simp [tupOnly] at o
  | .dict _, _, _, h => by cases h
theorem DpAll.tups (t : Tups K H H') : ∀ (ds : List PyData) {vs : List V}, tupOnlyAll ds = true → DpAll K H vs ds → DpAll K H' vs ds
  | [], _, _, h => by cases h; exact .nil
  | d :: ds, _, o, h => by
    simp only [tupOnlyAll, Bool.and_eq_true] at o
    cases h with
    | cons a b => exact .cons (Dp.tups t d o.1 a) (DpAll.tups t ds o.2 b)
end
mutual
theorem Dp.same (s : Same H H') : ∀ (d : PyData) {v : V}, Dp K H v d → Dp K H' v d
  | .none, _, h => by cases h; exact .non
  | .bool _, _, h => by cases h; exact .bl _
  | .int _, _, h => by cases h; exact .int _
  | .str _, _, h => by cases h; exact .str _
  | .tuple ds, _, h => by
    cases h with
    | tup a b => exact .tup (Tups.of_same s _ _ a) (DpAll.same s ds b)
  | .list ds, _, h => by
    cases h with
    | lst a b => exact .lst (s.seq a) (DpAll.same s ds b)
  | .dict _, _, h => by cases h
theorem DpAll.same (s : Same H H') : ∀ (ds : List PyData) {vs : List V}, DpAll K H vs ds → DpAll K H' vs ds
  | [], _, h => by cases h; exact .nil
  | d :: ds, _, h => by
    cases h with
    | cons a b => exact .cons (Dp.same s d a) (DpAll.same s ds b)
end
theorem DpAll.len : ∀ {vs : List V} {ds : List PyData}, DpAll K H vs ds → vs.length = ds.length
  | _, _, .nil => rfl
  | _, _, .cons _ b => congrArg (· + 1) (DpAll.len b)
theorem DpAll.at_ : ∀ {vs : List V} {ds : List PyData} {i : Nat} {v : V}, DpAll K H vs ds → vs[i]? = some v → ∃ d, ds[i]? = some d ∧ Dp K H v d
  | _, _, _, _, .nil, e => by simp at e
  | _, _, 0, _, .cons a _, e => by
    cases Option.some.inj e
    exact ⟨_, rfl, a⟩
  | _, _, i + 1, _, .cons _ b, e => DpAll.at_ (i := i) b e
theorem DpAll.snoc : ∀ {vs : List V} {ds : List PyData} {v : V} {d : PyData}, DpAll K H vs ds → Dp K H v d → DpAll K H (vs ++ [v]) (ds ++ [d])
  | _, _, _, _, .nil, h => .cons h .nil
  | _, _, _, _, .cons a b, h => .cons a (DpAll.snoc b h)
theorem tupOnlyAll_at : ∀ {ds : List PyData} {i : Nat} {d : PyData}, tupOnlyAll ds = true → ds[i]? = some d → tupOnly d = true
  | [], _, _, _, e => by simp at e
  | x :: r, 0, d, o, e => by
    simp only [tupOnlyAll, Bool.and_eq_true] at o
    cases Option.some.inj e
    exact o.1
  | x :: r, i + 1, d, o, e => by
    simp only [tupOnlyAll, Bool.and_eq_true] at o
    exact tupOnlyAll_at (i := i) o.2 e
theorem tupOnlyAll_take : ∀ {ds : List PyData}, tupOnlyAll ds = true → ∀ i : Nat, tupOnlyAll (ds.take i) = true
  | [], _, i => by rw [List.take_nil] <;> rfl
  | x :: r, o, 0 => rfl
  | x :: r, o, i + 1 => by
    simp only [tupOnlyAll, Bool.and_eq_true] at o
    simp only [List.take_succ_cons, tupOnlyAll, Bool.and_eq_true]
    exact ⟨o.1, tupOnlyAll_take o.2 i⟩
theorem depth_at : ∀ {ds : List PyData} {i : Nat} {d : PyData}, ds[i]? = some d → d.depth ≤ PyData.depthAll ds
  | [], _, _, e => by simp at e
  | x :: r, 0, d, e => by
    cases Option.some.inj e
    simp only [PyData.depthAll]
    omega
  | x :: r, i + 1, d, e => by
    have h := depth_at (ds := r) (i := i) e
    simp only [PyData.depthAll]
    omega
end

/-- the built-in class of data -/
def kindN : PyData → String
  | .none => "NoneType"
  | .bool _ => "bool"
  | .int _ => "int"
  | .str _ => "str"
  | .list _ => "list"
  | .tuple _ => "tuple"
  | .dict _ => "dict"
theorem Dp.kind {K : PySem.W.Frag} {H : Hp} {v : V} {d : PyData} (h : Dp K H v d) (o : tupOnly d = true) : TyX K H v (.type (kindN d)) := by
  cases h with
  | non => exact .base .non
  | bl b => exact .base (.bl b)
  | int i => exact .base (.int i)
  | str x => exact .base (.str x)
  | lst _ _ => simp [tupOnly] at o
  | tup a _ =>
    rcases a with (a | ⟨z, a⟩) | ⟨z, its, n, a, c, _⟩
    · exact .base (.tup a)
    · exact .fTuple a
    · exact .kTuple a c
section
theorem kb0 : kitB "NoneType" "list" = some false ∧ kitB "NoneType" "tuple" = some false ∧ kitB "NoneType" "dict" = some false := by decide +kernel
theorem kb1 : kitB "bool" "list" = some false ∧ kitB "bool" "tuple" = some false ∧ kitB "bool" "dict" = some false := by decide +kernel
theorem kb2 : kitB "int" "list" = some false ∧ kitB "int" "tuple" = some false ∧ kitB "int" "dict" = some false := by decide +kernel
theorem kb3 : kitB "str" "list" = some false ∧ kitB "str" "tuple" = some false ∧ kitB "str" "dict" = some false := by decide +kernel
theorem kb4 : kitB "tuple" "list" = some false ∧ kitB "tuple" "tuple" = some true ∧ kitB "tuple" "dict" = some false := by decide +kernel
theorem kind_list {d : PyData} (o : tupOnly d = true) : kitB (kindN d) "list" = some false := by
  cases d with
  | none => exact kb0.1
  | bool b => exact kb1.1
  | int i => exact kb2.1
  | str x => exact kb3.1
  | tuple ds => exact kb4.1
  | list ds => simp [tupOnly] at o
  | dict ds => simp [tupOnly] at o
theorem kind_dict {d : PyData} (o : tupOnly d = true) : kitB (kindN d) "dict" = some false := by
  cases d with
  | none => exact kb0.2.2
  | bool b => exact kb1.2.2
  | int i => exact kb2.2.2
  | str x => exact kb3.2.2
  | tuple ds => exact kb4.2.2
  | list ds => simp [tupOnly] at o
  | dict ds => simp [tupOnly] at o
theorem kind_tuple {d : PyData} (o : tupOnly d = true) (n : ¬ ∃ ds, d = .tuple ds) : kitB (kindN d) "tuple" = some false := by
  cases d with
  | none => exact kb0.2.1
  | bool b => exact kb1.2.1
  | int i => exact kb2.2.1
  | str x => exact kb3.2.1
  | tuple ds => exact absurd ⟨ds, rfl⟩ n
  | list ds => simp [tupOnly] at o
  | dict ds => simp [tupOnly] at o
end
end Gd
end

section
set_option Elab.async false
set_option linter.all false
set_option maxRecDepth 100000
set_option maxHeartbeats 4000000
/-! Data with lists, and with two small dicts; what is not in it: the addresses of N. -/
namespace Gd
open PySem PySem.Spec PyProof.Rows L2

mutual
inductive Dd (K : PySem.W.Frag) (H : Hp) (N : Addr → Prop) : V → PyData → Prop
  | non : Dd K H N .non .none
  | bl (b : Bool) : Dd K H N (.bl b) (.bool b)
  | int (i : Int) : Dd K H N (.int i) (.int i)
  | str (x : Str) : Dd K H N (.str x) (.str x)
  | lst {a : Addr} {xs : List V} {ds : List PyData} : H a = some (.lst xs) → ¬ N a → a ≠ sysModules → DdAll K H N xs ds → Dd K H N (.ref a) (.list ds)
  | tup {a : Addr} {xs : List V} {ds : List PyData} : SqT K H a xs → DdAll K H N xs ds → Dd K H N (.ref a) (.tuple ds)
  | dct0 {a : Addr} : H a = some (.dK []) → ¬ N a → Dd K H N (.ref a) (.dict [])
  | dct1 {a : Addr} {x : Str} {i : Int} : H a = some (.dK [(Sum.inr x, .int i)]) → ¬ N a → Dd K H N (.ref a) (.dict [(.str x, .int i)])
inductive DdAll (K : PySem.W.Frag) (H : Hp) (N : Addr → Prop) : List V → List PyData → Prop
  | nil : DdAll K H N [] []
  | cons {v : V} {vs : List V} {d : PyData} {ds : List PyData} : Dd K H N v d → DdAll K H N vs ds → DdAll K H N (v :: vs) (d :: ds)
end

section
variable {K : PySem.W.Frag} {H H' : Hp} {N N' : Addr → Prop}
mutual
theorem Dd.stay (t : Tups K H H') (x : ∀ a o, ¬ N a → H a = some o → H' a = some o) (m : ∀ a, N' a → N a) : ∀ (d : PyData) {v : V}, Dd K H N v d → Dd K H' N' v d
  | .none, _, h => by cases h; exact .non
  | .bool _, _, h => by cases h; exact .bl _
  | .int _, _, h => by cases h; exact .int _
  | .str _, _, h => by cases h; exact .str _
  | .tuple ds, _, h => by
    cases h with
    | tup a b => exact .tup (t _ _ a) (DdAll.stay t x m ds b)
  | .list ds, _, h => by
    cases h with
    | lst a n g b => exact .lst (x _ _ n a) (fun z => n (m _ z)) g (DdAll.stay t x m ds b)
  | .dict ds, _, h => by
    cases h with
    | dct0 a n => exact .dct0 (x _ _ n a) (fun z => n (m _ z))
    | dct1 a n => exact .dct1 (x _ _ n a) (fun z => n (m _ z))
theorem DdAll.stay (t : Tups K H H') (x : ∀ a o, ¬ N a → H a = some o → H' a = some o) (m : ∀ a, N' a → N a) : ∀ (ds : List PyData) {vs : List V}, DdAll K H N vs ds → DdAll K H' N' vs ds
  | [], _, h => by cases h; exact .nil
  | d :: ds, _, h => by
    cases h with
    | cons a b => exact .cons (Dd.stay t x m d a) (DdAll.stay t x m ds b)
end
theorem Dd.same {v : V} {d : PyData} (s : Same H H') (h : Dd K H N v d) : Dd K H' N v d := Dd.stay (Tups.of_same s) (fun a o _ e => s a o e) (fun _ z => z) d h
theorem DdAll.same {vs : List V} {ds : List PyData} (s : Same H H') (h : DdAll K H N vs ds) : DdAll K H' N vs ds := DdAll.stay (Tups.of_same s) (fun a o _ e => s a o e) (fun _ z => z) ds h
theorem Dd.free {v : V} {d : PyData} (h : Dd K H N v d) : Dd K H (fun _ => False) v d := Dd.stay .refl (fun a o _ e => e) (fun _ z => z.elim) d h
theorem DdAll.free {vs : List V} {ds : List PyData} (h : DdAll K H N vs ds) : DdAll K H (fun _ => False) vs ds := DdAll.stay .refl (fun a o _ e => e) (fun _ z => z.elim) ds h
/-- behind a draw -/
theorem Dd.drawn {p : Addr} {ys : List V} {v : V} {d : PyData} (e : H p = some (.lst ys)) (x : Ex1 p H H') (h : Dd K H (· = p) v d) : Dd K H' (· = p) v d :=
  Dd.stay (x.tups e) (fun a o n q => x a o n q) (fun _ z => z) d h
theorem DdAll.drawn {p : Addr} {ys : List V} {vs : List V} {ds : List PyData} (e : H p = some (.lst ys)) (x : Ex1 p H H') (h : DdAll K H (· = p) vs ds) : DdAll K H' (· = p) vs ds :=
  DdAll.stay (x.tups e) (fun a o n q => x a o n q) (fun _ z => z) ds h
mutual
/-- what is new is not in it -/
theorem Dd.shun {q : Addr} (n : H q = none) : ∀ (d : PyData) {v : V}, Dd K H N v d → Dd K H (fun a => N a ∨ a = q) v d
  | .none, _, h => by cases h; exact .non
  | .bool _, _, h => by cases h; exact .bl _
  | .int _, _, h => by cases h; exact .int _
  | .str _, _, h => by cases h; exact .str _
  | .tuple ds, _, h => by
    cases h with
    | tup a b => exact .tup a (DdAll.shun n ds b)
  | .list ds, _, h => by
    cases h with
    | lst a m g b => exact .lst a (fun z => z.elim m (fun z => by rw [z, n] at a; cases a)) g (DdAll.shun n ds b)
  | .dict ds, _, h => by
    cases h with
    | dct0 a m => exact .dct0 a (fun z => z.elim m (fun z => by rw [z, n] at a; cases a))
    | dct1 a m => exact .dct1 a (fun z => z.elim m (fun z => by rw [z, n] at a; cases a))
theorem DdAll.shun {q : Addr} (n : H q = none) : ∀ (ds : List PyData) {vs : List V}, DdAll K H N vs ds → DdAll K H (fun a => N a ∨ a = q) vs ds
  | [], _, h => by cases h; exact .nil
  | d :: ds, _, h => by
    cases h with
    | cons a b => exact .cons (Dd.shun n d a) (DdAll.shun n ds b)
end
theorem DdAll.len : ∀ {vs : List V} {ds : List PyData}, DdAll K H N vs ds → vs.length = ds.length
  | _, _, .nil => rfl
  | _, _, .cons _ b => congrArg (· + 1) (DdAll.len b)
theorem DdAll.at_ : ∀ {vs : List V} {ds : List PyData} {i : Nat} {v : V}, DdAll K H N vs ds → vs[i]? = some v → ∃ d, ds[i]? = some d ∧ Dd K H N v d
  | _, _, _, _, .nil, e => by simp at e
  | _, _, 0, _, .cons a _, e => by
    cases Option.some.inj e
    exact ⟨_, rfl, a⟩
  | _, _, i + 1, _, .cons _ b, e => DdAll.at_ (i := i) b e
theorem DdAll.app : ∀ {vs us : List V} {ds es : List PyData}, DdAll K H N vs ds → DdAll K H N us es → DdAll K H N (vs ++ us) (ds ++ es)
  | _, _, _, _, .nil, h => h
  | _, _, _, _, .cons a b, h => .cons a (DdAll.app b h)
theorem DdAll.take : ∀ {vs : List V} {ds : List PyData}, DdAll K H N vs ds → ∀ i : Nat, DdAll K H N (vs.take i) (ds.take i)
  | _, _, .nil, i => by rw [List.take_nil, List.take_nil]; exact .nil
  | _, _, .cons _ _, 0 => .nil
  | _, _, .cons a b, i + 1 => .cons a (DdAll.take b i)
theorem DdAll.drop : ∀ {vs : List V} {ds : List PyData}, DdAll K H N vs ds → ∀ i : Nat, DdAll K H N (vs.drop i) (ds.drop i)
  | _, _, .nil, i => by rw [List.drop_nil, List.drop_nil]; exact .nil
  | _, _, .cons a b, 0 => .cons a b
  | _, _, .cons a b, i + 1 => DdAll.drop b i
theorem DdAll.rev : ∀ {vs : List V} {ds : List PyData}, DdAll K H N vs ds → DdAll K H N vs.reverse ds.reverse
  | _, _, .nil => .nil
  | _, _, .cons a b => by
    rw [List.reverse_cons, List.reverse_cons]
    exact DdAll.app (DdAll.rev b) (.cons a .nil)
mutual
theorem Dd.ofDp : ∀ (d : PyData) {v : V}, tupOnly d = true → Dp K H v d → Dd K H N v d
  | .none, _, _, h => by cases h; exact .non
  | .bool _, _, _, h => by cases h; exact .bl _
  | .int _, _, _, h => by cases h; exact .int _
  | .str _, _, _, h => by cases h; exact .str _
  | .tuple ds, _, o, h => by
    cases h with
    | tup a b =>
      simp only [tupOnly, Bool.and_eq_true] at o
      exact .tup a (DdAll.ofDp ds o.2 b)
  | .list _, _, o, _ => by simp [tupOnly] at o
  | .dict _, _, o, _ => by simp [tupOnly] at o
theorem DdAll.ofDp : ∀ (ds : List PyData) {vs : List V}, tupOnlyAll ds = true → DpAll K H vs ds → DdAll K H N vs ds
  | [], _, _, h => by cases h; exact .nil
  | d :: ds, _, o, h => by
    simp only [tupOnlyAll, Bool.and_eq_true] at o
    cases h with
    | cons a b => exact .cons (Dd.ofDp d o.1 a) (DdAll.ofDp ds o.2 b)
end
theorem Dd.kind {v : V} {d : PyData} (h : Dd K H N v d) : TyX K H v (.type (kindN d)) := by
  cases h with
  | non => exact .base .non
  | bl b => exact .base (.bl b)
  | int i => exact .base (.int i)
  | str x => exact .base (.str x)
  | lst e _ _ _ => exact .base (.lst e)
  | dct0 e _ => exact .base (.dK e)
  | dct1 e _ => exact .base (.dK e)
  | tup a _ =>
    rcases a with (a | ⟨z, a⟩) | ⟨z, its, n, a, c, _⟩
    · exact .base (.tup a)
    · exact .fTuple a
    · exact .kTuple a c
end
section
variable {X : Cx} {pins : List (Addr × Obj)} {σ : L2.St} {H : Hp} {s : Shared} {N : Addr → Prop}
theorem dk_reads (I : Inv X pins σ H s) {a : Addr} {kvs : List (Key × V)} (e : H a = some (.dK kvs)) :
    (a == sysModules) = false ∧ ∃ vs, KV kvs vs ∧ s.heap.DictOf (mixKind X.prog X.w) a vs := (I.hok a _ e).2
mutual
theorem Dd.reads (I : Inv X pins σ H s) : ∀ (d : PyData) (v : V) (u : Value), Dd X.K H N v d → RelV v u → ∃ as, Reads s.heap u d as ∧ sysModules ∉ as
  | .none, _, _, h, r => by
    cases h
    cases r
    exact ⟨[], .none, nofun⟩
  | .bool b, _, _, h, r => by
    cases h
    cases r
    exact ⟨[], .bool b, nofun⟩
  | .int i, _, _, h, r => by
    cases h
    obtain ⟨t, rfl⟩ := r
    exact ⟨[], .int i t, nofun⟩
  | .str x, _, _, h, r => by
    cases h
    obtain ⟨t, rfl⟩ := r
    exact ⟨[], .str x t, nofun⟩
  | .list ds, _, _, h, r => by
    cases h with
    | lst hs _ g ha =>
      cases r
      obtain ⟨its, rv, pl, _⟩ := I.list (SqL.of hs)
      obtain ⟨o, n, ho, hc, _, hd⟩ := pl
      obtain ⟨as, hr, hn⟩ := Dd.readsAll I ds _ its ha rv
      refine ⟨_, .list ho hc hd hr, fun m => ?_⟩
      rcases List.mem_cons.mp m with m | m
      · exact g m.symm
      · exact hn m
  | .tuple ds, _, _, h, r => by
    cases h with
    | tup hs ha =>
      cases r
      obtain ⟨its, rv, pl, _⟩ := I.tuple hs
      obtain ⟨o, ho, hc, n, hd⟩ := pl
      obtain ⟨as, hr, hn⟩ := Dd.readsAll I ds _ its ha rv
      exact ⟨as, .tuple ho hc hd hr, hn⟩
  | .dict ds, _, _, h, r => by
    cases h with
    | dct0 e _ =>
      cases r
      obtain ⟨g, vs, kv, o, es, ep, ho, ex, hd, ks, ps, _⟩ := dk_reads I e
      cases kv
      cases hes : es.toList with
      | nil =>
        refine ⟨_, .dict (as := []) (bs := []) ho ex.1 hd ?_ ?_, fun m => ?_⟩
        · rw [hes]; exact .nil
        · rw [hes]; exact .nil
        · rcases List.mem_cons.mp m with m | m
          · rw [← m] at g
            simp at g
          · cases m
      | cons z zs =>
        rw [hes] at ps
        cases ps
    | @dct1 a x i e _ =>
      cases r
      obtain ⟨g, vs, kv, o, es, ep, ho, ex, hd, ks, ps, _⟩ := dk_reads I e
      cases kv with
      | @cons _ q _ _ r0 rest =>
      cases rest
      obtain ⟨qk, qv⟩ := q
      obtain ⟨rk, t, rv⟩ := r0
      dsimp only at rk rv
      subst rk rv
      cases hes : es.toList with
      | nil =>
        rw [hes] at ps
        cases ps
      | cons z zs =>
        rw [hes] at ps
        cases ps with
        | cons p1 p2 p3 =>
        cases p3
        obtain ⟨tk, ek⟩ : ∃ tk, z.key = .str x tk := by
          have p1 : keyIs (Sum.inr x) z.key = true := p1
          rcases keyIs_shape p1 with ⟨i, t, h1, h2⟩ | ⟨y, t, h1, h2⟩
          · cases h1
          · cases h1
            exact ⟨t, h2⟩
        refine ⟨_, .dict (as := [] ++ []) (bs := [] ++ []) ho ex.1 hd ?_ ?_, fun m => ?_⟩
        · rw [hes]
          show ReadsAll s.heap [z.key] [.str x] _
          rw [ek]
          exact .cons (.str x tk) .nil
        · rw [hes]
          show ReadsAll s.heap [z.val] [.int i] _
          rw [p2]
          exact .cons (.int i t) .nil
        · rcases List.mem_cons.mp m with m | m
          · rw [← m] at g
            simp at g
          · cases m
theorem Dd.readsAll (I : Inv X pins σ H s) : ∀ (ds : List PyData) (vs : List V) (us : List Value), DdAll X.K H N vs ds → Vals vs us → ∃ as, ReadsAll s.heap us ds as ∧ sysModules ∉ as
  | [], _, _, h, r => by
    cases h
    cases r
    exact ⟨[], .nil, nofun⟩
  | d :: ds, _, _, h, r => by
    cases h with
    | cons h1 h2 =>
      cases r with
      | cons r1 r2 =>
        obtain ⟨as, q1, n1⟩ := Dd.reads I d _ _ h1 r1
        obtain ⟨bs, q2, n2⟩ := Dd.readsAll I ds _ _ h2 r2
        exact ⟨as ++ bs, .cons q1 q2, fun m => (List.mem_append.mp m).elim n1 n2⟩
end
/-- repr(x), x such data -/
def rReprD (K : PySem.W.Frag) : List V → Hp → VK → Prop := fun xs H Q =>
  ∃ (x : V) (d : PyData) (N : Addr → Prop), xs = [x] ∧ Dd K H N x d ∧ d.showable = true ∧ d.shown.length ≤ sizeLine ∧ d.depth ≤ 60 ∧ Q (.str d.shown) H
theorem call_reprD (g : Free X.A) (hu : X.A.units + 64 < cLine) : CallR X (.builtin "repr") (rReprD X.K) := by
  intro pins s σ H xs us Q I r h
  obtain ⟨x, d, N, rfl, hd, hs, hz, hdp, q⟩ := h
  obtain ⟨u, rfl, ru⟩ := r.one
  obtain ⟨as, rd, hn⟩ := Dd.reads I d x u hd ru
  have fin : ∀ (h' : Heap) (tk tk' : Nat), (∀ b o, s.heap.get? b = some o → h'.get? b = some o) →
      EP X pins σ Q (.str d.shown tk) { s with heap := h', toks := tk' } :=
    fun h' tk tk' k => ⟨.str d.shown, H, I.kept k, ⟨tk, rfl⟩, q⟩
  have fin0 : ∀ (tk tk' : Nat), EP X pins σ Q (.str d.shown tk) { s with toks := tk' } :=
    fun tk tk' => ⟨.str d.shown, H, I.tok tk', ⟨tk, rfl⟩, q⟩
  cases rd with
  | none => exact P.repr_of_none (fin0 _ _)
  | bool b => exact P.repr_of_bool (fin0 _ _)
  | int i t => exact P.repr_of_int (by simpa [PyData.showable] using hs) (fin0 _ _)
  | str z t => exact P.repr_of_str (fin0 _ _) hz
  | list h1 h2 h3 h4 =>
    exact repr_of_reads' (.list h1 h2 h3 h4) hs (fun _ => hn) g (by omega) (fun _ _ e => e) (fun h' u tk k => fin h' u tk k) hz
  | tuple h1 h2 h3 h4 =>
    exact repr_of_reads' (.tuple h1 h2 h3 h4) hs (fun _ => hn) g (by omega) (fun _ _ e => e) (fun h' u tk k => fin h' u tk k) hz
  | dict h1 h2 h3 h4 h5 =>
    exact repr_of_reads' (.dict h1 h2 h3 h4 h5) hs (fun _ => hn) g (by omega) (fun _ _ e => e) (fun h' u tk k => fin h' u tk k) hz
end
end Gd
end

section
set_option Elab.async false
set_option linter.all false
set_option maxRecDepth 100000
set_option maxHeartbeats 4000000
namespace Gd
open PySem PySem.Spec PyProof.Rows L2

section
variable {X : Cx}
/-- the address of a new object is none of the interpreter's own -/
theorem new_no {pins : List (Addr × Obj)} {σ : L2.St} {H : Hp} {s : Shared} (I : Inv X pins σ H s) : s.heap.objs.size ≠ sysModules := Nat.ne_of_gt I.big
def tLstS (t : TA) : TE := fun σ H Q => t σ H fun xs H1 => xs.length ≤ sizeLine ∧ ∀ p, H1 p = none → p ≠ sysModules → Q (.ref p) (upd H1 p (.lst xs))
theorem pe_lstS {es : List Expr} {pos : Pos} {t : TA} (h : PA X es t) : PE X (.List es pos) (tLstS t) := by
  constructor
  intro pins s σ H Q I hq
  refine wpAny_List_spliced (thn (h.run pos pins s σ H _ I hq) ?_)
  rintro us s1 ⟨xs, H1, J, r, z, q⟩
  have hn : H1 s1.heap.objs.size = none := J.hok.fresh (Nat.le_refl _)
  have J2 := J.laid (a := s1.heap.objs.size) (o := .lst xs) (h' := s1.heap.push { cls := .type "list", data := .seq us.toArray }) (t' := s1.toks)
    (fun b u e => Heap.get?_push_of_some _ e) (Nat.le_refl _) ⟨z, us, 0, r, Heap.get?_push_size _ rfl⟩
  exact ⟨by rw [← r.length]; exact z, .ref s1.heap.objs.size, _, J2, rfl, q _ hn (new_no J)⟩
theorem call_listS : CallR X (.type "list") (fun xs H Q => ∃ p ys, xs = [.ref p] ∧ SqT X.K H p ys ∧ ∀ l, H l = none → l ≠ sysModules → Q (.ref l) (upd H l (.lst ys))) := by
  intro pins s σ H xs us Q I r h
  obtain ⟨p, ys, rfl, hq, q⟩ := h
  obtain ⟨u, rfl, rx⟩ := r.one
  cases rx
  obtain ⟨its, r', pl, hz⟩ := I.tuple hq
  have hlen := r'.length
  obtain ⟨o, ho, hc, n, hd⟩ := pl
  refine call_list_seq p (.inr rfl) ho hc hd ?_ (by simp only [List.size_toArray] <;> omega)
  intro h' c' kp e
  have J := I.laid (a := s.heap.objs.size) (o := .lst ys) (t' := s.toks) kp (Nat.le_refl _) ⟨hz, its, c', r', e⟩
  exact ⟨.ref s.heap.objs.size, _, J, rfl, q _ (I.hok.fresh (Nat.le_refl _)) (new_no I)⟩

/-! truths as numbers -/
theorem op_add_bi : OpR X (binaryOp .Add) (fun x y H Q => ∃ k i, x = .bl k ∧ y = .int i ∧ Q (.int ((if k = true then 1 else 0) + i)) H) := by
  intro pins s σ H x y v u Q I rx ry h
  obtain ⟨k, i, rfl, rfl, q⟩ := h
  obtain ⟨t, rfl⟩ := ry
  cases rx
  exact IntBool.add_bool_int ⟨.int ((if k = true then 1 else 0) + i), H, I.tok _, ⟨_, rfl⟩, q⟩
theorem op_sub_ib : OpR X (binaryOp .Sub) (fun x y H Q => ∃ i k, x = .int i ∧ y = .bl k ∧ Q (.int (i - (if k = true then 1 else 0))) H) := by
  intro pins s σ H x y v u Q I rx ry h
  obtain ⟨i, k, rfl, rfl, q⟩ := h
  obtain ⟨t, rfl⟩ := rx
  cases ry
  exact IntBool.sub_int_bool ⟨.int (i - (if k = true then 1 else 0)), H, I.tok _, ⟨_, rfl⟩, q⟩
theorem call_str_bool : CallR X (.type "str") (fun xs H Q => ∃ b, xs = [.bl b] ∧ Q (.str (if b then "True" else "False")) H) := by
  intro pins s σ H xs us Q I r h
  obtain ⟨b, rfl, q⟩ := h
  obtain ⟨u, rfl, rx⟩ := r.one
  cases rx
  exact PySem.P.str_of_bool ⟨.str (if b then "True" else "False"), H, I.tok _, ⟨_, rfl⟩, q⟩
end

/-! a dict is no text -/
section
variable {A : Around} {s : Shared} {P : Program} {w : World}
theorem dict_declines (d : Addr) (b : Str) (u : Tok) :
    Meets (Builtin.«dict.__eq__» ⟨[.ref d, .str b u], []⟩) (fun _ R s => s.TypeIs (.ref d) "dict" ∧ R (.ok (.ret .notImplemented)) s) :=
  .of_wp fun prog w A R s h => by
    obtain ⟨hd, h⟩ := h
    show wpAny _ _ (Builtin.Dict.dictSlotArgs "__eq__" ⟨[.ref d, .str b u], []⟩ >>= _) _ _ s
    refine wpAny_bind ?_
    unfold Builtin.Dict.dictSlotArgs
    refine wpAny_bind (wpAny_notOrdered_dict hd ?_)
    refine wpAny_pure ?_
    refine wpAny_bind (wpAny_isInstance (T := "str") (typeIs_str s b u) PySem.F.sub_str_dict ?_)
    simp only [Bool.not_false, if_true]
    exact wpAny_bind (wpAny_rule (wpAny_pure ⟨_, rfl, h⟩))
theorem str_declines (d : Addr) (es : Array DictEntry) (ep : Nat) (b : Str) (u : Tok) :
    Meets (Builtin.«str.__eq__» ⟨[.str b u, .ref d], []⟩)
      (fun _ R s => s.heap.get? d = some { cls := .type "dict", dict := none, data := .dict es ep, slots := #[] } ∧ R (.ok (.ret .notImplemented)) s) :=
  .of_wp fun prog w A R s h => by
    obtain ⟨hp, g, d, tk, os⟩ := s
    obtain ⟨hd, h⟩ := h
    wp_walk using wpAny_load hd
    exact ⟨_, rfl, h⟩
variable {d : Addr} {es : Array DictEntry} {ep : Nat}
theorem rc_dict_str (b : Str) (u : Tok) (ho : s.heap.get? d = some { cls := .type "dict", dict := none, data := .dict es ep, slots := #[] }) (hu : A.units < cLine) :
    SeqAt.RcAt A s (.ref d) (.str b u) false := fun prog w E Q h =>
  SeqAt.rc_eq_decline_or (k := false) ⟨_, ho, rfl⟩ (typeIs_str s b u) (by decide) PySem.F.sub_str_dict PySem.F.slot_dict_eq PySem.F.slot_str_eq_refl
    (fun _ hq => call_meets PySem.F.slot_dict_eq ⟨_, ho, rfl⟩ PySem.F.entry_dict_eq (PySem.F.args_dict_eq_2 _ _) (dict_declines d b u) ⟨⟨_, ho, rfl⟩, hq⟩)
    (fun _ hq => call_meets PySem.F.slot_str_eq_refl (typeIs_str s b u) PySem.F.entry_str_eq (PySem.F.args_str_eq_2 _ _) (str_declines d es ep b u) ⟨ho, hq⟩)
    (fun _ hq => wpAny_of_eq (rfl : isSame (.ref d) (.str b u) = pure false) hq) (.inr hu) h
theorem rc_str_dict (b : Str) (u : Tok) (ho : s.heap.get? d = some { cls := .type "dict", dict := none, data := .dict es ep, slots := #[] }) (hu : A.units < cLine) :
    SeqAt.RcAt A s (.str b u) (.ref d) false := fun prog w E Q h =>
  SeqAt.rc_eq_decline_or (k := false) (typeIs_str s b u) ⟨_, ho, rfl⟩ (by decide) PySem.F.sub_dict_str PySem.F.slot_str_eq PySem.F.slot_dict_eq_refl
    (fun _ hq => call_meets PySem.F.slot_str_eq (typeIs_str s b u) PySem.F.entry_str_eq (PySem.F.args_str_eq_2 _ _) (str_declines d es ep b u) ⟨ho, hq⟩)
    (fun _ hq => call_meets PySem.F.slot_dict_eq_refl ⟨_, ho, rfl⟩ PySem.F.entry_dict_eq (PySem.F.args_dict_eq_2 _ _) (dict_declines d b u) ⟨⟨_, ho, rfl⟩, hq⟩)
    (fun _ hq => wpAny_of_eq (rfl : isSame (.str b u) (.ref d) = pure false) hq) (.inr hu) h
theorem eq_str_dict (b : Str) (u : Tok) (ho : s.heap.get? d = some { cls := .type "dict", dict := none, data := .dict es ep, slots := #[] }) (hu : A.units < cLine) :
    SeqAt.EqAt A s (.str b u) (.ref d) false := fun prog w E Q h => by
  unfold eqBool
  refine wpAny_holding (wpAny_ite_split (fun q => absurd (eq_of_beq q) nofun) (fun _ => ?_))
  exact wpAny_bind (rc_str_dict b u ho hu prog w E _ (wpAny_truthy_bool h))
end

/-! data beside a text -/
def isStr (d : PyData) (b : Str) : Bool := match d with
  | .str x => x == b
  | _ => false
section
variable {X : Cx} {pins : List (Addr × Obj)} {σ : L2.St} {H : Hp} {s : Shared} {N : Addr → Prop} {A : Around}
theorem Dd.dictAt (I : Inv X pins σ H s) {v : V} {u : Value} {ks : List (PyData × PyData)} (h : Dd X.K H N v (.dict ks)) (r : RelV v u) :
    ∃ d es ep, u = .ref d ∧ s.heap.get? d = some { cls := .type "dict", dict := none, data := .dict es ep, slots := #[] } := by
  have key : ∀ {a : Addr} {kvs : List (Key × V)}, H a = some (.dK kvs) → ∃ es ep, s.heap.get? a = some { cls := .type "dict", dict := none, data := .dict es ep, slots := #[] } := by
    intro a kvs e
    obtain ⟨_, vs, _, o, es, ep, ho, ⟨e1, e2, e3⟩, hd, _⟩ := dk_reads I e
    obtain ⟨oc, od, dt, sl⟩ := o
    dsimp only at e1 e2 e3 hd
    subst e1 e2 e3 hd
    exact ⟨es, ep, ho⟩
  cases h with
  | dct0 e _ =>
    cases r
    obtain ⟨es, ep, ho⟩ := key e
    exact ⟨_, es, ep, rfl, ho⟩
  | dct1 e _ =>
    cases r
    obtain ⟨es, ep, ho⟩ := key e
    exact ⟨_, es, ep, rfl, ho⟩
theorem Dd.strEq (I : Inv X pins σ H s) (hu : A.units < cLine) {d : PyData} {v : V} {u : Value} (h : Dd X.K H N v d) (r : RelV v u) (b : Str) (t : Tok) :
    SeqAt.EqAt A s (.str b t) u (isStr d b) := by
  cases d with
  | none =>
    cases h
    cases r
    exact .str_none b t
  | bool k =>
    cases h
    cases r
    exact .str_bool b t k
  | int i =>
    cases h
    obtain ⟨t2, rfl⟩ := r
    exact .str_int b t i t2
  | str x =>
    cases h
    obtain ⟨t2, rfl⟩ := r
    have e := SeqAt.EqAt.str_str (A := A) (s := s) b t x t2
    have e2 : isStr (.str x) b = (b == x) := by
      show (x == b) = (b == x)
      exact Bool.eq_iff_iff.mpr ⟨fun z => by rw [eq_of_beq z] <;> exact beq_self_eq_true _, fun z => by rw [eq_of_beq z] <;> exact beq_self_eq_true _⟩
    rw [e2]
    exact e
  | list ds =>
    cases h with
    | lst e n g k =>
    cases r
    obtain ⟨its, _, pl, _⟩ := I.list (SqL.of e)
    exact .str_list b t pl.isList hu
  | tuple ds =>
    cases h with
    | tup e k =>
    cases r
    obtain ⟨its, _, pl, _⟩ := I.tuple e
    exact .str_tuple b t pl hu
  | dict ks =>
    obtain ⟨a, es, ep, rfl, ho⟩ := Dd.dictAt I h r
    exact eq_str_dict b t ho hu
end
end Gd
end

section
set_option Elab.async false
set_option linter.all false
set_option maxRecDepth 100000
set_option maxHeartbeats 4000000
namespace Gd
open PySem PySem.Spec PyProof.Rows L2

section
variable {X : Cx}
/-- data == a text -/
def rEqS (K : PySem.W.Frag) : R2 := fun x y H Q => ∃ (N : Addr → Prop) (d : PyData) (b : Str), Dd K H N x d ∧ y = .str b ∧ Q (.bl (isStr d b)) H
theorem op_eqS (hu : X.A.units < cLine) : OpR X (compareOp .Eq) (rEqS X.K) := by
  intro pins s σ H x y v u Q I rx ry h
  obtain ⟨N, d, b, h, rfl, q⟩ := h
  obtain ⟨t, rfl⟩ := ry
  have fin : EP X pins σ Q (.bool (isStr d b)) s := ⟨.bl _, H, I, rfl, q⟩
  cases d with
  | none =>
    cases h
    cases rx
    exact SeqAt.RcAt.none_str b t _ _ _ _ fin
  | bool k =>
    cases h
    cases rx
    exact SeqAt.RcAt.bool_str k b t _ _ _ _ fin
  | int i =>
    cases h
    obtain ⟨t2, rfl⟩ := rx
    exact SeqAt.RcAt.int_str i t2 b t _ _ _ _ fin
  | str z =>
    cases h
    obtain ⟨t2, rfl⟩ := rx
    exact SeqAt.RcAt.str_str z t2 b t _ _ _ _ fin
  | list ds =>
    cases h with
    | lst e n g k =>
    cases rx
    obtain ⟨its, _, pl, _⟩ := I.list (SqL.of e)
    exact SeqAt.RcAt.list_str b t pl.isList hu _ _ _ _ fin
  | tuple ds =>
    cases h with
    | tup e k =>
    cases rx
    obtain ⟨its, _, pl, _⟩ := I.tuple e
    exact SeqAt.RcAt.tuple_str b t pl hu _ _ _ _ fin
  | dict ks =>
    obtain ⟨a, es, ep, rfl, ho⟩ := Dd.dictAt I h rx
    exact rc_dict_str b t ho hu _ _ _ _ fin

/-- data not in a tuple of texts -/
def rNiS (K : PySem.W.Frag) : R2 := fun x y H Q => ∃ (N : Addr → Prop) (d : PyData) (p : Addr) (bs : List Str), Dd K H N x d ∧ y = .ref p ∧ SqT K H p (bs.map V.str) ∧ Q (.bl (!bs.any (isStr d))) H
def hitS (d : PyData) : Value → Bool
  | .str b _ => isStr d b
  | _ => false
theorem hits {d : PyData} : ∀ {bs : List Str} {us : List Value}, Vals (bs.map V.str) us → us.any (hitS d) = bs.any (isStr d) ∧ ∀ u ∈ us, ∃ b t, u = .str b t
  | [], _, h => by
    cases h
    exact ⟨rfl, nofun⟩
  | b :: bs, _, h => by
    cases h with
    | cons r rs =>
    obtain ⟨t, rfl⟩ := r
    obtain ⟨e, f⟩ := hits rs
    refine ⟨?_, fun u m => ?_⟩
    · rw [List.any_cons, List.any_cons, e]
      rfl
    · rcases List.mem_cons.mp m with rfl | m
      · exact ⟨b, t, rfl⟩
      · exact f u m
theorem op_notInS (hu : X.A.units + 1 < cLine) : OpR X (compareOp .NotIn) (rNiS X.K) := by
  intro pins s σ H x y v u Q I rx ry h
  obtain ⟨N, d, p, bs, hd, rfl, hp, q⟩ := h
  cases ry
  obtain ⟨its, r, pl, _⟩ := I.tuple hp
  obtain ⟨e, f⟩ := hits (d := d) r
  refine SeqAt.notIn_tupleAt (hitS d) pl (fun w hw => ?_) ⟨.bl _, H, I, rfl, ?_⟩
  · obtain ⟨b, t, rfl⟩ := f w (by simpa using hw)
    exact Dd.strEq I (by show X.A.units + 1 < cLine; exact hu) hd rx b t
  · rw [show its.toArray.any (hitS d) = its.any (hitS d) by simp, e]
    exact q
/-- a tuple == () -/
def rEqT0 (K : PySem.W.Frag) : R2 := fun x y H Q => ∃ a b xs, x = .ref a ∧ y = .ref b ∧ SqT K H a xs ∧ SqT K H b [] ∧ Q (.bl xs.isEmpty) H
theorem op_eqT0 (hu : X.A.units < cLine) : OpR X (compareOp .Eq) (rEqT0 X.K) := by
  intro pins s σ H x y v u Q I rx ry h
  obtain ⟨a, b, xs, rfl, rfl, ha, hb, q⟩ := h
  cases rx
  cases ry
  obtain ⟨its, r, pl, _⟩ := I.tuple ha
  obtain ⟨its2, r2, pl2, _⟩ := I.tuple hb
  cases r2
  have e : ((List.range (min its.toArray.size (#[] : Array Value).size)).all (fun _ => true) && its.toArray.size == (#[] : Array Value).size) = xs.isEmpty := by
    cases r with
    | nil => rfl
    | cons _ _ => simp
  refine SeqAt.RcAt.tuples (e := fun _ => true) pl pl2 hu (fun j _ h2 => absurd h2 (by simp)) _ _ _ _ ⟨.bl _, H, I, rfl, ?_⟩
  rw [e]
  exact q
end

/-! t[::-1] -/
section
variable {prog : Program} {w : World} {A : Around} {E : Value → Shared → Prop} {s : Shared}
theorem places_rev (n : Nat) : Builtin.Slice.slicePlaces ((n : Int) - 1) (-1) (-1) = n := by
  unfold Builtin.Slice.slicePlaces
  rw [if_neg (by decide)]
  split
  · rw [show (-(-1) : Int) = 1 by decide, Int.ediv_one]
    omega
  · omega
theorem pick_rev (xs : Array Value) : ((List.range xs.size).filterMap fun (k : Nat) => xs[(((xs.size : Int) - 1) + (k : Int) * (-1)).toNat]?).toArray = xs.toList.reverse.toArray := by
  have e : (List.range xs.size).filterMap (fun (k : Nat) => xs[(((xs.size : Int) - 1) + (k : Int) * (-1)).toNat]?) =
      ((List.range xs.size).map fun k => xs.size - 1 - k).filterMap (xs[·]?) := by
    rw [List.filterMap_map]
    refine congrArg (fun f => List.filterMap f (List.range xs.size)) (funext fun k => ?_)
    show xs[(((xs.size : Int) - 1) + (k : Int) * (-1)).toNat]? = xs[xs.size - 1 - k]?
    rw [show (((xs.size : Int) - 1) + (k : Int) * (-1)).toNat = xs.size - 1 - k by omega]
  rw [e, PySem.W.krv_range, List.filterMap_reverse, PySem.W.krv_all]
theorem applied_rev {sl : Addr} {vs : Value} {n : Nat} {Q : Int × Int × Nat → Shared → Prop} (hs : s.heap.IsSliceOf sl .none .none vs) (ps : IsPart vs (some (-1)))
    (h : Q ((n : Int) - 1, -1, n) s) : wpAny (model prog w) A (Builtin.Slice.sliceApplied (.ref sl) (pure (n : Int))) Q E s := by
  obtain ⟨os, hos, hcs, hds⟩ := id hs
  unfold Builtin.Slice.sliceApplied Builtin.Slice.sliceFields
  refine wpAny_bind (wpAny_bind (wpAny_field hos hds (x := .none) rfl ?_))
  refine wpAny_bind (wpAny_field hos hds (x := .none) rfl (wpAny_bind (wpAny_field hos hds (x := vs) rfl (wpAny_pure ?_))))
  refine wpAny_bind (HT.slicePart_ ps ?_)
  show wpAny _ _ (if ((-1 : Int) == 0) = true then _ else _) _ _ s
  rw [if_neg (by decide)]
  refine wpAny_bind (slicePart_none (wpAny_bind (slicePart_none (wpAny_bind (wpAny_pure ?_)))))
  show wpAny _ _ (pure ((n : Int) - 1, (-1 : Int), Builtin.Slice.slicePlaces ((n : Int) - 1) (-1) (-1))) _ _ s
  rw [places_rev]
  exact wpAny_pure h
theorem get_rev {t sl : Addr} {items : Array Value} {vs : Value} {Q : Value → Shared → Prop} (ht : IsTup s.heap t items) (hs : s.heap.IsSliceOf sl .none .none vs) (ps : IsPart vs (some (-1)))
    (h : Q (.ref s.heap.objs.size) { s with heap := s.heap.push { cls := .type "tuple", data := .seq items.toList.reverse.toArray } })
    (hz : items.size ≤ sizeLine) : wpAny (model prog w) A (getItem (.ref t) (.ref sl)) Q E s := by
  have ok : sizeOk (.seq items.toList.reverse.toArray) := by
    show items.toList.reverse.toArray.size ≤ sizeLine
    simpa using hz
  obtain ⟨os, hos, hcs, hds⟩ := id hs
  have hT : s.TypeIs (.ref sl) "slice" := ⟨os, hos, hcs⟩
  unfold getItem
  try with_reducible refine wpAny_holding ?_
  refine wpAny_bind (wpAny_sequenceKey ht.typeIs (by decide) ?_)
  refine wpAny_bind (wpAny_callSpecial?_slot (name := Str.ofString "__getitem__") ht.typeIs PyProof.Rows.slot_tuple_getitem
    (wpAny_call_entry PyProof.Rows.slot_tuple_getitem ht.typeIs entry_tuple_getitem ?_ (args_tuple_getitem _ _)))
  show wpAny _ _ (Builtin.Tuple.tupleItemsOf (.ref t) >>= _) _ _ s
  refine wpAny_bind (PyProof.Rows.tupleItemsOf_ ht (wpAny_bind (wpAny_typeOf hT ?_)))
  rw [if_pos (by decide)]
  refine wpAny_bind (applied_rev hs ps ?_)
  have no : ¬ ((((items.size : Int) - 1) == 0 && (-1 : Int) == 1 && items.size == items.size) = true) := by simp
  show wpAny _ _ (if (((items.size : Int) - 1) == 0 && (-1 : Int) == 1 && items.size == items.size) = true then _ else _) _ _ s
  rw [if_neg no, pick_rev]
  first
    | exact wpAny_bind (m := Builtin.Tuple.tupleExact _) (wpAny_newObj_type (wpAny_pure ⟨_, rfl, wpAny_pure h⟩) ok)
    | exact wpAny_bind (m := Builtin.Tuple.tupleExact _) (wpAny_newObj_type (wpAny_bind (wpAny_pure (wpAny_pure ⟨_, rfl, wpAny_pure h⟩))) ok)
    | exact wpAny_bind (wpAny_bind (m := Builtin.Tuple.tupleExact _) (wpAny_newObj_type (wpAny_pure (wpAny_pure ⟨_, rfl, wpAny_pure h⟩)) ok))
    | exact wpAny_bind (wpAny_bind (m := Builtin.Tuple.tupleExact _) (wpAny_newObj_type (wpAny_pure ⟨_, rfl, wpAny_pure h⟩) ok))
end
section
variable {X : Cx}
def tRevT (K : PySem.W.Frag) (te : TE) : TE := fun σ H Q => te σ H fun x H1 => ∃ a xs, x = .ref a ∧ SqT K H1 a xs ∧ ∀ p, H1 p = none → Q (.ref p) (upd H1 p (.tup xs.reverse))
theorem pe_revT {e : Expr} {te : TE} {k : Nat} {p1 p2 p3 pos : Pos} (he : PE X e te) :
    PE X (.Subscript e (.Slice none none (some (.UnaryOp .USub (.Constant (.int 1) k p1) p2)) p3) pos) (tRevT X.K te) := by
  constructor
  intro pins s σ H Q I h
  refine Subscript_ (thn (he.run pins s σ H _ I h) ?_)
  rintro v s1 ⟨x, H1, I1, r1, a, xs, rfl, hx, q⟩
  cases r1
  have hst : PO X (some (.UnaryOp .USub (.Constant (.int 1) k p1) p2)) (tPart (tUn (rU fun i => .int (-i)) (tC (.int 1)))) := po_some (pe_un un_neg pe_int)
  refine wpAny_Slice (thn (po_none.run pins s1 σ H1 (fun o H2 => o = none ∧ H2 = H1) I1 ⟨rfl, rfl⟩) ?_)
  rintro vl s2 ⟨l, H2, I2, pl, rfl, rfl⟩
  refine thn (po_none.run pins s2 σ H2 (fun o H3 => o = none ∧ H3 = H2) I2 ⟨rfl, rfl⟩) ?_
  rintro vu s3 ⟨u, H3, I3, pu, rfl, rfl⟩
  refine thn (hst.run pins s3 σ H3 (fun o H4 => o = some (-1) ∧ H4 = H3) I3 ⟨1, rfl, -1, rfl, rfl, rfl⟩) ?_
  rintro vs s4 ⟨o, H4, I4, ps, rfl, rfl⟩
  cases pl
  cases pu
  have J : Inv X pins σ H4 { s4 with heap := s4.heap.push { cls := .type "slice", data := .fields #[.none, .none, vs] } } := I4.kept (t' := s4.toks) fun b ob z => Heap.get?_push_of_some _ z
  obtain ⟨its, r, ht, hz⟩ := J.tuple hx
  have hlen := r.length
  refine tail_any (ops := [.ref a, .ref s4.heap.objs.size]) ht.typeIs (PyProof.Rows.slot_tuple_getitem.lookup) ?_ (by with_unfolding_all rfl)
  refine get_rev ht (Heap.IsSliceOf.new _ .none .none vs) ps ?_ (by rw [List.size_toArray]; omega)
  refine ⟨.ref _, _, J.laid (t' := s4.toks) (o := .tup xs.reverse) (fun b ob z => Heap.get?_push_of_some _ z) (Nat.le_refl _) ?_, rfl, q _ (J.hok.fresh (Nat.le_refl _))⟩
  exact ⟨by rw [List.length_reverse]; exact hz, _, r.reverse, IsTup.new _ _⟩
end
end Gd
end

section
set_option Elab.async false
set_option linter.all false
set_option maxRecDepth 100000
set_option maxHeartbeats 4000000
/-! Data with lists and with dicts of text and number keys, any depth; what is not in it: the addresses of N. -/
namespace Gd
open PySem PySem.Spec PyProof.Rows L2

mutual
inductive Dg (K : PySem.W.Frag) (H : Hp) (N : Addr → Prop) : V → PyData → Prop
  | non : Dg K H N .non .none
  | bl (b : Bool) : Dg K H N (.bl b) (.bool b)
  | int (i : Int) : Dg K H N (.int i) (.int i)
  | str (x : Str) : Dg K H N (.str x) (.str x)
  | lst {a : Addr} {xs : List V} {ds : List PyData} : H a = some (.lst xs) → ¬ N a → a ≠ sysModules → DgAll K H N xs ds → Dg K H N (.ref a) (.list ds)
  | tup {a : Addr} {xs : List V} {ds : List PyData} : SqT K H a xs → DgAll K H N xs ds → Dg K H N (.ref a) (.tuple ds)
  | dct {a : Addr} {kvs : List (Key × V)} {ps : List (PyData × PyData)} : H a = some (.dK kvs) → ¬ N a → DgKv K H N kvs ps → Dg K H N (.ref a) (.dict ps)
inductive DgAll (K : PySem.W.Frag) (H : Hp) (N : Addr → Prop) : List V → List PyData → Prop
  | nil : DgAll K H N [] []
  | cons {v : V} {vs : List V} {d : PyData} {ds : List PyData} : Dg K H N v d → DgAll K H N vs ds → DgAll K H N (v :: vs) (d :: ds)
inductive DgKv (K : PySem.W.Frag) (H : Hp) (N : Addr → Prop) : List (Key × V) → List (PyData × PyData) → Prop
  | nil : DgKv K H N [] []
  | consS {x : Str} {v : V} {kvs : List (Key × V)} {d : PyData} {ps : List (PyData × PyData)} : Dg K H N v d → DgKv K H N kvs ps → DgKv K H N ((Sum.inr x, v) :: kvs) ((.str x, d) :: ps)
  | consI {i : Int} {v : V} {kvs : List (Key × V)} {d : PyData} {ps : List (PyData × PyData)} : Dg K H N v d → DgKv K H N kvs ps → DgKv K H N ((Sum.inl i, v) :: kvs) ((.int i, d) :: ps)
end

section
variable {K : PySem.W.Frag} {H H' : Hp} {N N' : Addr → Prop}
mutual
theorem Dg.stay (t : Tups K H H') (x : ∀ a o, ¬ N a → H a = some o → H' a = some o) (m : ∀ a, N' a → N a) : ∀ (d : PyData) {v : V}, Dg K H N v d → Dg K H' N' v d
  | .none, _, h => by cases h; exact .non
  | .bool _, _, h => by cases h; exact .bl _
  | .int _, _, h => by cases h; exact .int _
  | .str _, _, h => by cases h; exact .str _
  | .tuple ds, _, h => by
    cases h with
    | tup a b => exact .tup (t _ _ a) (DgAll.stay t x m ds b)
  | .list ds, _, h => by
    cases h with
    | lst a n g b => exact .lst (x _ _ n a) (fun z => n (m _ z)) g (DgAll.stay t x m ds b)
  | .dict ps, _, h => by
    cases h with
    | dct a n b => exact .dct (x _ _ n a) (fun z => n (m _ z)) (DgKv.stay t x m ps b)
theorem DgAll.stay (t : Tups K H H') (x : ∀ a o, ¬ N a → H a = some o → H' a = some o) (m : ∀ a, N' a → N a) : ∀ (ds : List PyData) {vs : List V}, DgAll K H N vs ds → DgAll K H' N' vs ds
  | [], _, h => by cases h; exact .nil
  | d :: ds, _, h => by
    cases h with
    | cons a b => exact .cons (Dg.stay t x m d a) (DgAll.stay t x m ds b)
theorem DgKv.stay (t : Tups K H H') (x : ∀ a o, ¬ N a → H a = some o → H' a = some o) (m : ∀ a, N' a → N a) : ∀ (ps : List (PyData × PyData)) {kvs : List (Key × V)}, DgKv K H N kvs ps → DgKv K H' N' kvs ps
  | [], _, h => by cases h; exact .nil
  | (_, d) :: ps, _, h => by
    cases h with
    | consS a b => exact .consS (Dg.stay t x m d a) (DgKv.stay t x m ps b)
    | consI a b => exact .consI (Dg.stay t x m d a) (DgKv.stay t x m ps b)
end
theorem Dg.same {v : V} {d : PyData} (s : Same H H') (h : Dg K H N v d) : Dg K H' N v d := Dg.stay (Tups.of_same s) (fun a o _ e => s a o e) (fun _ z => z) d h
theorem DgAll.same {vs : List V} {ds : List PyData} (s : Same H H') (h : DgAll K H N vs ds) : DgAll K H' N vs ds := DgAll.stay (Tups.of_same s) (fun a o _ e => s a o e) (fun _ z => z) ds h
theorem Dg.free {v : V} {d : PyData} (h : Dg K H N v d) : Dg K H (fun _ => False) v d := Dg.stay .refl (fun a o _ e => e) (fun _ z => z.elim) d h
theorem DgAll.free {vs : List V} {ds : List PyData} (h : DgAll K H N vs ds) : DgAll K H (fun _ => False) vs ds := DgAll.stay .refl (fun a o _ e => e) (fun _ z => z.elim) ds h
/-- behind a draw -/
theorem Dg.drawn {p : Addr} {ys : List V} {v : V} {d : PyData} (e : H p = some (.lst ys)) (x : Ex1 p H H') (h : Dg K H (· = p) v d) : Dg K H' (· = p) v d :=
  Dg.stay (x.tups e) (fun a o n q => x a o n q) (fun _ z => z) d h
theorem DgAll.drawn {p : Addr} {ys : List V} {vs : List V} {ds : List PyData} (e : H p = some (.lst ys)) (x : Ex1 p H H') (h : DgAll K H (· = p) vs ds) : DgAll K H' (· = p) vs ds :=
  DgAll.stay (x.tups e) (fun a o n q => x a o n q) (fun _ z => z) ds h
mutual
/-- what is new is not in it -/
theorem Dg.shun {q : Addr} (n : H q = none) : ∀ (d : PyData) {v : V}, Dg K H N v d → Dg K H (fun a => N a ∨ a = q) v d
  | .none, _, h => by cases h; exact .non
  | .bool _, _, h => by cases h; exact .bl _
  | .int _, _, h => by cases h; exact .int _
  | .str _, _, h => by cases h; exact .str _
  | .tuple ds, _, h => by
    cases h with
    | tup a b => exact .tup a (DgAll.shun n ds b)
  | .list ds, _, h => by
    cases h with
    | lst a m g b => exact .lst a (fun z => z.elim m (fun z => by rw [z, n] at a; cases a)) g (DgAll.shun n ds b)
  | .dict ps, _, h => by
    cases h with
    | dct a m b => exact .dct a (fun z => z.elim m (fun z => by rw [z, n] at a; cases a)) (DgKv.shun n ps b)
theorem DgAll.shun {q : Addr} (n : H q = none) : ∀ (ds : List PyData) {vs : List V}, DgAll K H N vs ds → DgAll K H (fun a => N a ∨ a = q) vs ds
  | [], _, h => by cases h; exact .nil
  | d :: ds, _, h => by
    cases h with
    | cons a b => exact .cons (Dg.shun n d a) (DgAll.shun n ds b)
theorem DgKv.shun {q : Addr} (n : H q = none) : ∀ (ps : List (PyData × PyData)) {kvs : List (Key × V)}, DgKv K H N kvs ps → DgKv K H (fun a => N a ∨ a = q) kvs ps
  | [], _, h => by cases h; exact .nil
  | (_, d) :: ps, _, h => by
    cases h with
    | consS a b => exact .consS (Dg.shun n d a) (DgKv.shun n ps b)
    | consI a b => exact .consI (Dg.shun n d a) (DgKv.shun n ps b)
end
theorem DgAll.len : ∀ {vs : List V} {ds : List PyData}, DgAll K H N vs ds → vs.length = ds.length
  | _, _, .nil => rfl
  | _, _, .cons _ b => congrArg (· + 1) (DgAll.len b)
theorem DgAll.at_ : ∀ {vs : List V} {ds : List PyData} {i : Nat} {v : V}, DgAll K H N vs ds → vs[i]? = some v → ∃ d, ds[i]? = some d ∧ Dg K H N v d
  | _, _, _, _, .nil, e => by simp at e
  | _, _, 0, _, .cons a _, e => by
    cases Option.some.inj e
    exact ⟨_, rfl, a⟩
  | _, _, i + 1, _, .cons _ b, e => DgAll.at_ (i := i) b e
theorem DgAll.app : ∀ {vs us : List V} {ds es : List PyData}, DgAll K H N vs ds → DgAll K H N us es → DgAll K H N (vs ++ us) (ds ++ es)
  | _, _, _, _, .nil, h => h
  | _, _, _, _, .cons a b, h => .cons a (DgAll.app b h)
theorem DgAll.take : ∀ {vs : List V} {ds : List PyData}, DgAll K H N vs ds → ∀ i : Nat, DgAll K H N (vs.take i) (ds.take i)
  | _, _, .nil, i => by rw [List.take_nil, List.take_nil]; exact .nil
  | _, _, .cons _ _, 0 => .nil
  | _, _, .cons a b, i + 1 => .cons a (DgAll.take b i)
theorem DgAll.drop : ∀ {vs : List V} {ds : List PyData}, DgAll K H N vs ds → ∀ i : Nat, DgAll K H N (vs.drop i) (ds.drop i)
  | _, _, .nil, i => by rw [List.drop_nil, List.drop_nil]; exact .nil
  | _, _, .cons a b, 0 => .cons a b
  | _, _, .cons a b, i + 1 => DgAll.drop b i
theorem DgAll.rev : ∀ {vs : List V} {ds : List PyData}, DgAll K H N vs ds → DgAll K H N vs.reverse ds.reverse
  | _, _, .nil => .nil
  | _, _, .cons a b => by
    rw [List.reverse_cons, List.reverse_cons]
    exact DgAll.app (DgAll.rev b) (.cons a .nil)
mutual
theorem Dg.ofDp : ∀ (d : PyData) {v : V}, tupOnly d = true → Dp K H v d → Dg K H N v d
  | .none, _, _, h => by cases h; exact .non
  | .bool _, _, _, h => by cases h; exact .bl _
  | .int _, _, _, h => by cases h; exact .int _
  | .str _, _, _, h => by cases h; exact .str _
  | .tuple ds, _, o, h => by
    cases h with
    | tup a b =>
      simp only [tupOnly, Bool.and_eq_true] at o
      exact .tup a (DgAll.ofDp ds o.2 b)
  | .list _, _, o, _ => by simp [tupOnly] at o
  | .dict _, _, o, _ => by simp [tupOnly] at o
theorem DgAll.ofDp : ∀ (ds : List PyData) {vs : List V}, tupOnlyAll ds = true → DpAll K H vs ds → DgAll K H N vs ds
  | [], _, _, h => by cases h; exact .nil
  | d :: ds, _, o, h => by
    simp only [tupOnlyAll, Bool.and_eq_true] at o
    cases h with
    | cons a b => exact .cons (Dg.ofDp d o.1 a) (DgAll.ofDp ds o.2 b)
end
theorem Dg.kind {v : V} {d : PyData} (h : Dg K H N v d) : TyX K H v (.type (kindN d)) := by
  cases h with
  | non => exact .base .non
  | bl b => exact .base (.bl b)
  | int i => exact .base (.int i)
  | str x => exact .base (.str x)
  | lst e _ _ _ => exact .base (.lst e)
  | dct e _ _ => exact .base (.dK e)
  | tup a _ =>
    rcases a with (a | ⟨z, a⟩) | ⟨z, its, n, a, c, _⟩
    · exact .base (.tup a)
    · exact .fTuple a
    · exact .kTuple a c
end
section
variable {X : Cx} {pins : List (Addr × Obj)} {σ : L2.St} {H : Hp} {s : Shared} {N : Addr → Prop}
mutual
theorem Dg.reads (I : Inv X pins σ H s) : ∀ (d : PyData) (v : V) (u : Value), Dg X.K H N v d → RelV v u → ∃ as, Reads s.heap u d as ∧ sysModules ∉ as
  | .none, _, _, h, r => by
    cases h
    cases r
    exact ⟨[], .none, nofun⟩
  | .bool b, _, _, h, r => by
    cases h
    cases r
    exact ⟨[], .bool b, nofun⟩
  | .int i, _, _, h, r => by
    cases h
    obtain ⟨t, rfl⟩ := r
    exact ⟨[], .int i t, nofun⟩
  | .str x, _, _, h, r => by
    cases h
    obtain ⟨t, rfl⟩ := r
    exact ⟨[], .str x t, nofun⟩
  | .list ds, _, _, h, r => by
    cases h with
    | lst hs _ g ha =>
      cases r
      obtain ⟨its, rv, pl, _⟩ := I.list (SqL.of hs)
      obtain ⟨o, n, ho, hc, _, hd⟩ := pl
      obtain ⟨as, hr, hn⟩ := Dg.readsAll I ds _ its ha rv
      refine ⟨_, .list ho hc hd hr, fun m => ?_⟩
      rcases List.mem_cons.mp m with m | m
      · exact g m.symm
      · exact hn m
  | .tuple ds, _, _, h, r => by
    cases h with
    | tup hs ha =>
      cases r
      obtain ⟨its, rv, pl, _⟩ := I.tuple hs
      obtain ⟨o, ho, hc, n, hd⟩ := pl
      obtain ⟨as, hr, hn⟩ := Dg.readsAll I ds _ its ha rv
      exact ⟨as, .tuple ho hc hd hr, hn⟩
  | .dict qs, _, _, h, r => by
    cases h with
    | dct e _ hk =>
      cases r
      obtain ⟨g, vs, kv, o, es, ep, ho, ex, hd, ks, ps, _⟩ := dk_reads I e
      obtain ⟨as, bs, ra, rb, na, nb⟩ := Dg.readsKv I qs _ vs es.toList hk kv ps
      refine ⟨_, .dict ho ex.1 hd ra rb, fun m => ?_⟩
      rw [List.cons_append] at m
      rcases List.mem_cons.mp m with m | m
      · rw [← m] at g
        simp at g
      · rcases List.mem_append.mp m with m | m
        · exact na m
        · exact nb m
theorem Dg.readsAll (I : Inv X pins σ H s) : ∀ (ds : List PyData) (vs : List V) (us : List Value), DgAll X.K H N vs ds → Vals vs us → ∃ as, ReadsAll s.heap us ds as ∧ sysModules ∉ as
  | [], _, _, h, r => by
    cases h
    cases r
    exact ⟨[], .nil, nofun⟩
  | d :: ds, _, _, h, r => by
    cases h with
    | cons h1 h2 =>
      cases r with
      | cons r1 r2 =>
        obtain ⟨as, q1, n1⟩ := Dg.reads I d _ _ h1 r1
        obtain ⟨bs, q2, n2⟩ := Dg.readsAll I ds _ _ h2 r2
        exact ⟨as ++ bs, .cons q1 q2, fun m => (List.mem_append.mp m).elim n1 n2⟩
theorem Dg.readsKv (I : Inv X pins σ H s) : ∀ (qs : List (PyData × PyData)) (kvs : List (Key × V)) (vs : List (Key × Value)) (es : List DictEntry), DgKv X.K H N kvs qs → KV kvs vs → Pairs (mixKind X.prog X.w) es vs →
    ∃ as bs, ReadsAll s.heap (es.map (·.key)) (qs.map (·.1)) as ∧ ReadsAll s.heap (es.map (·.val)) (qs.map (·.2)) bs ∧ sysModules ∉ as ∧ sysModules ∉ bs
  | [], _, _, _, h, r, p => by
    cases h
    cases r
    cases p
    exact ⟨[], [], .nil, .nil, nofun, nofun⟩
  | (_, d) :: qs, _, _, _, h, r, p => by
    cases h with
    | @consS x v kvs _ _ h1 h2 =>
      cases r with
      | @cons _ q _ _ r1 r2 =>
      obtain ⟨qk, qv⟩ := q
      obtain ⟨rk, rv⟩ := r1
      dsimp only at rk rv
      subst rk
      cases p with
      | @cons z _ _ _ p1 p2 p3 =>
      obtain ⟨tk, ek⟩ : ∃ tk, z.key = .str x tk := by
        have p1 : keyIs (Sum.inr x) z.key = true := p1
        rcases keyIs_shape p1 with ⟨i, t, h1, h2⟩ | ⟨y, t, h1, h2⟩
        · cases h1
        · cases h1
          exact ⟨t, h2⟩
      obtain ⟨as0, q1, n1⟩ := Dg.reads I d _ _ h1 rv
      obtain ⟨as, bs, q2, q3, n2, n3⟩ := Dg.readsKv I qs _ _ _ h2 r2 p3
      refine ⟨[] ++ as, as0 ++ bs, ?_, ?_, n2, fun m => (List.mem_append.mp m).elim n1 n3⟩
      · show ReadsAll s.heap (z.key :: _) (.str x :: _) _
        rw [ek]
        exact .cons (.str x tk) q2
      · show ReadsAll s.heap (z.val :: _) (d :: _) _
        rw [p2]
        exact .cons q1 q3
    | @consI x v kvs _ _ h1 h2 =>
      cases r with
      | @cons _ q _ _ r1 r2 =>
      obtain ⟨qk, qv⟩ := q
      obtain ⟨rk, rv⟩ := r1
      dsimp only at rk rv
      subst rk
      cases p with
      | @cons z _ _ _ p1 p2 p3 =>
      obtain ⟨tk, ek⟩ : ∃ tk, z.key = .int x tk := by
        have p1 : keyIs (Sum.inl x) z.key = true := p1
        rcases keyIs_shape p1 with ⟨i, t, h1, h2⟩ | ⟨y, t, h1, h2⟩
        · cases h1
          exact ⟨t, h2⟩
        · cases h1
      obtain ⟨as0, q1, n1⟩ := Dg.reads I d _ _ h1 rv
      obtain ⟨as, bs, q2, q3, n2, n3⟩ := Dg.readsKv I qs _ _ _ h2 r2 p3
      refine ⟨[] ++ as, as0 ++ bs, ?_, ?_, n2, fun m => (List.mem_append.mp m).elim n1 n3⟩
      · show ReadsAll s.heap (z.key :: _) (.int x :: _) _
        rw [ek]
        exact .cons (.int x tk) q2
      · show ReadsAll s.heap (z.val :: _) (d :: _) _
        rw [p2]
        exact .cons q1 q3
end
/-- repr(x), x such data -/
def rReprG (K : PySem.W.Frag) : List V → Hp → VK → Prop := fun xs H Q =>
  ∃ (x : V) (d : PyData) (N : Addr → Prop), xs = [x] ∧ Dg K H N x d ∧ d.showable = true ∧ d.shown.length ≤ sizeLine ∧ d.depth ≤ 60 ∧ Q (.str d.shown) H
theorem call_reprG (g : Free X.A) (hu : X.A.units + 64 < cLine) : CallR X (.builtin "repr") (rReprG X.K) := by
  intro pins s σ H xs us Q I r h
  obtain ⟨x, d, N, rfl, hd, hs, hz, hdp, q⟩ := h
  obtain ⟨u, rfl, ru⟩ := r.one
  obtain ⟨as, rd, hn⟩ := Dg.reads I d x u hd ru
  have fin : ∀ (h' : Heap) (tk tk' : Nat), (∀ b o, s.heap.get? b = some o → h'.get? b = some o) →
      EP X pins σ Q (.str d.shown tk) { s with heap := h', toks := tk' } :=
    fun h' tk tk' k => ⟨.str d.shown, H, I.kept k, ⟨tk, rfl⟩, q⟩
  have fin0 : ∀ (tk tk' : Nat), EP X pins σ Q (.str d.shown tk) { s with toks := tk' } :=
    fun tk tk' => ⟨.str d.shown, H, I.tok tk', ⟨tk, rfl⟩, q⟩
  cases rd with
  | none => exact P.repr_of_none (fin0 _ _)
  | bool b => exact P.repr_of_bool (fin0 _ _)
  | int i t => exact P.repr_of_int (by simpa [PyData.showable] using hs) (fin0 _ _)
  | str z t => exact P.repr_of_str (fin0 _ _) hz
  | list h1 h2 h3 h4 =>
    exact repr_of_reads' (.list h1 h2 h3 h4) hs (fun _ => hn) g (by omega) (fun _ _ e => e) (fun h' u tk k => fin h' u tk k) hz
  | tuple h1 h2 h3 h4 =>
    exact repr_of_reads' (.tuple h1 h2 h3 h4) hs (fun _ => hn) g (by omega) (fun _ _ e => e) (fun h' u tk k => fin h' u tk k) hz
  | dict h1 h2 h3 h4 h5 =>
    exact repr_of_reads' (.dict h1 h2 h3 h4 h5) hs (fun _ => hn) g (by omega) (fun _ _ e => e) (fun h' u tk k => fin h' u tk k) hz
theorem Dg.dictAt (I : Inv X pins σ H s) {v : V} {u : Value} {ks : List (PyData × PyData)} (h : Dg X.K H N v (.dict ks)) (r : RelV v u) :
    ∃ d es ep, u = .ref d ∧ s.heap.get? d = some { cls := .type "dict", dict := none, data := .dict es ep, slots := #[] } := by
  have key : ∀ {a : Addr} {kvs : List (Key × V)}, H a = some (.dK kvs) → ∃ es ep, s.heap.get? a = some { cls := .type "dict", dict := none, data := .dict es ep, slots := #[] } := by
    intro a kvs e
    obtain ⟨_, vs, _, o, es, ep, ho, ⟨e1, e2, e3⟩, hd, _⟩ := dk_reads I e
    obtain ⟨oc, od, dt, sl⟩ := o
    dsimp only at e1 e2 e3 hd
    subst e1 e2 e3 hd
    exact ⟨es, ep, ho⟩
  cases h with
  | dct e _ _ =>
    cases r
    obtain ⟨es, ep, ho⟩ := key e
    exact ⟨_, es, ep, rfl, ho⟩
theorem Dg.strEq {A : Around} (I : Inv X pins σ H s) (hu : A.units < cLine) {d : PyData} {v : V} {u : Value} (h : Dg X.K H N v d) (r : RelV v u) (b : Str) (t : Tok) :
    SeqAt.EqAt A s (.str b t) u (isStr d b) := by
  cases d with
  | none =>
    cases h
    cases r
    exact .str_none b t
  | bool k =>
    cases h
    cases r
    exact .str_bool b t k
  | int i =>
    cases h
    obtain ⟨t2, rfl⟩ := r
    exact .str_int b t i t2
  | str x =>
    cases h
    obtain ⟨t2, rfl⟩ := r
    have e := SeqAt.EqAt.str_str (A := A) (s := s) b t x t2
    have e2 : isStr (.str x) b = (b == x) := by
      show (x == b) = (b == x)
      exact Bool.eq_iff_iff.mpr ⟨fun z => by rw [eq_of_beq z] <;> exact beq_self_eq_true _, fun z => by rw [eq_of_beq z] <;> exact beq_self_eq_true _⟩
    rw [e2]
    exact e
  | list ds =>
    cases h with
    | lst e n g k =>
    cases r
    obtain ⟨its, _, pl, _⟩ := I.list (SqL.of e)
    exact .str_list b t pl.isList hu
  | tuple ds =>
    cases h with
    | tup e k =>
    cases r
    obtain ⟨its, _, pl, _⟩ := I.tuple e
    exact .str_tuple b t pl hu
  | dict ks =>
    obtain ⟨a, es, ep, rfl, ho⟩ := Dg.dictAt I h r
    exact eq_str_dict b t ho hu
end
section
variable {X : Cx}
theorem rc_str (hu : X.A.units < cLine) {pins : List (Addr × Obj)} {σ : L2.St} {H : Hp} {s : Shared} {N : Addr → Prop} {v : V} {u : Value} {d : PyData} {b : Str} {t : Tok}
    (I : Inv X pins σ H s) (h : Dg X.K H N v d) (rx : RelV v u) : SeqAt.RcAt X.A s u (.str b t) (isStr d b) := by
  cases d with
  | none =>
    cases h
    cases rx
    exact SeqAt.RcAt.none_str b t
  | bool k =>
    cases h
    cases rx
    exact SeqAt.RcAt.bool_str k b t
  | int i =>
    cases h
    obtain ⟨t2, rfl⟩ := rx
    exact SeqAt.RcAt.int_str i t2 b t
  | str z =>
    cases h
    obtain ⟨t2, rfl⟩ := rx
    exact SeqAt.RcAt.str_str z t2 b t
  | list ds =>
    cases h with
    | lst e n g k =>
    cases rx
    obtain ⟨its, _, pl, _⟩ := I.list (SqL.of e)
    exact SeqAt.RcAt.list_str b t pl.isList hu
  | tuple ds =>
    cases h with
    | tup e k =>
    cases rx
    obtain ⟨its, _, pl, _⟩ := I.tuple e
    exact SeqAt.RcAt.tuple_str b t pl hu
  | dict ks =>
    obtain ⟨a, es, ep, rfl, ho⟩ := Dg.dictAt I h rx
    exact rc_dict_str b t ho hu
/-- data == a text -/
def rEqG (K : PySem.W.Frag) : R2 := fun x y H Q => ∃ (N : Addr → Prop) (d : PyData) (b : Str), Dg K H N x d ∧ y = .str b ∧ Q (.bl (isStr d b)) H
theorem op_eqG (hu : X.A.units < cLine) : OpR X (compareOp .Eq) (rEqG X.K) := by
  intro pins s σ H x y v u Q I rx ry h
  obtain ⟨N, d, b, h, rfl, q⟩ := h
  obtain ⟨t, rfl⟩ := ry
  have fin : EP X pins σ Q (.bool (isStr d b)) s := ⟨.bl _, H, I, rfl, q⟩
  exact rc_str hu I h rx _ _ _ _ fin
/-- data not in a tuple of texts -/
def rNiG (K : PySem.W.Frag) : R2 := fun x y H Q => ∃ (N : Addr → Prop) (d : PyData) (p : Addr) (bs : List Str), Dg K H N x d ∧ y = .ref p ∧ SqT K H p (bs.map V.str) ∧ Q (.bl (!bs.any (isStr d))) H
theorem op_notInG (hu : X.A.units + 1 < cLine) : OpR X (compareOp .NotIn) (rNiG X.K) := by
  intro pins s σ H x y v u Q I rx ry h
  obtain ⟨N, d, p, bs, hd, rfl, hp, q⟩ := h
  cases ry
  obtain ⟨its, r, pl, _⟩ := I.tuple hp
  obtain ⟨e, f⟩ := hits (d := d) r
  refine SeqAt.notIn_tupleAt (hitS d) pl (fun w hw => ?_) ⟨.bl _, H, I, rfl, ?_⟩
  · obtain ⟨b, t, rfl⟩ := f w (by simpa using hw)
    exact Dg.strEq I (by show X.A.units + 1 < cLine; exact hu) hd rx b t
  · rw [show its.toArray.any (hitS d) = its.any (hitS d) by simp, e]
    exact q
end
end Gd
end

section
set_option Elab.async false
set_option linter.all false
set_option maxRecDepth 100000
set_option maxHeartbeats 4000000
/-! Sources, their pairs, what ties them; links of an order. -/
namespace Gd
open PySem PySem.Spec PyProof.Rows L2
/-- a pair: its own column, the other's nick, that one's column -/
structure Pr where
  c : Str
  o : Str
  d : Str
deriving DecidableEq
structure Src where
  way : Str
  nick : Str
  table : Str
  pairs : List Pr
def prD (p : Pr) : PyData := .tuple [.str p.c, .str p.o, .str p.d]
def srcD (s : Src) : PyData := .tuple [.str s.way, .str s.nick, .str s.table, .tuple (s.pairs.map prD)]
def noSrc : Src := ⟨"", "", "", []⟩
def aliasAt (ss : List Src) (k : Nat) : Str := (ss.getD k noSrc).nick
/-- what one pair of a source gives -/
def tie1 (own : Str) (al : List Str) (s : Src) (p : Pr) : List Pr :=
  if decide (s.nick = own) && decide (p.o ∈ al) then [p] else if decide (p.o = own) && decide (s.nick ∈ al) then [⟨p.d, s.nick, p.c⟩] else []
def tieS (own : Str) (al : List Str) (s : Src) : List Pr := s.pairs.flatMap (tie1 own al s)
def tied (ss : List Src) (n : Nat) (js : List Nat) : List Pr := ss.flatMap (tieS (aliasAt ss n) (js.map (aliasAt ss)))
/-- the links of an order -/
def link1 (ss : List Src) (js : List Nat) (n : Nat) : List (Nat × Pr) := match tied ss n js with
  | [] => []
  | p :: _ => [(n, p)]
def linksA (ss : List Src) (order : List Nat) (i : Nat) : List (Nat × Pr) := (List.range i).flatMap fun k => link1 ss (order.take k) (order.getD k 0)
def link2 (ss : List Src) (n : Nat) : List (Nat × Pr) := match (ss.getD n noSrc).pairs with
  | [] => []
  | p :: _ => [(n, p)]
def linksB (ss : List Src) (m i : Nat) : List (Nat × Pr) := (List.range i).flatMap fun k => link2 ss (m + k)
def linksL (ss : List Src) (order : List Nat) : List (Nat × Pr) := linksA ss order order.length ++ linksB ss order.length (ss.length - order.length)
theorem linksA_succ {ss : List Src} {order : List Nat} {i : Nat} : linksA ss order (i + 1) = linksA ss order i ++ link1 ss (order.take i) (order.getD i 0) := by
  unfold linksA
  rw [List.range_succ, List.flatMap_append]
  simp
theorem linksB_succ {ss : List Src} {m i : Nat} : linksB ss m (i + 1) = linksB ss m i ++ link2 ss (m + i) := by
  unfold linksB
  rw [List.range_succ, List.flatMap_append]
  simp
theorem link1_nums {ss : List Src} {js : List Nat} {n : Nat} : ∀ x ∈ link1 ss js n, x.1 = n := by
  intro x hx
  unfold link1 at hx
  split at hx
  · cases hx
  · rw [List.mem_singleton.mp hx]
theorem link2_nums {ss : List Src} {n : Nat} : ∀ x ∈ link2 ss n, x.1 = n := by
  intro x hx
  unfold link2 at hx
  split at hx
  · cases hx
  · rw [List.mem_singleton.mp hx]
theorem linksA_nums {ss : List Src} {order : List Nat} : ∀ {i : Nat}, ∀ x ∈ linksA ss order i, ∃ k, k < i ∧ x.1 = order.getD k 0 := by
  intro i x hx
  unfold linksA at hx
  obtain ⟨k, hk, hx⟩ := List.mem_flatMap.mp hx
  exact ⟨k, List.mem_range.mp hk, link1_nums x hx⟩
theorem linksB_nums {ss : List Src} {m : Nat} : ∀ {i : Nat}, ∀ x ∈ linksB ss m i, m ≤ x.1 ∧ x.1 < m + i := by
  intro i x hx
  unfold linksB at hx
  obtain ⟨k, hk, hx⟩ := List.mem_flatMap.mp hx
  have := List.mem_range.mp hk
  rw [link2_nums x hx]
  omega
/-- well made: aliases unlike, each pair goes to a source of the first m ahead -/
structure Well (ss : List Src) (m : Nat) : Prop where
  le : m ≤ ss.length
  uniq : ∀ i j, i < ss.length → j < ss.length → aliasAt ss i = aliasAt ss j → i = j
  ahead : ∀ k, k < ss.length → ∀ p ∈ (ss.getD k noSrc).pairs, ∃ j, j < k ∧ j < m ∧ p.o = aliasAt ss j
theorem getD_mem' {α : Type} {l : List α} {i : Nat} {d : α} (h : i < l.length) : l.getD i d ∈ l := by
  rw [List.getD_eq_getElem?_getD, List.getElem?_eq_getElem h]
  exact List.getElem_mem h
theorem tied_of {ss : List Src} {n k : Nat} {js : List Nat} {p q : Pr} (hk : k < ss.length) (hp : p ∈ (ss.getD k noSrc).pairs) (h : q ∈ tie1 (aliasAt ss n) (js.map (aliasAt ss)) (ss.getD k noSrc) p) : tied ss n js ≠ [] := by
  intro e
  have : q ∈ tied ss n js := by
    unfold tied
    refine List.mem_flatMap.mpr ⟨ss.getD k noSrc, getD_mem' hk, ?_⟩
    exact List.mem_flatMap.mpr ⟨p, hp, h⟩
  rw [e] at this
  cases this
theorem link1_ne {ss : List Src} {js : List Nat} {n : Nat} (h : tied ss n js ≠ []) : link1 ss js n ≠ [] := by
  unfold link1
  split
  · rename_i e
    exact absurd e h
  · exact fun z => nomatch z
/-- an order of the first m has a link where some source has a pair -/
theorem links_some {ss : List Src} {m : Nat} {order : List Nat} (w : Well ss m) (hl : order.length = m) (hp : ∀ j, j < m → ∃ a, a < m ∧ order.getD a 0 = j) (hlt : ∀ a, a < m → order.getD a 0 < m)
    {k : Nat} (hk : k < ss.length) (h : (ss.getD k noSrc).pairs ≠ []) : linksL ss order ≠ [] := by
  obtain ⟨p, hpm⟩ : ∃ p, p ∈ (ss.getD k noSrc).pairs := by
    cases e : (ss.getD k noSrc).pairs with
    | nil => exact absurd e h
    | cons p _ => exact ⟨p, by simp⟩
  have wle := w.le
  intro e
  rw [linksL, List.append_eq_nil_iff] at e
  obtain ⟨e1, e2⟩ := e
  by_cases c : k < m
  · obtain ⟨j, jk, jm, po⟩ := w.ahead k hk p hpm
    obtain ⟨a, a1, a2⟩ := hp k c
    obtain ⟨b, b1, b2⟩ := hp j jm
    have none_at : ∀ i, i < order.length → link1 ss (order.take i) (order.getD i 0) = [] := fun i hi => by
      unfold linksA at e1
      exact List.flatMap_eq_nil_iff.mp e1 i (List.mem_range.mpr hi)
    have inTake : ∀ {x y : Nat}, x < y → x < m → order.getD x 0 ∈ order.take y := fun {x y} hxy hx => by
      have : (order.take y)[x]? = some (order.getD x 0) := by
        rw [List.getElem?_take_of_lt hxy, List.getD_eq_getElem?_getD, List.getElem?_eq_getElem (by omega)] <;> rfl
      exact List.mem_of_getElem? this
    have hab : a ≠ b := fun z => by
      rw [z, b2] at a2
      omega
    rcases Nat.lt_or_gt_of_ne hab with lt | gt
    · -- the pair's source stands ahead: the other one is tied
      refine link1_ne ?_ (none_at b (by omega))
      rw [b2]
      refine tied_of (q := ⟨p.d, (ss.getD k noSrc).nick, p.c⟩) hk hpm ?_
      have n1 : ¬ (ss.getD k noSrc).nick = aliasAt ss j := fun z => by
        have := w.uniq k j hk (by omega) z
        omega
      have m1 : (ss.getD k noSrc).nick ∈ (order.take b).map (aliasAt ss) := List.mem_map.mpr ⟨k, by have := inTake lt a1; rw [a2] at this; exact this, rfl⟩
      unfold tie1
      rw [decide_eq_false n1, Bool.false_and, if_neg (by simp), decide_eq_true po, decide_eq_true m1]
      simp
    · refine link1_ne ?_ (none_at a (by omega))
      rw [a2]
      refine tied_of (q := p) hk hpm ?_
      have m1 : p.o ∈ (order.take a).map (aliasAt ss) := List.mem_map.mpr ⟨j, by have := inTake gt b1; rw [b2] at this; exact this, po.symm⟩
      unfold tie1
      rw [decide_eq_true (show (ss.getD k noSrc).nick = aliasAt ss k from rfl), decide_eq_true m1]
      simp
  · have : link2 ss k = [] := by
      unfold linksB at e2
      have z := List.flatMap_eq_nil_iff.mp e2 (k - order.length) (List.mem_range.mpr (by omega))
      rw [show order.length + (k - order.length) = k by omega] at z
      exact z
    unfold link2 at this
    split at this
    · rename_i z
      exact h z
    · cases this
theorem links_none {ss : List Src} {order : List Nat} (h : ∀ s ∈ ss, s.pairs = []) : linksL ss order = [] := by
  have t : ∀ n js, tied ss n js = [] := fun n js => by
    unfold tied
    refine List.flatMap_eq_nil_iff.mpr fun s hs => ?_
    unfold tieS
    rw [h s hs]
    rfl
  have a : ∀ i, linksA ss order i = [] := fun i => by
    unfold linksA
    refine List.flatMap_eq_nil_iff.mpr fun k _ => ?_
    unfold link1
    rw [t]
  have b : ∀ m i, linksB ss m i = [] := fun m i => by
    unfold linksB
    refine List.flatMap_eq_nil_iff.mpr fun k _ => ?_
    unfold link2
    have : (ss.getD (m + k) noSrc).pairs = [] := by
      by_cases c : m + k < ss.length
      · exact h _ (getD_mem' c)
      · rw [List.getD_eq_getElem?_getD, List.getElem?_eq_none (by omega)]
        rfl
    rw [this]
  unfold linksL
  rw [a, b]
  rfl
end Gd
end

section
set_option Elab.async false
set_option linter.all false
set_option maxRecDepth 100000
set_option maxHeartbeats 4000000
namespace Gd
open PySem PySem.Spec PyProof.Rows L2 Gd
/-! Counts of tables, and the guess by them, by numbers alone. -/
abbrev Cnt := List (Str × Int × List (Str × Int))
def unD (us : List (Str × Int)) : List (PyData × PyData) := us.map fun x => (.str x.1, .int x.2)
def cnE (e : Str × Int × List (Str × Int)) : PyData × PyData := (.str e.1, .tuple [.int e.2.1, .dict (unD e.2.2)])
def cnD (cs : Cnt) : PyData := .dict (cs.map cnE)
def findC {α : Type} (cs : List (Str × α)) (x : Str) : Option (Str × α) := cs.find? fun e => decide (e.1 = x)
def entC (cs : Cnt) (x : Str) : Int × List (Str × Int) := match findC cs x with
  | some e => e.2
  | none => (1, [])
def unlC (us : List (Str × Int)) (c : Str) : Int := match findC us c with
  | some e => e.2
  | none => 1
theorem findC_cons {α : Type} (e : Str × α) (cs : List (Str × α)) (x : Str) : findC (e :: cs) x = if e.1 = x then some e else findC cs x := by
  unfold findC
  rw [List.find?_cons]
  by_cases h : e.1 = x
  · rw [if_pos h, decide_eq_true h]
  · rw [if_neg h, decide_eq_false h]
theorem valV_cons (k : Key) (v : V) (kvs : List (Key × V)) (q : Key) : valV ((k, v) :: kvs) q = if k = q then some v else valV kvs q := by
  unfold valV
  rw [List.find?_cons]
  by_cases h : k = q
  · rw [if_pos h, decide_eq_true h]
    rfl
  · rw [if_neg h, decide_eq_false h]
section
variable {K : PySem.W.Frag} {H : Hp} {N : Addr → Prop}
theorem kv_ent (x : Str) : ∀ {cs : Cnt} {kvs : List (Key × V)}, DgKv K H N kvs (cs.map cnE) → (findC cs x = none ∧ valV kvs (Sum.inr x) = none) ∨
    ∃ e t, findC cs x = some e ∧ valV kvs (Sum.inr x) = some (.ref t) ∧ Dg K H N (.ref t) (.tuple [.int e.2.1, .dict (unD e.2.2)])
  | [], _, h => by
    cases h
    exact .inl ⟨rfl, rfl⟩
  | e :: cs, _, h => by
    rw [List.map_cons] at h
    cases h with
    | @consS y v kvs d ps h1 h2 =>
      rw [findC_cons, valV_cons]
      by_cases z : e.1 = x
      · have z2 : (Sum.inr e.1 : Key) = Sum.inr x := congrArg Sum.inr z
        rw [if_pos z, if_pos z2]
        have h3 : Dg K H N v (.tuple [.int e.2.1, .dict (unD e.2.2)]) := h1
        cases h3 with
        | tup a b => exact .inr ⟨e, _, rfl, rfl, .tup a b⟩
      · have z2 : ¬ (Sum.inr e.1 : Key) = Sum.inr x := fun q => z (Sum.inr.inj q)
        rw [if_neg z, if_neg z2]
        exact kv_ent x h2
theorem kv_unl (c : Str) : ∀ {us : List (Str × Int)} {kvs : List (Key × V)}, DgKv K H N kvs (unD us) → valV kvs (Sum.inr c) = (findC us c).map fun e => .int e.2
  | [], _, h => by
    cases h
    rfl
  | e :: us, _, h => by
    unfold unD at h
    rw [List.map_cons] at h
    cases h with
    | @consS y v kvs d ps h1 h2 =>
      rw [findC_cons, valV_cons]
      by_cases z : e.1 = c
      · have z2 : (Sum.inr e.1 : Key) = Sum.inr c := congrArg Sum.inr z
        rw [if_pos z, if_pos z2]
        have h3 : Dg K H N v (.int e.2) := h1
        cases h3
        rfl
      · have z2 : ¬ (Sum.inr e.1 : Key) = Sum.inr c := fun q => z (Sum.inr.inj q)
        rw [if_neg z, if_neg z2]
        exact kv_unl c h2
end
/-! the guess -/
def tabOf (ss : List Src) (n : Nat) : Str := (ss.getD n noSrc).table
def rowsG (ss : List Src) (cs : Cnt) (n : Nat) : Int := (entC cs (tabOf ss n)).1
def linkG (ls : List (Nat × Pr)) (n : Nat) : Option Pr := (ls.find? fun x => decide (x.1 = n)).map (·.2)
def max1 (j : Int) : Int := if j > 1 then j else 1
def shareG (ss : List Src) (ls : List (Nat × Pr)) (cs : Cnt) (n : Nat) : Int := match linkG ls n with
  | none => rowsG ss cs n
  | some p => -((-(rowsG ss cs n)) / max1 (unlC (entC cs (tabOf ss n)).2 p.c))
def ledL (ss : List Src) (o : List Nat) : List Nat := o.drop 1 ++ (List.range (ss.length - o.length)).map (o.length + ·)
def stepG (ss : List Src) (ls : List (Nat × Pr)) (cs : Cnt) (o : List Nat) (w : Str) (st : Int × Int) (n : Nat) : Int × Int :=
  (if n ∈ o then st.1 * shareG ss ls cs n else st.1,
   st.2 + (if w = "kept" ∧ (linkG ls n).isSome = true then rowsG ss cs n + st.1 * shareG ss ls cs n else st.1 * rowsG ss cs n))
def goG (ss : List Src) (cs : Cnt) (o : List Nat) (w : Str) (ns : List Nat) : Int × Int := ns.foldl (stepG ss (linksL ss o) cs o w) (rowsG ss cs (o.getD 0 0), 1 + rowsG ss cs (o.getD 0 0))
def guessN (ss : List Src) (cs : Cnt) (o : List Nat) (w : Str) : Int := (goG ss cs o w (ledL ss o)).2
/-- counts of at most thirty figures -/
def CnOk (cs : Cnt) : Prop := ∀ e ∈ cs, 0 ≤ e.2.1 ∧ e.2.1 ≤ 10 ^ 30 ∧ ∀ u ∈ e.2.2, 0 ≤ u.2 ∧ u.2 ≤ 10 ^ 30
section
variable {ss : List Src} {cs : Cnt} {ls : List (Nat × Pr)} {n : Nat}
theorem findC_mem {α : Type} {cs : List (Str × α)} {x : Str} {e : Str × α} (h : findC cs x = some e) : e ∈ cs ∧ e.1 = x := ⟨List.mem_of_find?_eq_some h, by have := List.find?_some h; exact of_decide_eq_true this⟩
theorem ent_in (h : CnOk cs) (x : Str) : 0 ≤ (entC cs x).1 ∧ (entC cs x).1 ≤ 10 ^ 30 ∧ ∀ u ∈ (entC cs x).2, 0 ≤ u.2 ∧ u.2 ≤ 10 ^ 30 := by
  unfold entC
  cases e : findC cs x with
  | none => exact ⟨by decide, by decide, fun u m => nomatch m⟩
  | some y => exact h y (findC_mem e).1
theorem rowsG_in (h : CnOk cs) : 0 ≤ rowsG ss cs n ∧ rowsG ss cs n ≤ 10 ^ 30 := ⟨(ent_in h _).1, (ent_in h _).2.1⟩
theorem max1_ge (j : Int) : 1 ≤ max1 j := by
  unfold max1
  split <;> omega
theorem unl_in (h : CnOk cs) (x c : Str) : unlC (entC cs x).2 c ≤ 10 ^ 30 := by
  unfold unlC
  cases e : findC (entC cs x).2 c with
  | none => decide
  | some y => exact ((ent_in h x).2.2 y (findC_mem e).1).2
theorem max1_in (h : CnOk cs) (x c : Str) : max1 (unlC (entC cs x).2 c) ≤ 10 ^ 30 := by
  unfold max1
  split
  · exact unl_in h x c
  · decide
theorem up_in {r u : Int} (h0 : 0 ≤ r) (hu : 1 ≤ u) : 0 ≤ -((-r) / u) ∧ -((-r) / u) ≤ r := by
  have a : (-r) / u ≤ 0 := by
    have := Int.ediv_le_ediv (c := u) (by omega) (show -r ≤ 0 by omega)
    rw [Int.zero_ediv] at this
    exact this
  have b : -r ≤ (-r) / u := by
    rw [Int.le_ediv_iff_mul_le (by omega)]
    have : r * 1 ≤ r * u := Int.mul_le_mul_of_nonneg_left hu h0
    rw [Int.neg_mul]
    omega
  omega
theorem shareG_in (h : CnOk cs) : 0 ≤ shareG ss ls cs n ∧ shareG ss ls cs n ≤ 10 ^ 30 := by
  obtain ⟨a, b⟩ := rowsG_in (ss := ss) (n := n) h
  unfold shareG
  split
  · exact ⟨a, b⟩
  · have := up_in a (max1_ge (unlC (entC cs (tabOf ss n)).2 (by assumption : Pr).c))
    exact ⟨this.1, Int.le_trans this.2 b⟩
theorem lt100 {i : Int} (h0 : 0 ≤ i) (h : i ≤ 10 ^ 30) : i.natAbs < 2 ^ 100 := by
  have : (10 : Int) ^ 30 < 2 ^ 100 := by decide
  have e : ((i.natAbs : Nat) : Int) = i := by omega
  have : ((i.natAbs : Nat) : Int) < ((2 ^ 100 : Nat) : Int) := by rw [e]; exact Int.lt_of_le_of_lt h (by decide)
  exact Int.ofNat_lt.mp this
theorem goG_snoc {o : List Nat} {w : Str} {ns : List Nat} : goG ss cs o w (ns ++ [n]) = stepG ss (linksL ss o) cs o w (goG ss cs o w ns) n := by
  unfold goG
  rw [List.foldl_append]
  rfl
theorem fold_many {o : List Nat} {w : Str} (h : CnOk cs) : ∀ (ns : List Nat) (st : Int × Int) (k : Nat), 0 ≤ st.1 → st.1.natAbs < 2 ^ (100 * k) → 0 ≤ (ns.foldl (stepG ss ls cs o w) st).1 ∧ (ns.foldl (stepG ss ls cs o w) st).1.natAbs < 2 ^ (100 * (k + ns.length))
  | [], st, k, h0, h1 => ⟨h0, h1⟩
  | n :: ns, st, k, h0, h1 => by
    have s := shareG_in (ss := ss) (ls := ls) (n := n) h
    have z : 0 ≤ (stepG ss ls cs o w st n).1 ∧ (stepG ss ls cs o w st n).1.natAbs < 2 ^ (100 * (k + 1)) := by
      unfold stepG
      dsimp only
      split
      · exact ⟨Int.mul_nonneg h0 s.1, wide_lt h1 (lt100 s.1 s.2)⟩
      · exact ⟨h0, Nat.lt_of_lt_of_le h1 (Nat.pow_le_pow_right (by decide) (by omega))⟩
    have := fold_many (o := o) (w := w) h ns _ _ z.1 z.2
    rw [List.length_cons, show k + (ns.length + 1) = k + 1 + ns.length by omega]
    exact this
theorem fold_looks {o : List Nat} {w : Str} (h : CnOk cs) : ∀ (ns : List Nat) (st : Int × Int) (k : Nat), 1 ≤ k → 0 ≤ st.1 → st.1.natAbs < 2 ^ (100 * k) → 0 ≤ st.2 → st.2.natAbs < 2 ^ (102 * k) →
    0 ≤ (ns.foldl (stepG ss ls cs o w) st).2 ∧ (ns.foldl (stepG ss ls cs o w) st).2.natAbs < 2 ^ (102 * (k + ns.length))
  | [], st, k, k1, h0, h1, h2, h3 => ⟨h2, h3⟩
  | n :: ns, st, k, k1, h0, h1, h2, h3 => by
    have s := shareG_in (ss := ss) (ls := ls) (n := n) h
    have r := rowsG_in (ss := ss) (n := n) h
    have z : 0 ≤ (stepG ss ls cs o w st n).1 ∧ (stepG ss ls cs o w st n).1.natAbs < 2 ^ (100 * (k + 1)) := by
      unfold stepG
      dsimp only
      split
      · exact ⟨Int.mul_nonneg h0 s.1, wide_lt h1 (lt100 s.1 s.2)⟩
      · exact ⟨h0, Nat.lt_of_lt_of_le h1 (Nat.pow_le_pow_right (by decide) (by omega))⟩
    have p1 : (2 : Nat) ^ (100 * k + 100) ≤ 2 ^ (102 * k + 100) := Nat.pow_le_pow_right (by decide) (by omega)
    have p2 : (2 : Nat) ^ 100 ≤ 2 ^ (102 * k + 100) := Nat.pow_le_pow_right (by decide) (by omega)
    have p3 : (2 : Nat) ^ (102 * k) ≤ 2 ^ (102 * k + 100) := Nat.pow_le_pow_right (by decide) (by omega)
    have p4 : (2 : Nat) ^ (102 * (k + 1)) = 4 * 2 ^ (102 * k + 100) := by
      rw [show 102 * (k + 1) = (102 * k + 100) + 2 by omega, Nat.pow_add]
      omega
    have m1 := wide_lt h1 (lt100 s.1 s.2)
    have m2 := wide_lt h1 (lt100 r.1 r.2)
    have n1 : 0 ≤ st.1 * shareG ss ls cs n := Int.mul_nonneg h0 s.1
    have n2 : 0 ≤ st.1 * rowsG ss cs n := Int.mul_nonneg h0 r.1
    have r2 := lt100 r.1 r.2
    have y : 0 ≤ (stepG ss ls cs o w st n).2 ∧ (stepG ss ls cs o w st n).2.natAbs < 2 ^ (102 * (k + 1)) := by
      rw [p4]
      unfold stepG
      dsimp only
      generalize st.1 * shareG ss ls cs n = a at m1 n1
      generalize st.1 * rowsG ss cs n = b at m2 n2
      generalize (2 : Nat) ^ (102 * k + 100) = B at p1 p2 p3
      generalize (2 : Nat) ^ (100 * k + 100) = B1 at p1 m1 m2
      generalize (2 : Nat) ^ (102 * k) = B2 at p3 h3
      generalize (2 : Nat) ^ 100 = B3 at p2 r2
      split <;> omega
    have := fold_looks (o := o) (w := w) h ns _ _ (by omega) z.1 z.2 y.1 y.2
    rw [List.length_cons, show k + (ns.length + 1) = k + 1 + ns.length by omega]
    exact this
theorem guess_in {o : List Nat} {w : Str} (h : CnOk cs) : 0 ≤ guessN ss cs o w ∧ (guessN ss cs o w).natAbs < 2 ^ (102 * (1 + (ledL ss o).length)) := by
  have r := rowsG_in (ss := ss) (n := o.getD 0 0) h
  refine fold_looks h (ledL ss o) _ 1 (Nat.le_refl _) r.1 (lt100 r.1 r.2) (by dsimp only; omega) ?_
  have := lt100 r.1 r.2
  dsimp only
  have e : (2 : Nat) ^ (102 * 1) = 4 * 2 ^ 100 := by decide
  rw [e]
  generalize (2 : Nat) ^ 100 = B at this
  omega
theorem led_len {o : List Nat} (h : o.length ≤ ss.length) : (ledL ss o).length ≤ ss.length := by
  unfold ledL
  rw [List.length_append, List.length_drop, List.length_map, List.length_range]
  omega
theorem goG_many {o : List Nat} {w : Str} (h : CnOk cs) (ns : List Nat) : 0 ≤ (goG ss cs o w ns).1 ∧ (goG ss cs o w ns).1.natAbs < 2 ^ (100 * (1 + ns.length)) := by
  have r := rowsG_in (ss := ss) (n := o.getD 0 0) h
  exact fold_many h ns _ 1 r.1 (lt100 r.1 r.2)
end
theorem linkG_cons (x : Nat × Pr) (ls : List (Nat × Pr)) (n : Nat) : linkG (x :: ls) n = if x.1 = n then some x.2 else linkG ls n := by
  unfold linkG
  rw [List.find?_cons]
  by_cases h : x.1 = n
  · rw [if_pos h, decide_eq_true h]
    rfl
  · rw [if_neg h, decide_eq_false h]
/-- what links tell of a source -/
theorem lk_val {K : PySem.W.Frag} {H : Hp} (n : Nat) : ∀ {ls : List (Nat × Pr)} {kvs : List (Key × V)}, kvs.map (·.1) = ls.map (fun x => (Sum.inl ((x.1 : Nat) : Int) : Key)) → DpAll K H (kvs.map (·.2)) (ls.map fun x => prD x.2) →
    (linkG ls n = none ∧ valV kvs (Sum.inl ((n : Nat) : Int)) = none) ∨ ∃ p t, linkG ls n = some p ∧ valV kvs (Sum.inl ((n : Nat) : Int)) = some (.ref t) ∧ SqT K H t [.str p.c, .str p.o, .str p.d]
  | [], kvs, h, _ => by
    cases kvs with
    | nil => exact .inl ⟨rfl, rfl⟩
    | cons _ _ => cases h
  | x :: ls, [], h, _ => by cases h
  | x :: ls, (k, v) :: kvs, h, d => by
    rw [List.map_cons, List.map_cons, List.cons.injEq] at h
    obtain ⟨h1, h2⟩ := h
    rw [List.map_cons, List.map_cons] at d
    cases d with
    | cons d1 d2 =>
    dsimp only at h1 d1
    subst h1
    rw [linkG_cons, valV_cons]
    by_cases z : x.1 = n
    · have z2 : (Sum.inl ((x.1 : Nat) : Int) : Key) = Sum.inl ((n : Nat) : Int) := by rw [z]
      rw [if_pos z, if_pos z2]
      have d1 : Dp K H v (.tuple [.str x.2.c, .str x.2.o, .str x.2.d]) := d1
      cases d1 with
      | tup a b =>
        cases b with
        | cons b1 b =>
        cases b with
        | cons b2 b =>
        cases b with
        | cons b3 b =>
        cases b
        cases b1
        cases b2
        cases b3
        exact .inr ⟨x.2, _, rfl, rfl, a⟩
    · have z2 : ¬ (Sum.inl ((x.1 : Nat) : Int) : Key) = Sum.inl ((n : Nat) : Int) := fun q => z (by have := Sum.inl.inj q; omega)
      rw [if_neg z, if_neg z2]
      exact lk_val n h2 d2
end Gd
end

section
set_option Elab.async false
set_option linter.all false
set_option maxRecDepth 100000
set_option maxHeartbeats 4000000
/-! A pen: a list of the cells' list at c, the place of the next one, what is left of a great one. -/
namespace Gd
open PySem PySem.Spec PyProof.Rows L2
def Pen (H : Hp) (l c : Addr) (S : Int) : Prop := ∃ (ns : List Int) (t ov : Int), H l = some (.lst [.ref c, .int t, .int ov]) ∧ H c = some (.lst (ns.map V.int)) ∧ ns.length ≤ 63 ∧ 0 ≤ t ∧ t ≤ S
section
variable {H H' : Hp} {l c q : Addr} {S T : Int} {o : HO}
theorem Pen.le (h : Pen H l c S) (le : S ≤ T) : Pen H l c T := by
  obtain ⟨ns, t, ov, a, b, d, e, f⟩ := h
  exact ⟨ns, t, ov, a, b, d, e, by omega⟩
theorem Pen.apart (h : Pen H l c S) : l ≠ c := by
  obtain ⟨ns, t, ov, a, b, _⟩ := h
  intro e
  rw [e, b] at a
  cases ns with
  | nil => cases a
  | cons x r => cases a
theorem Pen.not (h : Pen H l c S) (n : H q = none) : q ≠ l ∧ q ≠ c := by
  obtain ⟨ns, t, ov, a, b, _⟩ := h
  exact ⟨fun e => (by rw [e, a] at n; cases n), fun e => (by rw [e, b] at n; cases n)⟩
theorem Pen.same (h : Pen H l c S) (s : Same H H') : Pen H' l c S := by
  obtain ⟨ns, t, ov, a, b, d, e, f⟩ := h
  exact ⟨ns, t, ov, s _ _ a, s _ _ b, d, e, f⟩
theorem Pen.off (h : Pen H l c S) (n1 : q ≠ l) (n2 : q ≠ c) : Pen (upd H q o) l c S := by
  obtain ⟨ns, t, ov, a, b, d, e, f⟩ := h
  exact ⟨ns, t, ov, by rw [upd_ne n1.symm]; exact a, by rw [upd_ne n2.symm]; exact b, d, e, f⟩
end
theorem sq_le {t B : Int} (h0 : 0 ≤ t) (h : t ≤ B) : 0 ≤ t * t ∧ t * t ≤ B * B := ⟨Int.mul_nonneg h0 h0, Int.mul_le_mul h h h0 (by omega)⟩
theorem mul_le {x t A B : Int} (hx : 0 ≤ x) (hA : x ≤ A) (h0 : 0 ≤ t) (h : t ≤ B) : 0 ≤ x * t ∧ x * t ≤ A * B := ⟨Int.mul_nonneg hx h0, Int.mul_le_mul hA h h0 (by omega)⟩
def spDraw : Sp := fun vs H Q _ => ∃ (l c : Addr) (m S : Int), vs = [.ref l, .int m] ∧ Pen H l c S ∧ 0 < m ∧ m < 1073741824 ∧ S ≤ 100000 ∧
  ∀ (r : Int) (H' : Hp), 0 ≤ r → r < m → Pen H' l c (S + 1) → Ex1 l H H' → Q (.int r) H'
end Gd
end

section
set_option Elab.async false
set_option linter.all false
set_option maxRecDepth 100000
set_option maxHeartbeats 4000000
namespace K37
open PySem PySem.Spec PyProof.Rows L2 Gd
def topS (i : Nat) : Stmt := PySem.Challenge.pw_plansamid_k37_what_visits_take.main.body.getD i (.Pass ⟨0, 0, 0, 0⟩)
abbrev sPen : Stmt := topS 34
abbrev sDraw : Stmt := topS 35
theorem scPen : FnScope ["_law_script"] ["_law_script"] (defScope sPen) := ⟨rfl, rfl, rfl, by decide +kernel, rfl, by decide +kernel, by decide +kernel⟩
abbrev nDraw : List Str := ["_law_pen_here", "_law_many", "_law_digit", "_law_at", "_law_cell", "_law_mixed"]
theorem scDraw : FnScope nDraw ["_law_pen_here", "_law_many"] (defScope sDraw) := ⟨rfl, rfl, rfl, by decide +kernel, rfl, by decide +kernel, by decide +kernel⟩
def spPen (K : PySem.W.Frag) : Sp := fun vs H Q _ => ∃ (a : Addr) (ns : List Int), vs = [.ref a] ∧ SqL K H a (ns.map V.int) ∧ ns.length ≤ 63 ∧ ∀ (l c : Addr) (H' : Hp), Same H H' → H l = none → H c = none → Pen H' l c 0 → Q (.ref l) H'
theorem cut_all (xs : List V) (h : xs.length ≤ 63) : cutV xs none (some (63 : Int)) = xs := by
  unfold cutV
  rw [HT.sIx_none, show (63 : Int) = ((63 : Nat) : Int) from rfl, HT.sIx_nat, List.drop_zero, Nat.sub_zero, Nat.min_eq_right h, List.take_length]
section
variable {P : Program} {w : World} {K : PySem.W.Frag} {mg : Str → Option Value} {base : Heap} {f fT : Addr} {fd dT : FuncData}
theorem ok_pen (F : Fun K "_law_pen" "_law_pen" sPen f fd) : FnOk P w K mg base CX0 1 f fd ["_law_script"] (spPen K) := by
  refine F.ok scPen (fun vs H Q E h => ?_) (fun cdv A outer s H vs Q E hr h => ?_)
  · obtain ⟨a, ns, rfl, _⟩ := h
    rfl
  obtain ⟨a, ns, rfl, ha, hn, q⟩ := h
  have nd := scPen.nd
  refine ⟨_, pss_one (ps_ret (pe_lst (pa_cons (pe_slice sl_list (pv 0) po_none (po_some pe_int)) (pa_cons pe_int (pa_cons pe_int pa_nil))))), ?_⟩
  refine ⟨_, rfl, _, rfl, a, _, rfl, ha, fun b nb => ?_⟩
  rw [cut_all _ (by rw [List.length_map]; exact hn)]
  have s1 := new_same (o := .lst (ns.map V.int)) nb
  refine ⟨(by show 3 ≤ sizeLine; decide), fun l nl => ?_⟩
  have s3 := s1.trans (new_same (o := .lst [.ref b, .int 0, .int 0]) nl)
  have ncl : b ≠ l := fun e => by rw [← e, upd_same] at nl; cases nl
  exact q l b _ s3 (s1.free nl) nb ⟨ns, 0, 0, upd_same, by rw [upd_ne ncl]; exact upd_same, hn, by omega, by omega⟩
theorem ok_draw (F : Fun K "_law_take" "_law_take" sDraw f fd) (mn : mg "len" = none) (ma : mg "abs" = none) : FnOk P w K mg base CX0 1 f fd ["_law_pen_here", "_law_many"] spDraw := by
  refine F.ok scDraw (fun vs H Q E h => ?_) (fun cdv A outer s H vs Q E hr h => ?_)
  · obtain ⟨l, c, m, S, rfl, _⟩ := h
    rfl
  obtain ⟨l, c, m, S, rfl, hP, m0, m1, hS, q⟩ := h
  have nlc := hP.apart
  obtain ⟨ns, t, ov, el, ec, hn, t0, t1⟩ := hP
  have nd := scDraw.nd
  have zl : sizeLine = 16777216 := rfl
  refine ⟨_, pss_cons (ps_if (pt_cmpR op_gt (pe_ix ix_list (pv 0) pe_int (fun _ _ => rfl)) pe_int (nomark _))
      (pss_cons (ps_set (i := 2) nd rfl (.inl rfl) (pe_op op_modN (pe_ix ix_list (pv 0) pe_int (fun _ _ => rfl)) (pv 1)))
      (pss_cons (ps_asg (pe_op op_fdivN (pe_ix ix_list (pv 0) pe_int (fun _ _ => rfl)) (pv 1)) (pg_sub (pv 0) pe_int set_list))
      (pss_one (ps_ret (pv 2))))) pss_nil)
    (pss_cons (ps_set (i := 3) nd rfl (.inl rfl) (pe_ix ix_list (pv 0) pe_int (fun _ _ => rfl)))
    (C8.pss_cut (ps_asg (pe_op op_add (pv 3) pe_int) (pg_sub (pv 0) pe_int set_list))
    (pss_cons (ps_set (i := 4) nd rfl (.inl rfl) (pe_op op_add (pe_op op_mul pe_int (pv 3)) pe_int))
    (C8.pss_cut (ps_if (pt_cmpR op_gt (pe_callB call_len_seq (by rfl) mn PySem.boot_len (pa_cons (pe_ix ix_list (pv 0) pe_int (fun _ _ => rfl)) pa_nil)) pe_int (nomark _))
      (pss_one (ps_set (i := 4) nd rfl (.inl rfl) (pe_ix ix_list (pe_ix ix_list (pv 0) pe_int (fun _ _ => rfl)) (pe_op op_modN (pv 3) (pe_callB call_len_seq (by rfl) mn PySem.boot_len (pa_cons (pe_ix ix_list (pv 0) pe_int (fun _ _ => rfl)) pa_nil))) (fun _ _ => rfl)))) pss_nil)
    (C8.pss_cut (ps_if (PW.pt (pw_and (pt_cmpR op_lt (pv 3) (pe_callB call_len_seq (by rfl) mn PySem.boot_len (pa_cons (pe_ix ix_list (pv 0) pe_int (fun _ _ => rfl)) pa_nil)) (nomark _))
        (pw_and1 (pt_cmpR op_ge (pe_callB call_abs (by rfl) ma (by decide +kernel) (pa_cons (pv 4) pa_nil)) (pe_op op_pow pe_int pe_int) (nomark _)))))
      (pss_cons (ps_asg (pe_op op_fdivN (pe_callB call_abs (by rfl) ma (by decide +kernel) (pa_cons (pv 4) pa_nil)) (pv 1)) (pg_sub (pv 0) pe_int set_list))
      (pss_one (ps_ret (pe_op op_modN (pe_callB call_abs (by rfl) ma (by decide +kernel) (pa_cons (pv 4) pa_nil)) (pv 1))))) pss_nil)
    (C8.pss_cut (ps_set (i := 5) nd rfl (.inl rfl) (pe_op op_modN (pe_op op_pow (pe_op op_add (pe_op op_add (pe_op op_add (pe_op op_modN (pv 4) pe_int) (pe_op op_mul pe_int (pv 3))) (pe_op op_mul (pe_op op_mul pe_int (pv 3)) (pv 3))) pe_int) pe_int) pe_int))
    (C8.pss_cut (ps_set (i := 5) nd rfl (.inl rfl) (pe_op op_modN (pe_op op_pow (pe_op op_add (pe_op op_add (pv 5) (pe_op op_mul pe_int (pv 3))) pe_int) pe_int) pe_int))
    (pss_one (ps_ret (pe_op op_modN (pe_op op_fdivN (pv 5) pe_int) (pv 1))))))))))), ?_⟩
  have L : SqL K H l [.ref c, .int t, .int ov] := SqL.of el
  refine ⟨_, rfl, l, _, 2, _, rfl, rfl, L, atI_nat (j := 2) rfl, _, _, rfl, rfl, _, rfl, ite2 (fun e => ?_) (fun e => ?_)⟩
  · refine ⟨_, rfl, l, _, 2, _, rfl, rfl, L, atI_nat (j := 2) rfl, _, rfl, _, _, rfl, rfl, by omega, ?_⟩
    refine ⟨_, rfl, l, _, 2, _, rfl, rfl, L, atI_nat (j := 2) rfl, _, rfl, _, _, rfl, rfl, ⟨by omega, by omega⟩, ?_⟩
    refine ⟨_, rfl, l, _, 2, 2, rfl, rfl, el, rfl, ?_⟩
    refine ⟨_, rfl, ?_⟩
    obtain ⟨r0, r1⟩ := fmod_in ov m0
    exact q _ _ r0 r1 ⟨ns, t, _, upd_same, by rw [upd_ne nlc.symm]; exact ec, hn, t0, by omega⟩ .at
  refine ⟨_, rfl, l, _, 1, _, rfl, rfl, L, atI_nat (j := 1) rfl, ?_⟩
  refine ⟨fun σ' H' => H' l = some (.lst [.ref c, .int (t + 1), .int ov]) ∧ H' c = some (.lst (ns.map V.int)) ∧ Ex1 l H H' ∧ σ' = [some (.ref l), some (.int m), none, some (.int t), none, none], ?_, ?_⟩
  · refine ⟨_, rfl, _, _, rfl, rfl, _, rfl, l, _, 1, 1, rfl, rfl, el, rfl, ?_⟩
    exact ⟨upd_same, by rw [upd_ne nlc.symm]; exact ec, .at, rfl⟩
  rintro σ2 H2 ⟨el2, ec2, x2, rfl⟩
  refine ⟨_, rfl, _, _, rfl, rfl, .inl ⟨by decide, by decide⟩, _, _, rfl, rfl, ?_⟩
  refine ⟨fun σ' H' => Same H2 H' ∧ ∃ v : Int, σ' = [some (.ref l), some (.int m), none, some (.int t), some (.int v), none], ?_, ?_⟩
  · refine ⟨_, rfl, l, _, 0, _, rfl, rfl, SqL.of el2, atI_nat (j := 0) rfl, c, _, rfl, .inl (SqL.of ec2), _, _, rfl, rfl, _, rfl, ite2 (fun e => ?_) (fun e => ?_)⟩
    · have e : decide ((0 : Int) < (((ns.map V.int).length : Nat) : Int)) = true := e
      have pos : 0 < ns.length := by
        have := of_decide_eq_true e
        rw [List.length_map] at this
        omega
      obtain ⟨i0, i1⟩ := fmod_in t (b := ((ns.length : Nat) : Int)) (by omega)
      obtain ⟨v, hv, ev⟩ := at_list (f := V.int) (xs := ns) i0 i1
      refine ⟨_, rfl, l, _, 0, _, rfl, rfl, SqL.of el2, atI_nat (j := 0) rfl, _, rfl, _, rfl, l, _, 0, _, rfl, rfl, SqL.of el2, atI_nat (j := 0) rfl, c, _, rfl, .inl (SqL.of ec2), _, _, rfl, rfl, by rw [List.length_map]; omega, ?_⟩
      refine ⟨c, _, _, .int v, rfl, rfl, SqL.of ec2, by rw [List.length_map]; exact ev, ?_⟩
      exact ⟨fun _ _ e => e, v, rfl⟩
    · exact ⟨fun _ _ e => e, _, rfl⟩
  rintro σ3 H3 ⟨s3, v, rfl⟩
  have el3 := s3 _ _ el2
  have ec3 := s3 _ _ ec2
  have x3 : Ex1 l H H3 := x2.trans (ex1_of_same s3)
  refine ⟨fun σ' H' => H' = H3 ∧ σ' = [some (.ref l), some (.int m), none, some (.int t), some (.int v), none], ?_, ?_⟩
  · refine ⟨_, rfl, _, rfl, l, _, 0, _, rfl, rfl, SqL.of el3, atI_nat (j := 0) rfl, c, _, rfl, .inl (SqL.of ec3), _, _, rfl, rfl, _, rfl, ite2 (fun e => ?_) (fun e => ?_)⟩
    · refine ⟨_, rfl, _, rfl, 10, 18, rfl, rfl, ⟨by decide, by decide, by decide⟩, _, _, rfl, rfl, _, rfl, ite2 (fun e => ?_) (fun e => ?_)⟩
      · refine ⟨_, rfl, _, rfl, _, rfl, _, _, rfl, rfl, ⟨by omega, by omega⟩, _, rfl, l, _, 2, 2, rfl, rfl, el3, rfl, ?_⟩
        refine ⟨_, rfl, _, rfl, _, rfl, _, _, rfl, rfl, by omega, ?_⟩
        exact q _ _ (fmod_in _ m0).1 (fmod_in _ m0).2 ⟨ns, t + 1, _, upd_same, by rw [upd_ne nlc.symm]; exact ec3, hn, by omega, by omega⟩ (x3.trans .at)
      · exact ⟨rfl, rfl⟩
    · exact ⟨rfl, rfl⟩
  rintro σ4 H4 ⟨rfl, rfl⟩
  obtain ⟨a0, a1⟩ := fmod_in v (b := 2147483549) (by omega)
  obtain ⟨q0, q1⟩ := sq_le t0 (show t ≤ 100000 by omega)
  have e40 : 8171 * t * t = 8171 * (t * t) := Int.mul_assoc ..
  generalize hx0 : v.fmod 2147483549 = x0 at a0 a1
  refine ⟨fun σ' H' => H' = H4 ∧ ∃ x : Int, 0 ≤ x ∧ x < 2147483629 ∧ σ' = [some (.ref l), some (.int m), none, some (.int t), some (.int v), some (.int x)], ?_, ?_⟩
  · refine ⟨_, rfl, _, _, rfl, rfl, by omega, _, rfl, _, _, rfl, rfl, .inl ⟨by decide, by decide⟩, _, _, rfl, rfl, _, rfl, _, _, rfl, rfl, .inl ⟨by decide, by decide⟩, _, rfl, _, _, rfl, rfl, .inr ⟨by omega, by omega⟩, _, _, rfl, rfl, _, _, rfl, rfl,
      _, _, rfl, rfl, ⟨by decide, by decide, by rw [hx0, e40]; omega⟩, _, _, rfl, rfl, by omega, ?_⟩
    exact ⟨rfl, _, (fmod_in _ (by omega)).1, (fmod_in _ (by omega)).2, rfl⟩
  rintro σ5 H5 ⟨rfl, x1, b0, b1, rfl⟩
  refine ⟨fun σ' H' => H' = H5 ∧ ∃ x : Int, 0 ≤ x ∧ x < 2147483587 ∧ σ' = [some (.ref l), some (.int m), none, some (.int t), some (.int v), some (.int x)], ?_, ?_⟩
  · refine ⟨_, rfl, _, rfl, _, _, rfl, rfl, .inl ⟨by decide, by decide⟩, _, _, rfl, rfl, _, _, rfl, rfl, _, _, rfl, rfl, ⟨by decide, by decide, by omega⟩, _, _, rfl, rfl, by omega, ?_⟩
    exact ⟨rfl, _, (fmod_in _ (by omega)).1, (fmod_in _ (by omega)).2, rfl⟩
  rintro σ6 H6 ⟨rfl, x2', d0, d1, rfl⟩
  refine ⟨_, rfl, _, _, rfl, rfl, ⟨by omega, by omega⟩, _, rfl, _, _, rfl, rfl, by omega, ?_⟩
  exact q _ _ (fmod_in _ m0).1 (fmod_in _ m0).2 ⟨ns, t + 1, ov, el3, ec3, hn, by omega, by omega⟩ x3
end
end K37
end

section
set_option Elab.async false
set_option linter.all false
set_option maxRecDepth 100000
set_option maxHeartbeats 4000000
namespace K37
open PySem PySem.Spec PyProof.Rows L2 Gd
abbrev sPB : Stmt := topS 7
abbrev nPB : List Str := ["sources", "number", "ahead", "own", "aliases", "tied", "way", Str.ofString (String.ofList ['a', 'l', 'i', 'a', 's']), "table", "pairs", "column", "other", "column2", "at"]
theorem scPB : FnScope nPB ["sources", "number", "ahead"] (defScope sPB) := ⟨rfl, rfl, rfl, by decide +kernel, rfl, by decide +kernel, by decide +kernel⟩
theorem dp_src {K : PySem.W.Frag} {H : Hp} {v : V} {s : Src} (h : Dp K H v (srcD s)) : ∃ a b ps, v = .ref a ∧ SqT K H a [.str s.way, .str s.nick, .str s.table, .ref b] ∧ SqT K H b ps ∧ DpAll K H ps (s.pairs.map prD) := by
  cases h with
  | tup a k =>
  cases k with | cons k1 k =>
  cases k with | cons k2 k =>
  cases k with | cons k3 k =>
  cases k with | cons k4 k =>
  cases k
  cases k1
  cases k2
  cases k3
  cases k4 with
  | tup b m => exact ⟨_, _, _, rfl, a, b, m⟩
theorem dp_pr {K : PySem.W.Frag} {H : Hp} {v : V} {p : Pr} (h : Dp K H v (prD p)) : ∃ a, v = .ref a ∧ SqT K H a [.str p.c, .str p.o, .str p.d] := by
  cases h with
  | tup a k =>
  cases k with | cons k1 k =>
  cases k with | cons k2 k =>
  cases k with | cons k3 k =>
  cases k
  cases k1
  cases k2
  cases k3
  exact ⟨_, rfl, a⟩
theorem in_strs (k : Str) : ∀ r : List Str, inV (.str k) (r.map V.str) = decide (k ∈ r)
  | [] => rfl
  | x :: r => by
    have ih := in_strs k r
    show ((x == k) || inV (.str k) (r.map V.str)) = _
    rw [ih]
    by_cases e : x = k
    · subst e
      simp
    · rw [beq_false_of_ne e, Bool.false_or]
      simp [List.mem_cons, Ne.symm e]
theorem flat_strs : ∀ r : List Str, (r.map V.str).all flatV = true
  | [] => rfl
  | x :: r => flat_strs r
def spPB (K : PySem.W.Frag) : Sp := fun vs H Q _ => ∃ (S A : Addr) (n : Nat) (xs : List V) (ss : List Src) (js : List Nat), vs = [.ref S, .int ((n : Nat) : Int), .ref A] ∧ SqT K H S xs ∧ DpAll K H xs (ss.map srcD) ∧ n < ss.length ∧
  SqT K H A (js.map fun j => V.int ((j : Nat) : Int)) ∧ (∀ j ∈ js, j < ss.length) ∧ js.length ≤ 10 ∧ ss.length ≤ 10 ∧ (∀ s ∈ ss, s.pairs.length ≤ 10) ∧
  ∀ (l : Addr) (ts : List V) (H' : Hp), Same H H' → H l = none → H' l = some (.lst ts) → DpAll K H' ts ((tied ss n js).map prD) → Q (.ref l) H'
theorem srcs_at {ss : List Src} {i : Nat} (h : i < ss.length) : (ss.map srcD)[i]? = some (srcD (ss.getD i noSrc)) := by
  rw [List.getElem?_map, List.getD_eq_getElem?_getD, List.getElem?_eq_getElem h] <;> rfl
theorem prs_only : ∀ ps : List Pr, tupOnlyAll (ps.map prD) = true
  | [] => rfl
  | p :: ps => by
    rw [List.map_cons]
    simp only [tupOnlyAll, prs_only ps, Bool.and_true]
    rfl
section
variable {P : Program} {w : World} {K : PySem.W.Frag} {mg : Str → Option Value} {base : Heap} {f fT : Addr} {fd dT : FuncData}
theorem ok_pb (F : Fun K "pairs_between" "pairs_between" sPB f fd) : FnOk P w K mg base CX0 1 f fd ["sources", "number", "ahead"] (spPB K) := by
  refine F.ok scPB (fun vs H Q E h => ?_) (fun cdv A outer s H vs Q E hr h => ?_)
  · obtain ⟨S, A, n, xs, ss, js, rfl, _⟩ := h
    rfl
  obtain ⟨S, AH, n, xs, ss, js, rfl, hS, hX, hn, hJ, jl, j10, s10, p10, q⟩ := h
  have nd := scPB.nd
  have zl : sizeLine = 16777216 := rfl
  refine ⟨_, pss_cons (ps_set (i := 3) nd rfl (.inl rfl) (pe_ix ix_tup (pe_ix ix_tup (pv 0) (pv 1) (fun _ _ => rfl)) pe_int (fun _ _ => rfl)))
      (pss_cons (ps_setLc (i := 4) (own := [("at", 13)]) (g := gName 13) (tt := tYes) rfl nd rfl rfl (by rfl) (pi_tup (pv 2)) (blkOk_by (N := nPB) (sc := defScope sPB) (by decide +kernel)) (fun _ _ _ _ _ => pg_name (i := 13) nd rfl (Or.inl rfl)) (fun _ _ _ _ _ => pts_nil) (fun _ _ _ _ _ => (pe_ix (r := rIxT K) ix_tup (pe_ix (r := rIxT K) ix_tup (pv 0) (pv 13) (fun _ _ => rfl)) pe_int (fun _ _ => rfl))))
      (pss_cons (ps_set (i := 5) nd rfl (.inl rfl) (pe_lst pa_nil))
      (pss_cons (ps_for PassesOwn.never rfl (pi_tup (pv 0)) (pg_tup rfl (pgs_cons (pg_name (i := 6) nd rfl (.inl rfl)) (pgs_cons (pg_name (i := 7) nd rfl (.inl rfl)) (pgs_cons (pg_name (i := 8) nd rfl (.inl rfl)) (pgs_cons (pg_name (i := 9) nd rfl (.inl rfl)) pgs_nil)))))
      (pss_one (ps_for PassesOwn.never rfl (pi_tup (pv 9)) (pg_tup rfl (pgs_cons (pg_name (i := 10) nd rfl (.inl rfl)) (pgs_cons (pg_name (i := 11) nd rfl (.inl rfl)) (pgs_cons (pg_name (i := 12) nd rfl (.inl rfl)) pgs_nil))))
      (pss_one (ps_if (PW.pt (pw_and (pt_cmpR op_eq (pv 7) (pv 3) (nomark _)) (pw_and1 (pt_cmpR op_in_seq (pv 11) (pv 4) (by with_unfolding_all rfl)))))
        (pss_one (ps_expr (pe_bm PySem.F.plainAttrs_list PySem.F.slot_list_append PySem.F.type_list_append mt_append (pv 5) (pa_cons (pe_tup (pa_cons (pv 10) (pa_cons (pv 11) (pa_cons (pv 12) pa_nil)))) pa_nil)))) (pss_one (ps_if (PW.pt (pw_and (pt_cmpR op_eq (pv 11) (pv 3) (nomark _)) (pw_and1 (pt_cmpR op_in_seq (pv 7) (pv 4) (by with_unfolding_all rfl)))))
        (pss_one (ps_expr (pe_bm PySem.F.plainAttrs_list PySem.F.slot_list_append PySem.F.type_list_append mt_append (pv 5) (pa_cons (pe_tup (pa_cons (pv 12) (pa_cons (pv 7) (pa_cons (pv 10) pa_nil)))) pa_nil)))) pss_nil)))))))
      (pss_one (ps_ret (pv 5)))))), ?_⟩
  obtain ⟨a0, b0, ps0, e0, t0, _, _⟩ : ∃ a b ps, xs[n]? = some (.ref a) ∧ SqT K H a [.str (ss.getD n noSrc).way, .str (ss.getD n noSrc).nick, .str (ss.getD n noSrc).table, .ref b] ∧ SqT K H b ps ∧ DpAll K H ps ((ss.getD n noSrc).pairs.map prD) := by
    have l := (DpAll.len hX)
    rw [List.length_map] at l
    obtain ⟨d, ed, hd⟩ := DpAll.at_ hX (List.getElem?_eq_getElem (show n < xs.length by omega))
    rw [srcs_at hn] at ed
    cases ed
    obtain ⟨a, b, ps, ev, r⟩ := dp_src hd
    exact ⟨a, b, ps, by rw [List.getElem?_eq_getElem (show n < xs.length by omega), ev], r⟩
  have lX : xs.length = ss.length := by rw [(DpAll.len hX), List.length_map]
  refine ⟨_, rfl, _, rfl, S, _, _, _, rfl, rfl, hS, atI_nat e0, a0, _, 1, _, rfl, rfl, t0, atI_nat (j := 1) rfl, ?_⟩
  refine ⟨_, rfl, AH, rfl, ⟨_, hJ⟩, fun al nal => ?_⟩
  refine lc_it walk_tup (fun i H1 => Same H H1 ∧ H1 al = some (.lst (((js.take i).map (aliasAt ss)).map V.str))) ⟨new_same nal, upd_same⟩ (fun i H1 _ h => same_tup h.1 hJ) ?_ ?_
  · rintro i x H1 H2 hi ⟨s1, el⟩ ⟨rfl, ex⟩
    obtain ⟨j, ej, rfl⟩ := map_at ex
    have jlt := jl j (List.mem_of_getElem? ej)
    obtain ⟨d, ed, hd⟩ := DpAll.at_ hX (List.getElem?_eq_getElem (show j < xs.length by omega))
    rw [srcs_at jlt] at ed
    cases ed
    obtain ⟨a, b, ps, ev, tt, _⟩ := dp_src hd
    have hi : i < js.length := at_lt ej
    refine ⟨rfl, ?_⟩
    refine ⟨_, rfl, _, rfl, S, _, _, _, rfl, rfl, same_tup s1 hS, atI_nat (List.getElem?_eq_getElem (show j < xs.length by omega)), a, _, 1, _, ev, rfl, same_tup s1 tt, atI_nat (j := 1) rfl, ?_⟩
    refine ⟨_, el, by rw [List.length_map, List.length_map, List.length_take]; omega, own_same nal s1, ?_⟩
    rw [upd_same, take_at ej, List.map_append, List.map_append]
    rfl
  rintro H1 ⟨s1, el⟩
  rw [List.length_map, List.take_length] at el
  have own : (ss.getD n noSrc).nick = aliasAt ss n := rfl
  rw [own]
  refine ⟨by decide, fun T nT => ?_⟩
  have s2 := s1.trans (new_same (o := .lst []) nT)
  have nT0 : H T = none := s1.free nT
  have naT : al ≠ T := ne_of_none el nT
  refine ⟨_, rfl, S, rfl, ⟨_, same_tup s2 hS⟩, ?_⟩
  refine for_it walk_tup (fun i σ H3 => Same H H3 ∧ H3 al = some (.lst ((js.map (aliasAt ss)).map V.str)) ∧ (∃ ts, H3 T = some (.lst ts) ∧ ts.length ≤ 10 * i ∧ DpAll K H3 ts (((ss.take i).flatMap (tieS (aliasAt ss n) (js.map (aliasAt ss)))).map prD)) ∧
      ∃ y6 y7 y8 y9 y10 y11 y12 y13, σ = [some (.ref S), some (.int (n : Nat)), some (.ref AH), some (.str (aliasAt ss n)), some (.ref al), some (.ref T), y6, y7, y8, y9, y10, y11, y12, y13])
    ⟨s2, new_same nT _ _ el, ⟨_, upd_same, Nat.le_refl _, .nil⟩, _, _, _, _, _, _, _, _, rfl⟩ (fun i σ H3 _ h => same_tup h.1 hS) ?_ ?_
  · rintro i x σ H3 H4 hi ⟨s3, ea3, ⟨ts, eT, lt, hT⟩, y6, y7, y8, y9, y10, y11, y12, y13, rfl⟩ ⟨rfl, ex⟩
    have hi : i < xs.length := hi
    obtain ⟨d, ed, hd⟩ := DpAll.at_ hX ex
    rw [srcs_at (by omega)] at ed
    cases ed
    have es : ss[i]? = some (ss.getD i noSrc) := by rw [List.getD_eq_getElem?_getD, List.getElem?_eq_getElem (by omega)] <;> rfl
    have pl := p10 _ (List.mem_of_getElem? es)
    generalize ss.getD i noSrc = s at hd es pl
    obtain ⟨a, b, ps, rfl, tt, tb, hp⟩ := dp_src hd
    have lp : ps.length = s.pairs.length := by rw [(DpAll.len hp), List.length_map]
    refine ⟨a, _, rfl, same_tup s3 tt, rfl, _, _, rfl, _, _, rfl, _, _, rfl, _, _, rfl, rfl, ?_⟩
    refine ⟨_, rfl, b, rfl, ⟨_, same_tup s3 tb⟩, ?_⟩
    refine for_it walk_tup (fun j σ H5 => Same H H5 ∧ H5 al = some (.lst ((js.map (aliasAt ss)).map V.str)) ∧ (∃ ts, H5 T = some (.lst ts) ∧ ts.length ≤ 10 * i + j ∧ DpAll K H5 ts (((ss.take i).flatMap (tieS (aliasAt ss n) (js.map (aliasAt ss))) ++ (s.pairs.take j).flatMap (tie1 (aliasAt ss n) (js.map (aliasAt ss)) s)).map prD)) ∧
        ∃ y10 y11 y12 y13, σ = [some (.ref S), some (.int (n : Nat)), some (.ref AH), some (.str (aliasAt ss n)), some (.ref al), some (.ref T), some (.str s.way), some (.str s.nick), some (.str s.table), some (.ref b), y10, y11, y12, y13])
      ⟨s3, ea3, ⟨ts, eT, lt, by rw [List.take_zero, List.flatMap_nil, List.append_nil]; exact hT⟩, _, _, _, _, rfl⟩ (fun j σ H5 _ h => same_tup h.1 tb) ?_ ?_
    · rintro j x σ H5 H6 hj ⟨s5, ea5, ⟨ts, eT, lt, hT⟩, y10, y11, y12, y13, rfl⟩ ⟨rfl, ex⟩
      have hj : j < ps.length := hj
      obtain ⟨d, ed, hd⟩ := DpAll.at_ hp ex
      rw [List.getElem?_map, Option.map_eq_some_iff] at ed
      obtain ⟨p, ep, rfl⟩ := ed
      obtain ⟨c, rfl, tc⟩ := dp_pr hd
      have tj : (s.pairs.take (j + 1)).flatMap (tie1 (aliasAt ss n) (js.map (aliasAt ss)) s) = (s.pairs.take j).flatMap (tie1 (aliasAt ss n) (js.map (aliasAt ss)) s) ++ tie1 (aliasAt ss n) (js.map (aliasAt ss)) s p := by
        rw [take_at ep, List.flatMap_append]
        simp
      have nTal : T ≠ al := naT.symm
      -- one put behind
      have put : ∀ {p' : Pr} {t : Addr}, H6 t = none → tie1 (aliasAt ss n) (js.map (aliasAt ss)) s p = [p'] → ∀ H7, H7 = upd (upd H6 t (.tup [.str p'.c, .str p'.o, .str p'.d])) T (.lst (ts ++ [.ref t])) →
          Same H H7 ∧ H7 al = some (.lst ((js.map (aliasAt ss)).map V.str)) ∧ (∃ ts, H7 T = some (.lst ts) ∧ ts.length ≤ 10 * i + (j + 1) ∧ DpAll K H7 ts (((ss.take i).flatMap (tieS (aliasAt ss n) (js.map (aliasAt ss))) ++ (s.pairs.take (j + 1)).flatMap (tie1 (aliasAt ss n) (js.map (aliasAt ss)) s)).map prD)) := by
        rintro p' t nt e1 H7 rfl
        have j1 := new_same (o := .tup [.str p'.c, .str p'.o, .str p'.d]) nt
        refine ⟨own_same nT0 (s5.trans j1), by rw [upd_ne naT]; exact j1 _ _ ea5, ts ++ [.ref t], upd_same, by rw [List.length_append]; show ts.length + 1 ≤ _; omega, ?_⟩
        have T1 : Tups K H6 (upd (upd H6 t (.tup [.str p'.c, .str p'.o, .str p'.d])) T (.lst (ts ++ [.ref t]))) := (Tups.of_same j1).trans (Tups.upd_lst (j1 _ _ eT))
        rw [tj, e1, ← List.append_assoc, List.map_append]
        refine DpAll.snoc (DpAll.tups T1 _ ?_ hT) (.tup (Tups.upd_lst (j1 _ _ eT) _ _ (SqT.of upd_same)) (.cons (.str _) (.cons (.str _) (.cons (.str _) .nil))))
        exact prs_only _
      refine ⟨c, _, rfl, same_tup s5 tc, rfl, _, _, rfl, _, _, rfl, _, _, rfl, rfl, ?_⟩
      refine ⟨_, rfl, _, rfl, rfl, _, rfl, ite2 (fun e => ?_) (fun e => ?_)⟩
      · have e : decide (s.nick = aliasAt ss n) = true := decide_eq_true (V.str.inj (of_decide_eq_true e))
        refine ⟨_, rfl, _, rfl, al, _, rfl, .inl (SqL.of ea5), rfl, flat_strs _, _, rfl, ite2 (fun e2 => ?_) (fun e2 => ?_)⟩
        · have e2 : decide (p.o ∈ js.map (aliasAt ss)) = true := (in_strs _ _).symm.trans e2
          refine ⟨_, rfl, .inl ⟨rfl, _, SqL.of eT⟩, _, rfl, _, rfl, _, rfl, (by show 3 ≤ sizeLine; decide), fun t nt => ?_⟩
          have j1 := new_same (o := .tup [.str p.c, .str p.o, .str p.d]) nt
          refine ⟨T, ts, _, rfl, rfl, j1 _ _ eT, by omega, ?_⟩
          obtain ⟨a1, a2, a3⟩ := put (p' := ⟨p.c, p.o, p.d⟩) nt (by unfold tie1; rw [e, e2]; rfl) _ rfl
          exact ⟨a1, a2, a3, _, _, _, _, rfl⟩
        · have hc : (decide (s.nick = aliasAt ss n) && decide (p.o ∈ js.map (aliasAt ss))) = false := by
            rw [show decide (p.o ∈ js.map (aliasAt ss)) = false from (in_strs _ _).symm.trans (Bool.eq_false_iff.mpr e2), Bool.and_false]
          refine ⟨_, rfl, _, rfl, rfl, _, rfl, ite2 (fun e3 => ?_) (fun e3 => ?_)⟩
          · have e3 : decide (p.o = aliasAt ss n) = true := decide_eq_true (V.str.inj (of_decide_eq_true e3))
            refine ⟨_, rfl, _, rfl, al, _, rfl, .inl (SqL.of ea5), rfl, flat_strs _, _, rfl, ite2 (fun e4 => ?_) (fun e4 => ?_)⟩
            · have e4 : decide (s.nick ∈ js.map (aliasAt ss)) = true := (in_strs _ _).symm.trans e4
              refine ⟨_, rfl, .inl ⟨rfl, _, SqL.of eT⟩, _, rfl, _, rfl, _, rfl, (by show 3 ≤ sizeLine; decide), fun t nt => ?_⟩
              have j1 := new_same (o := .tup [.str p.d, .str s.nick, .str p.c]) nt
              refine ⟨T, ts, _, rfl, rfl, j1 _ _ eT, by omega, ?_⟩
              obtain ⟨a1, a2, a3⟩ := put (p' := ⟨p.d, s.nick, p.c⟩) nt (by unfold tie1; rw [hc, if_neg (by simp), e3, e4]; rfl) _ rfl
              exact ⟨a1, a2, a3, _, _, _, _, rfl⟩
            · have e4 : decide (s.nick ∈ js.map (aliasAt ss)) = false := (in_strs _ _).symm.trans (Bool.eq_false_iff.mpr e4)
              refine ⟨s5, ea5, ⟨ts, eT, by omega, ?_⟩, _, _, _, _, rfl⟩
              rw [tj, show tie1 (aliasAt ss n) (js.map (aliasAt ss)) s p = [] by unfold tie1; rw [hc, if_neg (by simp), e4, Bool.and_false, if_neg (by simp)], List.append_nil]
              exact hT
          · have e3 : decide (p.o = aliasAt ss n) = false := decide_eq_false fun z => e3 (decide_eq_true (by rw [z]))
            refine ⟨s5, ea5, ⟨ts, eT, by omega, ?_⟩, _, _, _, _, rfl⟩
            rw [tj, show tie1 (aliasAt ss n) (js.map (aliasAt ss)) s p = [] by unfold tie1; rw [hc, if_neg (by simp), e3, Bool.false_and, if_neg (by simp)], List.append_nil]
            exact hT
      · have hc : (decide (s.nick = aliasAt ss n) && decide (p.o ∈ js.map (aliasAt ss))) = false := by
          rw [show decide (s.nick = aliasAt ss n) = false from decide_eq_false fun z => e (decide_eq_true (by rw [z])), Bool.false_and]
        refine ⟨_, rfl, _, rfl, rfl, _, rfl, ite2 (fun e3 => ?_) (fun e3 => ?_)⟩
        · have e3 : decide (p.o = aliasAt ss n) = true := decide_eq_true (V.str.inj (of_decide_eq_true e3))
          refine ⟨_, rfl, _, rfl, al, _, rfl, .inl (SqL.of ea5), rfl, flat_strs _, _, rfl, ite2 (fun e4 => ?_) (fun e4 => ?_)⟩
          · have e4 : decide (s.nick ∈ js.map (aliasAt ss)) = true := (in_strs _ _).symm.trans e4
            refine ⟨_, rfl, .inl ⟨rfl, _, SqL.of eT⟩, _, rfl, _, rfl, _, rfl, (by show 3 ≤ sizeLine; decide), fun t nt => ?_⟩
            have j1 := new_same (o := .tup [.str p.d, .str s.nick, .str p.c]) nt
            refine ⟨T, ts, _, rfl, rfl, j1 _ _ eT, by omega, ?_⟩
            obtain ⟨a1, a2, a3⟩ := put (p' := ⟨p.d, s.nick, p.c⟩) nt (by unfold tie1; rw [hc, if_neg (by simp), e3, e4]; rfl) _ rfl
            exact ⟨a1, a2, a3, _, _, _, _, rfl⟩
          · have e4 : decide (s.nick ∈ js.map (aliasAt ss)) = false := (in_strs _ _).symm.trans (Bool.eq_false_iff.mpr e4)
            refine ⟨s5, ea5, ⟨ts, eT, by omega, ?_⟩, _, _, _, _, rfl⟩
            rw [tj, show tie1 (aliasAt ss n) (js.map (aliasAt ss)) s p = [] by unfold tie1; rw [hc, if_neg (by simp), e4, Bool.and_false, if_neg (by simp)], List.append_nil]
            exact hT
        · have e3 : decide (p.o = aliasAt ss n) = false := decide_eq_false fun z => e3 (decide_eq_true (by rw [z]))
          refine ⟨s5, ea5, ⟨ts, eT, by omega, ?_⟩, _, _, _, _, rfl⟩
          rw [tj, show tie1 (aliasAt ss n) (js.map (aliasAt ss)) s p = [] by unfold tie1; rw [hc, if_neg (by simp), e3, Bool.false_and, if_neg (by simp)], List.append_nil]
          exact hT
    · rintro σ H5 ⟨s5, ea5, ⟨ts, eT, lt, hT⟩, y10, y11, y12, y13, rfl⟩
      rw [lp, List.take_length] at hT
      refine ⟨s5, ea5, ⟨ts, eT, by omega, ?_⟩, _, _, _, _, _, _, _, _, rfl⟩
      rw [take_at es, List.flatMap_append, List.flatMap_cons, List.flatMap_nil, List.append_nil]
      exact hT
  · rintro σ H3 ⟨s3, ea3, ⟨ts, eT, lt, hT⟩, y6, y7, y8, y9, y10, y11, y12, y13, rfl⟩
    rw [lX, List.take_length] at hT
    exact ⟨_, rfl, q T ts H3 s3 nT0 eT hT⟩
end
end K37
end

section
set_option Elab.async false
set_option linter.all false
set_option maxRecDepth 100000
set_option maxHeartbeats 4000000
/-! zip(t, l): a tuple beside a list. -/
namespace Gd
open PySem PySem.Spec PyProof.Rows L2

/-- the tuple at a, the list at b, as they stand at each turn -/
def ItTL (K : PySem.W.Frag) (a b : Addr) : It where
  go i H := ∃ (xs ys : List V) (x y : V), SqT K H a xs ∧ SqL K H b ys ∧ xs[i]? = some x ∧ ys[i]? = some y
  yld i H v H' := ∃ T x y, v = .ref T ∧ H T = none ∧ H' = upd H T (.tup [x, y]) ∧ (∀ xs, SqT K H a xs → xs[i]? = some x) ∧ ∀ ys, SqL K H b ys → ys[i]? = some y
  stop i H := ∃ xs ys : List V, SqT K H a xs ∧ SqL K H b ys ∧ ys.length = i ∧ xs.length = i

theorem apN {a b : Nat} (h : ¬ a = b) : (a : Addr) ≠ (b : Addr) := h
theorem apL {x a b : Nat} (h1 : ¬ x = a) (h2 : ¬ x = b) : (x : Addr) ∉ ([a, b] : List Addr) := by
  intro h
  rcases List.mem_cons.mp h with h | h
  · exact h1 h
  · rcases List.mem_cons.mp h with h | h
    · exact h2 h
    · cases h
/-- the five cells of such a zip, the first at n -/
def five (n : Nat) : List Addr := [n + 4, n + 2, n + 3, n, n + 1]
theorem mem5 {n c : Nat} (h : c ∈ five n) : n ≤ c ∧ c < n + 5 := by
  simp only [five, List.mem_cons, List.not_mem_nil, or_false] at h
  omega
theorem in5 {n c : Nat} (h : n ≤ c) (h' : c < n + 5) : c ∈ five n := by
  simp only [five, List.mem_cons, List.not_mem_nil, or_false]
  omega
theorem sep5 {n a b : Nat} (ha : a < n) (hb : b < n) : ZipSep2 (n + 4) (n + 2) (n + 3) n (n + 1) [n, a] [n + 1, b] := by
  constructor
  · exact apN (by omega)
  · exact apN (by omega)
  · exact apN (by omega)
  · exact apN (by omega)
  · simp
  · exact apL (by omega) (by omega)
  · exact apL (by omega) (by omega)
  · exact apN (by omega)
  · simp
  · exact apL (by omega) (by omega)
  · exact apL (by omega) (by omega)
  · exact apL (by omega) (by omega)
  · exact apL (by omega) (by omega)
def St5 (n a b : Nat) (i : Nat) (h : Heap) : Prop :=
  IsZip h (n + 4) (n + 2) (n + 3) .none ∧ IsTupOf2 h (n + 2) (.ref n) (.ref (n + 1)) ∧ (∃ x y, IsTupOf2 h (n + 3) x y) ∧
    h.IsTupleIter n a i ∧ h.IsListIter (n + 1) b i ∧ a < n ∧ b < n ∧ n + 5 ≤ h.objs.size
theorem st5_obj {n a b i : Nat} {h : Heap} (st : St5 n a b i h) {c : Addr} (hc : c ∈ five n) : ∃ o, h.get? c = some o ∧ ∀ v, o.data ≠ .cell v := by
  obtain ⟨hz, hi, ⟨x, y, ho⟩, ⟨o1, e1, _, d1⟩, ⟨o2, e2, _, d2⟩, _⟩ := st
  simp only [five, List.mem_cons, List.not_mem_nil, or_false] at hc
  rcases hc with rfl | rfl | rfl | rfl | rfl
  · exact ⟨_, hz, fun v z => nomatch z⟩
  · exact ⟨_, hi, fun v z => nomatch z⟩
  · exact ⟨_, ho, fun v z => nomatch z⟩
  · exact ⟨o1, e1, fun v z => by rw [d1] at z; cases z⟩
  · exact ⟨o2, e2, fun v z => by rw [d2] at z; cases z⟩
theorem st5_keep {n a b i : Nat} {h h' : Heap} (st : St5 n a b i h) (hs : n + 5 ≤ h'.objs.size) (k : ∀ c ∈ five n, ∀ o, h.get? c = some o → h'.get? c = some o) : St5 n a b i h' := by
  obtain ⟨hz, hi, ⟨x, y, ho⟩, h1, h2, la, lb, _⟩ := st
  have m : ∀ j, j < 5 → n + j ∈ five n := fun j hj => in5 (by omega) (by omega)
  exact ⟨k _ (m 4 (by omega)) _ hz, k _ (m 2 (by omega)) _ hi, ⟨x, y, k _ (m 3 (by omega)) _ ho⟩, h1.at fun o e => k n (m 0 (by omega)) o e, h2.at fun o e => k _ (m 1 (by omega)) o e, la, lb, hs⟩
theorem size_of_get {h : Heap} {n : Nat} {o : Obj} (e : h.get? (n + 4) = some o) : n + 5 ≤ h.objs.size := Heap.lt_size e

theorem turn_TL {P : Program} {w : World} {K : PySem.W.Frag} {elts : List Expr} {kk : Nat} {tpos : Pos} {a b n : Addr} :
    Turn P w K (.Tuple elts kk tpos) (ItTL K a b) (five n) (n + 4) (St5 n a b) where
  mem := in5 (by omega) (by omega)
  obj := fun i h st c hc => st5_obj st hc
  keep := fun i h h' st k => by
    obtain ⟨o, e⟩ : ∃ o, h.get? (n + 4) = some o := ⟨_, st.1⟩
    exact st5_keep st (size_of_get (k _ (in5 (by omega) (by omega)) _ e)) k
  item := by
    intro X hP hw hK hc i pins s σ H E I hf st hg
    subst hP hw hK
    have st0 := st
    obtain ⟨hz, hi, ⟨x0, y0, ho⟩, h1, h2, la, lb, _⟩ := st
    obtain ⟨xs, ys, x, y, qx, qy, hx, hy⟩ := hg
    obtain ⟨as, rv, p, _⟩ := I.tuple qx
    obtain ⟨bs, rv2, p2, _⟩ := I.list qy
    obtain ⟨u, hu, ru⟩ := rv.get hx
    obtain ⟨u2, hu2, ru2⟩ := rv2.get hy
    have hh := I.ok.hd hc
    have hh1 : X.A.in1.handled = none := hh
    have hia : i < as.toArray.size := by
      rw [List.size_toArray]
      exact (List.getElem?_eq_some_iff.mp hu).1
    have hib : i < bs.toArray.size := by
      rw [List.size_toArray]
      exact (List.getElem?_eq_some_iff.mp hu2).1
    refine wpAny_pyNext_zipD2_item (sep5 la lb) (.tuple hh1 n a (Nat.ne_of_lt la) as.toArray) (.list hh1 (n + 1) b (apN (by omega)) bs.toArray) hz hi ho ⟨h1, p⟩ ⟨h2, p2.isList⟩ hia hib ?_
    intro x1 x2 h' tk e1 e2 z' o' g1 g2 hT hsz hk
    have eu : x1 = u := by
      have : as.toArray[i]? = some u := by simpa using hu
      exact Option.some.inj (e1.symm.trans this)
    have eu2 : x2 = u2 := by
      have : bs.toArray[i]? = some u2 := by simpa using hu2
      exact Option.some.inj (e2.symm.trans this)
    subst eu eu2
    have old : ∀ {c o}, s.heap.get? c = some o → c ≠ s.heap.objs.size := fun e => Nat.ne_of_lt (Heap.lt_size e)
    refine ⟨_, rfl, wpAny_letOwnedTupleGo_zip z' fun h3 z3 sb => ?_⟩
    have stay : ∀ c o, c ∉ five n → s.heap.get? c = some o → h3.get? c = some o := fun c o nc e =>
      (sb.2 c (fun q => nc (q ▸ in5 (by omega) (by omega)))).trans (hk c o (fun q => nc (q ▸ in5 (by omega) (by omega))) (fun q => nc (q ▸ in5 (by omega) (by omega)))
        (fun q => nc (q ▸ in5 (by omega) (by omega))) (fun q => nc (q ▸ in5 (by omega) (by omega))) e)
    have t3 : h3.get? s.heap.objs.size = some { cls := .type "tuple", data := .seq #[x1, x2] } := (sb.2 _ (old hz).symm).trans hT
    have fine : ObjOk X.prog X.w (upd H s.heap.objs.size (.tup [x, y])) h3 s.heap.objs.size (.tup [x, y]) :=
      ⟨by show 2 ≤ sizeLine; decide, [x1, x2], .cons ru (.cons ru2 .nil), ⟨_, t3, rfl, _, rfl⟩⟩
    have I3 := I.turnedNew (t' := tk) (ch := five n) stay hf (Nat.le_refl _) fine
    have sz : h3.objs.size = h'.objs.size := sb.1
    have sz2 : n + 5 ≤ s.heap.objs.size := size_of_get hz
    refine ⟨.ref s.heap.objs.size, _, I3, rfl, ⟨_, x, y, rfl, I.hok.fresh (Nat.le_refl _), rfl, fun l hl => ?_, fun l hl => ?_⟩, ⟨z3, ?_, ⟨x1, x2, ?_⟩, ?_, ?_, la, lb, ?_⟩, fun c hcm => ?_⟩
    · rw [I.tuple_inj hl qx]; exact hx
    · rw [I.list_inj hl qy]; exact hy
    · exact (sb.2 _ (apN (by omega))).trans (hk _ _ (apN (by omega)) (apN (by omega)) (apN (by omega)) (apN (by omega)) hi)
    · exact (sb.2 _ (apN (by omega))).trans o'
    · exact g1.1.at fun o q => (sb.2 _ (apN (by omega))).trans q
    · exact g2.1.at fun o q => (sb.2 _ (apN (by omega))).trans q
    · rw [sz, hsz]
      omega
    · have := (mem5 hcm).2
      rw [upd_ne (apN (by omega))]
      exact (hf c hcm).1
  done := by
    intro X hP hw hK hc i pins s σ H E I hf st hg
    subst hP hw hK
    obtain ⟨hz, hi, ⟨x0, y0, ho⟩, h1, h2, la, lb, _⟩ := st
    obtain ⟨xs, ys, qx, qy, ey, ex⟩ := hg
    obtain ⟨as, rv, p, _⟩ := I.tuple qx
    obtain ⟨bs, rv2, p2, _⟩ := I.list qy
    have l1 := rv.length
    have l2 := rv2.length
    have hh := I.ok.hd hc
    have hh1 : X.A.in1.handled = none := hh
    have sa : as.toArray.size = i := by rw [List.size_toArray]; omega
    have sb : bs.toArray.size = i := by rw [List.size_toArray]; omega
    refine wpAny_pyNext_zipD2_end (sep5 la lb) (.tuple hh1 n a (Nat.ne_of_lt la) as.toArray) (.list hh1 (n + 1) b (apN (by omega)) bs.toArray) hz hi ho ⟨h1, p⟩ ⟨h2, p2.isList⟩ (by omega) (by omega) (by omega) ?_
    intro h' tk hk
    refine ⟨rfl, I.turnedL (t' := tk) (ch := five n) (fun c o nc e => ?_) hf⟩
    exact hk c o (fun q => nc (q ▸ in5 (by omega) (by omega))) (fun q => nc (q ▸ in5 (by omega) (by omega))) (fun q => nc (q ▸ in5 (by omega) (by omega))) (fun q => nc (q ▸ in5 (by omega) (by omega))) e
  self := fun A i s Q E st h => wpAny_pyIter_zip st.1 h

def iTL (K : PySem.W.Frag) (ta : TA) : TI := fun σ H R => ta σ H fun vs H1 => ∃ a b xs ys, vs = [.ref a, .ref b] ∧ SqT K H1 a xs ∧ SqL K H1 b ys ∧ xs.length = ys.length ∧ R (ItTL K a b) H1
theorem pi_TL {X : Cx} {e e2 : Expr} {ta : TA} {p pos tpos : Pos} {elts : List Expr} {kk : Nat} (hg : Gl X "zip") (hm : X.mg "zip" = none) (ha : PA X [e, e2] ta)
    (hs : starEach [e, e2] X.env = (false, eval e X.env) :: starEach [e2] X.env := by rfl) (hpl : (backTo pos (starEach [e2] X.env)).any (·.1) = false := by rfl) :
    PI X (.Tuple elts kk tpos) (.Call (.Name "zip" p) [e, e2] [] pos) (iTL X.K ta) := by
  refine ⟨fun pins s σ H R I h => Call_ (ld_blt I hg hm PyProof.Rows.boot_zip (PyProof.Rows.callWith_type1 (thn (ha.run pos pins s σ H _ I h) ?_) hs hpl))⟩
  rintro us s1 ⟨vs, H1, J, r, a, b, xs, ys, rfl, qx, qy, hl, q⟩
  obtain ⟨u1, u2, rfl, r1, r2⟩ := vals2 r
  cases r1
  cases r2
  obtain ⟨as, rv, p1, _⟩ := J.tuple qx
  obtain ⟨bs, rv2, p2, _⟩ := J.list qy
  have la : a < s1.heap.objs.size := by
    obtain ⟨o, e, _⟩ := id p1
    exact Heap.lt_size e
  refine zip_begins2 (begins_tuple a as.toArray) (begins_list b bs.toArray) p1 p2.isList ?_
  intro h' hz hi ho g1 g2 hsz hk
  refine wpAny_pyIter_zip hz ?_
  refine ⟨s1.heap.objs.size + 4, five s1.heap.objs.size, _, _, H1, rfl, J.kept (t' := s1.toks) hk, turn_TL (a := a) (b := b), ?_, fun c hc => ?_, q⟩
  · exact ⟨hz, hi, ⟨_, _, ho⟩, ⟨_, g1, rfl, rfl⟩, ⟨_, g2, rfl, rfl⟩, la, p2.lt, by rw [hsz]; exact Nat.le_refl _⟩
  · have hle := (mem5 hc).1
    exact (J.kept (t' := s1.toks) (fun _ _ z => z)).fpOk hle (J.hok.fresh hle)
end Gd
end

section
set_option Elab.async false
set_option linter.all false
set_option maxRecDepth 100000
set_option maxHeartbeats 4000000
/-! enumerate(t), t a tuple. -/
namespace Gd
open PySem PySem.Spec PyProof.Rows L2
/-- the tuple at a, numbered -/
def ItET (K : PySem.W.Frag) (a : Addr) : It where
  go i H := ∃ (xs : List V) (x : V), SqT K H a xs ∧ xs[i]? = some x
  yld i H v H' := ∃ T x, v = .ref T ∧ H T = none ∧ H' = upd H T (.tup [.int (i : Nat), x]) ∧ ∀ xs, SqT K H a xs → xs[i]? = some x
  stop i H := ∃ xs : List V, SqT K H a xs ∧ xs.length = i
/-- its two cells, the first at n -/
def duo (n : Nat) : List Addr := [n + 1, n]
theorem mem2 {n c : Nat} (h : c ∈ duo n) : n ≤ c ∧ c < n + 2 := by
  simp only [duo, List.mem_cons, List.not_mem_nil, or_false] at h
  omega
theorem in2 {n c : Nat} (h : n ≤ c) (h' : c < n + 2) : c ∈ duo n := by
  simp only [duo, List.mem_cons, List.not_mem_nil, or_false]
  omega
def StE (n a : Nat) (i : Nat) (h : Heap) : Prop := (∃ old, IsEnum h (n + 1) n ((i : Nat) : Int) old) ∧ h.IsTupleIter n a i ∧ a < n ∧ n + 2 ≤ h.objs.size
theorem size2 {h : Heap} {n : Nat} {o : Obj} (e : h.get? (n + 1) = some o) : n + 2 ≤ h.objs.size := Heap.lt_size e
theorem turn_ET {P : Program} {w : World} {K : PySem.W.Frag} {elts : List Expr} {kk : Nat} {tpos : Pos} {a n : Addr} :
    Turn P w K (.Tuple elts kk tpos) (ItET K a) (duo n) (n + 1) (StE n a) where
  mem := in2 (by omega) (by omega)
  obj := fun i h st c hc => by
    obtain ⟨⟨old, e1⟩, ⟨o, e2, _, d2⟩, _⟩ := st
    simp only [duo, List.mem_cons, List.not_mem_nil, or_false] at hc
    rcases hc with rfl | rfl
    · exact ⟨_, e1, fun v z => nomatch z⟩
    · exact ⟨o, e2, fun v z => by rw [d2] at z; cases z⟩
  keep := fun i h h' st k => by
    obtain ⟨⟨old, e1⟩, t1, la, _⟩ := st
    have e3 := k (n + 1) (in2 (by omega) (by omega)) _ e1
    exact ⟨⟨old, e3⟩, t1.at fun o e => k n (in2 (by omega) (by omega)) o e, la, size2 e3⟩
  item := by
    intro X hP hw hK hc i pins s σ H E I hf st hg
    subst hP hw hK
    obtain ⟨⟨old, e1⟩, t1, la, sz0⟩ := st
    obtain ⟨xs, x, qx, hx⟩ := hg
    obtain ⟨as, rv, p, _⟩ := I.tuple qx
    obtain ⟨u, hu, ru⟩ := rv.get hx
    have hh1 : X.A.in1.handled = none := I.ok.hd hc
    have hia : i < as.toArray.size := by
      rw [List.size_toArray]
      exact (List.getElem?_eq_some_iff.mp hu).1
    have nin : (n + 1 : Nat) ∉ ([n, a] : List Addr) := apL (by omega) (by omega)
    refine wpAny_pyNext_enum_itemD (.tuple hh1 n a (Nat.ne_of_lt la) as.toArray) e1 ⟨t1, p⟩ hia (apN (by omega)) nin ?_
    intro y h' tk ey z' g1 hT hsz hk
    have eu : y = u := by
      have : as.toArray[i]? = some u := by simpa using hu
      exact Option.some.inj (ey.symm.trans this)
    subst eu
    refine ⟨_, rfl, wpAny_letOwnedTupleGo_enum z' fun h3 z3 sb => ?_⟩
    have old3 : ∀ {c o}, s.heap.get? c = some o → c ≠ s.heap.objs.size := fun e => Nat.ne_of_lt (Heap.lt_size e)
    have stay : ∀ c o, c ∉ duo n → s.heap.get? c = some o → h3.get? c = some o := fun c o nc e =>
      (sb.2 c (fun q => nc (q ▸ in2 (by omega) (by omega)))).trans (hk c o (fun q => nc (q ▸ in2 (by omega) (by omega))) (fun q => nc (q ▸ in2 (by omega) (by omega))) e)
    have t3 : h3.get? s.heap.objs.size = some { cls := .type "tuple", data := .seq #[.int i tk, y] } := (sb.2 _ (old3 e1).symm).trans hT
    have fine : ObjOk X.prog X.w (upd H s.heap.objs.size (.tup [.int (i : Nat), x])) h3 s.heap.objs.size (.tup [.int (i : Nat), x]) :=
      ⟨by show 2 ≤ sizeLine; decide, [.int i tk, y], .cons ⟨_, rfl⟩ (.cons ru .nil), ⟨_, t3, rfl, _, rfl⟩⟩
    have I3 := I.turnedNew (t' := tk + 1) (ch := duo n) stay hf (Nat.le_refl _) fine
    have sz : h3.objs.size = h'.objs.size := sb.1
    refine ⟨.ref s.heap.objs.size, _, I3, rfl, ⟨_, x, rfl, I.hok.fresh (Nat.le_refl _), rfl, fun l hl => ?_⟩, ⟨⟨y, ?_⟩, ?_, la, ?_⟩, fun c hcm => ?_⟩
    · rw [I.tuple_inj hl qx]; exact hx
    · rw [show ((i + 1 : Nat) : Int) = (i : Int) + 1 by omega]
      exact z3
    · exact g1.1.at fun o q => (sb.2 _ (apN (by omega))).trans q
    · rw [sz, hsz]
      omega
    · have := (mem2 hcm).2
      rw [upd_ne (apN (by omega))]
      exact (hf c hcm).1
  done := by
    intro X hP hw hK hc i pins s σ H E I hf st hg
    subst hP hw hK
    obtain ⟨⟨old, e1⟩, t1, la, sz0⟩ := st
    obtain ⟨xs, qx, ex⟩ := hg
    obtain ⟨as, rv, p, _⟩ := I.tuple qx
    have l1 := rv.length
    have hh1 : X.A.in1.handled = none := I.ok.hd hc
    have sa : as.toArray.size = i := by rw [List.size_toArray]; omega
    subst sa
    refine wpAny_pyNext_enum_endD (.tuple hh1 n a (Nat.ne_of_lt la) as.toArray) e1 ⟨t1, p⟩ ?_
    intro h' hk
    exact ⟨rfl, I.turnedL (t' := s.toks) (ch := duo n) (fun c o nc e => hk c o (fun q => nc (q ▸ in2 (by omega) (by omega))) e) hf⟩
  self := fun A i s Q E st h => by
    obtain ⟨⟨old, e1⟩, _⟩ := st
    exact wpAny_pyIter_enum e1 h

/-! making it -/
abbrev cellE (n : Nat) : Obj := { cls := .type "enumerate", data := .fields #[.none, .bool false, .ref n, rawInt 0, .none, .none] }
theorem make_ET {v : Value} {o : Obj} {Z : Heap → Prop} (B : Begins v o Z) : Meets (Builtin.«enumerate.__new__» ⟨[.type "enumerate", v], []⟩)
    (fun _ R s => Z s.heap ∧ R (.ok (.ret (.ref (s.heap.push o).objs.size))) { s with heap := (s.heap.push o).push (cellE s.heap.objs.size) }) := by
  refine .of_wp fun prog w A R s z => ?_
  obtain ⟨hp, g, d, tk, os⟩ := s
  have sub := sub_enumerate
  have go : ∀ {A' : Around} {F Q : Value → Shared → Prop}, Q (.ref hp.objs.size) ⟨hp.push o, g, d, tk, os⟩ → wpAny (model prog w) A' (pyIter v) Q F ⟨hp, g, d, tk, os⟩ := fun y => B.iter prog w _ _ ⟨hp, g, d, tk, os⟩ _ z.1 y
  wp_walk using go
  refine wpAny_stack_any fun stk => wpAny_pure ?_
  split
  · rename_i c _ _ _ _ _
    cases (c == Value.type "enumerate") <;> (wp_walk using go; exact ⟨_, rfl, z.2⟩)
  · wp_walk using go
    exact ⟨_, rfl, z.2⟩
theorem call_ET {prog : Program} {w : World} {A : Around} {G Q : Value → Shared → Prop} {s : Shared} {v : Value} {o : Obj} {Z : Heap → Prop} (B : Begins v o Z) (z : Z s.heap)
    (q : ∀ h', IsEnum h' (s.heap.objs.size + 1) s.heap.objs.size 0 .none → h'.get? s.heap.objs.size = some o → h'.objs.size = s.heap.objs.size + 2 → (∀ b o', s.heap.get? b = some o' → h'.get? b = some o') →
      Q (.ref (s.heap.objs.size + 1)) { s with heap := h' }) : wpAny (model prog w) A (call (.type "enumerate") [v]) Q G s := by
  have e1 : (s.heap.push o).objs.size = s.heap.objs.size + 1 := Heap.size_push ..
  have e2 : IsEnum ((s.heap.push o).push (cellE s.heap.objs.size)) (s.heap.objs.size + 1) s.heap.objs.size 0 .none := by
    rw [← e1]
    exact Heap.get?_push_size (s.heap.push o) (o := cellE s.heap.objs.size) rfl
  refine callType_new F.called_enumerate (by decide) (F.typeCall_enumerate_1 _) (F.newCall_enumerate_1 _) (fun obj => F.args_object_init_2 obj _) F.entry_enumerate_new (make_ET B) ⟨z, ?_⟩
  show _ ∧ _
  rw [e1]
  exact ⟨⟨_, e2, rfl⟩, q _ e2 (Heap.get?_push_of_some _ (Heap.get?_push_size _ B.free)) (by rw [Heap.size_push, e1]) fun b o' y => Heap.get?_push_of_some _ (Heap.get?_push_of_some _ y)⟩
def iET (K : PySem.W.Frag) (ta : TA) : TI := fun σ H R => ta σ H fun vs H1 => ∃ a xs, vs = [.ref a] ∧ SqT K H1 a xs ∧ R (ItET K a) H1
theorem pi_ET {X : Cx} {e : Expr} {ta : TA} {p pos tpos : Pos} {elts : List Expr} {kk : Nat} (hg : Gl X "enumerate") (hm : X.mg "enumerate" = none) (ha : PA X [e] ta) (hs : starEach [e] X.env = [(false, eval e X.env)] := by rfl) :
    PI X (.Tuple elts kk tpos) (.Call (.Name "enumerate" p) [e] [] pos) (iET X.K ta) := by
  refine ⟨fun pins s σ H R I h => Call_ (ld_blt I hg hm boot_enumerate (PyProof.Rows.callWith_type1 (thn (ha.run pos pins s σ H _ I h) ?_) hs rfl))⟩
  rintro us s1 ⟨vs, H1, J, r, a, xs, rfl, qx, q⟩
  obtain ⟨u1, rfl, r1⟩ := vals1 r
  cases r1
  obtain ⟨as, rv, p1, _⟩ := J.tuple qx
  have la : a < s1.heap.objs.size := by
    obtain ⟨o, e, _⟩ := id p1
    exact Heap.lt_size e
  refine call_ET (begins_tuple a as.toArray) p1 ?_
  intro h' he g1 hsz hk
  refine wpAny_pyIter_enum he ?_
  refine ⟨s1.heap.objs.size + 1, duo s1.heap.objs.size, _, _, H1, rfl, J.kept (t' := s1.toks) hk, turn_ET (a := a), ?_, fun c hc => ?_, q⟩
  · exact ⟨⟨_, he⟩, ⟨_, g1, rfl, rfl⟩, la, by rw [hsz]; exact Nat.le_refl _⟩
  · have hle := (mem2 hc).1
    exact (J.kept (t' := s1.toks) (fun _ _ z => z)).fpOk hle (J.hok.fresh hle)
theorem walk_ET {K : PySem.W.Frag} {a : Addr} {xs : List V} : Walk (ItET K a) xs.length (fun H => SqT K H a xs) (YPair (fun i => some (.int (i : Nat))) (fun i => xs[i]?)) := by
  refine ⟨fun i _ hi q => ⟨xs, xs[i], q, by simp [hi]⟩, fun _ q => ⟨xs, q, rfl⟩, fun i H v H' _ q y => ?_⟩
  obtain ⟨T, x, h1, h2, h3, h4⟩ := y
  exact ⟨T, .int (i : Nat), x, h1, h2, h3, rfl, h4 xs q⟩
/-! is a truth, of a truth or None -/
theorem op_is_fl {X : Cx} : OpR X (compareOp .Is) (fun x y H Q => ∃ b, y = .bl b ∧ ((∃ a, x = .bl a ∧ Q (.bl (decide (a = b))) H) ∨ (x = .non ∧ Q (.bl false) H))) := by
  intro pins s σ H x y v u Q I rx ry h
  obtain ⟨b, rfl, ⟨a, rfl, q⟩ | ⟨rfl, q⟩⟩ := h
  · exact op_is_bl pins s σ H _ _ v u Q I rx ry ⟨a, b, rfl, rfl, q⟩
  · cases rx
    cases (show u = Value.bool b from ry)
    exact wpAny_is_other rfl (fun z => nomatch z) ⟨.bl false, H, I, rfl, q⟩
theorem op_isnot_fl {X : Cx} : OpR X (compareOp .IsNot) (fun x y H Q => ∃ b, y = .bl b ∧ ((∃ a, x = .bl a ∧ Q (.bl (!decide (a = b))) H) ∨ (x = .non ∧ Q (.bl true) H))) := by
  intro pins s σ H x y v u Q I rx ry h
  obtain ⟨b, rfl, ⟨a, rfl, q⟩ | ⟨rfl, q⟩⟩ := h
  · exact op_isnot_bl pins s σ H _ _ v u Q I rx ry ⟨a, b, rfl, rfl, q⟩
  · cases rx
    cases (show u = Value.bool b from ry)
    exact wpAny_isNot_other rfl (fun z => nomatch z) ⟨.bl true, H, I, rfl, q⟩
end Gd
end

section
set_option Elab.async false
set_option linter.all false
set_option maxRecDepth 100000
set_option maxHeartbeats 4000000
namespace Gd
open PySem PySem.Spec PyProof.Rows L2
section
variable {X : Cx}
/-- t[lo:hi], whichever object it is -/
def rSlC (K : PySem.W.Frag) : V → Option Int → Option Int → Hp → VK → Prop := fun x lo hi H Q => ∃ a xs, x = .ref a ∧ SqT K H a xs ∧ ∀ p H', Same H H' → SqT K H' p (cutV xs lo hi) → Q (.ref p) H'
theorem sl_tupC : SlR X (rSlC X.K) := by
  intro pins s σ H x v vl vu lo hi sl Q I rx hs pl pu h
  obtain ⟨a, xs, rfl, hx, q⟩ := h
  refine sl_tupA pins s σ H _ v vl vu lo hi sl Q I rx hs pl pu ⟨a, xs, rfl, hx, fun w => ?_, fun w p hp => q p _ (new_same hp) (SqT.of upd_same)⟩
  refine q a H (fun _ _ e => e) ?_
  have e : cutV xs lo hi = xs := by
    unfold cutV
    rw [w.1, w.2, List.drop_zero, Nat.sub_zero, List.take_length]
  rw [e]
  exact hx
end
theorem cutV_to {xs : List V} {i : Nat} (h : i ≤ xs.length) : cutV xs none (some (i : Int)) = xs.take i := by
  unfold cutV
  rw [HT.sIx_none, HT.sIx_nat, List.drop_zero, Nat.sub_zero, Nat.min_eq_left h]
theorem putK_new {kvs : List (Key × V)} {k : Key} {v : V} (h : ∀ x ∈ kvs, x.1 ≠ k) : putK kvs k v = kvs ++ [(k, v)] := by
  unfold putK
  rw [if_neg]
  intro e
  obtain ⟨x, hx, ex⟩ := List.any_eq_true.mp e
  exact h x hx (of_decide_eq_true ex)
/-- links in the heap -/
def LkAt (K : PySem.W.Frag) (H : Hp) (kvs : List (Key × V)) (ls : List (Nat × Pr)) : Prop := kvs.map (·.1) = ls.map (fun x => (Sum.inl ((x.1 : Nat) : Int) : Key)) ∧ DpAll K H (kvs.map (·.2)) (ls.map fun x => prD x.2)
theorem LkAt.len {K : PySem.W.Frag} {H : Hp} {kvs : List (Key × V)} {ls : List (Nat × Pr)} (h : LkAt K H kvs ls) : kvs.length = ls.length := by
  have := congrArg List.length h.1
  simpa using this
theorem LkAt.put {K : PySem.W.Frag} {H : Hp} {kvs : List (Key × V)} {ls : List (Nat × Pr)} {n : Nat} {p : Pr} {v : V} (h : LkAt K H kvs ls) (hv : Dp K H v (prD p)) (hn : ∀ x ∈ ls, x.1 ≠ n) :
    LkAt K H (putK kvs (Sum.inl ((n : Nat) : Int)) v) (ls ++ [(n, p)]) := by
  have fresh : ∀ x ∈ kvs, x.1 ≠ (Sum.inl ((n : Nat) : Int) : Key) := fun x hx e => by
    have m : x.1 ∈ ls.map (fun x => (Sum.inl ((x.1 : Nat) : Int) : Key)) := by
      rw [← h.1]
      exact List.mem_map_of_mem hx
    obtain ⟨y, hy, ey⟩ := List.mem_map.mp m
    rw [e] at ey
    have z := Sum.inl.inj ey
    exact hn y hy (by omega)
  rw [putK_new fresh]
  refine ⟨?_, ?_⟩
  · rw [List.map_append, List.map_append, h.1]
    rfl
  · rw [List.map_append, List.map_append]
    exact DpAll.snoc h.2 hv
theorem tups_dk {K : PySem.W.Frag} {H : Hp} {D : Addr} {xs ys : List (Key × V)} (e : H D = some (.dK xs)) : Tups K H (upd H D (.dK ys)) := by
  intro a zs h
  rcases h with (h | ⟨o, h⟩) | h
  · refine .inl (.inl ?_)
    rw [upd_ne (fun z => by rw [z, e] at h; cases h)]
    exact h
  · refine .inl (.inr ⟨o, ?_⟩)
    rw [upd_ne (fun z => by rw [z, e] at h; cases h)]
    exact h
  · exact .inr h
theorem prs2_only : ∀ ls : List (Nat × Pr), tupOnlyAll (ls.map fun x => prD x.2) = true
  | [] => rfl
  | p :: ps => by
    rw [List.map_cons]
    simp only [tupOnlyAll, prs2_only ps, Bool.and_true]
    rfl
theorem LkAt.tups {K : PySem.W.Frag} {H H' : Hp} {kvs : List (Key × V)} {ls : List (Nat × Pr)} (t : Tups K H H') (h : LkAt K H kvs ls) : LkAt K H' kvs ls := ⟨h.1, DpAll.tups t _ (prs2_only ls) h.2⟩
end Gd
namespace K37
open PySem PySem.Spec PyProof.Rows L2 Gd
abbrev sLk : Stmt := topS 5
abbrev nLk : List Str := ["ask", "plan", "sources", "order", "links", "place", "number", "pairs"]
theorem scLk : FnScope nLk ["ask", "plan"] (defScope sLk) := ⟨rfl, rfl, rfl, by decide +kernel, rfl, by decide +kernel, by decide +kernel⟩
/-- an ask's sources -/
def AskAt (K : PySem.W.Frag) (H : Hp) (A : Addr) (ss : List Src) : Prop := ∃ (as xs : List V) (S : Addr), SqT K H A as ∧ as[0]? = some (.ref S) ∧ SqT K H S xs ∧ DpAll K H xs (ss.map srcD)
def Small (ss : List Src) : Prop := ss.length ≤ 10 ∧ ∀ s ∈ ss, s.pairs.length ≤ 10
def intsV (order : List Nat) : List V := order.map fun j => V.int ((j : Nat) : Int)
def spLk (K : PySem.W.Frag) : Sp := fun vs H Q _ => ∃ (A PL : Addr) (ps : List V) (O : Addr) (ss : List Src) (order : List Nat), vs = [.ref A, .ref PL] ∧ AskAt K H A ss ∧ Small ss ∧ SqT K H PL ps ∧ ps[0]? = some (.ref O) ∧ SqT K H O (intsV order) ∧
  order.length ≤ ss.length ∧ order.Nodup ∧ (∀ j ∈ order, j < order.length) ∧ ∀ (l : Addr) (kvs : List (Key × V)) (H' : Hp), Same H H' → H l = none → H' l = some (.dK kvs) → LkAt K H' kvs (linksL ss order) → Q (.ref l) H'
theorem srcs_only : ∀ ss : List Src, (∀ s ∈ ss, s.pairs.length ≤ 10) → tupOnlyAll (ss.map srcD) = true
  | [], _ => rfl
  | s :: ss, h => by
    have a := prs_only s.pairs
    have b := h s (by simp)
    rw [List.map_cons]
    simp only [tupOnlyAll, srcs_only ss (fun s hs => h s (by simp [hs])), Bool.and_true, srcD, tupOnly, a, List.length_map, List.length_cons, List.length_nil, Bool.and_eq_true, decide_eq_true_eq, and_true]
    exact ⟨by decide, trivial, trivial, trivial, by omega⟩
theorem hu_of {n : Nat} {A : Around} (r : Room n A) : A.units + 1 < cLine := by
  have := r.units
  omega
section
variable {P : Program} {w : World} {K : PySem.W.Frag} {mg : Str → Option Value} {base : Heap} {f fB : Addr} {fd dB : FuncData}
theorem ok_lk (F : Fun K "links_of" "links_of" sLk f fd) (me : mg "enumerate" = none) (mr : mg "range" = none) (mn : mg "len" = none)
    (FB : Fun K "pairs_between" "pairs_between" sPB fB dB) (GB : FnOk P w K mg base CX0 1 fB dB ["sources", "number", "ahead"] (spPB K)) (bB : Binds K dB ["sources", "number", "ahead"] []) (gB : mg "pairs_between" = some (.ref fB)) :
    FnOk P w K mg base CX0 2 f fd ["ask", "plan"] (spLk K) := by
  refine F.ok scLk (fun vs H Q E h => ?_) (fun cdv A outer s0 H vs Q E hr h => ?_)
  · obtain ⟨A, PL, ps, O, ss, order, rfl, _⟩ := h
    rfl
  obtain ⟨AK, PL, ps, O, ss, order, rfl, ⟨as, xs, S, hA, e0, hS, hX⟩, ⟨s10, p10⟩, hP, e1, hO, lo, und, olt, q⟩ := h
  have nd := scLk.nd
  have zl : sizeLine = 16777216 := rfl
  have hu := hu_of hr
  refine ⟨_, pss_cons (ps_set (i := 2) nd rfl (.inl rfl) (pe_ix ix_tup (pv 0) pe_int (fun _ _ => rfl)))
      (pss_cons (ps_set (i := 3) nd rfl (.inl rfl) (pe_ix ix_tup (pv 1) pe_int (fun _ _ => rfl)))
      (pss_cons (ps_set (i := 4) nd rfl (.inl rfl) pe_dnewK)
      (pss_cons (ps_for PassesOwn.never rfl (pi_ET (by rfl) me (pa_cons (pv 3) pa_nil)) (pg_tup rfl (pgs_cons (pg_name (i := 5) nd rfl (.inl rfl)) (pgs_cons (pg_name (i := 6) nd rfl (.inl rfl)) pgs_nil)))
      (pss_cons (ps_set (i := 7) nd rfl (.inl rfl) (pe_call GB hr (by rfl) gB FB.kp bB .nil pass0 (pa_cons (pv 2) (pa_cons (pv 6) (pa_cons (pe_slice sl_tupC (pv 3) po_none (po_some (pv 5))) pa_nil)))))
      (pss_one (ps_if (pt_truth (pv 7) (by intro _; rfl))
        (pss_one (ps_dput hu (pv 4) (pv 6) (pe_ix ix_list (pv 7) pe_int (fun _ _ => rfl)) rfl)) pss_nil))))
      (pss_cons (ps_for PassesOwn.never rfl (pi_range2 (by rfl) mr (pa_cons (pe_callB call_len_seq (by rfl) mn PySem.boot_len (pa_cons (pv 3) pa_nil)) (pa_cons (pe_callB call_len_seq (by rfl) mn PySem.boot_len (pa_cons (pv 2) pa_nil)) pa_nil))) (pg_name (i := 6) nd rfl (.inl rfl))
      (pss_cons (ps_set (i := 7) nd rfl (.inl rfl) (pe_ix ix_tup (pe_ix ix_tup (pv 2) (pv 6) (fun _ _ => rfl)) pe_int (fun _ _ => rfl)))
      (pss_one (ps_if (pt_truth (pv 7) (by intro _; rfl))
        (pss_one (ps_dput hu (pv 4) (pv 6) (pe_ix ix_tup (pv 7) pe_int (fun _ _ => rfl)) rfl)) pss_nil))))
      (pss_one (ps_ret (pv 4))))))), ?_⟩
  have lX : xs.length = ss.length := by rw [DpAll.len hX, List.length_map]
  have ol : (intsV order).length = order.length := List.length_map ..
  refine ⟨_, rfl, AK, _, 0, _, rfl, rfl, hA, atI_nat (j := 0) e0, ?_⟩
  refine ⟨_, rfl, PL, _, 0, _, rfl, rfl, hP, atI_nat (j := 0) e1, ?_⟩
  refine fun l nl => ?_
  have s1 := new_same (o := .dK []) nl
  refine ⟨_, rfl, O, _, rfl, same_tup s1 hO, ?_⟩
  have only := srcs_only ss p10
  have nums1 : ∀ {i : Nat}, i < order.length → ∀ x ∈ linksA ss order i, x.1 ≠ order.getD i 0 := fun {i} hi x hx e => by
    obtain ⟨k, hk, ek⟩ := linksA_nums x hx
    rw [ek] at e
    have a : order[k]? = some (order.getD k 0) := by rw [List.getD_eq_getElem?_getD, List.getElem?_eq_getElem (by omega)] <;> rfl
    have b : order[i]? = some (order.getD i 0) := by rw [List.getD_eq_getElem?_getD, List.getElem?_eq_getElem hi] <;> rfl
    have c := (List.getElem?_inj (by omega) und).mp (a.trans ((congrArg some e).trans b.symm))
    omega
  refine for_it walk_ET (fun i σ H1 => Same H H1 ∧ (∃ kvs, H1 l = some (.dK kvs) ∧ LkAt K H1 kvs (linksA ss order i) ∧ kvs.length ≤ i) ∧ ∃ y5 y6 y7, σ = [some (.ref AK), some (.ref PL), some (.ref S), some (.ref O), some (.ref l), y5, y6, y7])
    ⟨s1, ⟨[], upd_same, ⟨rfl, .nil⟩, Nat.le_refl _⟩, _, _, _, rfl⟩ (fun i σ H1 _ h => same_tup h.1 hO) ?_ ?_
  · rintro i x σ H1 H2 hi ⟨s2, ⟨kvs, el, lk, lz⟩, y5, y6, y7, rfl⟩ ⟨T, x1, x2, rfl, nT, rfl, ei, ex⟩
    cases ei
    obtain ⟨j, ej, rfl⟩ := map_at ex
    have hi2 := at_lt ej
    have jo : order.getD i 0 = j := by rw [List.getD_eq_getElem?_getD, ej] <;> rfl
    have jlt := olt j (List.mem_of_getElem? ej)
    have j1 := new_same (o := .tup [.int ((i : Nat) : Int), .int ((j : Nat) : Int)]) nT
    refine ⟨T, _, rfl, SqT.of upd_same, rfl, _, _, rfl, _, _, rfl, rfl, ?_⟩
    have s3 := s2.trans j1
    have el3 := j1 _ _ el
    have lk3 := lk.tups (Tups.of_same j1)
    generalize upd H1 T (.tup [.int ((i : Nat) : Int), .int ((j : Nat) : Int)]) = H3 at s3 el3 lk3 ⊢
    refine ⟨_, rfl, _, rfl, _, rfl, _, rfl, _, rfl, O, _, rfl, same_tup s3 hO, fun p H4 s4 hp => ?_⟩
    rw [cutV_to (by rw [ol]; omega)] at hp
    have hp : SqT K H4 p ((order.take i).map fun j => V.int ((j : Nat) : Int)) := by
      rw [List.map_take]
      exact hp
    have s34 := s3.trans s4
    refine ⟨S, p, j, xs, ss, order.take i, rfl, same_tup s34 hS, DpAll.tups (Tups.of_same s34) _ only hX, by omega, hp, fun j hj => Nat.lt_of_lt_of_le (olt j (List.mem_of_mem_take hj)) lo, by rw [List.length_take]; omega, s10, p10, fun t ts H5 s5 nt et ht => ?_⟩
    have s35 := s34.trans s5
    have el5 := (s4.trans s5) _ _ el3
    have lk5 := lk3.tups (Tups.of_same (s4.trans s5))
    have lt : ts.length = (tied ss j (order.take i)).length := by rw [DpAll.len ht, List.length_map]
    refine ⟨_, rfl, !ts.isEmpty, .inl ⟨ts, SqL.of et, rfl⟩, ?_⟩
    cases ts with
    | nil =>
      refine iteF ⟨s35, ⟨kvs, el5, ?_, by omega⟩, _, _, _, rfl⟩
      have e : link1 ss (order.take i) (order.getD i 0) = [] := by
        rw [jo]
        unfold link1
        rw [List.eq_nil_of_length_eq_zero lt.symm]
      rw [linksA_succ, e, List.append_nil]
      exact lk5
    | cons t0 tr =>
      obtain ⟨p0, pr, ep⟩ : ∃ p0 pr, tied ss j (order.take i) = p0 :: pr := by
        cases e : tied ss j (order.take i) with
        | nil =>
          rw [e] at lt
          cases lt
        | cons p0 pr => exact ⟨_, _, rfl⟩
      rw [ep] at ht
      have hd : Dp K H5 t0 (prD p0) := by
        cases ht with
        | cons a _ => exact a
      refine iteT ?_
      refine ⟨_, rfl, t, _, 0, _, rfl, rfl, SqL.of et, atI_nat (j := 0) rfl, _, rfl, _, rfl, l, _, rfl, DPut.k (k := Sum.inl ((j : Nat) : Int)) el5 (by omega), ?_⟩
      have e : link1 ss (order.take i) (order.getD i 0) = [(j, p0)] := by
        rw [jo]
        unfold link1
        rw [ep]
      have T6 : Tups K H5 (upd H5 l (.dK (putK kvs (Sum.inl ((j : Nat) : Int)) t0))) := tups_dk el5
      have nn := nums1 hi2
      rw [jo] at nn
      refine ⟨own_same nl s35, ⟨_, upd_same, ?_, ?_⟩, _, _, _, rfl⟩
      · rw [linksA_succ, e]
        exact (lk5.put hd nn).tups T6
      · have z := (lk5.put hd nn).len
        have z2 := lk5.len
        rw [List.length_append] at z
        simp only [List.length_cons, List.length_nil] at z
        omega
  · rintro σ H1 ⟨s2, ⟨kvs, el, lk, lz⟩, y5, y6, y7, rfl⟩
    rw [ol] at lk lz
    refine ⟨_, rfl, O, _, rfl, .inr (same_tup s2 hO), _, rfl, S, _, rfl, .inr (same_tup s2 hS), ?_⟩
    rw [ol, lX]
    refine ⟨_, _, rfl, ⟨by omega, by omega, by omega, by omega⟩, ?_⟩
    rw [show (((ss.length : Nat) : Int) - ((order.length : Nat) : Int)).toNat = ss.length - order.length by omega]
    refine for_it walk_range (fun i σ H3 => Same H H3 ∧ (∃ kvs, H3 l = some (.dK kvs) ∧ LkAt K H3 kvs (linksA ss order order.length ++ linksB ss order.length i) ∧ kvs.length ≤ order.length + i) ∧ ∃ y5 y6 y7, σ = [some (.ref AK), some (.ref PL), some (.ref S), some (.ref O), some (.ref l), y5, y6, y7])
      ⟨s2, ⟨kvs, el, by unfold linksB; simpa using lk, lz⟩, _, _, _, rfl⟩ (fun _ _ _ _ _ => trivial) ?_ ?_
    · rintro i x σ H3 H4 hi ⟨s3, ⟨kvs, el, lk, lz⟩, y5, y6, y7, rfl⟩ ⟨rfl, rfl⟩
      have hi : i < ss.length - order.length := hi
      obtain ⟨d, ed, hd⟩ := DpAll.at_ hX (List.getElem?_eq_getElem (show order.length + i < xs.length by omega))
      rw [srcs_at (by omega)] at ed
      cases ed
      have es : (ss.getD (order.length + i) noSrc) ∈ ss := getD_mem' (by omega)
      have pl := p10 _ es
      have lk2 : link2 ss (order.length + i) = match (ss.getD (order.length + i) noSrc).pairs with | [] => [] | p :: _ => [(order.length + i, p)] := rfl
      generalize ss.getD (order.length + i) noSrc = s at hd es pl lk2
      obtain ⟨a, b, ps2, ev, tt, tb, hp⟩ := dp_src hd
      have lp : ps2.length = s.pairs.length := by rw [DpAll.len hp, List.length_map]
      show gName 6 (.int (((order.length : Nat) : Int) + ((i : Nat) : Int))) _ _ _
      rw [show ((order.length : Nat) : Int) + ((i : Nat) : Int) = ((order.length + i : Nat) : Int) by omega]
      refine ⟨_, rfl, _, rfl, S, _, _, _, rfl, rfl, same_tup s3 hS, atI_nat (List.getElem?_eq_getElem (show order.length + i < xs.length by omega)), a, _, 3, _, ev, rfl, same_tup s3 tt, atI_nat (j := 3) rfl, ?_⟩
      refine ⟨_, rfl, !ps2.isEmpty, .inr (.inl ⟨ps2, same_tup s3 tb, rfl⟩), ?_⟩
      have T6 : ∀ ys, Tups K H4 (upd H4 l (.dK ys)) := fun ys => tups_dk el
      cases ps2 with
      | nil =>
        refine iteF ⟨s3, ⟨kvs, el, ?_, by omega⟩, _, _, _, rfl⟩
        rw [linksB_succ, lk2, List.eq_nil_of_length_eq_zero lp.symm, List.append_nil]
        exact lk
      | cons t0 tr =>
        obtain ⟨p0, pr, ep⟩ : ∃ p0 pr, s.pairs = p0 :: pr := by
          cases e : s.pairs with
          | nil =>
            rw [e] at lp
            cases lp
          | cons p0 pr => exact ⟨_, _, rfl⟩
        rw [ep] at hp lk2
        have hd2 : Dp K H t0 (prD p0) := by
          cases hp with
          | cons a _ => exact a
        have hd3 : Dp K H4 t0 (prD p0) := Dp.tups (Tups.of_same s3) _ rfl hd2
        refine iteT ?_
        refine ⟨_, rfl, b, _, 0, _, rfl, rfl, same_tup s3 tb, atI_nat (j := 0) rfl, _, rfl, _, rfl, l, _, rfl, DPut.k (k := Sum.inl ((order.length + i : Nat) : Int)) el (by omega), ?_⟩
        have nn : ∀ x ∈ linksA ss order order.length ++ linksB ss order.length i, x.1 ≠ order.length + i := fun x hx e => by
          rcases List.mem_append.mp hx with hx | hx
          · obtain ⟨k, hk, ek⟩ := linksA_nums x hx
            have := olt (order.getD k 0) (getD_mem' hk)
            omega
          · have := (linksB_nums x hx).2
            omega
        have z := (lk.put hd3 nn).len
        have z2 := lk.len
        refine ⟨own_same nl s3, ⟨_, upd_same, ?_, ?_⟩, _, _, _, rfl⟩
        · rw [linksB_succ, lk2, ← List.append_assoc]
          exact (lk.put hd3 nn).tups (T6 _)
        · rw [List.length_append, List.length_append] at z
          rw [List.length_append] at z2
          simp only [List.length_cons, List.length_nil] at z
          omega
    · rintro σ H3 ⟨s3, ⟨kvs, el, lk, lz⟩, y5, y6, y7, rfl⟩
      exact ⟨_, rfl, q l kvs H3 s3 nl el lk⟩
end
end K37
end

section
set_option Elab.async false
set_option linter.all false
set_option maxRecDepth 100000
set_option maxHeartbeats 4000000
/-! sorted(xs) of data of one form: tuples of texts, numbers, within tuples. -/
namespace Gd
open PySem PySem.Spec PyProof.Rows L2 PySem.W
def RD (K : PySem.W.Frag) (H : Hp) (u : Value) (d : PyData) : Prop := ∃ x, RelV x u ∧ Dp K H x d
section
variable {K : PySem.W.Frag} {H : Hp}
theorem each_of : ∀ {xs : List V} {us : List Value} {ds : List PyData}, Vals xs us → DpAll K H xs ds → EachIs (RD K H) us ds
  | _, _, _, .nil, h => by
    cases h
    exact .nil
  | _, _, _, .cons r rs, h => by
    cases h with
    | cons a b => exact .cons ⟨_, r, a⟩ (each_of rs b)
theorem of_each : ∀ {us : List Value} {ds : List PyData}, EachIs (RD K H) us ds → ∃ xs, Vals xs us ∧ DpAll K H xs ds
  | _, _, .nil => ⟨[], .nil, .nil⟩
  | _, _, .cons ⟨x, r, a⟩ h => by
    obtain ⟨xs, rs, b⟩ := of_each h
    exact ⟨x :: xs, .cons r rs, .cons a b⟩
end
/-- the order in which sorted tells -/
def told (ds : List PyData) : List PyData := ds.mergeSort (dataLe false id)
def rSortD (K : PySem.W.Frag) : List V → Hp → VK → Prop := fun xs H Q => ∃ (a : Addr) (vs : List V) (ds : List PyData), xs = [.ref a] ∧ SqL K H a vs ∧ DpAll K H vs ds ∧ AllAlike ds ∧ Sortable ds ∧ ds.length ≤ 1000 ∧ (∀ d ∈ ds, d.depth ≤ 50) ∧
  ∀ (us : List V) (p : Addr), H p = none → DpAll K H us (told ds) → Q (.ref p) (upd H p (.lst us))
theorem call_sortedD {X : Cx} (hu : X.A.units + 64 < cLine) : CallR X (.builtin "sorted") (rSortD X.K) := by
  intro pins s σ H xs us Q I r h
  obtain ⟨a, vs, ds, rfl, hs, hA, al, so, hz, hd, q⟩ := h
  obtain ⟨u, rfl, ru⟩ := r.one
  cases ru
  obtain ⟨its, rv, hl, _⟩ := I.list hs
  have e := each_of rv hA
  have er : EachIs (fun v b => ∃ as, Reads s.heap v (id b) as) its ds := e.mono fun v d ⟨x, r1, r2⟩ => Dp.reads I d x v r2 r1
  have zl : sizeLine = 16777216 := rfl
  refine sorted_data (enc := id) hl.isList e er (by rw [List.map_id]; exact al) (by rw [List.map_id]; exact so) (by omega) (fun b hb => ?_) fun out hlen eo => ?_
  · have := hd b hb
    show X.A.units + 2 + b.depth < cLine
    omega
  · obtain ⟨ws, r2, A2⟩ := of_each eo
    obtain ⟨ep, he⟩ := sortedAll_at s.heap its (List.toArray out)
    have hw : ws.length ≤ sizeLine := by
      have := r2.length
      omega
    exact ⟨.ref _, upd H (s.heap.objs.size + 1) (.lst ws), I.laid (t' := s.toks) (fun _ _ => sortedAll_old) (Nat.le_succ _) ⟨hw, out, ep, r2, he⟩, rfl, q ws _ (I.hok.fresh (Nat.le_succ _)) A2⟩
end Gd
end

section
set_option Elab.async false
set_option linter.all false
set_option maxRecDepth 100000
set_option maxHeartbeats 4000000
/-! permutations(xs): what is known of the class. -/
namespace Pm
open PySem PySem.Spec PyProof.Rows L2
theorem own : Manifest.owners.lookup (String.ofList ['s', 'n', 'o', 'i', 't', 'a', 't', 'u', 'm', 'r', 'e', 'p', '.', 's', 'l', 'o', 'o', 't', 'r', 'e', 't', 'i'].reverse) = some Manifest.sig_itertools_permutations := by kernel_rfl
theorem next_slot : Slot "itertools.permutations" "__next__" "itertools.permutations.__next__" := .of (owner := "itertools.permutations") (n := "__next__") (by rw [typeLookup_type, builtinLookup_eq_fast]; kernel_rfl) (by decide +kernel) (by decide +kernel) (by decide +kernel) (.inl (by decide +kernel)) (by rw [isSubtype_type]; kernel_rfl)
theorem next_entry : entryFor table "itertools.permutations.__next__" = some Builtin.«itertools.permutations.__next__» := entryFor_of_tree (by kernel_rfl)
theorem next_args (a : Value) : argsOk "itertools.permutations.__next__" ⟨[a], []⟩ := by unfold argsOk; rw [signature?_of (id := "itertools.permutations.__next__") (n := ['_', '_', 't', 'x', 'e', 'n', '_', '_']) (o := ['s', 'n', 'o', 'i', 't', 'a', 't', 'u', 'm', 'r', 'e', 'p', '.', 's', 'l', 'o', 'o', 't', 'r', 'e', 't', 'i']) (by kernel_rfl) own]; kernel_rfl
theorem new_entry : entryFor table "itertools.permutations.__new__" = some Builtin.«itertools.permutations.__new__» := entryFor_of_tree (by kernel_rfl)
theorem new_type (a : Value) : checkTypeCall "itertools.permutations" ⟨[a], []⟩ = pure () := by kernel_rfl
theorem new_call (a : Value) : checkBuiltinCall "itertools.permutations.__new__" ⟨[.type "itertools.permutations", a], []⟩ = pure () := by kernel_rfl
theorem self_sub : isSubtype (.type "itertools.permutations") (.type "itertools.permutations") = pure true := by rw [isSubtype_type]; kernel_rfl
theorem iter_entry : entryFor table "itertools.permutations.__iter__" = some Builtin.«dict_keyiterator.__iter__» := entryFor_alias (id' := "dict_keyiterator.__iter__") (by kernel_rfl) (by decide +kernel) (by decide +kernel) (by kernel_rfl)
theorem iter_slot : Slot "itertools.permutations" "__iter__" "itertools.permutations.__iter__" := .of (owner := "itertools.permutations") (n := "__iter__") (by rw [typeLookup_type, builtinLookup_eq_fast]; kernel_rfl) (by decide +kernel) (by decide +kernel) (by decide +kernel) (.inl (by decide +kernel)) (by rw [isSubtype_type]; kernel_rfl)
theorem iter_args (a : Value) : argsOk "itertools.permutations.__iter__" ⟨[a], []⟩ := by unfold argsOk; rw [signature?_of (id := "itertools.permutations.__iter__") (n := ['_', '_', 'r', 'e', 't', 'i', '_', '_']) (o := ['s', 'n', 'o', 'i', 't', 'a', 't', 'u', 'm', 'r', 'e', 'p', '.', 's', 'l', 'o', 'o', 't', 'r', 'e', 't', 'i']) (by kernel_rfl) own]; kernel_rfl
theorem init_slot : Slot "itertools.permutations" "__init__" "object.__init__" := .of (owner := "object") (n := "__init__") (by rw [typeLookup_type, builtinLookup_eq_fast]; kernel_rfl) (by decide +kernel) (by decide +kernel) (by decide +kernel) (.inl (by decide +kernel)) (by rw [isSubtype_type]; kernel_rfl)
theorem mro : mroOf (.type "itertools.permutations") = pure [.type "itertools.permutations", .type "object"] := by rw [mroOf_type]; kernel_rfl
theorem new_look : typeLookup (.type "itertools.permutations") "__new__" = pure (some (.builtin "itertools.permutations.__new__")) := by rw [typeLookup_type, builtinLookup_eq_fast]; kernel_rfl
theorem called : TypeCalled "itertools.permutations" "itertools.permutations.__new__" "object.__init__" := ⟨by decide +kernel, by decide +kernel, ⟨_, _, mro⟩, madeBy_type mro new_look (by decide +kernel), by decide +kernel, by rw [isSubtype_type]; kernel_rfl, init_slot⟩
end Pm
end

section
set_option Elab.async false
set_option linter.all false
set_option maxRecDepth 100000
set_option maxHeartbeats 4000000
namespace Pm
open PySem PySem.Spec PyProof.Rows L2
abbrev cellP (b : Addr) (st n : Int) (last : Value) (ks : List Nat) : Obj :=
  { cls := .type "itertools.permutations", data := .fields (Value.ref b :: rawInt st :: rawInt n :: last :: ks.map fun (k : Nat) => rawInt (k : Int)).toArray }
theorem nums_back : ∀ ks : List Nat, (ks.map fun (k : Nat) => rawInt (k : Int)).map (fun | .int n _ => n.toNat | _ => 0) = ks
  | [] => rfl
  | k :: ks => by
    rw [List.map_cons, List.map_cons, nums_back ks]
    rfl
section
variable {prog : Program} {w : World} {A : Around} {E : Value → Shared → Prop} {s : Shared}
theorem int_field {M : Model} {a : Addr} {o : Obj} {vs : Array Value} {i : Nat} {v : Int} {Q : Int → Shared → Prop} (ho : s.heap.get? a = some o) (hd : o.data = .fields vs) (hv : vs[i]? = some (rawInt v)) (h : Q v s) :
    wpAny M A (Builtin.Itertools.itIntField (.ref a) i) Q E s :=
  wpAny_bind (wpAny_field ho hd (x := rawInt v) hv (wpAny_pure h))
theorem nums_from {M : Model} {a b : Addr} {st n : Int} {last : Value} {ks : List Nat} {Q : List Nat → Shared → Prop} (ho : s.heap.get? a = some (cellP b st n last ks)) (h : Q ks s) :
    wpAny M A (Builtin.Itertools.itNumbersFrom (.ref a) 4) Q E s := by
  refine wpAny_bind (wpAny_load ho (wpAny_pure ?_))
  have e : ((ks.map fun (k : Nat) => rawInt (k : Int)).map (fun | .int n _ => n.toNat | _ => 0)) = ks := nums_back ks
  exact e.symm ▸ h
theorem set1 {b : Addr} {st x n : Int} {last : Value} {ks : List Nat} : Obj.mapFields (·.setIfInBounds 1 (rawInt x)) (cellP b st n last ks) = cellP b x n last ks := by
  simp [Obj.mapFields, cellP]
theorem set3 {b : Addr} {st n : Int} {last x : Value} {ks : List Nat} : Obj.mapFields (·.setIfInBounds 3 x) (cellP b st n last ks) = cellP b st n x ks := by
  simp [Obj.mapFields, cellP]
/-- the tuple that is told -/
theorem tell {a b : Addr} {st n : Int} {last : Value} {ks : List Nat} {vs : List Value} {Q : Value → Shared → Prop} (ha : s.heap.get? a = some (cellP b st n last ks)) (hz : vs.length ≤ 1000)
    (h : ∀ h', h'.get? a = some (cellP b st n (.ref s.heap.objs.size) ks) → h'.get? s.heap.objs.size = some { cls := .type "tuple", data := .seq vs.toArray } → h'.objs.size = s.heap.objs.size + 1 →
      (∀ c o, c ≠ a → s.heap.get? c = some o → h'.get? c = some o) → Q (.ref s.heap.objs.size) { s with heap := h' }) :
    wpAny (model prog w) A (do
      let t ← newTuple vs
      let before ← field (.ref a) 3
      setField (.ref a) 3 t
      letGo [before] [t]
      ret t) (fun fin s' => ∃ v, fin = Fin.done (Flow.ret v) ∧ Q v s') E s := by
  have zl : sizeLine = 16777216 := rfl
  refine wpAny_bind (m := newTuple _) (wpAny_newObj_type ?_ (by show vs.toArray.size ≤ sizeLine; rw [List.size_toArray]; omega))
  have g1 := Heap.get?_push_of_some { cls := .type "tuple", data := .seq vs.toArray } ha
  refine wpAny_bind (wpAny_field g1 rfl (x := last) rfl ?_)
  refine wpAny_bind (wpAny_setField g1 rfl (by simp) ?_)
  refine wpAny_bind (wpAny_letGo (wpAny_pure ⟨_, rfl, h _ ?_ ?_ ?_ ?_⟩))
  · rw [Heap.get?_update_self _ g1 rfl, set3]
  · rw [(Heap.SameBut.update ..).2 _ (Nat.ne_of_gt (Heap.lt_size ha))]
    exact Heap.get?_push_size _ rfl
  · rw [Heap.size_after_update, Heap.size_push]
  · intro c o hc e
    rw [(Heap.SameBut.update ..).2 _ hc]
    exact Heap.get?_push_of_some _ e
theorem next0 {a b : Addr} {n : Nat} {ks : List Nat} {items : Array Value} {c0 : Nat} {Q : Value → Shared → Prop} (ha : s.heap.get? a = some (cellP b 0 n .none ks)) (hb : s.heap.get? b = some { cls := .type "tuple", data := .seq items c0 })
    (hn : ks.length ≤ 1000) (h : ∀ h', h'.get? a = some (cellP b 1 n (.ref s.heap.objs.size) ks) → h'.get? s.heap.objs.size = some { cls := .type "tuple", data := .seq ((ks.take n).map fun i => items.getD i .none).toArray } → h'.objs.size = s.heap.objs.size + 1 →
      (∀ c o, c ≠ a → s.heap.get? c = some o → h'.get? c = some o) → Q (.ref s.heap.objs.size) { s with heap := h' }) : wpAny (model prog w) A (call (.builtin "itertools.permutations.__next__") [.ref a]) Q E s := by
  have hT : s.TypeIs (.ref a) "itertools.permutations" := ⟨_, ha, rfl⟩
  refine wpAny_call_entry next_slot hT next_entry ?_ (next_args _)
  show wpAny _ _ (field (.ref a) 0 >>= _) _ _ s
  refine wpAny_bind (wpAny_field ha rfl (x := .ref b) rfl ?_)
  refine wpAny_bind (m := Builtin.Itertools.itPoolItems _) (wpAny_bind (wpAny_seqItems hb rfl (wpAny_pure ?_)))
  refine wpAny_bind (int_field ha rfl (v := n) rfl ?_)
  refine wpAny_bind (nums_from ha ?_)
  refine wpAny_bind (int_field ha rfl (v := 0) rfl ?_)
  show wpAny _ _ (setField (.ref a) 1 (rawInt 1) >>= _) _ _ s
  have la : (Value.ref b :: rawInt 0 :: rawInt n :: Value.none :: ks.map fun (k : Nat) => rawInt (k : Int)).toArray.size = ks.length + 4 := by simp
  refine wpAny_bind (wpAny_setField ha rfl (by rw [la]; omega) ?_)
  have g0 := Heap.get?_update_self (Obj.mapFields (·.setIfInBounds 1 (rawInt 1))) ha rfl
  rw [set1] at g0
  refine tell (vs := (ks.take n).map fun i => items.getD i .none) g0 (by rw [List.length_map, List.length_take]; omega) ?_
  intro h' q1 q2 q3 q4
  rw [Heap.size_after_update] at q1 q2 q3
  have z := h h' q1 q2 q3 fun c o hc e => q4 c o hc (by rw [(Heap.SameBut.update ..).2 _ hc]; exact e)
  show Q (.ref (s.heap.update a _).objs.size) _
  rw [Heap.size_after_update]
  exact z
theorem setN {b : Addr} {st n : Int} {last : Value} {ks js : List Nat} : Obj.mapFields (fun fs => fs.extract 0 4 ++ (js.map fun (n : Nat) => rawInt n).toArray) (cellP b st n last ks) = cellP b st n last js := by
  simp [Obj.mapFields, cellP]
theorem set_nums {M : Model} {a b : Addr} {st n : Int} {last : Value} {ks js : List Nat} {Q : Unit → Shared → Prop} (ha : s.heap.get? a = some (cellP b st n last ks)) (hz : js.length ≤ 1000)
    (h : ∀ h', h'.get? a = some (cellP b st n last js) → h'.objs.size = s.heap.objs.size → (∀ c, c ≠ a → h'.get? c = s.heap.get? c) → Q () { s with heap := h' }) : wpAny M A (Builtin.Itertools.itSetNumbersFrom (.ref a) 4 js) Q E s := by
  have zl : sizeLine = 16777216 := rfl
  refine wpAny_updateFields ha rfl (h _ ?_ (Heap.size_after_update ..) fun c hc => (Heap.SameBut.update ..).2 _ hc) ?_
  · rw [Heap.get?_update_self _ ha rfl, setN]
  · simp
    omega
/-- it has ended -/
theorem stop {B : Around} {F : Value → Shared → Prop} {α : Type} {Q : α → Shared → Prop} (hh : B.handled = none)
    (h : ∀ (e : Addr) (h' : Heap) (o : Obj), h'.get? e = some o → o.cls = .type "StopIteration" → (∀ c o, s.heap.get? c = some o → h'.get? c = some o) → F (.ref e) { s with heap := h' }) :
    wpAny (model prog w) B (Builtin.Itertools.itStop : Sem α) Q F s := by
  show wpAny _ B (newExc (.type "StopIteration") [] >>= raiseNew) Q F s
  unfold newExc newTuple
  refine wpAny_bind (wpAny_bind (wpAny_newObj_type ?_ (by show 0 ≤ sizeLine; decide)))
  refine wpAny_bind (m := firstArgMember _ _) (wpAny_of_eq (a := Value.none) rfl ?_)
  refine wpAny_newObj_type ?_ (by size_fits)
  unfold raiseNew
  refine wpAny_bind (wpAny_handled ?_)
  rw [hh]
  refine wpAny_bind (wpAny_pure (wpAny_throw (h _ _ _ (Heap.get?_push_size _ rfl) rfl fun c o e => ?_)))
  exact Heap.get?_push_of_some _ (Heap.get?_push_of_some _ e)
theorem next_2_0 {a b : Addr} {u0 u1 last : Value} {c0 : Nat} {Q : Value → Shared → Prop} (ha : s.heap.get? a = some (cellP b 1 2 last [0, 1, 2, 1])) (hb : s.heap.get? b = some { cls := .type "tuple", data := .seq #[u0, u1] c0 })
    (h : ∀ h', h'.get? a = some (cellP b 1 2 (.ref s.heap.objs.size) [1, 0, 1, 1]) → h'.get? s.heap.objs.size = some { cls := .type "tuple", data := .seq #[u1, u0] } → h'.objs.size = s.heap.objs.size + 1 →
      (∀ c o, c ≠ a → s.heap.get? c = some o → h'.get? c = some o) → Q (.ref s.heap.objs.size) { s with heap := h' }) : wpAny (model prog w) A (call (.builtin "itertools.permutations.__next__") [.ref a]) Q E s := by
  have hT : s.TypeIs (.ref a) "itertools.permutations" := ⟨_, ha, rfl⟩
  refine wpAny_call_entry next_slot hT next_entry ?_ (next_args _)
  show wpAny _ _ (field (.ref a) 0 >>= _) _ _ s
  refine wpAny_bind (wpAny_field ha rfl (x := .ref b) rfl ?_)
  refine wpAny_bind (m := Builtin.Itertools.itPoolItems _) (wpAny_bind (wpAny_seqItems hb rfl (wpAny_pure ?_)))
  refine wpAny_bind (int_field ha rfl (v := 2) rfl ?_)
  refine wpAny_bind (nums_from ha ?_)
  refine wpAny_bind (int_field ha rfl (v := 1) rfl ?_)
  show wpAny _ _ (Builtin.Itertools.itSetNumbersFrom (.ref a) 4 [1, 0, 1, 1] >>= _) _ _ s
  refine wpAny_bind (set_nums ha (by decide) fun h1 g1 z1 k1 => ?_)
  refine tell (s := { s with heap := h1 }) (vs := [u1, u0]) g1 (by show 2 ≤ 1000; decide) fun h' q1 q2 q3 q4 => ?_
  have z1 : h1.objs.size = s.heap.objs.size := z1
  rw [z1] at q1 q2 q3
  have y := h h' q1 q2 q3 fun c o hc e => q4 c o hc (by rw [show h1.get? c = s.heap.get? c from k1 c hc]; exact e)
  show Q (.ref h1.objs.size) _
  rw [z1]
  exact y
theorem next_3_0 {a b : Addr} {u0 u1 u2 last : Value} {c0 : Nat} {Q : Value → Shared → Prop} (ha : s.heap.get? a = some (cellP b 1 3 last [0, 1, 2, 3, 2, 1])) (hb : s.heap.get? b = some { cls := .type "tuple", data := .seq #[u0, u1, u2] c0 })
    (h : ∀ h', h'.get? a = some (cellP b 1 3 (.ref s.heap.objs.size) [0, 2, 1, 3, 1, 1]) → h'.get? s.heap.objs.size = some { cls := .type "tuple", data := .seq #[u0, u2, u1] } → h'.objs.size = s.heap.objs.size + 1 →
      (∀ c o, c ≠ a → s.heap.get? c = some o → h'.get? c = some o) → Q (.ref s.heap.objs.size) { s with heap := h' }) : wpAny (model prog w) A (call (.builtin "itertools.permutations.__next__") [.ref a]) Q E s := by
  have hT : s.TypeIs (.ref a) "itertools.permutations" := ⟨_, ha, rfl⟩
  refine wpAny_call_entry next_slot hT next_entry ?_ (next_args _)
  show wpAny _ _ (field (.ref a) 0 >>= _) _ _ s
  refine wpAny_bind (wpAny_field ha rfl (x := .ref b) rfl ?_)
  refine wpAny_bind (m := Builtin.Itertools.itPoolItems _) (wpAny_bind (wpAny_seqItems hb rfl (wpAny_pure ?_)))
  refine wpAny_bind (int_field ha rfl (v := 3) rfl ?_)
  refine wpAny_bind (nums_from ha ?_)
  refine wpAny_bind (int_field ha rfl (v := 1) rfl ?_)
  show wpAny _ _ (Builtin.Itertools.itSetNumbersFrom (.ref a) 4 [0, 2, 1, 3, 1, 1] >>= _) _ _ s
  refine wpAny_bind (set_nums ha (by decide) fun h1 g1 z1 k1 => ?_)
  refine tell (s := { s with heap := h1 }) (vs := [u0, u2, u1]) g1 (by show 3 ≤ 1000; decide) fun h' q1 q2 q3 q4 => ?_
  have z1 : h1.objs.size = s.heap.objs.size := z1
  rw [z1] at q1 q2 q3
  have y := h h' q1 q2 q3 fun c o hc e => q4 c o hc (by rw [show h1.get? c = s.heap.get? c from k1 c hc]; exact e)
  show Q (.ref h1.objs.size) _
  rw [z1]
  exact y
theorem next_3_1 {a b : Addr} {u0 u1 u2 last : Value} {c0 : Nat} {Q : Value → Shared → Prop} (ha : s.heap.get? a = some (cellP b 1 3 last [0, 2, 1, 3, 1, 1])) (hb : s.heap.get? b = some { cls := .type "tuple", data := .seq #[u0, u1, u2] c0 })
    (h : ∀ h', h'.get? a = some (cellP b 1 3 (.ref s.heap.objs.size) [1, 0, 2, 2, 2, 1]) → h'.get? s.heap.objs.size = some { cls := .type "tuple", data := .seq #[u1, u0, u2] } → h'.objs.size = s.heap.objs.size + 1 →
      (∀ c o, c ≠ a → s.heap.get? c = some o → h'.get? c = some o) → Q (.ref s.heap.objs.size) { s with heap := h' }) : wpAny (model prog w) A (call (.builtin "itertools.permutations.__next__") [.ref a]) Q E s := by
  have hT : s.TypeIs (.ref a) "itertools.permutations" := ⟨_, ha, rfl⟩
  refine wpAny_call_entry next_slot hT next_entry ?_ (next_args _)
  show wpAny _ _ (field (.ref a) 0 >>= _) _ _ s
  refine wpAny_bind (wpAny_field ha rfl (x := .ref b) rfl ?_)
  refine wpAny_bind (m := Builtin.Itertools.itPoolItems _) (wpAny_bind (wpAny_seqItems hb rfl (wpAny_pure ?_)))
  refine wpAny_bind (int_field ha rfl (v := 3) rfl ?_)
  refine wpAny_bind (nums_from ha ?_)
  refine wpAny_bind (int_field ha rfl (v := 1) rfl ?_)
  show wpAny _ _ (Builtin.Itertools.itSetNumbersFrom (.ref a) 4 [1, 0, 2, 2, 2, 1] >>= _) _ _ s
  refine wpAny_bind (set_nums ha (by decide) fun h1 g1 z1 k1 => ?_)
  refine tell (s := { s with heap := h1 }) (vs := [u1, u0, u2]) g1 (by show 3 ≤ 1000; decide) fun h' q1 q2 q3 q4 => ?_
  have z1 : h1.objs.size = s.heap.objs.size := z1
  rw [z1] at q1 q2 q3
  have y := h h' q1 q2 q3 fun c o hc e => q4 c o hc (by rw [show h1.get? c = s.heap.get? c from k1 c hc]; exact e)
  show Q (.ref h1.objs.size) _
  rw [z1]
  exact y
theorem next_3_2 {a b : Addr} {u0 u1 u2 last : Value} {c0 : Nat} {Q : Value → Shared → Prop} (ha : s.heap.get? a = some (cellP b 1 3 last [1, 0, 2, 2, 2, 1])) (hb : s.heap.get? b = some { cls := .type "tuple", data := .seq #[u0, u1, u2] c0 })
    (h : ∀ h', h'.get? a = some (cellP b 1 3 (.ref s.heap.objs.size) [1, 2, 0, 2, 1, 1]) → h'.get? s.heap.objs.size = some { cls := .type "tuple", data := .seq #[u1, u2, u0] } → h'.objs.size = s.heap.objs.size + 1 →
      (∀ c o, c ≠ a → s.heap.get? c = some o → h'.get? c = some o) → Q (.ref s.heap.objs.size) { s with heap := h' }) : wpAny (model prog w) A (call (.builtin "itertools.permutations.__next__") [.ref a]) Q E s := by
  have hT : s.TypeIs (.ref a) "itertools.permutations" := ⟨_, ha, rfl⟩
  refine wpAny_call_entry next_slot hT next_entry ?_ (next_args _)
  show wpAny _ _ (field (.ref a) 0 >>= _) _ _ s
  refine wpAny_bind (wpAny_field ha rfl (x := .ref b) rfl ?_)
  refine wpAny_bind (m := Builtin.Itertools.itPoolItems _) (wpAny_bind (wpAny_seqItems hb rfl (wpAny_pure ?_)))
  refine wpAny_bind (int_field ha rfl (v := 3) rfl ?_)
  refine wpAny_bind (nums_from ha ?_)
  refine wpAny_bind (int_field ha rfl (v := 1) rfl ?_)
  show wpAny _ _ (Builtin.Itertools.itSetNumbersFrom (.ref a) 4 [1, 2, 0, 2, 1, 1] >>= _) _ _ s
  refine wpAny_bind (set_nums ha (by decide) fun h1 g1 z1 k1 => ?_)
  refine tell (s := { s with heap := h1 }) (vs := [u1, u2, u0]) g1 (by show 3 ≤ 1000; decide) fun h' q1 q2 q3 q4 => ?_
  have z1 : h1.objs.size = s.heap.objs.size := z1
  rw [z1] at q1 q2 q3
  have y := h h' q1 q2 q3 fun c o hc e => q4 c o hc (by rw [show h1.get? c = s.heap.get? c from k1 c hc]; exact e)
  show Q (.ref h1.objs.size) _
  rw [z1]
  exact y
theorem next_3_3 {a b : Addr} {u0 u1 u2 last : Value} {c0 : Nat} {Q : Value → Shared → Prop} (ha : s.heap.get? a = some (cellP b 1 3 last [1, 2, 0, 2, 1, 1])) (hb : s.heap.get? b = some { cls := .type "tuple", data := .seq #[u0, u1, u2] c0 })
    (h : ∀ h', h'.get? a = some (cellP b 1 3 (.ref s.heap.objs.size) [2, 0, 1, 1, 2, 1]) → h'.get? s.heap.objs.size = some { cls := .type "tuple", data := .seq #[u2, u0, u1] } → h'.objs.size = s.heap.objs.size + 1 →
      (∀ c o, c ≠ a → s.heap.get? c = some o → h'.get? c = some o) → Q (.ref s.heap.objs.size) { s with heap := h' }) : wpAny (model prog w) A (call (.builtin "itertools.permutations.__next__") [.ref a]) Q E s := by
  have hT : s.TypeIs (.ref a) "itertools.permutations" := ⟨_, ha, rfl⟩
  refine wpAny_call_entry next_slot hT next_entry ?_ (next_args _)
  show wpAny _ _ (field (.ref a) 0 >>= _) _ _ s
  refine wpAny_bind (wpAny_field ha rfl (x := .ref b) rfl ?_)
  refine wpAny_bind (m := Builtin.Itertools.itPoolItems _) (wpAny_bind (wpAny_seqItems hb rfl (wpAny_pure ?_)))
  refine wpAny_bind (int_field ha rfl (v := 3) rfl ?_)
  refine wpAny_bind (nums_from ha ?_)
  refine wpAny_bind (int_field ha rfl (v := 1) rfl ?_)
  show wpAny _ _ (Builtin.Itertools.itSetNumbersFrom (.ref a) 4 [2, 0, 1, 1, 2, 1] >>= _) _ _ s
  refine wpAny_bind (set_nums ha (by decide) fun h1 g1 z1 k1 => ?_)
  refine tell (s := { s with heap := h1 }) (vs := [u2, u0, u1]) g1 (by show 3 ≤ 1000; decide) fun h' q1 q2 q3 q4 => ?_
  have z1 : h1.objs.size = s.heap.objs.size := z1
  rw [z1] at q1 q2 q3
  have y := h h' q1 q2 q3 fun c o hc e => q4 c o hc (by rw [show h1.get? c = s.heap.get? c from k1 c hc]; exact e)
  show Q (.ref h1.objs.size) _
  rw [z1]
  exact y
theorem next_3_4 {a b : Addr} {u0 u1 u2 last : Value} {c0 : Nat} {Q : Value → Shared → Prop} (ha : s.heap.get? a = some (cellP b 1 3 last [2, 0, 1, 1, 2, 1])) (hb : s.heap.get? b = some { cls := .type "tuple", data := .seq #[u0, u1, u2] c0 })
    (h : ∀ h', h'.get? a = some (cellP b 1 3 (.ref s.heap.objs.size) [2, 1, 0, 1, 1, 1]) → h'.get? s.heap.objs.size = some { cls := .type "tuple", data := .seq #[u2, u1, u0] } → h'.objs.size = s.heap.objs.size + 1 →
      (∀ c o, c ≠ a → s.heap.get? c = some o → h'.get? c = some o) → Q (.ref s.heap.objs.size) { s with heap := h' }) : wpAny (model prog w) A (call (.builtin "itertools.permutations.__next__") [.ref a]) Q E s := by
  have hT : s.TypeIs (.ref a) "itertools.permutations" := ⟨_, ha, rfl⟩
  refine wpAny_call_entry next_slot hT next_entry ?_ (next_args _)
  show wpAny _ _ (field (.ref a) 0 >>= _) _ _ s
  refine wpAny_bind (wpAny_field ha rfl (x := .ref b) rfl ?_)
  refine wpAny_bind (m := Builtin.Itertools.itPoolItems _) (wpAny_bind (wpAny_seqItems hb rfl (wpAny_pure ?_)))
  refine wpAny_bind (int_field ha rfl (v := 3) rfl ?_)
  refine wpAny_bind (nums_from ha ?_)
  refine wpAny_bind (int_field ha rfl (v := 1) rfl ?_)
  show wpAny _ _ (Builtin.Itertools.itSetNumbersFrom (.ref a) 4 [2, 1, 0, 1, 1, 1] >>= _) _ _ s
  refine wpAny_bind (set_nums ha (by decide) fun h1 g1 z1 k1 => ?_)
  refine tell (s := { s with heap := h1 }) (vs := [u2, u1, u0]) g1 (by show 3 ≤ 1000; decide) fun h' q1 q2 q3 q4 => ?_
  have z1 : h1.objs.size = s.heap.objs.size := z1
  rw [z1] at q1 q2 q3
  have y := h h' q1 q2 q3 fun c o hc e => q4 c o hc (by rw [show h1.get? c = s.heap.get? c from k1 c hc]; exact e)
  show Q (.ref h1.objs.size) _
  rw [z1]
  exact y
theorem end_1 {a b : Addr} {u0 last : Value} {c0 : Nat} {Q : Option Value → Shared → Prop} (hh : A.in1.handled = none) (ha : s.heap.get? a = some (cellP b 1 1 last [0, 1])) (hb : s.heap.get? b = some { cls := .type "tuple", data := .seq #[u0] c0 })
    (h : ∀ h', (∀ c o, c ≠ a → s.heap.get? c = some o → h'.get? c = some o) → Q none { s with heap := h' }) : wpAny (model prog w) A (pyNext (.ref a)) Q E s := by
  have hT : s.TypeIs (.ref a) "itertools.permutations" := ⟨_, ha, rfl⟩
  unfold pyNext
  refine wpAny_bind (wpAny_attempt (wpAny_callSpecial?_slot (name := Str.ofString "__next__") hT next_slot (wpAny_call_entry next_slot hT next_entry ?_ (next_args _))))
  show wpAny _ _ (field (.ref a) 0 >>= _) _ _ s
  refine wpAny_bind (wpAny_field ha rfl (x := .ref b) rfl ?_)
  refine wpAny_bind (m := Builtin.Itertools.itPoolItems _) (wpAny_bind (wpAny_seqItems hb rfl (wpAny_pure ?_)))
  refine wpAny_bind (int_field ha rfl (v := 1) rfl ?_)
  refine wpAny_bind (nums_from ha ?_)
  refine wpAny_bind (int_field ha rfl (v := 1) rfl ?_)
  show wpAny _ _ (setField (.ref a) 1 (rawInt 2) >>= _) _ _ s
  refine wpAny_bind (wpAny_setField ha rfl (by simp) (stop hh fun e h' o g1 g2 k1 => ?_))
  refine wpAny_bind (wpAny_isInstance (T := "StopIteration") (b := true) ⟨o, g1, g2⟩ isSubtype_stop ?_)
  exact wpAny_pure (h _ fun c o hc e => k1 c o (((Heap.SameBut.update s.heap a _).2 c hc).trans e))
theorem end_2 {a b : Addr} {u0 u1 last : Value} {c0 : Nat} {Q : Option Value → Shared → Prop} (hh : A.in1.handled = none) (ha : s.heap.get? a = some (cellP b 1 2 last [1, 0, 1, 1])) (hb : s.heap.get? b = some { cls := .type "tuple", data := .seq #[u0, u1] c0 })
    (h : ∀ h', (∀ c o, c ≠ a → s.heap.get? c = some o → h'.get? c = some o) → Q none { s with heap := h' }) : wpAny (model prog w) A (pyNext (.ref a)) Q E s := by
  have hT : s.TypeIs (.ref a) "itertools.permutations" := ⟨_, ha, rfl⟩
  unfold pyNext
  refine wpAny_bind (wpAny_attempt (wpAny_callSpecial?_slot (name := Str.ofString "__next__") hT next_slot (wpAny_call_entry next_slot hT next_entry ?_ (next_args _))))
  show wpAny _ _ (field (.ref a) 0 >>= _) _ _ s
  refine wpAny_bind (wpAny_field ha rfl (x := .ref b) rfl ?_)
  refine wpAny_bind (m := Builtin.Itertools.itPoolItems _) (wpAny_bind (wpAny_seqItems hb rfl (wpAny_pure ?_)))
  refine wpAny_bind (int_field ha rfl (v := 2) rfl ?_)
  refine wpAny_bind (nums_from ha ?_)
  refine wpAny_bind (int_field ha rfl (v := 1) rfl ?_)
  show wpAny _ _ (setField (.ref a) 1 (rawInt 2) >>= _) _ _ s
  refine wpAny_bind (wpAny_setField ha rfl (by simp) (stop hh fun e h' o g1 g2 k1 => ?_))
  refine wpAny_bind (wpAny_isInstance (T := "StopIteration") (b := true) ⟨o, g1, g2⟩ isSubtype_stop ?_)
  exact wpAny_pure (h _ fun c o hc e => k1 c o (((Heap.SameBut.update s.heap a _).2 c hc).trans e))
theorem end_3 {a b : Addr} {u0 u1 u2 last : Value} {c0 : Nat} {Q : Option Value → Shared → Prop} (hh : A.in1.handled = none) (ha : s.heap.get? a = some (cellP b 1 3 last [2, 1, 0, 1, 1, 1])) (hb : s.heap.get? b = some { cls := .type "tuple", data := .seq #[u0, u1, u2] c0 })
    (h : ∀ h', (∀ c o, c ≠ a → s.heap.get? c = some o → h'.get? c = some o) → Q none { s with heap := h' }) : wpAny (model prog w) A (pyNext (.ref a)) Q E s := by
  have hT : s.TypeIs (.ref a) "itertools.permutations" := ⟨_, ha, rfl⟩
  unfold pyNext
  refine wpAny_bind (wpAny_attempt (wpAny_callSpecial?_slot (name := Str.ofString "__next__") hT next_slot (wpAny_call_entry next_slot hT next_entry ?_ (next_args _))))
  show wpAny _ _ (field (.ref a) 0 >>= _) _ _ s
  refine wpAny_bind (wpAny_field ha rfl (x := .ref b) rfl ?_)
  refine wpAny_bind (m := Builtin.Itertools.itPoolItems _) (wpAny_bind (wpAny_seqItems hb rfl (wpAny_pure ?_)))
  refine wpAny_bind (int_field ha rfl (v := 3) rfl ?_)
  refine wpAny_bind (nums_from ha ?_)
  refine wpAny_bind (int_field ha rfl (v := 1) rfl ?_)
  show wpAny _ _ (setField (.ref a) 1 (rawInt 2) >>= _) _ _ s
  refine wpAny_bind (wpAny_setField ha rfl (by simp) (stop hh fun e h' o g1 g2 k1 => ?_))
  refine wpAny_bind (wpAny_isInstance (T := "StopIteration") (b := true) ⟨o, g1, g2⟩ isSubtype_stop ?_)
  exact wpAny_pure (h _ fun c o hc e => k1 c o (((Heap.SameBut.update s.heap a _).2 c hc).trans e))
end
end Pm
end

section
set_option Elab.async false
set_option linter.all false
set_option maxRecDepth 100000
set_option maxHeartbeats 4000000
namespace Pm
open PySem PySem.Spec PyProof.Rows L2
section
variable {prog : Program} {w : World} {A : Around} {E : Value → Shared → Prop} {s : Shared}
theorem class_rest {M : Model} {v : Value} {Q : Value × List Value → Shared → Prop} (h : Q (.type "itertools.permutations", [v]) s) :
    wpAny M A (Builtin.Itertools.itClassAndRest "permutations" ⟨[.type "itertools.permutations", v], []⟩) Q E s := by
  unfold Builtin.Itertools.itClassAndRest
  have sub := self_sub
  obtain ⟨hp, g, d, tk, os⟩ := s
  wp_walk
  refine wpAny_of_eq (a := true) ?_ (wpAny_pure h)
  have e : (("itertools." : String) ++ "permutations") = "itertools.permutations" := by decide +kernel
  rw [e]
  exact sub
theorem bind_named {M : Model} {v : Value} {Q : List (Option Value) → Shared → Prop} (h : Q [some v, none] s) :
    wpAny M A (Builtin.Itertools.itBindNamed "permutations" ["iterable", "r"] 1 2 [v] []) Q E s := by
  refine wpAny_of_eq ?_ h
  rfl
/-- the cells of a new one -/
theorem make {l : Addr} {vs : List Value} {n : Nat} {R : Value → Shared → Prop} (hl : s.heap.IsList l vs.toArray) (hn : vs.length = n) (h3 : n ≤ 3)
    (h : ∀ (h1 h' : Heap) (b : Addr), (∀ c o, s.heap.get? c = some o → h1.get? c = some o) → b = h1.objs.size → (∀ c o, h1.get? c = some o → h'.get? c = some o) → h'.objs.size = b + 2 → h'.get? b = some { cls := .type "tuple", data := .seq vs.toArray } → h'.get? (b + 1) = some (cellP b 0 n .none (List.range n ++ (List.range n).map fun i => n - i)) → R (.ref (b + 1)) { s with heap := h' }) :
    wpAny (model prog w) A (Builtin.«itertools.permutations.__new__» ⟨[.type "itertools.permutations", .ref l], []⟩) (fun f s' => ∃ v, f = .done (.ret v) ∧ R v s') E s := by
  unfold Builtin.«itertools.permutations.__new__»
  refine wpAny_bind (class_rest ?_)
  refine wpAny_bind (bind_named ?_)
  obtain ⟨o, ho, hc, k, hd⟩ := id hl
  refine wpAny_bind (wpAny_collect_seq l (.inl rfl) ho hc hd (fun h1 k1 => ?_) (by rw [List.size_toArray, hn]; exact Nat.le_trans h3 (by decide)))
  have e0 : vs.toArray.toList.length = n := by simpa using hn
  show wpAny _ _ (pure ((vs.toArray.toList.length : Nat) : Int) >>= _) _ _ _
  refine wpAny_bind (wpAny_pure ?_)
  rw [e0]
  dsimp only
  rw [if_neg (show ¬ ((n : Int) < 0) by omega), if_neg (show ¬ (Builtin.Itertools.itTooMany (n : Int) = true) by unfold Builtin.Itertools.itTooMany; simp; omega)]
  refine wpAny_bind (m := newTuple _) (wpAny_newObj_type ?_ ?_)
  · unfold Builtin.Itertools.itNewRecord
    have hd : (!typeHasDict (.type "itertools.permutations")) = true := by decide +kernel
    rw [if_pos hd]
    have e : ([Value.ref h1.objs.size, rawInt (if ((n : Int)).toNat > n then 2 else 0), rawInt (((n : Int).toNat : Nat) : Int), Value.none] ++ List.map (fun (i : Nat) => rawInt (i : Int)) (List.range n) ++ List.map (fun (i : Nat) => rawInt ((n : Int) - (i : Int))) (List.range (n : Int).toNat)).toArray
        = (Value.ref h1.objs.size :: rawInt 0 :: rawInt n :: Value.none :: (List.range n ++ (List.range n).map fun i => n - i).map fun (k : Nat) => rawInt (k : Int)).toArray := by
      match n, h3 with
      | 0, _ => rfl
      | 1, _ => rfl
      | 2, _ => rfl
      | 3, _ => rfl
    have z : ((h1.push { cls := .type "tuple", data := .seq vs.toArray })).objs.size = h1.objs.size + 1 := Heap.size_push ..
    refine wpAny_bind (wpAny_newObj_type (wpAny_pure ⟨_, rfl, ?_⟩) ?_)
    · dsimp only
      rw [e, z]
      refine h h1 _ _ k1 rfl (fun c o q => Heap.get?_push_of_some _ (Heap.get?_push_of_some _ q)) (by rw [Heap.size_push, z]) (Heap.get?_push_of_some _ (Heap.get?_push_size _ rfl)) ?_
      rw [← z]
      exact Heap.get?_push_size _ rfl
    · dsimp only
      rw [e]
      match n, h3 with
      | 0, _ => first | size_fits | (unfold sizeOk; show 4 ≤ _; decide)
      | 1, _ => first | size_fits | (unfold sizeOk; show 6 ≤ _; decide)
      | 2, _ => first | size_fits | (unfold sizeOk; show 8 ≤ _; decide)
      | 3, _ => first | size_fits | (unfold sizeOk; show 10 ≤ _; decide)
  · show vs.toArray.size ≤ sizeLine
    rw [List.size_toArray, hn]
    exact Nat.le_trans h3 (by decide)
theorem call_pm {l : Addr} {vs : List Value} {n : Nat} {Q : Value → Shared → Prop} (hl : s.heap.IsList l vs.toArray) (hn : vs.length = n) (h3 : n ≤ 3)
    (h : ∀ (h1 h' : Heap) (b : Addr), (∀ c o, s.heap.get? c = some o → h1.get? c = some o) → b = h1.objs.size → (∀ c o, h1.get? c = some o → h'.get? c = some o) → h'.objs.size = b + 2 → h'.get? b = some { cls := .type "tuple", data := .seq vs.toArray } →
      h'.get? (b + 1) = some (cellP b 0 n .none (List.range n ++ (List.range n).map fun i => n - i)) → Q (.ref (b + 1)) { s with heap := h' }) :
    wpAny (model prog w) A (call (.type "itertools.permutations") [.ref l]) Q E s := by
  have M : Meets (Builtin.«itertools.permutations.__new__» ⟨[.type "itertools.permutations", .ref l], []⟩) (fun _ R s0 => s0 = s ∧ ∀ (h1 h' : Heap) (b : Addr), (∀ c o, s.heap.get? c = some o → h1.get? c = some o) → b = h1.objs.size → (∀ c o, h1.get? c = some o → h'.get? c = some o) → h'.objs.size = b + 2 →
      h'.get? b = some { cls := .type "tuple", data := .seq vs.toArray } → h'.get? (b + 1) = some (cellP b 0 n .none (List.range n ++ (List.range n).map fun i => n - i)) → R (.ok (.ret (.ref (b + 1)))) { s with heap := h' }) := by
    refine .of_wp fun prog w A R s0 z => ?_
    obtain ⟨rfl, z⟩ := z
    refine make hl hn h3 fun h1 h' b a1 a2 a3 a4 a5 a6 => ?_
    exact z h1 h' b a1 a2 a3 a4 a5 a6
  refine callType_new called (by decide) (new_type _) (new_call _) (fun obj => F.args_object_init_2 obj _) new_entry M ⟨rfl, fun h1 h' b a1 a2 a3 a4 a5 a6 => ?_⟩
  show _ ∧ _
  exact ⟨⟨_, a6, rfl⟩, h h1 h' b a1 a2 a3 a4 a5 a6⟩
end
end Pm
end

section
set_option Elab.async false
set_option linter.all false
set_option maxRecDepth 100000
set_option maxHeartbeats 4000000
/-! for order in permutations(xs), xs a list of one to three ints from 0 on -/
namespace Pm
open PySem PySem.Spec PyProof.Rows L2 Gd
def perms : Nat → List (List Nat)
  | 1 => [[0]]
  | 2 => [[0, 1], [1, 0]]
  | 3 => [[0, 1, 2], [0, 2, 1], [1, 0, 2], [1, 2, 0], [2, 0, 1], [2, 1, 0]]
  | _ => []
def cycs : Nat → List (List Nat)
  | 1 => [[1]]
  | 2 => [[2, 1], [1, 1]]
  | 3 => [[3, 2, 1], [3, 1, 1], [2, 2, 1], [2, 1, 1], [1, 2, 1], [1, 1, 1]]
  | _ => []
def ksAt (n k : Nat) : List Nat := (perms n).getD k [] ++ (cycs n).getD k []
section
variable {prog : Program} {w : World} {A : Around} {E : Value → Shared → Prop} {s : Shared}
theorem call_at {n i : Nat} {a b : Addr} {items : List Value} {c0 : Nat} {last : Value} {Q : Value → Shared → Prop} (hi : i < (perms n).length) (hl : items.length = n)
    (ha : s.heap.get? a = some (cellP b (if i = 0 then 0 else 1) n (if i = 0 then .none else last) (ksAt n (i - 1)))) (hb : s.heap.get? b = some { cls := .type "tuple", data := .seq items.toArray c0 })
    (h : ∀ h', h'.get? a = some (cellP b 1 n (.ref s.heap.objs.size) (ksAt n i)) → h'.get? s.heap.objs.size = some { cls := .type "tuple", data := .seq (((perms n).getD i []).map fun k => items.getD k .none).toArray } → h'.objs.size = s.heap.objs.size + 1 →
      (∀ c o, c ≠ a → s.heap.get? c = some o → h'.get? c = some o) → Q (.ref s.heap.objs.size) { s with heap := h' }) : wpAny (model prog w) A (call (.builtin "itertools.permutations.__next__") [.ref a]) Q E s := by
  match n, items, hl, i, hi with
  | 1, [u0], _, 0, _ => exact next0 (n := 1) ha hb (by decide) h
  | 1, [u0], _, k + 1, hk => exact absurd hk (by show ¬ (k + 1 < 1); omega)
  | 2, [u0, u1], _, 0, _ => exact next0 (n := 2) ha hb (by decide) h
  | 2, [u0, u1], _, 1, _ => exact next_2_0 ha hb h
  | 2, [u0, u1], _, k + 2, hk => exact absurd hk (by show ¬ (k + 2 < 2); omega)
  | 3, [u0, u1, u2], _, 0, _ => exact next0 (n := 3) ha hb (by decide) h
  | 3, [u0, u1, u2], _, 1, _ => exact next_3_0 ha hb h
  | 3, [u0, u1, u2], _, 2, _ => exact next_3_1 ha hb h
  | 3, [u0, u1, u2], _, 3, _ => exact next_3_2 ha hb h
  | 3, [u0, u1, u2], _, 4, _ => exact next_3_3 ha hb h
  | 3, [u0, u1, u2], _, 5, _ => exact next_3_4 ha hb h
  | 3, [u0, u1, u2], _, k + 6, hk => exact absurd hk (by show ¬ (k + 6 < 6); omega)
  | 0, _, _, _, hk => exact absurd hk (Nat.not_lt_zero _)
  | _ + 4, _, _, _, hk => exact absurd hk (Nat.not_lt_zero _)
theorem end_at {n i : Nat} {a b : Addr} {items : List Value} {c0 : Nat} {last : Value} {Q : Option Value → Shared → Prop} (hh : A.in1.handled = none) (h1 : 1 ≤ n) (h3 : n ≤ 3) (hi : i = (perms n).length) (hl : items.length = n)
    (ha : s.heap.get? a = some (cellP b (if i = 0 then 0 else 1) n (if i = 0 then .none else last) (ksAt n (i - 1)))) (hb : s.heap.get? b = some { cls := .type "tuple", data := .seq items.toArray c0 })
    (h : ∀ h', (∀ c o, c ≠ a → s.heap.get? c = some o → h'.get? c = some o) → Q none { s with heap := h' }) : wpAny (model prog w) A (pyNext (.ref a)) Q E s := by
  subst hi
  match n, items, hl, h1, h3 with
  | 1, [u0], _, _, _ => exact end_1 hh ha hb h
  | 2, [u0, u1], _, _, _ => exact end_2 hh ha hb h
  | 3, [u0, u1, u2], _, _, _ => exact end_3 hh ha hb h
end
/-- the orders -/
def ItP (n : Nat) : It where
  go i _ := i < (perms n).length
  yld i H v H' := ∃ T ks, v = .ref T ∧ H T = none ∧ (perms n)[i]? = some ks ∧ H' = upd H T (.tup (ks.map fun k => V.int ((k : Nat) : Int)))
  stop i _ := i = (perms n).length
def StP (n b : Nat) (i : Nat) (h : Heap) : Prop := 1 ≤ n ∧ n ≤ 3 ∧ (∃ last, h.get? (b + 1) = some (cellP b (if i = 0 then 0 else 1) n (if i = 0 then .none else last) (ksAt n (i - 1)))) ∧
  (∃ items c0, h.get? b = some { cls := .type "tuple", data := .seq (items : List Value).toArray c0 } ∧ items.length = n ∧ ∀ k, k < n → ∃ t, items[k]? = some (.int ((k : Nat) : Int) t)) ∧ b + 2 ≤ h.objs.size
theorem told_ints {n : Nat} {items : List Value} (hi : ∀ k, k < n → ∃ t, items[k]? = some (Value.int ((k : Nat) : Int) t)) : ∀ {ks : List Nat}, (∀ k ∈ ks, k < n) → Vals (ks.map fun k => V.int ((k : Nat) : Int)) (ks.map fun k => items.getD k .none)
  | [], _ => .nil
  | k :: ks, h => by
    obtain ⟨t, e⟩ := hi k (h k (by simp))
    refine .cons ⟨t, ?_⟩ (told_ints hi fun j m => h j (by simp [m]))
    show items.getD k .none = _
    rw [List.getD_eq_getElem?_getD, e] <;> rfl
theorem perms_lt {n i : Nat} {ks : List Nat} (h : (perms n)[i]? = some ks) : (∀ k ∈ ks, k < n) ∧ ks.length = n := by
  have all : ∀ n, ∀ ks ∈ perms n, (∀ k ∈ ks, k < n) ∧ ks.length = n := fun n => by
    match n with
    | 0 => exact fun _ h => nomatch h
    | 1 => decide
    | 2 => decide
    | 3 => decide
    | _ + 4 => exact fun _ h => nomatch h
  exact all n ks (List.mem_of_getElem? h)
theorem turn_P {P : Program} {w : World} {K : PySem.W.Frag} {tg : Expr} {n b : Nat} : Turn P w K tg (ItP n) (duo b) (b + 1) (StP n b) where
  mem := in2 (by omega) (by omega)
  obj := fun i h st c hc => by
    obtain ⟨_, _, ⟨last, e1⟩, ⟨items, c0, e2, _⟩, _⟩ := st
    simp only [duo, List.mem_cons, List.not_mem_nil, or_false] at hc
    rcases hc with rfl | rfl
    · exact ⟨_, e1, fun v z => nomatch z⟩
    · exact ⟨_, e2, fun v z => nomatch z⟩
  keep := fun i h h' st k => by
    obtain ⟨n1, n3, ⟨last, e1⟩, ⟨items, c0, e2, hl, hk⟩, _⟩ := st
    have e3 := k (b + 1) (in2 (by omega) (by omega)) _ e1
    exact ⟨n1, n3, ⟨last, e3⟩, ⟨items, c0, k b (in2 (by omega) (by omega)) _ e2, hl, hk⟩, Heap.lt_size e3⟩
  item := by
    intro X hP hw hK hc i pins s σ H E I hf st hg
    subst hP hw hK
    obtain ⟨n1, n3, ⟨last, e1⟩, ⟨items, c0, e2, hl, hk⟩, sz0⟩ := st
    have hg : i < (perms n).length := hg
    have hT : s.TypeIs (.ref (b + 1)) "itertools.permutations" := ⟨_, e1, rfl⟩
    unfold pyNext
    refine wpAny_bind (wpAny_attempt (wpAny_callSpecial?_slot (name := Str.ofString "__next__") hT next_slot (call_at hg hl e1 e2 fun h' q1 q2 q3 q4 => wpAny_pure ?_)))
    refine ⟨_, rfl, go_of (n := "itertools.permutations") q1 rfl rfl (by decide) ?_⟩
    have ep : (perms n)[i]? = some ((perms n).getD i []) := by
      rw [List.getD_eq_getElem?_getD, List.getElem?_eq_getElem hg] <;> rfl
    obtain ⟨pl, pz⟩ := perms_lt ep
    have old3 : ∀ {c o}, s.heap.get? c = some o → c ≠ s.heap.objs.size := fun e => Nat.ne_of_lt (Heap.lt_size e)
    have stay : ∀ c o, c ∉ duo b → s.heap.get? c = some o → h'.get? c = some o := fun c o nc e => q4 c o (fun q => nc (q ▸ in2 (by omega) (by omega))) e
    have fine : ObjOk X.prog X.w (upd H s.heap.objs.size (.tup (((perms n).getD i []).map fun k => V.int ((k : Nat) : Int)))) h' s.heap.objs.size (.tup (((perms n).getD i []).map fun k => V.int ((k : Nat) : Int))) := by
      refine ⟨?_, _, told_ints hk pl, ⟨_, q2, rfl, _, rfl⟩⟩
      rw [List.length_map, pz]
      exact Nat.le_trans n3 (by decide)
    have I3 := I.turnedNew (t' := s.toks) (ch := duo b) stay hf (Nat.le_refl _) fine
    refine ⟨.ref s.heap.objs.size, _, I3, rfl, ⟨_, _, rfl, I.hok.fresh (Nat.le_refl _), ep, rfl⟩, ⟨n1, n3, ⟨_, q1⟩, ⟨items, c0, q4 b _ (apN (by omega)) e2, hl, hk⟩, ?_⟩, fun c hcm => ?_⟩
    · rw [q3]
      omega
    · have := (mem2 hcm).2
      rw [upd_ne (apN (by omega))]
      exact (hf c hcm).1
  done := by
    intro X hP hw hK hc i pins s σ H E I hf st hg
    subst hP hw hK
    obtain ⟨n1, n3, ⟨last, e1⟩, ⟨items, c0, e2, hl, hk⟩, sz0⟩ := st
    have hh1 : X.A.in1.handled = none := I.ok.hd hc
    refine end_at hh1 n1 n3 hg hl e1 e2 fun h' k1 => ?_
    exact ⟨rfl, I.turnedL (t' := s.toks) (ch := duo b) (fun c o nc e => k1 c o (fun q => nc (q ▸ in2 (by omega) (by omega))) e) hf⟩
  self := fun A i s Q E st h => by
    obtain ⟨_, _, ⟨last, e1⟩, _⟩ := st
    have hT : s.TypeIs (.ref (b + 1)) "itertools.permutations" := ⟨_, e1, rfl⟩
    refine wpAny_pyIter_slot hT iter_slot (wpAny_call_entry iter_slot hT iter_entry ?_ (iter_args _))
    exact wpAny_pure ⟨_, rfl, "itertools.permutations", _, hT, next_slot.lookup, h⟩
def iPm (K : PySem.W.Frag) (ta : TA) : TI := fun σ H R => ta σ H fun vs H1 => ∃ l n, vs = [.ref l] ∧ SqL K H1 l ((List.range n).map fun k => V.int ((k : Nat) : Int)) ∧ 1 ≤ n ∧ n ≤ 3 ∧ R (ItP n) H1
theorem ints_at_k {n : Nat} {us : List Value} (h : Vals ((List.range n).map fun k => V.int ((k : Nat) : Int)) us) : us.length = n ∧ ∀ k, k < n → ∃ t, us[k]? = some (Value.int ((k : Nat) : Int) t) := by
  have hl : us.length = n := by
    have := h.length
    simpa using this.symm
  refine ⟨hl, fun k hk => ?_⟩
  have e : ((List.range n).map fun k => V.int ((k : Nat) : Int))[k]? = some (.int ((k : Nat) : Int)) := by simp [hk]
  obtain ⟨u, hu, t, rfl⟩ := h.get e
  exact ⟨t, hu⟩
theorem ek (n : Nat) (n1 : 1 ≤ n) (n3 : n ≤ 3) : List.range n ++ (List.range n).map (fun i => n - i) = ksAt n 0 := by
  match n, n1, n3 with
  | 1, _, _ => decide
  | 2, _, _ => decide
  | 3, _, _ => decide
theorem pi_pm {X : Cx} {e tg : Expr} {ta : TA} {p pos : Pos} (hg : Gl X "permutations") (hm : X.mg "permutations" = some (.type "itertools.permutations")) (ha : PA X [e] ta)
    (hs : starEach [e] X.env = [(false, eval e X.env)] := by rfl) : PI X tg (.Call (.Name "permutations" p) [e] [] pos) (iPm X.K ta) := by
  refine ⟨fun pins s σ H R I h => Call_ (ld_glob I hg hm (PyProof.Rows.callWith_type1 (thn (ha.run pos pins s σ H _ I h) ?_) hs rfl) (by decide))⟩
  rintro us s1 ⟨vs, H1, J, r, l, n, rfl, ql, n1, n3, q⟩
  obtain ⟨u1, rfl, r1⟩ := vals1 r
  cases r1
  obtain ⟨as, rv, p1, _⟩ := J.list ql
  obtain ⟨hl, hk⟩ := ints_at_k rv
  refine call_pm p1.isList hl n3 fun h1 h' b a1 a2 a3 a4 a5 a6 => ?_
  subst a2
  have J1 := J.kept (t' := s1.toks) a1
  have J2 := J1.kept (t' := s1.toks) a3
  have st : StP n h1.objs.size 0 h' := by
    refine ⟨n1, n3, ⟨.none, ?_⟩, ⟨as, _, a5, hl, hk⟩, Nat.le_of_eq a4.symm⟩
    rw [ek n n1 n3] at a6
    rw [if_pos rfl, if_pos rfl]
    exact a6
  refine turn_P.self (P := X.prog) (w := X.w) (K := X.K) (tg := tg) _ 0 _ _ _ st ?_
  refine ⟨h1.objs.size + 1, duo h1.objs.size, StP n h1.objs.size, ItP n, H1, rfl, J2, turn_P, st, fun c hc => ?_, q⟩
  have hle := (mem2 hc).1
  exact J1.fpOk hle (J1.hok.fresh hle)
theorem walk_pm {n : Nat} : Walk (ItP n) (perms n).length (fun _ => True) (fun i H v H' => ∃ T ks, v = .ref T ∧ H T = none ∧ (perms n)[i]? = some ks ∧ H' = upd H T (.tup (ks.map fun k => V.int ((k : Nat) : Int)))) :=
  ⟨fun i _ hi _ => hi, fun _ _ => rfl, fun i H v H' _ _ y => y⟩
end Pm
end

section
set_option Elab.async false
set_option linter.all false
set_option maxRecDepth 100000
set_option maxHeartbeats 4000000
namespace K37
open PySem PySem.Spec PyProof.Rows L2 Gd PySem.W
def pl (o : List Nat) (w : Str) : PyData := .tuple [.tuple (o.map fun k => PyData.int ((k : Nat) : Int)), .str w]
def genL (m : Nat) (b : Bool) : List PyData := (Pm.perms m).flatMap fun o => if b then [pl o "walked", pl o "kept"] else [pl o "walked"]
def plansL (m : Nat) (b : Bool) : List PyData := (Pm.perms m).flatMap fun o => if b then [pl o "kept", pl o "walked"] else [pl o "walked"]
theorem told_gen : ∀ m b, 1 ≤ m → m ≤ 3 → told (genL m b) = plansL m b := by
  have a1 : told (genL 1 true) = plansL 1 true := by unfold told genL plansL Pm.perms; simp (decide := true) [List.mergeSort]
  have a2 : told (genL 1 false) = plansL 1 false := by unfold told genL plansL Pm.perms; simp (decide := true) [List.mergeSort]
  have a3 : told (genL 2 true) = plansL 2 true := by unfold told genL plansL Pm.perms; simp (decide := true) [List.mergeSort]
  have a4 : told (genL 2 false) = plansL 2 false := by unfold told genL plansL Pm.perms; simp (decide := true) [List.mergeSort]
  have a5 : told (genL 3 true) = plansL 3 true := by unfold told genL plansL Pm.perms; simp (decide := true) [List.mergeSort]
  have a6 : told (genL 3 false) = plansL 3 false := by unfold told genL plansL Pm.perms; simp (decide := true) [List.mergeSort]
  intro m b h1 h3
  match m, b, h1, h3 with
  | 1, true, _, _ => exact a1
  | 1, false, _, _ => exact a2
  | 2, true, _, _ => exact a3
  | 2, false, _, _ => exact a4
  | 3, true, _, _ => exact a5
  | 3, false, _, _ => exact a6
theorem al_gen : ∀ m b, 1 ≤ m → m ≤ 3 → AllAlike (genL m b) := by
  intro m b h1 h3
  match m, b, h1, h3 with
  | 1, true, _, _ => unfold AllAlike; decide +kernel
  | 1, false, _, _ => unfold AllAlike; decide +kernel
  | 2, true, _, _ => unfold AllAlike; decide +kernel
  | 2, false, _, _ => unfold AllAlike; decide +kernel
  | 3, true, _, _ => unfold AllAlike; decide +kernel
  | 3, false, _, _ => unfold AllAlike; decide +kernel
theorem so_gen (m : Nat) (b : Bool) : Sortable (genL m b) := by
  refine .inl fun d hd => ?_
  unfold genL at hd
  obtain ⟨o, _, hd⟩ := List.mem_flatMap.mp hd
  cases b with
  | true =>
    simp only [if_true, List.mem_cons, List.not_mem_nil, or_false] at hd
    rcases hd with rfl | rfl <;> exact ⟨_, _, rfl⟩
  | false =>
    simp only [Bool.false_eq_true, if_false, List.mem_cons, List.not_mem_nil, or_false] at hd
    subst hd
    exact ⟨_, _, rfl⟩
end K37
end

section
set_option Elab.async false
set_option linter.all false
set_option maxRecDepth 100000
set_option maxHeartbeats 4000000
namespace K37
open PySem PySem.Spec PyProof.Rows L2 Gd
abbrev sPl : Stmt := topS 3
abbrev nPl : List Str := ["ask", "withs", "plans", "order", "source"]
theorem scPl : FnScope nPl ["ask"] (defScope sPl) := ⟨rfl, rfl, rfl, by decide +kernel, rfl, by decide +kernel, by decide +kernel⟩
def isWi (s : Src) : Bool := decide (s.way = "with")
def anyP (ss : List Src) : Bool := ss.any fun s => !s.pairs.isEmpty
def spPl (K : PySem.W.Frag) : Sp := fun vs H Q _ => ∃ (A : Addr) (ss : List Src) (m : Nat), vs = [.ref A] ∧ AskAt K H A ss ∧ Small ss ∧ Well ss m ∧ (ss.filter isWi).length = m ∧ 1 ≤ m ∧ m ≤ 3 ∧
  ∀ (us : List V) (p : Addr) (H' : Hp), Same H H' → H p = none → H' p = some (.lst us) → DpAll K H' us (plansL m (anyP ss)) → Q (.ref p) H'
/-- an order of permutations -/
theorem perms_ok {m i : Nat} {o : List Nat} (h1 : 1 ≤ m) (h3 : m ≤ 3) (h : (Pm.perms m)[i]? = some o) : o.length = m ∧ o.Nodup ∧ (∀ j ∈ o, j < m) ∧ (∀ j, j < m → ∃ a, a < m ∧ o.getD a 0 = j) ∧ ∀ a, a < m → o.getD a 0 < m := by
  have all : ∀ m, 1 ≤ m → m ≤ 3 → ∀ o ∈ Pm.perms m, o.length = m ∧ o.Nodup ∧ (∀ j ∈ o, j < m) ∧ (∀ j, j < m → ∃ a, a < m ∧ o.getD a 0 = j) ∧ ∀ a, a < m → o.getD a 0 < m := by
    intro m h1 h3
    match m, h1, h3 with
    | 1, _, _ => decide
    | 2, _, _ => decide
    | 3, _, _ => decide
  exact all m h1 h3 o (List.mem_of_getElem? h)
theorem links_emp {ss : List Src} {m : Nat} {o : List Nat} (w : Well ss m) {i : Nat} (h1 : 1 ≤ m) (h3 : m ≤ 3) (h : (Pm.perms m)[i]? = some o) : (linksL ss o).isEmpty = !anyP ss := by
  obtain ⟨a, b, c, d, e⟩ := perms_ok h1 h3 h
  cases q : anyP ss with
  | true =>
    obtain ⟨s, hs, hp⟩ := List.any_eq_true.mp q
    obtain ⟨k, hk⟩ := List.mem_iff_getElem?.mp hs
    have kl := at_lt hk
    have ek : ss.getD k noSrc = s := by rw [List.getD_eq_getElem?_getD, hk] <;> rfl
    have ne : linksL ss o ≠ [] := links_some w a d e kl (by
      rw [ek]
      intro z
      rw [z] at hp
      cases hp)
    cases z : linksL ss o with
    | nil => exact absurd z ne
    | cons _ _ => rfl
  | false =>
    have : linksL ss o = [] := links_none fun s hs => by
      have := List.any_eq_false.mp q s hs
      cases z : s.pairs with
      | nil => rfl
      | cons _ _ => rw [z] at this; exact absurd rfl this
    rw [this]
    rfl
theorem pl_only (o : List Nat) (w : Str) (h : o.length ≤ 1000) : tupOnly (pl o w) = true := by
  have : ∀ o : List Nat, tupOnlyAll (o.map fun k => PyData.int ((k : Nat) : Int)) = true := fun o => by
    induction o with
    | nil => rfl
    | cons k o ih => rw [List.map_cons]; simp only [tupOnlyAll, tupOnly, ih, Bool.and_self]
  simp only [pl, tupOnly, tupOnlyAll, this, Bool.and_true, List.length_cons, List.length_nil, List.length_map, Bool.and_eq_true, decide_eq_true_eq]
  exact ⟨by decide, h⟩
theorem pl_dp {K : PySem.W.Frag} {H : Hp} {t O : Addr} {o : List Nat} {w : Str} (ht : SqT K H t [.ref O, .str w]) (hO : SqT K H O (intsV o)) : Dp K H (.ref t) (pl o w) := by
  refine .tup ht (.cons (.tup hO ?_) (.cons (.str _) .nil))
  have : ∀ o : List Nat, DpAll K H (intsV o) (o.map fun k => PyData.int ((k : Nat) : Int)) := fun o => by
    induction o with
    | nil => exact .nil
    | cons k o ih => exact .cons (.int _) ih
  exact this o
def gen1 (b : Bool) (o : List Nat) : List PyData := if b then [pl o "walked", pl o "kept"] else [pl o "walked"]
theorem gens_only (b : Bool) : ∀ os : List (List Nat), (∀ o ∈ os, o.length ≤ 1000) → tupOnlyAll (os.flatMap (gen1 b)) = true
  | [], _ => rfl
  | o :: os, h => by
    have a := pl_only o "walked" (h o (by simp))
    have c := pl_only o "kept" (h o (by simp))
    have ih := gens_only b os fun o m => h o (by simp [m])
    rw [List.flatMap_cons]
    cases b with
    | true => show tupOnlyAll (pl o "walked" :: pl o "kept" :: os.flatMap (gen1 true)) = true; simp only [tupOnlyAll, a, c, ih, Bool.and_self]
    | false => show tupOnlyAll (pl o "walked" :: os.flatMap (gen1 false)) = true; simp only [tupOnlyAll, a, ih, Bool.and_self]
def gen2 (b : Bool) (o : List Nat) : List PyData := if b then [pl o "kept", pl o "walked"] else [pl o "walked"]
theorem gens2_only (b : Bool) : ∀ os : List (List Nat), (∀ o ∈ os, o.length ≤ 1000) → tupOnlyAll (os.flatMap (gen2 b)) = true
  | [], _ => rfl
  | o :: os, h => by
    have a := pl_only o "walked" (h o (by simp))
    have c := pl_only o "kept" (h o (by simp))
    have ih := gens2_only b os fun o m => h o (by simp [m])
    rw [List.flatMap_cons]
    cases b with
    | true => show tupOnlyAll (pl o "kept" :: pl o "walked" :: os.flatMap (gen2 true)) = true; simp only [tupOnlyAll, a, c, ih, Bool.and_self]
    | false => show tupOnlyAll (pl o "walked" :: os.flatMap (gen2 false)) = true; simp only [tupOnlyAll, a, ih, Bool.and_self]
theorem rg_m (m : Nat) : rgV 0 ((m : Nat) : Int) = (List.range m).map fun k => V.int ((k : Nat) : Int) := by
  unfold rgV
  rw [show (((m : Nat) : Int) - 0).toNat = m by omega]
  exact List.map_congr_left fun i _ => by rw [Int.zero_add]
theorem only_snoc : ∀ {ds : List PyData} {d : PyData}, tupOnlyAll ds = true → tupOnly d = true → tupOnlyAll (ds ++ [d]) = true
  | [], d, _, h => by simp only [List.nil_append, tupOnlyAll, h, Bool.and_true]
  | x :: r, d, a, h => by
    rw [List.cons_append]
    simp only [tupOnlyAll, Bool.and_eq_true] at a ⊢
    exact ⟨a.1, only_snoc a.2 h⟩
theorem gen_deep {m : Nat} {b : Bool} (h1 : 1 ≤ m) (h3 : m ≤ 3) : ∀ d ∈ genL m b, d.depth ≤ 50 := by
  match m, b, h1, h3 with
  | 1, true, _, _ => decide +kernel
  | 1, false, _, _ => decide +kernel
  | 2, true, _, _ => decide +kernel
  | 2, false, _, _ => decide +kernel
  | 3, true, _, _ => decide +kernel
  | 3, false, _, _ => decide +kernel
section
variable {P : Program} {w : World} {K : PySem.W.Frag} {mg : Str → Option Value} {base : Heap} {f fL : Addr} {fd dL : FuncData}
theorem ok_pl (F : Fun K "plans_of" "plans_of" sPl f fd) (mp : mg "permutations" = some (.type "itertools.permutations")) (ml : mg "list" = none) (mr : mg "range" = none) (mn : mg "len" = none) (ms : mg "sorted" = none)
    (FL : Fun K "links_of" "links_of" sLk fL dL) (GL : FnOk P w K mg base CX0 2 fL dL ["ask", "plan"] (spLk K)) (bL : Binds K dL ["ask", "plan"] []) (gL : mg "links_of" = some (.ref fL)) :
    FnOk P w K mg base CX0 3 f fd ["ask"] (spPl K) := by
  refine F.ok scPl (fun vs H Q E h => ?_) (fun cdv A outer s0 H vs Q E hr h => ?_)
  · obtain ⟨A, ss, m, rfl, _⟩ := h
    rfl
  obtain ⟨AK, ss, m, rfl, hK, hs, hw, hm, m1, m3, q⟩ := h
  have nd := scPl.nd
  have zl : sizeLine = 16777216 := rfl
  refine ⟨_, pss_cons (ps_setLc (i := 1) (own := [("source", 4)]) (g := gName 4) rfl nd rfl rfl (by rfl) (pi_tup (pe_ix ix_tup (pv 0) pe_int (fun _ _ => rfl))) (blkOk_by (N := nPl) (sc := defScope sPl) (by decide +kernel)) (fun _ _ _ _ _ => pg_name (i := 4) nd rfl (Or.inl rfl)) (fun _ _ _ _ _ => pts_one (pt_cmpR op_eq (pe_ix (r := rIxT K) ix_tup (pv 4) pe_int (fun _ _ => rfl)) pe_str (nomark _))) (fun _ _ _ _ _ => (pv 4)))
      (pss_cons (ps_set (i := 2) nd rfl (.inl rfl) (pe_lst pa_nil))
      (pss_cons (ps_for PassesOwn.never rfl (Pm.pi_pm (by rfl) mp (pa_cons (pe_listRg rfl (by rfl) ml (prg_1 (by rfl) mr (pe_callB call_len_seq (by rfl) mn PySem.boot_len (pa_cons (pv 1) pa_nil)))) pa_nil)) (pg_name (i := 3) nd rfl (.inl rfl))
      (pss_cons (ps_expr (pe_bm PySem.F.plainAttrs_list PySem.F.slot_list_append PySem.F.type_list_append mt_append (pv 2) (pa_cons (pe_tup (pa_cons (pv 3) (pa_cons pe_str pa_nil))) pa_nil)))
      (pss_one (ps_if (pt_truth (pe_call GL hr (by rfl) gL FL.kp bL .nil pass0 (pa_cons (pv 0) (pa_cons (pe_tup (pa_cons (pv 3) (pa_cons pe_str pa_nil))) pa_nil))) (by intro _; rfl))
        (pss_one (ps_expr (pe_bm PySem.F.plainAttrs_list PySem.F.slot_list_append PySem.F.type_list_append mt_append (pv 2) (pa_cons (pe_tup (pa_cons (pv 3) (pa_cons pe_str pa_nil))) pa_nil)))) pss_nil))))
      (pss_one (ps_ret (pe_callB (call_sortedD hr.units) (by rfl) ms (by decide +kernel) (pa_cons (pv 2) pa_nil)))))), ?_⟩
  have hu := hu_of hr
  obtain ⟨as, xs, S, hA, e0, hS, hX⟩ := id hK
  obtain ⟨s10, p10⟩ := id hs
  have lX : xs.length = ss.length := by rw [DpAll.len hX, List.length_map]
  refine ⟨_, rfl, AK, _, 0, _, rfl, rfl, hA, atI_nat (j := 0) e0, S, rfl, ⟨_, hS⟩, fun W nW => ?_⟩
  refine lc_it walk_tup (fun i H1 => Same H H1 ∧ ∃ acc, H1 W = some (.lst acc) ∧ acc.length = ((ss.take i).filter isWi).length) ⟨new_same nW, _, upd_same, rfl⟩ (fun i H1 _ h => same_tup h.1 hS) ?_ ?_
  · rintro i x H1 H2 hi ⟨s1, acc, eW, la⟩ ⟨rfl, ex⟩
    have hi : i < xs.length := hi
    obtain ⟨d, ed, hd⟩ := DpAll.at_ hX ex
    rw [srcs_at (by omega)] at ed
    cases ed
    have es : ss[i]? = some (ss.getD i noSrc) := by rw [List.getD_eq_getElem?_getD, List.getElem?_eq_getElem (by omega)] <;> rfl
    generalize ss.getD i noSrc = s at hd es
    obtain ⟨a, b, ps, rfl, tt, tb, hp⟩ := dp_src hd
    have tk : ((ss.take (i + 1)).filter isWi).length = ((ss.take i).filter isWi).length + (if isWi s then 1 else 0) := by
      rw [take_at es, List.filter_append, List.length_append]
      cases z : isWi s <;> simp [List.filter, z]
    have lf := List.length_filter_le isWi (ss.take i)
    rw [List.length_take] at lf
    refine ⟨rfl, ?_⟩
    refine ⟨_, rfl, a, _, 0, _, rfl, rfl, same_tup s1 tt, atI_nat (j := 0) rfl, rfl, _, rfl, ?_⟩
    by_cases z : s.way = "with"
    · have zi : isWi s = true := decide_eq_true z
      rw [show decide (V.str s.way = V.str "with") = true from decide_eq_true (congrArg V.str z)]
      refine iteT ?_
      refine ⟨_, rfl, _, eW, by omega, own_same nW s1, _, upd_same, ?_⟩
      rw [tk, zi, List.length_append, la]
      rfl
    · have zi : isWi s = false := decide_eq_false z
      rw [show decide (V.str s.way = V.str "with") = false from decide_eq_false (fun e => z (V.str.inj e))]
      refine iteF ⟨s1, acc, eW, ?_⟩
      rw [tk, zi, la]
      rfl
  rintro H1 ⟨s1, acc, eW, la⟩
  rw [lX, List.take_length, hm] at la
  refine ⟨Nat.zero_le _, fun T nT => ?_⟩
  have s2 := s1.trans (new_same (o := .lst []) nT)
  have nT0 : H T = none := s1.free nT
  have hW2 := new_same (o := .lst []) nT _ _ eW
  have nWT : W ≠ T := ne_of_none eW nT
  have T0 : upd H1 T (.lst []) T = some (.lst []) := upd_same
  generalize upd H1 T (.lst []) = H2 at s2 hW2 T0 ⊢
  refine ⟨_, rfl, W, _, rfl, .inl (SqL.of hW2), ?_⟩
  rw [la]
  refine ⟨_, rfl, ⟨by omega, by omega, by omega, by omega, by omega⟩, fun L nL => ?_⟩
  have s3 := s2.trans (new_same (o := .lst (rgV 0 ((m : Nat) : Int))) nL)
  have T3 := new_same (o := .lst (rgV 0 ((m : Nat) : Int))) nL _ _ T0
  have eL : upd H2 L (.lst (rgV 0 ((m : Nat) : Int))) L = some (.lst ((List.range m).map fun k => V.int ((k : Nat) : Int))) := by
    rw [upd_same, rg_m]
  refine ⟨L, m, rfl, SqL.of eL, m1, m3, ?_⟩
  generalize upd H2 L (.lst (rgV 0 ((m : Nat) : Int))) = H3 at s3 T3
  have lenP : (Pm.perms m).length ≤ 6 := by
    match m, m1, m3 with
    | 1, _, _ => decide
    | 2, _, _ => decide
    | 3, _, _ => decide
  refine for_it Pm.walk_pm (fun i σ H4 => Same H H4 ∧ (∃ ts, H4 T = some (.lst ts) ∧ DpAll K H4 ts (((Pm.perms m).take i).flatMap (gen1 (anyP ss))) ∧ ts.length ≤ 2 * i) ∧ ∃ y3 y4, σ = [some (.ref AK), some (.ref W), some (.ref T), y3, y4])
    ⟨s3, ⟨[], T3, .nil, Nat.le_refl _⟩, _, _, rfl⟩ (fun _ _ _ _ _ => trivial) ?_ ?_
  · rintro i x σ H4 H5 hi ⟨s4, ⟨ts, eT, ht, lt⟩, y3, y4, rfl⟩ ⟨O, o, rfl, nO, eo, rfl⟩
    obtain ⟨o1, o2, o3, o4, o5⟩ := perms_ok m1 m3 eo
    have j1 := new_same (o := .tup (intsV o)) nO
    have s5 := s4.trans j1
    have eT5 := j1 _ _ eT
    have hO : SqT K (upd H4 O (.tup (intsV o))) O (intsV o) := SqT.of upd_same
    have only : tupOnlyAll (((Pm.perms m).take i).flatMap (gen1 (anyP ss))) = true := gens_only _ _ fun o' h' => by
      obtain ⟨k, hk⟩ := List.mem_iff_getElem?.mp (List.mem_of_mem_take h')
      have := (perms_ok m1 m3 hk).1
      omega
    have ht5 := DpAll.tups (Tups.of_same j1) _ only ht
    have tk : ((Pm.perms m).take (i + 1)).flatMap (gen1 (anyP ss)) = ((Pm.perms m).take i).flatMap (gen1 (anyP ss)) ++ gen1 (anyP ss) o := by
      rw [take_at eo, List.flatMap_append]
      simp
    show gName 3 (.ref O) _ (upd H4 O (.tup (intsV o))) _
    generalize upd H4 O (.tup (intsV o)) = H5 at s5 eT5 hO ht5 ⊢
    refine ⟨_, rfl, .inl ⟨rfl, _, SqL.of eT5⟩, _, rfl, (by show 2 ≤ sizeLine; decide), fun t nt => ?_⟩
    have j2 := new_same (o := .tup [.ref O, .str "walked"]) nt
    have eT6 := j2 _ _ eT5
    refine ⟨T, ts, _, rfl, rfl, eT6, by omega, ?_⟩
    have s6 := s5.trans j2
    have hO6 := same_tup j2 hO
    have ht6 := DpAll.tups (Tups.of_same j2) _ only ht5
    have tt6 : SqT K (upd H5 t (.tup [.ref O, .str "walked"])) t [.ref O, .str "walked"] := SqT.of upd_same
    generalize upd H5 t (.tup [.ref O, .str "walked"]) = H6 at s6 eT6 hO6 ht6 tt6 ⊢
    have u7 := Tups.upd_lst (K := K) (ys := ts ++ [.ref t]) eT6
    have s7 := own_same (o := .lst (ts ++ [.ref t])) nT0 s6
    have ht7 := DpAll.snoc ht6 (pl_dp tt6 hO6)
    have only7 : tupOnlyAll (((Pm.perms m).take i).flatMap (gen1 (anyP ss)) ++ [pl o "walked"]) = true := only_snoc only (pl_only o _ (by omega))
    have ht7 := DpAll.tups u7 _ only7 ht7
    have hO7 := u7 _ _ hO6
    have eT7 : upd H6 T (.lst (ts ++ [.ref t])) T = some (.lst (ts ++ [.ref t])) := upd_same
    generalize upd H6 T (.lst (ts ++ [.ref t])) = H7 at s7 ht7 hO7 eT7 ⊢
    have l7 : (ts ++ [V.ref t]).length = ts.length + 1 := List.length_append ..
    generalize ts ++ [V.ref t] = ts7 at ht7 eT7 l7
    -- the links of the plan
    refine ⟨_, rfl, _, rfl, (by show 2 ≤ sizeLine; decide), fun p np => ?_⟩
    have j8 := new_same (o := .tup [.ref O, .str "walked"]) np
    have s8 := s7.trans j8
    have pp8 : SqT K (upd H7 p (.tup [.ref O, .str "walked"])) p [.ref O, .str "walked"] := SqT.of upd_same
    have hO8 := same_tup j8 hO7
    have eT8 := j8 _ _ eT7
    have ht8 := DpAll.tups (Tups.of_same j8) _ only7 ht7
    generalize upd H7 p (.tup [.ref O, .str "walked"]) = H8 at s8 pp8 hO8 eT8 ht8 ⊢
    have ol : o.length ≤ ss.length := by
      have := List.length_filter_le isWi ss
      omega
    refine ⟨AK, p, _, O, ss, o, rfl, ⟨as, xs, S, same_tup s8 hA, e0, same_tup s8 hS, DpAll.tups (Tups.of_same s8) _ (srcs_only ss p10) hX⟩, ⟨s10, p10⟩, pp8, rfl, hO8, ol, o2, fun j hj => by rw [o1]; exact o3 j hj, fun l kvs H9 s9 nl el lk => ?_⟩
    have lz := lk.len
    have le := links_emp hw m1 m3 eo
    have ez : kvs.isEmpty = !anyP ss := by
      rw [← le]
      cases kvs with
      | nil => cases q : linksL ss o with
        | nil => rfl
        | cons _ _ => rw [q] at lz; cases lz
      | cons _ _ => cases q : linksL ss o with
        | nil => rw [q] at lz; cases lz
        | cons _ _ => rfl
    have s89 := s8.trans s9
    have eT9 := s9 _ _ eT8
    have ht9 := DpAll.tups (Tups.of_same s9) _ only7 ht8
    have hO9 := same_tup s9 hO8
    refine ⟨!kvs.isEmpty, .inr (.inr ⟨kvs, el, rfl⟩), ?_⟩
    rw [ez, Bool.not_not]
    cases z : anyP ss with
    | false =>
      refine iteF ⟨s89, ⟨ts7, eT9, ?_, by omega⟩, _, _, rfl⟩
      rw [z] at tk ht9
      rw [tk]
      exact ht9
    | true =>
      refine iteT ?_
      refine ⟨_, rfl, .inl ⟨rfl, _, SqL.of eT9⟩, _, rfl, (by show 2 ≤ sizeLine; decide), fun r nr => ?_⟩
      have j10 := new_same (o := .tup [.ref O, .str "kept"]) nr
      have eT10 := j10 _ _ eT9
      refine ⟨T, ts7, _, rfl, rfl, eT10, by omega, ?_⟩
      have s10' := s89.trans j10
      have ht10 := DpAll.tups (Tups.of_same j10) _ only7 ht9
      have hO10 := same_tup j10 hO9
      have rr : SqT K (upd H9 r (.tup [.ref O, .str "kept"])) r [.ref O, .str "kept"] := SqT.of upd_same
      have ht11 := DpAll.snoc ht10 (pl_dp rr hO10)
      have only11 := only_snoc only7 (pl_only o "kept" (by omega))
      have u11 := Tups.upd_lst (K := K) (ys := ts7 ++ [.ref r]) eT10
      refine ⟨own_same nT0 s10', ⟨ts7 ++ [.ref r], upd_same, ?_, by rw [List.length_append]; show ts7.length + 1 ≤ _; omega⟩, _, _, rfl⟩
      have ht12 := DpAll.tups u11 _ only11 ht11
      rw [z] at tk ht12
      rw [tk]
      rw [List.append_assoc] at ht12
      exact ht12
  · rintro σ H4 ⟨s4, ⟨ts, eT, ht, lt⟩, y3, y4, rfl⟩
    rw [List.take_length] at ht
    refine ⟨_, rfl, T, ts, genL m (anyP ss), rfl, SqL.of eT, ht, al_gen _ _ m1 m3, so_gen _ _, ?_, ?_, fun us p np hu => ?_⟩
    · have := DpAll.len ht
      show ((Pm.perms m).flatMap (gen1 (anyP ss))).length ≤ 1000
      omega
    · exact gen_deep m1 m3
    · rw [told_gen _ _ m1 m3] at hu
      have j := new_same (o := .lst us) np
      refine q us p _ (s4.trans j) (s4.free np) upd_same (DpAll.tups (Tups.of_same j) _ (gens2_only _ _ fun o' h' => ?_) hu)
      obtain ⟨k, hk⟩ := List.mem_iff_getElem?.mp h'
      have := (perms_ok m1 m3 hk).1
      omega
end
end K37
end

section
set_option Elab.async false
set_option linter.all false
set_option maxRecDepth 100000
set_option maxHeartbeats 4000000
namespace K37
open PySem PySem.Spec PyProof.Rows L2 Gd
abbrev sLed : Stmt := topS 4
abbrev nLed : List Str := ["ask", "plan", "order"]
theorem scLed : FnScope nLed ["ask", "plan"] (defScope sLed) := ⟨rfl, rfl, rfl, by decide +kernel, rfl, by decide +kernel, by decide +kernel⟩
theorem tab_at {K : PySem.W.Frag} {H : Hp} {A : Addr} {ss : List Src} {n : Nat} (h : AskAt K H A ss) (hn : n < ss.length) : ∃ (as xs : List V) (S a b : Addr) (w k : Str), SqT K H A as ∧ as[0]? = some (.ref S) ∧ SqT K H S xs ∧ xs[n]? = some (.ref a) ∧ SqT K H a [.str w, .str k, .str (tabOf ss n), .ref b] := by
  obtain ⟨as, xs, S, hA, e0, hS, hX⟩ := h
  have lx : xs.length = ss.length := by rw [DpAll.len hX, List.length_map]
  have ex : xs[n]? = some xs[n] := List.getElem?_eq_getElem (by omega)
  obtain ⟨d, ed, hd⟩ := DpAll.at_ hX ex
  rw [srcs_at hn] at ed
  cases ed
  obtain ⟨a, b, ps, e, r, _⟩ := dp_src hd
  exact ⟨as, xs, S, a, b, _, _, hA, e0, hS, by rw [ex, e], r⟩
theorem ask_same {K : PySem.W.Frag} {H H' : Hp} {A : Addr} {ss : List Src} (s : Same H H') (h : AskAt K H A ss) : AskAt K H' A ss := by
  obtain ⟨as, xs, S, a, b, c, d⟩ := h
  exact ⟨as, xs, S, same_tup s a, b, same_tup s c, DpAll.same s _ d⟩
def spLed (K : PySem.W.Frag) : Sp := fun vs H Q _ => ∃ (A PL O : Addr) (ps : List V) (ss : List Src) (o : List Nat), vs = [.ref A, .ref PL] ∧ AskAt K H A ss ∧ Small ss ∧ SqT K H PL ps ∧ ps[0]? = some (.ref O) ∧ SqT K H O (intsV o) ∧ o.length ≤ ss.length ∧
  ∀ (p : Addr) (H' : Hp), Same H H' → H' p = some (.lst (intsV (ledL ss o))) → Q (.ref p) H'
/-- a plan in the heap -/
def PlAt (K : PySem.W.Frag) (H : Hp) (PL : Addr) (o : List Nat) (w : Str) : Prop := ∃ O, SqT K H PL [.ref O, .str w] ∧ SqT K H O (intsV o)
theorem PlAt.same {K : PySem.W.Frag} {H H' : Hp} {PL : Addr} {o : List Nat} {w : Str} (s : Same H H') (h : PlAt K H PL o w) : PlAt K H' PL o w := by
  obtain ⟨O, a, b⟩ := h
  exact ⟨O, same_tup s a, same_tup s b⟩
theorem cut1 (xs : List V) : cutV xs (some 1) none = xs.drop 1 := by
  unfold cutV
  rw [HT.sIx_none, show (1 : Int) = ((1 : Nat) : Int) from rfl, HT.sIx_nat]
  cases xs with
  | nil => rfl
  | cons x r =>
    have e : min 1 (x :: r).length = 1 := by rw [List.length_cons]; omega
    rw [e]
    exact List.take_of_length_le (by rw [List.length_drop]; exact Nat.le_refl _)
theorem rg_between {m n : Nat} (h : m ≤ n) : rgV ((m : Nat) : Int) ((n : Nat) : Int) = ((List.range (n - m)).map (m + ·)).map fun j => V.int ((j : Nat) : Int) := by
  unfold rgV
  rw [show (((n : Nat) : Int) - ((m : Nat) : Int)).toNat = n - m by omega, List.map_map]
  exact List.map_congr_left fun i _ => rfl
theorem led_in {ss : List Src} {o : List Nat} (h : ∀ j ∈ o, j < o.length) (l : o.length ≤ ss.length) : ∀ n ∈ ledL ss o, n < ss.length := by
  intro n hn
  unfold ledL at hn
  rcases List.mem_append.mp hn with m | m
  · have := h n (List.mem_of_mem_drop m)
    omega
  · obtain ⟨k, hk, rfl⟩ := List.mem_map.mp m
    have := List.mem_range.mp hk
    omega
theorem in_ints (n : Nat) : ∀ o : List Nat, inV (V.int ((n : Nat) : Int)) (intsV o) = decide (n ∈ o)
  | [] => rfl
  | k :: o => by
    have ih := in_ints n o
    unfold inV intsV at ih ⊢
    rw [List.map_cons, List.any_cons, ih]
    have e : eqV (V.int ((k : Nat) : Int)) (V.int ((n : Nat) : Int)) = decide (n = k) := by
      show (((k : Nat) : Int) == ((n : Nat) : Int)) = decide (n = k)
      by_cases z : n = k
      · subst z; simp
      · rw [decide_eq_false z]
        simpa using fun h => z (by omega)
    rw [e]
    by_cases z : n = k
    · subst z; simp
    · simp [z]
section
variable {P : Program} {w : World} {K : PySem.W.Frag} {mg : Str → Option Value} {base : Heap} {f fL fR fE fS : Addr} {fd dL dR dE dS : FuncData}
theorem ok_led (F : Fun K "led_to" "led_to" sLed f fd) (ml : mg "list" = none) (mr : mg "range" = none) (mn : mg "len" = none) : FnOk P w K mg base CX0 1 f fd ["ask", "plan"] (spLed K) := by
  refine F.ok scLed (fun vs H Q E h => ?_) (fun cdv A outer s H vs Q E hr h => ?_)
  · obtain ⟨A, PL, O, ps, ss, o, rfl, _⟩ := h
    rfl
  obtain ⟨AK, PL, O, ps, ss, o, rfl, hA, hs, hP, e0, hO, lo, q⟩ := h
  have nd := scLed.nd
  have hu := hu_of hr
  refine ⟨_, pss_cons (ps_set (i := 2) nd rfl (.inl rfl) (pe_ix ix_tup (pv 1) pe_int (fun _ _ => rfl)))
      (pss_one (ps_ret (pe_op op_cat (pe_callTy call_list_of (by rfl) ml (by decide +kernel) (pa_cons (pe_slice sl_tupC (pv 2) (po_some pe_int) po_none) pa_nil)) (pe_listRg rfl (by rfl) ml (prg_2 (by rfl) mr (pe_callB call_len_seq (by rfl) mn PySem.boot_len (pa_cons (pv 2) pa_nil)) (pe_callB call_len_seq (by rfl) mn PySem.boot_len (pa_cons (pe_ix ix_tup (pv 0) pe_int (fun _ _ => rfl)) pa_nil))))))), ?_⟩
  have hA' := hA
  obtain ⟨as, xs, S, tA, e1, tS, hX⟩ := hA'
  have lx : xs.length = ss.length := by rw [DpAll.len hX, List.length_map]
  have s10 := hs.1
  refine ⟨_, rfl, PL, _, 0, _, rfl, rfl, hP, atI_nat (j := 0) e0, ?_⟩
  refine ⟨_, rfl, _, rfl, O, _, rfl, hO, fun p1 H1 s1 hp1 => ?_⟩
  rw [cut1] at hp1
  refine ⟨p1, _, rfl, .inr hp1, fun l nl => ?_⟩
  have s2 := s1.trans (new_same (o := .lst ((intsV o).drop 1)) nl)
  have el : upd H1 l (.lst ((intsV o).drop 1)) l = some (.lst ((intsV o).drop 1)) := upd_same
  generalize upd H1 l (.lst ((intsV o).drop 1)) = H2 at s2 el ⊢
  have lO : (intsV o).length = o.length := List.length_map ..
  refine ⟨_, rfl, O, _, rfl, .inr (same_tup s2 hO), _, rfl, AK, _, 0, _, rfl, rfl, same_tup s2 tA, atI_nat (j := 0) e1, S, _, rfl, .inr (same_tup s2 tS), _, _, rfl, rfl, ⟨by omega, by omega, by omega, by omega, by omega⟩, fun r nr => ?_⟩
  rw [lO, lx, rg_between lo]
  have j3 := new_same (o := .lst (((List.range (ss.length - o.length)).map (o.length + ·)).map fun j => V.int ((j : Nat) : Int))) nr
  have s3 := s2.trans j3
  have el3 := j3 _ _ el
  have er : upd H2 r (.lst (((List.range (ss.length - o.length)).map (o.length + ·)).map fun j => V.int ((j : Nat) : Int))) r = some (.lst (((List.range (ss.length - o.length)).map (o.length + ·)).map fun j => V.int ((j : Nat) : Int))) := upd_same
  generalize upd H2 r (.lst (((List.range (ss.length - o.length)).map (o.length + ·)).map fun j => V.int ((j : Nat) : Int))) = H3 at s3 el3 er ⊢
  refine ⟨_, _, _, _, rfl, rfl, el3, er, (by rw [List.length_drop, lO, List.length_map, List.length_map, List.length_range]; show _ ≤ 16777216; omega), fun p np => ?_⟩
  have e : (intsV o).drop 1 ++ ((List.range (ss.length - o.length)).map (o.length + ·)).map (fun j => V.int ((j : Nat) : Int)) = intsV (ledL ss o) := by
    unfold ledL intsV
    rw [List.map_append, List.map_drop]
  rw [e]
  exact q p _ (s3.trans (new_same np)) upd_same
end
end K37
end

section
set_option Elab.async false
set_option linter.all false
set_option maxRecDepth 100000
set_option maxHeartbeats 4000000
namespace K37t
open PySem PySem.Spec PyProof.Rows L2 Gd
def topS (i : Nat) : Stmt := PySem.Challenge.pw_plansamid_k37_what_visits_take.main.body.getD i (.Pass ⟨0, 0, 0, 0⟩)
end K37t
end

section
set_option Elab.async false
set_option linter.all false
set_option maxRecDepth 100000
set_option maxHeartbeats 4000000
namespace K37t
open PySem PySem.Spec PyProof.Rows L2 Gd

/-! what a part is, by its data -/
def isLab (x : Str) : Bool := decide (1 ≤ x.length) && decide (x.length ≤ 8) && x.cps.toList.all (fun c => decide (c ∈ ("abcdefghijklmnopqrstuvwxyz" : Str).cps.toList))
def isLabD : PyData → Bool
  | .str x => isLab x
  | _ => false
def isNum : PyData → Bool
  | .int i => decide (-(10 ^ 30 : Int) < i) && decide (i < 10 ^ 30)
  | _ => false
def isWor : PyData → Bool
  | .none => true
  | d => isNum d
def signs : List Str := ["plus", "less", "times", "over"]
def cnt : Nat → PyData → Nat
  | 0, _ => 0
  | k + 1, .tuple ds => match ds with
    | [w, n] => if isStr w "number" && isNum n then 1 else 0
    | [w, x, y] =>
      if isStr w "cell" then (if isLabD x && isLabD y then 1 else 0)
      else if signs.any (isStr w) then (if decide (0 < cnt k x) && decide (0 < cnt k y) then 1 + cnt k x + cnt k y else 0) else 0
    | _ => 0
  | _ + 1, _ => 0
def isPart (d : PyData) : Bool := decide (1 ≤ cnt 5 d) && decide (cnt 5 d ≤ 15)

/-! sizes -/
mutual
def okD (k : Nat) : PyData → Bool
  | .none => true
  | .bool _ => true
  | .int i => decide (i.natAbs ≤ 10 ^ 64 + k)
  | .str x => decide (x.length ≤ 100 + k) && x.cps.toList.all (fun c => decide (c < 128))
  | .list ds => decide (ds.length ≤ k) && okAll k ds
  | .tuple ds => decide (ds.length ≤ k) && okAll k ds
  | .dict kvs => okKv k kvs
def okAll (k : Nat) : List PyData → Bool
  | [] => true
  | d :: ds => okD k d && okAll k ds
def okKv (k : Nat) : List (PyData × PyData) → Bool
  | [] => true
  | (a, b) :: r => okD k a && okD k b && okKv k r
end
mutual
theorem okD.mono {k m : Nat} (l : k ≤ m) : ∀ d : PyData, okD k d = true → okD m d = true
  | .none, _ => rfl
  | .bool _, _ => rfl
  | .int i, h => by
    simp only [okD, decide_eq_true_eq] at h ⊢
    exact Nat.le_trans h (Nat.add_le_add_left l _)
  | .str x, h => by
    simp only [okD, Bool.and_eq_true, decide_eq_true_eq] at h ⊢
    exact ⟨by omega, h.2⟩
  | .list ds, h => by
    simp only [okD, Bool.and_eq_true, decide_eq_true_eq] at h ⊢
    exact ⟨by omega, okAll.mono l ds h.2⟩
  | .tuple ds, h => by
    simp only [okD, Bool.and_eq_true, decide_eq_true_eq] at h ⊢
    exact ⟨by omega, okAll.mono l ds h.2⟩
  | .dict kvs, h => by
    simp only [okD] at h ⊢
    exact okKv.mono l kvs h
theorem okAll.mono {k m : Nat} (l : k ≤ m) : ∀ ds : List PyData, okAll k ds = true → okAll m ds = true
  | [], _ => rfl
  | d :: ds, h => by
    simp only [okAll, Bool.and_eq_true] at h ⊢
    exact ⟨okD.mono l d h.1, okAll.mono l ds h.2⟩
theorem okKv.mono {k m : Nat} (l : k ≤ m) : ∀ kvs : List (PyData × PyData), okKv k kvs = true → okKv m kvs = true
  | [], _ => rfl
  | (a, b) :: r, h => by
    simp only [okKv, Bool.and_eq_true] at h ⊢
    exact ⟨⟨okD.mono l a h.1.1, okD.mono l b h.1.2⟩, okKv.mono l r h.2⟩
end
theorem int_short {i : Int} {k : Nat} (hk : k ≤ 50) (h : i.natAbs ≤ 10 ^ 64 + k) : (PyData.int i).shown.length ≤ 100 ∧ i.natAbs.log2 < 1920 := by
  have h1 : i.natAbs < 10 ^ 65 := Nat.lt_of_le_of_lt h (Nat.lt_of_le_of_lt (Nat.add_le_add_left hk _) (by decide))
  have h2 : i.natAbs < 2 ^ 1920 := Nat.lt_of_lt_of_le h1 (by decide +kernel)
  refine ⟨?_, ?_⟩
  · have e := int_text_length_le10 (k := 65) (by decide) h1
    have e2 : (PyData.int i).shown.length = (toString i).length := by
      show (Str.ofString (toString i)).length = _
      rw [PySem.ofString_length]
    omega
  · by_cases z : i.natAbs = 0
    · rw [z]; decide
    · exact (Nat.log2_lt z).mpr h2
mutual
theorem okD.short {k : Nat} (hk : k ≤ 50) : ∀ d : PyData, okD k d = true → d.leavesShort 100 = true ∧ d.showable = true
  | .none, _ => ⟨rfl, rfl⟩
  | .bool _, _ => ⟨rfl, rfl⟩
  | .int i, h => by
    simp only [okD, decide_eq_true_eq] at h
    obtain ⟨a, b⟩ := int_short hk h
    refine ⟨?_, ?_⟩
    · simpa only [PyData.leavesShort, decide_eq_true_eq] using a
    · simpa [PyData.showable] using b
  | .str x, h => by
    simp only [okD, Bool.and_eq_true, List.all_eq_true, decide_eq_true_eq] at h
    refine ⟨?_, ?_⟩
    · simp only [PyData.leavesShort, List.all_eq_true, decide_eq_true_eq]
      intro c hc
      exact Nat.lt_of_lt_of_le (h.2 c hc) (by decide)
    · simp [PyData.showable]
  | .list ds, h => by
    simp only [okD, Bool.and_eq_true] at h
    obtain ⟨a, b⟩ := okAll.short hk ds h.2
    exact ⟨by simpa only [PyData.leavesShort] using a, by simpa only [PyData.showable] using b⟩
  | .tuple ds, h => by
    simp only [okD, Bool.and_eq_true] at h
    obtain ⟨a, b⟩ := okAll.short hk ds h.2
    exact ⟨by simpa only [PyData.leavesShort] using a, by simpa only [PyData.showable] using b⟩
  | .dict kvs, h => by
    simp only [okD] at h
    obtain ⟨a, b⟩ := okKv.short hk kvs h
    exact ⟨by simpa only [PyData.leavesShort] using a, by simpa only [PyData.showable] using b⟩
theorem okAll.short {k : Nat} (hk : k ≤ 50) : ∀ ds : List PyData, okAll k ds = true → PyData.leavesShortAll 100 ds = true ∧ PyData.showableAll ds = true
  | [], _ => ⟨rfl, rfl⟩
  | d :: ds, h => by
    simp only [okAll, Bool.and_eq_true] at h
    obtain ⟨a, b⟩ := okD.short hk d h.1
    obtain ⟨a2, b2⟩ := okAll.short hk ds h.2
    exact ⟨by simp only [PyData.leavesShortAll, a, a2, Bool.and_self], by simp only [PyData.showableAll, b, b2, Bool.and_self]⟩
theorem okKv.short {k : Nat} (hk : k ≤ 50) : ∀ kvs : List (PyData × PyData), okKv k kvs = true → PyData.leavesShortKv 100 kvs = true ∧ PyData.showableKv kvs = true
  | [], _ => ⟨rfl, rfl⟩
  | (x, y) :: r, h => by
    simp only [okKv, Bool.and_eq_true] at h
    obtain ⟨a, b⟩ := okD.short hk x h.1.1
    obtain ⟨a1, b1⟩ := okD.short hk y h.1.2
    obtain ⟨a2, b2⟩ := okKv.short hk r h.2
    exact ⟨by simp only [PyData.leavesShortKv, a, a1, a2, Bool.and_self], by simp only [PyData.showableKv, b, b1, b2, Bool.and_self]⟩
end
/-- data of bounded size: k longest, w heaviest, n deepest -/
structure Fit (k w n : Nat) (d : PyData) : Prop where
  ok : okD k d = true
  wt : d.weight ≤ w
  dp : d.depth ≤ n
theorem Fit.mono {k w n k' w' n' : Nat} {d : PyData} (f : Fit k w n d) (hk : k ≤ k') (hw : w ≤ w') (hn : n ≤ n') : Fit k' w' n' d :=
  ⟨okD.mono hk d f.ok, Nat.le_trans f.wt hw, Nat.le_trans f.dp hn⟩
theorem Fit.shown {k w n : Nat} {d : PyData} (f : Fit k w n d) (hk : k ≤ 50) (hw : w ≤ 100000) : d.shown.length ≤ sizeLine ∧ d.showable = true := by
  obtain ⟨a, b⟩ := okD.short hk d f.ok
  have h := PyData.shown_le 100 (by decide) d a
  have hw2 := f.wt
  have z : sizeLine = 16777216 := rfl
  exact ⟨by omega, b⟩
theorem okAll_at {k : Nat} : ∀ {ds : List PyData} {i : Nat} {d : PyData}, okAll k ds = true → ds[i]? = some d → okD k d = true
  | [], _, _, _, e => by simp at e
  | x :: r, 0, d, o, e => by
    simp only [okAll, Bool.and_eq_true] at o
    cases Option.some.inj e
    exact o.1
  | x :: r, i + 1, d, o, e => by
    simp only [okAll, Bool.and_eq_true] at o
    exact okAll_at (i := i) o.2 e
end K37t
end

section
set_option Elab.async false
set_option linter.all false
set_option maxRecDepth 100000
set_option maxHeartbeats 4000000
namespace K37t
open PySem PySem.Spec PyProof.Rows L2 Gd
abbrev sName : Stmt := topS 22
abbrev sWhole : Stmt := topS 23
abbrev sNumber : Stmt := topS 24
theorem scName : FnScope ["thing", "letter"] ["thing"] (defScope sName) :=
  ⟨rfl, rfl, rfl, by decide +kernel, rfl, by decide +kernel, by decide +kernel⟩
theorem scWhole : FnScope ["thing"] ["thing"] (defScope sWhole) :=
  ⟨rfl, rfl, rfl, by decide +kernel, rfl, by decide +kernel, by decide +kernel⟩
theorem scNumber : FnScope ["thing"] ["thing"] (defScope sNumber) :=
  ⟨rfl, rfl, rfl, by decide +kernel, rfl, by decide +kernel, by decide +kernel⟩

/-! which built-in class data is of -/
def isT : PyData → Bool
  | .tuple _ => true
  | _ => false
def isS : PyData → Bool
  | .str _ => true
  | _ => false
def isI : PyData → Bool
  | .int _ => true
  | .bool _ => true
  | _ => false
def isB : PyData → Bool
  | .bool _ => true
  | _ => false
theorem k_tup : ∀ d : PyData, kitB (kindN d) "tuple" = some (isT d)
  | .none => show kitB "NoneType" "tuple" = some false by decide +kernel
  | .bool _ => show kitB "bool" "tuple" = some false by decide +kernel
  | .int _ => show kitB "int" "tuple" = some false by decide +kernel
  | .str _ => show kitB "str" "tuple" = some false by decide +kernel
  | .list _ => show kitB "list" "tuple" = some false by decide +kernel
  | .tuple _ => show kitB "tuple" "tuple" = some true by decide +kernel
  | .dict _ => show kitB "dict" "tuple" = some false by decide +kernel
theorem k_str : ∀ d : PyData, kitB (kindN d) "str" = some (isS d)
  | .none => show kitB "NoneType" "str" = some false by decide +kernel
  | .bool _ => show kitB "bool" "str" = some false by decide +kernel
  | .int _ => show kitB "int" "str" = some false by decide +kernel
  | .str _ => show kitB "str" "str" = some true by decide +kernel
  | .list _ => show kitB "list" "str" = some false by decide +kernel
  | .tuple _ => show kitB "tuple" "str" = some false by decide +kernel
  | .dict _ => show kitB "dict" "str" = some false by decide +kernel
theorem k_int : ∀ d : PyData, kitB (kindN d) "int" = some (isI d)
  | .none => show kitB "NoneType" "int" = some false by decide +kernel
  | .bool _ => show kitB "bool" "int" = some true by decide +kernel
  | .int _ => show kitB "int" "int" = some true by decide +kernel
  | .str _ => show kitB "str" "int" = some false by decide +kernel
  | .list _ => show kitB "list" "int" = some false by decide +kernel
  | .tuple _ => show kitB "tuple" "int" = some false by decide +kernel
  | .dict _ => show kitB "dict" "int" = some false by decide +kernel
theorem k_bool : ∀ d : PyData, kitB (kindN d) "bool" = some (isB d)
  | .none => show kitB "NoneType" "bool" = some false by decide +kernel
  | .bool _ => show kitB "bool" "bool" = some true by decide +kernel
  | .int _ => show kitB "int" "bool" = some false by decide +kernel
  | .str _ => show kitB "str" "bool" = some false by decide +kernel
  | .list _ => show kitB "list" "bool" = some false by decide +kernel
  | .tuple _ => show kitB "tuple" "bool" = some false by decide +kernel
  | .dict _ => show kitB "dict" "bool" = some false by decide +kernel

/-- the program's constants -/
structure Cs (K : PySem.W.Frag) (mg : Str → Option Value) (pS : Addr) : Prop where
  letters : ∃ t, mg "_LETTERS" = some (.str "abcdefghijklmnopqrstuvwxyz" t)
  longest : ∃ t, mg "_LONGEST_NAME" = some (.int 8 t)
  great : ∃ t, mg "_TOO_GREAT" = some (.int (10 ^ 30) t)
  isi : mg "isinstance" = none
  str : mg "str" = none
  int : mg "int" = none
  bool : mg "bool" = none
  len : mg "len" = none
  all : mg "all" = none

/-- a small checker: its answer by the data -/
def spChk (K : PySem.W.Frag) (f : PyData → Bool) : Sp := fun vs H Q _ => ∃ (N : Addr → Prop) (v : V) (d : PyData), vs = [v] ∧ Dd K H N v d ∧ okD 50 d = true ∧
  ∀ H', Same H H' → Q (.bl (f d)) H'
theorem spChk.len {K : PySem.W.Frag} {f : PyData → Bool} : ∀ vs H Q E, spChk K f vs H Q E → vs.length = 1 := by
  rintro vs H Q E ⟨N, v, d, rfl, _⟩
  rfl
section
variable {P : Program} {w : World} {K : PySem.W.Frag} {mg : Str → Option Value} {base : Heap} {f : Addr} {fd : FuncData} {pS : Addr}
theorem ok_whole (F : Fun K "is_whole" "is_whole" sWhole f fd) (C : Cs K mg pS) :
    FnOk P w K mg base CX0 1 f fd ["thing"] (spChk K fun d => isI d && !isB d) := by
  refine F.ok scWhole spChk.len (fun cdv A outer s H vs Q E hr h => ?_)
  obtain ⟨N, v, d, rfl, hd, ok, q⟩ := h
  have nd := scWhole.nd
  refine ⟨_, pss_one (ps_ret (pe_and (pe_callB call_isi (by rfl) C.isi (by decide +kernel) (pa_cons (pv 0) (pa_cons (pe_bltn (v := .ty "int") (by rfl) C.int (by decide +kernel) rfl) pa_nil)))
    (pe_one (pe_not (pe_callB call_isi (by rfl) C.isi (by decide +kernel) (pa_cons (pv 0) (pa_cons (pe_bltn (v := .ty "bool") (by rfl) C.bool (by decide +kernel) rfl) pa_nil))))))), ?_⟩
  refine ⟨_, rfl, _, _, _, _, isI d, rfl, .ty _, hd.kind, kit_ty (k_int d), _, rfl, ite2 (fun e => ?_) (fun e => ?_)⟩
  · refine ⟨_, rfl, _, _, _, _, isB d, rfl, .ty _, hd.kind, kit_ty (k_bool d), _, rfl, ?_⟩
    have z : Q (.bl (isI d && !isB d)) H := q H (fun _ _ e => e)
    rw [e, Bool.true_and] at z
    exact z
  · have z : Q (.bl (isI d && !isB d)) H := q H (fun _ _ e => e)
    rw [Bool.eq_false_iff.mpr e, Bool.false_and] at z
    exact z
/-- a number near nought -/
def nearB (m : Int) (d : PyData) : Bool := match d with
  | .int i => decide (-m < i) && decide (i < m)
  | _ => false
theorem isI_num {K : PySem.W.Frag} {H : Hp} {N : Addr → Prop} {v : V} {d : PyData} (hd : Dd K H N v d) (e : (isI d && !isB d) = true) : ∃ i, d = .int i ∧ v = .int i := by
  cases hd with
  | int i => exact ⟨i, rfl, rfl⟩
  | bl b => exact absurd e Bool.false_ne_true
  | non => exact absurd e Bool.false_ne_true
  | str _ => exact absurd e Bool.false_ne_true
  | lst _ _ _ _ => exact absurd e Bool.false_ne_true
  | tup _ _ => exact absurd e Bool.false_ne_true
  | dct0 _ _ => exact absurd e Bool.false_ne_true
  | dct1 _ _ => exact absurd e Bool.false_ne_true
theorem isNum_no {d : PyData} (e : ¬ (isI d && !isB d) = true) : isNum d = false := by
  cases d with
  | int i => exact absurd rfl e
  | _ => rfl
variable {fW : Addr} {fdW : FuncData}
theorem ok_number (F : Fun K "is_number" "is_number" sNumber f fd) (C : Cs K mg pS) (FW : Fun K "is_whole" "is_whole" sWhole fW fdW)
    (bW : Binds K fdW ["thing"] []) (gW : mg "is_whole" = some (.ref fW)) :
    FnOk P w K mg base CX0 2 f fd ["thing"] (spChk K isNum) := by
  have G : FnOk P w K mg base CX0 1 fW fdW ["thing"] (spChk K fun d => isI d && !isB d) := ok_whole FW C
  refine F.ok scNumber spChk.len (fun cdv A outer s H vs Q E hr h => ?_)
  obtain ⟨N, v, d, rfl, hd, ok, q⟩ := h
  have nd := scNumber.nd
  obtain ⟨tg, gg⟩ := C.great
  refine ⟨_, pss_one (ps_ret (pe_and (pe_call G hr (by rfl) gW FW.kp bW .nil pass0 (pa_cons (pv 0) pa_nil))
    (pe_one (pe_chain op_lt op_lt (pe_un un_neg (pe_glob (v := .int (10 ^ 30)) (by rfl) gg ⟨_, rfl⟩)) (pv 0) (pe_glob (v := .int (10 ^ 30)) (by rfl) gg ⟨_, rfl⟩))))), ?_⟩
  refine ⟨_, rfl, N, v, d, rfl, hd, ok, fun H' sm => ⟨_, rfl, ite2 (fun e => ?_) (fun e => ?_)⟩⟩
  · obtain ⟨i, rfl, rfl⟩ := isI_num hd e
    have z := q H' sm
    refine ⟨_, rfl, _, rfl, _, _, rfl, rfl, _, rfl, ite2 (fun c => ?_) (fun c => ?_)⟩
    · refine ⟨_, _, rfl, rfl, ?_⟩
      rw [show isNum (.int i) = (decide (-(10 ^ 30 : Int) < i) && decide (i < 10 ^ 30)) from rfl, c, Bool.true_and] at z
      exact z
    · rw [show isNum (.int i) = (decide (-(10 ^ 30 : Int) < i) && decide (i < 10 ^ 30)) from rfl, Bool.eq_false_iff.mpr c, Bool.false_and] at z
      exact z
  · have z := q H' sm
    rw [isNum_no e] at z
    exact z
theorem ok_name (F : Fun K "is_name" "is_name" sName f fd) (C : Cs K mg pS) :
    FnOk P w K mg base CX0 1 f fd ["thing"] (spChk K isLabD) := by
  refine F.ok scName spChk.len (fun cdv A outer s H vs Q E hr h => ?_)
  obtain ⟨N, v, d, rfl, hd, ok, q⟩ := h
  have nd := scName.nd
  obtain ⟨tl, gl⟩ := C.letters
  obtain ⟨tn, gn⟩ := C.longest
  refine ⟨_, pss_cons (ps_if (PW.pt (pw_or (pt_not (pt_val (pe_callB call_isi (by rfl) C.isi (by decide +kernel) (pa_cons (pv 0) (pa_cons (pe_bltn (v := .ty "str") (by rfl) C.str (by decide +kernel) rfl) pa_nil)))))
      (pw_or1 (pt_not (pt_chain op_le op_le pe_int (pe_callB call_len_str (by rfl) C.len PySem.boot_len (pa_cons (pv 0) pa_nil)) (pe_glob (v := .int 8) (by rfl) gn ⟨_, rfl⟩))))))
      (pss_one (ps_ret pe_bl)) pss_nil)
    (pss_one (ps_ret (pe_callB (cr_all rfl) (by rfl) C.all (by decide +kernel) (pa_cons (pe_lc (own := [("letter", 1)]) (g := gName 1) (tt := tYes) rfl nd (pi_str (pv 0))
        (blkOk_by (N := ["thing", "letter"]) (sc := defScope sName) (by decide +kernel)) (fun _ _ _ _ _ => pg_name (i := 1) nd rfl (Or.inl rfl)) (fun _ _ _ _ _ => pts_nil)
        (fun _ _ _ _ _ => pe_cmpR op_in_sign (pv 1) (pe_glob (v := .str "abcdefghijklmnopqrstuvwxyz") (by rfl) gl ⟨_, rfl⟩) (by rfl))) pa_nil)))), ?_⟩
  refine ⟨_, rfl, _, _, _, _, isS d, rfl, .ty _, hd.kind, kit_ty (k_str d), _, rfl, ?_⟩
  have no : ∀ e : isLabD d = false, Q (.bl false) H := fun e => by
    have z := q H (fun _ _ e => e)
    rw [e] at z
    exact z
  cases hs : isS d with
  | false =>
    have e : isLabD d = false := by
      cases d with
      | str x => exact Bool.noConfusion hs
      | _ => rfl
    exact iteT (no e)
  | true =>
    refine iteF ?_
    cases d with
    | str x =>
      cases hd
      obtain ⟨xl, xa⟩ : x.length ≤ 150 ∧ x.cps.toList.all (fun c => decide (c < 128)) = true := by simpa only [okD, Bool.and_eq_true, decide_eq_true_eq] using ok
      have xz : x.length ≤ sizeLine := Nat.le_trans xl (by decide)
      have lab : isLabD (.str x) = (decide (1 ≤ x.length) && decide (x.length ≤ 8) && x.cps.toList.all (fun c => decide (c ∈ ("abcdefghijklmnopqrstuvwxyz" : Str).cps.toList))) := rfl
      have cast1 : decide ((1 : Int) ≤ (x.length : Int)) = decide (1 ≤ x.length) := decide_eq_decide.mpr (by omega)
      have cast8 : decide ((x.length : Int) ≤ 8) = decide (x.length ≤ 8) := decide_eq_decide.mpr (by omega)
      refine ⟨_, rfl, x, rfl, xz, _, _, rfl, rfl, _, rfl, ite2 (fun c1 => ?_) (fun c1 => ?_)⟩
      · refine ⟨_, _, rfl, rfl, _, rfl, ?_⟩
        cases c8 : decide ((x.length : Int) ≤ 8) with
        | false =>
          rw [cast8] at c8
          refine iteT (no ?_)
          rw [lab, c8, Bool.and_false, Bool.false_and]
        | true =>
          refine iteF ?_
          rw [cast8] at c8
          rw [cast1] at c1
          rw [c1, c8, Bool.true_and, Bool.true_and] at lab
          refine ⟨_, rfl, x, rfl, fun D hD => ?_⟩
          let al : List Nat := ("abcdefghijklmnopqrstuvwxyz" : Str).cps.toList
          refine lc_it walk_str (fun i H' => Same H H' ∧ H' D = some (.lst ((x.cps.toList.take i).map fun c => V.bl (decide (c ∈ al))))) ?_ ?_ ?_ ?_
          · exact ⟨fun b u e => by rw [upd_ne (ne_of_none e hD)]; exact e, upd_same⟩
          · exact fun _ _ _ _ => trivial
          · rintro i v H1 H2 hi ⟨sm, eD⟩ ⟨rfl, c, ec, rfl⟩
            refine ⟨rfl, ?_⟩
            unfold tYes
            dsimp only
            rw [if_pos rfl]
            have hl : ((x.cps.toList.take i).map fun c => V.bl (decide (c ∈ al))).length < sizeLine := by
              rw [List.length_map, List.length_take]
              have : min i x.cps.toList.length ≤ i := Nat.min_le_left _ _
              have e3 : x.length = x.cps.size := rfl
              have z : sizeLine = 16777216 := rfl
              omega
            refine ⟨_, rfl, c, _, rfl, rfl, _, eD, hl, ?_, ?_⟩
            · intro b u e
              rw [upd_ne (ne_of_none e hD)]
              exact sm _ _ e
            · have e2 : x.cps.toList.take (i + 1) = x.cps.toList.take i ++ [c] := by
                rw [List.take_add_one, Array.getElem?_toList, ec]
                rfl
              rw [e2, List.map_append]
              exact upd_same
          · rintro H1 ⟨sm, eD⟩
            have e3 : x.cps.size = x.cps.toList.length := rfl
            rw [e3, List.take_length] at eD
            have e4 : (x.cps.toList.map fun c => V.bl (decide (c ∈ al))) = (x.cps.toList.map fun c => decide (c ∈ al)).map V.bl := by
              rw [List.map_map]
              rfl
            rw [e4] at eD
            refine ⟨D, _, rfl, SqL.of eD, ?_⟩
            have z := q H1 sm
            rw [lab] at z
            rw [List.all_map]
            exact z
      · refine ⟨_, rfl, iteT (no ?_)⟩
        rw [cast1] at c1
        rw [lab, Bool.eq_false_iff.mpr c1, Bool.false_and, Bool.false_and]
    | _ => exact Bool.noConfusion hs
end
end K37t
end

section
set_option Elab.async false
set_option linter.all false
set_option maxRecDepth 100000
set_option maxHeartbeats 4000000
/-! set(xs) of texts and whole numbers in a list or a tuple; len of it. -/
namespace Sk
open PySem PySem.Spec PyProof.Rows L2
/-- each once, in the order of the first -/
def uniq {K : Type} [DecidableEq K] (xs : List K) : List K := xs.foldl (fun acc k => if k ∈ acc then acc else acc ++ [k]) []
section
variable {P : Program} {w : World} {K : Type} [DecidableEq K] {knd : KeyKind P w K} {A : Around} {E : Value → Shared → Prop} {s : Shared}
theorem uniq_snoc (xs : List K) (k : K) : uniq (xs ++ [k]) = if k ∈ uniq xs then uniq xs else uniq xs ++ [k] := by
  unfold uniq
  rw [List.foldl_append]
  rfl
theorem uniq_go (xs : List K) : ∀ acc : List K, (xs.foldl (fun acc k => if k ∈ acc then acc else acc ++ [k]) acc).length ≤ acc.length + xs.length := by
  induction xs with
  | nil => exact fun acc => Nat.le_refl _
  | cons k xs ih =>
    intro acc
    rw [List.foldl_cons, List.length_cons]
    have h := ih (if k ∈ acc then acc else acc ++ [k])
    by_cases z : k ∈ acc
    · rw [if_pos z] at h ⊢
      omega
    · rw [if_neg z, List.length_append, List.length_singleton] at h
      rw [if_neg z]
      omega
theorem uniq_len (xs : List K) : (uniq xs).length ≤ xs.length := by
  have h := uniq_go xs []
  rw [List.length_nil, Nat.zero_add] at h
  exact h
abbrev newS (led : Bool) : Obj := { cls := .type "set", dict := none, data := .set #[] 0 (.fresh 0 0 led) }
/-- the set at a holds just these -/
def SetIs (knd : KeyKind P w K) (h : Heap) (a : Addr) (ks : List K) : Prop := h.SetOf knd a (fun k => decide (k ∈ ks)) ks.length
theorem SetIs.kept {h h' : Heap} {a : Addr} {ks : List K} (R : SetIs knd h a ks) (k : ∀ o, h.get? a = some o → h'.get? a = some o) : SetIs knd h' a ks := by
  obtain ⟨o, es, ep, t, ho, r⟩ := R
  exact ⟨o, es, ep, t, k o ho, r⟩
theorem fresh (led : Bool) {h : Heap} {a : Addr} (e : h.get? a = some (newS led)) : SetIs knd h a (uniq ([] : List K)) :=
  ⟨_, #[], 0, _, e, ⟨rfl, rfl, rfl⟩, rfl, (fun e he => by simp at he), (fun k => by simp [uniq]), (by decide), (by rfl), rfl⟩
/-- what stands in a sequence -/
structure Held (knd : KeyKind P w K) (ks : List K) (items : Array Value) : Prop where
  size : items.size = ks.length
  get : ∀ {i : Nat} {v : Value}, items[i]? = some v → ∃ k, ks[i]? = some k ∧ knd.is k v = true ∧ v.scannable = true
/-- the loop of set.update -/
theorem fill {I S : Addr} {fp wr : List Addr} {G : Array GenState → Array GenState → Prop} {n : Nat} {Pv : Nat → Value → Prop} {St : Nat → Shared → Prop} {R : Result → Shared → Prop} (W : WalksS P w A.in1 I fp wr G n Pv St) (hS : S ∉ fp)
    {ks : List K} (hn : n = ks.length) (few : ks.length + 1 < scanBound) (val : ∀ i v, Pv i v → ∃ k, ks[i]? = some k ∧ knd.is k v = true ∧ v.scannable = true) {h0 : Heap} (nS : h0.get? S = none) (nw : ∀ b ∈ wr, h0.get? b = none)
    {fin : Shared} (mv : Moved (S :: wr) G fin fin)
    (hR : ∀ s', Moved (S :: wr) G fin s' → SetIs knd s'.heap S (uniq ks) → (∀ b o, h0.get? b = some o → s'.heap.get? b = some o) → R (.ok (.ret .none)) s') :
    ∀ (m i : Nat) (s : Shared), n - i = m → i ≤ n → St i s → Moved (S :: wr) G fin s → (∀ b o, h0.get? b = some o → s.heap.get? b = some o) → SetIs knd s.heap S (uniq (ks.take i)) →
      codeAny (model P w) A (.builtin "set.update.loop" ⟨[.ref S, .ref I], []⟩) R s := by
  have Sw : S ∉ wr := fun y => hS (W.sub _ y)
  have sub : ∀ b ∈ wr, b ∈ S :: wr := fun b y => List.mem_cons_of_mem _ y
  have old : ∀ {s s' : Shared}, Moved wr G s s' → (∀ b o, h0.get? b = some o → s.heap.get? b = some o) → ∀ b o, h0.get? b = some o → s'.heap.get? b = some o := fun mo k b o e =>
    mo.heap b o (fun y => by rw [nw b y] at e; cases e) (k b o e)
  intro m
  induction m with
  | zero =>
    intro i s hm hi st mo k g
    obtain rfl : i = n := by omega
    rw [hn, List.take_length] at g
    refine codeAny_builtin F.entry_set_update_loop (by
      rw [Around.under_plainId F.plain_set_update_loop _]
      show wpAny _ A.in1 (pyNext (.ref I) >>= _) _ _ s
      exact wpAny_bind (W.done s _ _ st fun s' m' => wpAny_pure (hR s' (mo.trans W.gtrans (m'.mono sub)) (g.kept fun o e => m'.heap S o Sw e) (old m' k))))
  | succ m ih =>
    intro i s hm hi st mo k g
    refine codeAny_builtin F.entry_set_update_loop ?_
    rw [Around.under_plainId F.plain_set_update_loop _]
    show wpAny _ A.in1 (pyNext (.ref I) >>= _) _ _ s
    refine wpAny_bind (W.item i s _ _ (by omega) st fun v s' pv st' m' => ?_)
    obtain ⟨r, er, hr, hsc⟩ := val i v pv
    have k' := old m' k
    have g' : SetIs knd s'.heap S (uniq (ks.take i)) := g.kept fun o e => m'.heap S o Sw e
    show wpAny _ A.in1 (holding [v] (setAdd S v) >>= _) _ _ s'
    refine wpAny_bind (wpAny_holding ?_)
    unfold setAdd
    refine wpAny_holding (wpAny_bind (knd.pyHash hr ?_))
    have room : (uniq (ks.take i)).length + 1 < scanBound := by
      have h1 := uniq_len (ks.take i)
      rw [List.length_take] at h1
      omega
    refine wpAny_setAddHashed_of (knd := knd) (s := { s' with toks := s'.toks + 1 }) hr hsc g' room fun h' sb g2 => ?_
    have k2 : ∀ b o, h0.get? b = some o → h'.get? b = some o := fun b o e => (sb.2 b fun y => by rw [y, nS] at e; cases e).trans (k' b o e)
    have g3 : SetIs knd h' S (uniq (ks.take (i + 1))) := by
      have e : ks.take (i + 1) = ks.take i ++ [r] := by
        rw [List.take_add_one, er]
        rfl
      rw [e, uniq_snoc]
      unfold SetIs
      by_cases z : r ∈ uniq (ks.take i)
      · rw [if_pos z]
        have e1 : (fun k' => decide (k' ∈ uniq (ks.take i)) || decide (k' = r)) = fun k' => decide (k' ∈ uniq (ks.take i)) := by
          funext k'
          by_cases y : k' = r
          · rw [y]
            simp [z]
          · simp [y]
        rw [e1, if_pos (decide_eq_true z)] at g2
        exact g2
      · rw [if_neg z, List.length_append]
        have e1 : (fun k' => decide (k' ∈ uniq (ks.take i)) || decide (k' = r)) = fun k' => decide (k' ∈ uniq (ks.take i) ++ [r]) := by
          funext k'
          simp [List.mem_append]
        rw [e1, if_neg (by simpa using z)] at g2
        exact g2
    refine wpAny_pure ⟨plainId_quiet F.plain_set_update_loop _, ih (i + 1) _ (by omega) (by omega) (W.frame _ s' _ _ st' (Nat.le_succ _) fun b hb o e => (sb.2 b fun y => hS (y ▸ hb)).trans e) ?_ k2 g3⟩
    exact mo.trans W.gtrans ((m'.mono sub).then_heap (Nat.le_succ _) fun b o hb e => (sb.2 b fun y => hb (by rw [y]; simp)).trans e)
set_option maxHeartbeats 3200000 in
/-- set(xs), xs a list -/
theorem call_set_list {l : Addr} {items : Array Value} {ks : List K} {Q : Value → Shared → Prop} (hh : A.handled = none) (hl : s.heap.IsList l items) (hit : Held knd ks items) (few : ks.length + 1 < scanBound)
    (q : ∀ (h' : Heap) (tk : Nat), SetIs knd h' s.heap.objs.size (uniq ks) → (∀ b o, s.heap.get? b = some o → h'.get? b = some o) → Q (.ref s.heap.objs.size) { s with heap := h', toks := tk }) :
    wpAny (model P w) A (call (.type "set") [.ref l]) Q E s := by
  have isz := hit.size
  obtain ⟨_, _, hmro⟩ := F.called_set.mro
  have hmade := F.called_set.made
  have hsub := F.called_set.sub
  have h1 := F.called_set.notType
  have h2 := F.called_set.canCreate
  have hct := F.typeCall_set_1 (.ref l)
  refine wpAny_call (codeAny_of_tree (by
    show wpAny _ _ (callAny (.type "set") _) _ _ _
    refine wpAny_pure ⟨Code.quiet_builtin _ (by decide +kernel), codeAny_builtin F.entry_type_call ?_⟩
    rw [Around.under_plain (weight_type_call_type "set" [.ref l] []) rfl]
    repeat (any_goals (first | assumption | wp_step))
    refine codeAny_mono (code_set_new_1 (.ref l) (E := E) (Q₁ := fun obj s₁ => obj = .ref s.heap.objs.size ∧ ∃ led : Bool, s₁ = { s with heap := s.heap.push (newS led) }) fun led => ⟨rfl, led, rfl⟩) fun r s₁ hr => ?_
    rcases r with e | fl
    · exact hr
    cases fl with
    | ret obj =>
      obtain ⟨rfl, led, rfl⟩ := hr
      obtain ⟨H1, eH1⟩ : ∃ H1, H1 = s.heap.push (newS led) := ⟨_, rfl⟩
      rw [← eH1]
      have hS : H1.get? s.heap.objs.size = some (newS led) := by rw [eH1]; exact Heap.get?_push_size _ rfl
      have up : ∀ b o, s.heap.get? b = some o → H1.get? b = some o := fun b o e => by rw [eH1]; exact Heap.get?_push_of_some _ e
      have zH : H1.objs.size = s.heap.objs.size + 1 := by rw [eH1, Heap.size_push]
      have hT : Shared.TypeIs { s with heap := H1 } (.ref s.heap.objs.size) "set" := ⟨_, hS, rfl⟩
      have hli := F.called_set.init.lookup
      have hbi := F.called_set.init.bind (.ref s.heap.objs.size)
      repeat (any_goals (first | assumption | wp_step))
      refine codeAny_mono (codeAny_call_builtin (R := wants (fun r s₂ => r = .none ∧ ∃ h' tk, s₂ = { s with heap := h', toks := tk } ∧ SetIs knd h' s.heap.objs.size (uniq ks) ∧ ∀ b o, s.heap.get? b = some o → h'.get? b = some o) E)
        F.called_set.init.plain F.entry_set_init (check_set_init_1 hT ?_)) fun r₂ s₂ hr₂ => ?_
      · obtain ⟨⟨_, od, _, os⟩, hol, rfl, nl, rfl⟩ := hl
        have hol1 := up _ _ hol
        have hl1 : H1.IsList l items := ⟨_, hol1, rfl, nl, rfl⟩
        have hsls := F.sub_list_set
        have hslf := F.sub_list_frozenset
        have hne : (Value.type "list" == Value.type "dict") = false := by decide
        unfold Builtin.«set.__init__» noKeywords Builtin.Frozenset.updateFrom
        generalize ePI : pyIter = PI
        wp_walk
        subst ePI
        refine wpAny_pyIter_list hl1 (wpAny_bind (wpAny_runValue ?_))
        have ll : l < s.heap.objs.size := Heap.lt_size hol
        have h3 : A.in1.in1.in1.handled = none := by simp [hh]
        have lI : l ≠ H1.objs.size := by rw [zH]; exact Nat.ne_of_lt (Nat.lt_succ_of_lt ll)
        have nf : s.heap.objs.size ∉ [H1.objs.size, l] := by
          rw [zH, List.mem_cons, List.mem_singleton]
          exact fun y => y.elim (fun e => Nat.succ_ne_self _ e.symm) fun e => Nat.lt_irrefl _ (e ▸ ll)
        have none_at : ∀ b, s.heap.objs.size ≤ b → s.heap.get? b = none := fun b hb => by
          cases y : s.heap.get? b with
          | none => rfl
          | some o => exact absurd (Nat.lt_of_lt_of_le (Heap.lt_size y) hb) (Nat.lt_irrefl _)
        have up2 : ∀ b o, H1.get? b = some o → (H1.push { cls := .type "list_iterator", data := .fields #[.ref l, .int 0 0] }).get? b = some o := fun b o e => Heap.get?_push_of_some _ e
        refine fill (knd := knd) (h0 := s.heap) (fin := { s with heap := H1.push { cls := .type "list_iterator", data := .fields #[.ref l, .int 0 0] } }) ((Walks.list h3 _ l lI items).toS) nf isz few (fun i v hv => hit.get hv) (none_at _ (Nat.le_refl _)) (fun b hb => none_at b ?_)
          (Moved.refl (fun _ => rfl)) (fun s' mo g k => ?_) (items.size - 0) 0 _ (by omega) (Nat.zero_le _) ⟨⟨_, Heap.get?_push_size _ rfl, rfl, rfl⟩, hl1.push _⟩ (Moved.refl (fun _ => rfl)) (fun b o e => up2 b o (up b o e)) (fresh led (up2 _ _ hS))
        · rw [List.mem_singleton.mp hb, zH]
          exact Nat.le_succ _
        · obtain ⟨h', g2, d', tk', os'⟩ := s'
          obtain rfl : g2 = s.gens := mo.gens
          obtain rfl : d' = s.drawn := mo.drawn
          obtain rfl : os' = s.os := mo.os
          show wpAny _ _ _ _ _ _
          refine wpAny_pure ?_
          show wpAny _ _ (ret Value.none) _ _ _
          exact wpAny_pure ⟨rfl, h', tk', rfl, g, k⟩
      · rcases r₂ with e | fl₂
        · exact hr₂
        cases fl₂ with
        | ret r =>
          obtain ⟨rfl, h', tk, rfl, g, k⟩ := hr₂
          repeat (any_goals (first | assumption | wp_step))
          exact q _ _ g k
        | _ => exact hr₂.elim
    | _ => exact hr.elim))
set_option maxHeartbeats 3200000 in
/-- set(xs), xs a tuple -/
theorem call_set_tuple {l : Addr} {items : Array Value} {ks : List K} {Q : Value → Shared → Prop} (hh : A.handled = none) (hl : s.heap.IsTuple l items) (hit : Held knd ks items) (few : ks.length + 1 < scanBound)
    (q : ∀ (h' : Heap) (tk : Nat), SetIs knd h' s.heap.objs.size (uniq ks) → (∀ b o, s.heap.get? b = some o → h'.get? b = some o) → Q (.ref s.heap.objs.size) { s with heap := h', toks := tk }) :
    wpAny (model P w) A (call (.type "set") [.ref l]) Q E s := by
  have isz := hit.size
  obtain ⟨_, _, hmro⟩ := F.called_set.mro
  have hmade := F.called_set.made
  have hsub := F.called_set.sub
  have h1 := F.called_set.notType
  have h2 := F.called_set.canCreate
  have hct := F.typeCall_set_1 (.ref l)
  refine wpAny_call (codeAny_of_tree (by
    show wpAny _ _ (callAny (.type "set") _) _ _ _
    refine wpAny_pure ⟨Code.quiet_builtin _ (by decide +kernel), codeAny_builtin F.entry_type_call ?_⟩
    rw [Around.under_plain (weight_type_call_type "set" [.ref l] []) rfl]
    repeat (any_goals (first | assumption | wp_step))
    refine codeAny_mono (code_set_new_1 (.ref l) (E := E) (Q₁ := fun obj s₁ => obj = .ref s.heap.objs.size ∧ ∃ led : Bool, s₁ = { s with heap := s.heap.push (newS led) }) fun led => ⟨rfl, led, rfl⟩) fun r s₁ hr => ?_
    rcases r with e | fl
    · exact hr
    cases fl with
    | ret obj =>
      obtain ⟨rfl, led, rfl⟩ := hr
      obtain ⟨H1, eH1⟩ : ∃ H1, H1 = s.heap.push (newS led) := ⟨_, rfl⟩
      rw [← eH1]
      have hS : H1.get? s.heap.objs.size = some (newS led) := by rw [eH1]; exact Heap.get?_push_size _ rfl
      have up : ∀ b o, s.heap.get? b = some o → H1.get? b = some o := fun b o e => by rw [eH1]; exact Heap.get?_push_of_some _ e
      have zH : H1.objs.size = s.heap.objs.size + 1 := by rw [eH1, Heap.size_push]
      have hT : Shared.TypeIs { s with heap := H1 } (.ref s.heap.objs.size) "set" := ⟨_, hS, rfl⟩
      have hli := F.called_set.init.lookup
      have hbi := F.called_set.init.bind (.ref s.heap.objs.size)
      repeat (any_goals (first | assumption | wp_step))
      refine codeAny_mono (codeAny_call_builtin (R := wants (fun r s₂ => r = .none ∧ ∃ h' tk, s₂ = { s with heap := h', toks := tk } ∧ SetIs knd h' s.heap.objs.size (uniq ks) ∧ ∀ b o, s.heap.get? b = some o → h'.get? b = some o) E)
        F.called_set.init.plain F.entry_set_init (check_set_init_1 hT ?_)) fun r₂ s₂ hr₂ => ?_
      · obtain ⟨⟨_, od, _, os⟩, hol, rfl, nl, rfl⟩ := hl
        have hol1 := up _ _ hol
        have hl1 : H1.IsTuple l items := ⟨_, hol1, rfl, nl, rfl⟩
        have hsls := F.sub_tuple_set
        have hslf := F.sub_tuple_frozenset
        have hne : (Value.type "tuple" == Value.type "dict") = false := by decide
        unfold Builtin.«set.__init__» noKeywords Builtin.Frozenset.updateFrom
        generalize ePI : pyIter = PI
        wp_walk
        subst ePI
        refine wpAny_pyIter_tuple hl1 (wpAny_bind (wpAny_runValue ?_))
        have ll : l < s.heap.objs.size := Heap.lt_size hol
        have h3 : A.in1.in1.in1.handled = none := by simp [hh]
        have lI : l ≠ H1.objs.size := by rw [zH]; exact Nat.ne_of_lt (Nat.lt_succ_of_lt ll)
        have nf : s.heap.objs.size ∉ [H1.objs.size, l] := by
          rw [zH, List.mem_cons, List.mem_singleton]
          exact fun y => y.elim (fun e => Nat.succ_ne_self _ e.symm) fun e => Nat.lt_irrefl _ (e ▸ ll)
        have none_at : ∀ b, s.heap.objs.size ≤ b → s.heap.get? b = none := fun b hb => by
          cases y : s.heap.get? b with
          | none => rfl
          | some o => exact absurd (Nat.lt_of_lt_of_le (Heap.lt_size y) hb) (Nat.lt_irrefl _)
        have up2 : ∀ b o, H1.get? b = some o → (H1.push { cls := .type "tuple_iterator", data := .fields #[.ref l, .int 0 0] }).get? b = some o := fun b o e => Heap.get?_push_of_some _ e
        refine fill (knd := knd) (h0 := s.heap) (fin := { s with heap := H1.push { cls := .type "tuple_iterator", data := .fields #[.ref l, .int 0 0] } }) ((Walks.tuple h3 _ l lI items).toS) nf isz few (fun i v hv => hit.get hv) (none_at _ (Nat.le_refl _)) (fun b hb => none_at b ?_)
          (Moved.refl (fun _ => rfl)) (fun s' mo g k => ?_) (items.size - 0) 0 _ (by omega) (Nat.zero_le _) ⟨⟨_, Heap.get?_push_size _ rfl, rfl, rfl⟩, hl1.push _⟩ (Moved.refl (fun _ => rfl)) (fun b o e => up2 b o (up b o e)) (fresh led (up2 _ _ hS))
        · rw [List.mem_singleton.mp hb, zH]
          exact Nat.le_succ _
        · obtain ⟨h', g2, d', tk', os'⟩ := s'
          obtain rfl : g2 = s.gens := mo.gens
          obtain rfl : d' = s.drawn := mo.drawn
          obtain rfl : os' = s.os := mo.os
          show wpAny _ _ _ _ _ _
          refine wpAny_pure ?_
          show wpAny _ _ (ret Value.none) _ _ _
          exact wpAny_pure ⟨rfl, h', tk', rfl, g, k⟩
      · rcases r₂ with e | fl₂
        · exact hr₂
        cases fl₂ with
        | ret r =>
          obtain ⟨rfl, h', tk, rfl, g, k⟩ := hr₂
          repeat (any_goals (first | assumption | wp_step))
          exact q _ _ g k
        | _ => exact hr₂.elim
    | _ => exact hr.elim))
end
theorem held_of {P : Program} {w : World} : ∀ {ks : List Key} {its : List Value}, Vals (ks.map kV) its → Held (mixKind P w) ks its.toArray
  | ks, its, r => by
    refine ⟨by rw [List.size_toArray, ← r.length, List.length_map], fun {i v} h => ?_⟩
    have hl : its[i]? = some v := by simpa using h
    have lt : i < ks.length := by
      have := (List.getElem?_eq_some_iff.mp hl).1
      rw [← r.length, List.length_map] at this
      exact this
    obtain ⟨u, hu, ru⟩ := r.get (i := i) (x := kV ks[i]) (by simp [lt])
    rw [hl] at hu
    cases hu
    exact ⟨ks[i], List.getElem?_eq_getElem lt, kV_is ru, key_scan ru⟩
/-- len(set(xs)) -/
def tLenSetK (K : PySem.W.Frag) (ta : TE) : TE := fun σ H Q => ta σ H fun x H1 => ∃ (l : Addr) (ks : List Key), x = .ref l ∧ (SqL K H1 l (ks.map kV) ∨ SqT K H1 l (ks.map kV)) ∧ ks.length ≤ 4000 ∧ Q (.int (uniq ks).length) H1
theorem pe_lenSetK {X : Cx} {a : Expr} {ta : TE} {p p2 q pos : Pos} (hc : X.calm = true) (hg : Gl X "len") (hm : X.mg "len" = none) (hg2 : Gl X "set") (hm2 : X.mg "set" = none) (ha : PE X a ta)
    (na : starEach [a] X.env = (false, eval a X.env) :: starEach [] X.env := by rfl) : PE X (.Call (.Name "len" p) [.Call (.Name "set" p2) [a] [] q] [] pos) (tLenSetK X.K ta) := by
  refine ⟨fun pins s σ H Q I h => ?_⟩
  refine Call_ (ld_blt I hg hm boot_len ?_)
  refine PyProof.Rows.callWith_builtin1 (PyProof.Rows.args_cons ?_ rfl) rfl rfl
  refine Call_ (ld_blt I hg2 hm2 boot_set ?_)
  refine PyProof.Rows.callWith_type1 (PyProof.Rows.args_cons (thn (ha.run pins s σ H _ I h) fun v s1 ⟨x, H1, I1, r1, q1⟩ => PyProof.Rows.args_nil ?_) na) na rfl
  obtain ⟨l, ks, rfl, hq, few, q1⟩ := q1
  cases r1
  have few' : ks.length + 1 < scanBound := by unfold scanBound; omega
  have fin : ∀ (h' : Heap) (tk : Nat), SetIs (mixKind X.prog X.w) h' s1.heap.objs.size (uniq ks) → (∀ b o, s1.heap.get? b = some o → h'.get? b = some o) →
      wpAny (model X.prog X.w) X.A (spliced (backTo pos (starEach [] X.env))) (fun vs s₂ => wpAny (model X.prog X.w) X.A (call (.builtin "len") (Value.ref s1.heap.objs.size :: vs)) (EP X pins σ Q) X.xe s₂) X.xe { s1 with heap := h', toks := tk } := fun h' tk hS hk => by
    refine PyProof.Rows.args_nil ?_
    have ul := uniq_len ks
    obtain ⟨o, es, ep, t, ho, hex, hd, _, _, _, hf, hn⟩ := hS
    have I2 : Inv X pins σ H1 { s1 with heap := h', toks := tk } := I1.kept fun b o e => hk b o e
    refine call_len_set ho hex hd hf (by rw [hn] <;> omega) ⟨.int (uniq ks).length, H1, I2.tok _, ⟨_, by rw [hn]⟩, q1⟩
  rcases hq with hq | hq
  · obtain ⟨its, r, pl, hz⟩ := I1.list hq
    exact call_set_list (knd := mixKind X.prog X.w) (I1.ok.hd hc) pl.isList (held_of r) few' fin
  · obtain ⟨its, r, pl, hz⟩ := I1.tuple hq
    exact call_set_tuple (knd := mixKind X.prog X.w) (I1.ok.hd hc) pl (held_of r) few' fin
end Sk
end

section
set_option Elab.async false
set_option linter.all false
set_option maxRecDepth 100000
set_option maxHeartbeats 4000000
/-! the columns of a table. -/
namespace K37t
open PySem PySem.Spec PyProof.Rows L2 Gd
abbrev sCol : Stmt := topS 30
theorem scCol : FnScope ["thing", "column"] ["thing"] (defScope sCol) := ⟨rfl, rfl, rfl, by decide +kernel, rfl, by decide +kernel, by decide +kernel⟩
structure ColsOk (cs : List Str) : Prop where
  one : 1 ≤ cs.length
  four : cs.length ≤ 4
  nd : cs.Nodup
  lab : ∀ c ∈ cs, isLab c = true
def spCol (K : PySem.W.Frag) : Sp := fun vs H Q _ => ∃ (a : Addr) (cs : List Str), vs = [.ref a] ∧ SqT K H a (cs.map V.str) ∧ ColsOk cs ∧ ∀ H', Same H H' → Q (.bl true) H'
structure Ct (mg : Str → Option Value) : Prop where
  cols : ∃ t, mg "_MOST_COLUMNS" = some (.int 4 t)
  tabs : ∃ t, mg "_MOST_TABLES" = some (.int 6 t)
  rows : ∃ t, mg "_MOST_ROWS" = some (.int 60 t)
  tup : mg "tuple" = none
  set_ : mg "set" = none
theorem lab_ok {x : Str} (h : isLab x = true) : okD 50 (.str x) = true := by
  unfold isLab at h
  simp only [Bool.and_eq_true, decide_eq_true_eq, List.all_eq_true] at h
  simp only [okD, Bool.and_eq_true, decide_eq_true_eq]
  have e : (("abcdefghijklmnopqrstuvwxyz" : Str).cps.toList.all fun c => decide (c < 128)) = true := by decide +kernel
  refine ⟨by omega, List.all_eq_true.mpr fun c hc => ?_⟩
  exact List.all_eq_true.mp e c (h.2 c hc)
theorem uniq_go {κ : Type} [DecidableEq κ] : ∀ (xs acc : List κ), (acc ++ xs).Nodup → xs.foldl (fun acc k => if k ∈ acc then acc else acc ++ [k]) acc = acc ++ xs
  | [], acc, _ => by simp
  | x :: xs, acc, hn => by
    have nx : x ∉ acc := fun m => by
      rw [List.nodup_append] at hn
      exact hn.2.2 x m x (by simp) rfl
    rw [List.foldl_cons, if_neg nx, uniq_go xs (acc ++ [x]) (by simpa using hn)]
    simp
theorem uniq_nd {κ : Type} [DecidableEq κ] {cs : List κ} (h : cs.Nodup) : Sk.uniq cs = cs := uniq_go cs [] (by simpa using h)
theorem iteT' {b : Bool} {p q : Prop} (h : b = true) (y : p) : if b = true then p else q := by
  rw [if_pos h]
  exact y
section
variable {P : Program} {w : World} {K : PySem.W.Frag} {mg : Str → Option Value} {base : Heap} {f fN pS : Addr} {fd dN : FuncData}
theorem ok_col (F : Fun K "_are_columns" "_are_columns" sCol f fd) (C : Cs K mg pS) (M : Ct mg)
    (FN : Fun K "is_name" "is_name" sName fN dN) (GN : FnOk P w K mg base CX0 1 fN dN ["thing"] (spChk K isLabD)) (gN : mg "is_name" = some (.ref fN)) (bN : Binds K dN ["thing"] []) : FnOk P w K mg base CX0 2 f fd ["thing"] (spCol K) := by
  refine F.ok scCol (fun vs H Q E h => ?_) (fun cdv A outer s H vs Q E hr h => ?_)
  · obtain ⟨a, cs, rfl, _⟩ := h
    rfl
  obtain ⟨a, cs, rfl, ha, ok, q⟩ := h
  have nd := scCol.nd
  obtain ⟨tc, gc⟩ := M.cols
  refine ⟨_, pss_cons (ps_if (PW.pt (pw_or (pt_not (pt_val (pe_callB call_isi (by rfl) C.isi (by decide +kernel) (pa_cons (pv 0) (pa_cons (pe_bltn (v := .ty "tuple") (by rfl) M.tup (by decide +kernel) rfl) pa_nil)))))
      (pw_or1 (pt_not (pt_chain op_le op_le pe_int (pe_callB call_len_seq (by rfl) C.len PySem.boot_len (pa_cons (pv 0) pa_nil)) (pe_glob (v := .int 4) (by rfl) gc ⟨_, rfl⟩))))))
      (pss_one (ps_ret pe_bl)) pss_nil)
    (pss_one (ps_ret (pe_and (pe_callB (cr_all rfl) (by rfl) C.all (by decide +kernel) (pa_cons (pe_lc (own := [("column", 1)]) (g := gName 1) (tt := tYes) rfl nd (pi_tup (pv 0))
        (blkOk_by (N := ["thing", "column"]) (sc := defScope sCol) (by decide +kernel)) (fun _ _ _ _ _ => pg_name (i := 1) nd rfl (Or.inl rfl)) (fun _ _ _ _ _ => pts_nil)
        (fun _ _ _ _ _ => pe_call GN hr (by rfl) gN FN.kp bN .nil pass0 (pa_cons (pv 1) pa_nil))) pa_nil))
      (pe_one (pe_cmpR op_eq (Sk.pe_lenSetK rfl (by rfl) C.len (by rfl) M.set_ (pv 0)) (pe_callB call_len_seq (by rfl) C.len PySem.boot_len (pa_cons (pv 0) pa_nil)) (nomark _)))))), ?_⟩
  have sa : TyX K H (.ref a) (.type "tuple") := by
    rcases ha with (a1 | ⟨z, a1⟩) | ⟨z, its, n, a1, c, _⟩
    · exact .base (.tup a1)
    · exact .fTuple a1
    · exact .kTuple a1 c
  have l1 := ok.one
  have l4 := ok.four
  have hl : (cs.map V.str).length = cs.length := List.length_map _
  refine ⟨_, rfl, _, _, _, _, true, rfl, .ty _, sa, kit_ty (by decide +kernel), _, rfl, ?_⟩
  refine iteF ?_
  refine ⟨_, rfl, a, _, rfl, .inr ha, ?_⟩
  refine ⟨_, _, rfl, rfl, _, rfl, ite2 (fun c1 => ?_) (fun c1 => absurd (decide_eq_true (show (1 : Int) ≤ ((cs.map V.str).length : Int) by omega)) c1)⟩
  refine ⟨_, _, rfl, rfl, _, rfl, ?_⟩
  have e4 : decide (((cs.map V.str).length : Int) ≤ 4) = true := decide_eq_true (by omega)
  rw [e4]
  refine iteF ?_
  refine ⟨_, rfl, a, rfl, ⟨_, ha⟩, fun D nD => ?_⟩
  refine lc_tup (K := K) (a := a) (xs := cs.map V.str) (fun i H' => Same H H' ∧ H' D = some (.lst ((List.replicate i true).map V.bl))) ⟨new_same nD, upd_same⟩ (fun i H' _ y => Tups.of_same y.1 _ _ ha) ?_ ?_
  · rintro i x H' hx ⟨sm, eD⟩
    rw [List.getElem?_map, Option.map_eq_some_iff] at hx
    obtain ⟨c, hc, rfl⟩ := hx
    have hi : i < cs.length := (List.getElem?_eq_some_iff.mp hc).1
    have lc := ok.lab c (List.mem_of_getElem? hc)
    refine ⟨rfl, ?_⟩
    refine ⟨_, rfl, fun _ => False, .str c, .str c, rfl, .str _, lab_ok lc, fun H'' s'' => ?_⟩
    refine ⟨_, s'' _ _ eD, by rw [List.length_map, List.length_replicate, sizeLine_eq]; omega, fun b o e => ?_, ?_⟩
    · rw [upd_ne (ne_of_none e nD)]
      exact s'' _ _ (sm _ _ e)
    · rw [upd_same, show isLabD (.str c) = true from lc, List.replicate_succ', List.map_append]
      rfl
  rintro H' ⟨sm, eD⟩
  refine ⟨D, _, rfl, SqL.of eD, ?_⟩
  have e5 : (List.replicate (cs.map V.str).length true).all id = true := by simp
  rw [e5]
  refine ⟨_, rfl, iteT' (by rfl) ?_⟩
  have hk : (cs.map (Sum.inr : Str → Key)).map kV = cs.map V.str := by rw [List.map_map]; rfl
  have ndk : (cs.map (Sum.inr : Str → Key)).Nodup := List.Pairwise.map Sum.inr (fun x y h z => h (Sum.inr.inj z)) ok.nd
  have ha2 := Tups.of_same sm _ _ ha
  refine ⟨_, rfl, a, cs.map Sum.inr, rfl, .inr (by rw [hk]; exact ha2), by rw [List.length_map]; omega, ?_⟩
  rw [uniq_nd ndk]
  refine ⟨_, rfl, a, _, rfl, .inr ha2, rfl, ?_⟩
  rw [show decide (V.int (((cs.map (Sum.inr : Str → Key)).length : Nat) : Int) = V.int (((cs.map V.str).length : Nat) : Int)) = true from decide_eq_true (by rw [List.length_map, List.length_map])]
  exact q _ sm
end
end K37t
end

section
set_option Elab.async false
set_option linter.all false
set_option maxRecDepth 100000
set_option maxHeartbeats 4000000
/-! deeds. -/
namespace K37t
open PySem PySem.Spec PyProof.Rows L2 Gd
inductive Deed where
  | table (n : Str) (cs : List Str)
  | row (n : Str) (ws : List Int)
  | out (n : Str) (k : Nat)
def Deed.name : Deed → Str
  | .table n _ => n
  | .row n _ => n
  | .out n _ => n
def Deed.word : Deed → Str
  | .table _ _ => "table"
  | .row _ _ => "row"
  | .out _ _ => "out"
def WsOk (ws : List Int) : Prop := ∀ i ∈ ws, -(10 ^ 30 : Int) < i ∧ i < 10 ^ 30
def DeedOk : Deed → Prop
  | .table n cs => isLab n = true ∧ ColsOk cs
  | .row n ws => isLab n = true ∧ WsOk ws ∧ ws.length ≤ 1000
  | .out n k => isLab n = true ∧ k ≤ 1000
/-- what the deed is of, at v -/
def WhatAt (K : PySem.W.Frag) (H : Hp) (v : V) : Deed → Prop
  | .table _ cs => ∃ a, v = .ref a ∧ SqT K H a (cs.map V.str)
  | .row _ ws => ∃ a, v = .ref a ∧ SqT K H a (ws.map V.int)
  | .out _ k => v = .int k
def DeedAt (K : PySem.W.Frag) (H : Hp) (t : Addr) (d : Deed) : Prop := ∃ v, SqT K H t [.str d.word, .str d.name, v] ∧ WhatAt K H v d
theorem WhatAt.tups {K : PySem.W.Frag} {H H' : Hp} {v : V} {d : Deed} (t : Tups K H H') (h : WhatAt K H v d) : WhatAt K H' v d := by
  cases d with
  | table n cs =>
    obtain ⟨a, e, h⟩ := h
    exact ⟨a, e, t _ _ h⟩
  | row n ws =>
    obtain ⟨a, e, h⟩ := h
    exact ⟨a, e, t _ _ h⟩
  | out n k => exact h
theorem DeedAt.tups {K : PySem.W.Frag} {H H' : Hp} {a : Addr} {d : Deed} (t : Tups K H H') (h : DeedAt K H a d) : DeedAt K H' a d := by
  obtain ⟨v, e, h⟩ := h
  exact ⟨v, t _ _ e, h.tups t⟩
theorem DeedOk.lab {d : Deed} (h : DeedOk d) : isLab d.name = true := by
  cases d with
  | table n cs => exact h.1
  | row n ws => exact h.1
  | out n k => exact h.1
abbrev sDeed : Stmt := topS 29
theorem scDeed : FnScope ["thing", "worth"] ["thing"] (defScope sDeed) := ⟨rfl, rfl, rfl, by decide +kernel, rfl, by decide +kernel, by decide +kernel⟩
def spDeed (K : PySem.W.Frag) : Sp := fun vs H Q _ => ∃ (t : Addr) (d : Deed), vs = [.ref t] ∧ DeedAt K H t d ∧ DeedOk d ∧ ∀ H', Same H H' → Q (.bl true) H'
theorem tyT {K : PySem.W.Frag} {H : Hp} {a : Addr} {xs : List V} (ha : SqT K H a xs) : TyX K H (.ref a) (.type "tuple") := by
  rcases ha with (a1 | ⟨z, a1⟩) | ⟨z, its, n, a1, c, _⟩
  · exact .base (.tup a1)
  · exact .fTuple a1
  · exact .kTuple a1 c
theorem iteF' {b : Bool} {p q : Prop} (h : ¬ b = true) (y : q) : if b = true then p else q := by
  rw [if_neg h]
  exact y
theorem num_is {c : Int} (h : -(10 ^ 30 : Int) < c ∧ c < 10 ^ 30) : isNum (.int c) = true := by
  show (decide (-(10 ^ 30 : Int) < c) && decide (c < 10 ^ 30)) = true
  rw [decide_eq_true h.1, decide_eq_true h.2]
  rfl
theorem num_ok {c : Int} (h : -(10 ^ 30 : Int) < c ∧ c < 10 ^ 30) : okD 50 (.int c) = true := by
  have a : (10 ^ 30 : Int) ≤ 10 ^ 64 := by decide
  simp only [okD, decide_eq_true_eq]
  have b : ((10 ^ 64 : Nat) : Int) = (10 : Int) ^ 64 := by decide
  omega
section
variable {P : Program} {w : World} {K : PySem.W.Frag} {mg : Str → Option Value} {base : Heap} {f fN fW fM fC pS : Addr} {fd dN dW dM dC : FuncData}
theorem ok_deed (F : Fun K "_is_deed" "_is_deed" sDeed f fd) (C : Cs K mg pS) (M : Ct mg)
    (FN : Fun K "is_name" "is_name" sName fN dN) (GN : FnOk P w K mg base CX0 1 fN dN ["thing"] (spChk K isLabD)) (gN : mg "is_name" = some (.ref fN)) (bN : Binds K dN ["thing"] [])
    (FW : Fun K "is_whole" "is_whole" sWhole fW dW) (GW : FnOk P w K mg base CX0 1 fW dW ["thing"] (spChk K fun d => isI d && !isB d)) (gW : mg "is_whole" = some (.ref fW)) (bW : Binds K dW ["thing"] [])
    (FM : Fun K "is_number" "is_number" sNumber fM dM) (GM : FnOk P w K mg base CX0 2 fM dM ["thing"] (spChk K isNum)) (gM : mg "is_number" = some (.ref fM)) (bM : Binds K dM ["thing"] [])
    (FC : Fun K "_are_columns" "_are_columns" sCol fC dC) (GC : FnOk P w K mg base CX0 2 fC dC ["thing"] (spCol K)) (gC : mg "_are_columns" = some (.ref fC)) (bC : Binds K dC ["thing"] []) :
    FnOk P w K mg base CX0 3 f fd ["thing"] (spDeed K) := by
  refine F.ok scDeed (fun vs H Q E h => ?_) (fun cdv A outer s H vs Q E hr h => ?_)
  · obtain ⟨t, d, rfl, _⟩ := h
    rfl
  obtain ⟨t, d, rfl, ⟨v, ht, hv⟩, ok, q⟩ := h
  have nd := scDeed.nd
  have r1 : Room 1 _ := hr.mono (by decide)
  refine ⟨_, pss_cons (ps_if (PW.pt (pw_or (pt_not (pt_val (pe_callB call_isi (by rfl) C.isi (by decide +kernel) (pa_cons (pv 0) (pa_cons (pe_bltn (v := .ty "tuple") (by rfl) M.tup (by decide +kernel) rfl) pa_nil)))))
      (pw_or (pt_cmpR op_ne (pe_callB call_len_seq (by rfl) C.len PySem.boot_len (pa_cons (pv 0) pa_nil)) pe_int (nomark _))
      (pw_or1 (pt_not (pt_val (pe_call GN r1 (by rfl) gN FN.kp bN .nil pass0 (pa_cons (pe_ix ix_tup (pv 0) pe_int (fun _ _ => rfl)) pa_nil))))))))
      (pss_one (ps_ret pe_bl)) pss_nil)
    (pss_cons (ps_if (pt_cmpR op_eq (pe_ix ix_tup (pv 0) pe_int (fun _ _ => rfl)) pe_str (nomark _)) (pss_one (ps_ret (pe_call GC hr (by rfl) gC FC.kp bC .nil pass0 (pa_cons (pe_ix ix_tup (pv 0) pe_int (fun _ _ => rfl)) pa_nil)))) pss_nil)
    (pss_cons (ps_if (pt_cmpR op_eq (pe_ix ix_tup (pv 0) pe_int (fun _ _ => rfl)) pe_str (nomark _))
      (pss_one (ps_ret (pe_and (pe_callB call_isi (by rfl) C.isi (by decide +kernel) (pa_cons (pe_ix ix_tup (pv 0) pe_int (fun _ _ => rfl)) (pa_cons (pe_bltn (v := .ty "tuple") (by rfl) M.tup (by decide +kernel) rfl) pa_nil)))
        (pe_one (pe_callB (cr_all rfl) (by rfl) C.all (by decide +kernel) (pa_cons (pe_lc (own := [("worth", 1)]) (g := gName 1) (tt := tYes) rfl nd (pi_tup (pe_ix ix_tup (pv 0) pe_int (fun _ _ => rfl)))
          (blkOk_by (N := ["thing", "worth"]) (sc := defScope sDeed) (by decide +kernel)) (fun _ _ _ _ _ => pg_name (i := 1) nd rfl (Or.inl rfl)) (fun _ _ _ _ _ => pts_nil)
          (fun _ _ _ _ _ => pe_call GM hr (by rfl) gM FM.kp bM .nil pass0 (pa_cons (pv 1) pa_nil))) pa_nil)))))) pss_nil)
    (pss_one (ps_ret (pe_and (pe_cmpR op_eq (pe_ix ix_tup (pv 0) pe_int (fun _ _ => rfl)) pe_str (nomark _)) (pe_and (pe_call GW r1 (by rfl) gW FW.kp bW .nil pass0 (pa_cons (pe_ix ix_tup (pv 0) pe_int (fun _ _ => rfl)) pa_nil))
      (pe_one (pe_cmpR op_ge (pe_ix ix_tup (pv 0) pe_int (fun _ _ => rfl)) pe_int (nomark _))))))))), ?_⟩
  have at0 : atI [V.str d.word, V.str d.name, v] 0 = some (.str d.word) := atI_nat (j := 0) rfl
  have at1 : atI [V.str d.word, V.str d.name, v] 1 = some (.str d.name) := atI_nat (j := 1) rfl
  have at2 : atI [V.str d.word, V.str d.name, v] 2 = some v := atI_nat (j := 2) rfl
  refine ⟨_, rfl, _, _, _, _, true, rfl, .ty _, tyT ht, kit_ty (by decide +kernel), _, rfl, iteF ?_⟩
  refine ⟨_, rfl, t, _, rfl, .inr ht, rfl, _, rfl, iteF ?_⟩
  refine ⟨_, rfl, t, _, 1, _, rfl, rfl, ht, at1, fun _ => False, _, .str d.name, rfl, .str _, lab_ok ok.lab, fun H1 s1 => ?_⟩
  refine ⟨_, rfl, ?_⟩
  rw [show isLabD (.str d.name) = true from ok.lab]
  refine iteF ?_
  have ht1 := Tups.of_same s1 _ _ ht
  have hv1 := hv.tups (Tups.of_same s1)
  refine ⟨_, rfl, t, _, 0, _, rfl, rfl, ht1, at0, rfl, _, rfl, ?_⟩
  cases d with
  | table n cs =>
    obtain ⟨a, rfl, ha⟩ := hv1
    refine iteT' (decide_eq_true rfl) ?_
    exact ⟨_, rfl, t, _, 2, _, rfl, rfl, ht1, at2, a, cs, rfl, ha, ok.2, fun H2 s2 => q H2 (s1.trans s2)⟩
  | row n ws =>
    obtain ⟨a, rfl, ha⟩ := hv1
    refine iteF' (by rw [decide_eq_true_eq]; intro z; exact absurd (V.str.inj z) (show ¬ ("row" : Str) = "table" by decide)) ?_
    refine ⟨_, rfl, t, _, 0, _, rfl, rfl, ht1, at0, rfl, _, rfl, iteT' (decide_eq_true rfl) ?_⟩
    refine ⟨_, rfl, t, _, 2, _, rfl, rfl, ht1, at2, _, _, _, _, true, rfl, .ty _, tyT ha, kit_ty (by decide +kernel), _, rfl, iteT' (by rfl) ?_⟩
    refine ⟨_, rfl, t, _, 2, _, rfl, rfl, ht1, at2, a, rfl, ⟨_, ha⟩, fun D nD => ?_⟩
    refine lc_tup (K := K) (a := a) (xs := ws.map V.int) (fun i H' => Same H1 H' ∧ H' D = some (.lst ((List.replicate i true).map V.bl))) ⟨new_same nD, upd_same⟩ (fun i H' _ y => Tups.of_same y.1 _ _ ha) ?_ ?_
    · rintro i x H' hx ⟨sm, eD⟩
      rw [List.getElem?_map, Option.map_eq_some_iff] at hx
      obtain ⟨c, hc, rfl⟩ := hx
      have hi : i < ws.length := (List.getElem?_eq_some_iff.mp hc).1
      have lc := ok.2.1 c (List.mem_of_getElem? hc)
      have l3 := ok.2.2
      refine ⟨rfl, ?_⟩
      refine ⟨_, rfl, fun _ => False, .int c, .int c, rfl, .int _, num_ok lc, fun H'' s'' => ?_⟩
      refine ⟨_, s'' _ _ eD, by rw [List.length_map, List.length_replicate, sizeLine_eq]; omega, fun b o e => ?_, ?_⟩
      · rw [upd_ne (ne_of_none e nD)]
        exact s'' _ _ (sm _ _ e)
      · rw [upd_same, show isNum (.int c) = true from num_is lc, List.replicate_succ', List.map_append]
        rfl
    rintro H' ⟨sm, eD⟩
    refine ⟨D, _, rfl, SqL.of eD, ?_⟩
    have e5 : (List.replicate (ws.map V.int).length true).all id = true := by simp
    rw [e5]
    exact q _ (s1.trans sm)
  | out n k =>
    obtain rfl := hv1
    have oKK : okD 50 (.int (k : Int)) = true := by
      have z := ok.2
      simp only [okD, decide_eq_true_eq]
      omega
    refine iteF' (by rw [decide_eq_true_eq]; intro z; exact absurd (V.str.inj z) (show ¬ ("out" : Str) = "table" by decide)) ?_
    refine ⟨_, rfl, t, _, 0, _, rfl, rfl, ht1, at0, rfl, _, rfl, iteF' (by rw [decide_eq_true_eq]; intro z; exact absurd (V.str.inj z) (show ¬ ("out" : Str) = "row" by decide)) ?_⟩
    refine ⟨_, rfl, t, _, 0, _, rfl, rfl, ht1, at0, rfl, _, rfl, iteT' (decide_eq_true rfl) ?_⟩
    refine ⟨_, rfl, t, _, 2, _, rfl, rfl, ht1, at2, fun _ => False, _, .int k, rfl, .int _, oKK, fun H2 s2 => ?_⟩
    refine ⟨_, rfl, iteT' (by rfl) ?_⟩
    refine ⟨_, rfl, t, _, 2, _, rfl, rfl, Tups.of_same s2 _ _ ht1, at2, _, _, rfl, rfl, ?_⟩
    show Q (.bl (decide ((0 : Int) ≤ (k : Int)))) H2
    rw [show decide ((0 : Int) ≤ (k : Int)) = true from decide_eq_true (by omega)]
    exact q _ (s1.trans s2)
end
end K37t
end

section
set_option Elab.async false
set_option linter.all false
set_option maxRecDepth 100000
set_option maxHeartbeats 4000000
/-! sorted(xs) of data of one form; what holds of each and its data stays so -/
namespace Gd
open PySem PySem.Spec PyProof.Rows L2 PySem.W
def RDZ (K : PySem.W.Frag) (H : Hp) (G : V → PyData → Prop) (u : Value) (d : PyData) : Prop := ∃ x, RelV x u ∧ Dp K H x d ∧ G x d
section
variable {K : PySem.W.Frag} {H : Hp} {G : V → PyData → Prop}
theorem each_ofZ : ∀ {xs : List V} {us : List Value} {ds : List PyData}, Vals xs us → DpAll K H xs ds → EachIs G xs ds → EachIs (RDZ K H G) us ds
  | _, _, _, .nil, h, _ => by
    cases h
    exact .nil
  | _, _, _, .cons r rs, h, g => by
    cases h with
    | cons a b =>
      cases g with
      | cons g1 g2 => exact .cons ⟨_, r, a, g1⟩ (each_ofZ rs b g2)
theorem of_eachZ : ∀ {us : List Value} {ds : List PyData}, EachIs (RDZ K H G) us ds → ∃ xs, Vals xs us ∧ DpAll K H xs ds ∧ EachIs G xs ds
  | _, _, .nil => ⟨[], .nil, .nil, .nil⟩
  | _, _, .cons ⟨x, r, a, g⟩ h => by
    obtain ⟨xs, rs, b, c⟩ := of_eachZ h
    exact ⟨x :: xs, .cons r rs, .cons a b, .cons g c⟩
theorem each_snoc {α β : Type} {R : α → β → Prop} {a : α} {b : β} : ∀ {as : List α} {bs : List β}, EachIs R as bs → R a b → EachIs R (as ++ [a]) (bs ++ [b])
  | _, _, .nil, h => .cons h .nil
  | _, _, .cons x r, h => .cons x (each_snoc r h)
theorem each_at {α β : Type} {R : α → β → Prop} : ∀ {as : List α} {bs : List β} {i : Nat} {a : α}, EachIs R as bs → as[i]? = some a → ∃ b, bs[i]? = some b ∧ R a b
  | _, _, _, _, .nil, e => by simp at e
  | _, _, 0, _, .cons x _, e => by
    cases Option.some.inj e
    exact ⟨_, rfl, x⟩
  | _, _, i + 1, _, .cons _ r, e => each_at (i := i) r e
end
def rSortZ (K : PySem.W.Frag) : List V → Hp → VK → Prop := fun xs H Q => ∃ (a : Addr) (vs : List V) (ds : List PyData) (G : V → PyData → Prop), xs = [.ref a] ∧ SqL K H a vs ∧ DpAll K H vs ds ∧ EachIs G vs ds ∧ AllAlike ds ∧ Sortable ds ∧ ds.length ≤ 1000 ∧ (∀ d ∈ ds, d.depth ≤ 50) ∧
  ∀ (us : List V) (p : Addr), H p = none → DpAll K H us (told ds) → EachIs G us (told ds) → Q (.ref p) (upd H p (.lst us))
theorem call_sortedZ {X : Cx} (hu : X.A.units + 64 < cLine) : CallR X (.builtin "sorted") (rSortZ X.K) := by
  intro pins s σ H xs us Q I r h
  obtain ⟨a, vs, ds, G, rfl, hs, hA, g, al, so, hz, hd, q⟩ := h
  obtain ⟨u, rfl, ru⟩ := r.one
  cases ru
  obtain ⟨its, rv, hl, _⟩ := I.list hs
  have e := each_ofZ rv hA g
  have er : EachIs (fun v b => ∃ as, Reads s.heap v (id b) as) its ds := e.mono fun v d ⟨x, r1, r2, _⟩ => Dp.reads I d x v r2 r1
  have zl : sizeLine = 16777216 := rfl
  refine sorted_data (enc := id) hl.isList e er (by rw [List.map_id]; exact al) (by rw [List.map_id]; exact so) (by omega) (fun b hb => ?_) fun out hlen eo => ?_
  · have := hd b hb
    show X.A.units + 2 + b.depth < cLine
    omega
  · obtain ⟨ws, r2, A2, g2⟩ := of_eachZ eo
    obtain ⟨ep, he⟩ := sortedAll_at s.heap its (List.toArray out)
    have hw : ws.length ≤ sizeLine := by
      have := r2.length
      omega
    exact ⟨.ref _, upd H (s.heap.objs.size + 1) (.lst ws), I.laid (t' := s.toks) (fun _ _ => sortedAll_old) (Nat.le_succ _) ⟨hw, out, ep, r2, he⟩, rfl, q ws _ (I.hok.fresh (Nat.le_succ _)) A2 g2⟩
end Gd
end

section
set_option Elab.async false
set_option linter.all false
set_option maxRecDepth 100000
set_option maxHeartbeats 4000000
/-! Tables: what stands in the heap, by footprints. -/
namespace K37t
open PySem PySem.Spec PyProof.Rows L2 Gd
/-- a row: its worths, the deed that put it, the one that took it out -/
structure Rw where
  ws : List Int
  put : Nat
  out : Option Nat
structure Tab where
  name : Str
  cols : List Str
  made : Nat
  rows : List Rw
structure Shelf where
  deeds : List Deed
  tabs : List Tab
def onTab (n : Str) (f : Tab → Tab) (t : Tab) : Tab := if t.name = n then f t else t
def Shelf.act (x : Shelf) (d : Deed) : Shelf :=
  { deeds := x.deeds ++ [d]
    tabs := match d with
      | .table n cs => x.tabs ++ [⟨n, cs, x.deeds.length, []⟩]
      | .row n ws => x.tabs.map (onTab n fun t => { t with rows := t.rows ++ [⟨ws, x.deeds.length, none⟩] })
      | .out n k => x.tabs.map (onTab n fun t => { t with rows := t.rows.modify k fun r => { r with out := some x.deeds.length } }) }
def outV : Option Nat → V
  | none => .non
  | some i => .int i
/-- a row stands at v -/
def RowAt (K : PySem.W.Frag) (H : Hp) (v : V) (r : Rw) : Prop := ∃ a b, v = .ref a ∧ SqT K H a [.ref b, .int r.put, outV r.out] ∧ SqT K H b (r.ws.map V.int)
def RowsAt (K : PySem.W.Frag) (H : Hp) (vs : List V) (rs : List Rw) : Prop := PySem.W.EachIs (RowAt K H) vs rs
def sf (a b c d : Addr) : List (Str × V) := [("_deeds", .ref a), ("_columns", .ref b), ("_made", .ref c), ("_rows", .ref d)]
/-- the three dicts, by the places of what they hold -/
def colsK (ts : List Tab) (ca : Nat → Addr) : List (Key × V) := ts.zipIdx.map fun p => (.inr p.1.name, .ref (ca p.2))
def madeK (ts : List Tab) : List (Key × V) := ts.map fun t => (.inr t.name, .int t.made)
def rowsK (ts : List Tab) (rl : Nat → Addr) : List (Key × V) := ts.zipIdx.map fun p => (.inr p.1.name, .ref (rl p.2))
/-- tables stand at p, on the objects F -/
structure ShelfAt (K : PySem.W.Frag) (C : Addr) (H : Hp) (p : Addr) (x : Shelf) (dx a b c d : Addr) (ds : List V) (ca rl : Nat → Addr) : Prop where
  ins : H p = some (.ins C dx (sf a b c d))
  deeds : H a = some (.lst ds)
  deed : PySem.W.EachIs (fun v e => ∃ t, v = .ref t ∧ DeedAt K H t e) ds x.deeds
  cols : H b = some (.dK (colsK x.tabs ca))
  colAt : ∀ i t, x.tabs[i]? = some t → SqT K H (ca i) (t.cols.map V.str)
  made : H c = some (.dK (madeK x.tabs))
  rows : H d = some (.dK (rowsK x.tabs rl))
  rowAt : ∀ i t, x.tabs[i]? = some t → ∃ vs, H (rl i) = some (.lst vs) ∧ RowsAt K H vs t.rows
  bc : b ≠ c
  bd : b ≠ d
  cd : c ≠ d
  apart : ∀ i j, i < x.tabs.length → j < x.tabs.length → rl i = rl j → i = j
  offA : ∀ i, i < x.tabs.length → rl i ≠ a
def foot (p a b c d : Addr) (n : Nat) (rl : Nat → Addr) (q : Addr) : Prop := q = p ∨ q = a ∨ q = b ∨ q = c ∨ q = d ∨ ∃ i, i < n ∧ q = rl i
def ShelfF (K : PySem.W.Frag) (C : Addr) (H : Hp) (p : Addr) (x : Shelf) (F : Addr → Prop) : Prop :=
  ∃ dx a b c d ds ca rl, ShelfAt K C H p x dx a b c d ds ca rl ∧ ∀ q, F q ↔ foot p a b c d x.tabs.length rl q
section
variable {K : PySem.W.Frag} {C : Addr} {H H' : Hp} {p : Addr} {x : Shelf} {F : Addr → Prop}
theorem RowAt.tups {v : V} {r : Rw} (t : Tups K H H') (h : RowAt K H v r) : RowAt K H' v r := by
  obtain ⟨a, b, e, h1, h2⟩ := h
  exact ⟨a, b, e, t _ _ h1, t _ _ h2⟩
theorem RowsAt.tups {vs : List V} {rs : List Rw} (t : Tups K H H') (h : RowsAt K H vs rs) : RowsAt K H' vs rs := h.mono fun _ _ y => y.tups t
/-- what keeps the footprint and all tuples keeps the shelf -/
theorem ShelfF.keep (h : ShelfF K C H p x F) (t : Tups K H H') (k : ∀ b o, F b → H b = some o → H' b = some o) : ShelfF K C H' p x F := by
  obtain ⟨dx, a, b, c, d, ds, ca, rl, s, hF⟩ := h
  refine ⟨dx, a, b, c, d, ds, ca, rl, ⟨k _ _ ((hF _).mpr (.inl rfl)) s.ins, k _ _ ((hF _).mpr (.inr (.inl rfl))) s.deeds, ?_, k _ _ ((hF _).mpr (.inr (.inr (.inl rfl)))) s.cols, fun i t0 e => t _ _ (s.colAt i t0 e),
    k _ _ ((hF _).mpr (.inr (.inr (.inr (.inl rfl))))) s.made, k _ _ ((hF _).mpr (.inr (.inr (.inr (.inr (.inl rfl)))))) s.rows, fun i t0 e => ?_, s.bc, s.bd, s.cd, s.apart, s.offA⟩, hF⟩
  · exact s.deed.mono fun v e ⟨q, e1, e2⟩ => ⟨q, e1, e2.tups t⟩
  · obtain ⟨vs, e1, e2⟩ := s.rowAt i t0 e
    exact ⟨vs, k _ _ ((hF _).mpr (.inr (.inr (.inr (.inr (.inr ⟨i, (List.getElem?_eq_some_iff.mp e).1, rfl⟩)))))) e1, e2.tups t⟩
theorem ShelfF.same (h : ShelfF K C H p x F) (s : Same H H') : ShelfF K C H' p x F := h.keep (Tups.of_same s) fun b o _ e => s b o e
/-- all of the footprint is there, and none of it is a tuple -/
theorem ShelfF.kind (h : ShelfF K C H p x F) {q : Addr} (hq : F q) : (∃ dx fs, H q = some (.ins C dx fs)) ∨ (∃ xs, H q = some (.lst xs)) ∨ ∃ kvs, H q = some (.dK kvs) := by
  obtain ⟨dx, a, b, c, d, ds, ca, rl, s, hF⟩ := h
  rcases (hF q).mp hq with rfl | rfl | rfl | rfl | rfl | ⟨i, hi, rfl⟩
  · exact .inl ⟨_, _, s.ins⟩
  · exact .inr (.inl ⟨_, s.deeds⟩)
  · exact .inr (.inr ⟨_, s.cols⟩)
  · exact .inr (.inr ⟨_, s.made⟩)
  · exact .inr (.inr ⟨_, s.rows⟩)
  · obtain ⟨vs, e, _⟩ := s.rowAt i _ (List.getElem?_eq_getElem hi)
    exact .inr (.inl ⟨_, e⟩)
theorem ShelfF.here (h : ShelfF K C H p x F) {q : Addr} (hq : F q) : ∃ o, H q = some o := by
  rcases h.kind hq with ⟨dx, fs, e⟩ | ⟨xs, e⟩ | ⟨kvs, e⟩
  · exact ⟨_, e⟩
  · exact ⟨_, e⟩
  · exact ⟨_, e⟩
theorem ShelfF.ne (h : ShelfF K C H p x F) {q r : Addr} (hq : F q) (n : H r = none) : q ≠ r := fun e => by
  obtain ⟨o, z⟩ := h.here hq
  rw [e, n] at z
  cases z
theorem ShelfF.self (h : ShelfF K C H p x F) : F p := by
  obtain ⟨dx, a, b, c, d, ds, ca, rl, s, hF⟩ := h
  exact (hF p).mpr (.inl rfl)
end
/-! ### what the dicts give -/
theorem valV_idx {f : Nat → V} : ∀ (ts : List Tab) (k : Nat) (i : Nat) (t : Tab), (ts.map Tab.name).Nodup → ts[i]? = some t → valV ((ts.zipIdx k).map fun p => ((.inr p.1.name : Key), f p.2)) (.inr t.name) = some (f (k + i))
  | [], _, _, _, _, h => by simp at h
  | t0 :: ts, k, 0, t, _, h => by
    obtain rfl : t0 = t := by simpa using h
    rw [List.zipIdx_cons, List.map_cons]
    exact valV_pos rfl
  | t0 :: ts, k, i + 1, t, nd, h => by
    rw [List.map_cons, List.nodup_cons] at nd
    have hi : ts[i]? = some t := by simpa using h
    rw [List.zipIdx_cons, List.map_cons, valV_neg, valV_idx ts (k + 1) i t nd.2 hi]
    · congr 2
      omega
    · exact fun z => nd.1 (List.mem_map.mpr ⟨t, List.mem_of_getElem? hi, (Sum.inr.inj z).symm⟩)
theorem valV_idx_no {f : Nat → V} {n : Str} : ∀ (ts : List Tab) (k : Nat), n ∉ ts.map Tab.name → valV ((ts.zipIdx k).map fun p => ((.inr p.1.name : Key), f p.2)) (.inr n) = none
  | [], _, _ => rfl
  | t0 :: ts, k, h => by
    rw [List.map_cons, List.mem_cons, not_or] at h
    rw [List.zipIdx_cons, List.map_cons, valV_neg (fun z => h.1 (Sum.inr.inj z).symm)]
    exact valV_idx_no ts (k + 1) h.2
theorem valV_made : ∀ (ts : List Tab) (i : Nat) (t : Tab), (ts.map Tab.name).Nodup → ts[i]? = some t → valV (madeK ts) (.inr t.name) = some (.int t.made)
  | [], _, _, _, h => by simp at h
  | t0 :: ts, 0, t, _, h => by
    obtain rfl : t0 = t := by simpa using h
    exact valV_pos rfl
  | t0 :: ts, i + 1, t, nd, h => by
    rw [List.map_cons, List.nodup_cons] at nd
    have hi : ts[i]? = some t := by simpa using h
    have e : valV (madeK (t0 :: ts)) (.inr t.name) = valV (madeK ts) (.inr t.name) := valV_neg (fun z => nd.1 (List.mem_map.mpr ⟨t, List.mem_of_getElem? hi, (Sum.inr.inj z).symm⟩))
    rw [e]
    exact valV_made ts i t nd.2 hi
theorem valV_made_no {n : Str} : ∀ (ts : List Tab), n ∉ ts.map Tab.name → valV (madeK ts) (.inr n) = none
  | [], _ => rfl
  | t0 :: ts, h => by
    rw [List.map_cons, List.mem_cons, not_or] at h
    have e : valV (madeK (t0 :: ts)) (.inr n) = valV (madeK ts) (.inr n) := valV_neg (fun z => h.1 (Sum.inr.inj z).symm)
    rw [e]
    exact valV_made_no ts h.2
end K37t
end

section
set_option Elab.async false
set_option linter.all false
set_option maxRecDepth 100000
set_option maxHeartbeats 4000000
/-! Tables: the methods that read. -/
namespace K37t
open PySem PySem.Spec PyProof.Rows L2 Gd
abbrev sMom : Stmt := inClass (topS 32) 5
abbrev sMof : Stmt := inClass (topS 32) 6
abbrev sRows : Stmt := inClass (topS 32) 7
abbrev sColumns : Stmt := inClass (topS 32) 9
abbrev sNames : Stmt := inClass (topS 32) 10
theorem scMom : FnScope ["self"] ["self"] (defScope sMom) := ⟨rfl, rfl, rfl, by decide +kernel, rfl, by decide +kernel, by decide +kernel⟩
theorem scMof : FnScope ["self", "name", "moment"] ["self", "name", "moment"] (defScope sMof) := ⟨rfl, rfl, rfl, by decide +kernel, rfl, by decide +kernel, by decide +kernel⟩
abbrev nRows : List Str := ["self", "name", "moment", "then", "number", "worths", "put", "out"]
theorem scRows : FnScope nRows ["self", "name", "moment"] (defScope sRows) := ⟨rfl, rfl, rfl, by decide +kernel, rfl, by decide +kernel, by decide +kernel⟩
theorem scColumns : FnScope ["self", "name", "moment"] ["self", "name", "moment"] (defScope sColumns) := ⟨rfl, rfl, rfl, by decide +kernel, rfl, by decide +kernel, by decide +kernel⟩
abbrev nNames : List Str := ["self", "moment", "then", "name"]
theorem scNames : FnScope nNames ["self", "moment"] (defScope sNames) := ⟨rfl, rfl, rfl, by decide +kernel, rfl, by decide +kernel, by decide +kernel⟩
/-- what the class is by the heap of the top -/
structure TxtT (K : PySem.W.Frag) (mg : Str → Option Value) (C : Addr) : Prop where
  cl : Cls K C
  nD : NoAttr K C "_deeds"
  nC : NoAttr K C "_columns"
  nM : NoAttr K C "_made"
  nR : NoAttr K C "_rows"
  so : mg "sorted" = none
  en : mg "enumerate" = none
section
variable {a b c d : Addr}
theorem sf_d : (sf a b c d).lookup ("_deeds" : Str) = some (.ref a) := by rfl
theorem sf_c : (sf a b c d).lookup ("_columns" : Str) = some (.ref b) := by rfl
theorem sf_m : (sf a b c d).lookup ("_made" : Str) = some (.ref c) := by rfl
theorem sf_r : (sf a b c d).lookup ("_rows" : Str) = some (.ref d) := by rfl
theorem sf_no {n : Str} (h : (["_deeds", "_columns", "_made", "_rows"] : List Str).contains n = false) : (sf a b c d).lookup n = none := by
  simp only [List.contains_cons, Bool.or_eq_false_iff, List.contains_nil] at h
  unfold sf
  simp [List.lookup, h]
end
/-- what is held of tables that are well made -/
structure ShelfOk (x : Shelf) : Prop where
  nd : (x.tabs.map Tab.name).Nodup
  lab : ∀ t ∈ x.tabs, isLab t.name = true
  deeds : x.deeds.length ≤ 4000
  tabs : x.tabs.length ≤ 6
  rows : ∀ t ∈ x.tabs, t.rows.length ≤ 60
  ws : ∀ t ∈ x.tabs, ∀ r ∈ t.rows, r.ws.length ≤ 1000
def momV : Option Nat → V
  | none => .non
  | some i => .int i
def Shelf.mo (x : Shelf) (o : Option Nat) : Nat := o.getD x.deeds.length
def spMom (K : PySem.W.Frag) (C : Addr) : Sp := fun vs H Q _ => ∃ (p : Addr) (x : Shelf) (F : Addr → Prop), vs = [.ref p] ∧ ShelfF K C H p x F ∧ x.deeds.length ≤ 4000 ∧ Q (.int x.deeds.length) H
def spMof (K : PySem.W.Frag) (C : Addr) : Sp := fun vs H Q _ => ∃ (p : Addr) (x : Shelf) (F : Addr → Prop) (i : Nat) (t : Tab) (o : Option Nat), vs = [.ref p, .str t.name, momV o] ∧ ShelfF K C H p x F ∧ ShelfOk x ∧ x.tabs[i]? = some t ∧ x.mo o ≤ x.deeds.length ∧ t.made < x.mo o ∧
  ∀ H', Same H H' → Q (.int (x.mo o)) H'
section
variable {P : Program} {w : World} {K : PySem.W.Frag} {mg : Str → Option Value} {base : Heap} {f fN pS C : Addr} {fd dN : FuncData}
theorem ok_mom (F : Fun K "moment" "Tables.moment" sMom f fd) (T : TxtT K mg C) (N : Cs K mg pS) : FnOk P w K mg base CX0 1 f fd ["self"] (spMom K C) := by
  refine F.ok scMom (fun vs H Q E h => ?_) (fun cdv A outer s H vs Q E hr h => ?_)
  · obtain ⟨p, x, F, rfl, _⟩ := h
    rfl
  obtain ⟨p, x, FF, rfl, ⟨dx, a, b, c, d, ds, ca, rl, S, hF⟩, hl, q⟩ := h
  refine ⟨_, pss_one (ps_ret (pe_callB call_len_seq (by rfl) N.len PySem.boot_len (pa_cons (pe_fld (pv 0) rfl) pa_nil))), ?_⟩
  refine ⟨_, rfl, p, C, dx, _, _, rfl, S.ins, T.cl, T.nD, sf_d, a, _, rfl, .inl (SqL.of S.deeds), ?_⟩
  rw [show ds.length = x.deeds.length from S.deed.length]
  exact q
theorem ok_mof (F : Fun K "_moment_of" "Tables._moment_of" sMof f fd) (T : TxtT K mg C) (N : Cs K mg pS)
    (FN : Fun K "is_name" "is_name" sName fN dN) (GN : FnOk P w K mg base CX0 1 fN dN ["thing"] (spChk K isLabD)) (gN : mg "is_name" = some (.ref fN)) (bN : Binds K dN ["thing"] []) : FnOk P w K mg base CX0 2 f fd ["self", "name", "moment"] (spMof K C) := by
  refine F.ok scMof (fun vs H Q E h => ?_) (fun cdv A outer s H vs Q E hr h => ?_)
  · obtain ⟨p, x, F, i, t, o, rfl, _⟩ := h
    rfl
  obtain ⟨p, x, FF, i, t, o, rfl, hS, ok, ht, mo1, mo2, q⟩ := h
  have nd := scMof.nd
  have hu := hu_of hr
  refine ⟨_, C8.pss_cut (ps_if (pt_cmpR op_isN (pv 2) pe_non (nomark _)) (pss_one (ps_set (i := 2) nd rfl (.inl rfl) (pe_callB call_len_seq (by rfl) N.len PySem.boot_len (pa_cons (pe_fld (pv 0) rfl) pa_nil)))) pss_nil)
    (pss_cons (ps_if (PW.pt (pw_or (pt_not (pt_val (pe_call GN hr (by rfl) gN FN.kp bN .nil pass0 (pa_cons (pv 1) pa_nil)))) (pw_or1 (pt_cmp (pc_dnotin hu (pv 1) (pe_fld (pv 0) rfl)))))) pss_never pss_nil)
    (pss_cons (ps_if (PW.pt (pw_or (pt_cmpR op_gt (pv 2) (pe_callB call_len_seq (by rfl) N.len PySem.boot_len (pa_cons (pe_fld (pv 0) rfl) pa_nil)) (nomark _)) (pw_or1 (pt_cmpR op_ge (pe_dget hu (pe_fld (pv 0) rfl) (pv 1) (fun _ _ => rfl)) (pv 2) (nomark _))))) pss_never pss_nil)
    (pss_one (ps_ret (pv 2))))), ?_⟩
  obtain ⟨dx, a, b, c, d, ds, ca, rl, S, hF⟩ := hS
  have lds : ds.length = x.deeds.length := S.deed.length
  have hla : isLab t.name = true := ok.lab t (List.mem_of_getElem? ht)
  have vm : valV (madeK x.tabs) (.inr t.name) = some (.int t.made) := valV_made x.tabs i t ok.nd ht
  refine ⟨fun σ' H' => H' = H ∧ σ' = [some (.ref p), some (.str t.name), some (.int (x.mo o))], ?_, ?_⟩
  · cases o with
    | none =>
      refine ⟨_, rfl, rfl, _, rfl, iteT' (decide_eq_true rfl) ?_⟩
      refine ⟨_, rfl, p, C, dx, _, _, rfl, S.ins, T.cl, T.nD, sf_d, a, _, rfl, .inl (SqL.of S.deeds), rfl, ?_⟩
      rw [lds]
      rfl
    | some m =>
      refine ⟨_, rfl, rfl, _, rfl, iteF' (by rw [decide_eq_true_eq]; exact fun z => nomatch z) ?_⟩
      exact ⟨rfl, rfl⟩
  rintro σ' H' ⟨rfl, rfl⟩
  refine ⟨_, rfl, fun _ => False, _, .str t.name, rfl, .str _, lab_ok hla, fun H1 s1 => ⟨_, rfl, ?_⟩⟩
  rw [show isLabD (.str t.name) = true from hla]
  refine iteF ?_
  have i1 := s1 _ _ S.ins
  have m1 := s1 _ _ S.made
  have g1 : DGet H1 c (.str t.name) (some (.int t.made)) := by
    have z := DGet.k (k := .inr t.name) m1
    rw [vm] at z
    exact z
  refine ⟨_, rfl, _, rfl, p, C, dx, _, _, rfl, i1, T.cl, T.nM, sf_m, c, _, rfl, g1, _, rfl, iteF ?_⟩
  refine ⟨_, rfl, _, rfl, p, C, dx, _, _, rfl, i1, T.cl, T.nD, sf_d, a, _, rfl, .inl (SqL.of (s1 _ _ S.deeds)), _, _, rfl, rfl, _, rfl, ?_⟩
  rw [lds, show decide (((x.mo o : Nat) : Int) > ((x.deeds.length : Nat) : Int)) = false from decide_eq_false (by omega)]
  refine iteF ?_
  refine ⟨_, rfl, p, C, dx, _, _, rfl, i1, T.cl, T.nM, sf_m, _, rfl, c, _, rfl, g1, _, rfl, _, _, rfl, rfl, _, rfl, ?_⟩
  rw [show decide (((t.made : Nat) : Int) ≥ ((x.mo o : Nat) : Int)) = false from decide_eq_false (by omega)]
  refine iteF ?_
  exact ⟨_, rfl, q _ s1⟩
end
end K37t
end

section
set_option Elab.async false
set_option linter.all false
set_option maxRecDepth 100000
set_option maxHeartbeats 4000000
/-! Tables: rows, columns. -/
namespace K37t
open PySem PySem.Spec PyProof.Rows L2 Gd
structure Mt (P : Program) (w : World) (K : PySem.W.Frag) (mg : Str → Option Value) (base : Heap) (C : Addr) (m : Str) (ps : List Str) (cx : CXT) (k : Nat) (sp : Sp) : Prop where
  ex : ∃ (f : Addr) (fd : FuncData), Meth K C m f ∧ FnOk P w K mg base cx k f fd ps sp ∧ Binds K fd ps []
theorem each_at {α β : Type} {R : α → β → Prop} : ∀ {as : List α} {bs : List β} {i : Nat} {a : α}, PySem.W.EachIs R as bs → as[i]? = some a → ∃ b, bs[i]? = some b ∧ R a b
  | _, _, _, _, .nil, h => by simp at h
  | _, _, 0, _, .cons (b := b) h _, e => by
    cases (show some _ = some _ from e)
    exact ⟨b, rfl, h⟩
  | _, _, i + 1, _, .cons _ t, e => each_at t (i := i) (by simpa using e)
def stands (m : Nat) (r : Rw) : Bool := decide (r.put < m) && (match r.out with
  | none => true
  | some o => decide (m ≤ o))
/-- the rows of a moment, with their numbers -/
def Tab.at (t : Tab) (m : Nat) (k : Nat) : List (Nat × Rw) := ((t.rows.take k).zipIdx.map fun p => (p.2, p.1)).filter fun p => stands m p.2
def rowD (p : Nat × Rw) : PyData := .tuple [.int p.1, .tuple (p.2.ws.map PyData.int)]
theorem dp_ints {K : PySem.W.Frag} {H : Hp} : ∀ ws : List Int, DpAll K H (ws.map V.int) (ws.map PyData.int)
  | [] => .nil
  | w :: ws => .cons (.int w) (dp_ints ws)
theorem ints_only : ∀ ws : List Int, tupOnlyAll (ws.map PyData.int) = true
  | [] => rfl
  | w :: ws => by
    show (tupOnly (.int w) && tupOnlyAll (ws.map PyData.int)) = true
    rw [ints_only ws]
    rfl
theorem rowD_only {p : Nat × Rw} (h : p.2.ws.length ≤ 1000) : tupOnly (rowD p) = true := by
  have e : tupOnly (.tuple (p.2.ws.map PyData.int)) = true := by
    simp only [tupOnly, Bool.and_eq_true, decide_eq_true_eq]
    exact ⟨by rw [List.length_map]; omega, ints_only _⟩
  unfold rowD
  simp only [tupOnly, tupOnlyAll, Bool.and_eq_true, decide_eq_true_eq] at e ⊢
  exact ⟨by show 2 ≤ 1000; decide, trivial, e, trivial⟩
theorem rowDs_only : ∀ l : List (Nat × Rw), (∀ p ∈ l, p.2.ws.length ≤ 1000) → tupOnlyAll (l.map rowD) = true
  | [], _ => rfl
  | p :: l, h => by
    show (tupOnly (rowD p) && tupOnlyAll (l.map rowD)) = true
    rw [rowD_only (h p (by simp)), rowDs_only l fun q hq => h q (by simp [hq])]
    rfl
theorem at_mem {t : Tab} {m k : Nat} {p : Nat × Rw} (h : p ∈ t.at m k) : p.2 ∈ t.rows := by
  unfold Tab.at at h
  obtain ⟨q, hq, e⟩ := List.mem_map.mp (List.mem_filter.mp h).1
  rw [← e]
  exact List.mem_of_mem_take (List.fst_mem_of_mem_zipIdx hq)
theorem at_succ (t : Tab) (m k : Nat) (r : Rw) (h : t.rows[k]? = some r) : t.at m (k + 1) = if stands m r = true then t.at m k ++ [(k, r)] else t.at m k := by
  have hk : k < t.rows.length := (List.getElem?_eq_some_iff.mp h).1
  unfold Tab.at
  rw [List.take_add_one, h]
  show List.filter _ (List.map _ ((t.rows.take k ++ [r]).zipIdx)) = _
  rw [List.zipIdx_append, List.map_append, List.filter_append]
  have e : (t.rows.take k).length = k := by rw [List.length_take]; omega
  rw [e, Nat.zero_add]
  show _ ++ List.filter _ [(k, r)] = _
  by_cases z : stands m r = true
  · rw [if_pos z]
    simp [z]
  · rw [if_neg z]
    simp [z]
def spColumns (K : PySem.W.Frag) (C : Addr) : Sp := fun vs H Q _ => ∃ (p : Addr) (x : Shelf) (F : Addr → Prop) (i : Nat) (t : Tab) (o : Option Nat), vs = [.ref p, .str t.name, momV o] ∧ ShelfF K C H p x F ∧ ShelfOk x ∧ x.tabs[i]? = some t ∧ x.mo o ≤ x.deeds.length ∧ t.made < x.mo o ∧
  ∀ H' a, Same H H' → SqT K H' a (t.cols.map V.str) → Q (.ref a) H'
def spRows (K : PySem.W.Frag) (C : Addr) : Sp := fun vs H Q _ => ∃ (p : Addr) (x : Shelf) (F : Addr → Prop) (i : Nat) (t : Tab) (o : Option Nat), vs = [.ref p, .str t.name, momV o] ∧ ShelfF K C H p x F ∧ ShelfOk x ∧ x.tabs[i]? = some t ∧ x.mo o ≤ x.deeds.length ∧ t.made < x.mo o ∧
  ∀ H' D us, Same H H' → H D = none → H' D = some (.lst us) → DpAll K H' us ((t.at (x.mo o) t.rows.length).map rowD) → Q (.ref D) H'
section
variable {P : Program} {w : World} {K : PySem.W.Frag} {mg : Str → Option Value} {base : Heap} {f pS C : Addr} {fd : FuncData}
theorem ok_columns (F : FunD K "columns" "Tables.columns" (defArgs sColumns) (defBody sColumns) (defScope sColumns) [] [("moment", .non)] f fd) (T : TxtT K mg C) (M : Mt P w K mg base C "_moment_of" ["self", "name", "moment"] CX0 2 (spMof K C)) :
    FnOk P w K mg base CX0 3 f fd ["self", "name", "moment"] (spColumns K C) := by
  refine F.ok scColumns (fun vs H Q E h => ?_) (fun cdv A outer s H vs Q E hr h => ?_)
  · obtain ⟨p, x, F, i, t, o, rfl, _⟩ := h
    rfl
  obtain ⟨p, x, FF, i, t, o, rfl, hS, ok, ht, mo1, mo2, q⟩ := h
  obtain ⟨fM, dM, mM, GM, bM⟩ := M.ex
  have nd := scColumns.nd
  have hu := hu_of hr
  refine ⟨_, pss_cons (ps_expr (pe_meth (pv 0) T.cl mM GM hr bM .nil pass0 (pa_cons (pv 1) (pa_cons (pv 2) pa_nil)))) (pss_one (ps_ret (pe_dget hu (pe_fld (pv 0) rfl) (pv 1) (fun _ _ => rfl)))), ?_⟩
  have hS0 := hS
  obtain ⟨dx, a, b, c, d, ds, ca, rl, S, hF⟩ := hS
  refine ⟨_, rfl, p, dx, _, rfl, S.ins, sf_no (by decide), _, rfl, _, rfl, p, x, FF, i, t, o, rfl, hS0, ok, ht, mo1, mo2, fun H1 s1 => ?_⟩
  have g1 : DGet H1 b (.str t.name) (some (.ref (ca i))) := by
    have z := DGet.k (k := .inr t.name) (s1 _ _ S.cols)
    unfold colsK at z
    rw [valV_idx (f := fun j => .ref (ca j)) x.tabs 0 i t ok.nd ht, Nat.zero_add] at z
    exact z
  exact ⟨_, rfl, p, C, dx, _, _, rfl, s1 _ _ S.ins, T.cl, T.nC, sf_c, _, rfl, b, _, rfl, g1, q H1 _ s1 (Tups.of_same s1 _ _ (S.colAt i t ht))⟩
theorem ok_rows (F : FunD K "rows" "Tables.rows" (defArgs sRows) (defBody sRows) (defScope sRows) [] [("moment", .non)] f fd) (T : TxtT K mg C) (M : Mt P w K mg base C "_moment_of" ["self", "name", "moment"] CX0 2 (spMof K C)) :
    FnOk P w K mg base CX0 3 f fd ["self", "name", "moment"] (spRows K C) := by
  refine F.ok scRows (fun vs H Q E h => ?_) (fun cdv A outer s H vs Q E hr h => ?_)
  · obtain ⟨p, x, F, i, t, o, rfl, _⟩ := h
    rfl
  obtain ⟨p, x, FF, i, t, o, rfl, hS, ok, ht, mo1, mo2, q⟩ := h
  obtain ⟨fM, dM, mM, GM, bM⟩ := M.ex
  have nd := scRows.nd
  have hu := hu_of hr
  refine ⟨_, pss_cons (ps_set (i := 3) nd rfl (by first | exact .inl rfl | exact .inr rfl) (pe_meth (pv 0) T.cl mM GM hr bM .nil pass0 (pa_cons (pv 1) (pa_cons (pv 2) pa_nil))))
    (pss_one (ps_ret (pe_lc (own := [("number", 4), ("worths", 5), ("put", 6), ("out", 7)]) (g := gTup K 2 (gCons (gName 4) (gCons (gTup K 3 (gCons (gName 5) (gCons (gName 6) (gCons (gName 7) gNil)))) gNil))) rfl nd
      (pi_enum (by rfl) T.en (pa_cons (pe_dget hu (pe_fld (pv 0) rfl) (pv 1) (fun _ _ => rfl)) pa_nil)) (blkOk_by (N := nRows) (sc := defScope sRows) (by decide +kernel))
      (fun _ _ _ _ _ => pg_tup rfl (pgs_cons (pg_name (i := 4) nd rfl (Or.inl rfl)) (pgs_cons (pg_tup rfl (pgs_cons (pg_name (i := 5) nd rfl (Or.inl rfl)) (pgs_cons (pg_name (i := 6) nd rfl (Or.inl rfl)) (pgs_cons (pg_name (i := 7) nd rfl (Or.inl rfl)) pgs_nil)))) pgs_nil)))
      (fun _ _ _ _ _ => pts_one (PW.pt (pw_and (pt_cmpR op_lt (pv 6) (pv 3) (nomark _)) (pw_and1 (PW.pt (pw_or (pt_cmpR op_isN (pv 7) pe_non (nomark _)) (pw_or1 (pt_cmpR op_ge (pv 7) (pv 3) (nomark _)))))))))
      (fun _ _ _ _ _ => pe_tup (pa_cons (pv 4) (pa_cons (pv 5) pa_nil)))))), ?_⟩
  have hS0 := hS
  obtain ⟨dx, a, b, c, d, ds, ca, rl, S, hF⟩ := hS
  refine ⟨_, rfl, p, dx, _, rfl, S.ins, sf_no (by decide), _, rfl, _, rfl, p, x, FF, i, t, o, rfl, hS0, ok, ht, mo1, mo2, fun H1 s1 => ?_⟩
  have g1 : DGet H1 d (.str t.name) (some (.ref (rl i))) := by
    have z := DGet.k (k := .inr t.name) (s1 _ _ S.rows)
    unfold rowsK at z
    rw [valV_idx (f := fun j => .ref (rl j)) x.tabs 0 i t ok.nd ht, Nat.zero_add] at z
    exact z
  obtain ⟨vs, ev, hv⟩ := S.rowAt i t ht
  have lv : vs.length = t.rows.length := hv.length
  have l60 := ok.rows t (List.mem_of_getElem? ht)
  have wsl : ∀ r ∈ t.rows, r.ws.length ≤ 1000 := fun r hr0 => ok.ws t (List.mem_of_getElem? ht) r hr0
  refine ⟨_, rfl, p, C, dx, _, _, rfl, s1 _ _ S.ins, T.cl, T.nR, sf_r, _, rfl, d, _, rfl, g1, rl i, _, rfl, SqL.of (s1 _ _ ev), fun D nD => ?_⟩
  have e1 := s1 _ _ ev
  have r1 : RowsAt K H1 vs t.rows := hv.tups (Tups.of_same s1)
  generalize hm : x.mo o = m at mo1 mo2 q ⊢
  refine lc_it walk_enum (fun k H5 => Same H1 H5 ∧ ∃ us, H5 D = some (.lst us) ∧ DpAll K H5 us ((t.at m k).map rowD)) ⟨new_same nD, [], upd_same, by
      have z : t.at m 0 = [] := rfl
      rw [z]
      exact .nil⟩ (fun k H5 _ h => SqL.of (h.1 _ _ e1)) ?_ ?_
  · rintro k y H5 H6 hk ⟨s5, us, eD, dA⟩ ⟨T0, v1, v2, rfl, nT0, rfl, ei, ex⟩
    cases ei
    have hk : k < vs.length := hk
    have j6 := new_same (o := .tup [.int ((k : Nat) : Int), v2]) nT0
    have s6 := s5.trans j6
    obtain ⟨r, er, hr'⟩ := each_at r1 ex
    obtain ⟨ra, wa, rfl, hra, hwa⟩ := hr'.tups (Tups.of_same s6)
    have eD6 := j6 _ _ eD
    have dA6 := DpAll.same j6 _ dA
    have e6 : upd H5 T0 (.tup [.int ((k : Nat) : Int), .ref ra]) T0 = some (.tup [.int ((k : Nat) : Int), .ref ra]) := upd_same
    generalize upd H5 T0 (.tup [.int ((k : Nat) : Int), .ref ra]) = H6 at s6 hra hwa eD6 dA6 e6 ⊢
    have lu : us.length ≤ k := by
      have z := DpAll.len dA6
      rw [z, List.length_map]
      unfold Tab.at
      refine Nat.le_trans (List.length_filter_le _ _) ?_
      rw [List.length_map, List.length_zipIdx, List.length_take]
      omega
    have no : ∀ G, stands m r ≠ true → Same H6 G → Same H1 G ∧ ∃ us, G D = some (.lst us) ∧ DpAll K G us ((t.at m (k + 1)).map rowD) := fun G z sG => by
      rw [at_succ t m k r er, if_neg z]
      exact ⟨s6.trans sG, us, sG _ _ eD6, DpAll.same sG _ dA6⟩
    refine ⟨T0, _, rfl, SqT.of e6, rfl, _, _, rfl, _, _, rfl, ⟨ra, _, rfl, hra, rfl, _, _, rfl, _, _, rfl, _, _, rfl, rfl, ?_⟩⟩
    have yes : stands m r = true → ∀ q, H6 q = none → ∃ acc, upd H6 q (.tup [.int ((k : Nat) : Int), .ref wa]) D = some (.lst acc) ∧ acc.length < sizeLine ∧ Same H1 (upd (upd H6 q (.tup [.int ((k : Nat) : Int), .ref wa])) D (.lst (acc ++ [.ref q]))) ∧
        ∃ us, upd (upd H6 q (.tup [.int ((k : Nat) : Int), .ref wa])) D (.lst (acc ++ [.ref q])) D = some (.lst us) ∧ DpAll K (upd (upd H6 q (.tup [.int ((k : Nat) : Int), .ref wa])) D (.lst (acc ++ [.ref q]))) us ((t.at m (k + 1)).map rowD) := fun z q nq => by
      have jq := new_same (o := .tup [.int ((k : Nat) : Int), .ref wa]) nq
      have eD7 := jq _ _ eD6
      have dA7 := DpAll.same jq _ dA6
      have hwa7 := Tups.of_same jq _ _ hwa
      have eq7 : upd H6 q (.tup [.int ((k : Nat) : Int), .ref wa]) q = some (.tup [.int ((k : Nat) : Int), .ref wa]) := upd_same
      have s7 := s6.trans jq
      generalize upd H6 q (.tup [.int ((k : Nat) : Int), .ref wa]) = H7 at eD7 dA7 hwa7 eq7 s7 ⊢
      have dr : Dp K H7 (.ref q) (rowD (k, r)) := .tup (SqT.of eq7) (.cons (.int _) (.cons (.tup hwa7 (dp_ints r.ws)) .nil))
      have tp : Tups K H7 (upd H7 D (.lst (us ++ [.ref q]))) := .upd_lst eD7
      refine ⟨us, eD7, by rw [sizeLine_eq]; omega, fun b u e => ?_, us ++ [.ref q], upd_same, ?_⟩
      · rw [upd_ne (ne_of_none e nD)]
        exact s7 _ _ e
      · rw [at_succ t m k r er, if_pos z, List.map_append]
        exact DpAll.snoc (DpAll.tups tp _ (rowDs_only _ (fun p hp => wsl p.2 (at_mem hp))) dA7) (Dp.tups tp _ (rowD_only (wsl r (List.mem_of_getElem? er))) dr)
    refine ⟨rfl, rfl, ?_⟩
    refine ⟨_, rfl, _, rfl, _, _, rfl, rfl, _, rfl, ite2 (fun c1 => ?_) (fun c1 => iteF ?_)⟩
    · have c1 : ((r.put : Nat) : Int) < ((m : Nat) : Int) := by simpa using c1
      have p1 : decide (r.put < m) = true := decide_eq_true (by omega)
      cases ho : r.out with
      | none =>
        refine ⟨_, rfl, rfl, _, rfl, iteT' (decide_eq_true rfl) (iteT ?_)⟩
        exact ⟨_, rfl, _, rfl, (by show 2 ≤ sizeLine; decide), yes (by unfold stands; rw [p1, ho]; rfl)⟩
      | some o2 =>
        refine ⟨_, rfl, rfl, _, rfl, iteF' (by rw [decide_eq_true_eq]; exact fun z => nomatch z) ?_⟩
        refine ⟨_, rfl, _, rfl, _, _, rfl, rfl, _, rfl, ?_⟩
        cases hc : decide (((m : Nat) : Int) ≤ ((o2 : Nat) : Int)) with
        | true =>
          have : m ≤ o2 := by simpa using hc
          refine iteT ?_
          exact ⟨_, rfl, _, rfl, (by show 2 ≤ sizeLine; decide), yes (by unfold stands; rw [p1, ho]; simpa using this)⟩
        | false =>
          have : ¬ m ≤ o2 := by simpa using hc
          exact iteF (no H6 (by unfold stands; rw [p1, ho]; simpa using this) (Same.refl _))
    · have c1 : ¬ ((r.put : Nat) : Int) < ((m : Nat) : Int) := by simpa using c1
      have p1 : decide (r.put < m) = false := decide_eq_false (by omega)
      exact no H6 (by unfold stands; rw [p1]; simp) (Same.refl _)
  · rintro H5 ⟨s5, us, eD, dA⟩
    rw [lv] at dA
    exact q H5 D us (s1.trans s5) (s1.free nD) eD dA
end
end K37t
end

section
set_option Elab.async false
set_option linter.all false
set_option maxRecDepth 100000
set_option maxHeartbeats 4000000
/-! Tables: the methods that change. -/
namespace K37t
open PySem PySem.Spec PyProof.Rows L2 Gd
abbrev sMake : Stmt := inClass (topS 32) 2
theorem scMake : FnScope ["self", "name", "columns"] ["self", "name", "columns"] (defScope sMake) := ⟨rfl, rfl, rfl, by decide +kernel, rfl, by decide +kernel, by decide +kernel⟩
/-- what is not of the footprint stays; what is new to it was free -/
structure After (H : Hp) (F : Addr → Prop) (H' : Hp) (F' : Addr → Prop) : Prop where
  off : ∀ b o, ¬ F b → H b = some o → H' b = some o
  new : ∀ b, F' b → F b ∨ H b = none
theorem colsK_snoc (ts : List Tab) (t : Tab) (ca : Nat → Addr) : colsK (ts ++ [t]) ca = colsK ts ca ++ [(.inr t.name, .ref (ca ts.length))] := by
  unfold colsK
  rw [List.zipIdx_append, List.map_append]
  simp
theorem rowsK_snoc (ts : List Tab) (t : Tab) (rl : Nat → Addr) : rowsK (ts ++ [t]) rl = rowsK ts rl ++ [(.inr t.name, .ref (rl ts.length))] := colsK_snoc ts t rl
theorem colsK_ext {ts : List Tab} {ca cb : Nat → Addr} (h : ∀ i, i < ts.length → ca i = cb i) : colsK ts ca = colsK ts cb := by
  unfold colsK
  refine List.map_congr_left fun p hp => ?_
  have := List.snd_lt_of_mem_zipIdx hp
  rw [h p.2 (by omega)]
theorem putK_new {kvs : List (Key × V)} {k : Key} {v : V} (h : valV kvs k = none) : putK kvs k v = kvs ++ [(k, v)] := by
  unfold putK
  rw [if_neg]
  rw [valV_any, h]
  decide
theorem tups_off {K : PySem.W.Frag} {H H' : Hp} (h : ∀ q o, H q = some o → (∀ kvs, o ≠ .dK kvs) → (∀ xs, o ≠ .lst xs) → (∀ C dx fs, o ≠ .ins C dx fs) → H' q = some o) : Tups K H H' := fun b xs z => by
  rcases z with (z | ⟨o, z⟩) | z
  · exact .inl (.inl (h _ _ z (fun _ y => nomatch y) (fun _ y => nomatch y) (fun _ _ _ y => nomatch y)))
  · exact .inl (.inr ⟨o, h _ _ z (fun _ y => nomatch y) (fun _ y => nomatch y) (fun _ _ _ y => nomatch y)⟩)
  · exact .inr z
def spMake (K : PySem.W.Frag) (C : Addr) : Sp := fun vs H Q _ => ∃ (p ac : Addr) (x : Shelf) (F : Addr → Prop) (n : Str) (cs : List Str), vs = [.ref p, .str n, .ref ac] ∧ ShelfF K C H p x F ∧ ShelfOk x ∧ n ∉ x.tabs.map Tab.name ∧ x.tabs.length < 6 ∧ SqT K H ac (cs.map V.str) ∧
  ∀ H' F', ShelfF K C H' p { x with tabs := x.tabs ++ [⟨n, cs, x.deeds.length, []⟩] } F' → After H F H' F' → Q .non H'
section
variable {P : Program} {w : World} {K : PySem.W.Frag} {mg : Str → Option Value} {base : Heap} {f pS C : Addr} {fd : FuncData}
theorem ok_make (F : Fun K "_make" "Tables._make" sMake f fd) (T : TxtT K mg C) (N : Cs K mg pS) (Ct : Ct mg) : FnOk P w K mg base CX0 1 f fd ["self", "name", "columns"] (spMake K C) := by
  refine F.ok scMake (fun vs H Q E h => ?_) (fun cdv A outer s H vs Q E hr h => ?_)
  · obtain ⟨p, ac, x, F, n, cs, rfl, _⟩ := h
    rfl
  obtain ⟨p, ac, x, FF, n, cs, rfl, hS, ok, hn, h6, hc, q⟩ := h
  have nd := scMake.nd
  have hu := hu_of hr
  obtain ⟨t6, g6⟩ := Ct.tabs
  refine ⟨_, pss_cons (ps_if (pt_cmp (pc_din hu (pv 1) (pe_fld (pv 0) rfl))) pss_never pss_nil)
    (pss_cons (ps_if (pt_cmpR op_eq (pe_callB L2.call_lenD (by rfl) N.len PySem.boot_len (pa_cons (pe_fld (pv 0) rfl) pa_nil)) (pe_glob (v := .int 6) (by rfl) g6 ⟨_, rfl⟩) (nomark _)) pss_never pss_nil)
    (pss_cons (ps_dput hu (pe_fld (pv 0) rfl) (pv 1) (pv 2) rfl)
    (pss_cons (ps_dput hu (pe_fld (pv 0) rfl) (pv 1) (pe_callB call_len_seq (by rfl) N.len PySem.boot_len (pa_cons (pe_fld (pv 0) rfl) pa_nil)) rfl)
    (pss_one (ps_dput hu (pe_fld (pv 0) rfl) (pv 1) (pe_lst pa_nil) rfl))))), ?_⟩
  obtain ⟨dx, a, b, c, d, ds, ca, rl, S, hF⟩ := hS
  have lds : ds.length = x.deeds.length := S.deed.length
  have npb : p ≠ b := ne_of S.ins S.cols (fun z => nomatch z)
  have npc : p ≠ c := ne_of S.ins S.made (fun z => nomatch z)
  have npd : p ≠ d := ne_of S.ins S.rows (fun z => nomatch z)
  have nab : a ≠ b := ne_of S.deeds S.cols (fun z => nomatch z)
  have nac : a ≠ c := ne_of S.deeds S.made (fun z => nomatch z)
  have nad : a ≠ d := ne_of S.deeds S.rows (fun z => nomatch z)
  have g0 : DGet H b (.str n) none := by
    have z := DGet.k (k := .inr n) S.cols
    unfold colsK at z
    rw [valV_idx_no (f := fun j => .ref (ca j)) x.tabs 0 hn] at z
    exact z
  refine ⟨_, rfl, _, rfl, p, C, dx, _, _, rfl, S.ins, T.cl, T.nC, sf_c, b, _, rfl, g0, _, rfl, iteF ?_⟩
  have lcols : (colsK x.tabs ca).length = x.tabs.length := by unfold colsK; rw [List.length_map, List.length_zipIdx]
  have lrows : (rowsK x.tabs rl).length = x.tabs.length := by unfold rowsK; rw [List.length_map, List.length_zipIdx]
  have lmade : (madeK x.tabs).length = x.tabs.length := by unfold madeK; rw [List.length_map]
  refine ⟨_, rfl, p, C, dx, _, _, rfl, S.ins, T.cl, T.nC, sf_c, b, _, rfl, S.cols, rfl, _, rfl, iteF' (by rw [decide_eq_true_eq, lcols]; intro z; have := V.int.inj z; omega) ?_⟩
  -- columns
  refine ⟨_, rfl, _, rfl, p, C, dx, _, _, rfl, S.ins, T.cl, T.nC, sf_c, _, rfl, b, _, rfl, DPut.k (k := .inr n) S.cols (by rw [lcols, sizeLine_eq]; omega), ?_⟩
  have pc : putK (colsK x.tabs ca) (.inr n) (.ref ac) = colsK (x.tabs ++ [⟨n, cs, x.deeds.length, []⟩]) (fun i => if i = x.tabs.length then ac else ca i) := by
    rw [putK_new (kvs := colsK x.tabs ca) (valV_idx_no (f := fun j => .ref (ca j)) x.tabs 0 hn), colsK_snoc]
    show _ = _ ++ [((.inr n : Key), V.ref (if x.tabs.length = x.tabs.length then ac else ca x.tabs.length))]
    rw [if_pos rfl]
    congr 1
    exact colsK_ext fun i hi => by rw [if_neg (by omega)]
  have b1 : upd H b (.dK (putK (colsK x.tabs ca) (.inr n) (.ref ac))) b = some (.dK (colsK (x.tabs ++ [⟨n, cs, x.deeds.length, []⟩]) (fun i => if i = x.tabs.length then ac else ca i))) := by rw [upd_same, pc]
  have k1 : ∀ q, q ≠ b → upd H b (.dK (putK (colsK x.tabs ca) (.inr n) (.ref ac))) q = H q := fun q nq => upd_ne nq
  generalize upd H b (.dK (putK (colsK x.tabs ca) (.inr n) (.ref ac))) = H1 at b1 k1 ⊢
  -- made
  have i1 : H1 p = some (.ins C dx (sf a b c d)) := (k1 p npb).trans S.ins
  have c1 : H1 c = some (.dK (madeK x.tabs)) := (k1 c S.bc.symm).trans S.made
  refine ⟨_, rfl, p, C, dx, _, _, rfl, i1, T.cl, T.nD, sf_d, a, _, rfl, .inl (SqL.of ((k1 a nab).trans S.deeds)), _, rfl, p, C, dx, _, _, rfl, i1, T.cl, T.nM, sf_m, _, rfl, c, _, rfl, DPut.k (k := .inr n) c1 (by rw [lmade, sizeLine_eq]; omega), ?_⟩
  have pm : putK (madeK x.tabs) (.inr n) (.int ((ds.length : Nat) : Int)) = madeK (x.tabs ++ [⟨n, cs, x.deeds.length, []⟩]) := by
    rw [putK_new (valV_made_no x.tabs hn), lds]
    unfold madeK
    rw [List.map_append]
    rfl
  have c2 : upd H1 c (.dK (putK (madeK x.tabs) (.inr n) (.int ((ds.length : Nat) : Int)))) c = some (.dK (madeK (x.tabs ++ [⟨n, cs, x.deeds.length, []⟩]))) := by rw [upd_same, pm]
  have k2 : ∀ q, q ≠ c → upd H1 c (.dK (putK (madeK x.tabs) (.inr n) (.int ((ds.length : Nat) : Int)))) q = H1 q := fun q nq => upd_ne nq
  generalize upd H1 c (.dK (putK (madeK x.tabs) (.inr n) (.int ((ds.length : Nat) : Int)))) = H2 at c2 k2 ⊢
  -- rows
  refine ⟨Nat.zero_le _, fun l nl => ?_⟩
  have i2 : H2 p = some (.ins C dx (sf a b c d)) := (k2 p npc).trans i1
  have d2 : H2 d = some (.dK (rowsK x.tabs rl)) := (k2 d S.cd.symm).trans ((k1 d S.bd.symm).trans S.rows)
  have b2 := (k2 b S.bc).trans b1
  have npl : p ≠ l := ne_of_none i2 nl
  have ndl : d ≠ l := ne_of_none d2 nl
  have nbl : b ≠ l := ne_of_none b2 nl
  have ncl : c ≠ l := ne_of_none c2 nl
  have nl0 : H l = none := by
    rw [← k1 l nbl.symm, ← k2 l ncl.symm]
    exact nl
  have d3 : upd H2 l (.lst []) d = some (.dK (rowsK x.tabs rl)) := (upd_ne ndl).trans d2
  refine ⟨_, rfl, p, C, dx, _, _, rfl, (upd_ne npl).trans i2, T.cl, T.nR, sf_r, _, rfl, d, _, rfl, DPut.k (k := .inr n) d3 (by rw [lrows, sizeLine_eq]; omega), ?_⟩
  have pr : putK (rowsK x.tabs rl) (.inr n) (.ref l) = rowsK (x.tabs ++ [⟨n, cs, x.deeds.length, []⟩]) (fun i => if i = x.tabs.length then l else rl i) := by
    rw [putK_new (kvs := rowsK x.tabs rl) (valV_idx_no (f := fun j => .ref (rl j)) x.tabs 0 hn), rowsK_snoc]
    show _ = _ ++ [((.inr n : Key), V.ref (if x.tabs.length = x.tabs.length then l else rl x.tabs.length))]
    rw [if_pos rfl]
    congr 1
    exact colsK_ext (ca := rl) (cb := fun i => if i = x.tabs.length then l else rl i) fun i hi => by rw [if_neg (by omega)]
  rw [pr]
  obtain ⟨H4, eH4⟩ : ∃ H4, H4 = upd (upd H2 l (.lst [])) d (.dK (rowsK (x.tabs ++ [⟨n, cs, x.deeds.length, []⟩]) (fun i => if i = x.tabs.length then l else rl i))) := ⟨_, rfl⟩
  rw [← eH4]
  have k4 : ∀ q, q ≠ b → q ≠ c → q ≠ d → q ≠ l → H4 q = H q := fun q q1 q2 q3 q4 => by rw [eH4, upd_ne q3, upd_ne q4, k2 q q2, k1 q q1]
  have tp : Tups K H H4 := tups_off fun q o e n1 n2 n3 => by
    rw [k4 q (fun z => n1 _ (by rw [z, S.cols] at e; exact (Option.some.inj e).symm)) (fun z => n1 _ (by rw [z, S.made] at e; exact (Option.some.inj e).symm)) (fun z => n1 _ (by rw [z, S.rows] at e; exact (Option.some.inj e).symm)) (ne_of_none e nl0)]
    exact e
  have nal : a ≠ l := ne_of_none S.deeds nl0
  have rlk : ∀ i, i < x.tabs.length → rl i ≠ l ∧ H4 (rl i) = H (rl i) := fun i hi => by
    obtain ⟨vs, e, _⟩ := S.rowAt i _ (List.getElem?_eq_getElem hi)
    have z := ne_of_none e nl0
    exact ⟨z, k4 _ (ne_of e S.cols (fun z => nomatch z)) (ne_of e S.made (fun z => nomatch z)) (ne_of e S.rows (fun z => nomatch z)) z⟩
  have split : ∀ i t, (x.tabs ++ [⟨n, cs, x.deeds.length, []⟩])[i]? = some t → (i < x.tabs.length ∧ x.tabs[i]? = some t) ∨ (i = x.tabs.length ∧ t = ⟨n, cs, x.deeds.length, []⟩) := fun i t e => by
    by_cases hi : i < x.tabs.length
    · rw [List.getElem?_append_left hi] at e
      exact .inl ⟨hi, e⟩
    · rw [List.getElem?_append_right (by omega)] at e
      have z : i - x.tabs.length = 0 := by
        have := (List.getElem?_eq_some_iff.mp e).1
        simp at this
        omega
      rw [z] at e
      exact .inr ⟨by omega, (by simpa using e.symm)⟩
  refine q H4 (foot p a b c d (x.tabs.length + 1) (fun i => if i = x.tabs.length then l else rl i)) ⟨dx, a, b, c, d, ds, (fun i => if i = x.tabs.length then ac else ca i), (fun i => if i = x.tabs.length then l else rl i), ⟨?_, ?_, S.deed.mono fun v e ⟨t, h1, h2⟩ => ⟨t, h1, h2.tups tp⟩, ?_, fun i t e => ?_, ?_, ?_, fun i t e => ?_, S.bc, S.bd, S.cd, fun i j hi hj e => ?_, fun i hi => ?_⟩, fun r => by rw [List.length_append]; exact Iff.rfl⟩ ⟨fun r o nf e => ?_, fun r hr' => ?_⟩
  · rw [eH4, upd_ne npd, upd_ne npl]
    exact i2
  · rw [k4 a nab nac nad nal]
    exact S.deeds
  · rw [eH4, upd_ne S.bd, upd_ne nbl]
    exact b2
  · rcases split i t e with ⟨hi, e⟩ | ⟨rfl, rfl⟩
    · rw [if_neg (by omega)]
      exact tp _ _ (S.colAt i t e)
    · rw [if_pos rfl]
      exact tp _ _ hc
  · rw [eH4, upd_ne S.cd, upd_ne ncl]
    exact c2
  · rw [eH4, upd_same]
  · rcases split i t e with ⟨hi, e⟩ | ⟨rfl, rfl⟩
    · rw [if_neg (by omega)]
      obtain ⟨vs, e1, e2⟩ := S.rowAt i t e
      exact ⟨vs, (rlk i hi).2.trans e1, e2.tups tp⟩
    · rw [if_pos rfl]
      exact ⟨[], by rw [eH4, upd_ne ndl.symm, upd_same], .nil⟩
  · have hi : i < x.tabs.length + 1 := by simpa using hi
    have hj : j < x.tabs.length + 1 := by simpa using hj
    by_cases zi : i = x.tabs.length
    · by_cases zj : j = x.tabs.length
      · omega
      · rw [if_pos zi, if_neg zj] at e
        exact absurd e.symm (rlk j (by omega)).1
    · by_cases zj : j = x.tabs.length
      · rw [if_neg zi, if_pos zj] at e
        exact absurd e (rlk i (by omega)).1
      · rw [if_neg zi, if_neg zj] at e
        exact S.apart i j (by omega) (by omega) e
  · have hi : i < x.tabs.length + 1 := by simpa using hi
    by_cases zi : i = x.tabs.length
    · rw [if_pos zi]
      exact nal.symm
    · rw [if_neg zi]
      exact S.offA i (by omega)
  · have nf : ¬ foot p a b c d x.tabs.length rl r := fun z => nf ((hF r).mpr z)
    unfold foot at nf
    simp only [not_or] at nf
    rw [k4 r nf.2.2.1 nf.2.2.2.1 nf.2.2.2.2.1 (ne_of_none e nl0)]
    exact e
  · rw [hF]
    rcases hr' with z | z | z | z | z | ⟨i, hi, z⟩
    · exact .inl (.inl z)
    · exact .inl (.inr (.inl z))
    · exact .inl (.inr (.inr (.inl z)))
    · exact .inl (.inr (.inr (.inr (.inl z))))
    · exact .inl (.inr (.inr (.inr (.inr (.inl z)))))
    · dsimp only at z
      by_cases zi : i = x.tabs.length
      · rw [if_pos zi] at z
        rw [z]
        exact .inr nl0
      · rw [if_neg zi] at z
        exact .inl (.inr (.inr (.inr (.inr (.inr ⟨i, by omega, z⟩)))))
end
end K37t
end

section
set_option Elab.async false
set_option linter.all false
set_option maxRecDepth 100000
set_option maxHeartbeats 4000000
/-! Tables: a row put, a row taken out. -/
namespace K37t
open PySem PySem.Spec PyProof.Rows L2 Gd
abbrev sPut : Stmt := inClass (topS 32) 3
abbrev sOut : Stmt := inClass (topS 32) 4
abbrev nPut : List Str := ["self", "name", "worths", "number"]
theorem scPut : FnScope nPut ["self", "name", "worths"] (defScope sPut) := ⟨rfl, rfl, rfl, by decide +kernel, rfl, by decide +kernel, by decide +kernel⟩
abbrev nOut : List Str := ["self", "name", "number", "worths", "put", "out"]
theorem scOut : FnScope nOut ["self", "name", "number"] (defScope sOut) := ⟨rfl, rfl, rfl, by decide +kernel, rfl, by decide +kernel, by decide +kernel⟩
/-- the rows of one table changed -/
def Shelf.onRows (x : Shelf) (n : Str) (g : List Rw → List Rw) : Shelf := { x with tabs := x.tabs.map (onTab n fun t => { t with rows := g t.rows }) }
theorem onTab_same (n : Str) (g : List Rw → List Rw) (t : Tab) : (onTab n (fun t => { t with rows := g t.rows }) t).name = t.name ∧ (onTab n (fun t => { t with rows := g t.rows }) t).cols = t.cols ∧ (onTab n (fun t => { t with rows := g t.rows }) t).made = t.made := by
  unfold onTab
  split
  · exact ⟨rfl, rfl, rfl⟩
  · exact ⟨rfl, rfl, rfl⟩
theorem colsK_on (n : Str) (g : List Rw → List Rw) (ts : List Tab) (ca : Nat → Addr) : colsK (ts.map (onTab n fun t => { t with rows := g t.rows })) ca = colsK ts ca := by
  unfold colsK
  rw [List.zipIdx_map, List.map_map]
  refine List.map_congr_left fun p _ => ?_
  show ((.inr (onTab n _ p.1).name : Key), _) = _
  rw [(onTab_same n g p.1).1]
  rfl
theorem madeK_on (n : Str) (g : List Rw → List Rw) (ts : List Tab) : madeK (ts.map (onTab n fun t => { t with rows := g t.rows })) = madeK ts := by
  unfold madeK
  rw [List.map_map]
  refine List.map_congr_left fun t _ => ?_
  show ((.inr (onTab n _ t).name : Key), V.int ((onTab n _ t).made : Nat)) = _
  rw [(onTab_same n g t).1, (onTab_same n g t).2.2]
theorem name_inj {ts : List Tab} (nd : (ts.map Tab.name).Nodup) {i j : Nat} {t u : Tab} (hi : ts[i]? = some t) (hj : ts[j]? = some u) (e : t.name = u.name) : i = j := by
  obtain ⟨li, ei⟩ := List.getElem?_eq_some_iff.mp hi
  obtain ⟨lj, ej⟩ := List.getElem?_eq_some_iff.mp hj
  have := (List.getElem_inj (i := i) (j := j) (h₀ := by rw [List.length_map]; exact li) (h₁ := by rw [List.length_map]; exact lj) nd).mp (by rw [List.getElem_map, List.getElem_map, ei, ej, e])
  exact this
section
variable {K : PySem.W.Frag} {C : Addr} {H H' : Hp} {p dx a b c d : Addr} {x : Shelf} {ds : List V} {ca rl : Nat → Addr}
theorem ShelfAt.change (S : ShelfAt K C H p x dx a b c d ds ca rl) (nd : (x.tabs.map Tab.name).Nodup) {i : Nat} {t : Tab} (ht : x.tabs[i]? = some t) (g : List Rw → List Rw) {vs' : List V} (e1 : H' (rl i) = some (.lst vs')) (e2 : RowsAt K H' vs' (g t.rows))
    (k : ∀ q o, q ≠ rl i → H q = some o → H' q = some o) : ShelfAt K C H' p (x.onRows t.name g) dx a b c d ds ca rl := by
  have li : i < x.tabs.length := (List.getElem?_eq_some_iff.mp ht).1
  obtain ⟨vs, ev, hv⟩ := S.rowAt i t ht
  have tp : Tups K H H' := by
    intro q ys z
    have ne : ∀ {o : HO}, H q = some o → (∀ xs, o ≠ .lst xs) → q ≠ rl i := fun z1 n e => by
      rw [e, ev] at z1
      exact n _ (Option.some.inj z1).symm
    rcases z with (z | ⟨o, z⟩) | z
    · exact .inl (.inl (k _ _ (ne z (fun _ y => nomatch y)) z))
    · exact .inl (.inr ⟨o, k _ _ (ne z (fun _ y => nomatch y)) z⟩)
    · exact .inr z
  have nm : ∀ (j : Nat) (u : Tab), (x.onRows t.name g).tabs[j]? = some u → ∃ t0, x.tabs[j]? = some t0 ∧ u = onTab t.name (fun t => { t with rows := g t.rows }) t0 := fun j u e => by
    have e : (x.tabs.map (onTab t.name fun t => { t with rows := g t.rows }))[j]? = some u := e
    rw [List.getElem?_map, Option.map_eq_some_iff] at e
    obtain ⟨t0, z, rfl⟩ := e
    exact ⟨t0, z, rfl⟩
  have ln : (x.onRows t.name g).tabs.length = x.tabs.length := List.length_map _
  refine ⟨k _ _ (ne_of S.ins ev (fun z => nomatch z)) S.ins, k _ _ (S.offA i li).symm S.deeds, S.deed.mono fun v e ⟨q, h1, h2⟩ => ⟨q, h1, h2.tups tp⟩, ?_, fun j u e => ?_, ?_, ?_, fun j u e => ?_, S.bc, S.bd, S.cd, fun j1 j2 h1 h2 e => S.apart j1 j2 (by rw [← ln]; exact h1) (by rw [← ln]; exact h2) e, fun j hj => S.offA j (by rw [← ln]; exact hj)⟩
  · rw [show colsK (x.onRows t.name g).tabs ca = colsK x.tabs ca from colsK_on _ _ _ _]
    exact k _ _ (ne_of S.cols ev (fun z => nomatch z)) S.cols
  · obtain ⟨t0, z, rfl⟩ := nm j u e
    rw [(onTab_same t.name g t0).2.1]
    exact tp _ _ (S.colAt j t0 z)
  · rw [show madeK (x.onRows t.name g).tabs = madeK x.tabs from madeK_on _ _ _]
    exact k _ _ (ne_of S.made ev (fun z => nomatch z)) S.made
  · rw [show rowsK (x.onRows t.name g).tabs rl = rowsK x.tabs rl from colsK_on _ _ _ _]
    exact k _ _ (ne_of S.rows ev (fun z => nomatch z)) S.rows
  · obtain ⟨t0, z, rfl⟩ := nm j u e
    by_cases ij : j = i
    · subst ij
      rw [ht] at z
      cases z
      refine ⟨vs', e1, ?_⟩
      unfold onTab
      rw [if_pos rfl]
      exact e2
    · have lj : j < x.tabs.length := (List.getElem?_eq_some_iff.mp z).1
      obtain ⟨ws, f1, f2⟩ := S.rowAt j t0 z
      refine ⟨ws, k _ _ (fun y => ij (S.apart j i lj li y)) f1, ?_⟩
      unfold onTab
      rw [if_neg (fun y => ij (name_inj nd z ht y))]
      exact f2.tups tp
end
theorem each_snoc {α β : Type} {R : α → β → Prop} : ∀ {as : List α} {bs : List β} {a : α} {b : β}, PySem.W.EachIs R as bs → R a b → PySem.W.EachIs R (as ++ [a]) (bs ++ [b])
  | _, _, _, _, .nil, h => .cons h .nil
  | _, _, _, _, .cons h t, k => .cons h (each_snoc t k)
def spPut (K : PySem.W.Frag) (C : Addr) : Sp := fun vs H Q _ => ∃ (p aw : Addr) (x : Shelf) (F : Addr → Prop) (i : Nat) (t : Tab) (ws : List Int), vs = [.ref p, .str t.name, .ref aw] ∧ ShelfF K C H p x F ∧ ShelfOk x ∧ x.tabs[i]? = some t ∧ t.rows.length < 60 ∧ SqT K H aw (ws.map V.int) ∧ ws.length = t.cols.length ∧
  ∀ H', ShelfF K C H' p (x.onRows t.name fun rs => rs ++ [⟨ws, x.deeds.length, none⟩]) F → After H F H' F → Q (.int t.rows.length) H'
section
variable {P : Program} {w : World} {K : PySem.W.Frag} {mg : Str → Option Value} {base : Heap} {f pS C : Addr} {fd : FuncData}
theorem ok_put (F : Fun K "_put" "Tables._put" sPut f fd) (T : TxtT K mg C) (N : Cs K mg pS) (Ct : Ct mg) : FnOk P w K mg base CX0 1 f fd ["self", "name", "worths"] (spPut K C) := by
  refine F.ok scPut (fun vs H Q E h => ?_) (fun cdv A outer s H vs Q E hr h => ?_)
  · obtain ⟨p, ac, x, F, i, t, cs, rfl, _⟩ := h
    rfl
  obtain ⟨p, aw, x, FF, i, t, ws, rfl, hS, ok, ht, h60, hw, hl, q⟩ := h
  have nd := scPut.nd
  have hu := hu_of hr
  obtain ⟨t6, g6⟩ := Ct.rows
  refine ⟨_, pss_cons (ps_if (pt_cmp (pc_dnotin hu (pv 1) (pe_fld (pv 0) rfl))) pss_never pss_nil)
    (pss_cons (ps_set (i := 3) nd rfl (.inl rfl) (pe_callB call_len_seq (by rfl) N.len PySem.boot_len (pa_cons (pe_dget hu (pe_fld (pv 0) rfl) (pv 1) (fun _ _ => rfl)) pa_nil)))
    (pss_cons (ps_if (pt_cmpR op_eq (pv 3) (pe_glob (v := .int 60) (by rfl) g6 ⟨_, rfl⟩) (nomark _)) pss_never pss_nil)
    (pss_cons (ps_if (pt_cmpR op_ne (pe_callB call_len_seq (by rfl) N.len PySem.boot_len (pa_cons (pv 2) pa_nil)) (pe_callB call_len_seq (by rfl) N.len PySem.boot_len (pa_cons (pe_dget hu (pe_fld (pv 0) rfl) (pv 1) (fun _ _ => rfl)) pa_nil)) (nomark _)) pss_never pss_nil)
    (pss_cons (ps_expr (pe_bm PySem.F.plainAttrs_list PySem.F.slot_list_append PySem.F.type_list_append mt_append (pe_dget hu (pe_fld (pv 0) rfl) (pv 1) (fun _ _ => rfl)) (pa_cons (pe_tup (pa_cons (pv 2) (pa_cons (pe_callB call_len_seq (by rfl) N.len PySem.boot_len (pa_cons (pe_fld (pv 0) rfl) pa_nil)) (pa_cons pe_non pa_nil)))) pa_nil)))
    (pss_one (ps_ret (pv 3))))))), ?_⟩
  obtain ⟨dx, a, b, c, d, ds, ca, rl, S, hF⟩ := hS
  have lds : ds.length = x.deeds.length := S.deed.length
  have li : i < x.tabs.length := (List.getElem?_eq_some_iff.mp ht).1
  have gc : ∀ {G : Hp}, Same H G → DGet G b (.str t.name) (some (.ref (ca i))) := fun s1 => by
    have z := DGet.k (k := .inr t.name) (s1 _ _ S.cols)
    unfold colsK at z
    rw [valV_idx (f := fun j => .ref (ca j)) x.tabs 0 i t ok.nd ht, Nat.zero_add] at z
    exact z
  have gr : ∀ {G : Hp}, Same H G → DGet G d (.str t.name) (some (.ref (rl i))) := fun s1 => by
    have z := DGet.k (k := .inr t.name) (s1 _ _ S.rows)
    unfold rowsK at z
    rw [valV_idx (f := fun j => .ref (rl j)) x.tabs 0 i t ok.nd ht, Nat.zero_add] at z
    exact z
  obtain ⟨vs, ev, hv⟩ := S.rowAt i t ht
  have lv : vs.length = t.rows.length := hv.length
  have s0 := Same.refl H
  refine ⟨_, rfl, _, rfl, p, C, dx, _, _, rfl, S.ins, T.cl, T.nC, sf_c, b, _, rfl, gc s0, _, rfl, iteF ?_⟩
  refine ⟨_, rfl, p, C, dx, _, _, rfl, S.ins, T.cl, T.nR, sf_r, _, rfl, d, _, rfl, gr s0, rl i, _, rfl, .inl (SqL.of ev), ?_⟩
  refine ⟨_, rfl, rfl, _, rfl, iteF' (by rw [decide_eq_true_eq, lv]; intro z; have := V.int.inj z; omega) ?_⟩
  refine ⟨_, rfl, aw, _, rfl, .inr hw, _, rfl, p, C, dx, _, _, rfl, S.ins, T.cl, T.nC, sf_c, _, rfl, b, _, rfl, gc s0, ca i, _, rfl, .inr (S.colAt i t ht), rfl, _, rfl, iteF' (by rw [List.length_map, List.length_map, hl]; simp) ?_⟩
  refine ⟨_, rfl, p, C, dx, _, _, rfl, S.ins, T.cl, T.nR, sf_r, _, rfl, d, _, rfl, gr s0, .inl ⟨rfl, _, SqL.of ev⟩, _, rfl, _, rfl, p, C, dx, _, _, rfl, S.ins, T.cl, T.nD, sf_d, a, _, rfl, .inl (SqL.of S.deeds), (by show 3 ≤ sizeLine; decide), fun r nr => ?_⟩
  have jr := new_same (o := .tup [.ref aw, .int ((ds.length : Nat) : Int), .non]) nr
  have er : upd H r (.tup [.ref aw, .int ((ds.length : Nat) : Int), .non]) r = some (.tup [.ref aw, .int ((ds.length : Nat) : Int), .non]) := upd_same
  generalize upd H r (.tup [.ref aw, .int ((ds.length : Nat) : Int), .non]) = H1 at jr er ⊢
  have ev1 := jr _ _ ev
  refine ⟨rl i, vs, _, rfl, rfl, ev1, by rw [lv, sizeLine_eq]; omega, _, rfl, ?_⟩
  rw [lv]
  have kk : ∀ q o, q ≠ rl i → H q = some o → upd H1 (rl i) (.lst (vs ++ [.ref r])) q = some o := fun q o ne e => by
    rw [upd_ne ne]
    exact jr _ _ e
  have tp1 : Tups K H1 (upd H1 (rl i) (.lst (vs ++ [.ref r]))) := .upd_lst ev1
  have hv2 : RowsAt K (upd H1 (rl i) (.lst (vs ++ [.ref r]))) (vs ++ [.ref r]) (t.rows ++ [⟨ws, x.deeds.length, none⟩]) := by
    refine each_snoc ((RowsAt.tups (Tups.of_same jr) hv).tups tp1) ⟨r, aw, rfl, tp1 _ _ (SqT.of ?_), tp1 _ _ (Tups.of_same jr _ _ hw)⟩
    rw [er, lds]
    rfl
  refine q _ ⟨dx, a, b, c, d, ds, ca, rl, S.change ok.nd ht (fun rs => rs ++ [⟨ws, x.deeds.length, none⟩]) upd_same hv2 kk, fun y => ?_⟩ ⟨fun y o nf e => kk y o (fun z => nf ((hF y).mpr (.inr (.inr (.inr (.inr (.inr ⟨i, li, z⟩))))))) e, fun y hy => .inl hy⟩
  rw [hF, show (x.onRows t.name fun rs => rs ++ [⟨ws, x.deeds.length, none⟩]).tabs.length = x.tabs.length from List.length_map _]
end
end K37t
end

section
set_option Elab.async false
set_option linter.all false
set_option maxRecDepth 100000
set_option maxHeartbeats 4000000
/-! Tables: a row taken out. -/
namespace K37t
open PySem PySem.Spec PyProof.Rows L2 Gd
theorem each_set {α β : Type} {R : α → β → Prop} {a : α} {b : β} (k : R a b) : ∀ {as : List α} {bs : List β} (i : Nat), PySem.W.EachIs R as bs → PySem.W.EachIs R (as.set i a) (bs.set i b)
  | _, _, _, .nil => .nil
  | _, _, 0, .cons _ t => .cons k t
  | _, _, i + 1, .cons h t => .cons h (each_set k i t)
theorem each_get {α β : Type} {R : α → β → Prop} : ∀ {as : List α} {bs : List β} {i : Nat} {b : β}, PySem.W.EachIs R as bs → bs[i]? = some b → ∃ a, as[i]? = some a ∧ R a b
  | _, _, _, _, .nil, h => by simp at h
  | _, _, 0, _, .cons (a := a) h _, e => by
    cases (show some _ = some _ from e)
    exact ⟨a, rfl, h⟩
  | _, _, i + 1, _, .cons _ t, e => each_get t (i := i) (by simpa using e)
def spOut (K : PySem.W.Frag) (C : Addr) : Sp := fun vs H Q _ => ∃ (p : Addr) (x : Shelf) (F : Addr → Prop) (i : Nat) (t : Tab) (k : Nat) (r : Rw), vs = [.ref p, .str t.name, .int k] ∧ ShelfF K C H p x F ∧ ShelfOk x ∧ x.tabs[i]? = some t ∧ t.rows[k]? = some r ∧ r.out = none ∧
  ∀ H', ShelfF K C H' p (x.onRows t.name fun rs => rs.set k ⟨r.ws, r.put, some x.deeds.length⟩) F → After H F H' F → Q .non H'
section
variable {P : Program} {w : World} {K : PySem.W.Frag} {mg : Str → Option Value} {base : Heap} {f pS C : Addr} {fd : FuncData}
theorem ok_out (F : Fun K "_take_out" "Tables._take_out" sOut f fd) (T : TxtT K mg C) (N : Cs K mg pS) : FnOk P w K mg base CX0 1 f fd ["self", "name", "number"] (spOut K C) := by
  refine F.ok scOut (fun vs H Q E h => ?_) (fun cdv A outer s H vs Q E hr h => ?_)
  · obtain ⟨p, x, F, i, t, k, r, rfl, _⟩ := h
    rfl
  obtain ⟨p, x, FF, i, t, k, r, rfl, hS, ok, ht, hk, ho, q⟩ := h
  have nd := scOut.nd
  have hu := hu_of hr
  refine ⟨_, pss_cons (ps_if (pt_cmp (pc_dnotin hu (pv 1) (pe_fld (pv 0) rfl))) pss_never pss_nil)
    (pss_cons (ps_if (pt_cmpR op_ge (pv 2) (pe_callB call_len_seq (by rfl) N.len PySem.boot_len (pa_cons (pe_dget hu (pe_fld (pv 0) rfl) (pv 1) (fun _ _ => rfl)) pa_nil)) (nomark _)) pss_never pss_nil)
    (pss_cons (ps_asg (pe_ix ix_list (pe_dget hu (pe_fld (pv 0) rfl) (pv 1) (fun _ _ => rfl)) (pv 2) (fun _ _ => rfl)) (pg_tup (n := 3) rfl (pgs_cons (pg_name (i := 3) nd rfl (.inl rfl)) (pgs_cons (pg_name (i := 4) nd rfl (.inl rfl)) (pgs_cons (pg_name (i := 5) nd rfl (.inl rfl)) pgs_nil)))))
    (pss_cons (ps_if (pt_cmpR op_notN (pv 5) pe_non (nomark _)) pss_never pss_nil)
    (pss_one (ps_asg (pe_tup (pa_cons (pv 3) (pa_cons (pv 4) (pa_cons (pe_callB call_len_seq (by rfl) N.len PySem.boot_len (pa_cons (pe_fld (pv 0) rfl) pa_nil)) pa_nil)))) (pg_sub (pe_dget hu (pe_fld (pv 0) rfl) (pv 1) (fun _ _ => rfl)) (pv 2) set_list)))))), ?_⟩
  obtain ⟨dx, a, b, c, d, ds, ca, rl, S, hF⟩ := hS
  have lds : ds.length = x.deeds.length := S.deed.length
  have li : i < x.tabs.length := (List.getElem?_eq_some_iff.mp ht).1
  have gc : ∀ {G : Hp}, Same H G → DGet G b (.str t.name) (some (.ref (ca i))) := fun s1 => by
    have z := DGet.k (k := .inr t.name) (s1 _ _ S.cols)
    unfold colsK at z
    rw [valV_idx (f := fun j => .ref (ca j)) x.tabs 0 i t ok.nd ht, Nat.zero_add] at z
    exact z
  have gr : ∀ {G : Hp}, Same H G → DGet G d (.str t.name) (some (.ref (rl i))) := fun s1 => by
    have z := DGet.k (k := .inr t.name) (s1 _ _ S.rows)
    unfold rowsK at z
    rw [valV_idx (f := fun j => .ref (rl j)) x.tabs 0 i t ok.nd ht, Nat.zero_add] at z
    exact z
  obtain ⟨vs, ev, hv⟩ := S.rowAt i t ht
  have lv : vs.length = t.rows.length := hv.length
  have lk : k < t.rows.length := (List.getElem?_eq_some_iff.mp hk).1
  have s0 := Same.refl H
  obtain ⟨v0, hv0, ra, wa, rfl, hra, hwa⟩ := each_get hv hk
  refine ⟨_, rfl, _, rfl, p, C, dx, _, _, rfl, S.ins, T.cl, T.nC, sf_c, b, _, rfl, gc s0, _, rfl, iteF ?_⟩
  refine ⟨_, rfl, _, rfl, p, C, dx, _, _, rfl, S.ins, T.cl, T.nR, sf_r, _, rfl, d, _, rfl, gr s0, rl i, _, rfl, .inl (SqL.of ev), _, _, rfl, rfl, _, rfl, iteF' (by rw [decide_eq_true_eq, lv]; omega) ?_⟩
  refine ⟨_, rfl, p, C, dx, _, _, rfl, S.ins, T.cl, T.nR, sf_r, _, rfl, d, _, rfl, gr s0, _, rfl, rl i, vs, _, .ref ra, rfl, rfl, SqL.of ev, atI_nat hv0, ra, _, rfl, hra, rfl, _, _, rfl, _, _, rfl, _, _, rfl, rfl, ?_⟩
  rw [ho]
  refine ⟨_, rfl, rfl, _, rfl, iteF' (by show ¬ (!decide (V.non = V.non)) = true; simp) ?_⟩
  refine ⟨_, rfl, _, rfl, _, rfl, p, C, dx, _, _, rfl, S.ins, T.cl, T.nD, sf_d, a, _, rfl, .inl (SqL.of S.deeds), (by show 3 ≤ sizeLine; decide), fun r2 nr => ?_⟩
  have jr := new_same (o := .tup [.ref wa, .int ((r.put : Nat) : Int), .int ((ds.length : Nat) : Int)]) nr
  have er : upd H r2 (.tup [.ref wa, .int ((r.put : Nat) : Int), .int ((ds.length : Nat) : Int)]) r2 = some (.tup [.ref wa, .int ((r.put : Nat) : Int), .int ((ds.length : Nat) : Int)]) := upd_same
  generalize upd H r2 (.tup [.ref wa, .int ((r.put : Nat) : Int), .int ((ds.length : Nat) : Int)]) = H1 at jr er ⊢
  have ev1 := jr _ _ ev
  refine ⟨_, rfl, p, C, dx, _, _, rfl, jr _ _ S.ins, T.cl, T.nR, sf_r, _, rfl, d, _, rfl, gr jr, _, rfl, rl i, vs, _, k, rfl, rfl, ev1, (by unfold ixN; rw [if_pos (by omega), if_pos (by omega)]; simp), ?_⟩
  have kk : ∀ q o, q ≠ rl i → H q = some o → upd H1 (rl i) (.lst (vs.set k (.ref r2))) q = some o := fun q o ne e => by
    rw [upd_ne ne]
    exact jr _ _ e
  have tp1 : Tups K H1 (upd H1 (rl i) (.lst (vs.set k (.ref r2)))) := .upd_lst ev1
  have hv2 : RowsAt K (upd H1 (rl i) (.lst (vs.set k (.ref r2)))) (vs.set k (.ref r2)) (t.rows.set k ⟨r.ws, r.put, some x.deeds.length⟩) := by
    refine each_set ⟨r2, wa, rfl, tp1 _ _ (SqT.of ?_), tp1 _ _ (Tups.of_same jr _ _ hwa)⟩ k ((RowsAt.tups (Tups.of_same jr) hv).tups tp1)
    rw [er, lds]
    rfl
  refine q _ ⟨dx, a, b, c, d, ds, ca, rl, S.change ok.nd ht (fun rs => rs.set k ⟨r.ws, r.put, some x.deeds.length⟩) upd_same hv2 kk, fun y => ?_⟩ ⟨fun y o nf e => kk y o (fun z => nf ((hF y).mpr (.inr (.inr (.inr (.inr (.inr ⟨i, li, z⟩))))))) e, fun y hy => .inl hy⟩
  rw [hF, show (x.onRows t.name fun rs => rs.set k ⟨r.ws, r.put, some x.deeds.length⟩).tabs.length = x.tabs.length from List.length_map _]
end
end K37t
end

section
set_option Elab.async false
set_option linter.all false
set_option maxRecDepth 100000
set_option maxHeartbeats 4000000
/-! Tables: a deed done. -/
namespace K37t
open PySem PySem.Spec PyProof.Rows L2 Gd
abbrev sDo : Stmt := inClass (topS 32) 1
abbrev nDo : List Str := ["self", "deed", "word", "name", "what", "number"]
theorem scDo : FnScope nDo ["self", "deed"] (defScope sDo) := ⟨rfl, rfl, rfl, by decide +kernel, rfl, by decide +kernel, by decide +kernel⟩
/-- a deed that can be done, and what stands behind it but for the list of deeds -/
def Can (x : Shelf) : Deed → Shelf → Prop
  | .table n cs, y => n ∉ x.tabs.map Tab.name ∧ x.tabs.length < 6 ∧ y = { x with tabs := x.tabs ++ [⟨n, cs, x.deeds.length, []⟩] }
  | .row n ws, y => ∃ (i : Nat) (t : Tab), x.tabs[i]? = some t ∧ t.name = n ∧ t.rows.length < 60 ∧ ws.length = t.cols.length ∧ y = x.onRows n fun rs => rs ++ [⟨ws, x.deeds.length, none⟩]
  | .out n k, y => ∃ (i : Nat) (t : Tab) (r : Rw), x.tabs[i]? = some t ∧ t.name = n ∧ t.rows[k]? = some r ∧ r.out = none ∧ y = x.onRows n fun rs => rs.set k ⟨r.ws, r.put, some x.deeds.length⟩
theorem Can.deeds {x y : Shelf} {d : Deed} (h : Can x d y) : y.deeds = x.deeds := by
  cases d with
  | table n cs => rw [h.2.2]
  | row n ws =>
    obtain ⟨i, t, _, _, _, _, rfl⟩ := h
    rfl
  | out n k =>
    obtain ⟨i, t, r, _, _, _, _, rfl⟩ := h
    rfl
def spDo (K : PySem.W.Frag) (C : Addr) : Sp := fun vs H Q _ => ∃ (p t : Addr) (x y : Shelf) (F : Addr → Prop) (d : Deed), vs = [.ref p, .ref t] ∧ ShelfF K C H p x F ∧ ShelfOk x ∧ x.deeds.length < 4000 ∧ DeedAt K H t d ∧ DeedOk d ∧ Can x d y ∧
  ∀ H' F' v, ShelfF K C H' p { y with deeds := x.deeds ++ [d] } F' → After H F H' F' → Q v H'
section
variable {K : PySem.W.Frag} {C : Addr} {H H1 H' : Hp} {p : Addr} {x y : Shelf} {F F' F1 : Addr → Prop}
theorem After.tups (h : ShelfF K C H p x F) (a : After H F H' F') : Tups K H H' := by
  intro q ys z
  have ne : ∀ {o : HO}, H q = some o → (∀ kvs, o ≠ .dK kvs) → (∀ xs, o ≠ .lst xs) → (∀ C dx fs, o ≠ .ins C dx fs) → ¬ F q := fun z1 n1 n2 n3 hq => by
    rcases h.kind hq with ⟨dx, fs, e⟩ | ⟨xs, e⟩ | ⟨kvs, e⟩
    · rw [e] at z1
      exact n3 _ _ _ (Option.some.inj z1).symm
    · rw [e] at z1
      exact n2 _ (Option.some.inj z1).symm
    · rw [e] at z1
      exact n1 _ (Option.some.inj z1).symm
  rcases z with (z | ⟨o, z⟩) | z
  · exact .inl (.inl (a.off _ _ (ne z (fun _ y => nomatch y) (fun _ y => nomatch y) (fun _ _ _ y => nomatch y)) z))
  · exact .inl (.inr ⟨o, a.off _ _ (ne z (fun _ y => nomatch y) (fun _ y => nomatch y) (fun _ _ _ y => nomatch y)) z⟩)
  · exact .inr z
theorem After.ofSame (s : Same H H1) (a : After H1 F H' F') : After H F H' F' := ⟨fun b o nf e => a.off b o nf (s _ _ e), fun b hb => (a.new b hb).imp id fun z => s.free z⟩
end
section
variable {P : Program} {w : World} {K : PySem.W.Frag} {mg : Str → Option Value} {base : Heap} {f fD pS C : Addr} {fd dD : FuncData}
theorem ok_do (F : Fun K "do" "Tables.do" sDo f fd) (T : TxtT K mg C)
    (FD : Fun K "_is_deed" "_is_deed" sDeed fD dD) (GD : FnOk P w K mg base CX0 3 fD dD ["thing"] (spDeed K)) (gD : mg "_is_deed" = some (.ref fD)) (bD : Binds K dD ["thing"] [])
    (MM : Mt P w K mg base C "_make" ["self", "name", "columns"] CX0 1 (spMake K C)) (MP : Mt P w K mg base C "_put" ["self", "name", "worths"] CX0 1 (spPut K C)) (MO : Mt P w K mg base C "_take_out" ["self", "name", "number"] CX0 1 (spOut K C)) :
    FnOk P w K mg base CX0 4 f fd ["self", "deed"] (spDo K C) := by
  refine F.ok scDo (fun vs H Q E h => ?_) (fun cdv A outer s H vs Q E hr h => ?_)
  · obtain ⟨p, t, x, y, F, d, rfl, _⟩ := h
    rfl
  obtain ⟨p, t, x, y, FF, d, rfl, hS, ok, h4, hd, dok, can, q⟩ := h
  obtain ⟨fM, dM, mM, GM, bM⟩ := MM.ex
  obtain ⟨fP, dP, mP, GP, bP⟩ := MP.ex
  obtain ⟨fO, dO, mO, GO, bO⟩ := MO.ex
  have nd := scDo.nd
  have r1 : Room 1 _ := hr.mono (by decide)
  refine ⟨_, pss_cons (ps_if (pt_not (pt_val (pe_call GD hr (by rfl) gD FD.kp bD .nil pass0 (pa_cons (pv 1) pa_nil)))) pss_never pss_nil)
    (pss_cons (ps_asg (pv 1) (pg_tup (n := 3) rfl (pgs_cons (pg_name (i := 2) nd rfl (.inl rfl)) (pgs_cons (pg_name (i := 3) nd rfl (.inl rfl)) (pgs_cons (pg_name (i := 4) nd rfl (.inl rfl)) pgs_nil)))))
    (pss_cons (ps_set (i := 5) nd rfl (.inl rfl) pe_non)
    (C8.pss_cut (ps_if (pt_cmpR op_eq (pv 2) pe_str (nomark _)) (pss_one (ps_expr (pe_meth (pv 0) T.cl mM GM r1 bM .nil pass0 (pa_cons (pv 3) (pa_cons (pv 4) pa_nil)))))
      (pss_one (ps_if (pt_cmpR op_eq (pv 2) pe_str (nomark _)) (pss_one (ps_set (i := 5) nd rfl (.inl rfl) (pe_meth (pv 0) T.cl mP GP r1 bP .nil pass0 (pa_cons (pv 3) (pa_cons (pv 4) pa_nil)))))
        (pss_one (ps_expr (pe_meth (pv 0) T.cl mO GO r1 bO .nil pass0 (pa_cons (pv 3) (pa_cons (pv 4) pa_nil))))))))
    (pss_cons (ps_expr (pe_bm PySem.F.plainAttrs_list PySem.F.slot_list_append PySem.F.type_list_append mt_append (pe_fld (pv 0) rfl) (pa_cons (pv 1) pa_nil)))
    (pss_one (ps_ret (pv 5))))))), ?_⟩
  refine ⟨_, rfl, t, d, rfl, hd, dok, fun H1 s1 => ⟨_, rfl, iteF ?_⟩⟩
  have hS1 := hS.same s1
  have hd1 := hd.tups (Tups.of_same s1)
  obtain ⟨wv, ht, hw⟩ := id hd1
  refine ⟨_, rfl, t, _, rfl, ht, rfl, _, _, rfl, _, _, rfl, _, _, rfl, rfl, ?_⟩
  refine ⟨fun σ' H' => ∃ F' v, σ' = [some (.ref p), some (.ref t), some (.str d.word), some (.str d.name), some wv, some v] ∧ ShelfF K C H' p y F' ∧ After H1 FF H' F', ?_, ?_⟩
  · have si : ∃ dx fs, H1 p = some (.ins C dx fs) ∧ fs.lookup ("_make" : Str) = none ∧ fs.lookup ("_put" : Str) = none ∧ fs.lookup ("_take_out" : Str) = none := by
      obtain ⟨dx, a, b, c, e, ds, ca, rl, S, hF⟩ := hS1
      exact ⟨dx, _, S.ins, sf_no (by decide), sf_no (by decide), sf_no (by decide)⟩
    obtain ⟨dx, fs, ip, l1, l2, l3⟩ := si
    cases d with
    | table n cs =>
      obtain ⟨ac, rfl, hac⟩ := hw
      obtain ⟨c1, c2, rfl⟩ := can
      refine ⟨_, rfl, rfl, _, rfl, iteT' (decide_eq_true rfl) ?_⟩
      exact ⟨_, rfl, p, dx, fs, rfl, ip, l1, _, rfl, _, rfl, p, ac, x, FF, n, cs, rfl, hS1, ok, c1, c2, hac, fun H' F' h1 h2 => ⟨F', _, rfl, h1, h2⟩⟩
    | row n ws =>
      obtain ⟨aw, rfl, haw⟩ := hw
      obtain ⟨i, tb, c1, rfl, c3, c4, rfl⟩ := can
      refine ⟨_, rfl, rfl, _, rfl, iteF' (by rw [decide_eq_true_eq]; intro z; exact absurd (V.str.inj z) (show ¬ ("row" : Str) = "table" by decide)) ?_⟩
      refine ⟨_, rfl, rfl, _, rfl, iteT' (decide_eq_true rfl) ?_⟩
      exact ⟨_, rfl, p, dx, fs, rfl, ip, l2, _, rfl, _, rfl, p, aw, x, FF, i, tb, ws, rfl, hS1, ok, c1, c3, haw, c4, fun H' h1 h2 => ⟨FF, _, rfl, h1, h2⟩⟩
    | out n k =>
      obtain rfl := hw
      obtain ⟨i, tb, r, c1, rfl, c3, c4, rfl⟩ := can
      refine ⟨_, rfl, rfl, _, rfl, iteF' (by rw [decide_eq_true_eq]; intro z; exact absurd (V.str.inj z) (show ¬ ("out" : Str) = "table" by decide)) ?_⟩
      refine ⟨_, rfl, rfl, _, rfl, iteF' (by rw [decide_eq_true_eq]; intro z; exact absurd (V.str.inj z) (show ¬ ("out" : Str) = "row" by decide)) ?_⟩
      exact ⟨_, rfl, p, dx, fs, rfl, ip, l3, _, rfl, _, rfl, p, x, FF, i, tb, k, r, rfl, hS1, ok, c1, c3, c4, fun H' h1 h2 => ⟨FF, _, rfl, h1, h2⟩⟩
  rintro σ' H' ⟨F', v, rfl, hy, af⟩
  have hd2 := hd1.tups (af.tups hS1)
  have yd := can.deeds
  obtain ⟨dx, a, b, c, e, ds, ca, rl, S, hF⟩ := hy
  have lds : ds.length = x.deeds.length := by rw [← yd]; exact S.deed.length
  refine ⟨_, rfl, p, C, dx, _, _, rfl, S.ins, T.cl, T.nD, sf_d, .inl ⟨rfl, _, SqL.of S.deeds⟩, _, rfl, a, ds, _, rfl, rfl, S.deeds, by rw [sizeLine_eq]; omega, ?_⟩
  refine ⟨_, rfl, ?_⟩
  have tp : Tups K H' (upd H' a (.lst (ds ++ [.ref t]))) := .upd_lst S.deeds
  have ne : ∀ {q : Addr} {o : HO}, H' q = some o → (∀ xs, o ≠ .lst xs) → upd H' a (.lst (ds ++ [.ref t])) q = some o := fun z n => by
    rw [upd_ne (fun y => by rw [y, S.deeds] at z; exact n _ (Option.some.inj z).symm)]
    exact z
  refine q _ F' v ⟨dx, a, b, c, e, ds ++ [.ref t], ca, rl, ⟨ne S.ins (fun _ z => nomatch z), upd_same, ?_, ne S.cols (fun _ z => nomatch z), fun i t0 h => tp _ _ (S.colAt i t0 h), ne S.made (fun _ z => nomatch z), ne S.rows (fun _ z => nomatch z), fun i t0 h => ?_, S.bc, S.bd, S.cd, S.apart, S.offA⟩, hF⟩ ?_
  · rw [← yd]
    exact each_snoc (S.deed.mono fun u d0 ⟨q0, h1, h2⟩ => ⟨q0, h1, h2.tups tp⟩) ⟨t, rfl, hd2.tups tp⟩
  · obtain ⟨vs, e1, e2⟩ := S.rowAt i t0 h
    exact ⟨vs, by rw [upd_ne (S.offA i (List.getElem?_eq_some_iff.mp h).1)]; exact e1, e2.tups tp⟩
  · refine After.ofSame s1 ⟨fun r o nf z => ?_, af.new⟩
    have nr : r ≠ a := fun y => by
      rw [y] at nf z
      rcases (af.new a ((hF a).mpr (.inr (.inl rfl)))) with h | h
      · exact nf h
      · rw [h] at z
        cases z
    rw [upd_ne nr]
    exact af.off r o nf z
end
end K37t
end

section
set_option Elab.async false
set_option linter.all false
set_option maxRecDepth 100000
set_option maxHeartbeats 4000000
/-! Tables: what a deed keeps well made. -/
namespace K37t
open PySem PySem.Spec PyProof.Rows L2 Gd
theorem onRows_names (x : Shelf) (n : Str) (g : List Rw → List Rw) : (x.onRows n g).tabs.map Tab.name = x.tabs.map Tab.name := by
  show (x.tabs.map (onTab n fun t => { t with rows := g t.rows })).map Tab.name = _
  rw [List.map_map]
  exact List.map_congr_left fun t _ => (onTab_same n g t).1
theorem onRows_mem {x : Shelf} {n : Str} {g : List Rw → List Rw} {u : Tab} (h : u ∈ (x.onRows n g).tabs) : ∃ t ∈ x.tabs, u.name = t.name ∧ u.cols = t.cols ∧ u.made = t.made ∧ ((t.name ≠ n ∧ u.rows = t.rows) ∨ (t.name = n ∧ u.rows = g t.rows)) := by
  obtain ⟨t, ht, e⟩ := List.mem_map.mp (show u ∈ x.tabs.map (onTab n fun t => { t with rows := g t.rows }) from h)
  refine ⟨t, ht, ?_⟩
  obtain ⟨a1, a2, a3⟩ := onTab_same n g t
  rw [← e]
  refine ⟨a1, a2, a3, ?_⟩
  unfold onTab
  by_cases z : t.name = n
  · rw [if_pos z]
    exact .inr ⟨z, rfl⟩
  · rw [if_neg z]
    exact .inl ⟨z, rfl⟩
theorem tab_one {x : Shelf} (nd : (x.tabs.map Tab.name).Nodup) {i : Nat} {t u : Tab} (hi : x.tabs[i]? = some t) (hu : u ∈ x.tabs) (e : u.name = t.name) : u = t := by
  obtain ⟨j, hj⟩ := List.mem_iff_getElem?.mp hu
  have := name_inj nd hj hi e
  rw [this, hi] at hj
  exact (Option.some.inj hj).symm
theorem ok_on {x : Shelf} (ok : ShelfOk x) {ds : List Deed} (hl : ds.length ≤ 4000) (n : Str) (g : List Rw → List Rw) (h1 : ∀ t ∈ x.tabs, t.name = n → (g t.rows).length ≤ 60) (h2 : ∀ t ∈ x.tabs, t.name = n → ∀ r ∈ g t.rows, r.ws.length ≤ 1000) : ShelfOk ⟨ds, (x.onRows n g).tabs⟩ := by
  refine ⟨by rw [onRows_names]; exact ok.nd, fun u hu => ?_, hl, by show (x.onRows n g).tabs.length ≤ 6; rw [show (x.onRows n g).tabs.length = x.tabs.length from List.length_map _]; exact ok.tabs, fun u hu => ?_, fun u hu => ?_⟩
  · obtain ⟨t, ht, e1, _⟩ := onRows_mem hu
    rw [e1]
    exact ok.lab t ht
  · obtain ⟨t, ht, _, _, _, (⟨_, e⟩ | ⟨en, e⟩)⟩ := onRows_mem hu
    · rw [e]
      exact ok.rows t ht
    · rw [e]
      exact h1 t ht en
  · obtain ⟨t, ht, _, _, _, (⟨_, e⟩ | ⟨en, e⟩)⟩ := onRows_mem hu
    · rw [e]
      exact ok.ws t ht
    · rw [e]
      exact h2 t ht en
/-- a deed keeps all well made -/
theorem ShelfOk.next {x y : Shelf} {d : Deed} (ok : ShelfOk x) (dok : DeedOk d) (can : Can x d y) (h : x.deeds.length < 4000) : ShelfOk { y with deeds := x.deeds ++ [d] } := by
  have hl : (x.deeds ++ [d]).length ≤ 4000 := by
    rw [List.length_append, List.length_singleton]
    omega
  cases d with
  | table n cs =>
    obtain ⟨c1, c2, rfl⟩ := can
    refine ⟨?_, fun t ht => ?_, hl, ?_, fun t ht => ?_, fun t ht => ?_⟩
    · show ((x.tabs ++ [(⟨n, cs, x.deeds.length, []⟩ : Tab)]).map Tab.name).Nodup
      rw [List.map_append]
      refine List.nodup_append.mpr ⟨ok.nd, by simp, fun a ha b hb e => ?_⟩
      have hb : b = n := by simpa using hb
      rw [e, hb] at ha
      exact c1 ha
    · rcases List.mem_append.mp (show t ∈ x.tabs ++ [(⟨n, cs, x.deeds.length, []⟩ : Tab)] from ht) with m | m
      · exact ok.lab t m
      · rw [List.mem_singleton.mp m]
        exact dok.1
    · show (x.tabs ++ [(⟨n, cs, x.deeds.length, []⟩ : Tab)]).length ≤ 6
      rw [List.length_append, List.length_singleton]
      omega
    · rcases List.mem_append.mp (show t ∈ x.tabs ++ [(⟨n, cs, x.deeds.length, []⟩ : Tab)] from ht) with m | m
      · exact ok.rows t m
      · rw [List.mem_singleton.mp m]
        exact Nat.zero_le _
    · rcases List.mem_append.mp (show t ∈ x.tabs ++ [(⟨n, cs, x.deeds.length, []⟩ : Tab)] from ht) with m | m
      · exact ok.ws t m
      · rw [List.mem_singleton.mp m]
        exact fun r hr => absurd hr (by simp)
  | row n ws =>
    obtain ⟨i, t0, h0, rfl, h60, hw, rfl⟩ := can
    refine ok_on ok hl t0.name _ (fun t ht en => ?_) fun t ht en r hr => ?_
    · rw [tab_one ok.nd h0 ht en, List.length_append, List.length_singleton]
      omega
    · rcases List.mem_append.mp hr with m | m
      · exact ok.ws t ht r m
      · rw [List.mem_singleton.mp m]
        exact dok.2.2
  | out n k =>
    obtain ⟨i, t0, r0, h0, rfl, hk, ho, rfl⟩ := can
    refine ok_on ok hl t0.name _ (fun t ht en => ?_) fun t ht en r hr => ?_
    · rw [List.length_set]
      exact ok.rows t ht
    · rcases List.mem_or_eq_of_mem_set hr with m | m
      · exact ok.ws t ht r m
      · rw [m]
        exact ok.ws t0 (List.mem_of_getElem? h0) r0 (List.mem_of_getElem? hk)
end K37t
end

section
set_option Elab.async false
set_option linter.all false
set_option maxRecDepth 100000
set_option maxHeartbeats 4000000
/-! Tables made; what stays well made. -/
namespace K37t
open PySem PySem.Spec PyProof.Rows L2 Gd
abbrev sInit : Stmt := inClass (topS 32) 0
abbrev nInit : List Str := ["self", "deeds", "deed"]
theorem scInit : FnScope nInit ["self", "deeds"] (defScope sInit) := ⟨rfl, rfl, rfl, by decide +kernel, rfl, by decide +kernel, by decide +kernel⟩
theorem okFD {P : Program} {w : World} {K : PySem.W.Frag} {mg : Str → Option Value} {base : Heap} {x qual : Str} {st : Stmt} {dvs : List V} {kws : List (Str × V)} {f : Addr} {fd : FuncData} {N ps : List Str} {k : Nat} {sp : Sp} (F : FunD K x qual (defArgs st) (defBody st) (defScope st) dvs kws f fd) (S : FnScope N ps (defScope st)) (len : ∀ vs H Q E, sp vs H Q E → vs.length = ps.length)
    (hbody : ∀ (cdv : Value) (A : Around) (outer : List Env) (s : Shared) (H : Hp) (vs : List V) (Q : VK) (E : XK), Room k (A.deeper (envOfC qual (defScope st) s.heap.objs.size f cdv)) → sp vs H Q E →
      ∃ t, PSs (cxOf CX0 P w K mg base N qual (defScope st) f cdv A outer s H E).nox (defBody st) t ∧ t { nx := fun _ H' => Q .non H', rt := Q } (L2.start N vs) H) : FnOk P w K mg base CX0 (k + 1) f fd ps sp := by
  obtain ⟨oc, od, dV, kV, doc, pm, an, cdv, ct, osl, rfl, lk, hcd, _, _⟩ := F.ex
  refine fn_of lk hcd S len fun A outer s H vs Q E hr hsp => ?_
  obtain ⟨t, h, q⟩ := hbody cdv A outer s H vs Q E hr hsp
  exact ⟨t, h.nox, q⟩
def spInit (K : PySem.W.Frag) (C : Addr) : Sp := fun vs H Q _ => ∃ (p e dx : Addr), vs = [.ref p, .ref e] ∧ H p = some (.ins C dx []) ∧ SqT K H e [] ∧
  ∀ H' F', ShelfF K C H' p ⟨[], []⟩ F' → (∀ b o, b ≠ p → H b = some o → H' b = some o) → (∀ b, F' b → b = p ∨ H b = none) → Q .non H'
section
variable {P : Program} {w : World} {K : PySem.W.Frag} {mg : Str → Option Value} {base : Heap} {f C : Addr} {fd : FuncData} {dvs : List V} {kws : List (Str × V)}
theorem ok_init (F : FunD K "__init__" "Tables.__init__" (defArgs sInit) (defBody sInit) (defScope sInit) dvs kws f fd) (T : TxtT K mg C) : FnOk P w K mg base CX0 1 f fd ["self", "deeds"] (spInit K C) := by
  refine okFD F scInit (fun vs H Q E h => ?_) (fun cdv A outer s H vs Q E hr h => ?_)
  · obtain ⟨p, e, dx, rfl, _⟩ := h
    rfl
  obtain ⟨p, e, dx, rfl, hp, he, q⟩ := h
  have nd := scInit.nd
  refine ⟨_, pss_cons (ps_fld (pv 0) (pe_lst pa_nil) rfl) (pss_cons (ps_fld (pv 0) pe_dnewK rfl) (pss_cons (ps_fld (pv 0) pe_dnewK rfl) (pss_cons (ps_fld (pv 0) pe_dnewK rfl)
    (pss_one (ps_for PassesOwn.never rfl (pi_tup (pv 1)) (pg_name (i := 2) nd rfl (.inl rfl)) pss_never))))), ?_⟩
  refine ⟨Nat.zero_le _, fun a na => ?_⟩
  have npa : p ≠ a := ne_of_none hp na
  refine ⟨_, rfl, p, C, dx, _, rfl, (upd_ne npa).trans hp, T.cl, T.nD, (by show 0 < 1000; decide), ?_⟩
  have p1 : upd (upd H a (.lst [])) p (.ins C dx (putF "_deeds" (.ref a) [])) p = some (.ins C dx (putF "_deeds" (.ref a) [])) := upd_same
  have a1 : upd (upd H a (.lst [])) p (.ins C dx (putF "_deeds" (.ref a) [])) a = some (.lst []) := by rw [upd_ne npa.symm, upd_same]
  have k1 : ∀ q, q ≠ p → q ≠ a → upd (upd H a (.lst [])) p (.ins C dx (putF "_deeds" (.ref a) [])) q = H q := fun q h1 h2 => by rw [upd_ne h1, upd_ne h2]
  generalize upd (upd H a (.lst [])) p (.ins C dx (putF "_deeds" (.ref a) [])) = H1 at p1 a1 k1 ⊢
  intro b nb
  have npb : p ≠ b := ne_of_none p1 nb
  have nab : a ≠ b := ne_of_none a1 nb
  refine ⟨_, rfl, p, C, dx, _, rfl, (upd_ne npb).trans p1, T.cl, T.nC, (by show 1 < 1000; decide), ?_⟩
  have p2 : upd (upd H1 b (.dK [])) p (.ins C dx (putF "_columns" (.ref b) (putF "_deeds" (.ref a) []))) p = some (.ins C dx (putF "_columns" (.ref b) (putF "_deeds" (.ref a) []))) := upd_same
  have b2 : upd (upd H1 b (.dK [])) p (.ins C dx (putF "_columns" (.ref b) (putF "_deeds" (.ref a) []))) b = some (.dK []) := by rw [upd_ne npb.symm, upd_same]
  have k2 : ∀ q, q ≠ p → q ≠ b → upd (upd H1 b (.dK [])) p (.ins C dx (putF "_columns" (.ref b) (putF "_deeds" (.ref a) []))) q = H1 q := fun q h1 h2 => by rw [upd_ne h1, upd_ne h2]
  generalize upd (upd H1 b (.dK [])) p (.ins C dx (putF "_columns" (.ref b) (putF "_deeds" (.ref a) []))) = H2 at p2 b2 k2 ⊢
  have a2 := (k2 a npa.symm nab).trans a1
  intro c nc
  have npc : p ≠ c := ne_of_none p2 nc
  have nac : a ≠ c := ne_of_none a2 nc
  have nbc : b ≠ c := ne_of_none b2 nc
  refine ⟨_, rfl, p, C, dx, _, rfl, (upd_ne npc).trans p2, T.cl, T.nM, (by show 2 < 1000; decide), ?_⟩
  have p3 : upd (upd H2 c (.dK [])) p (.ins C dx (putF "_made" (.ref c) (putF "_columns" (.ref b) (putF "_deeds" (.ref a) [])))) p = some (.ins C dx (putF "_made" (.ref c) (putF "_columns" (.ref b) (putF "_deeds" (.ref a) [])))) := upd_same
  have c3 : upd (upd H2 c (.dK [])) p (.ins C dx (putF "_made" (.ref c) (putF "_columns" (.ref b) (putF "_deeds" (.ref a) [])))) c = some (.dK []) := by rw [upd_ne npc.symm, upd_same]
  have k3 : ∀ q, q ≠ p → q ≠ c → upd (upd H2 c (.dK [])) p (.ins C dx (putF "_made" (.ref c) (putF "_columns" (.ref b) (putF "_deeds" (.ref a) [])))) q = H2 q := fun q h1 h2 => by rw [upd_ne h1, upd_ne h2]
  generalize upd (upd H2 c (.dK [])) p (.ins C dx (putF "_made" (.ref c) (putF "_columns" (.ref b) (putF "_deeds" (.ref a) [])))) = H3 at p3 c3 k3 ⊢
  have a3 := (k3 a npa.symm nac).trans a2
  have b3 := (k3 b npb.symm nbc).trans b2
  intro d nd'
  have npd : p ≠ d := ne_of_none p3 nd'
  have nad : a ≠ d := ne_of_none a3 nd'
  have nbd : b ≠ d := ne_of_none b3 nd'
  have ncd : c ≠ d := ne_of_none c3 nd'
  refine ⟨_, rfl, p, C, dx, _, rfl, (upd_ne npd).trans p3, T.cl, T.nR, (by show 3 < 1000; decide), ?_⟩
  have p4 : upd (upd H3 d (.dK [])) p (.ins C dx (putF "_rows" (.ref d) (putF "_made" (.ref c) (putF "_columns" (.ref b) (putF "_deeds" (.ref a) []))))) p = some (.ins C dx (sf a b c d)) := by rw [upd_same]; rfl
  have d4 : upd (upd H3 d (.dK [])) p (.ins C dx (putF "_rows" (.ref d) (putF "_made" (.ref c) (putF "_columns" (.ref b) (putF "_deeds" (.ref a) []))))) d = some (.dK []) := by rw [upd_ne npd.symm, upd_same]
  have k4 : ∀ q, q ≠ p → q ≠ d → upd (upd H3 d (.dK [])) p (.ins C dx (putF "_rows" (.ref d) (putF "_made" (.ref c) (putF "_columns" (.ref b) (putF "_deeds" (.ref a) []))))) q = H3 q := fun q h1 h2 => by rw [upd_ne h1, upd_ne h2]
  generalize upd (upd H3 d (.dK [])) p (.ins C dx (putF "_rows" (.ref d) (putF "_made" (.ref c) (putF "_columns" (.ref b) (putF "_deeds" (.ref a) []))))) = H4 at p4 d4 k4 ⊢
  have a4 := (k4 a npa.symm nad).trans a3
  have b4 := (k4 b npb.symm nbd).trans b3
  have c4 := (k4 c npc.symm ncd).trans c3
  have nb0 : H b = none := by rw [← k1 b npb.symm nab.symm]; exact nb
  have nc0 : H c = none := by rw [← k1 c npc.symm nac.symm, ← k2 c npc.symm nbc.symm]; exact nc
  have nd0 : H d = none := by rw [← k1 d npd.symm nad.symm, ← k2 d npd.symm nbd.symm, ← k3 d npd.symm ncd.symm]; exact nd'
  have off : ∀ q o, q ≠ p → H q = some o → H4 q = some o := fun q o n e => by
    rw [k4 q n (ne_of_none e nd0), k3 q n (ne_of_none e nc0), k2 q n (ne_of_none e nb0), k1 q n (ne_of_none e na)]
    exact e
  have he4 : SqT K H4 e [] := by
    rcases he with (z | ⟨o, z⟩) | z
    · exact .inl (.inl (off _ _ (ne_of z hp (fun y => nomatch y)) z))
    · exact .inl (.inr ⟨o, off _ _ (ne_of z hp (fun y => nomatch y)) z⟩)
    · exact .inr z
  refine ⟨_, rfl, e, rfl, ⟨_, he4⟩, ?_⟩
  refine for_it (walk_tup (xs := [])) (fun i σ H' => H' = H4) rfl (fun i σ H' _ z => by rw [z]; exact he4) (fun i x σ H5 H6 hi _ _ => absurd hi (Nat.not_lt_zero _)) ?_
  rintro σ H5 rfl
  refine q H5 (foot p a b c d 0 (fun _ => a)) ⟨dx, a, b, c, d, [], (fun _ => a), (fun _ => a), ⟨p4, a4, .nil, b4, fun i t h => by simp at h, c4, d4, fun i t h => by simp at h, nbc, nbd, ncd, fun i j h => absurd h (Nat.not_lt_zero _), fun i h => absurd h (Nat.not_lt_zero _)⟩, fun r => Iff.rfl⟩ off fun r hr' => ?_
  rcases hr' with z | z | z | z | z | ⟨i, hi, _⟩
  · exact .inl z
  · exact .inr (by rw [z]; exact na)
  · exact .inr (by rw [z]; exact nb0)
  · exact .inr (by rw [z]; exact nc0)
  · exact .inr (by rw [z]; exact nd0)
  · exact absurd hi (Nat.not_lt_zero _)
end
end K37t
end

section
set_option Elab.async false
set_option linter.all false
set_option maxRecDepth 100000
set_option maxHeartbeats 4000000
/-! what a plan keeps; what a visit takes at first. -/
namespace K37
open PySem PySem.Spec PyProof.Rows L2 Gd K37t
abbrev sKe : Stmt := topS 6
theorem scKe : FnScope ["ask", "plan", "links", "number"] ["ask", "plan"] (defScope sKe) := ⟨rfl, rfl, rfl, by decide +kernel, rfl, by decide +kernel, by decide +kernel⟩
abbrev sBe : Stmt := topS 9
abbrev nBe : List Str := ["tables", "ask", "plan", "moment", "rooms", "looks", "rest", "kept", "number", "rows"]
theorem scBe : FnScope nBe ["tables", "ask", "plan", "moment", "rooms"] (defScope sBe) := ⟨rfl, rfl, rfl, by decide +kernel, rfl, by decide +kernel, by decide +kernel⟩
def keepsL (ss : List Src) (o : List Nat) (w : Str) : List Nat := if w = "kept" then (ledL ss o).filter fun n => (linkG (linksL ss o) n).isSome else []
def spKe (K : PySem.W.Frag) : Sp := fun vs H Q _ => ∃ (A PL : Addr) (ss : List Src) (o : List Nat) (w : Str), vs = [.ref A, .ref PL] ∧ AskAt K H A ss ∧ Small ss ∧ PlAt K H PL o w ∧ o.length ≤ ss.length ∧ o.Nodup ∧ (∀ j ∈ o, j < o.length) ∧
  ∀ (p : Addr) (H' : Hp), Same H H' → H p = none → H' p = some (.lst (intsV (keepsL ss o w))) → Q (.ref p) H'
/-- a method that takes n values and the moment by name -/
structure MtN (P : Program) (w : World) (K : PySem.W.Frag) (mg : Str → Option Value) (base : Heap) (C : Addr) (m : Str) (ps : List Str) (n : Nat) (cx : CXT) (k : Nat) (sp : Sp) : Prop where
  ex : ∃ (f : Addr) (fd : FuncData) (g : List Value → List Value → List Value), Meth K C m f ∧ FnOk P w K mg base cx k f fd ps sp ∧ KBn K fd ps (n + 1) ["moment"] g fun vs zs => vs ++ zs
/-- how many rows of a name are there at a moment -/
def cntAt (x : Shelf) (m : Nat) (n : Str) : Nat := match x.tabs.find? fun t => decide (t.name = n) with
  | some t => (t.at m t.rows.length).length
  | none => 0
theorem find_of {ts : List Tab} (nd : (ts.map Tab.name).Nodup) {t : Tab} (h : t ∈ ts) : ts.find? (fun u => decide (u.name = t.name)) = some t := by
  induction ts with
  | nil => cases h
  | cons u ts ih =>
    rw [List.map_cons, List.nodup_cons] at nd
    by_cases z : u.name = t.name
    · rw [List.find?_cons_of_pos (by simpa using z)]
      rcases List.mem_cons.mp h with h | h
      · rw [h]
      · exact absurd (by rw [z]; exact List.mem_map.mpr ⟨t, h, rfl⟩) nd.1
    · rw [List.find?_cons_of_neg (by simpa using z)]
      rcases List.mem_cons.mp h with h | h
      · exact absurd (by rw [h]) z
      · exact ih nd.2 h
theorem cntAt_of {x : Shelf} (nd : (x.tabs.map Tab.name).Nodup) {t : Tab} (h : t ∈ x.tabs) (m : Nat) : cntAt x m t.name = (t.at m t.rows.length).length := by
  unfold cntAt
  rw [find_of nd h]
def stepB (sz : Nat → Nat) (st : Nat × Nat × List Nat) (n : Nat) : Nat × Nat × List Nat := if sz n ≤ st.2.1 then (st.1 + sz n, st.2.1 - sz n, st.2.2 ++ [n]) else st
def goB (sz : Nat → Nat) (room : Nat) (ns : List Nat) : Nat × Nat × List Nat := ns.foldl (stepB sz) (1, room, [])
theorem goB_snoc (sz : Nat → Nat) (room : Nat) (ns : List Nat) (n : Nat) : goB sz room (ns ++ [n]) = stepB sz (goB sz room ns) n := by
  unfold goB
  rw [List.foldl_append]
  rfl
theorem goB_len (sz : Nat → Nat) (room : Nat) (ns : List Nat) : (goB sz room ns).2.2.length ≤ ns.length := by
  have g : ∀ (ns : List Nat) (st : Nat × Nat × List Nat), (ns.foldl (stepB sz) st).2.2.length ≤ st.2.2.length + ns.length := fun ns => by
    induction ns with
    | nil => intro st; simp
    | cons n ns ih =>
      intro st
      have z := ih (stepB sz st n)
      rw [List.foldl_cons]
      refine Nat.le_trans z ?_
      unfold stepB
      split
      · simp
        omega
      · simp
  have z := g ns (1, room, [])
  unfold goB
  simpa using z
/-- the names of the sources are tables then -/
def TabsIn (x : Shelf) (m : Nat) (ss : List Src) : Prop := ∀ n, n < ss.length → ∃ (i : Nat) (t : Tab), x.tabs[i]? = some t ∧ t.name = tabOf ss n ∧ t.made < m
def spBe (K : PySem.W.Frag) (C : Addr) : Sp := fun vs H Q _ => ∃ (p A PL : Addr) (x : Shelf) (F : Addr → Prop) (ss : List Src) (o : List Nat) (w : Str) (mo : Option Nat) (room : Nat), vs = [.ref p, .ref A, .ref PL, momV mo, .int ((room : Nat) : Int)] ∧ ShelfF K C H p x F ∧ ShelfOk x ∧ x.mo mo ≤ x.deeds.length ∧
  AskAt K H A ss ∧ Small ss ∧ PlAt K H PL o w ∧ o.length ≤ ss.length ∧ o.Nodup ∧ (∀ j ∈ o, j < o.length) ∧ TabsIn x (x.mo mo) ss ∧
  ∀ (r t : Addr) (H' : Hp), Same H H' → SqT K H' r [.int ((goB (fun n => cntAt x (x.mo mo) (tabOf ss n)) room (keepsL ss o w)).1 : Nat), .ref t] → SqT K H' t (intsV (goB (fun n => cntAt x (x.mo mo) (tabOf ss n)) room (keepsL ss o w)).2.2) → Q (.ref r) H'
theorem tabIn_at {K : PySem.W.Frag} {H : Hp} {A : Addr} {ss : List Src} {n : Nat} (h : AskAt K H A ss) (hn : n < ss.length) : ∃ (as xs : List V) (S a b : Addr) (w k : Str), SqT K H A as ∧ as[0]? = some (.ref S) ∧ SqT K H S xs ∧ xs[n]? = some (.ref a) ∧ SqT K H a [.str w, .str k, .str (tabOf ss n), .ref b] := tab_at h hn
section
variable {P : Program} {w : World} {K : PySem.W.Frag} {mg : Str → Option Value} {base : Heap} {f fL fE fK C : Addr} {fd dL dE dK : FuncData}
theorem ok_ke (F : Fun K "keeps_of" "keeps_of" sKe f fd)
    (FL : Fun K "links_of" "links_of" sLk fL dL) (GL : FnOk P w K mg base CX0 2 fL dL ["ask", "plan"] (spLk K)) (bL : Binds K dL ["ask", "plan"] []) (gL : mg "links_of" = some (.ref fL))
    (FE : Fun K "led_to" "led_to" sLed fE dE) (GE : FnOk P w K mg base CX0 1 fE dE ["ask", "plan"] (spLed K)) (bE : Binds K dE ["ask", "plan"] []) (gE : mg "led_to" = some (.ref fE)) :
    FnOk P w K mg base CX0 3 f fd ["ask", "plan"] (spKe K) := by
  refine F.ok scKe (fun vs H Q E h => ?_) (fun cdv A outer s H vs Q E hr h => ?_)
  · obtain ⟨A, PL, ss, o, w, rfl, _⟩ := h
    rfl
  obtain ⟨AK, PL, ss, o, wy, rfl, hA, hs, ⟨O, tP, tO⟩, lo, on, oj, q⟩ := h
  have nd := scKe.nd
  have hu := hu_of hr
  refine ⟨_, pss_cons (ps_if (pt_cmpR op_ne (pe_ix ix_tup (pv 1) pe_int (fun _ _ => rfl)) pe_str (nomark _)) (pss_one (ps_ret (pe_lst pa_nil))) pss_nil)
    (pss_cons (ps_set (i := 2) nd rfl (by first | exact .inl rfl | exact .inr rfl) (pe_call GL hr (by rfl) gL FL.kp bL .nil pass0 (pa_cons (pv 0) (pa_cons (pv 1) pa_nil))))
    (pss_one (ps_ret (pe_lc (own := [("number", 3)]) (g := gName 3) rfl nd (pi_list (pe_call GE (hr.mono (by decide)) (by rfl) gE FE.kp bE .nil pass0 (pa_cons (pv 0) (pa_cons (pv 1) pa_nil)))) (blkOk_by (N := ["ask", "plan", "links", "number"]) (sc := defScope sKe) (by decide +kernel)) (fun _ _ _ _ _ => pg_name (i := 3) nd rfl (Or.inl rfl)) (fun _ _ _ _ _ => pts_one (pt_cmp (pc_din hu (pv 3) (pv 2)))) (fun _ _ _ _ _ => pv 3))))), ?_⟩
  refine ⟨_, rfl, PL, _, 1, _, rfl, rfl, tP, atI_nat (j := 1) rfl, rfl, _, rfl, ?_⟩
  by_cases z : wy = "kept"
  · refine iteF' (by show ¬ (!decide (V.str wy = V.str "kept")) = true; rw [z]; simp) ?_
    refine ⟨_, rfl, _, rfl, AK, PL, _, O, ss, o, rfl, hA, hs, tP, rfl, tO, lo, on, oj, fun L lks H1 s1 nL eL hL => ?_⟩
    refine ⟨_, rfl, _, rfl, AK, PL, O, _, ss, o, rfl, ask_same s1 hA, hs, same_tup s1 tP, rfl, same_tup s1 tO, lo, fun D H3 s3 eD => ?_⟩
    have eL3 := s3 _ _ eL
    have s13 := s1.trans s3
    have lled : (ledL ss o).length ≤ 20 := by
      have := hs.1
      unfold ledL
      rw [List.length_append, List.length_drop, List.length_map, List.length_range]
      omega
    refine ⟨D, rfl, ⟨_, SqL.of eD⟩, fun R nR => ?_⟩
    refine lc_list (K := K) (a := D) (xs := intsV (ledL ss o)) (fun j G' => Same H3 G' ∧ G' R = some (.lst (intsV (((ledL ss o).take j).filter fun n => (linkG (linksL ss o) n).isSome)))) ⟨new_same nR, upd_same⟩ (fun j G' _ y => SqL.of (y.1 _ _ eD)) ?_ ?_
    · rintro j y G' hy ⟨sg, eR⟩
      unfold intsV at hy
      rw [List.getElem?_map, Option.map_eq_some_iff] at hy
      obtain ⟨n, en, rfl⟩ := hy
      have hj := (List.getElem?_eq_some_iff.mp en).1
      have eL4 := sg _ _ eL3
      refine ⟨rfl, ?_⟩
      refine ⟨_, rfl, _, rfl, L, _, rfl, DGet.k (k := Sum.inl ((n : Nat) : Int)) eL4, _, rfl, ?_⟩
      rw [List.take_add_one, en, List.filter_append]
      rcases lk_val n hL.1 hL.2 with ⟨eg, ev⟩ | ⟨p, lt, eg, ev, tl⟩
      · rw [ev]
        refine iteF ?_
        refine ⟨sg, ?_⟩
        rw [show (some n).toList.filter (fun n => (linkG (linksL ss o) n).isSome) = [] by simp [eg], List.append_nil]
        exact eR
      · rw [ev]
        refine iteT' rfl ?_
        have lf : (((ledL ss o).take j).filter fun n => (linkG (linksL ss o) n).isSome).length ≤ 20 := by
          refine Nat.le_trans (List.length_filter_le _ _) ?_
          rw [List.length_take]
          omega
        refine ⟨_, rfl, _, eR, by unfold intsV; rw [List.length_map, sizeLine_eq]; omega, own_same nR sg, ?_⟩
        rw [show (some n).toList.filter (fun n => (linkG (linksL ss o) n).isSome) = [n] by simp [eg], upd_same]
        unfold intsV
        rw [List.map_append]
        rfl
    rintro H5 ⟨s5, eR⟩
    have ll : (intsV (ledL ss o)).length = (ledL ss o).length := List.length_map _
    rw [ll, List.take_length] at eR
    refine q R H5 (s13.trans s5) (s13.free nR) ?_
    unfold keepsL
    rw [if_pos z]
    exact eR
  · refine iteT' (by show (!decide (V.str wy = V.str "kept")) = true; simp; exact fun y => z y) ?_
    refine ⟨Nat.zero_le _, fun R nR => ?_⟩
    refine q R _ (new_same nR) nR ?_
    unfold keepsL
    rw [if_neg z]
    exact upd_same
theorem ok_be {kws : List (Str × V)} (F : FunD K "begun" "begun" (defArgs sBe) (defBody sBe) (defScope sBe) [] kws f fd) (T : TxtT K mg C) (mn : mg "len" = none) (mt : mg "tuple" = none) (MR : MtN P w K mg base C "rows" ["self", "name", "moment"] 1 CX0 3 (spRows K C))
    (FK : Fun K "keeps_of" "keeps_of" sKe fK dK) (GK : FnOk P w K mg base CX0 3 fK dK ["ask", "plan"] (spKe K)) (gK : mg "keeps_of" = some (.ref fK)) (bK : Binds K dK ["ask", "plan"] []) :
    FnOk P w K mg base CX0 4 f fd ["tables", "ask", "plan", "moment", "rooms"] (spBe K C) := by
  refine okFD F scBe (fun vs H Q E h => ?_) (fun cdv A outer s H vs Q E hr h => ?_)
  · obtain ⟨p, A, PL, x, F, ss, o, w, mo, room, rfl, _⟩ := h
    rfl
  obtain ⟨p, AK, PL, x, FF, ss, o, wy, mo, room, rfl, hS, ok, mo1, hA, hs, hP, lo, on, oj, tin, q⟩ := h
  obtain ⟨fR, dR, gR', mR, GR, bR⟩ := MR.ex
  have nd := scBe.nd
  have hu := hu_of hr
  refine ⟨_, pss_cons (ps_set (i := 5) nd rfl (by first | exact .inl rfl | exact .inr rfl) pe_int)
    (pss_cons (ps_set (i := 6) nd rfl (by first | exact .inl rfl | exact .inr rfl) (pv 4))
    (pss_cons (ps_set (i := 7) nd rfl (by first | exact .inl rfl | exact .inr rfl) (pe_lst pa_nil))
    (C8.pss_cut (ps_for PassesOwn.never rfl (pi_list (pe_call GK hr (by rfl) gK FK.kp bK .nil pass0 (pa_cons (pv 1) (pa_cons (pv 2) pa_nil)))) (pg_name (i := 8) nd rfl (by first | exact .inl rfl | exact .inr rfl))
      (pss_cons (ps_set (i := 9) nd rfl (by first | exact .inl rfl | exact .inr rfl) (pe_callB call_len_seq (by rfl) mn PySem.boot_len (pa_cons (pe_methN (pv 0) T.cl mR GR hr bR pass0 (pa_cons (pe_ix ix_tup (pe_ix ix_tup (pe_ix ix_tup (pv 1) pe_int (fun _ _ => rfl)) (pv 8) (fun _ _ => rfl)) pe_int (fun _ _ => rfl)) pa_nil) (pk_cons (pv 3) pk_nil)) pa_nil)))
      (pss_one (ps_if (pt_cmpR op_le (pv 9) (pv 6) (nomark _))
        (pss_cons (ps_aug (i := 5) nd rfl (by first | exact .inl rfl | exact .inr rfl) (pv 9) ip_add)
        (pss_cons (ps_aug (i := 6) nd rfl (by first | exact .inl rfl | exact .inr rfl) (pv 9) ip_sub)
        (pss_one (ps_expr (pe_bm PySem.F.plainAttrs_list PySem.F.slot_list_append PySem.F.type_list_append mt_append (pv 7) (pa_cons (pv 8) pa_nil)))))) pss_nil))))
    (pss_one (ps_ret (pe_tup (pa_cons (pv 5) (pa_cons (pe_tupleOf (by rfl) mt (pv 7)) pa_nil)))))))), ?_⟩
  refine ⟨_, rfl, Nat.zero_le _, fun B nB => ?_⟩
  have j1 := new_same (o := .lst []) nB
  have eB1 : upd H B (.lst []) B = some (.lst []) := upd_same
  generalize upd H B (.lst []) = H1 at j1 eB1 ⊢
  have s10 := hs.1
  generalize hm : x.mo mo = m at mo1 tin q
  have kl : (keepsL ss o wy).length ≤ 20 := by
    unfold keepsL
    split
    · refine Nat.le_trans (List.length_filter_le _ _) ?_
      unfold ledL
      rw [List.length_append, List.length_drop, List.length_map, List.length_range]
      omega
    · exact Nat.zero_le _
  have kin : ∀ n ∈ keepsL ss o wy, n < ss.length := fun n hn => by
    unfold keepsL at hn
    split at hn
    · exact led_in oj lo n (List.mem_filter.mp hn).1
    · cases hn
  have gl : ∀ k, (goB (fun n => cntAt x m (tabOf ss n)) room ((keepsL ss o wy).take k)).2.2.length ≤ 20 := fun k => by
    refine Nat.le_trans (goB_len _ _ _) ?_
    rw [List.length_take]
    omega
  refine ⟨fun σ' G2 => (∃ y8 y9, σ' = [some (.ref p), some (.ref AK), some (.ref PL), some (momV mo), some (.int ((room : Nat) : Int)), some (.int ((goB (fun n => cntAt x m (tabOf ss n)) room (keepsL ss o wy)).1 : Nat)), some (.int ((goB (fun n => cntAt x m (tabOf ss n)) room (keepsL ss o wy)).2.1 : Nat)), some (.ref B), y8, y9]) ∧ Same H G2 ∧ G2 B = some (.lst (intsV (goB (fun n => cntAt x m (tabOf ss n)) room (keepsL ss o wy)).2.2)), ?_, ?_⟩
  · refine ⟨_, rfl, _, rfl, AK, PL, ss, o, wy, rfl, ask_same j1 hA, hs, hP.same j1, lo, on, oj, fun D H3 s3 nD eD => ?_⟩
    have eB3 := s3 _ _ eB1
    have nDB : D ≠ B := fun z => by rw [z, eB1] at nD; cases nD
    have sH3 := j1.trans s3
    refine ⟨D, rfl, ⟨_, SqL.of eD⟩, ?_⟩
    have ll : (intsV (keepsL ss o wy)).length = (keepsL ss o wy).length := List.length_map _
    refine for_it (walk_list (K := K) (a := D) (xs := intsV (keepsL ss o wy))) (fun k σ G1 => (∃ y8 y9, σ = [some (.ref p), some (.ref AK), some (.ref PL), some (momV mo), some (.int ((room : Nat) : Int)), some (.int ((goB (fun n => cntAt x m (tabOf ss n)) room ((keepsL ss o wy).take k)).1 : Nat)), some (.int ((goB (fun n => cntAt x m (tabOf ss n)) room ((keepsL ss o wy).take k)).2.1 : Nat)), some (.ref B), y8, y9]) ∧ (∀ b o, b ≠ B → H3 b = some o → G1 b = some o) ∧ G1 B = some (.lst (intsV (goB (fun n => cntAt x m (tabOf ss n)) room ((keepsL ss o wy).take k)).2.2)))
      ⟨⟨_, _, rfl⟩, fun _ _ _ e => e, eB3⟩ (fun k σ G1 _ z => SqL.of (z.2.1 _ _ nDB eD)) ?_ ?_
    · rintro k y σ G1 G2 hk ⟨⟨y8, y9, rfl⟩, off, eB⟩ ⟨rfl, hy⟩
      have hy : (intsV (keepsL ss o wy))[k]? = some y := hy
      unfold intsV at hy
      rw [List.getElem?_map, Option.map_eq_some_iff] at hy
      obtain ⟨n, en, rfl⟩ := hy
      have hn := kin n (List.mem_of_getElem? en)
      obtain ⟨i, t, ht, tn, tm⟩ := tin n hn
      have offH : Same H G2 := fun b o e => off b o (ne_of_none e nB) (sH3 _ _ e)
      obtain ⟨as, xs, S, a, b, wy2, nk, tA, e0, tS, en2, ta⟩ := tab_at (ask_same offH hA) hn
      have tmem := List.mem_of_getElem? ht
      have l60 : (t.at m t.rows.length).length ≤ 60 := by
        unfold Tab.at
        refine Nat.le_trans (List.length_filter_le _ _) ?_
        rw [List.length_map, List.length_zipIdx, List.length_take]
        have := ok.rows t tmem
        omega
      have ec : cntAt x m (tabOf ss n) = (t.at m t.rows.length).length := by rw [← tn, cntAt_of ok.nd tmem]
      have hS2 := hS.same offH
      obtain ⟨dx, a', b', c', d', ds, ca, rl, Si, hF⟩ := id hS2
      have tk : goB (fun n => cntAt x m (tabOf ss n)) room ((keepsL ss o wy).take (k + 1)) = stepB (fun n => cntAt x m (tabOf ss n)) (goB (fun n => cntAt x m (tabOf ss n)) room ((keepsL ss o wy).take k)) n := by
        rw [List.take_add_one, en]
        exact goB_snoc _ _ _ _
      rw [tk]
      have gk := gl k
      generalize goB (fun n => cntAt x m (tabOf ss n)) room ((keepsL ss o wy).take k) = st at eB gk ⊢
      obtain ⟨lk, rs, kp⟩ := st
      refine ⟨_, rfl, p, dx, _, rfl, Si.ins, sf_no (by decide), _, rfl, AK, _, 0, _, rfl, rfl, tA, atI_nat (j := 0) e0, _, rfl, S, _, _, _, rfl, rfl, tS, atI_nat (j := n) en2, a, _, 2, _, rfl, rfl, ta, atI_nat (j := 2) rfl, _, rfl, rfl, rfl, p, x, FF, i, t, mo, ?_, hS2, ok, ht, by rw [hm]; exact mo1, by rw [hm]; exact tm, fun G3 D3 us s3' nD3 eD3 dA => ?_⟩
      · rw [tn]
        rfl
      rw [hm] at dA
      have lu : us.length = cntAt x m (tabOf ss n) := by rw [DpAll.len dA, List.length_map, ec]
      refine ⟨D3, _, rfl, .inl (SqL.of eD3), ?_⟩
      rw [lu]
      have eB3' := s3' _ _ eB
      refine ⟨_, rfl, _, rfl, _, _, rfl, rfl, _, rfl, ?_⟩
      unfold stepB
      by_cases z : cntAt x m (tabOf ss n) ≤ rs
      · rw [if_pos z]
        refine iteT' (decide_eq_true (by show ((cntAt x m (tabOf ss n) : Nat) : Int) ≤ ((rs : Nat) : Int); omega)) ?_
        refine ⟨_, rfl, _, rfl, _, _, rfl, rfl, ?_⟩
        refine ⟨_, rfl, _, rfl, _, _, rfl, rfl, ?_⟩
        refine ⟨_, rfl, .inl ⟨rfl, _, SqL.of eB3'⟩, _, rfl, B, _, _, rfl, rfl, eB3', by unfold intsV; rw [List.length_map, sizeLine_eq]; omega, ?_⟩
        refine ⟨⟨some (.int ((n : Nat) : Int)), some (.int ((cntAt x m (tabOf ss n) : Nat) : Int)), ?_⟩, fun b0 o0 nb e => by rw [upd_ne nb]; exact s3' _ _ (off b0 o0 nb e), ?_⟩
        · show [_, _, _, _, _, some (V.int (((lk : Nat) : Int) + ((cntAt x m (tabOf ss n) : Nat) : Int))), some (V.int (((rs : Nat) : Int) - ((cntAt x m (tabOf ss n) : Nat) : Int))), _, _, _] = _
          rw [show ((lk : Nat) : Int) + ((cntAt x m (tabOf ss n) : Nat) : Int) = ((lk + cntAt x m (tabOf ss n) : Nat) : Int) by omega, show ((rs : Nat) : Int) - ((cntAt x m (tabOf ss n) : Nat) : Int) = ((rs - cntAt x m (tabOf ss n) : Nat) : Int) by omega]
        · rw [upd_same]
          unfold intsV
          rw [List.map_append]
          rfl
      · rw [if_neg z]
        refine iteF' (by rw [decide_eq_true_eq]; show ¬ ((cntAt x m (tabOf ss n) : Nat) : Int) ≤ ((rs : Nat) : Int); omega) ?_
        exact ⟨⟨_, _, rfl⟩, fun b0 o0 nb e => s3' _ _ (off b0 o0 nb e), eB3'⟩
    · rintro σ G1 ⟨⟨y8, y9, rfl⟩, off, eB⟩
      rw [ll, List.take_length] at eB ⊢
      exact ⟨⟨_, _, rfl⟩, fun b o e => off b o (ne_of_none e nB) (sH3 _ _ e), eB⟩
  rintro σ' G2 ⟨⟨y8, y9, rfl⟩, sG, eB⟩
  refine ⟨_, rfl, _, rfl, .inl ⟨B, _, rfl, SqL.of eB, fun tq ntq => ⟨by show 2 ≤ sizeLine; decide, fun rq nrq => ?_⟩⟩⟩
  have jt := new_same (o := .tup (intsV (goB (fun n => cntAt x m (tabOf ss n)) room (keepsL ss o wy)).2.2)) ntq
  have jr := new_same (o := .tup [.int ((goB (fun n => cntAt x m (tabOf ss n)) room (keepsL ss o wy)).1 : Nat), .ref tq]) nrq
  exact q rq tq _ ((sG.trans jt).trans jr) (SqT.of upd_same) (Tups.of_same jr _ _ (SqT.of upd_same))
end
end K37
end

section
set_option Elab.async false
set_option linter.all false
set_option maxRecDepth 100000
set_option maxHeartbeats 4000000
/-! Tables of deeds. -/
namespace K37t
open PySem PySem.Spec PyProof.Rows L2 Gd
/-- tables by deeds done one behind another -/
structure Chain (ds : List Deed) (xs : Nat → Shelf) : Prop where
  z : xs 0 = ⟨[], []⟩
  s : ∀ (k : Nat) (d : Deed), ds[k]? = some d → DeedOk d ∧ ∃ y, Can (xs k) d y ∧ xs (k + 1) = { y with deeds := (xs k).deeds ++ [d] }
theorem Chain.deeds {ds : List Deed} {xs : Nat → Shelf} (c : Chain ds xs) : ∀ k, k ≤ ds.length → (xs k).deeds = ds.take k
  | 0, _ => by rw [c.z]; rfl
  | k + 1, h => by
    have e : ds[k]? = some ds[k] := List.getElem?_eq_getElem (by omega)
    obtain ⟨_, y, _, e2⟩ := c.s k _ e
    rw [e2, List.take_add_one, e, ← c.deeds k (by omega)]
    rfl
theorem Chain.len {ds : List Deed} {xs : Nat → Shelf} (c : Chain ds xs) (k : Nat) (h : k ≤ ds.length) : (xs k).deeds.length = k := by
  rw [c.deeds k h, List.length_take]
  omega
theorem ok_none : ShelfOk ⟨[], []⟩ := ⟨List.Pairwise.nil, fun _ h => (nomatch h), Nat.zero_le _, Nat.zero_le _, fun _ h => (nomatch h), fun _ h => (nomatch h)⟩
theorem Chain.ok {ds : List Deed} {xs : Nat → Shelf} (c : Chain ds xs) (h4 : ds.length ≤ 4000) : ∀ k, k ≤ ds.length → ShelfOk (xs k)
  | 0, _ => by rw [c.z]; exact ok_none
  | k + 1, h => by
    have e : ds[k]? = some ds[k] := List.getElem?_eq_getElem (by omega)
    obtain ⟨dok, y, can, e2⟩ := c.s k _ e
    rw [e2]
    exact (c.ok h4 k (by omega)).next dok can (by rw [c.len k (by omega)]; omega)
def spInitL (K : PySem.W.Frag) (C : Addr) : Sp := fun vs H Q _ => ∃ (p L dx : Addr) (us : List V) (ds : List Deed) (xs : Nat → Shelf), vs = [.ref p, .ref L] ∧ H p = some (.ins C dx []) ∧ H L = some (.lst us) ∧ PySem.W.EachIs (fun v d => ∃ t, v = .ref t ∧ DeedAt K H t d) us ds ∧ Chain ds xs ∧ ds.length ≤ 4000 ∧
  ∀ H' F', ShelfF K C H' p (xs ds.length) F' → (∀ b o, b ≠ p → H b = some o → H' b = some o) → (∀ b, F' b → b = p ∨ H b = none) → Q .non H'
section
variable {P : Program} {w : World} {K : PySem.W.Frag} {mg : Str → Option Value} {base : Heap} {f C fZ : Addr} {fd dZ : FuncData} {dvs : List V} {kws : List (Str × V)}
theorem ok_initL (F : FunD K "__init__" "Tables.__init__" (defArgs sInit) (defBody sInit) (defScope sInit) dvs kws f fd) (T : TxtT K mg C) (MD : Mt P w K mg base C "do" ["self", "deed"] CX0 4 (spDo K C)) : FnOk P w K mg base CX0 5 f fd ["self", "deeds"] (spInitL K C) := by
  refine okFD F scInit (fun vs H Q E h => ?_) (fun cdv A outer s H vs Q E hr h => ?_)
  · obtain ⟨p, L, dx, us, ds, xs, rfl, _⟩ := h
    rfl
  obtain ⟨p, L, dx, us, ds, xs, rfl, hp, hL, hds, ch, l4, q⟩ := h
  obtain ⟨fM, dM, mM, GM, bM⟩ := MD.ex
  have nd := scInit.nd
  refine ⟨_, pss_cons (ps_fld (pv 0) (pe_lst pa_nil) rfl) (pss_cons (ps_fld (pv 0) pe_dnewK rfl) (pss_cons (ps_fld (pv 0) pe_dnewK rfl) (pss_cons (ps_fld (pv 0) pe_dnewK rfl)
    (pss_one (ps_for PassesOwn.never rfl (pi_list (pv 1)) (pg_name (i := 2) nd rfl (.inl rfl)) (pss_one (ps_expr (pe_meth (pv 0) T.cl mM GM hr bM .nil pass0 (pa_cons (pv 2) pa_nil))))))))), ?_⟩
  refine ⟨Nat.zero_le _, fun a na => ?_⟩
  have npa : p ≠ a := ne_of_none hp na
  refine ⟨_, rfl, p, C, dx, _, rfl, (upd_ne npa).trans hp, T.cl, T.nD, (by show 0 < 1000; decide), ?_⟩
  have p1 : upd (upd H a (.lst [])) p (.ins C dx (putF "_deeds" (.ref a) [])) p = some (.ins C dx (putF "_deeds" (.ref a) [])) := upd_same
  have a1 : upd (upd H a (.lst [])) p (.ins C dx (putF "_deeds" (.ref a) [])) a = some (.lst []) := by rw [upd_ne npa.symm, upd_same]
  have k1 : ∀ q, q ≠ p → q ≠ a → upd (upd H a (.lst [])) p (.ins C dx (putF "_deeds" (.ref a) [])) q = H q := fun q h1 h2 => by rw [upd_ne h1, upd_ne h2]
  generalize upd (upd H a (.lst [])) p (.ins C dx (putF "_deeds" (.ref a) [])) = H1 at p1 a1 k1 ⊢
  intro b nb
  have npb : p ≠ b := ne_of_none p1 nb
  have nab : a ≠ b := ne_of_none a1 nb
  refine ⟨_, rfl, p, C, dx, _, rfl, (upd_ne npb).trans p1, T.cl, T.nC, (by show 1 < 1000; decide), ?_⟩
  have p2 : upd (upd H1 b (.dK [])) p (.ins C dx (putF "_columns" (.ref b) (putF "_deeds" (.ref a) []))) p = some (.ins C dx (putF "_columns" (.ref b) (putF "_deeds" (.ref a) []))) := upd_same
  have b2 : upd (upd H1 b (.dK [])) p (.ins C dx (putF "_columns" (.ref b) (putF "_deeds" (.ref a) []))) b = some (.dK []) := by rw [upd_ne npb.symm, upd_same]
  have k2 : ∀ q, q ≠ p → q ≠ b → upd (upd H1 b (.dK [])) p (.ins C dx (putF "_columns" (.ref b) (putF "_deeds" (.ref a) []))) q = H1 q := fun q h1 h2 => by rw [upd_ne h1, upd_ne h2]
  generalize upd (upd H1 b (.dK [])) p (.ins C dx (putF "_columns" (.ref b) (putF "_deeds" (.ref a) []))) = H2 at p2 b2 k2 ⊢
  have a2 := (k2 a npa.symm nab).trans a1
  intro c nc
  have npc : p ≠ c := ne_of_none p2 nc
  have nac : a ≠ c := ne_of_none a2 nc
  have nbc : b ≠ c := ne_of_none b2 nc
  refine ⟨_, rfl, p, C, dx, _, rfl, (upd_ne npc).trans p2, T.cl, T.nM, (by show 2 < 1000; decide), ?_⟩
  have p3 : upd (upd H2 c (.dK [])) p (.ins C dx (putF "_made" (.ref c) (putF "_columns" (.ref b) (putF "_deeds" (.ref a) [])))) p = some (.ins C dx (putF "_made" (.ref c) (putF "_columns" (.ref b) (putF "_deeds" (.ref a) [])))) := upd_same
  have c3 : upd (upd H2 c (.dK [])) p (.ins C dx (putF "_made" (.ref c) (putF "_columns" (.ref b) (putF "_deeds" (.ref a) [])))) c = some (.dK []) := by rw [upd_ne npc.symm, upd_same]
  have k3 : ∀ q, q ≠ p → q ≠ c → upd (upd H2 c (.dK [])) p (.ins C dx (putF "_made" (.ref c) (putF "_columns" (.ref b) (putF "_deeds" (.ref a) [])))) q = H2 q := fun q h1 h2 => by rw [upd_ne h1, upd_ne h2]
  generalize upd (upd H2 c (.dK [])) p (.ins C dx (putF "_made" (.ref c) (putF "_columns" (.ref b) (putF "_deeds" (.ref a) [])))) = H3 at p3 c3 k3 ⊢
  have a3 := (k3 a npa.symm nac).trans a2
  have b3 := (k3 b npb.symm nbc).trans b2
  intro d nd'
  have npd : p ≠ d := ne_of_none p3 nd'
  have nad : a ≠ d := ne_of_none a3 nd'
  have nbd : b ≠ d := ne_of_none b3 nd'
  have ncd : c ≠ d := ne_of_none c3 nd'
  refine ⟨_, rfl, p, C, dx, _, rfl, (upd_ne npd).trans p3, T.cl, T.nR, (by show 3 < 1000; decide), ?_⟩
  have p4 : upd (upd H3 d (.dK [])) p (.ins C dx (putF "_rows" (.ref d) (putF "_made" (.ref c) (putF "_columns" (.ref b) (putF "_deeds" (.ref a) []))))) p = some (.ins C dx (sf a b c d)) := by rw [upd_same]; rfl
  have d4 : upd (upd H3 d (.dK [])) p (.ins C dx (putF "_rows" (.ref d) (putF "_made" (.ref c) (putF "_columns" (.ref b) (putF "_deeds" (.ref a) []))))) d = some (.dK []) := by rw [upd_ne npd.symm, upd_same]
  have k4 : ∀ q, q ≠ p → q ≠ d → upd (upd H3 d (.dK [])) p (.ins C dx (putF "_rows" (.ref d) (putF "_made" (.ref c) (putF "_columns" (.ref b) (putF "_deeds" (.ref a) []))))) q = H3 q := fun q h1 h2 => by rw [upd_ne h1, upd_ne h2]
  generalize upd (upd H3 d (.dK [])) p (.ins C dx (putF "_rows" (.ref d) (putF "_made" (.ref c) (putF "_columns" (.ref b) (putF "_deeds" (.ref a) []))))) = H4 at p4 d4 k4 ⊢
  have a4 := (k4 a npa.symm nad).trans a3
  have b4 := (k4 b npb.symm nbd).trans b3
  have c4 := (k4 c npc.symm ncd).trans c3
  have nb0 : H b = none := by rw [← k1 b npb.symm nab.symm]; exact nb
  have nc0 : H c = none := by rw [← k1 c npc.symm nac.symm, ← k2 c npc.symm nbc.symm]; exact nc
  have nd0 : H d = none := by rw [← k1 d npd.symm nad.symm, ← k2 d npd.symm nbd.symm, ← k3 d npd.symm ncd.symm]; exact nd'
  have off : ∀ q o, q ≠ p → H q = some o → H4 q = some o := fun q o n e => by
    rw [k4 q n (ne_of_none e nd0), k3 q n (ne_of_none e nc0), k2 q n (ne_of_none e nb0), k1 q n (ne_of_none e na)]
    exact e
  have hL4 := off _ _ (ne_of hL hp (fun y => nomatch y)) hL
  have tp4 : ∀ {G : Hp}, (∀ q o, q ≠ p → H q = some o → G q = some o) → Tups K H G := fun {G} k => tups_off fun q o e n1 n2 n3 => k q o (fun z => by rw [z, hp] at e; exact n3 _ _ _ (Option.some.inj e).symm) e
  refine ⟨_, rfl, L, rfl, ⟨_, SqL.of hL4⟩, ?_⟩
  have lu : us.length = ds.length := hds.length
  refine for_it (walk_list (K := K) (a := L) (xs := us)) (fun k σ G => (∃ y2, σ = [some (.ref p), some (.ref L), y2]) ∧ (∀ b o, b ≠ p → H b = some o → G b = some o) ∧ ∃ F', ShelfF K C G p (xs k) F' ∧ ∀ b, F' b → b = p ∨ H b = none) ⟨⟨_, rfl⟩, off, foot p a b c d 0 (fun _ => a), ?_, fun r hr' => ?_⟩ (fun k σ G _ z => SqL.of (z.2.1 _ _ (ne_of hL hp (fun y => nomatch y)) hL)) ?_ ?_
  · rw [ch.z]
    exact ⟨dx, a, b, c, d, [], (fun _ => a), (fun _ => a), ⟨p4, a4, .nil, b4, fun i t h => by simp at h, c4, d4, fun i t h => by simp at h, nbc, nbd, ncd, fun i j h => absurd h (Nat.not_lt_zero _), fun i h => absurd h (Nat.not_lt_zero _)⟩, fun r => Iff.rfl⟩
  · rcases hr' with z | z | z | z | z | ⟨i, hi, _⟩
    · exact .inl z
    · exact .inr (by rw [z]; exact na)
    · exact .inr (by rw [z]; exact nb0)
    · exact .inr (by rw [z]; exact nc0)
    · exact .inr (by rw [z]; exact nd0)
    · exact absurd hi (Nat.not_lt_zero _)
  · rintro k y σ G G2 hk ⟨⟨y2, rfl⟩, offG, F', shf, new⟩ ⟨rfl, hy⟩
    have hy : us[k]? = some y := hy
    have hk : k < ds.length := by rw [← lu]; exact hk
    obtain ⟨dd, ed, t, rfl, hd⟩ := each_at hds hy
    obtain ⟨dok, yy, can, e2⟩ := ch.s k dd ed
    obtain ⟨dx2, a2', b2', c2', d2', ds2, ca2, rl2, S2, hF2⟩ := id shf
    refine ⟨_, rfl, p, dx2, _, rfl, S2.ins, sf_no (by decide), _, rfl, p, t, xs k, yy, F', dd, rfl, shf, ch.ok l4 k (by omega), by rw [ch.len k (by omega)]; omega, hd.tups (tp4 offG), dok, can, fun G3 F3 v shf3 af => ?_⟩
    rw [← e2] at shf3
    have nF : ∀ {b o}, b ≠ p → H b = some o → ¬ F' b := fun nb e hb => by
      rcases new _ hb with z | z
      · exact nb z
      · rw [e] at z
        cases z
    refine ⟨⟨_, rfl⟩, fun b o nb e => af.off b o (nF nb e) (offG b o nb e), F3, shf3, fun b hb => ?_⟩
    rcases af.new b hb with z | z
    · exact new b z
    · by_cases nb : b = p
      · exact .inl nb
      · refine .inr ?_
        cases e : H b with
        | none => rfl
        | some o =>
          have := offG b o nb e
          rw [z] at this
          cases this
  · rintro σ G ⟨⟨y2, rfl⟩, offG, F', shf, new⟩
    rw [lu] at shf
    exact q G F' shf offG new
end
end K37t
end

section
set_option Elab.async false
set_option linter.all false
set_option maxRecDepth 100000
set_option maxHeartbeats 4000000
/-! how many rows are there at a moment, by the deeds. -/
namespace K37t
open PySem PySem.Spec PyProof.Rows L2 Gd
theorem at_len (t : Tab) (m : Nat) : (t.at m t.rows.length).length = (t.rows.filter (stands m)).length := by
  unfold Tab.at
  rw [List.take_length, List.filter_map, List.length_map]
  have e : ∀ l : List Rw, ∀ k, ((l.zipIdx k).filter ((fun p : Nat × Rw => stands m p.2) ∘ fun p : Rw × Nat => (p.2, p.1))).length = (l.filter (stands m)).length := fun l => by
    induction l with
    | nil => intro k; rfl
    | cons r l ih =>
      intro k
      rw [List.zipIdx_cons, List.filter_cons, List.filter_cons]
      by_cases z : stands m r = true
      · rw [if_pos (show ((fun p : Nat × Rw => stands m p.2) ∘ fun p : Rw × Nat => (p.2, p.1)) (r, k) = true from z), if_pos z, List.length_cons, List.length_cons, ih]
      · rw [if_neg (show ¬ ((fun p : Nat × Rw => stands m p.2) ∘ fun p : Rw × Nat => (p.2, p.1)) (r, k) = true from z), if_neg z, ih]
  exact e _ 0
/-- the same by the tables alone -/
def cntL (ts : List Tab) (m : Nat) (n : Str) : Nat := match ts.find? fun t => decide (t.name = n) with
  | some t => (t.rows.filter (stands m)).length
  | none => 0
/-- each row was put and taken out by deeds that were done -/
def Past (x : Shelf) : Prop := ∀ t ∈ x.tabs, ∀ r ∈ t.rows, r.put < x.deeds.length ∧ ∀ o, r.out = some o → o < x.deeds.length
theorem stands_next {r : Rw} {k : Nat} (h1 : r.put < k) (h2 : ∀ o, r.out = some o → o < k) : stands (k + 1) r = stands k r := by
  unfold stands
  cases e : r.out with
  | none =>
    have : decide (r.put < k + 1) = decide (r.put < k) := by rw [decide_eq_true h1, decide_eq_true (by omega)]
    rw [this]
  | some o =>
    have z := h2 o e
    show (decide (r.put < k + 1) && decide (k + 1 ≤ o)) = (decide (r.put < k) && decide (k ≤ o))
    rw [decide_eq_false (show ¬ k + 1 ≤ o by omega), decide_eq_false (show ¬ k ≤ o by omega), Bool.and_false, Bool.and_false]
theorem filter_next {rs : List Rw} {k : Nat} (h : ∀ r ∈ rs, r.put < k ∧ ∀ o, r.out = some o → o < k) : rs.filter (stands (k + 1)) = rs.filter (stands k) :=
  List.filter_congr fun r hr => stands_next (h r hr).1 (h r hr).2
/-- what a deed adds to a name's rows -/
def gain (d : Deed) (n : Str) : Int := match d with
  | .table _ _ => 0
  | .row a _ => if a = n then 1 else 0
  | .out a _ => if a = n then -1 else 0
theorem find_on (ts : List Tab) (a n : Str) (g : List Rw → List Rw) : (ts.map (onTab a fun t => { t with rows := g t.rows })).find? (fun t => decide (t.name = n)) = (ts.find? fun t => decide (t.name = n)).map (onTab a fun t => { t with rows := g t.rows }) := by
  rw [List.find?_map]
  congr 1
  congr 1
  funext t
  show decide ((onTab a (fun t => { t with rows := g t.rows }) t).name = n) = _
  rw [(onTab_same a g t).1]
theorem find_name {ts : List Tab} {n : Str} {t : Tab} (h : ts.find? (fun t => decide (t.name = n)) = some t) : t ∈ ts ∧ t.name = n := ⟨List.mem_of_find?_eq_some h, by simpa using List.find?_some h⟩
theorem set_count {rs : List Rw} {k : Nat} {r s : Rw} {f : Rw → Bool} (h : rs[k]? = some r) : ((rs.set k s).filter f).length + (if f r then 1 else 0) = (rs.filter f).length + (if f s then 1 else 0) := by
  induction rs generalizing k with
  | nil => simp at h
  | cons a rs ih =>
    cases k with
    | zero =>
      have e : a = r := by simpa using h
      subst e
      rw [List.set_cons_zero, List.filter_cons, List.filter_cons]
      by_cases z1 : f s = true <;> by_cases z2 : f a = true <;> simp [z1, z2]
    | succ k =>
      have z := ih (k := k) (by simpa using h)
      rw [List.set_cons_succ, List.filter_cons, List.filter_cons]
      by_cases z2 : f a = true
      · rw [if_pos z2, if_pos z2, List.length_cons, List.length_cons]
        omega
      · rw [if_neg z2, if_neg z2]
        exact z
theorem cnt_old {x y : Shelf} {d : Deed} (nd : (x.tabs.map Tab.name).Nodup) (can : Can x d y) (m : Nat) (hm : m ≤ x.deeds.length) (n : Str) : cntL y.tabs m n = cntL x.tabs m n := by
  cases d with
  | table a cs =>
    obtain ⟨c1, c2, rfl⟩ := can
    show cntL (x.tabs ++ [_]) m n = _
    unfold cntL
    rw [List.find?_append]
    cases e : x.tabs.find? (fun t => decide (t.name = n)) with
    | some t => rfl
    | none =>
      by_cases z : a = n
      · simp [z]
      · simp [z]
  | row a ws =>
    obtain ⟨i, t, ht, rfl, h60, hl, rfl⟩ := can
    show cntL (x.tabs.map _) m n = _
    unfold cntL
    rw [find_on x.tabs t.name n (fun rs => rs ++ [(⟨ws, x.deeds.length, none⟩ : Rw)])]
    cases e : x.tabs.find? (fun t => decide (t.name = n)) with
    | none => rfl
    | some u =>
      show ((onTab t.name _ u).rows.filter (stands m)).length = _
      unfold onTab
      split
      · show ((u.rows ++ [_]).filter (stands m)).length = _
        rw [List.filter_append]
        have : stands m ⟨ws, x.deeds.length, none⟩ = false := by
          unfold stands
          rw [decide_eq_false (show ¬ x.deeds.length < m by omega), Bool.false_and]
        simp [this]
      · rfl
  | out a k =>
    obtain ⟨i, t, r, ht, rfl, hk, ho, rfl⟩ := can
    show cntL (x.tabs.map _) m n = _
    unfold cntL
    rw [find_on x.tabs t.name n (fun rs => rs.set k ⟨r.ws, r.put, some x.deeds.length⟩)]
    cases e : x.tabs.find? (fun t => decide (t.name = n)) with
    | none => rfl
    | some u =>
      show ((onTab t.name _ u).rows.filter (stands m)).length = _
      unfold onTab
      split
      · rename_i en
        obtain ⟨hu, _⟩ := find_name e
        have eu := tab_one nd ht hu en
        subst eu
        show ((u.rows.set k _).filter (stands m)).length = (u.rows.filter (stands m)).length
        have z := set_count (s := ⟨r.ws, r.put, some x.deeds.length⟩) (f := stands m) hk
        have : stands m ⟨r.ws, r.put, some x.deeds.length⟩ = stands m r := by
          unfold stands
          rw [ho]
          show (decide (r.put < m) && decide (m ≤ x.deeds.length)) = (decide (r.put < m) && true)
          rw [decide_eq_true hm]
        rw [this] at z
        omega
      · rfl
theorem cnt_new {x y : Shelf} {d : Deed} (nd : (x.tabs.map Tab.name).Nodup) (past : Past x) (can : Can x d y) (n : Str) : (cntL y.tabs (x.deeds.length + 1) n : Int) = cntL x.tabs x.deeds.length n + gain d n := by
  cases d with
  | table a cs =>
    obtain ⟨c1, c2, rfl⟩ := can
    show (cntL (x.tabs ++ [_]) _ n : Int) = _
    unfold cntL gain
    rw [List.find?_append]
    cases e : x.tabs.find? (fun t => decide (t.name = n)) with
    | some t =>
      obtain ⟨ht, _⟩ := find_name e
      show (((t.rows.filter _).length : Nat) : Int) = _
      rw [filter_next (past t ht)]
      simp
    | none =>
      by_cases z : a = n
      · simp [z]
      · simp [z]
  | row a ws =>
    obtain ⟨i, t, ht, rfl, h60, hl, rfl⟩ := can
    show (cntL (x.tabs.map _) _ n : Int) = _
    unfold cntL gain
    rw [find_on x.tabs t.name n (fun rs => rs ++ [(⟨ws, x.deeds.length, none⟩ : Rw)])]
    cases e : x.tabs.find? (fun t => decide (t.name = n)) with
    | none =>
      have : t.name ≠ n := fun z => by
        have := List.find?_eq_none.mp e t (List.mem_of_getElem? ht)
        simp [z] at this
      simp [this]
    | some u =>
      obtain ⟨hu, un⟩ := find_name e
      show ((((onTab t.name _ u).rows.filter (stands (x.deeds.length + 1))).length : Nat) : Int) = ((u.rows.filter (stands x.deeds.length)).length : Int) + if t.name = n then 1 else 0
      unfold onTab
      by_cases z : u.name = t.name
      · rw [if_pos z, if_pos (z.symm.trans un)]
        show ((((u.rows ++ [_]).filter (stands (x.deeds.length + 1))).length : Nat) : Int) = _
        rw [List.filter_append, filter_next (past u hu)]
        have : stands (x.deeds.length + 1) ⟨ws, x.deeds.length, none⟩ = true := by
          unfold stands
          rw [decide_eq_true (by show x.deeds.length < _; omega)]
          rfl
        simp [this]
      · rw [if_neg z, if_neg (fun w => z (un.trans w.symm)), filter_next (past u hu)]
        simp
  | out a k =>
    obtain ⟨i, t, r, ht, rfl, hk, ho, rfl⟩ := can
    show (cntL (x.tabs.map _) _ n : Int) = _
    unfold cntL gain
    rw [find_on x.tabs t.name n (fun rs => rs.set k ⟨r.ws, r.put, some x.deeds.length⟩)]
    cases e : x.tabs.find? (fun t => decide (t.name = n)) with
    | none =>
      have : t.name ≠ n := fun z => by
        have := List.find?_eq_none.mp e t (List.mem_of_getElem? ht)
        simp [z] at this
      simp [this]
    | some u =>
      obtain ⟨hu, un⟩ := find_name e
      show ((((onTab t.name _ u).rows.filter (stands (x.deeds.length + 1))).length : Nat) : Int) = ((u.rows.filter (stands x.deeds.length)).length : Int) + if t.name = n then -1 else 0
      unfold onTab
      by_cases z : u.name = t.name
      · rw [if_pos z, if_pos (z.symm.trans un)]
        have eu := tab_one nd ht hu z
        subst eu
        show ((((u.rows.set k _).filter (stands (x.deeds.length + 1))).length : Nat) : Int) = _
        have c := set_count (s := ⟨r.ws, r.put, some x.deeds.length⟩) (f := stands (x.deeds.length + 1)) hk
        have pr := past u hu r (List.mem_of_getElem? hk)
        have s1 : stands (x.deeds.length + 1) ⟨r.ws, r.put, some x.deeds.length⟩ = false := by
          unfold stands
          show (decide _ && decide (x.deeds.length + 1 ≤ x.deeds.length)) = false
          rw [decide_eq_false (show ¬ x.deeds.length + 1 ≤ x.deeds.length by omega), Bool.and_false]
        have s2 : stands (x.deeds.length + 1) r = true := by
          unfold stands
          rw [ho, decide_eq_true (show r.put < x.deeds.length + 1 by omega)]
          rfl
        rw [s1, s2, filter_next (past u hu)] at c
        simp only [if_true, Bool.false_eq_true, if_false] at c
        omega
      · rw [if_neg z, if_neg (fun w => z (un.trans w.symm)), filter_next (past u hu)]
        simp
theorem past_next {x y : Shelf} {d : Deed} (past : Past x) (can : Can x d y) : Past { y with deeds := x.deeds ++ [d] } := by
  have up : ∀ {r : Rw} {k : Nat}, (r.put < k ∧ ∀ o, r.out = some o → o < k) → (r.put < k + 1 ∧ ∀ o, r.out = some o → o < k + 1) := fun h => ⟨by omega, fun o e => by have := h.2 o e; omega⟩
  have hl : (x.deeds ++ [d]).length = x.deeds.length + 1 := by rw [List.length_append, List.length_singleton]
  intro u hu r hr
  show r.put < (x.deeds ++ [d]).length ∧ ∀ o, r.out = some o → o < (x.deeds ++ [d]).length
  rw [hl]
  cases d with
  | table a cs =>
    obtain ⟨c1, c2, rfl⟩ := can
    rcases List.mem_append.mp (show u ∈ x.tabs ++ [_] from hu) with h | h
    · exact up (past u h r hr)
    · rw [List.mem_singleton.mp h] at hr
      cases hr
  | row a ws =>
    obtain ⟨i, t, ht, rfl, h60, hl2, rfl⟩ := can
    obtain ⟨t0, h0, _, _, _, (⟨_, e⟩ | ⟨en, e⟩)⟩ := onRows_mem (x := x) (n := t.name) (g := fun rs => rs ++ [⟨ws, x.deeds.length, none⟩]) hu
    · rw [e] at hr
      exact up (past t0 h0 r hr)
    · rw [e] at hr
      rcases List.mem_append.mp hr with h | h
      · exact up (past t0 h0 r h)
      · rw [List.mem_singleton.mp h]
        exact ⟨Nat.lt_succ_self _, fun o e => nomatch e⟩
  | out a k =>
    obtain ⟨i, t, r0, ht, rfl, hk, ho, rfl⟩ := can
    obtain ⟨t0, h0, _, _, _, (⟨_, e⟩ | ⟨en, e⟩)⟩ := onRows_mem (x := x) (n := t.name) (g := fun rs => rs.set k ⟨r0.ws, r0.put, some x.deeds.length⟩) hu
    · rw [e] at hr
      exact up (past t0 h0 r hr)
    · rw [e] at hr
      rcases List.mem_or_eq_of_mem_set hr with h | h
      · exact up (past t0 h0 r h)
      · rw [h]
        have z := past t (List.mem_of_getElem? ht) r0 (List.mem_of_getElem? hk)
        exact ⟨by show r0.put < _; omega, fun o e => by cases e; exact Nat.lt_succ_self _⟩
/-- how many rows of a name deeds leave -/
def sizeI (ds : List Deed) (n : Str) : Int := (ds.map fun d => gain d n).sum
theorem sizeI_snoc (ds : List Deed) (d : Deed) (n : Str) : sizeI (ds ++ [d]) n = sizeI ds n + gain d n := by
  unfold sizeI
  rw [List.map_append, List.sum_append]
  simp
theorem Chain.past {ds : List Deed} {xs : Nat → Shelf} (c : Chain ds xs) : ∀ k, k ≤ ds.length → Past (xs k)
  | 0, _ => by rw [c.z]; exact fun t ht => nomatch ht
  | k + 1, h => by
    have e : ds[k]? = some ds[k] := List.getElem?_eq_getElem (by omega)
    obtain ⟨_, y, can, e2⟩ := c.s k _ e
    rw [e2]
    exact past_next (c.past k (by omega)) can
theorem Chain.size {ds : List Deed} {xs : Nat → Shelf} (c : Chain ds xs) (h4 : ds.length ≤ 4000) (n : Str) : ∀ k, k ≤ ds.length → ∀ m, m ≤ k → (cntL (xs k).tabs m n : Int) = sizeI (ds.take m) n
  | 0, _, m, hm => by
    have : m = 0 := by omega
    subst this
    rw [c.z]
    rfl
  | k + 1, h, m, hm => by
    have e : ds[k]? = some ds[k] := List.getElem?_eq_getElem (by omega)
    obtain ⟨_, y, can, e2⟩ := c.s k _ e
    have nd := (c.ok h4 k (by omega)).nd
    have lk := c.len k (by omega)
    rw [e2]
    show (cntL y.tabs m n : Int) = _
    by_cases z : m ≤ k
    · rw [cnt_old nd can m (by rw [lk]; exact z) n]
      exact c.size h4 n k (by omega) m z
    · have : m = (xs k).deeds.length + 1 := by rw [lk]; omega
      rw [this, cnt_new nd (c.past k (by omega)) can n, c.size h4 n k (by omega) _ (by rw [lk]; exact Nat.le_refl _), lk, List.take_add_one, e]
      exact (sizeI_snoc _ _ _).symm
end K37t
end

section
set_option Elab.async false
set_option linter.all false
set_option maxRecDepth 100000
set_option maxHeartbeats 4000000
/-! deeds drawn by the law, with what it keeps of them. -/
namespace K37t
open PySem PySem.Spec PyProof.Rows L2 Gd
theorem on_at {x : Shelf} (nd : (x.tabs.map Tab.name).Nodup) {i : Nat} {t : Tab} (ht : x.tabs[i]? = some t) (g : List Rw → List Rw) {j : Nat} {u : Tab} (e : (x.onRows t.name g).tabs[j]? = some u) :
    (j = i ∧ u = { t with rows := g t.rows }) ∨ (j ≠ i ∧ x.tabs[j]? = some u) := by
  have e : (x.tabs.map (onTab t.name fun t => { t with rows := g t.rows }))[j]? = some u := e
  rw [List.getElem?_map, Option.map_eq_some_iff] at e
  obtain ⟨t0, z, rfl⟩ := e
  by_cases ij : j = i
  · subst ij
    rw [ht] at z
    cases z
    refine .inl ⟨rfl, ?_⟩
    unfold onTab
    rw [if_pos rfl]
  · refine .inr ⟨ij, ?_⟩
    unfold onTab
    rw [if_neg (fun y => ij (name_inj nd z ht y))]
    exact z
/-- the rows that stand now, by their numbers -/
def inNow (t : Tab) (k : Nat) : Bool := match t.rows[k]? with
  | some r => r.out.isNone
  | none => false
def outs (t : Tab) (j : Nat) : List Nat := (List.range j).filter (inNow t)
theorem outs_succ (t : Tab) (j : Nat) (r : Rw) (h : t.rows[j]? = some r) : outs t (j + 1) = if r.out = none then outs t j ++ [j] else outs t j := by
  unfold outs
  rw [List.range_succ, List.filter_append]
  have e : inNow t j = r.out.isNone := by unfold inNow; rw [h]
  cases ho : r.out with
  | none =>
    rw [ho] at e
    simp [e]
  | some o =>
    rw [ho] at e
    simp [e]
theorem outs_len (t : Tab) (j : Nat) : (outs t j).length ≤ j := by
  unfold outs
  refine Nat.le_trans (List.length_filter_le _ _) ?_
  rw [List.length_range]
  exact Nat.le_refl _
theorem outs_mem (t : Tab) {k j : Nat} (h : k ∈ outs t j) : ∃ r, t.rows[k]? = some r ∧ r.out = none := by
  have z := (List.mem_filter.mp h).2
  unfold inNow at z
  cases e : t.rows[k]? with
  | none => rw [e] at z; cases z
  | some r =>
    rw [e] at z
    exact ⟨r, rfl, by simpa using z⟩
theorem map_eraseIdx {α β : Type} (f : α → β) : ∀ (l : List α) (j : Nat), (l.eraseIdx j).map f = (l.map f).eraseIdx j
  | [], _ => rfl
  | _ :: _, 0 => rfl
  | x :: l, j + 1 => by
    show f x :: (l.eraseIdx j).map f = f x :: (l.map f).eraseIdx j
    rw [map_eraseIdx f l j]
theorem erase_filter {l : List Nat} {i k : Nat} (nd : l.Nodup) (h : l[i]? = some k) : l.eraseIdx i = l.filter fun a => decide (a ≠ k) := by
  induction l generalizing i with
  | nil => simp at h
  | cons a l ih =>
    rw [List.nodup_cons] at nd
    cases i with
    | zero =>
      have e : a = k := by simpa using h
      subst e
      rw [List.eraseIdx_cons_zero, List.filter_cons_of_neg (by simp)]
      exact (List.filter_eq_self.mpr fun b hb => by rw [decide_eq_true_eq]; exact fun z => nd.1 (by rw [← z]; exact hb)).symm
    | succ i =>
      have h : l[i]? = some k := by simpa using h
      have ne : a ≠ k := fun z => nd.1 (by rw [z]; exact List.mem_of_getElem? h)
      rw [List.eraseIdx_cons_succ, List.filter_cons_of_pos (by simpa using ne), ih nd.2 h]
theorem outs_nodup (t : Tab) (j : Nat) : (outs t j).Nodup := List.Nodup.sublist List.filter_sublist List.nodup_range
/-- behind a row more -/
theorem outs_put (t : Tab) (r : Rw) (hr : r.out = none) : outs { t with rows := t.rows ++ [r] } (t.rows ++ [r]).length = outs t t.rows.length ++ [t.rows.length] := by
  rw [List.length_append, List.length_singleton, outs_succ { t with rows := t.rows ++ [r] } t.rows.length r (by show (t.rows ++ [r])[t.rows.length]? = _; rw [List.getElem?_append_right (Nat.le_refl _), Nat.sub_self]; rfl), if_pos hr]
  congr 1
  unfold outs
  refine List.filter_congr fun k hk => ?_
  have hk := List.mem_range.mp hk
  unfold inNow
  show (match (t.rows ++ [r])[k]? with | some r => r.out.isNone | none => false) = _
  rw [List.getElem?_append_left hk]
/-- behind one taken out -/
theorem outs_out (t : Tab) {k i : Nat} {s : Rw} {o : Nat} (hs : s.out = some o) (hi : (outs t t.rows.length)[i]? = some k) : outs { t with rows := t.rows.set k s } (t.rows.set k s).length = (outs t t.rows.length).eraseIdx i := by
  rw [erase_filter (outs_nodup t _) hi, List.length_set]
  have hk : k < t.rows.length := List.mem_range.mp (List.mem_filter.mp (List.mem_of_getElem? hi)).1
  unfold outs
  rw [List.filter_filter]
  refine List.filter_congr fun a ha => ?_
  unfold inNow
  show (match (t.rows.set k s)[a]? with | some r => r.out.isNone | none => false) = _
  by_cases z : a = k
  · subst z
    rw [List.getElem?_set_self hk]
    simp [hs]
  · rw [List.getElem?_set_ne (fun y => z y.symm)]
    simp [z]
def putsK (ts : List Tab) : List (Key × V) := ts.map fun t => (.inr t.name, .int (t.rows.length : Nat))
theorem valV_puts : ∀ (ts : List Tab) (i : Nat) (t : Tab), (ts.map Tab.name).Nodup → ts[i]? = some t → valV (putsK ts) (.inr t.name) = some (.int (t.rows.length : Nat))
  | [], _, _, _, h => by simp at h
  | t0 :: ts, 0, t, _, h => by
    obtain rfl : t0 = t := by simpa using h
    exact valV_pos rfl
  | t0 :: ts, i + 1, t, nd, h => by
    rw [List.map_cons, List.nodup_cons] at nd
    have hi : ts[i]? = some t := by simpa using h
    have e : valV (putsK (t0 :: ts)) (.inr t.name) = valV (putsK ts) (.inr t.name) := valV_neg (fun z => nd.1 (List.mem_map.mpr ⟨t, List.mem_of_getElem? hi, (Sum.inr.inj z).symm⟩))
    rw [e]
    exact valV_puts ts i t nd.2 hi
theorem putK_puts {x : Shelf} (nd : (x.tabs.map Tab.name).Nodup) {i : Nat} {t : Tab} (ht : x.tabs[i]? = some t) (r : Rw) : putK (putsK x.tabs) (.inr t.name) (.int ((t.rows.length + 1 : Nat) : Int)) = putsK (x.onRows t.name fun rs => rs ++ [r]).tabs := by
  unfold putK
  rw [if_pos (by rw [valV_any, valV_puts x.tabs i t nd ht]; rfl)]
  show (x.tabs.map _).map _ = (x.tabs.map _).map _
  rw [List.map_map, List.map_map]
  refine List.map_congr_left fun u hu => ?_
  show (if ((.inr u.name : Key)) = .inr t.name then ((.inr u.name : Key), _) else ((.inr u.name : Key), V.int (u.rows.length : Nat))) = ((.inr (onTab t.name _ u).name : Key), V.int (((onTab t.name _ u).rows.length : Nat) : Int))
  rw [(onTab_same t.name (fun rs => rs ++ [r]) u).1]
  unfold onTab
  by_cases z : u.name = t.name
  · rw [if_pos (congrArg Sum.inr z), if_pos z, tab_one nd ht hu z]
    show _ = ((.inr t.name : Key), V.int (((t.rows ++ [r]).length : Nat) : Int))
    rw [List.length_append, List.length_singleton]
  · rw [if_neg (fun w => z (Sum.inr.inj w)), if_neg z]
theorem putsK_out (x : Shelf) (n : Str) (k : Nat) (s : Rw) : putsK (x.onRows n fun rs => rs.set k s).tabs = putsK x.tabs := by
  show (x.tabs.map _).map _ = x.tabs.map _
  rw [List.map_map]
  refine List.map_congr_left fun u hu => ?_
  show ((.inr (onTab n _ u).name : Key), V.int (((onTab n _ u).rows.length : Nat) : Int)) = _
  rw [(onTab_same n (fun rs => rs.set k s) u).1]
  unfold onTab
  by_cases z : u.name = n
  · rw [if_pos z]
    show ((.inr u.name : Key), V.int (((u.rows.set k s).length : Nat) : Int)) = _
    rw [List.length_set]
  · rw [if_neg z]
theorem Chain.snoc {ds : List Deed} {xs : Nat → Shelf} (c : Chain ds xs) {d : Deed} {y : Shelf} (dok : DeedOk d) (can : Can (xs ds.length) d y) : Chain (ds ++ [d]) (fun k => if k ≤ ds.length then xs k else { y with deeds := (xs ds.length).deeds ++ [d] }) := by
  refine ⟨by rw [if_pos (Nat.zero_le _)]; exact c.z, fun k e h => ?_⟩
  have l := (List.getElem?_eq_some_iff.mp h).1
  rw [List.length_append, List.length_singleton] at l
  by_cases z : k < ds.length
  · rw [List.getElem?_append_left z] at h
    rw [if_pos (by omega), if_pos (by omega)]
    exact c.s k e h
  · have : k = ds.length := by omega
    subst this
    rw [List.getElem?_append_right (Nat.le_refl _), Nat.sub_self] at h
    have e1 : d = e := by simpa using h
    subst e1
    rw [if_pos (Nat.le_refl _), if_neg (by omega)]
    exact ⟨dok, y, can, rfl⟩
abbrev nm3 : List Str := ["ta", "tb", "tc"]
/-- the deeds so far, and what the law keeps of them -/
structure DS (K : PySem.W.Frag) (H : Hp) (l c B D1 D2 : Addr) (T : Nat → Addr) (ds : List Deed) (x : Shelf) : Prop where
  ok : ShelfOk x
  dl : x.deeds.length = ds.length
  lst : ∃ us, H B = some (.lst us) ∧ PySem.W.EachIs (fun v d => ∃ t, v = .ref t ∧ DeedAt K H t d) us ds
  nm : x.tabs.map Tab.name = nm3
  cols : ∀ t ∈ x.tabs, t.cols = (["a", "b"] : List Str)
  few : ∀ t ∈ x.tabs, t.rows.length ≤ 9
  made : ∀ t ∈ x.tabs, t.made < 3
  d1 : H D1 = some (.dK (colsK x.tabs T))
  there : ∀ i t, x.tabs[i]? = some t → H (T i) = some (.lst ((outs t t.rows.length).map fun k => V.int ((k : Nat) : Int)))
  d2 : H D2 = some (.dK (putsK x.tabs))
  d12 : D1 ≠ D2
  inj : ∀ i j, i < 3 → j < 3 → T i = T j → i = j
  offT : ∀ i, i < 3 → T i ≠ B ∧ T i ≠ l ∧ T i ≠ c
  offB : B ≠ l ∧ B ≠ c
section
variable {K : PySem.W.Frag} {H H' : Hp} {l c B D1 D2 : Addr} {T : Nat → Addr} {ds : List Deed} {x y : Shelf}
theorem DS.len (h : DS K H l c B D1 D2 T ds x) : x.tabs.length = 3 := by
  have z := congrArg List.length h.nm
  simpa using z
theorem DS.keep (h : DS K H l c B D1 D2 T ds x) (t : Tups K H H') (k : ∀ b o, (b = B ∨ b = D1 ∨ b = D2 ∨ ∃ i, i < 3 ∧ b = T i) → H b = some o → H' b = some o) : DS K H' l c B D1 D2 T ds x := by
  obtain ⟨us, e, r⟩ := h.lst
  exact ⟨h.ok, h.dl, ⟨us, k _ _ (.inl rfl) e, r.mono fun v d ⟨q, e1, e2⟩ => ⟨q, e1, e2.tups t⟩⟩, h.nm, h.cols, h.few, h.made, k _ _ (.inr (.inl rfl)) h.d1, fun i u e => k _ _ (.inr (.inr (.inr ⟨i, by rw [← h.len]; exact (List.getElem?_eq_some_iff.mp e).1, rfl⟩))) (h.there i u e), k _ _ (.inr (.inr (.inl rfl))) h.d2, h.d12, h.inj, h.offT, h.offB⟩
theorem DS.same (h : DS K H l c B D1 D2 T ds x) (s : Same H H') : DS K H' l c B D1 D2 T ds x := h.keep (Tups.of_same s) fun b o _ e => s b o e
theorem DS.draw (h : DS K H l c B D1 D2 T ds x) {S : Int} (p : Pen H l c S) (xx : Ex1 l H H') : DS K H' l c B D1 D2 T ds x := by
  obtain ⟨ns, t, ov, el, ec, _⟩ := p
  refine h.keep (tups_off fun q o e n1 n2 n3 => xx q o (fun z => by rw [z, el] at e; exact n2 _ (Option.some.inj e).symm) e) fun b o hb e => xx b o (fun z => ?_) e
  rcases hb with y | y | y | ⟨i, hi, y⟩
  · exact h.offB.1 (y.symm.trans z)
  · rw [z.symm.trans y, h.d1] at el
    cases el
  · rw [z.symm.trans y, h.d2] at el
    cases el
  · exact (h.offT i hi).2.1 (y.symm.trans z)
/-- the numbers of one table changed, and the deeds -/
theorem DS.outStep (h : DS K H l c B D1 D2 T ds x) {i k j : Nat} {t : Tab} {r : Rw} (ht : x.tabs[i]? = some t) (hk : t.rows[k]? = some r) (ho : r.out = none) (hj : (outs t t.rows.length)[j]? = some k) {q : Addr} {us : List V} (h4 : ds.length < 3900)
    (eB : H' B = some (.lst (us ++ [.ref q]))) (eu : H B = some (.lst us)) (eT : H' (T i) = some (.lst (((outs t t.rows.length).map fun k => V.int ((k : Nat) : Int)).eraseIdx j))) (hq : DeedAt K H' q (.out t.name k)) (tp : Tups K H H') (kp : ∀ b o, b ≠ B → b ≠ T i → H b = some o → H' b = some o) :
    DeedOk (.out t.name k) ∧ Can x (.out t.name k) (x.onRows t.name fun rs => rs.set k ⟨r.ws, r.put, some x.deeds.length⟩) ∧ DS K H' l c B D1 D2 T (ds ++ [.out t.name k]) { (x.onRows t.name fun rs => rs.set k ⟨r.ws, r.put, some x.deeds.length⟩) with deeds := x.deeds ++ [.out t.name k] } := by
  have tm := List.mem_of_getElem? ht
  have lk := (List.getElem?_eq_some_iff.mp hk).1
  have l9 := h.few t tm
  have i3 : i < 3 := by rw [← h.len]; exact (List.getElem?_eq_some_iff.mp ht).1
  have dok : DeedOk (.out t.name k) := ⟨h.ok.lab t tm, by omega⟩
  have can : Can x (.out t.name k) (x.onRows t.name fun rs => rs.set k ⟨r.ws, r.put, some x.deeds.length⟩) := ⟨i, t, r, ht, rfl, hk, ho, rfl⟩
  obtain ⟨us', eu', ru⟩ := h.lst
  have : us' = us := by rw [eu] at eu'; cases eu'; rfl
  subst this
  have neT : ∀ m, m < 3 → m ≠ i → T m ≠ T i := fun m hm n e => n (h.inj m i hm i3 e)
  refine ⟨dok, can, h.ok.next dok can (by rw [h.dl]; omega), ?_, ⟨us' ++ [.ref q], eB, each_snoc (ru.mono fun v d ⟨q, e1, e2⟩ => ⟨q, e1, e2.tups tp⟩) ⟨q, rfl, hq⟩⟩, by rw [show (x.onRows t.name fun rs => rs.set k ⟨r.ws, r.put, some x.deeds.length⟩).tabs.map Tab.name = x.tabs.map Tab.name from onRows_names _ _ _]; exact h.nm, fun u hu => ?_, fun u hu => ?_, fun u hu => ?_, ?_, fun m u hm => ?_, ?_, h.d12, h.inj, h.offT, h.offB⟩
  · show (x.deeds ++ [_]).length = _
    rw [List.length_append, List.length_append, h.dl]
  · obtain ⟨t0, h0, _, e2, _, _⟩ := onRows_mem (x := x) (n := t.name) (g := fun rs => rs.set k ⟨r.ws, r.put, some x.deeds.length⟩) hu
    rw [e2]
    exact h.cols t0 h0
  · obtain ⟨t0, h0, _, _, _, (⟨_, e⟩ | ⟨_, e⟩)⟩ := onRows_mem (x := x) (n := t.name) (g := fun rs => rs.set k ⟨r.ws, r.put, some x.deeds.length⟩) hu
    · rw [e]
      exact h.few t0 h0
    · rw [e, List.length_set]
      exact h.few t0 h0
  · obtain ⟨t0, h0, _, _, e3, _⟩ := onRows_mem (x := x) (n := t.name) (g := fun rs => rs.set k ⟨r.ws, r.put, some x.deeds.length⟩) hu
    rw [e3]
    exact h.made t0 h0
  · show H' D1 = some (.dK (colsK (x.onRows t.name fun rs => rs.set k ⟨r.ws, r.put, some x.deeds.length⟩).tabs T))
    rw [show colsK (x.onRows t.name fun rs => rs.set k ⟨r.ws, r.put, some x.deeds.length⟩).tabs T = colsK x.tabs T from colsK_on t.name (fun rs => rs.set k ⟨r.ws, r.put, some x.deeds.length⟩) x.tabs T]
    exact kp _ _ (ne_of h.d1 eu (fun y => nomatch y)) (ne_of h.d1 (h.there i t ht) (fun y => nomatch y)) h.d1
  · rcases on_at h.ok.nd ht (fun rs => rs.set k ⟨r.ws, r.put, some x.deeds.length⟩) hm with ⟨rfl, rfl⟩ | ⟨n, z⟩
    · rw [eT]
      show _ = some (HO.lst ((outs { t with rows := t.rows.set k ⟨r.ws, r.put, some x.deeds.length⟩ } (t.rows.set k ⟨r.ws, r.put, some x.deeds.length⟩).length).map _))
      rw [outs_out t (s := ⟨r.ws, r.put, some x.deeds.length⟩) rfl hj, map_eraseIdx]
    · have m3 : m < 3 := by rw [← h.len]; exact (List.getElem?_eq_some_iff.mp z).1
      exact kp _ _ (h.offT m m3).1 (neT m m3 n) (h.there m u z)
  · show H' D2 = some (.dK (putsK (x.onRows t.name fun rs => rs.set k ⟨r.ws, r.put, some x.deeds.length⟩).tabs))
    rw [putsK_out]
    exact kp _ _ (ne_of h.d2 eu (fun y => nomatch y)) (ne_of h.d2 (h.there i t ht) (fun y => nomatch y)) h.d2
theorem DS.rowStep (h : DS K H l c B D1 D2 T ds x) {i : Nat} {t : Tab} {ws : List Int} (ht : x.tabs[i]? = some t) (h9 : t.rows.length < 9) (lw : ws.length = 2) (okw : WsOk ws) {q : Addr} {us : List V} (h4 : ds.length < 3900)
    (eB : H' B = some (.lst (us ++ [.ref q]))) (eu : H B = some (.lst us)) (eT : H' (T i) = some (.lst (((outs t t.rows.length).map fun k => V.int ((k : Nat) : Int)) ++ [.int (t.rows.length : Nat)]))) (e2 : H' D2 = some (.dK (putK (putsK x.tabs) (.inr t.name) (.int ((t.rows.length + 1 : Nat) : Int)))))
    (hq : DeedAt K H' q (.row t.name ws)) (tp : Tups K H H') (kp : ∀ b o, b ≠ B → b ≠ T i → b ≠ D2 → H b = some o → H' b = some o) :
    DeedOk (.row t.name ws) ∧ Can x (.row t.name ws) (x.onRows t.name fun rs => rs ++ [⟨ws, x.deeds.length, none⟩]) ∧ DS K H' l c B D1 D2 T (ds ++ [.row t.name ws]) { (x.onRows t.name fun rs => rs ++ [⟨ws, x.deeds.length, none⟩]) with deeds := x.deeds ++ [.row t.name ws] } := by
  have tm := List.mem_of_getElem? ht
  have i3 : i < 3 := by rw [← h.len]; exact (List.getElem?_eq_some_iff.mp ht).1
  have dok : DeedOk (.row t.name ws) := ⟨h.ok.lab t tm, okw, by omega⟩
  have can : Can x (.row t.name ws) (x.onRows t.name fun rs => rs ++ [⟨ws, x.deeds.length, none⟩]) := ⟨i, t, ht, rfl, by omega, by rw [h.cols t tm, lw]; rfl, rfl⟩
  obtain ⟨us', eu', ru⟩ := h.lst
  have : us' = us := by rw [eu] at eu'; cases eu'; rfl
  subst this
  have neT : ∀ m, m < 3 → m ≠ i → T m ≠ T i := fun m hm n e => n (h.inj m i hm i3 e)
  refine ⟨dok, can, h.ok.next dok can (by rw [h.dl]; omega), ?_, ⟨us' ++ [.ref q], eB, each_snoc (ru.mono fun v d ⟨q, e1, e2⟩ => ⟨q, e1, e2.tups tp⟩) ⟨q, rfl, hq⟩⟩, by rw [show (x.onRows t.name fun rs => rs ++ [⟨ws, x.deeds.length, none⟩]).tabs.map Tab.name = x.tabs.map Tab.name from onRows_names _ _ _]; exact h.nm, fun u hu => ?_, fun u hu => ?_, fun u hu => ?_, ?_, fun m u hm => ?_, ?_, h.d12, h.inj, h.offT, h.offB⟩
  · show (x.deeds ++ [_]).length = _
    rw [List.length_append, List.length_append, h.dl]
  · obtain ⟨t0, h0, _, e2, _, _⟩ := onRows_mem (x := x) (n := t.name) (g := fun rs => rs ++ [⟨ws, x.deeds.length, none⟩]) hu
    rw [e2]
    exact h.cols t0 h0
  · obtain ⟨t0, h0, en, _, _, (⟨_, e⟩ | ⟨en2, e⟩)⟩ := onRows_mem (x := x) (n := t.name) (g := fun rs => rs ++ [⟨ws, x.deeds.length, none⟩]) hu
    · rw [e]
      exact h.few t0 h0
    · rw [e, List.length_append, List.length_singleton, tab_one h.ok.nd ht h0 en2]
      omega
  · obtain ⟨t0, h0, _, _, e3, _⟩ := onRows_mem (x := x) (n := t.name) (g := fun rs => rs ++ [⟨ws, x.deeds.length, none⟩]) hu
    rw [e3]
    exact h.made t0 h0
  · show H' D1 = some (.dK (colsK (x.onRows t.name fun rs => rs ++ [⟨ws, x.deeds.length, none⟩]).tabs T))
    rw [show colsK (x.onRows t.name fun rs => rs ++ [⟨ws, x.deeds.length, none⟩]).tabs T = colsK x.tabs T from colsK_on t.name (fun rs => rs ++ [(⟨ws, x.deeds.length, none⟩ : Rw)]) x.tabs T]
    exact kp _ _ (ne_of h.d1 eu (fun y => nomatch y)) (ne_of h.d1 (h.there i t ht) (fun y => nomatch y)) h.d12 h.d1
  · rcases on_at h.ok.nd ht (fun rs => rs ++ [(⟨ws, x.deeds.length, none⟩ : Rw)]) hm with ⟨rfl, rfl⟩ | ⟨n, z⟩
    · rw [eT]
      show _ = some (HO.lst ((outs { t with rows := t.rows ++ [(⟨ws, x.deeds.length, none⟩ : Rw)] } (t.rows ++ [(⟨ws, x.deeds.length, none⟩ : Rw)]).length).map _))
      rw [outs_put t ⟨ws, x.deeds.length, none⟩ rfl, List.map_append]
      rfl
    · have m3 : m < 3 := by rw [← h.len]; exact (List.getElem?_eq_some_iff.mp z).1
      exact kp _ _ (h.offT m m3).1 (neT m m3 n) (ne_of (h.there m u z) h.d2 (fun y => nomatch y)) (h.there m u z)
  · show H' D2 = some (.dK (putsK (x.onRows t.name fun rs => rs ++ [⟨ws, x.deeds.length, none⟩]).tabs))
    rw [e2, putK_puts h.ok.nd ht]
end
end K37t
end

section
set_option Elab.async false
set_option linter.all false
set_option maxRecDepth 100000
set_option maxHeartbeats 4000000
namespace Szg
open PySem PySem.Spec PyProof.Rows L2 Gd
/-! sizes of data -/
structure Sm (w n : Nat) (d : PyData) : Prop where
  lf : d.leavesShort 100 = true
  sh : d.showable = true
  wt : d.weight ≤ w
  dp : d.depth ≤ n
structure Sms (w n : Nat) (ds : List PyData) : Prop where
  lf : PyData.leavesShortAll 100 ds = true
  sh : PyData.showableAll ds = true
  wt : PyData.weightAll ds ≤ w
  dp : PyData.depthAll ds ≤ n
theorem Sm.mono {w n w' n' : Nat} {d : PyData} (h : Sm w n d) (a : w ≤ w') (b : n ≤ n') : Sm w' n' d := ⟨h.lf, h.sh, Nat.le_trans h.wt a, Nat.le_trans h.dp b⟩
theorem Sms.mono {w n w' n' : Nat} {ds : List PyData} (h : Sms w n ds) (a : w ≤ w') (b : n ≤ n') : Sms w' n' ds := ⟨h.lf, h.sh, Nat.le_trans h.wt a, Nat.le_trans h.dp b⟩
theorem Sms.nil {n : Nat} : Sms 0 n [] := ⟨rfl, rfl, Nat.le_refl _, Nat.zero_le _⟩
theorem Sms.cons {w v n : Nat} {d : PyData} {ds : List PyData} (h : Sm w n d) (g : Sms v n ds) : Sms (w + 1 + v) n (d :: ds) := by
  refine ⟨?_, ?_, ?_, ?_⟩
  · simp only [PyData.leavesShortAll, h.lf, g.lf, Bool.and_self]
  · simp only [PyData.showableAll, h.sh, g.sh, Bool.and_self]
  · have := h.wt
    have := g.wt
    simp only [PyData.weightAll]
    omega
  · have := h.dp
    have := g.dp
    simp only [PyData.depthAll]
    omega
theorem Sms.tup {w n : Nat} {ds : List PyData} (g : Sms w n ds) : Sm (w + 1) (n + 1) (.tuple ds) := by
  refine ⟨by simp only [PyData.leavesShort, g.lf], by simp only [PyData.showable, g.sh], ?_, ?_⟩
  · have := g.wt
    simp only [PyData.weight]
    omega
  · have := g.dp
    simp only [PyData.depth]
    omega
theorem Sms.lst {w n : Nat} {ds : List PyData} (g : Sms w n ds) : Sm (w + 1) (n + 1) (.list ds) := by
  refine ⟨by simp only [PyData.leavesShort, g.lf], by simp only [PyData.showable, g.sh], ?_, ?_⟩
  · have := g.wt
    simp only [PyData.weight]
    omega
  · have := g.dp
    simp only [PyData.depth]
    omega
theorem Sm.shown {w n : Nat} {d : PyData} (h : Sm w n d) (a : w ≤ 160000) (b : n ≤ 60) : d.showable = true ∧ d.shown.length ≤ sizeLine ∧ d.depth ≤ 60 := by
  have x := PyData.shown_le 100 (by decide) d h.lf
  have y := h.wt
  have z : sizeLine = 16777216 := rfl
  exact ⟨h.sh, by omega, Nat.le_trans h.dp b⟩
theorem sm_none : Sm 5 0 .none := ⟨rfl, rfl, by decide, by decide⟩
theorem sm_bool (b : Bool) : Sm 5 0 (.bool b) := by cases b <;> exact ⟨rfl, rfl, by decide, by decide⟩
theorem int_log {i : Int} (h : i.natAbs ≤ 10 ^ 62) : i.natAbs.log2 < 207 := by
  by_cases z : i.natAbs = 0
  · rw [z]; decide
  · exact (Nat.log2_lt z).mpr (Nat.lt_of_le_of_lt h (by decide +kernel))
theorem sm_int {i : Int} (h : i.natAbs ≤ 10 ^ 62) : Sm 212 0 (.int i) := by
  have h1 : i.natAbs < 10 ^ 63 := Nat.lt_of_le_of_lt h (by decide)
  have hl := int_log h
  refine ⟨?_, ?_, ?_, Nat.le_refl _⟩
  · have e := int_text_length_le10 (k := 63) (by decide) h1
    have e2 : (PyData.int i).shown.length = (toString i).length := by
      show (Str.ofString (toString i)).length = _
      rw [PySem.ofString_length]
    simp only [PyData.leavesShort, decide_eq_true_eq]
    omega
  · have : i.natAbs.log2 < 1920 := by omega
    simpa [PyData.showable] using this
  · simp only [PyData.weight]
    split <;> omega
/-- a plain text: codes under 128, no longer than 30 -/
def Pl (s : Str) : Prop := (∀ c ∈ s.cps.toList, c < 128) ∧ s.length ≤ 30
theorem sm_str {s : Str} (h : Pl s) : Sm 30 0 (.str s) := by
  refine ⟨?_, ?_, ?_, Nat.le_refl _⟩
  · simp only [PyData.leavesShort, List.all_eq_true, decide_eq_true_eq]
    intro c hc
    exact Nat.lt_of_lt_of_le (h.1 c hc) (by decide)
  · simp [PyData.showable]
  · have w : (PyData.str s).weight = s.length := by simp only [PyData.weight]; rfl
    have := h.2
    omega
theorem Sms.all {w n : Nat} {ds : List PyData} (h : ∀ d ∈ ds, Sm w n d) : Sms ((w + 1) * ds.length) n ds := by
  induction ds with
  | nil => exact Sms.nil
  | cons d ds ih =>
    refine (Sms.cons (h d (by simp)) (ih fun e m => h e (by simp [m]))).mono ?_ (Nat.le_refl _)
    rw [List.length_cons, Nat.mul_add]
    omega
end Szg
end

section
set_option Elab.async false
set_option linter.all false
set_option maxRecDepth 100000
set_option maxHeartbeats 4000000
namespace K37
open PySem PySem.Spec PyProof.Rows L2 Gd
theorem call_or {X : Cx} {f : Value} {r1 r2 : List V → Hp → VK → Prop} (h1 : CallR X f r1) (h2 : CallR X f r2) : CallR X f (fun xs H Q => r1 xs H Q ∨ r2 xs H Q) := by
  intro pins s σ H xs us Q I r h
  exact h.elim (h1 pins s σ H xs us Q I r) (h2 pins s σ H xs us Q I r)
theorem ix_or {X : Cx} {r1 r2 : R2} (h1 : IxR X r1) (h2 : IxR X r2) : IxR X (fun x y H Q => r1 x y H Q ∨ r2 x y H Q) := by
  intro e1 e2 pins s σ H x y v u Q I rx ry h hs
  exact h.elim (fun h => h1 e1 e2 pins s σ H x y v u Q I rx ry h hs) (fun h => h2 e1 e2 pins s σ H x y v u Q I rx ry h hs)
abbrev sPk : Stmt := topS 36
theorem scPk : FnScope ["_law_pen_here", "_law_some"] ["_law_pen_here", "_law_some"] (defScope sPk) := ⟨rfl, rfl, rfl, by decide +kernel, rfl, by decide +kernel, by decide +kernel⟩
/-- one of a list, or a sign of a text -/
def spPk : Sp := fun vs H Q _ => ∃ (l c : Addr) (x : V) (S : Int), vs = [.ref l, x] ∧ Pen H l c S ∧ S ≤ 90000 ∧
  ((∃ (a : Addr) (xs : List V), x = .ref a ∧ H a = some (.lst xs) ∧ a ≠ l ∧ 0 < xs.length ∧ xs.length ≤ 1000 ∧ ∀ (i : Nat) (y : V) (H' : Hp), xs[i]? = some y → Pen H' l c (S + 1) → Ex1 l H H' → Q y H') ∨
   (∃ z : Str, x = .str z ∧ 0 < z.length ∧ z.length ≤ 1000 ∧ ∀ (ch : Nat) (H' : Hp), ch ∈ z.cps.toList → Pen H' l c (S + 1) → Ex1 l H H' → Q (.str ⟨#[ch]⟩) H'))
theorem at_mem {α : Type} {xs : List α} {r : Int} (h0 : 0 ≤ r) (h1 : r < xs.length) : ∃ (i : Nat) (x : α), xs[i]? = some x ∧ atI xs r = some x := by
  have h2 : r.toNat < xs.length := by omega
  have e : ((r.toNat : Nat) : Int) = r := by omega
  have z : atI xs ((r.toNat : Nat) : Int) = some xs[r.toNat] := atI_nat (List.getElem?_eq_getElem h2)
  rw [e] at z
  exact ⟨r.toNat, _, List.getElem?_eq_getElem h2, z⟩
section
variable {P : Program} {w : World} {K : PySem.W.Frag} {mg : Str → Option Value} {base : Heap} {f fT : Addr} {fd dT : FuncData}
theorem ok_pk (F : Fun K "_law_pick" "_law_pick" sPk f fd) (mn : mg "len" = none) (FT : Fun K "_law_take" "_law_take" sDraw fT dT) (G : FnOk P w K mg base CX0 1 fT dT ["_law_pen_here", "_law_many"] spDraw) (bT : Binds K dT ["_law_pen_here", "_law_many"] []) (gT : mg "_law_take" = some (.ref fT)) :
    FnOk P w K mg base CX0 2 f fd ["_law_pen_here", "_law_some"] spPk := by
  refine F.ok scPk (fun vs H Q E h => ?_) (fun cdv A outer s H vs Q E hr h => ?_)
  · obtain ⟨l, c, x, S, rfl, _⟩ := h
    rfl
  obtain ⟨l, c, x, S, rfl, hP, hS, h⟩ := h
  have nd := scPk.nd
  refine ⟨_, pss_one (ps_ret (pe_ix (ix_or ix_list ix_str) (pv 1) (pe_call G hr (by rfl) gT FT.kp bT .nil pass0 (pa_cons (pv 0) (pa_cons (pe_callB (call_or call_len_seq call_len_str) (by rfl) mn PySem.boot_len (pa_cons (pv 1) pa_nil)) pa_nil))) (fun _ _ => rfl))), ?_⟩
  rcases h with ⟨a, xs, rfl, ea, nal, x0, x1, q⟩ | ⟨z, rfl, z0, z1, q⟩
  · refine ⟨_, rfl, _, rfl, _, rfl, .inl ⟨a, _, rfl, .inl (SqL.of ea), l, c, _, S, rfl, hP, by omega, by omega, by omega, fun r H1 r0 r1 p1 e1 => ?_⟩⟩
    obtain ⟨i, y, hy, ey⟩ := at_mem r0 r1
    exact .inl ⟨a, _, _, _, rfl, rfl, SqL.of (e1 _ _ nal ea), ey, q i y H1 hy p1 e1⟩
  · have zl : sizeLine = 16777216 := rfl
    refine ⟨_, rfl, _, rfl, _, rfl, .inr ⟨z, rfl, by omega, l, c, _, S, rfl, hP, by omega, by omega, by omega, fun r H1 r0 r1 p1 e1 => ?_⟩⟩
    obtain ⟨i, y, hy, ey⟩ := at_mem (xs := z.cps.toList) r0 (by rw [Array.length_toList]; exact r1)
    exact .inr ⟨z, _, y, rfl, rfl, by omega, ey, q y H1 (List.mem_of_getElem? hy) p1 e1⟩
end
end K37
end

section
set_option Elab.async false
set_option linter.all false
set_option maxRecDepth 100000
set_option maxHeartbeats 4000000
namespace K37
open PySem PySem.Spec PyProof.Rows L2 Gd
abbrev sPr : Stmt := topS 38
abbrev nPr : List Str := ["_law_pen_here", "_law_ahead", "_law_many", "_law_k"]
theorem scPr : FnScope nPr ["_law_pen_here", "_law_ahead"] (defScope sPr) := ⟨rfl, rfl, rfl, by decide +kernel, rfl, by decide +kernel, by decide +kernel⟩
def spPr (K : PySem.W.Frag) : Sp := fun vs H Q _ => ∃ (l c ah : Addr) (S : Int) (als : List Str), vs = [.ref l, .ref ah] ∧ Pen H l c S ∧ S ≤ 80000 ∧ H ah = some (.lst (als.map V.str)) ∧ ah ≠ l ∧ als.length ≤ 3 ∧
  ∀ (T : Addr) (us : List V) (ps : List Pr) (H' : Hp), SqT K H' T us → DpAll K H' us (ps.map prD) → ps.length ≤ 2 → (∀ p ∈ ps, Szg.Pl p.c ∧ Szg.Pl p.d ∧ ∃ j : Nat, als[j]? = some p.o) → Pen H' l c (S + 7) → Ex1 l H H' → Q (.ref T) H'
theorem upto {n : Nat} : Walk (Itr 0 n) n (fun _ => True) (YFn fun i => .int ((i : Nat) : Int)) :=
  walk_range.mono (fun _ _ => trivial) (fun i H x H' _ _ y => ⟨y.1, y.2.trans (by show V.int (0 + ((i : Nat) : Int)) = V.int ((i : Nat) : Int); rw [Int.zero_add])⟩)
theorem own_ex1 {l q : Addr} {H H1 : Hp} {o : HO} (n : H q = none) (x : Ex1 l H H1) : Ex1 l H (upd H1 q o) := fun a u ne e => by
  rw [upd_ne (ne_of_none e n)]
  exact x a u ne e
theorem ex1_same {l : Addr} {H H' : Hp} (s : Same H H') : Ex1 l H H' := fun a o _ e => s a o e
theorem free_ex1 {l q : Addr} {H H' : Hp} (x : Ex1 l H H') (n : q ≠ l) (h : H' q = none) : H q = none := by
  cases e : H q with
  | none => rfl
  | some o =>
    have := x q o n e
    rw [h] at this
    cases this
theorem ab_pl : ∀ ch ∈ ("ab" : Str).cps.toList, Szg.Pl ⟨#[ch]⟩ := by
  intro ch h
  have : ch = 97 ∨ ch = 98 := by
    have : ("ab" : Str).cps.toList = [97, 98] := by decide +kernel
    rw [this] at h
    simpa using h
  rcases this with rfl | rfl <;> (unfold Szg.Pl; decide +kernel)
section
variable {P : Program} {w : World} {K : PySem.W.Frag} {mg : Str → Option Value} {base : Heap} {f fT fP : Addr} {fd dT dP : FuncData}
theorem ok_pr (F : Fun K "_law_pairs" "_law_pairs" sPr f fd) (mr : mg "range" = none) (mt : mg "tuple" = none)
    (FT : Fun K "_law_take" "_law_take" sDraw fT dT) (G : FnOk P w K mg base CX0 1 fT dT ["_law_pen_here", "_law_many"] spDraw) (bT : Binds K dT ["_law_pen_here", "_law_many"] []) (gT : mg "_law_take" = some (.ref fT))
    (FP : Fun K "_law_pick" "_law_pick" sPk fP dP) (GP : FnOk P w K mg base CX0 2 fP dP ["_law_pen_here", "_law_some"] spPk) (bP : Binds K dP ["_law_pen_here", "_law_some"] []) (gP : mg "_law_pick" = some (.ref fP)) :
    FnOk P w K mg base CX0 3 f fd ["_law_pen_here", "_law_ahead"] (spPr K) := by
  refine F.ok scPr (fun vs H Q E h => ?_) (fun cdv A outer s0 H vs Q E hr h => ?_)
  · obtain ⟨l, c, ah, S, als, rfl, _⟩ := h
    rfl
  obtain ⟨l, c, ah, S, als, rfl, hP, hS, ea, nal, l3, q⟩ := h
  have nd := scPr.nd
  have zl : sizeLine = 16777216 := rfl
  have hu := hu_of hr
  have hr1 := hr.mono (show 1 ≤ 2 by decide)
  refine ⟨_, pss_cons (ps_set (i := 2) nd rfl (by first | exact .inl rfl | exact .inr rfl) pe_int)
      (C8.pss_cut (ps_if (pt_cmpR (op_neL0 (Nat.lt_of_succ_lt hu)) (pv 1) (pe_lst pa_nil) (nomark _))
        (pss_one (ps_set (i := 2) nd rfl (by first | exact .inl rfl | exact .inr rfl) (pe_ix ix_list (pe_lst (pa_cons pe_int (pa_cons pe_int (pa_cons pe_int (pa_cons pe_int pa_nil))))) (pe_call G hr1 (by rfl) gT FT.kp bT .nil pass0 (pa_cons (pv 0) (pa_cons pe_int pa_nil))) (fun _ _ => rfl)))) pss_nil)
      (pss_one (ps_ret (pe_tupleOf (by rfl) mt (pe_lc (own := [("_law_k", 3)]) (g := gName 3) (tt := tYes) rfl nd (pi_range1 (by rfl) mr (pa_cons (pv 2) pa_nil)) (blkOk_by (N := nPr) (sc := defScope sPr) (by decide +kernel)) (fun _ _ _ _ _ => pg_name (i := 3) nd rfl (Or.inl rfl)) (fun _ _ _ _ _ => pts_nil) (fun _ _ _ _ _ => (pe_tup (pa_cons (pe_call GP hr (by rfl) gP FP.kp bP .nil pass0 (pa_cons (pv 0) (pa_cons pe_str pa_nil))) (pa_cons (pe_call GP hr (by rfl) gP FP.kp bP .nil pass0 (pa_cons (pv 0) (pa_cons (pv 1) pa_nil))) (pa_cons (pe_call GP hr (by rfl) gP FP.kp bP .nil pass0 (pa_cons (pv 0) (pa_cons pe_str pa_nil))) pa_nil)))))))))), ?_⟩
  refine ⟨fun σ' H' => ∃ n : Nat, n ≤ 2 ∧ (n = 0 ∨ 0 < als.length) ∧ Pen H' l c (S + 1) ∧ Ex1 l H H' ∧ σ' = [some (.ref l), some (.ref ah), some (.int (n : Nat)), none], ?_, ?_⟩
  · refine ⟨_, rfl, Nat.zero_le _, fun z nz => ?_⟩
    have s1 := new_same (o := .lst []) nz
    have p1 := hP.same s1
    have ez : upd H z (.lst []) z = some (.lst []) := upd_same
    have ea1 := s1 _ _ ea
    generalize upd H z (.lst []) = H1 at s1 p1 ez ea1 ⊢
    refine ⟨ah, z, _, rfl, rfl, SqL.of ea1, SqL.of ez, _, rfl, ite2 (fun e => ?_) (fun e => ?_)⟩
    · refine ⟨(by show 4 ≤ sizeLine; decide), fun f4 nf4 => ?_⟩
      have s2 := new_same (o := .lst [.int 1, .int 1, .int 0, .int 2]) nf4
      have p2 := p1.same s2
      have e4 : upd H1 f4 (.lst [.int 1, .int 1, .int 0, .int 2]) f4 = some (.lst [.int 1, .int 1, .int 0, .int 2]) := upd_same
      have n4l := (p1.not nf4).1
      generalize upd H1 f4 (.lst [.int 1, .int 1, .int 0, .int 2]) = H2 at s2 p2 e4 ⊢
      refine ⟨_, rfl, l, c, 4, _, rfl, p2, by decide, by decide, by omega, fun r H3 r0 r1 p3 x3 => ?_⟩
      obtain ⟨zz, hz, ezz⟩ := at_list (f := V.int) (xs := [1, 1, 0, 2]) r0 (by simpa using r1)
      have z2 : 0 ≤ zz ∧ zz ≤ 2 := by
        simp only [List.mem_cons, List.not_mem_nil, or_false] at hz
        omega
      obtain ⟨n, rfl⟩ : ∃ n : Nat, zz = ((n : Nat) : Int) := ⟨zz.toNat, by omega⟩
      refine ⟨f4, _, _, .int _, rfl, rfl, SqL.of (x3 _ _ n4l e4), ezz, ?_⟩
      refine ⟨n, by omega, .inr ?_, p3, (ex1_same (s1.trans s2)).trans x3, rfl⟩
      cases als with
      | nil => exact absurd e (by decide)
      | cons _ _ => exact Nat.succ_pos _
    · exact ⟨0, by decide, .inl rfl, p1.le (by omega), ex1_same s1, rfl⟩
  rintro σ2 H2 ⟨n, n2, nz, p2, x2, rfl⟩
  have ea2 := x2 _ _ nal ea
  refine ⟨_, rfl, _, rfl, by omega, by omega, fun D nD => ?_⟩
  rw [Int.toNat_natCast]
  have nDl := (p2.not nD).1
  have nDc := (p2.not nD).2
  have nD0 := free_ex1 x2 nDl nD
  refine lc_it upto (fun j H5 => Ex1 l H2 H5 ∧ Pen H5 l c (S + 1 + 3 * ((j : Nat) : Int)) ∧ ∃ us ps, H5 D = some (.lst us) ∧ DpAll K H5 us (ps.map prD) ∧ ps.length = j ∧ ∀ p ∈ ps, Szg.Pl p.c ∧ Szg.Pl p.d ∧ ∃ j : Nat, als[j]? = some p.o)
    ⟨Ex1.new nD, by simpa using p2.same (new_same nD), [], [], upd_same, .nil, rfl, fun p h => nomatch h⟩ (fun _ _ _ _ => trivial) ?_ ?_
  · rintro j x H5 H6 hj ⟨x5, p5, us, ps, eD, hd, lp, hps⟩ ⟨rfl, rfl⟩
    refine ⟨rfl, ?_⟩
    refine ⟨_, rfl, l, c, .str "ab", _, rfl, p5, by omega, .inr ⟨"ab", rfl, by decide +kernel, by decide +kernel, fun c1 H7 h7 p7 x7 => ?_⟩⟩
    have ea7 := x7 _ _ nal (x5 _ _ nal ea2)
    refine ⟨_, rfl, _, rfl, l, c, .ref ah, _, rfl, p7, by omega, .inl ⟨ah, _, rfl, ea7, nal, by rw [List.length_map]; omega, by rw [List.length_map]; omega, fun i y H8 h8 p8 x8 => ?_⟩⟩
    obtain ⟨y, hy, rfl⟩ := map_at h8
    refine ⟨_, rfl, l, c, .str "ab", _, rfl, p8, by omega, .inr ⟨"ab", rfl, by decide +kernel, by decide +kernel, fun c2 H9 h9 p9 x9 => ?_⟩⟩
    refine ⟨(by show 3 ≤ sizeLine; decide), fun e ne => ?_⟩
    have x10 := ((x7.trans x8).trans x9).trans (Ex1.new (o := .tup [.str ⟨#[c1]⟩, .str y, .str ⟨#[c2]⟩]) ne)
    have p10 := p9.same (new_same (o := .tup [.str ⟨#[c1]⟩, .str y, .str ⟨#[c2]⟩]) ne)
    have se : SqT K (upd H9 e (.tup [.str ⟨#[c1]⟩, .str y, .str ⟨#[c2]⟩])) e [.str ⟨#[c1]⟩, .str y, .str ⟨#[c2]⟩] := SqT.of upd_same
    generalize upd H9 e (.tup [.str ⟨#[c1]⟩, .str y, .str ⟨#[c2]⟩]) = H10 at x10 p10 se ⊢
    have eD10 := x10 _ _ nDl eD
    obtain ⟨_, _, _, el5, _⟩ := id p5
    have hd10 := DpAll.tups (Ex1.tups x10 el5) _ (prs_only ps) hd
    have lu : us.length = ps.length := by rw [DpAll.len hd, List.length_map]
    have u11 := Tups.upd_lst (K := K) (ys := us ++ [.ref e]) eD10
    refine ⟨us, eD10, by omega, own_ex1 nD (x5.trans x10), (p10.off nDl nDc).le (by omega), us ++ [.ref e], ps ++ [⟨⟨#[c1]⟩, y, ⟨#[c2]⟩⟩], upd_same, ?_, by rw [List.length_append, lp]; rfl, fun p hp => ?_⟩
    · rw [List.map_append]
      refine DpAll.tups u11 _ ?_ (DpAll.snoc hd10 (.tup se (.cons (.str _) (.cons (.str _) (.cons (.str _) .nil)))))
      have := prs_only (ps ++ [⟨⟨#[c1]⟩, y, ⟨#[c2]⟩⟩])
      rw [List.map_append] at this
      exact this
    · rcases List.mem_append.mp hp with h | h
      · exact hps p h
      · rw [List.mem_singleton.mp h]
        exact ⟨ab_pl _ h7, ab_pl _ h9, i, hy⟩
  rintro H5 ⟨x5, p5, us, ps, eD, hd, lp, hps⟩
  refine .inl ⟨D, us, rfl, SqL.of eD, fun T nT => ?_⟩
  have j6 := new_same (o := .tup us) nT
  exact q T us ps _ (SqT.of upd_same) (DpAll.tups (Tups.of_same j6) _ (prs_only ps) hd) (by omega) hps ((p5.same j6).le (by omega)) ((x2.trans x5).trans (ex1_same j6))
end
end K37
end

section
set_option Elab.async false
set_option linter.all false
set_option maxRecDepth 100000
set_option maxHeartbeats 4000000
/-! the law draws deeds. -/
namespace K37
open PySem PySem.Spec PyProof.Rows L2 Gd K37t
abbrev sDs : Stmt := topS 37
abbrev nDs : List Str := ["_law_pen_here", "_law_most", "_law_found", "_law_there", "_law_puts", "_law_k", "_law_name", "_law_way", "_law_second"]
theorem scDs : FnScope nDs ["_law_pen_here", "_law_most"] (defScope sDs) := ⟨rfl, rfl, rfl, by decide +kernel, rfl, by decide +kernel, by decide +kernel⟩
theorem valV_not {κ : Type} [DecidableEq κ] {k : κ} : ∀ {kvs : List (κ × V)}, (∀ p ∈ kvs, p.1 ≠ k) → valV kvs k = none
  | [], _ => rfl
  | p :: kvs, h => by
    rw [valV_neg (h p (by simp))]
    exact valV_not fun q hq => h q (by simp [hq])
theorem mergeK_new : ∀ (l acc : List (Key × V)), ((acc ++ l).map (·.1)).Nodup → mergeK acc l = acc ++ l
  | [], acc, _ => by
    rw [List.append_nil]
    rfl
  | p :: l, acc, h => by
    have hn : putK acc p.1 p.2 = acc ++ [p] := putK_new (valV_not fun q hq z => by
      rw [List.map_append, List.map_cons] at h
      have h3 := (List.nodup_append.mp h).2.2
      exact h3 q.1 (List.mem_map.mpr ⟨q, hq, rfl⟩) p.1 (List.mem_cons_self ..) z)
    have h2 : ((acc ++ [p]) ++ l).map (·.1) = (acc ++ p :: l).map (·.1) := by rw [List.append_assoc]; rfl
    show mergeK (putK acc p.1 p.2) l = _
    rw [hn, mergeK_new l (acc ++ [p]) (by rw [h2]; exact h), List.append_assoc]
    rfl
theorem merge3 (a b c : V) : mergeK [] [((.inr "ta" : Key), a), (.inr "tb", b), (.inr "tc", c)] = [((.inr "ta" : Key), a), (.inr "tb", b), (.inr "tc", c)] := by
  rw [mergeK_new]
  · rfl
  · show (([("ta" : Str), "tb", "tc"] : List Str).map (fun s : Str => (Sum.inr s : Key))).Nodup
    decide +kernel
def ds3 : List Deed := nm3.map fun n => .table n ["a", "b"]
def xs3 (k : Nat) : Shelf := ⟨ds3.take k, ([⟨"ta", ["a", "b"], 0, []⟩, ⟨"tb", ["a", "b"], 1, []⟩, ⟨"tc", ["a", "b"], 2, []⟩] : List Tab).take k⟩
theorem lab3 : ∀ n ∈ nm3, isLab n = true := by decide +kernel
theorem cols3 : ColsOk (["a", "b"] : List Str) := ⟨by decide, by decide, by decide +kernel, by decide +kernel⟩
theorem chain3 : Chain ds3 xs3 := by
  refine ⟨rfl, fun k d h => ?_⟩
  have hk : k < 3 := (List.getElem?_eq_some_iff.mp h).1
  have hk : k = 0 ∨ k = 1 ∨ k = 2 := by omega
  rcases hk with rfl | rfl | rfl
  · cases (show some (Deed.table "ta" ["a", "b"]) = some d from h)
    exact ⟨⟨lab3 _ (by simp), cols3⟩, _, ⟨(by simp [xs3]), by decide, rfl⟩, rfl⟩
  · cases (show some (Deed.table "tb" ["a", "b"]) = some d from h)
    exact ⟨⟨lab3 _ (by simp), cols3⟩, _, ⟨(by show ¬ ("tb" : Str) ∈ [("ta" : Str)]; decide +kernel), by decide, rfl⟩, rfl⟩
  · cases (show some (Deed.table "tc" ["a", "b"]) = some d from h)
    exact ⟨⟨lab3 _ (by simp), cols3⟩, _, ⟨(by show ¬ ("tc" : Str) ∈ [("ta" : Str), "tb"]; decide +kernel), by decide, rfl⟩, rfl⟩
def spDs (K : PySem.W.Frag) : Sp := fun vs H Q _ => ∃ (l c : Addr) (S : Int), vs = [.ref l, .int 9] ∧ Pen H l c S ∧ S ≤ 70000 ∧
  ∀ (B : Addr) (us : List V) (ds : List Deed) (xs : Nat → Shelf) (H' : Hp), H B = none → H' B = some (.lst us) → PySem.W.EachIs (fun v d => ∃ t, v = .ref t ∧ DeedAt K H' t d) us ds → Chain ds xs → (xs ds.length).tabs.map Tab.name = nm3 → (∀ t ∈ (xs ds.length).tabs, t.cols = (["a", "b"] : List Str) ∧ t.rows.length ≤ 9 ∧ t.made < 3) → 3 ≤ ds.length → ds.length ≤ 40 → Pen H' l c (S + 400) → Ex1 l H H' → Q (.ref B) H'
theorem ds_at {K : PySem.W.Frag} {H : Hp} {l c B D1 D2 : Addr} {T : Nat → Addr} {ds : List Deed} {x : Shelf} (h : DS K H l c B D1 D2 T ds x) {i : Nat} {n : Str} (hi : nm3[i]? = some n) : ∃ t, x.tabs[i]? = some t ∧ t.name = n := by
  have z : (x.tabs.map Tab.name)[i]? = some n := by rw [h.nm]; exact hi
  rw [List.getElem?_map, Option.map_eq_some_iff] at z
  exact z
theorem times_pick {r u : Int} (h0 : 0 ≤ r) (h1 : r < 6) (u0 : 0 ≤ u) (u1 : u < 33) : ∃ v : Int, atI ([0, 4, 9, 3 * 9, u, 3 * 9 + 5].map V.int) r = some (.int v) ∧ 0 ≤ v ∧ v ≤ 32 := by
  obtain ⟨v, hv, e⟩ := at_list (f := V.int) (xs := [0, 4, 9, 3 * 9, u, 3 * 9 + 5]) h0 (by simpa using h1)
  refine ⟨v, e, ?_⟩
  simp only [List.mem_cons, List.not_mem_nil, or_false] at hv
  rcases hv with rfl | rfl | rfl | rfl | rfl | rfl <;> constructor <;> omega
section
variable {P : Program} {w : World} {K : PySem.W.Frag} {mg : Str → Option Value} {base : Heap} {f fT fP : Addr} {fd dT dP : FuncData}
theorem ok_ds (F : Fun K "_law_deeds" "_law_deeds" sDs f fd) (mn : mg "len" = none) (mr : mg "range" = none) (mi : mg "int" = none) (FT : Fun K "_law_take" "_law_take" sDraw fT dT) (GT : FnOk P w K mg base CX0 1 fT dT ["_law_pen_here", "_law_many"] spDraw) (bT : Binds K dT ["_law_pen_here", "_law_many"] []) (gT : mg "_law_take" = some (.ref fT))
    (FP : Fun K "_law_pick" "_law_pick" sPk fP dP) (GP : FnOk P w K mg base CX0 2 fP dP ["_law_pen_here", "_law_some"] spPk) (bP : Binds K dP ["_law_pen_here", "_law_some"] []) (gP : mg "_law_pick" = some (.ref fP)) :
    FnOk P w K mg base CX0 3 f fd ["_law_pen_here", "_law_most"] (spDs K) := by
  refine F.ok scDs (fun vs H Q E h => ?_) (fun cdv A outer s H vs Q E hr h => ?_)
  · obtain ⟨l, c, S, rfl, _⟩ := h
    rfl
  obtain ⟨l, c, S, rfl, hP, hS, q⟩ := h
  have nd := scDs.nd
  have hu := hu_of hr
  have hu0 := Nat.lt_of_succ_lt hu
  have r1 : Room 1 _ := hr.mono (by decide)
  refine ⟨_, pss_cons (ps_setLc (i := 2) (own := [("_law_name", 6)]) (g := gName 6) (tt := tYes) rfl nd rfl rfl (by rfl) (pi_list (pe_lst (pa_cons pe_str (pa_cons pe_str (pa_cons pe_str pa_nil))))) (blkOk_by (N := nDs) (sc := defScope sDs) (by decide +kernel)) (fun _ _ _ _ _ => pg_name (i := 6) nd rfl (Or.inl rfl)) (fun _ _ _ _ _ => pts_nil) (fun _ _ _ _ _ => pe_tup (pa_cons pe_str (pa_cons (pv 6) (pa_cons (pe_tup (pa_cons pe_str (pa_cons pe_str pa_nil))) pa_nil)))))
    (pss_cons (ps_set (i := 3) nd rfl (by first | exact .inl rfl | exact .inr rfl) (pe_disp (pps_cons pe_str (pe_lst pa_nil) (pps_cons pe_str (pe_lst pa_nil) (pps_cons pe_str (pe_lst pa_nil) pps_nil))) (by rfl) (by rfl) (fun z => by cases z) (by decide)))
    (pss_cons (ps_set (i := 4) nd rfl (by first | exact .inl rfl | exact .inr rfl) (pe_disp (pps_cons pe_str pe_int (pps_cons pe_str pe_int (pps_cons pe_str pe_int pps_nil))) (by rfl) (by rfl) (fun z => by cases z) (by decide)))
    (C8.pss_cut (ps_for PassesOwn.never rfl (pi_range1 (by rfl) mr (pa_cons (pe_ix ix_list (pe_lst (pa_cons pe_int (pa_cons pe_int (pa_cons pe_int (pa_cons (pe_op op_mul pe_int (pv 1)) (pa_cons (pe_call GT r1 (by rfl) gT FT.kp bT .nil pass0 (pa_cons (pv 0) (pa_cons (pe_op op_add (pe_op op_mul pe_int (pv 1)) pe_int) pa_nil))) (pa_cons (pe_op op_add (pe_op op_mul pe_int (pv 1)) pe_int) pa_nil))))))) (pe_call GT r1 (by rfl) gT FT.kp bT .nil pass0 (pa_cons (pv 0) (pa_cons pe_int pa_nil))) (fun _ _ => rfl)) pa_nil)) (pg_name (i := 5) nd rfl (by first | exact .inl rfl | exact .inr rfl))
      (pss_cons (ps_set (i := 6) nd rfl (by first | exact .inl rfl | exact .inr rfl) (pe_call GP hr (by rfl) gP FP.kp bP .nil pass0 (pa_cons (pv 0) (pa_cons (pe_lst (pa_cons pe_str (pa_cons pe_str (pa_cons pe_str pa_nil)))) pa_nil))))
      (pss_cons (ps_set (i := 7) nd rfl (by first | exact .inl rfl | exact .inr rfl) (pe_call GT r1 (by rfl) gT FT.kp bT .nil pass0 (pa_cons (pv 0) (pa_cons pe_int pa_nil))))
      (pss_one (ps_if (PW.pt (pw_and (pt_cmpR op_eq (pv 7) pe_int (nomark _)) (pw_and1 (pt_cmpR (op_neL0 hu0) (pe_dget hu (pv 3) (pv 6) (fun _ _ => rfl)) (pe_lst pa_nil) (nomark _)))))
        (pss_one (ps_expr (pe_bm PySem.F.plainAttrs_list PySem.F.slot_list_append PySem.F.type_list_append mt_append (pv 2) (pa_cons (pe_tup (pa_cons pe_str (pa_cons (pv 6) (pa_cons (pe_bm PySem.F.plainAttrs_list PySem.F.slot_list_pop PySem.F.type_list_pop mt_popAt (pe_dget hu (pv 3) (pv 6) (fun _ _ => rfl)) (pa_cons (pe_call GT r1 (by rfl) gT FT.kp bT .nil pass0 (pa_cons (pv 0) (pa_cons (pe_callB call_len_seq (by rfl) mn PySem.boot_len (pa_cons (pe_dget hu (pv 3) (pv 6) (fun _ _ => rfl)) pa_nil)) pa_nil))) pa_nil)) pa_nil)))) pa_nil))))
        (pss_one (ps_if (pt_cmpR op_lt (pe_dget hu (pv 4) (pv 6) (fun _ _ => rfl)) (pv 1) (nomark _))
          (pss_cons (ps_set (i := 8) nd rfl (by first | exact .inl rfl | exact .inr rfl) (pe_ix ix_list (pe_lst (pa_cons (pe_call GT r1 (by rfl) gT FT.kp bT .nil pass0 (pa_cons (pv 0) (pa_cons pe_int pa_nil))) (pa_cons (pe_op op_sub (pe_call GT r1 (by rfl) gT FT.kp bT .nil pass0 (pa_cons (pv 0) (pa_cons pe_int pa_nil))) pe_int) pa_nil))) (pe_callTy call_int1 (by rfl) mi (by decide +kernel) (pa_cons (pe_cmpR op_eq (pv 7) pe_int (nomark _)) pa_nil)) (fun _ _ => rfl)))
          (pss_cons (ps_expr (pe_bm PySem.F.plainAttrs_list PySem.F.slot_list_append PySem.F.type_list_append mt_append (pv 2) (pa_cons (pe_tup (pa_cons pe_str (pa_cons (pv 6) (pa_cons (pe_tup (pa_cons (pe_call GT r1 (by rfl) gT FT.kp bT .nil pass0 (pa_cons (pv 0) (pa_cons pe_int pa_nil))) (pa_cons (pv 8) pa_nil))) pa_nil)))) pa_nil)))
          (pss_cons (ps_expr (pe_bm PySem.F.plainAttrs_list PySem.F.slot_list_append PySem.F.type_list_append mt_append (pe_dget hu (pv 3) (pv 6) (fun _ _ => rfl)) (pa_cons (pe_dget hu (pv 4) (pv 6) (fun _ _ => rfl)) pa_nil)))
          (pss_one (ps_dput hu (pv 4) (pv 6) (pe_op op_add (pe_dget hu (pv 4) (pv 6) (fun _ _ => rfl)) pe_int) rfl))))) pss_nil)))))))
    (pss_one (ps_ret (pv 2)))))), ?_⟩
  refine ⟨by show 3 ≤ sizeLine; decide, fun b0 nb0 => ⟨b0, rfl, ⟨_, SqL.of upd_same⟩, fun B nB => ?_⟩⟩
  have j0 := new_same (o := .lst (nm3.map V.str)) nb0
  have eb0 : upd H b0 (.lst (nm3.map V.str)) b0 = some (.lst (nm3.map V.str)) := upd_same
  have nB : upd H b0 (.lst (nm3.map V.str)) B = none := nB
  have pb := hP.same j0
  change ∃ W : Nat → Nat → Hp → Prop, (∃ m, W 0 m (upd (upd H b0 (.lst (nm3.map V.str))) B (.lst []))) ∧ _
  generalize upd H b0 (.lst (nm3.map V.str)) = H1 at j0 eb0 nB pb ⊢
  have nB0 : H B = none := j0.free nB
  refine lc_list (K := K) (a := b0) (xs := nm3.map V.str) (fun k G => Same H1 G ∧ ∃ us, G B = some (.lst us) ∧ PySem.W.EachIs (fun v d => ∃ t, v = .ref t ∧ DeedAt K G t d) us (ds3.take k)) ⟨new_same nB, [], upd_same, .nil⟩ (fun k G _ z => SqL.of (z.1 _ _ eb0)) ?_ ?_
  · rintro k y G hy ⟨sg, us, eB, ru⟩
    rw [List.getElem?_map, Option.map_eq_some_iff] at hy
    obtain ⟨n, hn, rfl⟩ := hy
    have hk : k < 3 := (List.getElem?_eq_some_iff.mp hn).1
    refine ⟨rfl, ?_⟩
    refine ⟨_, rfl, by show 2 ≤ sizeLine; decide, fun tq ntq => ⟨by show 3 ≤ sizeLine; decide, fun dq ndq => ?_⟩⟩
    have jt := new_same (o := .tup [.str "a", .str "b"]) ntq
    have et : upd G tq (.tup [.str "a", .str "b"]) tq = some (.tup ((["a", "b"] : List Str).map V.str)) := upd_same
    generalize upd G tq (.tup [.str "a", .str "b"]) = G1 at jt et ndq ⊢
    have jd := new_same (o := .tup [.str "table", .str n, .ref tq]) ndq
    have ed : upd G1 dq (.tup [.str "table", .str n, .ref tq]) dq = some (.tup [.str "table", .str n, .ref tq]) := upd_same
    generalize upd G1 dq (.tup [.str "table", .str n, .ref tq]) = G2 at jd ed ⊢
    have s2 := jt.trans jd
    have eB2 := s2 _ _ eB
    have tp : Tups K G2 (upd G2 B (.lst (us ++ [.ref dq]))) := .upd_lst eB2
    have lu : us.length = k := by rw [ru.length, List.length_take]; show min k 3 = k; omega
    refine ⟨us, eB2, by rw [sizeLine_eq]; omega, own_same nB (sg.trans s2), us ++ [.ref dq], upd_same, ?_⟩
    have ed3 : ds3[k]? = some (.table n ["a", "b"]) := by
      unfold ds3
      rw [List.getElem?_map, hn]
      rfl
    rw [List.take_add_one, ed3]
    exact K37t.each_snoc (ru.mono fun v d ⟨q, e1, e2⟩ => ⟨q, e1, e2.tups ((Tups.of_same s2).trans tp)⟩) ⟨dq, rfl, .ref tq, tp _ _ (SqT.of ed), tq, rfl, tp _ _ (Tups.of_same jd _ _ (SqT.of et))⟩
  rintro H2 ⟨s2, us0, eB2, ru0⟩
  have s02 := j0.trans s2
  have pB := hP.same s02
  have nBl := (hP.not nB0)
  -- the two dicts
  intro D1 nD1
  have jD1 := new_same (o := .dK []) nD1
  have eD1 : upd H2 D1 (.dK []) D1 = some (.dK []) := upd_same
  generalize upd H2 D1 (.dK []) = H3 at jD1 eD1 ⊢
  refine ⟨Nat.zero_le _, fun t0 nt0 => ?_⟩
  have jt0 := new_same (o := .lst []) nt0
  have et0 : upd H3 t0 (.lst []) t0 = some (.lst []) := upd_same
  generalize upd H3 t0 (.lst []) = H4 at jt0 et0 ⊢
  refine ⟨Nat.zero_le _, fun t1 nt1 => ?_⟩
  have jt1 := new_same (o := .lst []) nt1
  have et1 : upd H4 t1 (.lst []) t1 = some (.lst []) := upd_same
  generalize upd H4 t1 (.lst []) = H5 at jt1 et1 ⊢
  refine ⟨Nat.zero_le _, fun t2 nt2 => ?_⟩
  have jt2 := new_same (o := .lst []) nt2
  have et2 : upd H5 t2 (.lst []) t2 = some (.lst []) := upd_same
  generalize upd H5 t2 (.lst []) = H6 at jt2 et2 ⊢
  have s36 := (jt0.trans jt1).trans jt2
  refine ⟨s36 _ _ eD1, [(.inr "ta", .ref t0), (.inr "tb", .ref t1), (.inr "tc", .ref t2)], rfl, by show 3 ≤ 15; decide, ?_⟩
  rw [merge3]
  have nD10 : H D1 = none := s02.free nD1
  have nt00 : H t0 = none := s02.free (jD1.free nt0)
  have nt10 : H t1 = none := s02.free (jD1.free (jt0.free nt1))
  have nt20 : H t2 = none := s02.free (jD1.free ((jt0.trans jt1).free nt2))
  have n01 : t0 ≠ t1 := ne_of_none et0 nt1
  have n02 : t0 ≠ t2 := ne_of_none (jt1 _ _ et0) nt2
  have n12 : t1 ≠ t2 := ne_of_none et1 nt2
  have s26 := jD1.trans s36
  have eB6 := s26 _ _ eB2
  have nBD : B ≠ D1 := ne_of_none eB2 nD1
  have nB_0 : B ≠ t0 := ne_of_none (jD1 _ _ eB2) nt0
  have nB_1 : B ≠ t1 := ne_of_none (jt0 _ _ (jD1 _ _ eB2)) nt1
  have nB_2 : B ≠ t2 := ne_of_none ((jt0.trans jt1) _ _ (jD1 _ _ eB2)) nt2
  have nD_0 : D1 ≠ t0 := ne_of_none eD1 nt0
  have nD_1 : D1 ≠ t1 := ne_of_none (jt0 _ _ eD1) nt1
  have nD_2 : D1 ≠ t2 := ne_of_none ((jt0.trans jt1) _ _ eD1) nt2
  have eD6 := s36 _ _ eD1
  have e7 : upd H6 D1 (.dK [(.inr "ta", .ref t0), (.inr "tb", .ref t1), (.inr "tc", .ref t2)]) D1 = some (.dK [(.inr "ta", .ref t0), (.inr "tb", .ref t1), (.inr "tc", .ref t2)]) := upd_same
  have k7 : ∀ b o, b ≠ D1 → H6 b = some o → upd H6 D1 (.dK [(.inr "ta", .ref t0), (.inr "tb", .ref t1), (.inr "tc", .ref t2)]) b = some o := fun b o n e => by rw [upd_ne n]; exact e
  have tp7 : Tups K H6 (upd H6 D1 (.dK [(.inr "ta", .ref t0), (.inr "tb", .ref t1), (.inr "tc", .ref t2)])) := tups_off fun q o e a1 _ _ => k7 q o (fun z => by rw [z, eD6] at e; exact a1 _ (Option.some.inj e).symm) e
  generalize upd H6 D1 (.dK [(.inr "ta", .ref t0), (.inr "tb", .ref t1), (.inr "tc", .ref t2)]) = H7 at e7 k7 tp7 ⊢
  intro D2 nD2
  have jD2 := new_same (o := .dK []) nD2
  have eD2 : upd H7 D2 (.dK []) D2 = some (.dK []) := upd_same
  generalize upd H7 D2 (.dK []) = H8 at jD2 eD2 ⊢
  refine ⟨eD2, [(.inr "ta", .int 0), (.inr "tb", .int 0), (.inr "tc", .int 0)], rfl, by show 3 ≤ 15; decide, ?_⟩
  rw [merge3]
  have e9 : upd H8 D2 (.dK [(.inr "ta", .int 0), (.inr "tb", .int 0), (.inr "tc", .int 0)]) D2 = some (.dK [(.inr "ta", .int 0), (.inr "tb", .int 0), (.inr "tc", .int 0)]) := upd_same
  have k9 : ∀ b o, b ≠ D2 → H7 b = some o → upd H8 D2 (.dK [(.inr "ta", .int 0), (.inr "tb", .int 0), (.inr "tc", .int 0)]) b = some o := fun b o n e => by rw [upd_ne n]; exact jD2 _ _ e
  have tp9 : Tups K H7 (upd H8 D2 (.dK [(.inr "ta", .int 0), (.inr "tb", .int 0), (.inr "tc", .int 0)])) := tups_off fun q o e a1 _ _ => k9 q o (ne_of_none e nD2) e
  generalize upd H8 D2 (.dK [(.inr "ta", .int 0), (.inr "tb", .int 0), (.inr "tc", .int 0)]) = H9 at e9 k9 tp9 ⊢
  have off : ∀ b o, b ≠ D1 → H2 b = some o → H9 b = some o := fun b o n e => k9 _ _ (ne_of_none (k7 _ _ n (s26 _ _ e)) nD2) (k7 _ _ n (s26 _ _ e))
  have offH : Same H H9 := fun b o e => off b o (ne_of_none e nD10) (s02 _ _ e)
  have tp29 : Tups K H2 H9 := ((Tups.of_same s26).trans tp7).trans tp9
  have nD20 : H D2 = none := by
    cases e : H D2 with
    | none => rfl
    | some o =>
      have z := k7 _ _ (ne_of_none e nD10) (s26 _ _ (s02 _ _ e))
      rw [nD2] at z
      cases z
  have n12' : D1 ≠ D2 := ne_of_none e7 nD2
  have fin : ∀ b o, b ≠ D1 → H6 b = some o → H9 b = some o := fun b o n e => k9 _ _ (ne_of_none (k7 _ _ n e) nD2) (k7 _ _ n e)
  obtain ⟨T, eT⟩ : ∃ T : Nat → Addr, T = fun i => if i = 0 then t0 else if i = 1 then t1 else t2 := ⟨_, rfl⟩
  have T0 : T 0 = t0 := by rw [eT]; rfl
  have T1 : T 1 = t1 := by rw [eT]; rfl
  have T2 : T 2 = t2 := by rw [eT]; rfl
  have nT : ∀ i, i < 3 → H (T i) = none := fun i hi => by
    have hh : i = 0 ∨ i = 1 ∨ i = 2 := by omega
    rcases hh with rfl | rfl | rfl
    · rw [T0]; exact nt00
    · rw [T1]; exact nt10
    · rw [T2]; exact nt20
  have dS : DS K H9 l c B D1 D2 T ds3 (xs3 3) := by
    refine ⟨chain3.ok (by decide) 3 (Nat.le_refl _), rfl, ⟨us0, off _ _ nBD eB2, ?_⟩, rfl, fun t ht => ?_, fun t ht => ?_, fun t ht => ?_, ?_, fun i t ht => ?_, e9, n12', fun i j hi hj e => ?_, fun i hi => ⟨fun z => ?_, (hP.not (nT i hi)).1, (hP.not (nT i hi)).2⟩, nBl⟩
    · have z : ds3.take (List.map V.str nm3).length = ds3 := rfl
      rw [z] at ru0
      exact ru0.mono fun v d ⟨q, e1, e2⟩ => ⟨q, e1, e2.tups tp29⟩
    · simp [xs3] at ht
      rcases ht with rfl | rfl | rfl <;> rfl
    · simp [xs3] at ht
      rcases ht with rfl | rfl | rfl <;> exact Nat.zero_le _
    · simp [xs3] at ht
      rcases ht with rfl | rfl | rfl <;> decide
    · rw [k9 _ _ n12' e7]
      show _ = some (HO.dK [((.inr "ta" : Key), V.ref (T 0)), (.inr "tb", .ref (T 1)), (.inr "tc", .ref (T 2))])
      rw [T0, T1, T2]
    · have hi : i < 3 := (List.getElem?_eq_some_iff.mp ht).1
      have hh : i = 0 ∨ i = 1 ∨ i = 2 := by omega
      rcases hh with rfl | rfl | rfl
      · cases (show some (⟨"ta", ["a", "b"], 0, []⟩ : Tab) = some t from ht)
        rw [T0]
        exact fin _ _ nD_0.symm ((jt1.trans jt2) _ _ et0)
      · cases (show some (⟨"tb", ["a", "b"], 1, []⟩ : Tab) = some t from ht)
        rw [T1]
        exact fin _ _ nD_1.symm (jt2 _ _ et1)
      · cases (show some (⟨"tc", ["a", "b"], 2, []⟩ : Tab) = some t from ht)
        rw [T2]
        exact fin _ _ nD_2.symm et2
    · have hh : i = 0 ∨ i = 1 ∨ i = 2 := by omega
      have hh2 : j = 0 ∨ j = 1 ∨ j = 2 := by omega
      rcases hh with rfl | rfl | rfl <;> rcases hh2 with rfl | rfl | rfl <;> simp only [T0, T1, T2] at e <;> first | rfl | exact absurd e n01 | exact absurd e n02 | exact absurd e n12 | exact absurd e.symm n01 | exact absurd e.symm n02 | exact absurd e.symm n12
    · have hh : i = 0 ∨ i = 1 ∨ i = 2 := by omega
      rcases hh with rfl | rfl | rfl
      · exact nB_0 (T0 ▸ z).symm
      · exact nB_1 (T1 ▸ z).symm
      · exact nB_2 (T2 ▸ z).symm
  have p9 := hP.same offH
  clear eT T0 T1 T2 et0 et1 et2 e7 k7 tp7 k9 tp9 e9 eD6 nB_0 nB_1 nB_2 nD_0 nD_1 nD_2 n01 n02 n12 nt00 nt10 nt20 fin off tp29 eB6 s26 s36
  -- the draws
  refine ⟨fun σ' G => (∃ (ds : List Deed) (xs : Nat → Shelf) (y5 y6 y7 y8 : Option V), σ' = [some (.ref l), some (.int 9), some (.ref B), some (.ref D1), some (.ref D2), y5, y6, y7, y8] ∧ Chain ds xs ∧ DS K G l c B D1 D2 T ds (xs ds.length) ∧ Pen G l c (S + 400) ∧ Ex1 l H G ∧ 3 ≤ ds.length ∧ ds.length ≤ 40), ?_, ?_⟩
  · refine ⟨_, rfl, _, _, rfl, rfl, .inl ⟨by decide, by decide⟩, _, rfl, _, rfl, _, _, rfl, rfl, .inl ⟨by decide, by decide⟩, _, _, rfl, rfl, l, c, _, _, rfl, p9, by decide, by decide, by omega, fun u G1 u0 u1 pu xu => ?_⟩
    refine ⟨_, rfl, _, _, rfl, rfl, .inl ⟨by decide, by decide⟩, _, _, rfl, rfl, by show 6 ≤ sizeLine; decide, fun b6 n6 => ?_⟩
    have j6 := new_same (o := .lst ([0, 4, 9, 3 * 9, u, 3 * 9 + 5].map V.int)) n6
    have n6l := (pu.not n6).1
    have e6 : upd G1 b6 (.lst ([0, 4, 9, 3 * 9, u, 3 * 9 + 5].map V.int)) b6 = some (.lst ([0, 4, 9, 3 * 9, u, 3 * 9 + 5].map V.int)) := upd_same
    have p6 := pu.same j6
    have d6 := (dS.draw p9 xu).same j6
    have x6 := ((ex1_same offH : Ex1 l H H9).trans xu).trans (Ex1.new (o := .lst ([0, 4, 9, 3 * 9, u, 3 * 9 + 5].map V.int)) n6)
    refine ⟨_, rfl, l, c, 6, _, rfl, p6, by decide, by decide, by omega, fun r G3 r0 r1 p3 x3 => ?_⟩
    obtain ⟨n, en, n0, n32⟩ := times_pick r0 r1 u0 (by omega)
    refine ⟨b6, _, _, .int n, rfl, rfl, SqL.of (x3 _ _ n6l e6), en, n, rfl, by omega, by omega, ?_⟩
    refine for_it (upto (n := n.toNat)) (fun k σ G => ∃ (ds : List Deed) (xs : Nat → Shelf) (y5 y6 y7 y8 : Option V), σ = [some (.ref l), some (.int 9), some (.ref B), some (.ref D1), some (.ref D2), y5, y6, y7, y8] ∧ Chain ds xs ∧ DS K G l c B D1 D2 T ds (xs ds.length) ∧ Pen G l c (S + 10 + 10 * ((k : Nat) : Int)) ∧ Ex1 l H G ∧ 3 ≤ ds.length ∧ ds.length ≤ 3 + k)
      ⟨ds3, xs3, _, _, _, _, rfl, chain3, d6.draw p6 x3, p3.le (by omega), x6.trans x3, by decide, by decide⟩ (fun _ _ _ _ _ => trivial) ?_ ?_
    · rintro k wv σ G4 G5 hk ⟨ds, xs, y5, y6, y7, y8, rfl, ch, dG, pG, xG, l3, lk⟩ ⟨rfl, rfl⟩
      refine ⟨_, rfl, by show 3 ≤ sizeLine; decide, fun b7 n7 => ?_⟩
      have j7 := new_same (o := .lst [.str "ta", .str "tb", .str "tc"]) n7
      have n7l := (pG.not n7).1
      have e7 : upd G5 b7 (.lst [.str "ta", .str "tb", .str "tc"]) b7 = some (.lst (nm3.map V.str)) := upd_same
      have p7 := pG.same j7
      have d7 := dG.same j7
      have x7 := xG.trans (Ex1.new (o := .lst [.str "ta", .str "tb", .str "tc"]) n7)
      generalize upd G5 b7 (.lst [.str "ta", .str "tb", .str "tc"]) = G6 at e7 p7 d7 x7 ⊢
      refine ⟨l, c, .ref b7, _, rfl, p7, by omega, .inl ⟨b7, _, rfl, e7, n7l, by show 0 < 3; decide, by show 3 ≤ 1000; decide, fun i y G8 hy p8 x8 => ?_⟩⟩
      rw [List.getElem?_map, Option.map_eq_some_iff] at hy
      obtain ⟨nn, hnn, rfl⟩ := hy
      have d8 := d7.draw p7 x8
      have x8' := x7.trans x8
      generalize hx : xs ds.length = x at d8
      obtain ⟨t, hi, tn⟩ := ds_at d8 hnn
      subst tn
      have tm := List.mem_of_getElem? hi
      refine ⟨_, rfl, l, c, 7, _, rfl, p8, by decide, by decide, by omega, fun r0 G9 r00 r01 p9' x9 => ?_⟩
      have d9 := d8.draw p8 x9
      have x9' := x8'.trans x9
      have g1 : ∀ {G : Hp}, DS K G l c B D1 D2 T ds x → DGet G D1 (.str t.name) (some (.ref (T i))) := fun h => by
        have z := DGet.k (k := .inr t.name) h.d1
        unfold colsK at z
        rw [valV_idx (f := fun j => .ref (T j)) x.tabs 0 i t h.ok.nd hi, Nat.zero_add] at z
        exact z
      have g2 : ∀ {G : Hp}, DS K G l c B D1 D2 T ds x → DGet G D2 (.str t.name) (some (.int (t.rows.length : Nat))) := fun h => by
        have z := DGet.k (k := .inr t.name) h.d2
        rw [valV_puts x.tabs i t h.ok.nd hi] at z
        exact z
      subst hx
      refine ⟨_, rfl, rfl, _, rfl, ite2 (fun e1 => ?_) (fun e1 => ?_)⟩
      · refine ⟨_, rfl, _, rfl, D1, _, rfl, g1 d9, Nat.zero_le _, fun b9 n9 => ?_⟩
        have j9 := new_same (o := .lst []) n9
        have e9' : upd G9 b9 (.lst []) b9 = some (.lst []) := upd_same
        have pX := p9'.same j9
        have dX := d9.same j9
        have xX := x9'.trans (Ex1.new (o := .lst []) n9)
        generalize upd G9 b9 (.lst []) = GX at e9' pX dX xX ⊢
        refine ⟨T i, b9, _, rfl, rfl, SqL.of (dX.there i t hi), SqL.of e9', _, rfl, ite2 (fun e2 => ?_) (fun e2 => ?_)⟩
        · have no : (outs t t.rows.length).length ≠ 0 := fun z => by
            rw [List.length_eq_zero_iff.mp z] at e2
            cases e2
          have no2 := outs_len t t.rows.length
          have t9 := dX.few t tm
          have eTX := dX.there i t hi
          obtain ⟨us, eBX, _⟩ := dX.lst
          refine ⟨_, rfl, .inl ⟨rfl, _, SqL.of eBX⟩, _, rfl, _, rfl, _, rfl, D1, _, rfl, g1 dX, .inl ⟨rfl, _, SqL.of eTX⟩, _, rfl, _, rfl, _, rfl, D1, _, rfl, g1 dX, T i, _, rfl, .inl (SqL.of eTX), l, c, _, _, rfl, pX, by rw [List.length_map]; omega, by rw [List.length_map]; omega, by omega, fun r5 H5 r50 r51 p5 x5 => ?_⟩
          have dX5 := dX.draw pX x5
          have eT5 := dX5.there i t hi
          have eB5 := x5 _ _ dX.offB.1 eBX
          rw [List.length_map] at r51
          obtain ⟨j, rfl⟩ : ∃ j : Nat, r5 = ((j : Nat) : Int) := ⟨r5.toNat, by omega⟩
          have hj : j < (outs t t.rows.length).length := by omega
          obtain ⟨k2, hk2⟩ : ∃ k2, (outs t t.rows.length)[j]? = some k2 := ⟨_, List.getElem?_eq_getElem hj⟩
          obtain ⟨rw1, er1, er2⟩ := outs_mem t (List.mem_of_getElem? hk2)
          have i3 : i < 3 := by rw [← dX.len]; exact (List.getElem?_eq_some_iff.mp hi).1
          refine ⟨T i, _, _, j, .int ((k2 : Nat) : Int), rfl, rfl, eT5, by omega, by omega, ?_, by rw [List.getElem?_map, hk2]; rfl, by show 3 ≤ sizeLine; decide, fun dq ndq => ?_⟩
          · rw [List.length_map]
            exact seqIndex_of (by omega) (by omega)
          have tB : T i ≠ B := (dX.offT i i3).1
          have kp6 : ∀ b o, b ≠ T i → H5 b = some o → upd H5 (T i) (.lst (((outs t t.rows.length).map fun k => V.int ((k : Nat) : Int)).eraseIdx j)) b = some o := fun b o n e => by rw [upd_ne n]; exact e
          have e6 : upd H5 (T i) (.lst (((outs t t.rows.length).map fun k => V.int ((k : Nat) : Int)).eraseIdx j)) (T i) = some (.lst (((outs t t.rows.length).map fun k => V.int ((k : Nat) : Int)).eraseIdx j)) := upd_same
          have tp6 : Tups K H5 (upd H5 (T i) (.lst (((outs t t.rows.length).map fun k => V.int ((k : Nat) : Int)).eraseIdx j))) := .upd_lst eT5
          generalize upd H5 (T i) (.lst (((outs t t.rows.length).map fun k => V.int ((k : Nat) : Int)).eraseIdx j)) = H6 at kp6 e6 tp6 ndq ⊢
          have jq := new_same (o := .tup [.str "out", .str t.name, .int ((k2 : Nat) : Int)]) ndq
          have eq7 : upd H6 dq (.tup [.str "out", .str t.name, .int ((k2 : Nat) : Int)]) dq = some (.tup [.str "out", .str t.name, .int ((k2 : Nat) : Int)]) := upd_same
          generalize upd H6 dq (.tup [.str "out", .str t.name, .int ((k2 : Nat) : Int)]) = H7 at jq eq7 ⊢
          have eB7 := jq _ _ (kp6 _ _ tB.symm eB5)
          have eT7 := jq _ _ e6
          have tp8 : Tups K H7 (upd H7 B (.lst (us ++ [.ref dq]))) := .upd_lst eB7
          have lus : us.length = ds.length := by
            obtain ⟨us', eu', ru⟩ := dX.lst
            rw [eBX] at eu'
            cases eu'
            exact ru.length
          refine ⟨B, us, _, rfl, rfl, eB7, by rw [sizeLine_eq]; omega, ?_⟩
          have kp8 : ∀ b o, b ≠ B → b ≠ T i → H5 b = some o → upd H7 B (.lst (us ++ [.ref dq])) b = some o := fun b o n1 n2 e => by rw [upd_ne n1]; exact jq _ _ (kp6 _ _ n2 e)
          obtain ⟨dok, can, dS⟩ := dX5.outStep (H' := upd H7 B (.lst (us ++ [.ref dq]))) hi er1 er2 hk2 (by omega) upd_same eB5 (by rw [upd_ne tB]; exact eT7) ⟨_, tp8 _ _ (SqT.of eq7), rfl⟩ ((tp6.trans (Tups.of_same jq)).trans tp8) kp8
          have nl8 : l ≠ B := fun z => dX.offB.1 z.symm
          have p8 : Pen (upd H7 B (.lst (us ++ [.ref dq]))) l c (S + 10 + 10 * ((k + 1 : Nat) : Int)) := by
            obtain ⟨ns, tt, ov, el, ec, z1, z2, z3⟩ := p5
            exact ⟨ns, tt, ov, kp8 _ _ (fun z => dX.offB.1 z.symm) (fun z => (dX.offT i i3).2.1 z.symm) el, kp8 _ _ (fun z => dX.offB.2 z.symm) (fun z => (dX.offT i i3).2.2 z.symm) ec, z1, z2, by omega⟩
          refine ⟨ds ++ [.out t.name k2], _, _, _, _, _, rfl, ch.snoc dok can, ?_, p8, fun b o n e => kp8 b o (ne_of_none e nB0) (ne_of_none e (nT i i3)) ((xX.trans x5) b o n e), by rw [List.length_append]; omega, by rw [List.length_append, List.length_singleton]; omega⟩
          rw [List.length_append, List.length_singleton, if_neg (by omega)]
          exact dS
        · have pY := pX
          have dY := dX
          have xY := xX
          obtain ⟨us, eBX, _⟩ := dY.lst
          have eTX := dY.there i t hi
          have i3 : i < 3 := by rw [← dY.len]; exact (List.getElem?_eq_some_iff.mp hi).1
          refine ⟨_, rfl, _, rfl, D2, _, rfl, g2 dY, _, rfl, _, _, rfl, rfl, _, rfl, ite2 (fun e3 => ?_) (fun e3 => ?_)⟩
          · have h9 : t.rows.length < 9 := by
              have := of_decide_eq_true e3
              omega
            refine ⟨_, rfl, l, c, 3, _, rfl, pY, by decide, by decide, by omega, fun r5 H5 r50 r51 p5 x5 => ?_⟩
            refine ⟨_, rfl, l, c, 9, _, rfl, p5, by decide, by decide, by omega, fun r6 H6 r60 r61 p6 x6 => ?_⟩
            refine ⟨_, _, rfl, rfl, by show 2 ≤ sizeLine; decide, fun b7 n7 => ?_⟩
            have j7 := new_same (o := .lst [.int r5, .int (r6 - 4)]) n7
            have e7 : upd H6 b7 (.lst [.int r5, .int (r6 - 4)]) b7 = some (.lst [.int r5, .int (r6 - 4)]) := upd_same
            have p7 := p6.same j7
            have d7 := ((dY.draw pY x5).draw p5 x6).same j7
            have x7 := ((xY.trans x5).trans x6).trans (Ex1.new (o := .lst [.int r5, .int (r6 - 4)]) n7)
            have y7 := (x5.trans x6).trans (Ex1.new (o := .lst [.int r5, .int (r6 - 4)]) n7)
            generalize upd H6 b7 (.lst [.int r5, .int (r6 - 4)]) = H7 at e7 p7 d7 x7 y7 ⊢
            obtain ⟨sc, esc, hsc⟩ : ∃ sc : Int, atI [V.int r5, V.int (r6 - 4)] (if decide (V.int r0 = V.int 5) = true then 1 else 0) = some (.int sc) ∧ (-4 ≤ sc ∧ sc ≤ 4) := by
              by_cases z : decide (V.int r0 = V.int 5) = true
              · rw [if_pos z]
                exact ⟨r6 - 4, atI_nat (j := 1) rfl, by omega⟩
              · rw [if_neg z]
                exact ⟨r5, atI_nat (j := 0) rfl, by omega⟩
            refine ⟨_, rfl, rfl, .inr ⟨_, rfl, b7, _, _, _, rfl, rfl, SqL.of e7, esc, ?_⟩⟩
            have eB7 := y7 _ _ dY.offB.1 eBX
            refine ⟨_, rfl, .inl ⟨rfl, _, SqL.of eB7⟩, _, rfl, _, rfl, l, c, 3, _, rfl, p7, by decide, by decide, by omega, fun r8 H8 r80 r81 p8 x8 => ?_⟩
            refine ⟨_, rfl, by show 2 ≤ sizeLine; decide, fun tq ntq => ⟨by show 3 ≤ sizeLine; decide, fun dq ndq => ?_⟩⟩
            have d8 := d7.draw p7 x8
            have jt := new_same (o := .tup [.int r8, .int sc]) ntq
            have et : upd H8 tq (.tup [.int r8, .int sc]) tq = some (.tup ([r8, sc].map V.int)) := upd_same
            generalize upd H8 tq (.tup [.int r8, .int sc]) = H9 at jt et ndq ⊢
            have jd := new_same (o := .tup [.str "row", .str t.name, .ref tq]) ndq
            have ed : upd H9 dq (.tup [.str "row", .str t.name, .ref tq]) dq = some (.tup [.str "row", .str t.name, .ref tq]) := upd_same
            generalize upd H9 dq (.tup [.str "row", .str t.name, .ref tq]) = HA at jd ed ⊢
            have dA := (d8.same jt).same jd
            have pA := (p8.same jt).same jd
            have eBA := jd _ _ (jt _ _ (x8 _ _ dY.offB.1 eB7))
            have lus : us.length = ds.length := by
              obtain ⟨us', eu', ru⟩ := dY.lst
              rw [eBX] at eu'
              cases eu'
              exact ru.length
            refine ⟨B, us, _, rfl, rfl, eBA, by rw [sizeLine_eq]; omega, ?_⟩
            have tB : T i ≠ B := (dY.offT i i3).1
            have D1B : D1 ≠ B := ne_of dA.d1 eBA (fun z => nomatch z)
            have D2B : D2 ≠ B := ne_of dA.d2 eBA (fun z => nomatch z)
            have eTA := dA.there i t hi
            have D1T : D1 ≠ T i := ne_of dA.d1 eTA (fun z => nomatch z)
            have D2T : D2 ≠ T i := ne_of dA.d2 eTA (fun z => nomatch z)
            have tpB : Tups K HA (upd HA B (.lst (us ++ [.ref dq]))) := .upd_lst eBA
            have kB : ∀ b o, b ≠ B → HA b = some o → upd HA B (.lst (us ++ [.ref dq])) b = some o := fun b o n e => by rw [upd_ne n]; exact e
            have eBB : upd HA B (.lst (us ++ [.ref dq])) B = some (.lst (us ++ [.ref dq])) := upd_same
            generalize upd HA B (.lst (us ++ [.ref dq])) = HB at tpB kB eBB ⊢
            have g1B : DGet HB D1 (.str t.name) (some (.ref (T i))) := by
              have z := DGet.k (k := .inr t.name) (kB _ _ D1B dA.d1)
              unfold colsK at z
              rw [valV_idx (f := fun j => .ref (T j)) (xs ds.length).tabs 0 i t dA.ok.nd hi, Nat.zero_add] at z
              exact z
            have g2B : DGet HB D2 (.str t.name) (some (.int (t.rows.length : Nat))) := by
              have z := DGet.k (k := .inr t.name) (kB _ _ D2B dA.d2)
              rw [valV_puts (xs ds.length).tabs i t dA.ok.nd hi] at z
              exact z
            have eTB := kB _ _ tB eTA
            refine ⟨_, rfl, _, rfl, D1, _, rfl, g1B, .inl ⟨rfl, _, SqL.of eTB⟩, _, rfl, _, rfl, D2, _, rfl, g2B, T i, _, _, rfl, rfl, eTB, ?_, ?_⟩
            · have := outs_len t t.rows.length
              rw [List.length_map, sizeLine_eq]
              omega
            have tpC : Tups K HB (upd HB (T i) (.lst (((outs t t.rows.length).map fun k => V.int ((k : Nat) : Int)) ++ [.int (t.rows.length : Nat)]))) := .upd_lst eTB
            have kC : ∀ b o, b ≠ T i → HB b = some o → upd HB (T i) (.lst (((outs t t.rows.length).map fun k => V.int ((k : Nat) : Int)) ++ [.int (t.rows.length : Nat)])) b = some o := fun b o n e => by rw [upd_ne n]; exact e
            have eTC : upd HB (T i) (.lst (((outs t t.rows.length).map fun k => V.int ((k : Nat) : Int)) ++ [.int (t.rows.length : Nat)])) (T i) = some (.lst (((outs t t.rows.length).map fun k => V.int ((k : Nat) : Int)) ++ [.int (t.rows.length : Nat)])) := upd_same
            generalize upd HB (T i) (.lst (((outs t t.rows.length).map fun k => V.int ((k : Nat) : Int)) ++ [.int (t.rows.length : Nat)])) = HC at tpC kC eTC ⊢
            have e2C := kC _ _ D2T (kB _ _ D2B dA.d2)
            have g2C : DGet HC D2 (.str t.name) (some (.int (t.rows.length : Nat))) := by
              have z := DGet.k (k := .inr t.name) e2C
              rw [valV_puts (xs ds.length).tabs i t dA.ok.nd hi] at z
              exact z
            have l3t : (putsK (xs ds.length).tabs).length = 3 := by unfold putsK; rw [List.length_map]; exact dA.len
            refine ⟨_, rfl, _, rfl, D2, _, rfl, g2C, _, _, rfl, rfl, _, rfl, _, rfl, D2, _, rfl, DPut.k (k := .inr t.name) e2C (by rw [l3t, sizeLine_eq]; decide), ?_⟩
            have kD : ∀ b o, b ≠ D2 → HC b = some o → upd HC D2 (.dK (putK (putsK (xs ds.length).tabs) (.inr t.name) (.int ((t.rows.length + 1 : Nat) : Int)))) b = some o := fun b o n e => by rw [upd_ne n]; exact e
            have tpD : Tups K HC (upd HC D2 (.dK (putK (putsK (xs ds.length).tabs) (.inr t.name) (.int ((t.rows.length + 1 : Nat) : Int))))) := tups_off fun q o e a1 _ _ => kD q o (fun z => by rw [z, e2C] at e; exact a1 _ (Option.some.inj e).symm) e
            have kA : ∀ b o, b ≠ B → b ≠ T i → b ≠ D2 → HA b = some o → upd HC D2 (.dK (putK (putsK (xs ds.length).tabs) (.inr t.name) (.int ((t.rows.length + 1 : Nat) : Int)))) b = some o := fun b o n1 n2 n3 e => kD _ _ n3 (kC _ _ n2 (kB _ _ n1 e))
            have tpA := (tpB.trans tpC).trans tpD
            obtain ⟨dok, can, dS⟩ := dA.rowStep (H' := upd HC D2 (.dK (putK (putsK (xs ds.length).tabs) (.inr t.name) (.int ((t.rows.length + 1 : Nat) : Int))))) (ws := [r8, sc]) hi h9 rfl (fun a ha => by
              simp only [List.mem_cons, List.not_mem_nil, or_false] at ha
              have z : (10 ^ 30 : Int) = 1000000000000000000000000000000 := by decide
              rcases ha with rfl | rfl <;> constructor <;> omega) (by omega) (kD _ _ D2B.symm (kC _ _ tB.symm eBB)) eBA (kD _ _ D2T.symm eTC) upd_same ⟨_, tpA _ _ (SqT.of ed), tq, rfl, tpA _ _ (Tups.of_same jd _ _ (SqT.of et))⟩ tpA kA
            have pZ : Pen (upd HC D2 (.dK (putK (putsK (xs ds.length).tabs) (.inr t.name) (.int ((t.rows.length + 1 : Nat) : Int))))) l c (S + 10 + 10 * ((k + 1 : Nat) : Int)) := by
              obtain ⟨nums, tt, ov, el, ec, z1, z2, z3⟩ := pA
              exact ⟨nums, tt, ov, kA _ _ (fun z => dY.offB.1 z.symm) (fun z => (dY.offT i i3).2.1 z.symm) (ne_of el dA.d2 (fun z => nomatch z)) el, kA _ _ (fun z => dY.offB.2 z.symm) (fun z => (dY.offT i i3).2.2 z.symm) (ne_of ec dA.d2 (fun z => nomatch z)) ec, z1, z2, by omega⟩
            refine ⟨ds ++ [.row t.name [r8, sc]], _, _, _, _, _, rfl, ch.snoc dok can, ?_, pZ, fun b o n e => ?_, by rw [List.length_append]; omega, by rw [List.length_append, List.length_singleton]; omega⟩
            · rw [List.length_append, List.length_singleton, if_neg (by omega)]
              exact dS
            · exact kA b o (ne_of_none e nB0) (ne_of_none e (nT i i3)) (ne_of_none e nD20) (jd _ _ (jt _ _ ((x7.trans x8) b o n e)))
          · exact ⟨ds, xs, _, _, _, _, rfl, ch, dY, pY.le (by omega), xY, l3, by omega⟩
      · have pY := p9'
        have dY := d9
        have xY := x9'
        obtain ⟨us, eBX, _⟩ := dY.lst
        have eTX := dY.there i t hi
        have i3 : i < 3 := by rw [← dY.len]; exact (List.getElem?_eq_some_iff.mp hi).1
        refine ⟨_, rfl, _, rfl, D2, _, rfl, g2 dY, _, rfl, _, _, rfl, rfl, _, rfl, ite2 (fun e3 => ?_) (fun e3 => ?_)⟩
        · have h9 : t.rows.length < 9 := by
            have := of_decide_eq_true e3
            omega
          refine ⟨_, rfl, l, c, 3, _, rfl, pY, by decide, by decide, by omega, fun r5 H5 r50 r51 p5 x5 => ?_⟩
          refine ⟨_, rfl, l, c, 9, _, rfl, p5, by decide, by decide, by omega, fun r6 H6 r60 r61 p6 x6 => ?_⟩
          refine ⟨_, _, rfl, rfl, by show 2 ≤ sizeLine; decide, fun b7 n7 => ?_⟩
          have j7 := new_same (o := .lst [.int r5, .int (r6 - 4)]) n7
          have e7 : upd H6 b7 (.lst [.int r5, .int (r6 - 4)]) b7 = some (.lst [.int r5, .int (r6 - 4)]) := upd_same
          have p7 := p6.same j7
          have d7 := ((dY.draw pY x5).draw p5 x6).same j7
          have x7 := ((xY.trans x5).trans x6).trans (Ex1.new (o := .lst [.int r5, .int (r6 - 4)]) n7)
          have y7 := (x5.trans x6).trans (Ex1.new (o := .lst [.int r5, .int (r6 - 4)]) n7)
          generalize upd H6 b7 (.lst [.int r5, .int (r6 - 4)]) = H7 at e7 p7 d7 x7 y7 ⊢
          obtain ⟨sc, esc, hsc⟩ : ∃ sc : Int, atI [V.int r5, V.int (r6 - 4)] (if decide (V.int r0 = V.int 5) = true then 1 else 0) = some (.int sc) ∧ (-4 ≤ sc ∧ sc ≤ 4) := by
            by_cases z : decide (V.int r0 = V.int 5) = true
            · rw [if_pos z]
              exact ⟨r6 - 4, atI_nat (j := 1) rfl, by omega⟩
            · rw [if_neg z]
              exact ⟨r5, atI_nat (j := 0) rfl, by omega⟩
          refine ⟨_, rfl, rfl, .inr ⟨_, rfl, b7, _, _, _, rfl, rfl, SqL.of e7, esc, ?_⟩⟩
          have eB7 := y7 _ _ dY.offB.1 eBX
          refine ⟨_, rfl, .inl ⟨rfl, _, SqL.of eB7⟩, _, rfl, _, rfl, l, c, 3, _, rfl, p7, by decide, by decide, by omega, fun r8 H8 r80 r81 p8 x8 => ?_⟩
          refine ⟨_, rfl, by show 2 ≤ sizeLine; decide, fun tq ntq => ⟨by show 3 ≤ sizeLine; decide, fun dq ndq => ?_⟩⟩
          have d8 := d7.draw p7 x8
          have jt := new_same (o := .tup [.int r8, .int sc]) ntq
          have et : upd H8 tq (.tup [.int r8, .int sc]) tq = some (.tup ([r8, sc].map V.int)) := upd_same
          generalize upd H8 tq (.tup [.int r8, .int sc]) = H9 at jt et ndq ⊢
          have jd := new_same (o := .tup [.str "row", .str t.name, .ref tq]) ndq
          have ed : upd H9 dq (.tup [.str "row", .str t.name, .ref tq]) dq = some (.tup [.str "row", .str t.name, .ref tq]) := upd_same
          generalize upd H9 dq (.tup [.str "row", .str t.name, .ref tq]) = HA at jd ed ⊢
          have dA := (d8.same jt).same jd
          have pA := (p8.same jt).same jd
          have eBA := jd _ _ (jt _ _ (x8 _ _ dY.offB.1 eB7))
          have lus : us.length = ds.length := by
            obtain ⟨us', eu', ru⟩ := dY.lst
            rw [eBX] at eu'
            cases eu'
            exact ru.length
          refine ⟨B, us, _, rfl, rfl, eBA, by rw [sizeLine_eq]; omega, ?_⟩
          have tB : T i ≠ B := (dY.offT i i3).1
          have D1B : D1 ≠ B := ne_of dA.d1 eBA (fun z => nomatch z)
          have D2B : D2 ≠ B := ne_of dA.d2 eBA (fun z => nomatch z)
          have eTA := dA.there i t hi
          have D1T : D1 ≠ T i := ne_of dA.d1 eTA (fun z => nomatch z)
          have D2T : D2 ≠ T i := ne_of dA.d2 eTA (fun z => nomatch z)
          have tpB : Tups K HA (upd HA B (.lst (us ++ [.ref dq]))) := .upd_lst eBA
          have kB : ∀ b o, b ≠ B → HA b = some o → upd HA B (.lst (us ++ [.ref dq])) b = some o := fun b o n e => by rw [upd_ne n]; exact e
          have eBB : upd HA B (.lst (us ++ [.ref dq])) B = some (.lst (us ++ [.ref dq])) := upd_same
          generalize upd HA B (.lst (us ++ [.ref dq])) = HB at tpB kB eBB ⊢
          have g1B : DGet HB D1 (.str t.name) (some (.ref (T i))) := by
            have z := DGet.k (k := .inr t.name) (kB _ _ D1B dA.d1)
            unfold colsK at z
            rw [valV_idx (f := fun j => .ref (T j)) (xs ds.length).tabs 0 i t dA.ok.nd hi, Nat.zero_add] at z
            exact z
          have g2B : DGet HB D2 (.str t.name) (some (.int (t.rows.length : Nat))) := by
            have z := DGet.k (k := .inr t.name) (kB _ _ D2B dA.d2)
            rw [valV_puts (xs ds.length).tabs i t dA.ok.nd hi] at z
            exact z
          have eTB := kB _ _ tB eTA
          refine ⟨_, rfl, _, rfl, D1, _, rfl, g1B, .inl ⟨rfl, _, SqL.of eTB⟩, _, rfl, _, rfl, D2, _, rfl, g2B, T i, _, _, rfl, rfl, eTB, ?_, ?_⟩
          · have := outs_len t t.rows.length
            rw [List.length_map, sizeLine_eq]
            omega
          have tpC : Tups K HB (upd HB (T i) (.lst (((outs t t.rows.length).map fun k => V.int ((k : Nat) : Int)) ++ [.int (t.rows.length : Nat)]))) := .upd_lst eTB
          have kC : ∀ b o, b ≠ T i → HB b = some o → upd HB (T i) (.lst (((outs t t.rows.length).map fun k => V.int ((k : Nat) : Int)) ++ [.int (t.rows.length : Nat)])) b = some o := fun b o n e => by rw [upd_ne n]; exact e
          have eTC : upd HB (T i) (.lst (((outs t t.rows.length).map fun k => V.int ((k : Nat) : Int)) ++ [.int (t.rows.length : Nat)])) (T i) = some (.lst (((outs t t.rows.length).map fun k => V.int ((k : Nat) : Int)) ++ [.int (t.rows.length : Nat)])) := upd_same
          generalize upd HB (T i) (.lst (((outs t t.rows.length).map fun k => V.int ((k : Nat) : Int)) ++ [.int (t.rows.length : Nat)])) = HC at tpC kC eTC ⊢
          have e2C := kC _ _ D2T (kB _ _ D2B dA.d2)
          have g2C : DGet HC D2 (.str t.name) (some (.int (t.rows.length : Nat))) := by
            have z := DGet.k (k := .inr t.name) e2C
            rw [valV_puts (xs ds.length).tabs i t dA.ok.nd hi] at z
            exact z
          have l3t : (putsK (xs ds.length).tabs).length = 3 := by unfold putsK; rw [List.length_map]; exact dA.len
          refine ⟨_, rfl, _, rfl, D2, _, rfl, g2C, _, _, rfl, rfl, _, rfl, _, rfl, D2, _, rfl, DPut.k (k := .inr t.name) e2C (by rw [l3t, sizeLine_eq]; decide), ?_⟩
          have kD : ∀ b o, b ≠ D2 → HC b = some o → upd HC D2 (.dK (putK (putsK (xs ds.length).tabs) (.inr t.name) (.int ((t.rows.length + 1 : Nat) : Int)))) b = some o := fun b o n e => by rw [upd_ne n]; exact e
          have tpD : Tups K HC (upd HC D2 (.dK (putK (putsK (xs ds.length).tabs) (.inr t.name) (.int ((t.rows.length + 1 : Nat) : Int))))) := tups_off fun q o e a1 _ _ => kD q o (fun z => by rw [z, e2C] at e; exact a1 _ (Option.some.inj e).symm) e
          have kA : ∀ b o, b ≠ B → b ≠ T i → b ≠ D2 → HA b = some o → upd HC D2 (.dK (putK (putsK (xs ds.length).tabs) (.inr t.name) (.int ((t.rows.length + 1 : Nat) : Int)))) b = some o := fun b o n1 n2 n3 e => kD _ _ n3 (kC _ _ n2 (kB _ _ n1 e))
          have tpA := (tpB.trans tpC).trans tpD
          obtain ⟨dok, can, dS⟩ := dA.rowStep (H' := upd HC D2 (.dK (putK (putsK (xs ds.length).tabs) (.inr t.name) (.int ((t.rows.length + 1 : Nat) : Int))))) (ws := [r8, sc]) hi h9 rfl (fun a ha => by
            simp only [List.mem_cons, List.not_mem_nil, or_false] at ha
            have z : (10 ^ 30 : Int) = 1000000000000000000000000000000 := by decide
            rcases ha with rfl | rfl <;> constructor <;> omega) (by omega) (kD _ _ D2B.symm (kC _ _ tB.symm eBB)) eBA (kD _ _ D2T.symm eTC) upd_same ⟨_, tpA _ _ (SqT.of ed), tq, rfl, tpA _ _ (Tups.of_same jd _ _ (SqT.of et))⟩ tpA kA
          have pZ : Pen (upd HC D2 (.dK (putK (putsK (xs ds.length).tabs) (.inr t.name) (.int ((t.rows.length + 1 : Nat) : Int))))) l c (S + 10 + 10 * ((k + 1 : Nat) : Int)) := by
            obtain ⟨nums, tt, ov, el, ec, z1, z2, z3⟩ := pA
            exact ⟨nums, tt, ov, kA _ _ (fun z => dY.offB.1 z.symm) (fun z => (dY.offT i i3).2.1 z.symm) (ne_of el dA.d2 (fun z => nomatch z)) el, kA _ _ (fun z => dY.offB.2 z.symm) (fun z => (dY.offT i i3).2.2 z.symm) (ne_of ec dA.d2 (fun z => nomatch z)) ec, z1, z2, by omega⟩
          refine ⟨ds ++ [.row t.name [r8, sc]], _, _, _, _, _, rfl, ch.snoc dok can, ?_, pZ, fun b o n e => ?_, by rw [List.length_append]; omega, by rw [List.length_append, List.length_singleton]; omega⟩
          · rw [List.length_append, List.length_singleton, if_neg (by omega)]
            exact dS
          · exact kA b o (ne_of_none e nB0) (ne_of_none e (nT i i3)) (ne_of_none e nD20) (jd _ _ (jt _ _ ((x7.trans x8) b o n e)))
        · exact ⟨ds, xs, _, _, _, _, rfl, ch, dY, pY.le (by omega), xY, l3, by omega⟩
    · rintro σ G ⟨ds, xs, y5, y6, y7, y8, rfl, ch, dG, pG, xG, l3, lk⟩
      exact ⟨ds, xs, _, _, _, _, rfl, ch, dG, pG.le (by omega), xG, l3, by omega⟩
  rintro σ' G ⟨ds, xs, y5, y6, y7, y8, rfl, ch, dG, pG, xG, l3, l40⟩
  obtain ⟨us, eB, ru⟩ := dG.lst
  exact ⟨_, rfl, q B us ds xs G nB0 eB ru ch dG.nm (fun t ht => ⟨dG.cols t ht, dG.few t ht, dG.made t ht⟩) l3 l40 pG xG⟩
end
end K37
end

section
set_option Elab.async false
set_option linter.all false
set_option maxRecDepth 100000
set_option maxHeartbeats 4000000
namespace K37
open PySem PySem.Spec PyProof.Rows L2 Gd
abbrev sSc : Stmt := topS 39
abbrev nSc : List Str := ["_law_pen_here", "_law_aliases", "_law_found", "_law_k", "_law_alias", "_law_way"]
theorem scSc : FnScope nSc ["_law_pen_here"] (defScope sSc) := ⟨rfl, rfl, rfl, by decide +kernel, rfl, by decide +kernel, by decide +kernel⟩
/-- a pair of the i-th source -/
def PrOk (ns : List Str) (m i : Nat) (p : Pr) : Prop := Szg.Pl p.c ∧ Szg.Pl p.o ∧ Szg.Pl p.d ∧ ∃ j, j < i ∧ j < m ∧ p.o = ns.getD j ""
structure SrcOk (ns : List Str) (m i : Nat) (s : Src) : Prop where
  al : s.nick = ns.getD i ""
  way : isWi s = decide (i < m)
  two : s.pairs.length ≤ 2
  prs : ∀ p ∈ s.pairs, PrOk ns m i p
  w : Szg.Pl s.way
  t : Szg.Pl s.table ∧ s.table ∈ (["ta", "tb", "tc"] : List Str)
def SrcsOk (ns : List Str) (m : Nat) (ss : List Src) : Prop := ∀ i s, ss[i]? = some s → SrcOk ns m i s
theorem SrcsOk.snoc {ns : List Str} {m : Nat} {ss : List Src} {s : Src} (h : SrcsOk ns m ss) (a : SrcOk ns m ss.length s) : SrcsOk ns m (ss ++ [s]) := by
  intro i t e
  by_cases z : i < ss.length
  · rw [List.getElem?_append_left z] at e
    exact h i t e
  · rw [List.getElem?_append_right (by omega)] at e
    have := at_lt e
    have e0 : i - ss.length = 0 := by simpa using this
    rw [e0] at e
    cases e
    rw [show i = ss.length by omega]
    exact a
/-- what the sources are, all in all -/
structure Drawn (ss : List Src) (m : Nat) : Prop where
  well : Well ss m
  withs : (ss.filter isWi).length = m
  m1 : 1 ≤ m
  m3 : m ≤ 3
  five : ss.length ≤ 5
  tabs : ∀ s ∈ ss, s.table ∈ (["ta", "tb", "tc"] : List Str)
  small : ∀ s ∈ ss, s.pairs.length ≤ 2 ∧ Szg.Pl s.way ∧ Szg.Pl s.nick ∧ Szg.Pl s.table ∧ ∀ p ∈ s.pairs, Szg.Pl p.c ∧ Szg.Pl p.o ∧ Szg.Pl p.d
theorem withs_len {ns : List Str} {m : Nat} : ∀ (ss : List Src), SrcsOk ns m ss → (ss.filter isWi).length = min ss.length m := by
  intro ss h
  have key : ∀ (k : Nat), k ≤ ss.length → ((ss.take k).filter isWi).length = min k m := fun k => by
    induction k with
    | zero => intro _; simp
    | succ k ih =>
      intro hk
      have e : ss[k]? = some (ss.getD k noSrc) := by rw [List.getD_eq_getElem?_getD, List.getElem?_eq_getElem (by omega)] <;> rfl
      have o := (h k _ e).way
      rw [take_at e, List.filter_append, List.length_append, ih (by omega)]
      by_cases z : k < m
      · rw [decide_eq_true z] at o
        rw [List.filter_cons, o]
        show min k m + 1 = _
        omega
      · rw [decide_eq_false z] at o
        rw [List.filter_cons, o]
        show min k m + 0 = _
        omega
  have := key ss.length (Nat.le_refl _)
  rw [List.take_length] at this
  exact this
theorem drawn_of {ns : List Str} {m : Nat} {ss : List Src} (h : SrcsOk ns m ss) (nn : ns.Nodup) (n5 : ss.length ≤ ns.length) (pn : ∀ n ∈ ns, Szg.Pl n) (m1 : 1 ≤ m) (m3 : m ≤ 3) (l1 : m ≤ ss.length) (l5 : ss.length ≤ 5) : Drawn ss m := by
  have at_ : ∀ k, k < ss.length → ss[k]? = some (ss.getD k noSrc) := fun k hk => by rw [List.getD_eq_getElem?_getD, List.getElem?_eq_getElem hk] <;> rfl
  have al : ∀ k, k < ss.length → aliasAt ss k = ns.getD k "" := fun k hk => (h k _ (at_ k hk)).al
  refine ⟨⟨l1, fun i j hi hj e => ?_, fun k hk p hp => ?_⟩, ?_, m1, m3, l5, fun s hs => ?_, fun s hs => ?_⟩
  · rw [al i hi, al j hj, List.getD_eq_getElem?_getD, List.getD_eq_getElem?_getD, List.getElem?_eq_getElem (by omega), List.getElem?_eq_getElem (by omega)] at e
    have a : ns[i]? = some ns[i] := List.getElem?_eq_getElem (by omega)
    have b : ns[j]? = some ns[j] := List.getElem?_eq_getElem (by omega)
    have e : ns[i] = ns[j] := e
    exact (List.getElem?_inj (by omega) nn).mp (a.trans ((congrArg some e).trans b.symm))
  · obtain ⟨_, _, _, j, j1, j2, j3⟩ := (h k _ (at_ k hk)).prs p hp
    exact ⟨j, j1, j2, by rw [al j (by omega)]; exact j3⟩
  · rw [withs_len ss h]
    omega
  · obtain ⟨k, e⟩ := List.mem_iff_getElem?.mp hs
    exact (h k s e).t.2
  · obtain ⟨k, e⟩ := List.mem_iff_getElem?.mp hs
    have o := h k s e
    have hk := at_lt e
    refine ⟨o.two, o.w, ?_, o.t.1, fun p hp => ⟨(o.prs p hp).1, (o.prs p hp).2.1, (o.prs p hp).2.2.1⟩⟩
    rw [o.al]
    exact pn _ (getD_mem' (by omega))
def als5 (m : Nat) : List Str := (["x", "y", "z"] : List Str).take m ++ (["p", "q"] : List Str)
theorem als5_ok : ∀ m, m < 4 → 1 ≤ m → (als5 m).Nodup ∧ (als5 m).length = m + 2 ∧ (∀ n ∈ als5 m, (n.cps.toList.all fun c => decide (c < 128)) = true ∧ n.length ≤ 30) := by decide +kernel
theorem als5_at : ∀ m, m < 4 → ∀ k, k < m → (als5 m).getD k "" = (["x", "y", "z"] : List Str).getD k "" := by decide +kernel
theorem als5_at2 : ∀ m, m < 4 → 1 ≤ m → ∀ k, k < 2 → (als5 m).getD (m + k) "" = (["p", "q"] : List Str).getD k "" := by decide +kernel
theorem pl_of {n : Str} (h : (n.cps.toList.all fun c => decide (c < 128)) = true ∧ n.length ≤ 30) : Szg.Pl n := ⟨fun c hc => of_decide_eq_true (List.all_eq_true.mp h.1 c hc), h.2⟩
theorem tabs_pl : ∀ n ∈ (["ta", "tb", "tc", "perhaps", "none", "with"] : List Str), (n.cps.toList.all fun c => decide (c < 128)) = true ∧ n.length ≤ 30 := by decide +kernel
def spSc (K : PySem.W.Frag) : Sp := fun vs H Q _ => ∃ (l c : Addr) (S : Int), vs = [.ref l] ∧ Pen H l c S ∧ S ≤ 70000 ∧
  ∀ (T : Addr) (us : List V) (ss : List Src) (m : Nat) (H' : Hp), SqT K H' T us → DpAll K H' us (ss.map srcD) → Drawn ss m → Pen H' l c (S + 60) → Ex1 l H H' → Q (.ref T) H'
section
variable {P : Program} {w : World} {K : PySem.W.Frag} {mg : Str → Option Value} {base : Heap} {f fT fP fR : Addr} {fd dT dP dR : FuncData}
theorem ok_sc (F : Fun K "_law_sources" "_law_sources" sSc f fd) (mr : mg "range" = none) (mn : mg "len" = none) (mt : mg "tuple" = none)
    (FT : Fun K "_law_take" "_law_take" sDraw fT dT) (G : FnOk P w K mg base CX0 1 fT dT ["_law_pen_here", "_law_many"] spDraw) (bT : Binds K dT ["_law_pen_here", "_law_many"] []) (gT : mg "_law_take" = some (.ref fT))
    (FP : Fun K "_law_pick" "_law_pick" sPk fP dP) (GP : FnOk P w K mg base CX0 2 fP dP ["_law_pen_here", "_law_some"] spPk) (bP : Binds K dP ["_law_pen_here", "_law_some"] []) (gP : mg "_law_pick" = some (.ref fP))
    (FR : Fun K "_law_pairs" "_law_pairs" sPr fR dR) (GR : FnOk P w K mg base CX0 3 fR dR ["_law_pen_here", "_law_ahead"] (spPr K)) (bR : Binds K dR ["_law_pen_here", "_law_ahead"] []) (gR : mg "_law_pairs" = some (.ref fR)) :
    FnOk P w K mg base CX0 4 f fd ["_law_pen_here"] (spSc K) := by
  refine F.ok scSc (fun vs H Q E h => ?_) (fun cdv A outer s0 H vs Q E hr h => ?_)
  · obtain ⟨l, c, S, rfl, _⟩ := h
    rfl
  obtain ⟨l, c, S, rfl, hP, hS, q⟩ := h
  have nd := scSc.nd
  have zl : sizeLine = 16777216 := rfl
  have hr1 := hr.mono (show 1 ≤ 3 by decide)
  have hr2 := hr.mono (show 2 ≤ 3 by decide)
  refine ⟨_, pss_cons (ps_set (i := 1) nd rfl (.inl rfl) (pe_slice sl_list (pe_lst (pa_cons pe_str (pa_cons pe_str (pa_cons pe_str pa_nil)))) po_none (po_some (pe_ix ix_list (pe_lst (pa_cons pe_int (pa_cons pe_int (pa_cons pe_int (pa_cons pe_int pa_nil))))) (pe_call G hr1 (by rfl) gT FT.kp bT .nil pass0 (pa_cons (pv 0) (pa_cons pe_int pa_nil))) (fun _ _ => rfl)))))
      (pss_cons (ps_set (i := 2) nd rfl (.inl rfl) (pe_lst pa_nil))
      (pss_cons (ps_for PassesOwn.never rfl (pi_range1 (by rfl) mr (pa_cons (pe_callB call_len_seq (by rfl) mn PySem.boot_len (pa_cons (pv 1) pa_nil)) pa_nil)) (pg_name (i := 3) nd rfl (.inl rfl))
      (pss_one (ps_expr (pe_bm PySem.F.plainAttrs_list PySem.F.slot_list_append PySem.F.type_list_append mt_append (pv 2) (pa_cons (pe_tup (pa_cons pe_str (pa_cons (pe_ix ix_list (pv 1) (pv 3) (fun _ _ => rfl)) (pa_cons (pe_call GP hr2 (by rfl) gP FP.kp bP .nil pass0 (pa_cons (pv 0) (pa_cons (pe_lst (pa_cons pe_str (pa_cons pe_str (pa_cons pe_str pa_nil)))) pa_nil))) (pa_cons (pe_call GR hr (by rfl) gR FR.kp bR .nil pass0 (pa_cons (pv 0) (pa_cons (pe_slice sl_list (pv 1) po_none (po_some (pv 3))) pa_nil))) pa_nil))))) pa_nil)))))
      (pss_cons (ps_for PassesOwn.never rfl (pi_list (pe_slice sl_list (pe_lst (pa_cons pe_str (pa_cons pe_str pa_nil))) po_none (po_some (pe_ix ix_list (pe_lst (pa_cons pe_int (pa_cons pe_int (pa_cons pe_int (pa_cons pe_int pa_nil))))) (pe_call G hr1 (by rfl) gT FT.kp bT .nil pass0 (pa_cons (pv 0) (pa_cons pe_int pa_nil))) (fun _ _ => rfl))))) (pg_name (i := 4) nd rfl (.inl rfl))
      (pss_cons (ps_set (i := 5) nd rfl (.inl rfl) (pe_call GP hr2 (by rfl) gP FP.kp bP .nil pass0 (pa_cons (pv 0) (pa_cons (pe_lst (pa_cons pe_str (pa_cons pe_str pa_nil))) pa_nil))))
      (pss_one (ps_expr (pe_bm PySem.F.plainAttrs_list PySem.F.slot_list_append PySem.F.type_list_append mt_append (pv 2) (pa_cons (pe_tup (pa_cons (pv 5) (pa_cons (pv 4) (pa_cons (pe_call GP hr2 (by rfl) gP FP.kp bP .nil pass0 (pa_cons (pv 0) (pa_cons (pe_lst (pa_cons pe_str (pa_cons pe_str (pa_cons pe_str pa_nil)))) pa_nil))) (pa_cons (pe_call GR hr (by rfl) gR FR.kp bR .nil pass0 (pa_cons (pv 0) (pa_cons (pv 1) pa_nil))) pa_nil))))) pa_nil))))))
      (pss_one (ps_ret (pe_tupleOf (by rfl) mt (pv 2))))))), ?_⟩
  refine ⟨(by show 3 ≤ sizeLine; decide), fun b nb => ?_⟩
  have eb : upd H b (.lst [.str "x", .str "y", .str "z"]) b = some (.lst ((["x", "y", "z"] : List Str).map V.str)) := upd_same
  have nbl := (hP.not nb).1
  have p1 := hP.same (new_same (o := .lst [.str "x", .str "y", .str "z"]) nb)
  have x1 := Ex1.new (p := l) (o := .lst [.str "x", .str "y", .str "z"]) nb
  generalize upd H b (.lst [.str "x", .str "y", .str "z"]) = H1 at eb p1 x1 ⊢
  refine ⟨(by show 4 ≤ sizeLine; decide), fun f4 nf4 => ?_⟩
  have n4l := (p1.not nf4).1
  have e4 : upd H1 f4 (.lst [.int 1, .int 2, .int 2, .int 3]) f4 = some (.lst [.int 1, .int 2, .int 2, .int 3]) := upd_same
  have eb2 := new_same (o := .lst [.int 1, .int 2, .int 2, .int 3]) nf4 _ _ eb
  have p2 := p1.same (new_same (o := .lst [.int 1, .int 2, .int 2, .int 3]) nf4)
  have x2 := x1.trans (Ex1.new (o := .lst [.int 1, .int 2, .int 2, .int 3]) nf4)
  generalize upd H1 f4 (.lst [.int 1, .int 2, .int 2, .int 3]) = H2 at e4 eb2 p2 x2 ⊢
  refine ⟨_, rfl, l, c, 4, _, rfl, p2, by decide, by decide, by omega, fun r H3 r0 r1 p3 x3 => ?_⟩
  obtain ⟨zz, hz, ezz⟩ := at_list (f := V.int) (xs := [1, 2, 2, 3]) r0 (by simpa using r1)
  obtain ⟨m, rfl⟩ : ∃ n : Nat, zz = ((n : Nat) : Int) := ⟨zz.toNat, by
    simp only [List.mem_cons, List.not_mem_nil, or_false] at hz
    omega⟩
  have m13 : 1 ≤ m ∧ m ≤ 3 := by
    simp only [List.mem_cons, List.not_mem_nil, or_false] at hz
    omega
  refine ⟨f4, _, _, .int _, rfl, rfl, SqL.of (x3 _ _ n4l e4), ezz, _, rfl, b, _, rfl, SqL.of (x3 _ _ nbl eb2), fun al nal => ?_⟩
  rw [cutV_to (show m ≤ 3 by omega)]
  have ecut : ((["x", "y", "z"] : List Str).map V.str).take m = ((["x", "y", "z"] : List Str).take m).map V.str := by rw [List.map_take]
  rw [ecut]
  obtain ⟨als, hals⟩ : ∃ als, als = (["x", "y", "z"] : List Str).take m := ⟨_, rfl⟩
  rw [← hals]
  have lal : als.length = m := by rw [hals, List.length_take]; show min m 3 = m; omega
  have als_at : ∀ k, k < m → als[k]? = some ((als5 m).getD k "") := fun k hk => by
    rw [als5_at m (by omega) k hk, hals, List.getElem?_take_of_lt hk, List.getElem?_eq_getElem (show k < 3 by omega), List.getD_eq_getElem?_getD, List.getElem?_eq_getElem (show k < 3 by omega)]
    rfl
  obtain ⟨ok1, ok2, ok3⟩ := als5_ok m (by omega) m13.1
  have al_pl : ∀ j : Nat, j < m → Szg.Pl ((als5 m).getD j "") := fun j hj => pl_of (ok3 _ (getD_mem' (by omega)))
  have nall := (p3.not nal).1
  have p4 := p3.same (new_same (o := .lst (als.map V.str)) nal)
  have x4 := (x2.trans x3).trans (Ex1.new (o := .lst (als.map V.str)) nal)
  have ea4 : upd H3 al (.lst (als.map V.str)) al = some (.lst (als.map V.str)) := upd_same
  generalize upd H3 al (.lst (als.map V.str)) = H4 at p4 x4 ea4 ⊢
  refine ⟨Nat.zero_le _, fun fo nfo => ?_⟩
  have nfol := (p4.not nfo).1
  have nfo0 := free_ex1 x4 nfol nfo
  have naf : al ≠ fo := ne_of_none ea4 nfo
  have p5 := p4.same (new_same (o := .lst []) nfo)
  have x5 := x4.trans (Ex1.new (o := .lst []) nfo)
  have ea5 := new_same (o := .lst []) nfo _ _ ea4
  have ef5 : upd H4 fo (.lst []) fo = some (.lst []) := upd_same
  generalize upd H4 fo (.lst []) = H5 at p5 x5 ea5 ef5 ⊢
  refine ⟨_, rfl, al, _, rfl, .inl (SqL.of ea5), _, rfl, by rw [List.length_map]; omega, by rw [List.length_map]; omega, ?_⟩
  rw [Int.toNat_natCast, List.length_map, lal]
  refine for_it upto (fun k σ H6 => Ex1 l H H6 ∧ Pen H6 l c (S + 1 + 8 * ((k : Nat) : Int)) ∧ H6 al = some (.lst (als.map V.str)) ∧ (∃ us ss, H6 fo = some (.lst us) ∧ DpAll K H6 us (ss.map srcD) ∧ ss.length = k ∧ SrcsOk (als5 m) m ss) ∧ ∃ y3 y4 y5, σ = [some (.ref l), some (.ref al), some (.ref fo), y3, y4, y5])
    ⟨x5, p5.le (by simp), ea5, ⟨[], [], ef5, .nil, rfl, fun i s e => by cases e⟩, _, _, _, rfl⟩ (fun _ _ _ _ _ => trivial) ?_ ?_
  · rintro k x σ H6 H7 hk ⟨x6, p6, ea6, ⟨us, ss, ef, hd, ls, so⟩, y3, y4, y5, rfl⟩ ⟨rfl, rfl⟩
    refine ⟨_, rfl, .inl ⟨rfl, _, SqL.of ef⟩, _, rfl, _, rfl, al, _, ((k : Nat) : Int), .str ((als5 m).getD k ""), rfl, rfl, SqL.of ea6, atI_nat (by rw [List.getElem?_map, als_at k hk]; rfl), ?_⟩
    refine ⟨_, rfl, (by show 3 ≤ sizeLine; decide), fun tl ntl => ?_⟩
    have ntll := (p6.not ntl).1
    have p8 := p6.same (new_same (o := .lst [.str "ta", .str "tb", .str "tc"]) ntl)
    have x8 := Ex1.new (p := l) (o := .lst [.str "ta", .str "tb", .str "tc"]) ntl
    have et : upd H7 tl (.lst [.str "ta", .str "tb", .str "tc"]) tl = some (.lst ((["ta", "tb", "tc"] : List Str).map V.str)) := upd_same
    generalize upd H7 tl (.lst [.str "ta", .str "tb", .str "tc"]) = H8 at p8 x8 et ⊢
    refine ⟨l, c, .ref tl, _, rfl, p8, by omega, .inl ⟨tl, _, rfl, et, ntll, by decide, by decide, fun i y H9 hy p9 x9 => ?_⟩⟩
    obtain ⟨tb, htb, rfl⟩ := map_at hy
    have tbm : Szg.Pl tb ∧ tb ∈ (["ta", "tb", "tc"] : List Str) := ⟨pl_of (tabs_pl tb (by
      have := List.mem_of_getElem? htb
      simp only [List.mem_cons, List.not_mem_nil, or_false] at this ⊢
      rcases this with rfl | rfl | rfl <;> simp)), List.mem_of_getElem? htb⟩
    have x79 := x8.trans x9
    have ea9 := x79 _ _ nall ea6
    refine ⟨_, rfl, _, rfl, _, rfl, _, rfl, al, _, rfl, SqL.of ea9, fun sl nsl => ?_⟩
    rw [cutV_to (show k ≤ (als.map V.str).length by rw [List.length_map]; omega), ← List.map_take]
    have nsll := (p9.not nsl).1
    have p10 := p9.same (new_same (o := .lst ((als.take k).map V.str)) nsl)
    have x10 := x79.trans (Ex1.new (o := .lst ((als.take k).map V.str)) nsl)
    have es : upd H9 sl (.lst ((als.take k).map V.str)) sl = some (.lst ((als.take k).map V.str)) := upd_same
    generalize upd H9 sl (.lst ((als.take k).map V.str)) = H10 at p10 x10 es ⊢
    refine ⟨l, c, sl, _, als.take k, rfl, p10, by omega, es, nsll, by rw [List.length_take]; omega, fun T us2 ps H11 hT hps2 l2 hps p11 x11 => ?_⟩
    have x11' := x10.trans x11
    refine ⟨(by show 4 ≤ sizeLine; decide), fun sx nsx => ?_⟩
    have j12 := new_same (o := .tup [.str "with", .str ((als5 m).getD k ""), .str tb, .ref T]) nsx
    have sx12 : SqT K (upd H11 sx (.tup [.str "with", .str ((als5 m).getD k ""), .str tb, .ref T])) sx [.str "with", .str ((als5 m).getD k ""), .str tb, .ref T] := SqT.of upd_same
    have x12 := x11'.trans (Ex1.new (o := .tup [.str "with", .str ((als5 m).getD k ""), .str tb, .ref T]) nsx)
    have p12 := p11.same j12
    have hT12 := same_tup j12 hT
    have hps12 := DpAll.tups (Tups.of_same j12) _ (prs_only ps) hps2
    generalize upd H11 sx (.tup [.str "with", .str ((als5 m).getD k ""), .str tb, .ref T]) = H12 at sx12 x12 p12 hT12 hps12 ⊢
    have ef12 := x12 _ _ nfol ef
    obtain ⟨_, _, _, el6, _⟩ := id p6
    have only : ∀ ss : List Src, SrcsOk (als5 m) m ss → tupOnlyAll (ss.map srcD) = true := fun ss so => srcs_only ss (fun s hs => by
      obtain ⟨i, e⟩ := List.mem_iff_getElem?.mp hs
      have := (so i s e).two
      omega)
    have hd12 := DpAll.tups (Ex1.tups x12 el6) _ (only ss so) hd
    have lu : us.length = ss.length := by rw [DpAll.len hd, List.length_map]
    have so' : SrcsOk (als5 m) m (ss ++ [⟨"with", (als5 m).getD k "", tb, ps⟩]) := so.snoc ⟨by rw [ls], by rw [ls, decide_eq_true hk]; rfl, l2, fun p h => by
        obtain ⟨c1, c2, j, hj⟩ := hps p h
        have hjk := at_lt hj
        rw [List.length_take] at hjk
        rw [List.getElem?_take_of_lt (by omega), als_at j (by omega)] at hj
        have e : p.o = (als5 m).getD j "" := (Option.some.inj hj).symm
        exact ⟨c1, by rw [e]; exact al_pl j (by omega), c2, j, by omega, by omega, e⟩, pl_of (tabs_pl "with" (by simp)), tbm⟩
    refine ⟨fo, us, _, rfl, rfl, ef12, by omega, ?_⟩
    refine ⟨own_ex1 nfo0 (x6.trans x12), (p12.off nfol (p4.not nfo).2).le (by omega), by rw [upd_ne naf]; exact x12 _ _ nall ea6, ⟨us ++ [.ref sx], _, upd_same, ?_, by rw [List.length_append, ls]; rfl, so'⟩, _, _, _, rfl⟩
    have o2 := only _ so'
    rw [List.map_append] at o2 ⊢
    exact DpAll.tups (Tups.upd_lst ef12) _ o2 (DpAll.snoc hd12 (.tup sx12 (.cons (.str _) (.cons (.str _) (.cons (.str _) (.cons (.tup hT12 hps12) .nil))))))
  · rintro σ H6 ⟨x6, p6, ea6, ⟨us, ss, ef, hd, ls, so⟩, y3, y4, y5, rfl⟩
    refine ⟨(by show 2 ≤ sizeLine; decide), fun b2 nb2 => ?_⟩
    have nb2l := (p6.not nb2).1
    have eb2' : upd H6 b2 (.lst [.str "p", .str "q"]) b2 = some (.lst ((["p", "q"] : List Str).map V.str)) := upd_same
    have p7 := p6.same (new_same (o := .lst [.str "p", .str "q"]) nb2)
    have x7 := Ex1.new (p := l) (o := .lst [.str "p", .str "q"]) nb2
    generalize upd H6 b2 (.lst [.str "p", .str "q"]) = H7 at eb2' p7 x7 ⊢
    refine ⟨(by show 4 ≤ sizeLine; decide), fun f5 nf5 => ?_⟩
    have n5l := (p7.not nf5).1
    have e5 : upd H7 f5 (.lst [.int 0, .int 0, .int 1, .int 2]) f5 = some (.lst [.int 0, .int 0, .int 1, .int 2]) := upd_same
    have eb3 := new_same (o := .lst [.int 0, .int 0, .int 1, .int 2]) nf5 _ _ eb2'
    have p8 := p7.same (new_same (o := .lst [.int 0, .int 0, .int 1, .int 2]) nf5)
    have x8 := x7.trans (Ex1.new (o := .lst [.int 0, .int 0, .int 1, .int 2]) nf5)
    generalize upd H7 f5 (.lst [.int 0, .int 0, .int 1, .int 2]) = H8 at e5 eb3 p8 x8 ⊢
    refine ⟨_, rfl, l, c, 4, _, rfl, p8, by decide, by decide, by omega, fun r9 H9 a9 b9 p9 x9 => ?_⟩
    obtain ⟨z9, hz9, ez9⟩ := at_list (f := V.int) (xs := [0, 0, 1, 2]) a9 (by simpa using b9)
    obtain ⟨n, rfl⟩ : ∃ n : Nat, z9 = ((n : Nat) : Int) := ⟨z9.toNat, by
      simp only [List.mem_cons, List.not_mem_nil, or_false] at hz9
      omega⟩
    have n2 : n ≤ 2 := by
      simp only [List.mem_cons, List.not_mem_nil, or_false] at hz9
      omega
    refine ⟨f5, _, _, .int _, rfl, rfl, SqL.of (x9 _ _ n5l e5), ez9, _, rfl, b2, _, rfl, SqL.of (x9 _ _ nb2l eb3), fun pl npl => ?_⟩
    rw [cutV_to (show n ≤ 2 by omega), ← List.map_take]
    have npll := (p9.not npl).1
    have p10 := p9.same (new_same (o := .lst (((["p", "q"] : List Str).take n).map V.str)) npl)
    have x10 := (x8.trans x9).trans (Ex1.new (o := .lst (((["p", "q"] : List Str).take n).map V.str)) npl)
    have epl : upd H9 pl (.lst (((["p", "q"] : List Str).take n).map V.str)) pl = some (.lst (((["p", "q"] : List Str).take n).map V.str)) := upd_same
    generalize upd H9 pl (.lst (((["p", "q"] : List Str).take n).map V.str)) = H10 at p10 x10 epl ⊢
    have npf : pl ≠ fo := fun e => by
      rw [e] at npl
      have := (x8.trans x9) _ _ nfol ef
      rw [this] at npl
      cases npl
    obtain ⟨_, _, _, el6, _⟩ := id p6
    have only : ∀ ss : List Src, SrcsOk (als5 m) m ss → tupOnlyAll (ss.map srcD) = true := fun ss so => srcs_only ss (fun s hs => by
      obtain ⟨i, e⟩ := List.mem_iff_getElem?.mp hs
      have := (so i s e).two
      omega)
    have hd10 := DpAll.tups (Ex1.tups x10 el6) _ (only ss so) hd
    refine ⟨pl, rfl, ⟨_, SqL.of epl⟩, ?_⟩
    have ln : (((["p", "q"] : List Str).take n).map V.str).length = n := by rw [List.length_map, List.length_take]; show min n 2 = n; omega
    refine for_it walk_list (fun j σ H11 => Ex1 l H H11 ∧ Pen H11 l c (S + 26 + 9 * ((j : Nat) : Int)) ∧ H11 al = some (.lst (als.map V.str)) ∧ H11 pl = some (.lst (((["p", "q"] : List Str).take n).map V.str)) ∧ (∃ us ss, H11 fo = some (.lst us) ∧ DpAll K H11 us (ss.map srcD) ∧ ss.length = m + j ∧ SrcsOk (als5 m) m ss) ∧ ∃ y3 y4 y5, σ = [some (.ref l), some (.ref al), some (.ref fo), y3, y4, y5])
      ⟨x6.trans x10, p10.le (by omega), x10 _ _ nall ea6, epl, ⟨us, ss, x10 _ _ nfol ef, hd10, ls, so⟩, _, _, _, rfl⟩ (fun j σ H11 _ h => SqL.of h.2.2.2.1) ?_ ?_
    · rintro j x σ H11 H12 hj ⟨x11, p11, ea11, ep11, ⟨us, ss, ef, hd, ls, so⟩, y3, y4, y5, rfl⟩ ⟨rfl, ex⟩
      obtain ⟨y, hy, rfl⟩ := map_at ex
      have hjn := at_lt hy
      rw [List.length_take] at hjn
      have hj2 : j < 2 := by
        have : (["p", "q"] : List Str).length = 2 := rfl
        omega
      have hjn2 : j < n := by omega
      have ey : y = (als5 m).getD (m + j) "" := by
        rw [als5_at2 m (by omega) m13.1 j hj2]
        rw [List.getElem?_take_of_lt hjn2] at hy
        rw [List.getD_eq_getElem?_getD, hy]
        rfl
      -- the way
      refine ⟨_, rfl, (by show 2 ≤ sizeLine; decide), fun wl nwl => ?_⟩
      have nwll := (p11.not nwl).1
      have p13 := p11.same (new_same (o := .lst [.str "perhaps", .str "none"]) nwl)
      have x13 := Ex1.new (p := l) (o := .lst [.str "perhaps", .str "none"]) nwl
      have ew : upd H12 wl (.lst [.str "perhaps", .str "none"]) wl = some (.lst ((["perhaps", "none"] : List Str).map V.str)) := upd_same
      generalize upd H12 wl (.lst [.str "perhaps", .str "none"]) = H13 at p13 x13 ew ⊢
      refine ⟨l, c, .ref wl, _, rfl, p13, by omega, .inl ⟨wl, _, rfl, ew, nwll, by decide, by decide, fun i y' H14 hy' p14 x14 => ?_⟩⟩
      obtain ⟨way, hway, rfl⟩ := map_at hy'
      have wm : (way = "perhaps" ∨ way = "none") := by
        have := List.mem_of_getElem? hway
        simpa using this
      have wpl : Szg.Pl way := pl_of (tabs_pl way (by rcases wm with rfl | rfl <;> simp))
      have wno : decide (way = "with") = false := by rcases wm with rfl | rfl <;> decide
      have x14' := x13.trans x14
      have ef14 := x14' _ _ nfol ef
      refine ⟨_, rfl, .inl ⟨rfl, _, SqL.of ef14⟩, _, rfl, _, rfl, _, rfl, (by show 3 ≤ sizeLine; decide), fun tl ntl => ?_⟩
      have ntll := (p14.not ntl).1
      have p15 := p14.same (new_same (o := .lst [.str "ta", .str "tb", .str "tc"]) ntl)
      have x15 := x14'.trans (Ex1.new (o := .lst [.str "ta", .str "tb", .str "tc"]) ntl)
      have et : upd H14 tl (.lst [.str "ta", .str "tb", .str "tc"]) tl = some (.lst ((["ta", "tb", "tc"] : List Str).map V.str)) := upd_same
      generalize upd H14 tl (.lst [.str "ta", .str "tb", .str "tc"]) = H15 at p15 x15 et ⊢
      refine ⟨l, c, .ref tl, _, rfl, p15, by omega, .inl ⟨tl, _, rfl, et, ntll, by decide, by decide, fun i2 y2 H16 hy2 p16 x16 => ?_⟩⟩
      obtain ⟨tb, htb, rfl⟩ := map_at hy2
      have tbm : Szg.Pl tb ∧ tb ∈ (["ta", "tb", "tc"] : List Str) := ⟨pl_of (tabs_pl tb (by
        have := List.mem_of_getElem? htb
        simp only [List.mem_cons, List.not_mem_nil, or_false] at this ⊢
        rcases this with rfl | rfl | rfl <;> simp)), List.mem_of_getElem? htb⟩
      have x16' := x15.trans x16
      have ea16 := x16' _ _ nall ea11
      refine ⟨_, rfl, _, rfl, l, c, al, _, als, rfl, p16, by omega, ea16, nall, by omega, fun T us2 ps H17 hT hps2 l2 hps p17 x17 => ?_⟩
      have x17' := x16'.trans x17
      refine ⟨(by show 4 ≤ sizeLine; decide), fun sx nsx => ?_⟩
      have j18 := new_same (o := .tup [.str way, .str y, .str tb, .ref T]) nsx
      have sx18 : SqT K (upd H17 sx (.tup [.str way, .str y, .str tb, .ref T])) sx [.str way, .str y, .str tb, .ref T] := SqT.of upd_same
      have x18 := x17'.trans (Ex1.new (o := .tup [.str way, .str y, .str tb, .ref T]) nsx)
      have p18 := p17.same j18
      have hT18 := same_tup j18 hT
      have hps18 := DpAll.tups (Tups.of_same j18) _ (prs_only ps) hps2
      generalize upd H17 sx (.tup [.str way, .str y, .str tb, .ref T]) = H18 at sx18 x18 p18 hT18 hps18 ⊢
      have ef18 := x18 _ _ nfol ef
      obtain ⟨_, _, _, el11, _⟩ := id p11
      have hd18 := DpAll.tups (Ex1.tups x18 el11) _ (only ss so) hd
      have lu : us.length = ss.length := by rw [DpAll.len hd, List.length_map]
      have so' : SrcsOk (als5 m) m (ss ++ [⟨way, y, tb, ps⟩]) := so.snoc ⟨by rw [ls]; exact ey, by rw [ls, decide_eq_false (show ¬ m + j < m by omega)]; exact wno, l2, fun p h => by
          obtain ⟨c1, c2, i3, hi3⟩ := hps p h
          have hik := at_lt hi3
          rw [als_at i3 (by omega)] at hi3
          have e : p.o = (als5 m).getD i3 "" := (Option.some.inj hi3).symm
          exact ⟨c1, by rw [e]; exact al_pl i3 (by omega), c2, i3, by omega, by omega, e⟩, wpl, tbm⟩
      refine ⟨fo, us, _, rfl, rfl, ef18, by omega, ?_⟩
      refine ⟨own_ex1 nfo0 (x11.trans x18), (p18.off nfol (p4.not nfo).2).le (by omega), by rw [upd_ne naf]; exact x18 _ _ nall ea11, by rw [upd_ne npf]; exact x18 _ _ npll ep11, ⟨us ++ [.ref sx], _, upd_same, ?_, by rw [List.length_append, ls]; rfl, so'⟩, _, _, _, rfl⟩
      have o2 := only _ so'
      rw [List.map_append] at o2 ⊢
      exact DpAll.tups (Tups.upd_lst ef18) _ o2 (DpAll.snoc hd18 (.tup sx18 (.cons (.str _) (.cons (.str _) (.cons (.str _) (.cons (.tup hT18 hps18) .nil))))))
    · rintro σ H11 ⟨x11, p11, ea11, ep11, ⟨us, ss, ef, hd, ls, so⟩, y3, y4, y5, rfl⟩
      rw [ln] at ls p11
      refine ⟨_, rfl, .inl ⟨fo, us, rfl, SqL.of ef, fun T nT => ?_⟩⟩
      have j12 := new_same (o := .tup us) nT
      exact q T us ss m _ (SqT.of upd_same) (DpAll.tups (Tups.of_same j12) _ (only ss so) hd) (drawn_of so ok1 (by omega) (fun n hn => pl_of (ok3 n hn)) m13.1 m13.2 (by omega) (by omega)) ((p11.same j12).le (by omega)) (x11.trans (Ex1.new nT))
end
end K37
end

section
set_option Elab.async false
set_option linter.all false
set_option maxRecDepth 100000
set_option maxHeartbeats 4000000
/-! what the law reckons: sizes, ties, what a plan keeps. -/
namespace K37
open PySem PySem.Spec PyProof.Rows L2 Gd K37t
section
variable {X : Cx}
/-- a tuple != () -/
def rNeT0 (K : PySem.W.Frag) : R2 := fun x y H Q => ∃ a b xs, x = .ref a ∧ y = .ref b ∧ SqT K H a xs ∧ SqT K H b [] ∧ Q (.bl (!xs.isEmpty)) H
theorem op_neT0 (hu : X.A.units < cLine) : OpR X (compareOp .NotEq) (rNeT0 X.K) := by
  intro pins s σ H x y v u Q I rx ry h
  obtain ⟨a, b, xs, rfl, rfl, ha, hb, q⟩ := h
  cases rx
  cases ry
  obtain ⟨its, r, pl, _⟩ := I.tuple ha
  obtain ⟨its2, r2, pl2, _⟩ := I.tuple hb
  cases r2
  have e : (!((List.range (min its.toArray.size (#[] : Array Value).size)).all (fun _ => true) && its.toArray.size == (#[] : Array Value).size)) = !xs.isEmpty := by
    cases r with
    | nil => rfl
    | cons _ _ => simp
  refine SeqAt.RcNeAt.tuples (e := fun _ => true) pl pl2 hu (fun j _ h2 => absurd h2 (by simp)) _ _ _ _ ⟨.bl _, H, I, rfl, ?_⟩
  rw [e]
  exact q
theorem ix_tupK (K : PySem.W.Frag) {X : Cx} (hK : X.K = K := by rfl) : IxR X (rIxT K) := by
  subst hK
  exact ix_tup
end
abbrev sSi : Stmt := topS 40
abbrev nSi : List Str := ["_law_deeds_here", "_law_name", "_law_puts", "_law_deed"]
theorem scSi : FnScope nSi ["_law_deeds_here", "_law_name"] (defScope sSi) := ⟨rfl, rfl, rfl, by decide +kernel, rfl, by decide +kernel, by decide +kernel⟩
abbrev sTi : Stmt := topS 41
abbrev nTi : List Str := ["_law_query", "_law_one", "_law_other", "_law_some", "_law_pair"]
theorem scTi : FnScope nTi ["_law_query", "_law_one", "_law_other"] (defScope sTi) := ⟨rfl, rfl, rfl, by decide +kernel, rfl, by decide +kernel, by decide +kernel⟩
def ofN (w n : Str) (d : Deed) : Bool := decide (d.word = w) && decide (d.name = n)
theorem size_of (ds : List Deed) (n : Str) : sizeI ds n = ((ds.filter (ofN "row" n)).length : Int) - ((ds.filter (ofN "out" n)).length : Int) := by
  induction ds with
  | nil => rfl
  | cons d ds ih =>
    have e : sizeI (d :: ds) n = gain d n + sizeI ds n := by
      unfold sizeI
      rw [List.map_cons, List.sum_cons]
    rw [e, ih, List.filter_cons, List.filter_cons]
    have r1 : ("row" : Str) ≠ "out" := by decide +kernel
    have r2 : ("table" : Str) ≠ "row" := by decide +kernel
    have r3 : ("table" : Str) ≠ "out" := by decide +kernel
    cases d with
    | table a cs =>
      rw [if_neg (show ¬ ofN "row" n (.table a cs) = true by unfold ofN; simp [Deed.word, r2]), if_neg (show ¬ ofN "out" n (.table a cs) = true by unfold ofN; simp [Deed.word, r3])]
      show (0 : Int) + _ = _
      omega
    | row a ws =>
      rw [if_neg (show ¬ ofN "out" n (.row a ws) = true by unfold ofN; simp [Deed.word, r1])]
      show (if a = n then (1 : Int) else 0) + _ = _
      by_cases z : a = n
      · rw [if_pos (show ofN "row" n (.row a ws) = true by unfold ofN; simp [Deed.word, Deed.name, z]), if_pos z, List.length_cons]
        omega
      · rw [if_neg (show ¬ ofN "row" n (.row a ws) = true by unfold ofN; simp [Deed.word, Deed.name, z]), if_neg z]
        omega
    | out a k =>
      rw [if_neg (show ¬ ofN "row" n (.out a k) = true by unfold ofN; simp [Deed.word, r1.symm])]
      show (if a = n then (-1 : Int) else 0) + _ = _
      by_cases z : a = n
      · rw [if_pos (show ofN "out" n (.out a k) = true by unfold ofN; simp [Deed.word, Deed.name, z]), if_pos z, List.length_cons]
        omega
      · rw [if_neg (show ¬ ofN "out" n (.out a k) = true by unfold ofN; simp [Deed.word, Deed.name, z]), if_neg z]
        omega
abbrev DeedsAt (K : PySem.W.Frag) (H : Hp) (us : List V) (ds : List Deed) : Prop := PySem.W.EachIs (fun v d => ∃ t, v = .ref t ∧ DeedAt K H t d) us ds
def spSi (K : PySem.W.Frag) : Sp := fun vs H Q _ => ∃ (L : Addr) (us : List V) (ds : List Deed) (n : Str), vs = [.ref L, .str n] ∧ H L = some (.lst us) ∧ DeedsAt K H us ds ∧ ds.length ≤ 4000 ∧ ∀ H', Same H H' → Q (.int (sizeI ds n)) H'
theorem src_at {K : PySem.W.Frag} {H : Hp} {A : Addr} {ss : List Src} {n : Nat} (h : AskAt K H A ss) (hn : n < ss.length) : ∃ (as xs ps : List V) (S a b : Addr), SqT K H A as ∧ as[0]? = some (.ref S) ∧ SqT K H S xs ∧ xs.length = ss.length ∧ xs[n]? = some (.ref a) ∧
    SqT K H a [.str (ss.getD n noSrc).way, .str (ss.getD n noSrc).nick, .str (ss.getD n noSrc).table, .ref b] ∧ SqT K H b ps ∧ DpAll K H ps ((ss.getD n noSrc).pairs.map prD) := by
  obtain ⟨as, xs, S, hA, e0, hS, hX⟩ := h
  have lx : xs.length = ss.length := by rw [DpAll.len hX, List.length_map]
  have ex : xs[n]? = some xs[n] := List.getElem?_eq_getElem (by omega)
  obtain ⟨d, ed, hd⟩ := DpAll.at_ hX ex
  rw [srcs_at hn] at ed
  cases ed
  obtain ⟨a, b, ps, e, r1, r2, r3⟩ := dp_src hd
  exact ⟨as, xs, ps, S, a, b, hA, e0, hS, lx, by rw [ex, e], r1, r2, r3⟩
def tied2 (ss : List Src) (i j : Nat) : Bool := !((ss.getD i noSrc).pairs.filter (fun p => decide (p.o = (ss.getD j noSrc).nick)) ++ (ss.getD j noSrc).pairs.filter (fun p => decide (p.o = (ss.getD i noSrc).nick))).isEmpty
def spTi (K : PySem.W.Frag) : Sp := fun vs H Q _ => ∃ (A : Addr) (ss : List Src) (i j : Nat), vs = [.ref A, .int ((i : Nat) : Int), .int ((j : Nat) : Int)] ∧ AskAt K H A ss ∧ Small ss ∧ i < ss.length ∧ j < ss.length ∧ ∀ H', Same H H' → Q (.bl (tied2 ss i j)) H'
section
variable {P : Program} {w : World} {K : PySem.W.Frag} {mg : Str → Option Value} {base : Heap} {f : Addr} {fd : FuncData}
theorem ok_si (F : Fun K "_law_size" "_law_size" sSi f fd) (mn : mg "len" = none) : FnOk P w K mg base CX0 1 f fd ["_law_deeds_here", "_law_name"] (spSi K) := by
  refine F.ok scSi (fun vs H Q E h => ?_) (fun cdv A outer s H vs Q E hr h => ?_)
  · obtain ⟨L, us, ds, n, rfl, _⟩ := h
    rfl
  obtain ⟨L, us, ds, n, rfl, eL, rel, l4, q⟩ := h
  have nd := scSi.nd
  refine ⟨_, pss_cons (ps_set (i := 2) nd rfl (by first | exact .inl rfl | exact .inr rfl) (pe_callB call_len_seq (by rfl) mn PySem.boot_len (pa_cons (pe_lc (own := [("_law_deed", 3)]) (g := gName 3) rfl nd (pi_list (pv 0)) (blkOk_by (N := nSi) (sc := defScope sSi) (by decide +kernel)) (fun _ _ _ _ _ => pg_name (i := 3) nd rfl (Or.inl rfl))
      (fun _ _ _ _ _ => pts_one (PW.pt (pw_and (pt_cmpR op_eq (pe_ix (ix_tupK K) (pv 3) pe_int (fun _ _ => rfl)) pe_str (nomark _)) (pw_and1 (pt_cmpR op_eq (pe_ix (ix_tupK K) (pv 3) pe_int (fun _ _ => rfl)) (pv 1) (nomark _)))))) (fun _ _ _ _ _ => pv 3)) pa_nil)))
    (pss_one (ps_ret (pe_op op_sub (pv 2) (pe_callB call_len_seq (by rfl) mn PySem.boot_len (pa_cons (pe_lc (own := [("_law_deed", 3)]) (g := gName 3) rfl nd (pi_list (pv 0)) (blkOk_by (N := nSi) (sc := defScope sSi) (by decide +kernel)) (fun _ _ _ _ _ => pg_name (i := 3) nd rfl (Or.inl rfl))
      (fun _ _ _ _ _ => pts_one (PW.pt (pw_and (pt_cmpR op_eq (pe_ix (ix_tupK K) (pv 3) pe_int (fun _ _ => rfl)) pe_str (nomark _)) (pw_and1 (pt_cmpR op_eq (pe_ix (ix_tupK K) (pv 3) pe_int (fun _ _ => rfl)) (pv 1) (nomark _)))))) (fun _ _ _ _ _ => pv 3)) pa_nil))))), ?_⟩
  have lus : us.length = ds.length := rel.length
  have step : ∀ (w2 : Str) (H1 : Hp) (R : Addr) (k : Nat) (y : V) (G : Hp), Same H H1 → H1 R = none → us[k]? = some y → Same H1 G → (∃ acc, G R = some (.lst acc) ∧ acc.length = ((ds.take k).filter (ofN w2 n)).length) →
      ∃ t d wv, y = .ref t ∧ SqT K G t [.str d.word, .str d.name, wv] ∧ (ofN w2 n d = true → ∃ acc, G R = some (.lst acc) ∧ acc.length < sizeLine ∧ (Same H1 (upd G R (.lst (acc ++ [.ref t]))) ∧ ∃ acc', upd G R (.lst (acc ++ [.ref t])) R = some (.lst acc') ∧ acc'.length = ((ds.take (k + 1)).filter (ofN w2 n)).length)) ∧ (¬ ofN w2 n d = true → Same H1 G ∧ ∃ acc, G R = some (.lst acc) ∧ acc.length = ((ds.take (k + 1)).filter (ofN w2 n)).length) := fun w2 H1 R k y G s1 nR hy sg ⟨acc, eR, la⟩ => by
    obtain ⟨d, ed, t, rfl, wv, ht, _⟩ := K37t.each_at rel hy
    have lf : ((ds.take k).filter (ofN w2 n)).length ≤ 4000 := by
      refine Nat.le_trans (List.length_filter_le _ _) ?_
      rw [List.length_take]
      omega
    have tk : (ds.take (k + 1)).filter (ofN w2 n) = if ofN w2 n d = true then (ds.take k).filter (ofN w2 n) ++ [d] else (ds.take k).filter (ofN w2 n) := by
      rw [List.take_add_one, ed, List.filter_append]
      by_cases z : ofN w2 n d = true
      · simp [z]
      · simp [z]
    refine ⟨t, d, wv, rfl, Tups.of_same (s1.trans sg) _ _ ht, fun z => ⟨acc, eR, by rw [sizeLine_eq]; omega, own_same nR sg, _, upd_same, ?_⟩, fun z => ⟨sg, acc, eR, ?_⟩⟩
    · rw [tk, if_pos z, List.length_append, List.length_append, la]
      rfl
    · rw [tk, if_neg z, la]
  have cond : ∀ (w2 : Str) (d : Deed), ofN w2 n d = (decide (V.str d.word = V.str w2) && decide (V.str d.name = V.str n)) := fun w2 d => by
    unfold ofN
    congr 1
    · by_cases z : d.word = w2
      · rw [decide_eq_true z, decide_eq_true (congrArg V.str z)]
      · rw [decide_eq_false z, decide_eq_false fun y => z (V.str.inj y)]
    · by_cases z : d.name = n
      · rw [decide_eq_true z, decide_eq_true (congrArg V.str z)]
      · rw [decide_eq_false z, decide_eq_false fun y => z (V.str.inj y)]
  refine ⟨_, rfl, L, rfl, ⟨_, SqL.of eL⟩, fun R nR => ?_⟩
  refine lc_list (K := K) (a := L) (xs := us) (fun k G => Same H G ∧ ∃ acc, G R = some (.lst acc) ∧ acc.length = ((ds.take k).filter (ofN "row" n)).length) ⟨new_same nR, [], upd_same, rfl⟩ (fun k G _ y => SqL.of (y.1 _ _ eL)) ?_ ?_
  · rintro k y G hy ⟨sg, hacc⟩
    obtain ⟨t, d, wv, rfl, ht, yes, no⟩ := step "row" H R k y G (Same.refl H) nR hy sg hacc
    rw [cond] at yes no
    refine ⟨rfl, ?_⟩
    refine ⟨_, rfl, t, _, 0, _, rfl, rfl, ht, atI_nat (j := 0) rfl, rfl, _, rfl, ?_⟩
    by_cases z : decide (V.str d.word = V.str "row") = true
    · rw [z] at yes no
      refine iteT' z ?_
      refine ⟨_, rfl, t, _, 1, _, rfl, rfl, ht, atI_nat (j := 1) rfl, _, rfl, rfl, _, rfl, ?_⟩
      by_cases z2 : decide (V.str d.name = V.str n) = true
      · rw [z2] at yes
        refine iteT' z2 ?_
        exact ⟨_, rfl, yes rfl⟩
      · refine iteF' z2 (no ?_)
        rw [Bool.true_and]
        exact z2
    · refine iteF' z (no ?_)
      intro y
      exact z (Bool.and_eq_true_iff.mp y).1
  rintro H2 ⟨s2, acc1, eR1, la1⟩
  rw [lus, List.take_length] at la1
  refine ⟨R, _, rfl, .inl (SqL.of eR1), ?_⟩
  refine ⟨_, rfl, _, rfl, L, rfl, ⟨_, SqL.of (s2 _ _ eL)⟩, fun R2 nR2 => ?_⟩
  refine lc_list (K := K) (a := L) (xs := us) (fun k G => Same H2 G ∧ ∃ acc, G R2 = some (.lst acc) ∧ acc.length = ((ds.take k).filter (ofN "out" n)).length) ⟨new_same nR2, [], upd_same, rfl⟩ (fun k G _ y => SqL.of (y.1 _ _ (s2 _ _ eL))) ?_ ?_
  · rintro k y G hy ⟨sg, hacc⟩
    obtain ⟨t, d, wv, rfl, ht, yes, no⟩ := step "out" H2 R2 k y G s2 nR2 hy sg hacc
    rw [cond] at yes no
    refine ⟨rfl, ?_⟩
    refine ⟨_, rfl, t, _, 0, _, rfl, rfl, ht, atI_nat (j := 0) rfl, rfl, _, rfl, ?_⟩
    by_cases z : decide (V.str d.word = V.str "out") = true
    · rw [z] at yes no
      refine iteT' z ?_
      refine ⟨_, rfl, t, _, 1, _, rfl, rfl, ht, atI_nat (j := 1) rfl, _, rfl, rfl, _, rfl, ?_⟩
      by_cases z2 : decide (V.str d.name = V.str n) = true
      · rw [z2] at yes
        refine iteT' z2 ?_
        exact ⟨_, rfl, yes rfl⟩
      · refine iteF' z2 (no ?_)
        rw [Bool.true_and]
        exact z2
    · refine iteF' z (no ?_)
      intro y
      exact z (Bool.and_eq_true_iff.mp y).1
  rintro H3 ⟨s3, acc2, eR2, la2⟩
  rw [lus, List.take_length] at la2
  refine ⟨R2, _, rfl, .inl (SqL.of eR2), _, _, rfl, rfl, ?_⟩
  rw [la1, la2]
  have z := q _ (s2.trans s3)
  rw [size_of] at z
  exact z
end
end K37
end

section
set_option Elab.async false
set_option linter.all false
set_option maxRecDepth 100000
set_option maxHeartbeats 4000000
/-! ties, what a plan keeps by the law: the same. -/
namespace K37
open PySem PySem.Spec PyProof.Rows L2 Gd K37t
def lawA (ss : List Src) (o : List Nat) (i : Nat) : List Nat := ((List.range i).filter fun a => (o.take (a + 1)).any fun j => tied2 ss (o.getD (a + 1) 0) j).map fun a => o.getD (a + 1) 0
def lawB (ss : List Src) (m i : Nat) : List Nat := ((List.range i).filter fun a => !(ss.getD (m + a) noSrc).pairs.isEmpty).map (m + ·)
def linkedL (ss : List Src) (o : List Nat) : List Nat := lawA ss o (o.length - 1) ++ lawB ss o.length (ss.length - o.length)
theorem linkG_iff {ls : List (Nat × Pr)} {n : Nat} : (linkG ls n).isSome = true ↔ ∃ x ∈ ls, x.1 = n := by
  unfold linkG
  rw [Option.isSome_map, List.find?_isSome]
  exact ⟨fun ⟨x, h, e⟩ => ⟨x, h, of_decide_eq_true e⟩, fun ⟨x, h, e⟩ => ⟨x, h, decide_eq_true e⟩⟩
theorem tied2_iff {ss : List Src} {i j : Nat} : tied2 ss i j = true ↔ (∃ p ∈ (ss.getD i noSrc).pairs, p.o = aliasAt ss j) ∨ ∃ p ∈ (ss.getD j noSrc).pairs, p.o = aliasAt ss i := by
  unfold tied2
  constructor
  · intro h
    have h : ((ss.getD i noSrc).pairs.filter (fun p => decide (p.o = (ss.getD j noSrc).nick)) ++ (ss.getD j noSrc).pairs.filter (fun p => decide (p.o = (ss.getD i noSrc).nick))) ≠ [] := fun z => by
      rw [z] at h
      cases h
    obtain ⟨p, hp⟩ := List.exists_mem_of_ne_nil _ h
    rcases List.mem_append.mp hp with hp | hp
    · exact .inl ⟨p, (List.mem_filter.mp hp).1, of_decide_eq_true (List.mem_filter.mp hp).2⟩
    · exact .inr ⟨p, (List.mem_filter.mp hp).1, of_decide_eq_true (List.mem_filter.mp hp).2⟩
  · intro h
    have : ((ss.getD i noSrc).pairs.filter (fun p => decide (p.o = (ss.getD j noSrc).nick)) ++ (ss.getD j noSrc).pairs.filter (fun p => decide (p.o = (ss.getD i noSrc).nick))) ≠ [] := by
      rcases h with ⟨p, hp, e⟩ | ⟨p, hp, e⟩
      · exact List.ne_nil_of_mem (List.mem_append.mpr (.inl (List.mem_filter.mpr ⟨hp, decide_eq_true e⟩)))
      · exact List.ne_nil_of_mem (List.mem_append.mpr (.inr (List.mem_filter.mpr ⟨hp, decide_eq_true e⟩)))
    cases e : ((ss.getD i noSrc).pairs.filter (fun p => decide (p.o = (ss.getD j noSrc).nick)) ++ (ss.getD j noSrc).pairs.filter (fun p => decide (p.o = (ss.getD i noSrc).nick))) with
    | nil => exact absurd e this
    | cons _ _ => rfl
theorem tied_iff {ss : List Src} {m n : Nat} {js : List Nat} (w : Well ss m) (hn : n < ss.length) (hj : ∀ j ∈ js, j < ss.length ∧ j ≠ n) : tied ss n js ≠ [] ↔ ∃ j ∈ js, tied2 ss n j = true := by
  constructor
  · intro h
    obtain ⟨q, hq⟩ := List.exists_mem_of_ne_nil _ h
    unfold tied at hq
    obtain ⟨s, hs, hq⟩ := List.mem_flatMap.mp hq
    unfold tieS at hq
    obtain ⟨p, hp, hq⟩ := List.mem_flatMap.mp hq
    obtain ⟨k, hk⟩ := List.mem_iff_getElem?.mp hs
    have lk := (List.getElem?_eq_some_iff.mp hk).1
    have ek : ss.getD k noSrc = s := by rw [List.getD_eq_getElem?_getD, hk]; rfl
    have ak : aliasAt ss k = s.nick := by unfold aliasAt; rw [ek]
    unfold tie1 at hq
    by_cases c1 : (decide (s.nick = aliasAt ss n) && decide (p.o ∈ js.map (aliasAt ss))) = true
    · rw [Bool.and_eq_true, decide_eq_true_eq, decide_eq_true_eq] at c1
      obtain ⟨j, hj1, hj2⟩ := List.mem_map.mp c1.2
      have : k = n := w.uniq k n lk hn (by rw [ak]; exact c1.1)
      subst this
      refine ⟨j, hj1, tied2_iff.mpr (.inl ⟨p, by rw [ek]; exact hp, hj2.symm⟩)⟩
    · rw [if_neg c1] at hq
      by_cases c2 : (decide (p.o = aliasAt ss n) && decide (s.nick ∈ js.map (aliasAt ss))) = true
      · rw [Bool.and_eq_true, decide_eq_true_eq, decide_eq_true_eq] at c2
        obtain ⟨j, hj1, hj2⟩ := List.mem_map.mp c2.2
        have : k = j := w.uniq k j lk (hj j hj1).1 (by rw [ak]; exact hj2.symm)
        subst this
        refine ⟨k, hj1, tied2_iff.mpr (.inr ⟨p, by rw [ek]; exact hp, c2.1⟩)⟩
      · rw [if_neg c2] at hq
        cases hq
  · rintro ⟨j, hj1, ht⟩
    obtain ⟨jl, jn⟩ := hj j hj1
    rcases tied2_iff.mp ht with ⟨p, hp, e⟩ | ⟨p, hp, e⟩
    · refine tied_of (q := p) hn hp ?_
      unfold tie1
      rw [decide_eq_true (show (ss.getD n noSrc).nick = aliasAt ss n from rfl), decide_eq_true (show p.o ∈ js.map (aliasAt ss) from List.mem_map.mpr ⟨j, hj1, e.symm⟩)]
      simp
    · refine tied_of (q := ⟨p.d, (ss.getD j noSrc).nick, p.c⟩) jl hp ?_
      have n1 : ¬ (ss.getD j noSrc).nick = aliasAt ss n := fun z => jn (w.uniq j n jl hn z)
      unfold tie1
      rw [decide_eq_false n1, Bool.false_and, if_neg (by simp), decide_eq_true e, decide_eq_true (show (ss.getD j noSrc).nick ∈ js.map (aliasAt ss) from List.mem_map.mpr ⟨j, hj1, rfl⟩)]
      simp
theorem link1_iff {ss : List Src} {js : List Nat} {n : Nat} : (∃ x, x ∈ link1 ss js n) ↔ tied ss n js ≠ [] := by
  constructor
  · rintro ⟨x, hx⟩ e
    unfold link1 at hx
    rw [e] at hx
    cases hx
  · intro h
    exact List.exists_mem_of_ne_nil _ (link1_ne h)
theorem getD_take {o : List Nat} {k : Nat} (h : k < o.length) : o[k]? = some (o.getD k 0) := by
  rw [List.getD_eq_getElem?_getD, List.getElem?_eq_getElem h]
  rfl
/-- what the program keeps is what the law keeps -/
theorem keeps_eq {ss : List Src} {o : List Nat} (w : Well ss o.length) (nd : o.Nodup) (oj : ∀ j ∈ o, j < o.length) : keepsL ss o "kept" = linkedL ss o := by
  have lo := w.le
  unfold keepsL linkedL
  rw [if_pos rfl]
  unfold ledL
  rw [List.filter_append]
  congr 1
  · have ed : o.drop 1 = (List.range (o.length - 1)).map fun a => o.getD (a + 1) 0 := by
      refine List.ext_getElem? fun i => ?_
      rw [List.getElem?_drop, List.getElem?_map]
      by_cases z : i < o.length - 1
      · rw [List.getElem?_range z, Nat.add_comm 1 i, getD_take (by omega)]
        rfl
      · rw [List.getElem?_eq_none (by omega), List.getElem?_eq_none (by rw [List.length_range]; omega)]
        rfl
    rw [ed, List.filter_map]
    unfold lawA
    congr 1
    refine List.filter_congr fun a ha => ?_
    have ha := List.mem_range.mp ha
    have hk : a + 1 < o.length := by omega
    have hn : o.getD (a + 1) 0 ∈ o := List.mem_of_getElem? (getD_take hk)
    have hnl := oj _ hn
    have key : (linkG (linksL ss o) (o.getD (a + 1) 0)).isSome = true ↔ ((o.take (a + 1)).any fun j => tied2 ss (o.getD (a + 1) 0) j) = true := by
      rw [linkG_iff, List.any_eq_true]
      have at_k : (∃ x ∈ linksL ss o, x.1 = o.getD (a + 1) 0) ↔ ∃ x, x ∈ link1 ss (o.take (a + 1)) (o.getD (a + 1) 0) := by
        constructor
        · rintro ⟨x, hx, e⟩
          unfold linksL at hx
          rcases List.mem_append.mp hx with hx | hx
          · unfold linksA at hx
            obtain ⟨k, hk2, hx⟩ := List.mem_flatMap.mp hx
            have hk2 := List.mem_range.mp hk2
            have e2 := link1_nums x hx
            have ek : k = a + 1 := by
              have g1 := getD_take hk2
              have g2 := getD_take hk
              rw [← e2, e, ← g2] at g1
              exact (List.getElem?_inj hk2 nd).mp g1
            rw [ek] at hx
            exact ⟨x, hx⟩
          · have := linksB_nums x hx
            omega
        · rintro ⟨x, hx⟩
          refine ⟨x, List.mem_append.mpr (.inl ?_), link1_nums x hx⟩
          unfold linksA
          exact List.mem_flatMap.mpr ⟨a + 1, List.mem_range.mpr hk, hx⟩
      rw [at_k, link1_iff, tied_iff w (by omega) fun j hj => ?_]
      have jo := List.mem_of_mem_take hj
      refine ⟨by have := oj j jo; omega, fun z => ?_⟩
      obtain ⟨i, hi⟩ := List.mem_iff_getElem?.mp hj
      rw [List.getElem?_take] at hi
      split at hi
      · rename_i il
        rw [z, ← getD_take hk] at hi
        have := (List.getElem?_inj (by omega) nd).mp hi
        omega
      · cases hi
    show (linkG (linksL ss o) (o.getD (a + 1) 0)).isSome = _
    exact Bool.eq_iff_iff.mpr key
  · rw [List.filter_map]
    unfold lawB
    congr 1
    refine List.filter_congr fun a ha => ?_
    have ha := List.mem_range.mp ha
    have key : (linkG (linksL ss o) (o.length + a)).isSome = true ↔ (!(ss.getD (o.length + a) noSrc).pairs.isEmpty) = true := by
      rw [linkG_iff]
      constructor
      · rintro ⟨x, hx, e⟩
        unfold linksL at hx
        rcases List.mem_append.mp hx with hx | hx
        · obtain ⟨k, hk, e2⟩ := linksA_nums x hx
          have := oj _ (List.mem_of_getElem? (getD_take hk))
          omega
        · unfold linksB at hx
          obtain ⟨k, hk2, hx⟩ := List.mem_flatMap.mp hx
          have e2 := link2_nums x hx
          have ek : k = a := by omega
          rw [ek] at hx
          unfold link2 at hx
          cases ep : (ss.getD (o.length + a) noSrc).pairs with
          | nil => rw [ep] at hx; cases hx
          | cons _ _ => rfl
      · intro h
        cases ep : (ss.getD (o.length + a) noSrc).pairs with
        | nil => rw [ep] at h; cases h
        | cons p ps =>
          refine ⟨(o.length + a, p), List.mem_append.mpr (.inr ?_), rfl⟩
          unfold linksB
          refine List.mem_flatMap.mpr ⟨a, List.mem_range.mpr ha, ?_⟩
          unfold link2
          rw [ep]
          exact List.mem_singleton.mpr rfl
    exact Bool.eq_iff_iff.mpr key
end K37
end

section
set_option Elab.async false
set_option linter.all false
set_option maxRecDepth 100000
set_option maxHeartbeats 4000000
/-! what the law reckons: ties, what is kept, what is due, rooms. -/
namespace K37
open PySem PySem.Spec PyProof.Rows L2 Gd K37t
abbrev sLi : Stmt := topS 42
abbrev nLi : List Str := ["_law_query", "_law_led_by", "_law_order", "_law_way", "_law_found", "_law_k", "_law_number", "_law_other"]
theorem scLi : FnScope nLi ["_law_query", "_law_led_by"] (defScope sLi) := ⟨rfl, rfl, rfl, by decide +kernel, rfl, by decide +kernel, by decide +kernel⟩
def lkL (ss : List Src) (o : List Nat) (w : Str) : List Nat := if w = "kept" then linkedL ss o else []
def spLi (K : PySem.W.Frag) : Sp := fun vs H Q _ => ∃ (A PL : Addr) (ss : List Src) (o : List Nat) (w : Str), vs = [.ref A, .ref PL] ∧ AskAt K H A ss ∧ Small ss ∧ PlAt K H PL o w ∧ 1 ≤ o.length ∧ o.length ≤ ss.length ∧ (∀ j ∈ o, j < o.length) ∧
  ∀ (D : Addr) (H' : Hp), Same H H' → H D = none → H' D = some (.lst (intsV (lkL ss o w))) → Q (.ref D) H'
section
variable {P : Program} {w : World} {K : PySem.W.Frag} {mg : Str → Option Value} {base : Heap} {f fT : Addr} {fd dT : FuncData}
theorem ok_ti (F : Fun K "_law_are_tied" "_law_are_tied" sTi f fd) : FnOk P w K mg base CX0 1 f fd ["_law_query", "_law_one", "_law_other"] (spTi K) := by
  refine F.ok scTi (fun vs H Q E h => ?_) (fun cdv A outer s H vs Q E hr h => ?_)
  · obtain ⟨A, ss, i, j, rfl, _⟩ := h
    rfl
  obtain ⟨AK, ss, i, j, rfl, hA, hs, hi, hj, q⟩ := h
  have nd := scTi.nd
  have hu0 := Nat.lt_of_succ_lt (hu_of hr)
  refine ⟨_, pss_cons (ps_setLc (i := 3) (own := [("_law_pair", 4)]) (g := gName 4) rfl nd rfl rfl (by rfl) (pi_tup (pe_ix ix_tup (pe_ix ix_tup (pe_ix ix_tup (pv 0) pe_int (fun _ _ => rfl)) (pv 1) (fun _ _ => rfl)) pe_int (fun _ _ => rfl))) (blkOk_by (N := nTi) (sc := defScope sTi) (by decide +kernel)) (fun _ _ _ _ _ => pg_name (i := 4) nd rfl (Or.inl rfl))
      (fun _ _ _ _ _ => pts_one (pt_cmpR op_eq (pe_ix (ix_tupK K) (pv 4) pe_int (fun _ _ => rfl)) (pe_ix (ix_tupK K) (pe_ix (ix_tupK K) (pe_ix (ix_tupK K) (pv 0) pe_int (fun _ _ => rfl)) (pv 2) (fun _ _ => rfl)) pe_int (fun _ _ => rfl)) (nomark _))) (fun _ _ _ _ _ => pv 4))
    (pss_one (ps_ret (pe_cmpR (op_neL0 hu0) (pe_op op_cat (pv 3) (pe_lc (own := [("_law_pair", 4)]) (g := gName 4) rfl nd (pi_tup (pe_ix ix_tup (pe_ix ix_tup (pe_ix ix_tup (pv 0) pe_int (fun _ _ => rfl)) (pv 2) (fun _ _ => rfl)) pe_int (fun _ _ => rfl))) (blkOk_by (N := nTi) (sc := defScope sTi) (by decide +kernel)) (fun _ _ _ _ _ => pg_name (i := 4) nd rfl (Or.inl rfl))
      (fun _ _ _ _ _ => pts_one (pt_cmpR op_eq (pe_ix (ix_tupK K) (pv 4) pe_int (fun _ _ => rfl)) (pe_ix (ix_tupK K) (pe_ix (ix_tupK K) (pe_ix (ix_tupK K) (pv 0) pe_int (fun _ _ => rfl)) (pv 1) (fun _ _ => rfl)) pe_int (fun _ _ => rfl)) (nomark _))) (fun _ _ _ _ _ => pv 4))) (pe_lst pa_nil) (nomark _)))), ?_⟩
  obtain ⟨as, xs, ps, S, a, b, tA, e0, tS, lx, en, ta, tb, dp⟩ := src_at hA hi
  obtain ⟨as2, xs2, ps2, S2, a2, b2, tA2, e02, tS2, lx2, en2, ta2, tb2, dp2⟩ := src_at hA hj
  obtain ⟨ns, ens⟩ : ∃ n, n = (ss.getD i noSrc).nick := ⟨_, rfl⟩
  have small : ∀ n, n < ss.length → (ss.getD n noSrc).pairs.length ≤ 10 := fun n hn => hs.2 _ (getD_mem' hn)
  have li : ps.length = (ss.getD i noSrc).pairs.length := by rw [DpAll.len dp, List.length_map]
  have lj : ps2.length = (ss.getD j noSrc).pairs.length := by rw [DpAll.len dp2, List.length_map]
  have step : ∀ (prs : List Pr) (nk : Str) (us : List V) (H1 : Hp) (R : Addr) (k : Nat) (y : V) (G : Hp), prs.length ≤ 10 → DpAll K H us (prs.map prD) → Same H H1 → H1 R = none → us[k]? = some y → Same H1 G → (∃ acc, G R = some (.lst acc) ∧ acc.length = ((prs.take k).filter fun p => decide (p.o = nk)).length) →
      ∃ (t : Addr) (p : Pr), y = .ref t ∧ SqT K G t [.str p.c, .str p.o, .str p.d] ∧ (decide (V.str p.o = V.str nk) = true → ∃ acc, G R = some (.lst acc) ∧ acc.length < sizeLine ∧ (Same H1 (upd G R (.lst (acc ++ [.ref t]))) ∧ ∃ acc', upd G R (.lst (acc ++ [.ref t])) R = some (.lst acc') ∧ acc'.length = ((prs.take (k + 1)).filter fun p => decide (p.o = nk)).length)) ∧ (¬ decide (V.str p.o = V.str nk) = true → Same H1 G ∧ ∃ acc, G R = some (.lst acc) ∧ acc.length = ((prs.take (k + 1)).filter fun p => decide (p.o = nk)).length) := fun prs nk us H1 R k y G l10 dq s1 nR hy sg ⟨acc, eR, la⟩ => by
    obtain ⟨d, ed, hd⟩ := DpAll.at_ dq hy
    rw [List.getElem?_map, Option.map_eq_some_iff] at ed
    obtain ⟨p, ep, rfl⟩ := ed
    have lf : ((prs.take k).filter fun p => decide (p.o = nk)).length ≤ 10 := by
      refine Nat.le_trans (List.length_filter_le _ _) ?_
      rw [List.length_take]
      omega
    have tk : (prs.take (k + 1)).filter (fun p => decide (p.o = nk)) = if p.o = nk then (prs.take k).filter (fun p => decide (p.o = nk)) ++ [p] else (prs.take k).filter (fun p => decide (p.o = nk)) := by
      rw [List.take_add_one, ep, List.filter_append]
      by_cases z : p.o = nk
      · simp [z]
      · simp [z]
    cases hd with
    | @tup t xs _ ht hxs =>
    cases hxs with | cons h1 hxs =>
    cases hxs with | cons h2 hxs =>
    cases hxs with | cons h3 hxs =>
    cases hxs
    cases h1
    cases h2
    cases h3
    refine ⟨t, p, rfl, Tups.of_same (s1.trans sg) _ _ ht, fun z => ⟨acc, eR, by rw [sizeLine_eq]; omega, own_same nR sg, _, upd_same, ?_⟩, fun z => ⟨sg, acc, eR, ?_⟩⟩
    · rw [tk, if_pos (V.str.inj (of_decide_eq_true z)), List.length_append, List.length_append, la]
      rfl
    · rw [tk, if_neg (fun y => z (decide_eq_true (congrArg V.str y))), la]
  refine ⟨_, rfl, AK, _, 0, _, rfl, rfl, tA, atI_nat (j := 0) e0, _, rfl, S, _, _, _, rfl, rfl, tS, atI_nat (j := i) en, a, _, 3, _, rfl, rfl, ta, atI_nat (j := 3) rfl, b, rfl, ⟨_, tb⟩, fun R nR => ?_⟩
  refine lc_tup (K := K) (a := b) (xs := ps) (fun k G => Same H G ∧ ∃ acc, G R = some (.lst acc) ∧ acc.length = (((ss.getD i noSrc).pairs.take k).filter fun p => decide (p.o = (ss.getD j noSrc).nick)).length) ⟨new_same nR, [], upd_same, rfl⟩ (fun k G _ y => Tups.of_same y.1 _ _ tb) ?_ ?_
  · rintro k y G hy ⟨sg, hacc⟩
    obtain ⟨t, p, rfl, ht, yes, no⟩ := step _ (ss.getD j noSrc).nick ps H R k y G (small i hi) dp (Same.refl H) nR hy sg hacc
    have tg := Tups.of_same (K := K) sg
    refine ⟨rfl, ?_⟩
    refine ⟨_, rfl, t, _, 1, _, rfl, rfl, ht, atI_nat (j := 1) rfl, _, rfl, AK, _, 0, _, rfl, rfl, tg _ _ tA2, atI_nat (j := 0) e02, _, rfl, S2, _, _, _, rfl, rfl, tg _ _ tS2, atI_nat (j := j) en2, a2, _, 1, _, rfl, rfl, tg _ _ ta2, atI_nat (j := 1) rfl, rfl, _, rfl, ?_⟩
    by_cases z : decide (V.str p.o = V.str (ss.getD j noSrc).nick) = true
    · refine iteT' z ?_
      exact ⟨_, rfl, yes z⟩
    · exact iteF' z (no z)
  rintro H2 ⟨s2, acc1, eR1, la1⟩
  rw [li, List.take_length] at la1
  have t2 := Tups.of_same (K := K) s2
  refine ⟨_, rfl, _, rfl, AK, _, 0, _, rfl, rfl, t2 _ _ tA2, atI_nat (j := 0) e02, _, rfl, S2, _, _, _, rfl, rfl, t2 _ _ tS2, atI_nat (j := j) en2, a2, _, 3, _, rfl, rfl, t2 _ _ ta2, atI_nat (j := 3) rfl, b2, rfl, ⟨_, t2 _ _ tb2⟩, fun R2 nR2 => ?_⟩
  refine lc_tup (K := K) (a := b2) (xs := ps2) (fun k G => Same H2 G ∧ ∃ acc, G R2 = some (.lst acc) ∧ acc.length = (((ss.getD j noSrc).pairs.take k).filter fun p => decide (p.o = (ss.getD i noSrc).nick)).length) ⟨new_same nR2, [], upd_same, rfl⟩ (fun k G _ y => Tups.of_same y.1 _ _ (t2 _ _ tb2)) ?_ ?_
  · rintro k y G hy ⟨sg, hacc⟩
    obtain ⟨t, p, rfl, ht, yes, no⟩ := step _ (ss.getD i noSrc).nick ps2 H2 R2 k y G (small j hj) dp2 s2 nR2 hy sg hacc
    have tg := Tups.of_same (K := K) (s2.trans sg)
    refine ⟨rfl, ?_⟩
    refine ⟨_, rfl, t, _, 1, _, rfl, rfl, ht, atI_nat (j := 1) rfl, _, rfl, AK, _, 0, _, rfl, rfl, tg _ _ tA, atI_nat (j := 0) e0, _, rfl, S, _, _, _, rfl, rfl, tg _ _ tS, atI_nat (j := i) en, a, _, 1, _, rfl, rfl, tg _ _ ta, atI_nat (j := 1) rfl, rfl, _, rfl, ?_⟩
    by_cases z : decide (V.str p.o = V.str (ss.getD i noSrc).nick) = true
    · refine iteT' z ?_
      exact ⟨_, rfl, yes z⟩
    · exact iteF' z (no z)
  rintro H3 ⟨s3, acc2, eR2, la2⟩
  rw [lj, List.take_length] at la2
  have f1 : ((ss.getD i noSrc).pairs.filter fun p => decide (p.o = (ss.getD j noSrc).nick)).length ≤ 10 := Nat.le_trans (List.length_filter_le _ _) (small i hi)
  have f2 : ((ss.getD j noSrc).pairs.filter fun p => decide (p.o = (ss.getD i noSrc).nick)).length ≤ 10 := Nat.le_trans (List.length_filter_le _ _) (small j hj)
  refine ⟨R, R2, acc1, acc2, rfl, rfl, s3 _ _ eR1, eR2, by rw [sizeLine_eq]; omega, fun C nC => ⟨Nat.zero_le _, fun Z nZ => ?_⟩⟩
  have jC := new_same (o := .lst (acc1 ++ acc2)) nC
  have eC : upd H3 C (.lst (acc1 ++ acc2)) C = some (.lst (acc1 ++ acc2)) := upd_same
  have jZ := new_same (o := .lst []) nZ
  have eZ := (upd_same (H := upd H3 C (.lst (acc1 ++ acc2))) (a := Z) (o := .lst []))
  refine ⟨C, Z, _, rfl, rfl, SqL.of (jZ _ _ eC), SqL.of eZ, ?_⟩
  have z := q _ (((s2.trans s3).trans jC).trans jZ)
  have e : (!(acc1 ++ acc2).isEmpty) = tied2 ss i j := by
    unfold tied2
    have l1 : (acc1 ++ acc2).length = (((ss.getD i noSrc).pairs.filter fun p => decide (p.o = (ss.getD j noSrc).nick)) ++ ((ss.getD j noSrc).pairs.filter fun p => decide (p.o = (ss.getD i noSrc).nick))).length := by rw [List.length_append, List.length_append, la1, la2]
    rw [Bool.eq_iff_iff]
    simp only [Bool.not_eq_true', List.isEmpty_eq_false_iff]
    rw [← List.length_pos_iff, ← List.length_pos_iff, l1]
  rw [← e] at z
  exact z
end
end K37
end

section
set_option Elab.async false
set_option linter.all false
set_option maxRecDepth 100000
set_option maxHeartbeats 4000000
/-! what a plan keeps by the law: its def. -/
namespace K37
open PySem PySem.Spec PyProof.Rows L2 Gd K37t
theorem lawA_succ (ss : List Src) (o : List Nat) (i : Nat) : lawA ss o (i + 1) = if ((o.take (i + 1)).any fun j => tied2 ss (o.getD (i + 1) 0) j) = true then lawA ss o i ++ [o.getD (i + 1) 0] else lawA ss o i := by
  unfold lawA
  rw [List.range_succ, List.filter_append, List.map_append]
  by_cases z : ((o.take (i + 1)).any fun j => tied2 ss (o.getD (i + 1) 0) j) = true
  · rw [if_pos z, List.filter_cons_of_pos (p := fun a => (o.take (a + 1)).any fun j => tied2 ss (o.getD (a + 1) 0) j) z]
    rfl
  · rw [if_neg z, List.filter_cons_of_neg (p := fun a => (o.take (a + 1)).any fun j => tied2 ss (o.getD (a + 1) 0) j) z]
    simp
theorem lawB_succ (ss : List Src) (m i : Nat) : lawB ss m (i + 1) = if (ss.getD (m + i) noSrc).pairs = [] then lawB ss m i else lawB ss m i ++ [m + i] := by
  unfold lawB
  rw [List.range_succ, List.filter_append, List.map_append]
  by_cases z : (ss.getD (m + i) noSrc).pairs = []
  · rw [if_pos z, List.filter_cons_of_neg (by rw [z]; simp)]
    simp
  · rw [if_neg z, List.filter_cons_of_pos (by
      cases e : (ss.getD (m + i) noSrc).pairs with
      | nil => exact absurd e z
      | cons _ _ => rfl)]
    rfl
theorem lawA_len (ss : List Src) (o : List Nat) (i : Nat) : (lawA ss o i).length ≤ i := by
  unfold lawA
  rw [List.length_map]
  refine Nat.le_trans (List.length_filter_le _ _) ?_
  rw [List.length_range]
  exact Nat.le_refl _
theorem lawB_len (ss : List Src) (m i : Nat) : (lawB ss m i).length ≤ i := by
  unfold lawB
  rw [List.length_map]
  refine Nat.le_trans (List.length_filter_le _ _) ?_
  rw [List.length_range]
  exact Nat.le_refl _
theorem intsV_app (a b : List Nat) : intsV (a ++ b) = intsV a ++ intsV b := List.map_append
theorem any_filter (o : List Nat) (f : Nat → Bool) : (o.any f) = !(o.filter f).isEmpty := by
  induction o with
  | nil => rfl
  | cons a o ih =>
    rw [List.any_cons, List.filter_cons, ih]
    by_cases z : f a = true
    · simp [z]
    · simp [z]
section
variable {P : Program} {w : World} {K : PySem.W.Frag} {mg : Str → Option Value} {base : Heap} {f fT : Addr} {fd dT : FuncData}
theorem ok_li (F : Fun K "_law_linked" "_law_linked" sLi f fd) (mn : mg "len" = none) (mr : mg "range" = none) (FT : Fun K "_law_are_tied" "_law_are_tied" sTi fT dT) (GT : FnOk P w K mg base CX0 1 fT dT ["_law_query", "_law_one", "_law_other"] (spTi K)) (gT : mg "_law_are_tied" = some (.ref fT)) (bT : Binds K dT ["_law_query", "_law_one", "_law_other"] []) :
    FnOk P w K mg base CX0 2 f fd ["_law_query", "_law_led_by"] (spLi K) := by
  refine F.ok scLi (fun vs H Q E h => ?_) (fun cdv A outer s H vs Q E hr h => ?_)
  · obtain ⟨A, PL, ss, o, w, rfl, _⟩ := h
    rfl
  obtain ⟨AK, PL, ss, o, wy, rfl, hA, hs, ⟨O, tP, tO⟩, o1, lo, oj, q⟩ := h
  have nd := scLi.nd
  have hu0 := Nat.lt_of_succ_lt (hu_of hr)
  refine ⟨_, pss_cons (ps_asg (pv 1) (pg_tup (n := 2) rfl (pgs_cons (pg_name (i := 2) nd rfl (by first | exact .inl rfl | exact .inr rfl)) (pgs_cons (pg_name (i := 3) nd rfl (by first | exact .inl rfl | exact .inr rfl)) pgs_nil))))
    (pss_cons (ps_set (i := 4) nd rfl (by first | exact .inl rfl | exact .inr rfl) (pe_lst pa_nil))
    (C8.pss_cut (ps_for PassesOwn.never rfl (pi_range2 (by rfl) mr (pa_cons pe_int (pa_cons (pe_callB call_len_seq (by rfl) mn PySem.boot_len (pa_cons (pv 2) pa_nil)) pa_nil))) (pg_name (i := 5) nd rfl (by first | exact .inl rfl | exact .inr rfl))
      (pss_one (ps_if (pt_cmpR (op_neL0 hu0) (pe_lc (own := [("_law_other", 7)]) (g := gName 7) rfl nd (pi_tup (pe_slice sl_tup (pv 2) po_none (po_some (pv 5)))) (blkOk_by (N := nLi) (sc := defScope sLi) (by decide +kernel)) (fun _ _ _ _ _ => pg_name (i := 7) nd rfl (Or.inl rfl))
          (fun _ _ _ _ _ => pts_one (pt_val (pe_call GT hr (by rfl) gT FT.kp bT .nil pass0 (pa_cons (pv 0) (pa_cons (pe_ix (ix_tupK K) (pv 2) (pv 5) (fun _ _ => rfl)) (pa_cons (pv 7) pa_nil)))))) (fun _ _ _ _ _ => pv 7)) (pe_lst pa_nil) (nomark _))
        (pss_one (ps_expr (pe_bm PySem.F.plainAttrs_list PySem.F.slot_list_append PySem.F.type_list_append mt_append (pv 4) (pa_cons (pe_ix ix_tup (pv 2) (pv 5) (fun _ _ => rfl)) pa_nil)))) pss_nil)))
    (C8.pss_cut (ps_for PassesOwn.never rfl (pi_range2 (by rfl) mr (pa_cons (pe_callB call_len_seq (by rfl) mn PySem.boot_len (pa_cons (pv 2) pa_nil)) (pa_cons (pe_callB call_len_seq (by rfl) mn PySem.boot_len (pa_cons (pe_ix ix_tup (pv 0) pe_int (fun _ _ => rfl)) pa_nil)) pa_nil))) (pg_name (i := 6) nd rfl (by first | exact .inl rfl | exact .inr rfl))
      (pss_one (ps_if (pt_cmpR (op_neT0 hu0) (pe_ix ix_tup (pe_ix ix_tup (pe_ix ix_tup (pv 0) pe_int (fun _ _ => rfl)) (pv 6) (fun _ _ => rfl)) pe_int (fun _ _ => rfl)) (pe_tup pa_nil) (nomark _)) (pss_one (ps_expr (pe_bm PySem.F.plainAttrs_list PySem.F.slot_list_append PySem.F.type_list_append mt_append (pv 4) (pa_cons (pv 6) pa_nil)))) pss_nil)))
    (pss_one (ps_ret (pe_ifExp (pt_cmpR op_eq (pv 3) pe_str (nomark _)) (pv 4) (pe_lst pa_nil))))))), ?_⟩
  have s10 := hs.1
  refine ⟨_, rfl, PL, _, rfl, tP, rfl, _, _, rfl, _, _, rfl, rfl, ?_⟩
  refine ⟨Nat.zero_le _, fun B nB => ?_⟩
  have j1 := new_same (o := .lst []) nB
  have eB1 : upd H B (.lst []) B = some (.lst []) := upd_same
  generalize upd H B (.lst []) = H1 at j1 eB1 ⊢
  have lO : (intsV o).length = o.length := List.length_map _
  have tpB : ∀ {G : Hp}, (∀ b z, b ≠ B → H1 b = some z → G b = some z) → Same H G := fun k b z e => k b z (ne_of_none e nB) (j1 _ _ e)
  refine ⟨fun σ' G => (∃ y5, σ' = [some (.ref AK), some (.ref PL), some (.ref O), some (.str wy), some (.ref B), y5, none, none]) ∧ (∀ b z, b ≠ B → H1 b = some z → G b = some z) ∧ G B = some (.lst (intsV (lawA ss o (o.length - 1)))), ?_, ?_⟩
  · refine ⟨_, rfl, O, _, rfl, .inr (Tups.of_same j1 _ _ tO), 1, (o.length : Int), by rw [lO], ⟨by decide, by decide, by omega, by omega⟩, ?_⟩
    refine for_it (walk_range (lo := 1) (n := (((o.length : Nat) : Int) - 1).toNat)) (fun i σ G => (∃ y5, σ = [some (.ref AK), some (.ref PL), some (.ref O), some (.str wy), some (.ref B), y5, none, none]) ∧ (∀ b z, b ≠ B → H1 b = some z → G b = some z) ∧ G B = some (.lst (intsV (lawA ss o i))))
      ⟨⟨_, rfl⟩, fun _ _ _ e => e, eB1⟩ (fun _ _ _ _ _ => trivial) ?_ ?_
    · rintro i wv σ G G2 hi ⟨⟨y5, rfl⟩, off, eB⟩ ⟨rfl, rfl⟩
      have hi1 : i + 1 < o.length := by omega
      show gName 5 (.int (1 + ((i : Nat) : Int))) _ _ _
      rw [show (1 : Int) + ((i : Nat) : Int) = ((i + 1 : Nat) : Int) by omega]
      have sH := tpB off
      have tO2 := Tups.of_same sH _ _ tO
      have ecut : cutV (intsV o) none (some ((i + 1 : Nat) : Int)) = intsV (o.take (i + 1)) := by
        unfold cutV
        rw [HT.sIx_none, HT.sIx_nat, lO, Nat.min_eq_left (by omega), List.drop_zero, Nat.sub_zero]
        unfold intsV
        rw [List.map_take]
      refine ⟨_, rfl, _, rfl, _, rfl, O, _, rfl, tO2, ?_, fun T nT => ?_⟩
      · rw [HT.sIx_none, HT.sIx_nat, lO, Nat.min_eq_left (by omega)]
        omega
      rw [ecut]
      have jT := new_same (o := .tup (intsV (o.take (i + 1)))) nT
      have eT : upd G2 T (.tup (intsV (o.take (i + 1)))) T = some (.tup (intsV (o.take (i + 1)))) := upd_same
      have eBT := jT _ _ eB
      have sT := sH.trans jT
      have offT : ∀ b z, b ≠ B → H1 b = some z → upd G2 T (.tup (intsV (o.take (i + 1)))) b = some z := fun b z n e => jT _ _ (off b z n e)
      generalize upd G2 T (.tup (intsV (o.take (i + 1)))) = G3 at jT eT eBT sT offT ⊢
      refine ⟨T, rfl, ⟨_, SqT.of eT⟩, fun R nR => ?_⟩
      have nRB : R ≠ B := fun z => by rw [z, eBT] at nR; cases nR
      have gk := getD_take hi1
      have hn := oj _ (List.mem_of_getElem? gk)
      refine lc_tup (K := K) (a := T) (xs := intsV (o.take (i + 1))) (fun k G' => Same G3 G' ∧ G' R = some (.lst (intsV (((o.take (i + 1)).take k).filter fun j => tied2 ss (o.getD (i + 1) 0) j)))) ⟨new_same nR, upd_same⟩ (fun k G' _ y => SqT.of (y.1 _ _ eT)) ?_ ?_
      · rintro k y G' hy ⟨sg, eR⟩
        unfold intsV at hy
        rw [List.getElem?_map, Option.map_eq_some_iff] at hy
        obtain ⟨j, ej, rfl⟩ := hy
        have jo := List.mem_of_mem_take (List.mem_of_getElem? ej)
        have hj := oj j jo
        have sG := sT.trans sg
        have lk : k < (o.take (i + 1)).length := (List.getElem?_eq_some_iff.mp ej).1
        rw [List.length_take] at lk
        refine ⟨rfl, ?_⟩
        refine ⟨_, rfl, _, rfl, _, rfl, O, _, _, _, rfl, rfl, Tups.of_same sG _ _ tO, atI_nat (j := i + 1) (v := .int ((o.getD (i + 1) 0 : Nat) : Int)) ?_, _, rfl, AK, ss, o.getD (i + 1) 0, j, rfl, ask_same sG hA, hs, by omega, by omega, fun G5 s5 => ?_⟩
        · unfold intsV
          rw [List.getElem?_map, gk]
          rfl
        refine ⟨_, rfl, ?_⟩
        have eR5 := s5 _ _ eR
        have lf : (((o.take (i + 1)).take k).filter fun j => tied2 ss (o.getD (i + 1) 0) j).length ≤ 20 := by
          refine Nat.le_trans (List.length_filter_le _ _) ?_
          rw [List.length_take, List.length_take]
          omega
        rw [List.take_add_one, ej, List.filter_append]
        by_cases z : tied2 ss (o.getD (i + 1) 0) j = true
        · refine iteT' z ?_
          refine ⟨_, rfl, _, eR5, by unfold intsV; rw [List.length_map, sizeLine_eq]; omega, own_same nR (sg.trans s5), ?_⟩
          rw [show (some j).toList.filter (fun j => tied2 ss (o.getD (i + 1) 0) j) = [j] from List.filter_cons_of_pos (p := fun j => tied2 ss (o.getD (i + 1) 0) j) z, upd_same, intsV_app]
          rfl
        · refine iteF' z ?_
          rw [show (some j).toList.filter (fun j => tied2 ss (o.getD (i + 1) 0) j) = [] from List.filter_cons_of_neg (p := fun j => tied2 ss (o.getD (i + 1) 0) j) z, List.append_nil]
          exact ⟨sg.trans s5, eR5⟩
      rintro G6 ⟨s6, eR⟩
      rw [show (intsV (o.take (i + 1))).length = (o.take (i + 1)).length from List.length_map _, List.take_length] at eR
      refine ⟨Nat.zero_le _, fun Z nZ => ?_⟩
      have jZ := new_same (o := .lst []) nZ
      have eZ : upd G6 Z (.lst []) Z = some (.lst []) := upd_same
      have eR7 := jZ _ _ eR
      have s7 := s6.trans jZ
      generalize upd G6 Z (.lst []) = G7 at eZ eR7 s7 ⊢
      refine ⟨R, Z, _, rfl, rfl, SqL.of eR7, SqL.of eZ, _, rfl, ?_⟩
      have eB7 := s7 _ _ eBT
      have ee : (if true = true then !(intsV ((o.take (i + 1)).filter fun j => tied2 ss (o.getD (i + 1) 0) j)).isEmpty else (intsV ((o.take (i + 1)).filter fun j => tied2 ss (o.getD (i + 1) 0) j)).isEmpty) = (o.take (i + 1)).any fun j => tied2 ss (o.getD (i + 1) 0) j := by
        rw [if_pos rfl, any_filter]
        unfold intsV
        rw [List.isEmpty_map]
      rw [ee, lawA_succ]
      have la := lawA_len ss o i
      by_cases z : ((o.take (i + 1)).any fun j => tied2 ss (o.getD (i + 1) 0) j) = true
      · rw [if_pos z]
        refine iteT' z ?_
        refine ⟨_, rfl, .inl ⟨rfl, _, SqL.of eB7⟩, _, rfl, _, rfl, O, _, _, _, rfl, rfl, Tups.of_same (sT.trans s7) _ _ tO, atI_nat (j := i + 1) (v := .int ((o.getD (i + 1) 0 : Nat) : Int)) ?_, B, _, _, rfl, rfl, eB7, by unfold intsV; rw [List.length_map, sizeLine_eq]; omega, ?_⟩
        · unfold intsV
          rw [List.getElem?_map, gk]
          rfl
        refine ⟨⟨_, rfl⟩, fun b zz n e => by rw [upd_ne n]; exact s7 _ _ (offT b zz n e), ?_⟩
        rw [upd_same, intsV_app]
        rfl
      · rw [if_neg z]
        exact iteF' z ⟨⟨_, rfl⟩, fun b zz n e => s7 _ _ (offT b zz n e), eB7⟩
    · rintro σ G ⟨⟨y5, rfl⟩, off, eB⟩
      rw [show (((o.length : Nat) : Int) - 1).toNat = o.length - 1 by omega] at eB
      exact ⟨⟨_, rfl⟩, off, eB⟩
  rintro σ1 G1 ⟨⟨y5, rfl⟩, off1, eB1'⟩
  have sG1 := tpB off1
  obtain ⟨as, xs, S, hAs, e0, hS, hX⟩ := id hA
  have lxs : xs.length = ss.length := by rw [DpAll.len hX, List.length_map]
  refine ⟨fun σ' G => (∃ y5 y6, σ' = [some (.ref AK), some (.ref PL), some (.ref O), some (.str wy), some (.ref B), y5, y6, none]) ∧ (∀ b z, b ≠ B → H1 b = some z → G b = some z) ∧ G B = some (.lst (intsV (linkedL ss o))), ?_, ?_⟩
  · refine ⟨_, rfl, O, _, rfl, .inr (Tups.of_same sG1 _ _ tO), _, rfl, AK, _, 0, _, rfl, rfl, Tups.of_same sG1 _ _ hAs, atI_nat (j := 0) e0, S, _, rfl, .inr (Tups.of_same sG1 _ _ hS), (o.length : Int), (ss.length : Int), by rw [lO, lxs], ⟨by omega, by omega, by omega, by omega⟩, ?_⟩
    refine for_it (walk_range (lo := ((o.length : Nat) : Int)) (n := (((ss.length : Nat) : Int) - ((o.length : Nat) : Int)).toNat)) (fun i σ G => (∃ y5 y6, σ = [some (.ref AK), some (.ref PL), some (.ref O), some (.str wy), some (.ref B), y5, y6, none]) ∧ (∀ b z, b ≠ B → H1 b = some z → G b = some z) ∧ G B = some (.lst (intsV (lawA ss o (o.length - 1) ++ lawB ss o.length i))))
      ⟨⟨_, _, rfl⟩, off1, by rw [show lawB ss o.length 0 = [] from rfl, List.append_nil]; exact eB1'⟩ (fun _ _ _ _ _ => trivial) ?_ ?_
    · rintro i wv σ G G2 hi ⟨⟨y5, y6, rfl⟩, off, eB⟩ ⟨rfl, rfl⟩
      have hi1 : o.length + i < ss.length := by omega
      show gName 6 (.int (((o.length : Nat) : Int) + ((i : Nat) : Int))) _ _ _
      rw [show ((o.length : Nat) : Int) + ((i : Nat) : Int) = ((o.length + i : Nat) : Int) by omega]
      have sG := tpB off
      obtain ⟨as, xs, ps, S, a, b, tA, e0, tS, lx, en, ta, tb, dp⟩ := src_at (ask_same sG hA) hi1
      have lp : ps.length = (ss.getD (o.length + i) noSrc).pairs.length := by rw [DpAll.len dp, List.length_map]
      refine ⟨_, rfl, AK, _, 0, _, rfl, rfl, tA, atI_nat (j := 0) e0, _, rfl, S, _, _, _, rfl, rfl, tS, atI_nat (j := o.length + i) en, a, _, 3, _, rfl, rfl, ta, atI_nat (j := 3) rfl, Nat.zero_le _, fun Z nZ => ?_⟩
      have jZ := new_same (o := .tup []) nZ
      have eZ : upd G2 Z (.tup []) Z = some (.tup []) := upd_same
      have eB7 := jZ _ _ eB
      have tb7 := Tups.of_same jZ _ _ tb
      have offZ : ∀ b z, b ≠ B → H1 b = some z → upd G2 Z (.tup []) b = some z := fun b z n e => jZ _ _ (off b z n e)
      generalize upd G2 Z (.tup []) = G7 at eZ eB7 tb7 offZ ⊢
      refine ⟨b, Z, _, rfl, rfl, tb7, SqT.of eZ, _, rfl, ?_⟩
      rw [lawB_succ]
      have la := lawA_len ss o (o.length - 1)
      have lb := lawB_len ss o.length i
      by_cases z : (ss.getD (o.length + i) noSrc).pairs = []
      · rw [if_pos z]
        rw [z] at lp
        have : ps = [] := List.length_eq_zero_iff.mp lp
        subst this
        exact iteF' (by decide) ⟨⟨_, _, rfl⟩, offZ, eB7⟩
      · rw [if_neg z]
        have : ps ≠ [] := fun y => by
          rw [y] at lp
          exact z (List.length_eq_zero_iff.mp lp.symm)
        refine iteT' (by
          cases ps with
          | nil => exact absurd rfl this
          | cons _ _ => rfl) ?_
        refine ⟨_, rfl, .inl ⟨rfl, _, SqL.of eB7⟩, _, rfl, B, _, _, rfl, rfl, eB7, by unfold intsV; rw [List.length_map, List.length_append, sizeLine_eq]; omega, ?_⟩
        refine ⟨⟨_, _, rfl⟩, fun b zz n e => by rw [upd_ne n]; exact offZ b zz n e, ?_⟩
        rw [upd_same, ← List.append_assoc, intsV_app (lawA ss o (o.length - 1) ++ lawB ss o.length i)]
        rfl
    · rintro σ G ⟨⟨y5, y6, rfl⟩, off, eB⟩
      rw [show (((ss.length : Nat) : Int) - ((o.length : Nat) : Int)).toNat = ss.length - o.length by omega] at eB
      exact ⟨⟨_, _, rfl⟩, off, eB⟩
  rintro σ2 G2 ⟨⟨y5, y6, rfl⟩, off2, eB2⟩
  have sG2 := tpB off2
  refine ⟨_, rfl, rfl, _, rfl, ?_⟩
  by_cases z : wy = "kept"
  · refine iteT' (decide_eq_true (congrArg V.str z)) ?_
    refine ⟨_, rfl, q B G2 sG2 nB ?_⟩
    unfold lkL
    rw [if_pos z]
    exact eB2
  · refine iteF' (by rw [decide_eq_true_eq]; exact fun y => z (V.str.inj y)) ?_
    refine ⟨Nat.zero_le _, fun Z nZ => ?_⟩
    refine q Z _ (sG2.trans (new_same nZ)) (sG2.free nZ) ?_
    unfold lkL
    rw [if_neg z]
    exact upd_same
end
end K37
end

section
set_option Elab.async false
set_option linter.all false
set_option maxRecDepth 100000
set_option maxHeartbeats 4000000
/-! what is due of a visit; rooms. -/
namespace K37
open PySem PySem.Spec PyProof.Rows L2 Gd K37t
abbrev sDu : Stmt := topS 43
abbrev nDu : List Str := ["_law_query", "_law_led_by", "_law_deeds_here", "_law_room", "_law_looks", "_law_kept", "_law_number", "_law_many"]
theorem scDu : FnScope nDu ["_law_query", "_law_led_by", "_law_deeds_here", "_law_room"] (defScope sDu) := ⟨rfl, rfl, rfl, by decide +kernel, rfl, by decide +kernel, by decide +kernel⟩
abbrev sRo : Stmt := topS 44
abbrev nRo : List Str := ["_law_pen_here", "_law_query", "_law_led_by", "_law_deeds_here", "_law_sizes", "_law_some", "_law_number"]
theorem scRo : FnScope nRo ["_law_pen_here", "_law_query", "_law_led_by", "_law_deeds_here"] (defScope sRo) := ⟨rfl, rfl, rfl, by decide +kernel, rfl, by decide +kernel, by decide +kernel⟩
theorem lkL_in {ss : List Src} {o : List Nat} {w : Str} (lo : o.length ≤ ss.length) (oj : ∀ j ∈ o, j < o.length) : ∀ n ∈ lkL ss o w, n < ss.length := fun n hn => by
  unfold lkL at hn
  split at hn
  · rcases List.mem_append.mp hn with h | h
    · unfold lawA at h
      obtain ⟨a, ha, rfl⟩ := List.mem_map.mp h
      have ha := List.mem_range.mp (List.mem_filter.mp ha).1
      have := oj _ (List.mem_of_getElem? (getD_take (show a + 1 < o.length by omega)))
      omega
    · unfold lawB at h
      obtain ⟨a, ha, rfl⟩ := List.mem_map.mp h
      have ha := List.mem_range.mp (List.mem_filter.mp ha).1
      omega
  · cases hn
theorem lkL_len {ss : List Src} {o : List Nat} {w : Str} (l10 : ss.length ≤ 10) (lo : o.length ≤ ss.length) : (lkL ss o w).length ≤ 20 := by
  unfold lkL
  split
  · unfold linkedL
    rw [List.length_append]
    have := lawA_len ss o (o.length - 1)
    have := lawB_len ss o.length (ss.length - o.length)
    omega
  · exact Nat.zero_le _
def spDu (K : PySem.W.Frag) : Sp := fun vs H Q _ => ∃ (A PL L : Addr) (ss : List Src) (o : List Nat) (w : Str) (us : List V) (ds : List Deed) (room : Nat) (sz : Nat → Nat), vs = [.ref A, .ref PL, .ref L, .int ((room : Nat) : Int)] ∧ AskAt K H A ss ∧ Small ss ∧ PlAt K H PL o w ∧ 1 ≤ o.length ∧ o.length ≤ ss.length ∧ (∀ j ∈ o, j < o.length) ∧
  H L = some (.lst us) ∧ DeedsAt K H us ds ∧ ds.length ≤ 4000 ∧ (∀ n, n < ss.length → sizeI ds (tabOf ss n) = (sz n : Int)) ∧
  ∀ (r t : Addr) (H' : Hp), Same H H' → SqT K H' r [.int ((goB sz room (lkL ss o w)).1 : Nat), .ref t] → SqT K H' t (intsV (goB sz room (lkL ss o w)).2.2) → Q (.ref r) H'
def spRo (K : PySem.W.Frag) : Sp := fun vs H Q _ => ∃ (l c A PL L : Addr) (S : Int) (ss : List Src) (o : List Nat) (w : Str) (us : List V) (ds : List Deed) (sz : Nat → Nat), vs = [.ref l, .ref A, .ref PL, .ref L] ∧ Pen H l c S ∧ S ≤ 80000 ∧ AskAt K H A ss ∧ Small ss ∧ PlAt K H PL o w ∧ 1 ≤ o.length ∧ o.length ≤ ss.length ∧ (∀ j ∈ o, j < o.length) ∧
  H L = some (.lst us) ∧ DeedsAt K H us ds ∧ ds.length ≤ 4000 ∧ (∀ n, n < ss.length → sizeI ds (tabOf ss n) = (sz n : Int)) ∧ (∀ n, sz n ≤ 4000) ∧
  ∀ (r : Nat) (H' : Hp), r ≤ 100000 → Pen H' l c (S + 2) → Ex1 l H H' → Q (.int ((r : Nat) : Int)) H'
theorem deeds_same {K : PySem.W.Frag} {H H' : Hp} {us : List V} {ds : List Deed} (s : Same H H') (h : DeedsAt K H us ds) : DeedsAt K H' us ds := h.mono fun v d ⟨q, e1, e2⟩ => ⟨q, e1, e2.tups (Tups.of_same s)⟩
section
variable {P : Program} {w : World} {K : PySem.W.Frag} {mg : Str → Option Value} {base : Heap} {f fL fS fT fP : Addr} {fd dL dS dT dP : FuncData}
theorem ok_du (F : Fun K "_law_due" "_law_due" sDu f fd) (mt : mg "tuple" = none) (FL : Fun K "_law_linked" "_law_linked" sLi fL dL) (GL : FnOk P w K mg base CX0 2 fL dL ["_law_query", "_law_led_by"] (spLi K)) (gL : mg "_law_linked" = some (.ref fL)) (bL : Binds K dL ["_law_query", "_law_led_by"] [])
    (FS : Fun K "_law_size" "_law_size" sSi fS dS) (GS : FnOk P w K mg base CX0 1 fS dS ["_law_deeds_here", "_law_name"] (spSi K)) (gS : mg "_law_size" = some (.ref fS)) (bS : Binds K dS ["_law_deeds_here", "_law_name"] []) :
    FnOk P w K mg base CX0 3 f fd ["_law_query", "_law_led_by", "_law_deeds_here", "_law_room"] (spDu K) := by
  refine F.ok scDu (fun vs H Q E h => ?_) (fun cdv A outer s H vs Q E hr h => ?_)
  · obtain ⟨A, PL, L, ss, o, w, us, ds, room, sz, rfl, _⟩ := h
    rfl
  obtain ⟨AK, PL, L, ss, o, wy, us, ds, room, sz, rfl, hA, hs, hP, o1, lo, oj, eL, hD, l4, hsz, q⟩ := h
  have nd := scDu.nd
  refine ⟨_, pss_cons (ps_set (i := 4) nd rfl (by first | exact .inl rfl | exact .inr rfl) pe_int)
    (pss_cons (ps_set (i := 5) nd rfl (by first | exact .inl rfl | exact .inr rfl) (pe_lst pa_nil))
    (C8.pss_cut (ps_for PassesOwn.never rfl (pi_list (pe_call GL hr (by rfl) gL FL.kp bL .nil pass0 (pa_cons (pv 0) (pa_cons (pv 1) pa_nil)))) (pg_name (i := 6) nd rfl (by first | exact .inl rfl | exact .inr rfl))
      (pss_cons (ps_set (i := 7) nd rfl (by first | exact .inl rfl | exact .inr rfl) (pe_call GS (hr.mono (by decide)) (by rfl) gS FS.kp bS .nil pass0 (pa_cons (pv 2) (pa_cons (pe_ix ix_tup (pe_ix ix_tup (pe_ix ix_tup (pv 0) pe_int (fun _ _ => rfl)) (pv 6) (fun _ _ => rfl)) pe_int (fun _ _ => rfl)) pa_nil))))
      (pss_one (ps_if (pt_cmpR op_le (pv 7) (pv 3) (nomark _))
        (pss_cons (ps_set (i := 3) nd rfl (by first | exact .inl rfl | exact .inr rfl) (pe_op op_sub (pv 3) (pv 7)))
        (pss_cons (ps_set (i := 4) nd rfl (by first | exact .inl rfl | exact .inr rfl) (pe_op op_add (pv 4) (pv 7)))
        (pss_one (ps_expr (pe_bm PySem.F.plainAttrs_list PySem.F.slot_list_append PySem.F.type_list_append mt_append (pv 5) (pa_cons (pv 6) pa_nil)))))) pss_nil))))
    (pss_one (ps_ret (pe_tup (pa_cons (pv 4) (pa_cons (pe_tupleOf (by rfl) mt (pv 5)) pa_nil))))))), ?_⟩
  refine ⟨Nat.zero_le _, fun B nB => ?_⟩
  have j1 := new_same (o := .lst []) nB
  have eB1 : upd H B (.lst []) B = some (.lst []) := upd_same
  generalize upd H B (.lst []) = H1 at j1 eB1 ⊢
  have kl := lkL_len (w := wy) hs.1 lo
  have kin := lkL_in (ss := ss) (w := wy) lo oj
  have gl : ∀ k, (goB sz room ((lkL ss o wy).take k)).2.2.length ≤ 20 := fun k => by
    refine Nat.le_trans (goB_len _ _ _) ?_
    rw [List.length_take]
    omega
  refine ⟨fun σ' G2 => (∃ y6 y7, σ' = [some (.ref AK), some (.ref PL), some (.ref L), some (.int ((goB sz room (lkL ss o wy)).2.1 : Nat)), some (.int ((goB sz room (lkL ss o wy)).1 : Nat)), some (.ref B), y6, y7]) ∧ Same H G2 ∧ G2 B = some (.lst (intsV (goB sz room (lkL ss o wy)).2.2)), ?_, ?_⟩
  · refine ⟨_, rfl, _, rfl, AK, PL, ss, o, wy, rfl, ask_same j1 hA, hs, hP.same j1, o1, lo, oj, fun D H3 s3 nD eD => ?_⟩
    have eB3 := s3 _ _ eB1
    have nDB : D ≠ B := fun z => by rw [z, eB1] at nD; cases nD
    have sH3 := j1.trans s3
    refine ⟨D, rfl, ⟨_, SqL.of eD⟩, ?_⟩
    have ll : (intsV (lkL ss o wy)).length = (lkL ss o wy).length := List.length_map _
    refine for_it (walk_list (K := K) (a := D) (xs := intsV (lkL ss o wy))) (fun k σ G1 => (∃ y6 y7, σ = [some (.ref AK), some (.ref PL), some (.ref L), some (.int ((goB sz room ((lkL ss o wy).take k)).2.1 : Nat)), some (.int ((goB sz room ((lkL ss o wy).take k)).1 : Nat)), some (.ref B), y6, y7]) ∧ (∀ b o, b ≠ B → H3 b = some o → G1 b = some o) ∧ G1 B = some (.lst (intsV (goB sz room ((lkL ss o wy).take k)).2.2)))
      ⟨⟨_, _, rfl⟩, fun _ _ _ e => e, eB3⟩ (fun k σ G1 _ z => SqL.of (z.2.1 _ _ nDB eD)) ?_ ?_
    · rintro k y σ G1 G2 hk ⟨⟨y6, y7, rfl⟩, off, eB⟩ ⟨rfl, hy⟩
      have hy : (intsV (lkL ss o wy))[k]? = some y := hy
      unfold intsV at hy
      rw [List.getElem?_map, Option.map_eq_some_iff] at hy
      obtain ⟨n, en, rfl⟩ := hy
      have hn := kin n (List.mem_of_getElem? en)
      have offH : Same H G2 := fun b o e => off b o (ne_of_none e nB) (sH3 _ _ e)
      obtain ⟨as, xs, S, a, b, wy2, nk, tA, e0, tS, en2, ta⟩ := tab_at (ask_same offH hA) hn
      have tk : goB sz room ((lkL ss o wy).take (k + 1)) = stepB sz (goB sz room ((lkL ss o wy).take k)) n := by
        rw [List.take_add_one, en]
        exact goB_snoc _ _ _ _
      rw [tk]
      have gk := gl k
      generalize goB sz room ((lkL ss o wy).take k) = st at eB gk ⊢
      obtain ⟨lk, rs, kp⟩ := st
      refine ⟨_, rfl, _, rfl, AK, _, 0, _, rfl, rfl, tA, atI_nat (j := 0) e0, _, rfl, S, _, _, _, rfl, rfl, tS, atI_nat (j := n) en2, a, _, 2, _, rfl, rfl, ta, atI_nat (j := 2) rfl, L, us, ds, tabOf ss n, rfl, offH _ _ eL, deeds_same offH hD, l4, fun G3 s3' => ?_⟩
      rw [hsz n hn]
      have eB3' := s3' _ _ eB
      refine ⟨_, rfl, _, rfl, _, _, rfl, rfl, _, rfl, ?_⟩
      unfold stepB
      by_cases z : sz n ≤ rs
      · rw [if_pos z]
        refine iteT' (decide_eq_true (by show ((sz n : Nat) : Int) ≤ ((rs : Nat) : Int); omega)) ?_
        refine ⟨_, rfl, _, rfl, _, _, rfl, rfl, ?_⟩
        refine ⟨_, rfl, _, rfl, _, _, rfl, rfl, ?_⟩
        refine ⟨_, rfl, .inl ⟨rfl, _, SqL.of eB3'⟩, _, rfl, B, _, _, rfl, rfl, eB3', by unfold intsV; rw [List.length_map, sizeLine_eq]; omega, ?_⟩
        refine ⟨⟨some (.int ((n : Nat) : Int)), some (.int ((sz n : Nat) : Int)), ?_⟩, fun b0 o0 nb e => by rw [upd_ne nb]; exact s3' _ _ (off b0 o0 nb e), ?_⟩
        · show [_, _, _, some (V.int (((rs : Nat) : Int) - ((sz n : Nat) : Int))), some (V.int (((lk : Nat) : Int) + ((sz n : Nat) : Int))), _, _, _] = _
          rw [show ((lk : Nat) : Int) + ((sz n : Nat) : Int) = ((lk + sz n : Nat) : Int) by omega, show ((rs : Nat) : Int) - ((sz n : Nat) : Int) = ((rs - sz n : Nat) : Int) by omega]
        · rw [upd_same]
          unfold intsV
          rw [List.map_append]
          rfl
      · rw [if_neg z]
        refine iteF' (by rw [decide_eq_true_eq]; show ¬ ((sz n : Nat) : Int) ≤ ((rs : Nat) : Int); omega) ?_
        exact ⟨⟨_, _, rfl⟩, fun b0 o0 nb e => s3' _ _ (off b0 o0 nb e), eB3'⟩
    · rintro σ G1 ⟨⟨y6, y7, rfl⟩, off, eB⟩
      rw [ll, List.take_length] at eB ⊢
      exact ⟨⟨_, _, rfl⟩, fun b o e => off b o (ne_of_none e nB) (sH3 _ _ e), eB⟩
  rintro σ' G2 ⟨⟨y6, y7, rfl⟩, sG, eB⟩
  refine ⟨_, rfl, _, rfl, .inl ⟨B, _, rfl, SqL.of eB, fun tq ntq => ⟨by show 2 ≤ sizeLine; decide, fun rq nrq => ?_⟩⟩⟩
  have jt := new_same (o := .tup (intsV (goB sz room (lkL ss o wy)).2.2)) ntq
  have jr := new_same (o := .tup [.int ((goB sz room (lkL ss o wy)).1 : Nat), .ref tq]) nrq
  exact q rq tq _ ((sG.trans jt).trans jr) (SqT.of upd_same) (Tups.of_same jr _ _ (SqT.of upd_same))
theorem ok_ro (F : Fun K "_law_rooms" "_law_rooms" sRo f fd) (msum : mg "sum" = none) (mmax : mg "max" = none) (FL : Fun K "_law_linked" "_law_linked" sLi fL dL) (GL : FnOk P w K mg base CX0 2 fL dL ["_law_query", "_law_led_by"] (spLi K)) (gL : mg "_law_linked" = some (.ref fL)) (bL : Binds K dL ["_law_query", "_law_led_by"] [])
    (FS : Fun K "_law_size" "_law_size" sSi fS dS) (GS : FnOk P w K mg base CX0 1 fS dS ["_law_deeds_here", "_law_name"] (spSi K)) (gS : mg "_law_size" = some (.ref fS)) (bS : Binds K dS ["_law_deeds_here", "_law_name"] [])
    (FT : Fun K "_law_take" "_law_take" sDraw fT dT) (GT : FnOk P w K mg base CX0 1 fT dT ["_law_pen_here", "_law_many"] spDraw) (gT : mg "_law_take" = some (.ref fT)) (bT : Binds K dT ["_law_pen_here", "_law_many"] [])
    (FP : Fun K "_law_pick" "_law_pick" sPk fP dP) (GP : FnOk P w K mg base CX0 2 fP dP ["_law_pen_here", "_law_some"] spPk) (gP : mg "_law_pick" = some (.ref fP)) (bP : Binds K dP ["_law_pen_here", "_law_some"] []) :
    FnOk P w K mg base CX0 3 f fd ["_law_pen_here", "_law_query", "_law_led_by", "_law_deeds_here"] (spRo K) := by
  refine F.ok scRo (fun vs H Q E h => ?_) (fun cdv A outer s H vs Q E hr h => ?_)
  · obtain ⟨l, c, A, PL, L, S, ss, o, w, us, ds, sz, rfl, _⟩ := h
    rfl
  obtain ⟨l, c, AK, PL, L, S, ss, o, wy, us, ds, sz, rfl, pn, hS, hA, hs, hP, o1, lo, oj, eL, hD, l4, hsz, sz4, q⟩ := h
  have nd := scRo.nd
  have r1 : Room 1 _ := hr.mono (by decide)
  refine ⟨_, pss_cons (ps_setLc (i := 4) (own := [("_law_number", 6)]) (g := gName 6) (tt := tYes) rfl nd rfl rfl (by rfl) (pi_list (pe_call GL hr (by rfl) gL FL.kp bL .nil pass0 (pa_cons (pv 1) (pa_cons (pv 2) pa_nil)))) (blkOk_by (N := nRo) (sc := defScope sRo) (by decide +kernel)) (fun _ _ _ _ _ => pg_name (i := 6) nd rfl (Or.inl rfl)) (fun _ _ _ _ _ => pts_nil)
      (fun _ _ _ _ _ => pe_call GS r1 (by rfl) gS FS.kp bS .nil pass0 (pa_cons (pv 3) (pa_cons (pe_ix (ix_tupK K) (pe_ix (ix_tupK K) (pe_ix (ix_tupK K) (pv 1) pe_int (fun _ _ => rfl)) (pv 6) (fun _ _ => rfl)) pe_int (fun _ _ => rfl)) pa_nil))))
    (pss_cons (ps_set (i := 5) nd rfl (by first | exact .inl rfl | exact .inr rfl) (pe_lst (pa_cons pe_int (pa_cons pe_int (pa_cons (pe_callB (cr_sum rfl) (by rfl) msum (by decide +kernel) (pa_cons (pv 4) pa_nil)) (pa_cons (pe_callB (call_max2 rfl) (by rfl) mmax (by decide +kernel) (pa_cons pe_int (pa_cons (pe_op op_sub (pe_callB (cr_sum rfl) (by rfl) msum (by decide +kernel) (pa_cons (pv 4) pa_nil)) pe_int) pa_nil))) (pa_cons (pe_op op_add (pe_callB (cr_sum rfl) (by rfl) msum (by decide +kernel) (pa_cons (pv 4) pa_nil)) pe_int) (pa_cons pe_int (pa_cons (pe_call GT r1 (by rfl) gT FT.kp bT .nil pass0 (pa_cons (pv 0) (pa_cons (pe_op op_add pe_int (pe_callB (cr_sum rfl) (by rfl) msum (by decide +kernel) (pa_cons (pv 4) pa_nil))) pa_nil))) pa_nil)))))))))
    (pss_one (ps_ret (pe_call GP hr (by rfl) gP FP.kp bP .nil pass0 (pa_cons (pv 0) (pa_cons (pe_op op_cat (pv 5) (pv 4)) pa_nil)))))), ?_⟩
  have kl := lkL_len (w := wy) hs.1 lo
  have kin := lkL_in (ss := ss) (w := wy) lo oj
  have szV : ∀ (l : List Nat), l.map (fun n => V.int ((sz n : Nat) : Int)) = (l.map fun n => ((sz n : Nat) : Int)).map V.int := fun l => by rw [List.map_map]; rfl
  have Ll : L ≠ l ∨ True := .inr trivial
  refine ⟨_, rfl, _, rfl, AK, PL, ss, o, wy, rfl, hA, hs, hP, o1, lo, oj, fun D H1 s1 nD eD => ⟨D, rfl, ⟨_, SqL.of eD⟩, fun R nR => ?_⟩⟩
  refine lc_list (K := K) (a := D) (xs := intsV (lkL ss o wy)) (fun k G => Same H1 G ∧ G R = some (.lst (((lkL ss o wy).take k).map fun n => V.int ((sz n : Nat) : Int)))) ⟨new_same nR, upd_same⟩ (fun k G _ y => SqL.of (y.1 _ _ eD)) ?_ ?_
  · rintro k y G hy ⟨sg, eR⟩
    unfold intsV at hy
    rw [List.getElem?_map, Option.map_eq_some_iff] at hy
    obtain ⟨n, en, rfl⟩ := hy
    have hn := kin n (List.mem_of_getElem? en)
    have lk := (List.getElem?_eq_some_iff.mp en).1
    have sG := s1.trans sg
    obtain ⟨as, xs, S', a, b, wy2, nk, tA, e0, tS, en2, ta⟩ := tab_at (ask_same sG hA) hn
    refine ⟨rfl, ?_⟩
    refine ⟨_, rfl, _, rfl, AK, _, 0, _, rfl, rfl, tA, atI_nat (j := 0) e0, _, rfl, S', _, _, _, rfl, rfl, tS, atI_nat (j := n) en2, a, _, 2, _, rfl, rfl, ta, atI_nat (j := 2) rfl, L, us, ds, tabOf ss n, rfl, sG _ _ eL, deeds_same sG hD, l4, fun G3 s3 => ?_⟩
    rw [hsz n hn]
    refine ⟨_, s3 _ _ eR, by rw [List.length_map, List.length_take, sizeLine_eq]; omega, own_same nR (sg.trans s3), ?_⟩
    rw [upd_same, List.take_add_one, en, List.map_append]
    rfl
  rintro H2 ⟨s2, eR⟩
  rw [show (intsV (lkL ss o wy)).length = (lkL ss o wy).length from List.length_map _, List.take_length, szV] at eR
  obtain ⟨ns, ens⟩ : ∃ ns, ns = (lkL ss o wy).map fun n => ((sz n : Nat) : Int) := ⟨_, rfl⟩
  have lns : ns.length ≤ 20 := by rw [ens, List.length_map]; exact kl
  have bns : ∀ i ∈ ns, 0 ≤ i ∧ i ≤ 4000 := fun i hi => by
    rw [ens] at hi
    obtain ⟨n, _, rfl⟩ := List.mem_map.mp hi
    have := sz4 n
    omega
  have sum0 : ∀ l : List Int, (∀ i ∈ l, 0 ≤ i ∧ i ≤ 4000) → 0 ≤ l.sum ∧ l.sum ≤ 4000 * (l.length : Int) := fun l => by
    induction l with
    | nil => intro _; exact ⟨Int.le_refl _, Int.le_refl _⟩
    | cons a l ih =>
      intro h
      have z := ih fun i hi => h i (by simp [hi])
      have z2 := h a (by simp)
      rw [List.sum_cons, List.length_cons]
      omega
  obtain ⟨t0, t1⟩ := sum0 ns bns
  have t2 : ns.sum ≤ 80000 := by omega
  rw [← ens] at eR
  have s12 := s1.trans s2
  have p2 := pn.same s12
  have LR := SqL.of (K := K) eR
  have nRl : R ≠ l := fun z => by
    obtain ⟨nums, tt, ov, el, _⟩ := pn
    have := s12 _ _ el
    have nR0 : H1 R = none := nR
    rw [z, s1 _ _ el] at nR0
    cases nR0
  refine ⟨_, rfl, R, ns, rfl, LR, _, rfl, R, ns, rfl, LR, _, _, rfl, rfl, 0, _, rfl, _, rfl, R, ns, rfl, LR, _, _, rfl, rfl, _, rfl, _, rfl, R, ns, rfl, LR, _, _, rfl, rfl, l, c, _, _, rfl, p2, by omega, by omega, by omega, fun u H3 u0 u1 p3 x3 => ⟨by show 7 ≤ sizeLine; decide, fun b nb => ?_⟩⟩
  have e3 := x3 _ _ nRl eR
  have jb := new_same (o := .lst ([0, 1, ns.sum, if ns.sum - 1 > 0 then ns.sum - 1 else 0, ns.sum + 1, 99, u].map V.int)) nb
  have eb : upd H3 b (.lst ([0, 1, ns.sum, if ns.sum - 1 > 0 then ns.sum - 1 else 0, ns.sum + 1, 99, u].map V.int)) b = some (.lst ([0, 1, ns.sum, if ns.sum - 1 > 0 then ns.sum - 1 else 0, ns.sum + 1, 99, u].map V.int)) := upd_same
  refine ⟨_, rfl, _, rfl, _, rfl, b, R, _, ns.map V.int, rfl, rfl, eb, jb _ _ e3, ?_, fun Cq nC => ?_⟩
  · rw [List.length_map, List.length_map, sizeLine_eq]
    show 7 + ns.length ≤ _
    omega
  have jC := new_same (o := .lst ([0, 1, ns.sum, if ns.sum - 1 > 0 then ns.sum - 1 else 0, ns.sum + 1, 99, u].map V.int ++ ns.map V.int)) nC
  have p4 := (p3.same jb).same jC
  refine ⟨l, c, .ref Cq, _, rfl, p4, by omega, .inl ⟨Cq, _, rfl, upd_same, ((p3.same jb).not nC).1, by rw [List.length_append]; show 0 < 7 + _; omega, ?_, fun i y H5 hy p5 x5 => ?_⟩⟩
  · rw [List.length_append, List.length_map, List.length_map]
    show 7 + _ ≤ _
    omega
  rw [← List.map_append, List.getElem?_map, Option.map_eq_some_iff] at hy
  obtain ⟨v, hv, rfl⟩ := hy
  have vb : 0 ≤ v ∧ v ≤ 100000 := by
    rcases List.mem_append.mp (List.mem_of_getElem? hv) with h | h
    · simp only [List.mem_cons, List.not_mem_nil, or_false] at h
      rcases h with rfl | rfl | rfl | rfl | rfl | rfl | rfl
      · omega
      · omega
      · omega
      · split <;> omega
      · omega
      · omega
      · omega
    · have := bns v h
      omega
  obtain ⟨r, rfl⟩ : ∃ r : Nat, v = ((r : Nat) : Int) := ⟨v.toNat, by omega⟩
  exact q r H5 (by omega) (p5.le (by omega)) ((((ex1_same s12 : Ex1 l H H2).trans x3).trans ((Ex1.new nb).trans (Ex1.new nC))).trans x5)
end
end K37
end

section
set_option Elab.async false
set_option linter.all false
set_option maxRecDepth 100000
set_option maxHeartbeats 4000000
/-! the law's def. -/
namespace K37
open PySem PySem.Spec PyProof.Rows L2 Gd K37t
/-- all plans, their orders and ways -/
def waysL (b : Bool) : List Str := if b then ["kept", "walked"] else ["walked"]
def plansOW (m : Nat) (b : Bool) : List (List Nat × Str) := (Pm.perms m).flatMap fun o => (waysL b).map fun w => (o, w)
def encP (x : List Nat × Str) : PyData := pl x.1 x.2
theorem plans_ow (m : Nat) (b : Bool) : plansL m b = (plansOW m b).map encP := by
  unfold plansL plansOW
  rw [List.map_flatMap]
  congr 1
  funext o
  cases b <;> rfl
structure OwOk (m : Nat) (x : List Nat × Str) : Prop where
  len : x.1.length = m
  nod : x.1.Nodup
  lt : ∀ j ∈ x.1, j < x.1.length
  way : x.2 = "kept" ∨ x.2 = "walked"
theorem ow_ok {m : Nat} {b : Bool} (m1 : 1 ≤ m) (m3 : m ≤ 3) {x : List Nat × Str} (h : x ∈ plansOW m b) : OwOk m x := by
  unfold plansOW at h
  obtain ⟨o, ho, h⟩ := List.mem_flatMap.mp h
  obtain ⟨w, hw, rfl⟩ := List.mem_map.mp h
  obtain ⟨i, hi⟩ := List.mem_iff_getElem?.mp ho
  obtain ⟨a, c, d, _⟩ := perms_ok m1 m3 hi
  refine ⟨a, c, fun j hj => by rw [a]; exact d j hj, ?_⟩
  cases b with
  | true =>
    have hw : w ∈ (["kept", "walked"] : List Str) := hw
    simpa using hw
  | false =>
    have hw : w ∈ (["walked"] : List Str) := hw
    exact .inr (by simpa using hw)
theorem pl_at {K : PySem.W.Frag} {H : Hp} {v : V} {x : List Nat × Str} (h : Dp K H v (encP x)) : ∃ p, v = .ref p ∧ PlAt K H p x.1 x.2 := by
  cases h with
  | tup a b =>
  cases b with
  | cons b1 b =>
  cases b with
  | cons b2 b =>
  cases b
  cases b2
  cases b1 with
  | tup c d =>
    refine ⟨_, rfl, _, a, ?_⟩
    have key : ∀ (o : List Nat) (vs : List V), DpAll K H vs (o.map fun k => PyData.int ((k : Nat) : Int)) → vs = intsV o := by
      intro o
      induction o with
      | nil => intro vs h; cases h; rfl
      | cons k o ih =>
        intro vs h
        rw [List.map_cons] at h
        cases h with
        | cons h1 h2 =>
          cases h1
          rw [ih _ h2]
          rfl
    rw [← key _ _ d]
    exact c
def askD (ss : List Src) (b : Bool) : PyData := .tuple [.tuple (ss.map srcD), .tuple [], .tuple [.str "rows", .tuple [.tuple [.str "number", .int 1]]], .tuple [], .none, .bool b]
theorem askD_only {ss : List Src} {m : Nat} (dr : Drawn ss m) (b : Bool) : tupOnly (askD ss b) = true := by
  have h := srcs_only ss (fun s hs => Nat.le_trans (dr.small s hs).1 (by decide))
  have l5 := dr.five
  simp only [askD, tupOnly, tupOnlyAll, h, Bool.and_true, List.length_map, List.length_cons, List.length_nil, Bool.and_eq_true, decide_eq_true_eq]
  exact ⟨by decide, by omega, by decide, ⟨by decide, trivial, by decide, by decide⟩, by decide⟩
theorem ask_of {K : PySem.W.Frag} {H : Hp} {A : Addr} {ss : List Src} {b : Bool} (h : Dp K H (.ref A) (askD ss b)) : AskAt K H A ss := by
  cases h with
  | tup t k =>
    cases k with
    | cons k1 k =>
      cases k1 with
      | tup t1 k1 => exact ⟨_, _, _, t, rfl, t1, k1⟩

abbrev sLaw : Stmt := topS 45
abbrev nLaw : List Str := ["_law_script", "_law_pen_here", "_law_deeds_here", "_law_base", "_law_turn", "_law_query", "_law_plans", "_law_k", "_law_led_by", "_law_then", "_law_ahead", "_law_room", "_law_due_here", "_law_more", "_law_now"]
theorem scLaw : FnScope nLaw ["_law_script"] (defScope sLaw) := ⟨rfl, rfl, rfl, by decide +kernel, rfl, by decide +kernel, by decide +kernel⟩
def spLaw (K : PySem.W.Frag) : Sp := fun vs H Q _ => ∃ (a : Addr) (ns : List Int), vs = [.ref a] ∧ SqL K H a (ns.map V.int) ∧ ns.length ≤ 63 ∧ ∀ H', Q (.bl true) H'
def back5 {α : Type} : List α → List α
  | [a, b, c, d, e] => [e, d, b, c, a]
  | _ => []
theorem back5_rel {vs : List V} {us : List Value} (h : Vals vs us) : Vals (back5 vs) (back5 us) := by
  cases h with
  | nil => exact .nil
  | cons h1 h => cases h with
    | nil => exact .nil
    | cons h2 h => cases h with
      | nil => exact .nil
      | cons h3 h => cases h with
        | nil => exact .nil
        | cons h4 h => cases h with
          | nil => exact .nil
          | cons h5 h => cases h with
            | nil => exact .cons h5 (.cons h4 (.cons h2 (.cons h3 (.cons h1 .nil))))
            | cons _ _ => exact .nil
theorem cntAt_eq (x : Shelf) (m : Nat) (n : Str) : cntAt x m n = cntL x.tabs m n := by
  unfold cntAt cntL
  cases e : x.tabs.find? fun t => decide (t.name = n) with
  | none => rfl
  | some t => exact at_len ..
/-- what a visit takes at first, as data -/
def beD (st : Nat × Nat × List Nat) : PyData := .tuple [.int ((st.1 : Nat) : Int), .tuple (st.2.2.map fun k => PyData.int ((k : Nat) : Int))]
theorem dp_nats {K : PySem.W.Frag} {H : Hp} : ∀ l : List Nat, DpAll K H (intsV l) (l.map fun k => PyData.int ((k : Nat) : Int))
  | [] => .nil
  | n :: l => .cons (.int _) (dp_nats l)
theorem be_dp {K : PySem.W.Frag} {H : Hp} {r t : Addr} {st : Nat × Nat × List Nat} (h1 : SqT K H r [.int ((st.1 : Nat) : Int), .ref t]) (h2 : SqT K H t (intsV st.2.2)) : Dp K H (.ref r) (beD st) := .tup h1 (.cons (.int _) (.cons (.tup h2 (dp_nats _)) .nil))
theorem goB_in (sz : Nat → Nat) (room : Nat) (ns : List Nat) (h4 : ∀ n, sz n ≤ 4000) : (∀ n ∈ (goB sz room ns).2.2, n ∈ ns) ∧ (goB sz room ns).1 ≤ 1 + 4000 * ns.length := by
  have g : ∀ (ns : List Nat) (st : Nat × Nat × List Nat), (∀ n ∈ (ns.foldl (stepB sz) st).2.2, n ∈ st.2.2 ∨ n ∈ ns) ∧ (ns.foldl (stepB sz) st).1 ≤ st.1 + 4000 * ns.length := fun ns => by
    induction ns with
    | nil => intro st; exact ⟨fun n h => .inl h, by simp⟩
    | cons a ns ih =>
      intro st
      obtain ⟨z1, z2⟩ := ih (stepB sz st a)
      rw [List.foldl_cons]
      have z4 := h4 a
      refine ⟨fun n hn => ?_, ?_⟩
      · rcases z1 n hn with h | h
        · unfold stepB at h
          split at h
          · rcases List.mem_append.mp h with h | h
            · exact .inl h
            · exact .inr (by rw [List.mem_singleton.mp h]; exact List.mem_cons_self ..)
          · exact .inl h
        · exact .inr (List.mem_cons_of_mem _ h)
      · refine Nat.le_trans z2 ?_
        rw [List.length_cons]
        unfold stepB
        split
        · show st.1 + sz a + _ ≤ _
          omega
        · omega
  obtain ⟨z1, z2⟩ := g ns (1, room, [])
  exact ⟨fun n hn => (z1 n hn).elim (fun h => nomatch h) id, z2⟩
theorem be_shown (sz : Nat → Nat) (room : Nat) (ns : List Nat) (h4 : ∀ n, sz n ≤ 4000) (l20 : ns.length ≤ 20) (n10 : ∀ n ∈ ns, n < 10) : (beD (goB sz room ns)).showable = true ∧ (beD (goB sz room ns)).shown.length ≤ sizeLine ∧ (beD (goB sz room ns)).depth ≤ 60 := by
  obtain ⟨z1, z2⟩ := goB_in sz room ns h4
  have z3 := goB_len sz room ns
  have small : ∀ k : Nat, k ≤ 1000000 → Szg.Sm 212 0 (.int ((k : Nat) : Int)) := fun k hk => Szg.sm_int (Nat.le_trans (show ((k : Nat) : Int).natAbs ≤ 1000000 by omega) (by decide))
  have a : Szg.Sm 5000 1 (.tuple ((goB sz room ns).2.2.map fun k => PyData.int ((k : Nat) : Int))) := by
    refine (Szg.Sms.tup (Szg.Sms.all (w := 212) (n := 0) fun d hd => ?_)).mono ?_ (Nat.le_refl _)
    · obtain ⟨n, hn, rfl⟩ := List.mem_map.mp hd
      have := n10 n (z1 n hn)
      exact small n (by omega)
    · rw [List.length_map]
      omega
  have b : Szg.Sm 10000 2 (beD (goB sz room ns)) := (Szg.Sms.tup (Szg.Sms.cons ((small _ (by omega)).mono (Nat.le_refl _) (by decide)) (Szg.Sms.cons a Szg.Sms.nil))).mono (by decide) (by decide)
  exact b.shown (by decide) (by decide)
theorem keeps_lk {ss : List Src} {o : List Nat} {w : Str} (wl : Well ss o.length) (nd : o.Nodup) (oj : ∀ j ∈ o, j < o.length) : keepsL ss o w = lkL ss o w := by
  unfold lkL
  by_cases z : w = "kept"
  · rw [if_pos z, z]
    exact keeps_eq wl nd oj
  · rw [if_neg z]
    unfold keepsL
    rw [if_neg z]
/-- pen, deeds, tables beside one another -/
structure LS (K : PySem.W.Frag) (C : Addr) (H : Hp) (l c p B : Addr) (ds : List Deed) (xs : Nat → Shelf) (F : Addr → Prop) (S : Int) (done : Nat) : Prop where
  pen : Pen H l c S
  us : ∃ us, H B = some (.lst us) ∧ DeedsAt K H us ds
  ch : Chain ds xs
  nm : (xs ds.length).tabs.map Tab.name = nm3
  tb : ∀ t ∈ (xs ds.length).tabs, t.cols = (["a", "b"] : List Str) ∧ t.rows.length ≤ 9 + done ∧ t.made < 3
  l3 : 3 ≤ ds.length
  l40 : ds.length ≤ 40 + done
  shf : ShelfF K C H p (xs ds.length) F
  nB : B ≠ l ∧ B ≠ c
  nF : ¬ F l ∧ ¬ F c ∧ ¬ F B
section
variable {K : PySem.W.Frag} {C : Addr} {H H' : Hp} {l c p B : Addr} {ds : List Deed} {xs : Nat → Shelf} {F : Addr → Prop} {S S' : Int} {done : Nat}
theorem LS.same (h : LS K C H l c p B ds xs F S done) (s : Same H H') : LS K C H' l c p B ds xs F S done := by
  obtain ⟨us, e, r⟩ := h.us
  exact ⟨h.pen.same s, ⟨us, s _ _ e, deeds_same s r⟩, h.ch, h.nm, h.tb, h.l3, h.l40, h.shf.same s, h.nB, h.nF⟩
theorem pen_tups (pn : Pen H l c S) (xx : Ex1 l H H') : Tups K H H' := by
  obtain ⟨ns, t, ov, el, _⟩ := pn
  exact tups_off fun q o e n1 n2 n3 => xx q o (fun z => by rw [z, el] at e; exact n2 _ (Option.some.inj e).symm) e
theorem LS.draw (h : LS K C H l c p B ds xs F S done) (xx : Ex1 l H H') (pn : Pen H' l c S') : LS K C H' l c p B ds xs F S' done := by
  have tp := pen_tups (K := K) h.pen xx
  obtain ⟨us, e, r⟩ := h.us
  exact ⟨pn, ⟨us, xx _ _ h.nB.1 e, r.mono fun v d ⟨q, e1, e2⟩ => ⟨q, e1, e2.tups tp⟩⟩, h.ch, h.nm, h.tb, h.l3, h.l40, h.shf.keep tp fun b o hb e => xx b o (fun z => h.nF.1 (by rw [← z]; exact hb)) e, h.nB, h.nF⟩
theorem LS.le (h : LS K C H l c p B ds xs F S done) {done' : Nat} (le : S ≤ S') (ld : done ≤ done') : LS K C H l c p B ds xs F S' done' :=
  ⟨h.pen.le le, h.us, h.ch, h.nm, fun t ht => by obtain ⟨a, b, d⟩ := h.tb t ht; exact ⟨a, by omega, d⟩, h.l3, by have := h.l40; omega, h.shf, h.nB, h.nF⟩
theorem LS.ok (h : LS K C H l c p B ds xs F S done) (hd : done ≤ 100) : ShelfOk (xs ds.length) := h.ch.ok (by have := h.l40; omega) _ (Nat.le_refl _)
theorem LS.tabs (h : LS K C H l c p B ds xs F S done) {ss : List Src} (ht : ∀ s ∈ ss, s.table ∈ nm3) {m : Nat} (m3 : 3 ≤ m) : TabsIn (xs ds.length) m ss := fun n hn => by
  have hm : tabOf ss n ∈ nm3 := ht _ (getD_mem' hn)
  rw [← h.nm] at hm
  obtain ⟨t, tm, e⟩ := List.mem_map.mp hm
  obtain ⟨i, hi⟩ := List.mem_iff_getElem?.mp tm
  exact ⟨i, t, hi, e, by have := (h.tb t tm).2.2; omega⟩
theorem LS.size (h : LS K C H l c p B ds xs F S done) (hd : done ≤ 100) {m : Nat} (hm : m ≤ ds.length) (n : Str) : sizeI (ds.take m) n = (cntAt (xs ds.length) m n : Int) := by
  rw [cntAt_eq]
  exact (h.ch.size (by have := h.l40; omega) n ds.length (Nat.le_refl _) m hm).symm
theorem LS.cnt (h : LS K C H l c p B ds xs F S done) (hd : done ≤ 100) (m : Nat) (n : Str) : cntAt (xs ds.length) m n ≤ 4000 := by
  unfold cntAt
  split
  · rename_i t e
    have tm := (find_name e).1
    rw [at_len]
    refine Nat.le_trans (List.length_filter_le _ _) ?_
    have := (h.tb t tm).2.1
    omega
  · exact Nat.zero_le _
/-- a row more, done and told to the list of deeds -/
theorem LS.more (h : LS K C H l c p B ds xs F S done) (hd : done ≤ 40) {n : Str} (hn : n ∈ nm3) (tu : Nat) (htu : tu ≤ 10) : ∃ y, DeedOk (.row n [0, ((tu : Nat) : Int)]) ∧ Can (xs ds.length) (.row n [0, ((tu : Nat) : Int)]) y ∧ Chain (ds ++ [.row n [0, ((tu : Nat) : Int)]]) (fun k => if k ≤ ds.length then xs k else { y with deeds := (xs ds.length).deeds ++ [.row n [0, ((tu : Nat) : Int)]] }) ∧ y.tabs.map Tab.name = nm3 ∧
    (∀ t ∈ y.tabs, t.cols = (["a", "b"] : List Str) ∧ t.rows.length ≤ 9 + (done + 1) ∧ t.made < 3) ∧ ∀ m, m ≤ ds.length → ∀ a, cntL y.tabs m a = cntL (xs ds.length).tabs m a := by
  have ok := h.ok (by omega)
  have hm := hn
  rw [← h.nm] at hm
  obtain ⟨t, tm, rfl⟩ := List.mem_map.mp hm
  obtain ⟨i, hi⟩ := List.mem_iff_getElem?.mp tm
  obtain ⟨t1, t2, t3⟩ := h.tb t tm
  have dok : DeedOk (.row t.name [0, ((tu : Nat) : Int)]) := by
    refine ⟨ok.lab t tm, fun a ha => ?_, by show 2 ≤ 1000; decide⟩
    simp only [List.mem_cons, List.not_mem_nil, or_false] at ha
    have z : (10 ^ 30 : Int) = 1000000000000000000000000000000 := by decide
    rcases ha with rfl | rfl <;> constructor <;> omega
  have can : Can (xs ds.length) (.row t.name [0, ((tu : Nat) : Int)]) ((xs ds.length).onRows t.name fun rs => rs ++ [⟨[0, ((tu : Nat) : Int)], (xs ds.length).deeds.length, none⟩]) := ⟨i, t, hi, rfl, by omega, by rw [t1]; rfl, rfl⟩
  refine ⟨_, dok, can, h.ch.snoc dok can, by rw [onRows_names]; exact h.nm, fun u hu => ?_, fun m hm2 a => cnt_old ok.nd can m (by rw [h.ch.len _ (Nat.le_refl _)]; exact hm2) a⟩
  obtain ⟨t0, h0, _, e2, e3, (⟨_, e⟩ | ⟨_, e⟩)⟩ := onRows_mem (x := xs ds.length) (n := t.name) (g := fun rs => rs ++ [⟨[0, ((tu : Nat) : Int)], (xs ds.length).deeds.length, none⟩]) hu
  · obtain ⟨a1, a2, a3⟩ := h.tb t0 h0
    rw [e2, e3, e]
    exact ⟨a1, by omega, a3⟩
  · obtain ⟨a1, a2, a3⟩ := h.tb t0 h0
    rw [e2, e3, e, List.length_append, List.length_singleton]
    exact ⟨a1, by omega, a3⟩
end
end K37
end

section
set_option Elab.async false
set_option linter.all false
set_option maxRecDepth 100000
set_option maxHeartbeats 4000000
/-! the law's def: its steps. -/
namespace K37
open PySem PySem.Spec PyProof.Rows L2 Gd K37t
theorem or_mo {K : PySem.W.Frag} {H : Hp} {σ : L2.St} {mo : Option Nat} {n : Nat} {Q : VK} {t : TE} (h3 : ∀ k, mo = some k → 3 ≤ k) (ht : ∀ Q' : VK, Q' (.int ((n : Nat) : Int)) H → t σ H Q') (q : Q (.int ((mo.getD n : Nat) : Int)) H) : ∃ k, TruV K (momV mo) H k ∧ if k = true then Q (momV mo) H else t σ H Q := by
  cases mo with
  | none => exact ⟨false, rfl, ht _ q⟩
  | some k =>
    have := h3 k rfl
    refine ⟨true, ?_, q⟩
    show true = (((k : Nat) : Int) != 0)
    have z : ((k : Nat) : Int) ≠ 0 := by omega
    exact (bne_iff_ne.mpr z).symm
theorem mo_pick {n : Nat} {r r2 : Int} (n3 : 3 ≤ n) (r0 : 0 ≤ r) (r1 : r < (n : Int) - 2) (s0 : 0 ≤ r2) (s1 : r2 < 3) : ∃ mo : Option Nat, atI [V.non, V.int (n : Nat), V.int (3 + r)] r2 = some (momV mo) ∧ 3 ≤ mo.getD n ∧ mo.getD n ≤ n ∧ ∀ k, mo = some k → 3 ≤ k := by
  have z : r2 = 0 ∨ r2 = 1 ∨ r2 = 2 := by omega
  rcases z with rfl | rfl | rfl
  · exact ⟨none, atI_nat (j := 0) rfl, n3, Nat.le_refl _, fun _ h => nomatch h⟩
  · exact ⟨some n, atI_nat (j := 1) rfl, n3, Nat.le_refl _, fun k h => by cases h; exact n3⟩
  · obtain ⟨k, hk⟩ : ∃ k : Nat, 3 + r = (k : Int) := ⟨(3 + r).toNat, by omega⟩
    rw [hk]
    exact ⟨some k, atI_nat (j := 2) rfl, by show 3 ≤ k; omega, by show k ≤ n; omega, fun k h => by cases h; omega⟩
theorem cut_take (us : List V) (m : Nat) : cutV us none (some ((m : Nat) : Int)) = us.take m := by
  unfold cutV
  rw [HT.sIx_none, HT.sIx_nat, List.drop_zero, Nat.sub_zero]
  rcases Nat.le_total m us.length with h | h
  · rw [Nat.min_eq_left h]
  · rw [Nat.min_eq_right h, List.take_length, List.take_of_length_le h]
theorem ow_len {m : Nat} {b : Bool} (m1 : 1 ≤ m) (m3 : m ≤ 3) : 1 ≤ (plansOW m b).length ∧ (plansOW m b).length ≤ 12 := by
  match m, b, m1, m3 with
  | 1, true, _, _ => decide
  | 1, false, _, _ => decide
  | 2, true, _, _ => decide
  | 2, false, _, _ => decide
  | 3, true, _, _ => decide
  | 3, false, _, _ => decide
theorem take_each {α β : Type} {R : α → β → Prop} : ∀ {as : List α} {bs : List β} (n : Nat), PySem.W.EachIs R as bs → PySem.W.EachIs R (as.take n) (bs.take n)
  | _, _, 0, _ => .nil
  | _, _, _ + 1, .nil => .nil
  | _, _, n + 1, .cons a h => .cons a (take_each n h)
theorem tabs_in {x : Shelf} (nm : x.tabs.map Tab.name = nm3) (tb : ∀ t ∈ x.tabs, t.made < 3) {ss : List Src} (ht : ∀ s ∈ ss, s.table ∈ nm3) {m : Nat} (m3 : 3 ≤ m) : TabsIn x m ss := fun n hn => by
  have hm : tabOf ss n ∈ nm3 := ht _ (getD_mem' hn)
  rw [← nm] at hm
  obtain ⟨t, tm, e⟩ := List.mem_map.mp hm
  obtain ⟨i, hi⟩ := List.mem_iff_getElem?.mp tm
  exact ⟨i, t, hi, e, by have := tb t tm; omega⟩
theorem shelf_at {K : PySem.W.Frag} {C : Addr} {H : Hp} {p : Addr} {x : Shelf} {F : Addr → Prop} (h : ShelfF K C H p x F) {n : Str} (hn : (["_deeds", "_columns", "_made", "_rows"] : List Str).contains n = false) : ∃ dx fs, H p = some (.ins C dx fs) ∧ fs.lookup n = none := by
  obtain ⟨dx, a, b, c, d, ds, ca, rl, S, hF⟩ := h
  exact ⟨dx, _, S.ins, sf_no hn⟩
/-- the state within a turn -/
structure IS (K : PySem.W.Frag) (C : Addr) (H : Hp) (l c p B : Addr) (ds : List Deed) (xs : Nat → Shelf) (F : Addr → Prop) (S : Int) (done : Nat) (A PA : Addr) (ss : List Src) (m : Nat) (us : List V) : Prop where
  ls : LS K C H l c p B ds xs F S done
  ask : Dp K H (.ref A) (askD ss false)
  pls : H PA = some (.lst us)
  each : DpAll K H us ((plansOW m (anyP ss)).map encP)
  nP : PA ≠ l ∧ PA ≠ c ∧ PA ≠ B ∧ ¬ F PA
theorem plans_only (m : Nat) (b : Bool) (h1 : 1 ≤ m) (h3 : m ≤ 3) : tupOnlyAll ((plansOW m b).map encP) = true := by
  have g : ∀ l : List (List Nat × Str), (∀ x ∈ l, x.1.length ≤ 1000) → tupOnlyAll (l.map encP) = true := fun l => by
    induction l with
    | nil => intro _; rfl
    | cons x l ih =>
      intro h
      rw [List.map_cons]
      have a : tupOnly (encP x) = true := pl_only _ _ (h x (by simp))
      have b := ih fun y hy => h y (by simp [hy])
      simp only [tupOnlyAll, a, b, Bool.and_self]
  exact g _ fun x hx => by have := (ow_ok h1 h3 hx).len; omega
section
variable {K : PySem.W.Frag} {C : Addr} {H H' : Hp} {l c p B A PA : Addr} {ds : List Deed} {xs : Nat → Shelf} {F : Addr → Prop} {S S' : Int} {done m : Nat} {ss : List Src} {us : List V}
theorem IS.same (h : IS K C H l c p B ds xs F S done A PA ss m us) (s : Same H H') : IS K C H' l c p B ds xs F S done A PA ss m us :=
  ⟨h.ls.same s, Dp.same s _ h.ask, s _ _ h.pls, DpAll.same s _ h.each, h.nP⟩
theorem IS.draw (h : IS K C H l c p B ds xs F S done A PA ss m us) (dr : Drawn ss m) (xx : Ex1 l H H') (pn : Pen H' l c S') : IS K C H' l c p B ds xs F S' done A PA ss m us := by
  have tp := pen_tups (K := K) h.ls.pen xx
  exact ⟨h.ls.draw xx pn, Dp.tups tp _ (askD_only dr false) h.ask, xx _ _ h.nP.1 h.pls, DpAll.tups tp _ (plans_only m (anyP ss) dr.m1 dr.m3) h.each, h.nP⟩
end
section
variable {P : Program} {w : World} {K : PySem.W.Frag} {mg : Str → Option Value} {base : Heap} {f C fE fT fZ fS fA fP fR fU fB fI : Addr} {fd dE dT dZ dS dA dP dR dU dB dI : FuncData} {gk1 gk2 gk3 : List Value → List Value → List Value}
theorem ok_law (F : Fun K "law" "law" sLaw f fd) (T : TxtT K mg C) (mr : mg "range" = none) (mp : mg "repr" = none) (mn : mg "len" = none) (mmin : mg "min" = none)
    (FE : Fun K "_law_pen" "_law_pen" sPen fE dE) (GE : FnOk P w K mg base CX0 1 fE dE ["_law_script"] (spPen K)) (gE : mg "_law_pen" = some (.ref fE)) (bE : Binds K dE ["_law_script"] [])
    (FT : Fun K "_law_take" "_law_take" sDraw fT dT) (GT : FnOk P w K mg base CX0 1 fT dT ["_law_pen_here", "_law_many"] spDraw) (gT : mg "_law_take" = some (.ref fT)) (bT : Binds K dT ["_law_pen_here", "_law_many"] [])
    (FZ : Fun K "_law_deeds" "_law_deeds" sDs fZ dZ) (GZ : FnOk P w K mg base CX0 3 fZ dZ ["_law_pen_here", "_law_most"] (spDs K)) (gZ : mg "_law_deeds" = some (.ref fZ)) (bZ : Binds K dZ ["_law_pen_here", "_law_most"] [])
    (FS : Fun K "_law_sources" "_law_sources" sSc fS dS) (GS : FnOk P w K mg base CX0 4 fS dS ["_law_pen_here"] (spSc K)) (gS : mg "_law_sources" = some (.ref fS)) (bS : Binds K dS ["_law_pen_here"] [])
    (FA : Fun K "plans_of" "plans_of" sPl fA dA) (GA : FnOk P w K mg base CX0 3 fA dA ["ask"] (spPl K)) (gA : mg "plans_of" = some (.ref fA)) (bA : Binds K dA ["ask"] [])
    (FP : Fun K "_law_pick" "_law_pick" sPk fP dP) (GP : FnOk P w K mg base CX0 2 fP dP ["_law_pen_here", "_law_some"] spPk) (gP : mg "_law_pick" = some (.ref fP)) (bP : Binds K dP ["_law_pen_here", "_law_some"] [])
    (FR : Fun K "_law_rooms" "_law_rooms" sRo fR dR) (GR : FnOk P w K mg base CX0 3 fR dR ["_law_pen_here", "_law_query", "_law_led_by", "_law_deeds_here"] (spRo K)) (gR : mg "_law_rooms" = some (.ref fR)) (bR : Binds K dR ["_law_pen_here", "_law_query", "_law_led_by", "_law_deeds_here"] [])
    (FU : Fun K "_law_due" "_law_due" sDu fU dU) (GU : FnOk P w K mg base CX0 3 fU dU ["_law_query", "_law_led_by", "_law_deeds_here", "_law_room"] (spDu K)) (gU : mg "_law_due" = some (.ref fU)) (bU : Binds K dU ["_law_query", "_law_led_by", "_law_deeds_here", "_law_room"] [])
    (kB : PySem.W.keepIn K (.ref fB) = true) (GB : FnOk P w K mg base CX0 4 fB dB ["tables", "ask", "plan", "moment", "rooms"] (spBe K C)) (gB : mg "begun" = some (.ref fB))
    (b3 : KBn K dB ["tables", "ask", "plan", "moment", "rooms"] 3 ["moment", "rooms"] gk1 fun vs zs => vs ++ zs) (b2 : KBn K dB ["tables", "ask", "plan", "moment", "rooms"] 3 ["moment"] gk2 fun vs zs => vs ++ zs ++ [.int 20])
    (b5 : KBn K dB ["tables", "ask", "plan", "moment", "rooms"] 0 ["rooms", "plan", "moment", "ask", "tables"] gk3 fun vs zs => back5 zs)
    (MK : Mk K C fI) (GI : FnOk P w K mg base CX0 5 fI dI ["self", "deeds"] (spInitL K C)) (gI : mg "Tables" = some (.ref C)) (bI : Binds K dI ["self", "deeds"] [])
    (MM : Mt P w K mg base C "moment" ["self"] CX0 1 (spMom K C)) (MD : Mt P w K mg base C "do" ["self", "deed"] CX0 4 (spDo K C)) :
    FnG P w K mg base CX0 7 f fd ["_law_script"] (spLaw K) := by
  refine okG F scLaw (fun vs H Q E h => ?_) (fun cv A out s H vs Q E gd hr h => ?_)
  · obtain ⟨a, ns, rfl, _⟩ := h
    rfl
  obtain ⟨a, nums, rfl, ha, hn, q⟩ := h
  obtain ⟨fM, dM, mM, GM, bM⟩ := MM.ex
  obtain ⟨fD, dD, mD, GD, bD⟩ := MD.ex
  have nd := scLaw.nd
  have r1 := hr.mono (show 1 ≤ 6 by decide)
  have r2 := hr.mono (show 2 ≤ 6 by decide)
  have r3 := hr.mono (show 3 ≤ 6 by decide)
  have r4 := hr.mono (show 4 ≤ 6 by decide)
  refine ⟨_, pss_cons (ps_set (i := 1) nd rfl (by first | exact .inl rfl | exact .inr rfl) (pe_call GE r1 (by rfl) gE FE.kp bE .nil pass0 (pa_cons (pv 0) pa_nil)))
      (pss_cons (ps_set (i := 2) nd rfl (by first | exact .inl rfl | exact .inr rfl) (pe_call GZ r3 (by rfl) gZ FZ.kp bZ .nil pass0 (pa_cons (pv 1) (pa_cons pe_int pa_nil))))
      (pss_cons (ps_set (i := 3) nd rfl (by first | exact .inl rfl | exact .inr rfl) (pe_make MK GI hr (by rfl) gI bI .nil pass0 (pa_cons (pv 2) pa_nil)))
      (pss_cons (ps_for PassesOwn.never rfl (pi_range1 (by rfl) mr (pa_cons pe_int pa_nil)) (pg_name (i := 4) nd rfl (by first | exact .inl rfl | exact .inr rfl))
      (pss_cons (ps_set (i := 5) nd rfl (by first | exact .inl rfl | exact .inr rfl) (pe_tup (pa_cons (pe_call GS r4 (by rfl) gS FS.kp bS .nil pass0 (pa_cons (pv 1) pa_nil)) (pa_cons (pe_tup pa_nil) (pa_cons (pe_tup (pa_cons pe_str (pa_cons (pe_tup (pa_cons (pe_tup (pa_cons pe_str (pa_cons pe_int pa_nil))) pa_nil)) pa_nil))) (pa_cons (pe_tup pa_nil) (pa_cons pe_non (pa_cons pe_bl pa_nil))))))))
      (pss_cons (ps_set (i := 6) nd rfl (by first | exact .inl rfl | exact .inr rfl) (pe_call GA r3 (by rfl) gA FA.kp bA .nil pass0 (pa_cons (pv 5) pa_nil)))
      (pss_one (ps_for PassesOwn.never rfl (pi_range1 (by rfl) mr (pa_cons (pe_callB (call_min2 rfl) (by rfl) mmin (by decide +kernel) (pa_cons pe_int (pa_cons (pe_callB call_len_seq (by rfl) mn PySem.boot_len (pa_cons (pv 6) pa_nil)) pa_nil))) pa_nil)) (pg_name (i := 7) nd rfl (by first | exact .inl rfl | exact .inr rfl))
      (pss_cons (ps_set (i := 8) nd rfl (by first | exact .inl rfl | exact .inr rfl) (pe_call GP r2 (by rfl) gP FP.kp bP .nil pass0 (pa_cons (pv 1) (pa_cons (pv 6) pa_nil))))
      (pss_cons (ps_set (i := 9) nd rfl (by first | exact .inl rfl | exact .inr rfl) (pe_ix ix_list (pe_lst (pa_cons pe_non (pa_cons (pe_callB call_len_seq (by rfl) mn PySem.boot_len (pa_cons (pv 2) pa_nil)) (pa_cons (pe_op op_add pe_int (pe_call GT r1 (by rfl) gT FT.kp bT .nil pass0 (pa_cons (pv 1) (pa_cons (pe_op op_sub (pe_callB call_len_seq (by rfl) mn PySem.boot_len (pa_cons (pv 2) pa_nil)) pe_int) pa_nil)))) pa_nil)))) (pe_call GT r1 (by rfl) gT FT.kp bT .nil pass0 (pa_cons (pv 1) (pa_cons pe_int pa_nil))) (fun _ _ => rfl)))
      (C8.pss_cut (ps_set (i := 10) nd rfl (by first | exact .inl rfl | exact .inr rfl) (pe_ifExp (pt_cmp (pc_isN (pv 9))) (pv 2) (pe_slice sl_list (pv 2) po_none (po_some (pv 9)))))
      (pss_cons (ps_set (i := 11) nd rfl (by first | exact .inl rfl | exact .inr rfl) (pe_call GR r3 (by rfl) gR FR.kp bR .nil pass0 (pa_cons (pv 1) (pa_cons (pv 5) (pa_cons (pv 8) (pa_cons (pv 10) pa_nil))))))
      (pss_cons (ps_set (i := 12) nd rfl (by first | exact .inl rfl | exact .inr rfl) (pe_callB (call_repr gd hr.units) (by rfl) mp (by decide +kernel) (pa_cons (pe_call GU r3 (by rfl) gU FU.kp bU .nil pass0 (pa_cons (pv 5) (pa_cons (pv 8) (pa_cons (pv 10) (pa_cons (pv 11) pa_nil))))) pa_nil)))
      (pss_cons (ps_if (pt_cmpR op_ne (pe_callB (call_repr gd hr.units) (by rfl) mp (by decide +kernel) (pa_cons (pe_callN GB r4 (by rfl) gB kB b3 pass0 (pa_cons (pv 3) (pa_cons (pv 5) (pa_cons (pv 8) pa_nil))) (pk_cons (pv 9) (pk_cons (pv 11) pk_nil))) pa_nil)) (pv 12) (nomark _)) pss_never pss_nil)
      (pss_cons (ps_if (pt_cmpR op_ne (pe_callB (call_repr gd hr.units) (by rfl) mp (by decide +kernel) (pa_cons (pe_callN GB r4 (by rfl) gB kB b2 pass0 (pa_cons (pv 3) (pa_cons (pv 5) (pa_cons (pv 8) pa_nil))) (pk_cons (pv 9) pk_nil)) pa_nil)) (pe_callB (call_repr gd hr.units) (by rfl) mp (by decide +kernel) (pa_cons (pe_call GU r3 (by rfl) gU FU.kp bU .nil pass0 (pa_cons (pv 5) (pa_cons (pv 8) (pa_cons (pv 10) (pa_cons pe_int pa_nil))))) pa_nil)) (nomark _)) pss_never pss_nil)
      (pss_cons (ps_set (i := 13) nd rfl (by first | exact .inl rfl | exact .inr rfl) (pe_tup (pa_cons pe_str (pa_cons (pe_call GP r2 (by rfl) gP FP.kp bP .nil pass0 (pa_cons (pv 1) (pa_cons (pe_lst (pa_cons pe_str (pa_cons pe_str (pa_cons pe_str pa_nil)))) pa_nil))) (pa_cons (pe_tup (pa_cons pe_int (pa_cons (pv 4) pa_nil))) pa_nil)))))
      (pss_cons (ps_set (i := 14) nd rfl (by first | exact .inl rfl | exact .inr rfl) (pe_meth0 (pv 3) T.cl mM GM r1 bM .nil pass0))
      (pss_cons (ps_expr (pe_meth (pv 3) T.cl mD GD r4 bD .nil pass0 (pa_cons (pv 13) pa_nil)))
      (pss_cons (ps_if (pt_cmpR op_ne (pe_callB (call_repr gd hr.units) (by rfl) mp (by decide +kernel) (pa_cons (pe_kwN GB r4 (by rfl) gB kB b5 pass0 (pk_cons (pv 11) (pk_cons (pv 8) (pk_cons (pe_orT (pv 9) (pe_one (pv 14))) (pk_cons (pv 5) (pk_cons (pv 3) pk_nil)))))) pa_nil)) (pv 12) (nomark _)) pss_never pss_nil)
      (pss_one (ps_expr (pe_bm PySem.F.plainAttrs_list PySem.F.slot_list_append PySem.F.type_list_append mt_append (pv 2) (pa_cons (pv 13) pa_nil))))))))))))))))))))
      (pss_one (ps_ret pe_bl))))), ?_⟩
  refine ⟨_, rfl, a, nums, rfl, ha, hn, fun l c H1 s1 nl nc p1 => ?_⟩
  refine ⟨_, rfl, l, c, 0, rfl, p1, by decide, fun B us ds xs H2 nB eB ru ch nms tb l3 l40 p2 x2 => ?_⟩
  have nBl : B ≠ l ∧ B ≠ c := p1.not nB
  refine ⟨_, rfl, fun p dx np ndx npx => ?_⟩
  have pB : B ≠ p := ne_of_none eB np
  have dB' : B ≠ dx := ne_of_none eB ndx
  have np2 : upd H2 dx (.own p) p = none := by rw [upd_ne (fun z => npx z.symm)]; exact np
  have j2 : Same H2 (upd (upd H2 dx (.own p)) p (.ins C dx [])) := (new_same ndx).trans (new_same np2)
  refine ⟨p, B, dx, us, ds, xs, rfl, upd_same, j2 _ _ eB, deeds_same j2 ru, ch, by omega, fun H4 F0 shf off new => ⟨rfl, ?_⟩⟩
  have s24 : Same H2 H4 := fun b o e => off b o (ne_of_none e np) (j2 _ _ e)
  have old : ∀ {b : Addr} {o : HO}, H2 b = some o → ¬ F0 b := fun {b o} e hb => by
    have nb : b ≠ p := ne_of_none e np
    rcases new b hb with z | z
    · exact nb z
    · rw [j2 _ _ e] at z
      cases z
  have ls0 : LS K C H4 l c p B ds xs F0 400 0 := by
    obtain ⟨ns, t, ov, el, ec, z1, z2, z3⟩ := id p2
    exact ⟨⟨ns, t, ov, s24 _ _ el, s24 _ _ ec, z1, z2, by omega⟩, ⟨us, s24 _ _ eB, deeds_same s24 ru⟩, ch, nms, fun t ht => tb t ht, l3, by omega, shf, nBl, ⟨old el, old ec, old eB⟩⟩
  clear off old new s24 j2 np2 pB dB' tb nms ch ru eB p2 x2 shf l3 l40
  refine ⟨4, rfl, by decide, by decide, ?_⟩
  refine for_it walk_range (fun i σ H => ∃ (ds : List Deed) (xs : Nat → Shelf) (F : Addr → Prop) (y4 y5 y6 y7 y8 y9 y10 y11 y12 y13 y14 : Option V), LS K C H l c p B ds xs F (500 + 200 * ((i : Nat) : Int)) (6 * i) ∧ σ = [some (.ref a), some (.ref l), some (.ref B), some (.ref p), y4, y5, y6, y7, y8, y9, y10, y11, y12, y13, y14])
    ⟨ds, xs, F0, none, none, none, none, none, none, none, none, none, none, none, ls0.le (by omega) (by omega), rfl⟩ (fun _ _ _ _ _ => trivial) ?_ ?_
  · clear ls0
    rintro i x σ G1 G2 hi ⟨ds, xs, F, y4, y5, y6, y7, y8, y9, y10, y11, y12, y13, y14, ls, rfl⟩ ⟨rfl, rfl⟩
    have hi4 : i < 4 := hi
    show gName 4 (.int (0 + ((i : Nat) : Int))) _ _ _
    rw [Int.zero_add]
    refine ⟨_, rfl, l, c, _, rfl, ls.pen, by omega, fun T us ss m H4 hT hus dr p4 x4 => ?_⟩
    have ls4 := ls.draw x4 p4
    have only := srcs_only ss (fun s hs => Nat.le_trans (dr.small s hs).1 (by decide))
    -- the ask
    refine ⟨Nat.zero_le _, fun t1 nt1 => ?_⟩
    have j1 := new_same (o := .tup []) nt1
    have d1 : Dp K (upd H4 t1 (.tup [])) (.ref t1) (.tuple []) := .tup (SqT.of upd_same) .nil
    generalize upd H4 t1 (.tup []) = H5 at j1 d1 ⊢
    refine ⟨(by show 2 ≤ sizeLine; decide), fun t2 nt2 => ?_⟩
    have j2 := new_same (o := .tup [.str "number", .int 1]) nt2
    have d2 : Dp K (upd H5 t2 (.tup [.str "number", .int 1])) (.ref t2) (.tuple [.str "number", .int 1]) := .tup (SqT.of upd_same) (.cons (.str _) (.cons (.int _) .nil))
    generalize upd H5 t2 (.tup [.str "number", .int 1]) = H6 at j2 d2 ⊢
    refine ⟨(by show 1 ≤ sizeLine; decide), fun t3 nt3 => ?_⟩
    have j3 := new_same (o := .tup [.ref t2]) nt3
    have d3 : Dp K (upd H6 t3 (.tup [.ref t2])) (.ref t3) (.tuple [.tuple [.str "number", .int 1]]) := .tup (SqT.of upd_same) (.cons (Dp.tups (Tups.of_same j3) _ rfl d2) .nil)
    generalize upd H6 t3 (.tup [.ref t2]) = H7 at j3 d3 ⊢
    refine ⟨(by show 2 ≤ sizeLine; decide), fun t4 nt4 => ?_⟩
    have j4 := new_same (o := .tup [.str "rows", .ref t3]) nt4
    have d4 : Dp K (upd H7 t4 (.tup [.str "rows", .ref t3])) (.ref t4) (.tuple [.str "rows", .tuple [.tuple [.str "number", .int 1]]]) := .tup (SqT.of upd_same) (.cons (.str _) (.cons (Dp.tups (Tups.of_same j4) _ rfl d3) .nil))
    generalize upd H7 t4 (.tup [.str "rows", .ref t3]) = H8 at j4 d4 ⊢
    refine ⟨Nat.zero_le _, fun t5 nt5 => ?_⟩
    have j5 := new_same (o := .tup []) nt5
    have d5 : Dp K (upd H8 t5 (.tup [])) (.ref t5) (.tuple []) := .tup (SqT.of upd_same) .nil
    generalize upd H8 t5 (.tup []) = H9 at j5 d5 ⊢
    refine ⟨(by show 6 ≤ sizeLine; decide), fun A nA => ?_⟩
    have j6 := new_same (o := .tup [.ref T, .ref t1, .ref t4, .ref t5, .non, .bl false]) nA
    have s410 := ((((j1.trans j2).trans j3).trans j4).trans j5).trans j6
    have dA : Dp K (upd H9 A (.tup [.ref T, .ref t1, .ref t4, .ref t5, .non, .bl false])) (.ref A) (askD ss false) :=
      .tup (SqT.of upd_same) (.cons (.tup (same_tup s410 hT) (DpAll.same s410 _ hus)) (.cons (Dp.same ((((j2.trans j3).trans j4).trans j5).trans j6) _ d1) (.cons (Dp.same (j5.trans j6) _ d4) (.cons (Dp.same j6 _ d5) (.cons .non (.cons (.bl _) .nil))))))
    have ls10 := ls4.same s410
    generalize upd H9 A (.tup [.ref T, .ref t1, .ref t4, .ref t5, .non, .bl false]) = H10 at dA ls10 ⊢
    clear j1 j2 j3 j4 j5 j6 s410 d1 d2 d3 d4 d5 hT hus only x4 p4 ls4 ls
    have small : Small ss := ⟨Nat.le_trans dr.five (by decide), fun s hs => Nat.le_trans (dr.small s hs).1 (by decide)⟩
    have m1 := dr.m1
    have m3 := dr.m3
    -- the plans
    refine ⟨_, rfl, A, ss, m, rfl, ask_of dA, small, dr.well, dr.withs, m1, m3, fun us PA H12 s12 nP eP hP => ?_⟩
    rw [plans_ow] at hP
    obtain ⟨ns0, tt0, ov0, el0, ec0, _⟩ := id ls10.pen
    obtain ⟨us0, eB0, _⟩ := id ls10.us
    obtain ⟨dx0, a0, b0, c0, d0, ds0, ca0, rl0, S0, hF0⟩ := id ls10.shf
    have nFP : ¬ F PA := fun hq => by
      rcases ls10.shf.kind hq with ⟨dx, fs, e⟩ | ⟨xs, e⟩ | ⟨kvs, e⟩ <;> rw [nP] at e <;> cases e
    have is12 : IS K C H12 l c p B ds xs F (500 + 200 * ((i : Nat) : Int) + 60) (6 * i) A PA ss m us :=
      ⟨ls10.same s12, Dp.same s12 _ dA, eP, hP, ⟨(ls10.pen.not nP).1, (ls10.pen.not nP).2, (ne_of_none eB0 nP).symm, nFP⟩⟩
    clear s12 nP eP hP ls10 dA el0 ec0 eB0 S0 hF0 nFP
    have l12 : us.length ≤ 1000 := by
      rw [DpAll.len is12.each, List.length_map]
      exact Nat.le_trans (ow_len m1 m3).2 (by decide)
    have l0 : 0 < us.length := by
      rw [DpAll.len is12.each, List.length_map]
      exact (ow_len m1 m3).1
    refine ⟨_, rfl, PA, _, rfl, .inl (SqL.of is12.pls), 6, _, rfl, ?_⟩
    obtain ⟨kk, hkk, k6⟩ : ∃ kk : Nat, (if ((us.length : Nat) : Int) < 6 then ((us.length : Nat) : Int) else 6) = ((kk : Nat) : Int) ∧ kk ≤ 6 := by
      by_cases z : us.length < 6
      · exact ⟨us.length, by rw [if_pos (by omega)], by omega⟩
      · exact ⟨6, by rw [if_neg (by omega)]; rfl, by omega⟩
    rw [hkk]
    refine ⟨_, rfl, by omega, by omega, ?_⟩
    refine for_it walk_range (fun j σ H => ∃ (ds : List Deed) (xs : Nat → Shelf) (F : Addr → Prop) (y7 y8 y9 y10 y11 y12 y13 y14 : Option V), IS K C H l c p B ds xs F (500 + 200 * ((i : Nat) : Int) + 60 + 10 * ((j : Nat) : Int)) (6 * i + j) A PA ss m us ∧ σ = [some (.ref a), some (.ref l), some (.ref B), some (.ref p), some (.int ((i : Nat) : Int)), some (.ref A), some (.ref PA), y7, y8, y9, y10, y11, y12, y13, y14])
      ⟨ds, xs, F, _, _, _, _, _, _, _, _, ⟨is12.ls.le (by omega) (by omega), is12.ask, is12.pls, is12.each, is12.nP⟩, rfl⟩ (fun _ _ _ _ _ => trivial) ?_ ?_
    · clear is12
      rintro j x σ G1 G2 hj ⟨ds, xs, F, y7, y8, y9, y10, y11, y12, y13, y14, st, rfl⟩ ⟨rfl, rfl⟩
      have hj6 : j < 6 := Nat.lt_of_lt_of_le hj (by simpa using k6)
      have hd40 : 6 * i + j ≤ 40 := by omega
      show gName 7 (.int (0 + ((j : Nat) : Int))) _ _ _
      -- the plan
      refine ⟨_, rfl, _, rfl, l, c, .ref PA, _, rfl, st.ls.pen, by omega, .inl ⟨PA, us, rfl, st.pls, st.nP.1, l0, l12, fun iq yv H1 hy p1 x1 => ?_⟩⟩
      have st1 := st.draw dr x1 p1
      obtain ⟨dq, edq, dpq⟩ := DpAll.at_ st1.each hy
      rw [List.getElem?_map, Option.map_eq_some_iff] at edq
      obtain ⟨⟨o, wy⟩, eow, rfl⟩ := edq
      have okk := ow_ok m1 m3 (List.mem_of_getElem? eow)
      have keepPl : ∀ {G : Hp}, Dp K G yv (encP (o, wy)) → ∃ PL, yv = .ref PL ∧ PlAt K G PL o wy := fun h => pl_at h
      obtain ⟨PL, rfl, _⟩ := keepPl dpq
      have plD : ∀ {G : Hp}, Dp K G (.ref PL) (encP (o, wy)) → PlAt K G PL o wy := fun h => by
        obtain ⟨q, e, r⟩ := keepPl h
        cases e
        exact r
      have onlyP : tupOnly (encP (o, wy)) = true := pl_only _ _ (by have := okk.len; show o.length ≤ 1000; have : o.length = m := okk.len; omega)
      have olen : o.length = m := okk.len
      have lo : o.length ≤ ss.length := by rw [olen]; exact dr.well.le
      have o1 : 1 ≤ o.length := by rw [olen]; exact m1
      have oj : ∀ j ∈ o, j < o.length := okk.lt
      have on : o.Nodup := okk.nod
      have kl : keepsL ss o wy = lkL ss o wy := keeps_lk (by rw [olen]; exact dr.well) on oj
      clear keepPl x1 p1 st
      -- the moment
      obtain ⟨usd, eBd, rud⟩ := id st1.ls.us
      have lud : usd.length = ds.length := rud.length
      have n3 := st1.ls.l3
      have n40 := st1.ls.l40
      have plA : ∀ {G : Hp}, DpAll K G us ((plansOW m (anyP ss)).map encP) → PlAt K G PL o wy := fun h => by
        obtain ⟨dq', e', d'⟩ := DpAll.at_ h hy
        rw [List.getElem?_map, eow] at e'
        cases e'
        exact plD d'
      clear plD onlyP dpq
      refine ⟨_, rfl, B, _, rfl, .inl (SqL.of eBd), _, rfl, _, rfl, B, _, rfl, .inl (SqL.of eBd), _, _, rfl, rfl, l, c, _, _, rfl, st1.ls.pen, by omega, by omega, by omega, fun r H3 r0 r1' p3 x3 => ?_⟩
      have st3 := st1.draw dr x3 p3
      have eB3 := x3 _ _ nBl.1 eBd
      refine ⟨_, _, rfl, rfl, by show 3 ≤ sizeLine; decide, fun b nb => ?_⟩
      have jb := new_same (o := .lst [.non, .int (usd.length : Nat), .int (3 + r)]) nb
      have nbl := (st3.ls.pen.not nb).1
      refine ⟨_, rfl, l, c, 3, _, rfl, (st3.same jb).ls.pen, by decide, by decide, by omega, fun r2 H5 s0 s1 p5 x5 => ?_⟩
      obtain ⟨mo, emo, m3', mle, mk⟩ := mo_pick (n := usd.length) (by omega) r0 r1' s0 s1
      refine ⟨b, _, _, momV mo, rfl, rfl, SqL.of (x5 _ _ nbl upd_same), emo, ?_⟩
      have st5 := (st3.same jb).draw dr x5 p5
      have eB5 := x5 _ _ nBl.1 (jb _ _ eB3)
      rw [lud] at m3' mle
      obtain ⟨m0, hm0⟩ : ∃ m0, m0 = mo.getD ds.length := ⟨_, rfl⟩
      rw [← hm0] at m3' mle
      clear st1 st3 eBd eB3 jb nb nbl emo p3 x3 p5 x5 rud
      -- the deeds ahead
      refine ⟨fun σ' H' => ∃ L : Addr, σ' = [some (.ref a), some (.ref l), some (.ref B), some (.ref p), some (.int ((i : Nat) : Int)), some (.ref A), some (.ref PA), some (.int (0 + ((j : Nat) : Int))), some (.ref PL), some (momV mo), some (.ref L), y11, y12, y13, y14] ∧ Same H5 H' ∧ H' L = some (.lst (usd.take m0)) ∧ L ≠ l, ?_, ?_⟩
      · refine ⟨_, rfl, _, rfl, ?_⟩
        cases mo with
        | none => exact iteT' rfl ⟨_, rfl, B, rfl, fun _ _ e => e, by rw [eB5, hm0]; show some (HO.lst usd) = some (HO.lst (usd.take ds.length)); rw [← lud, List.take_length], nBl.1⟩
        | some k =>
          refine iteF' (by show ¬ (decide (V.int ((k : Nat) : Int) = V.non)) = true; simp) ?_
          refine ⟨_, rfl, _, rfl, _, rfl, B, usd, rfl, SqL.of eB5, fun q nq => ⟨q, rfl, new_same nq, ?_, (st5.ls.pen.not nq).1⟩⟩
          rw [upd_same, hm0, cut_take]
          rfl
      rintro σ' H6 ⟨L, rfl, s6, eL, nLl⟩
      have st6 := st5.same s6
      have hd100 : 6 * i + j ≤ 100 := by omega
      obtain ⟨sz, hsz⟩ : ∃ sz : Nat → Nat, sz = fun n => cntAt (xs ds.length) m0 (tabOf ss n) := ⟨_, rfl⟩
      have sz4 : ∀ n, sz n ≤ 4000 := fun n => by rw [hsz]; exact st6.ls.cnt hd100 _ _
      have szI : ∀ n, n < ss.length → sizeI (ds.take m0) (tabOf ss n) = (sz n : Int) := fun n _ => by rw [hsz]; exact st6.ls.size hd100 mle _
      have shn := fun room => be_shown sz room (lkL ss o wy) sz4 (lkL_len (w := wy) small.1 lo) fun n hn => Nat.lt_of_lt_of_le (lkL_in lo oj n hn) small.1
      have tk4 : (ds.take m0).length ≤ 4000 := by rw [List.length_take]; omega
      have xlen := st6.ls.ch.len _ (Nat.le_refl _)
      have emo : (xs ds.length).mo mo = m0 := by unfold Shelf.mo; rw [xlen, hm0]
      have tkAt : ∀ {G : Hp}, Same H5 G → DeedsAt K G (usd.take m0) (ds.take m0) := fun s => by
        obtain ⟨us', e', r'⟩ := (st5.same s).ls.us
        rw [s _ _ eB5] at e'
        cases e'
        exact take_each m0 r'
      clear st5
      obtain ⟨kx, hkx⟩ : ∃ kx : Nat → Str, kx = fun room => (beD (goB sz room (lkL ss o wy))).shown := ⟨_, rfl⟩
      have kxe : ∀ room, (beD (goB sz room (lkL ss o wy))).shown = kx room := fun room => by rw [hkx]
      -- rooms
      refine ⟨_, rfl, _, rfl, _, rfl, _, rfl, l, c, A, PL, L, _, ss, o, wy, usd.take m0, ds.take m0, sz, rfl, st6.ls.pen, by omega, ask_of st6.ask, small, plA st6.each, o1, lo, oj, eL, tkAt s6, tk4, szI, sz4, fun rm H7 hrm p7 x7 => ?_⟩
      have st7 := st6.draw dr x7 p7
      have eL7 := x7 _ _ nLl eL
      have tk7 : DeedsAt K H7 (usd.take m0) (ds.take m0) := (tkAt s6).mono fun v d ⟨q, e1, e2⟩ => ⟨q, e1, e2.tups (pen_tups st6.ls.pen x7)⟩
      have eB7 := x7 _ _ nBl.1 (s6 _ _ eB5)
      clear st6 tkAt eL s6
      -- what is due
      refine ⟨_, rfl, _, rfl, _, rfl, _, rfl, A, PL, L, ss, o, wy, usd.take m0, ds.take m0, rm, sz, rfl, ask_of st7.ask, small, plA st7.each, o1, lo, oj, eL7, tk7, tk4, szI, fun r' t' H8 s8 hr' ht' => ?_⟩
      refine ⟨_, _, rfl, be_dp hr' ht', (shn rm).1, (shn rm).2.1, (shn rm).2.2, ?_⟩
      rw [kxe]
      have st8 := st7.same s8
      have hmo : (xs ds.length).mo mo ≤ (xs ds.length).deeds.length := by rw [emo, xlen]; exact mle
      have tin : TabsIn (xs ds.length) ((xs ds.length).mo mo) ss := by rw [emo]; exact tabs_in st7.ls.nm (fun t ht => (st7.ls.tb t ht).2.2) dr.tabs m3'
      have xok := st7.ls.ok hd100
      have okN : ∀ x : Str, ¬ ((!decide (V.str x = V.str x)) = true) := fun x => by simp
      -- at the moment, with rooms
      refine ⟨_, rfl, _, rfl, _, rfl, _, rfl, _, rfl, rfl, rfl, p, A, PL, xs ds.length, F, ss, o, wy, mo, rm, rfl, st8.ls.shf, xok, hmo, ask_of st8.ask, small, plA st8.each, lo, on, oj, tin, fun r' t' H9 s9 hr' ht' => ?_⟩
      rw [emo, kl, ← hsz] at hr' ht'
      refine ⟨_, _, rfl, be_dp hr' ht', (shn rm).1, (shn rm).2.1, (shn rm).2.2, ?_⟩
      rw [kxe]
      refine ⟨_, rfl, rfl, _, rfl, iteF' (okN _) ?_⟩
      have st9 := st8.same s9
      -- with twenty rooms
      refine ⟨_, rfl, _, rfl, _, rfl, _, rfl, rfl, rfl, p, A, PL, xs ds.length, F, ss, o, wy, mo, 20, rfl, st9.ls.shf, xok, hmo, ask_of st9.ask, small, plA st9.each, lo, on, oj, tin, fun r' t' H10 s10 hr' ht' => ?_⟩
      rw [emo, kl, ← hsz] at hr' ht'
      refine ⟨_, _, rfl, be_dp hr' ht', (shn 20).1, (shn 20).2.1, (shn 20).2.2, ?_⟩
      rw [kxe]
      generalize hk20 : kx 20 = k20
      have st10 := st9.same s10
      have s7 := (s8.trans s9).trans s10
      refine ⟨_, rfl, _, rfl, _, rfl, A, PL, L, ss, o, wy, usd.take m0, ds.take m0, 20, sz, rfl, ask_of st10.ask, small, plA st10.each, o1, lo, oj, s7 _ _ eL7, deeds_same s7 tk7, tk4, szI, fun r' t' H11 s11 hr' ht' => ?_⟩
      refine ⟨_, _, rfl, be_dp hr' ht', (shn 20).1, (shn 20).2.1, (shn 20).2.2, ?_⟩
      rw [kxe, hk20]
      refine ⟨rfl, _, rfl, iteF' (okN _) ?_⟩
      have st11 := st10.same s11
      have eB11 := s11 _ _ (s7 _ _ eB7)
      clear st7 st8 st9 st10 s7 s8 s9 s10 s11 eL7 tk7 eB7 hr' ht'
      -- one row more
      refine ⟨_, rfl, by show 3 ≤ sizeLine; decide, fun b2 nb2 => ?_⟩
      have jb := new_same (o := .lst [.str "ta", .str "tb", .str "tc"]) nb2
      refine ⟨l, c, .ref b2, _, rfl, (st11.same jb).ls.pen, by omega, .inl ⟨b2, _, rfl, upd_same, (st11.ls.pen.not nb2).1, by decide, by decide, fun iy zv H12 hzv p12 x12 => ?_⟩⟩
      have st12 := (st11.same jb).draw dr x12 p12
      have eB12 := x12 _ _ nBl.1 (jb _ _ eB11)
      obtain ⟨n, hn3, rfl⟩ : ∃ n : Str, n ∈ nm3 ∧ zv = .str n := by
        have z := List.mem_of_getElem? hzv
        simp only [List.mem_cons, List.not_mem_nil, or_false] at z
        rcases z with rfl | rfl | rfl
        · exact ⟨_, by simp, rfl⟩
        · exact ⟨_, by simp, rfl⟩
        · exact ⟨_, by simp, rfl⟩
      clear st11 eB11 jb hzv p12 x12
      refine ⟨_, rfl, by show 2 ≤ sizeLine; decide, fun tq ntq => ⟨by show 3 ≤ sizeLine; decide, fun da nda => ?_⟩⟩
      have jt := new_same (o := .tup [.int 0, .int ((i : Nat) : Int)]) ntq
      have et : SqT K (upd H12 tq (.tup [.int 0, .int ((i : Nat) : Int)])) tq ([0, ((i : Nat) : Int)].map V.int) := SqT.of upd_same
      generalize upd H12 tq (.tup [.int 0, .int ((i : Nat) : Int)]) = H13 at jt et nda ⊢
      have jd := new_same (o := .tup [.str "row", .str n, .ref tq]) nda
      have dat : DeedAt K (upd H13 da (.tup [.str "row", .str n, .ref tq])) da (.row n [0, ((i : Nat) : Int)]) := ⟨.ref tq, SqT.of upd_same, tq, rfl, same_tup jd et⟩
      have st14 := (st12.same jt).same jd
      have eB14 := jd _ _ (jt _ _ eB12)
      generalize upd H13 da (.tup [.str "row", .str n, .ref tq]) = H14 at st14 eB14 dat ⊢
      clear st12 eB12 jt jd et
      -- the moment now
      obtain ⟨dx1, fs1, ip1, lk1⟩ := shelf_at st14.ls.shf (n := "moment") (by decide)
      refine ⟨_, rfl, p, dx1, fs1, rfl, ip1, lk1, p, xs ds.length, F, rfl, st14.ls.shf, xok.deeds, ?_⟩
      rw [xlen]
      -- done
      obtain ⟨y, dok, can, ch2, nm2, tb2, old2⟩ := st14.ls.more hd40 hn3 i (by omega)
      obtain ⟨dx2, fs2, ip2, lk2⟩ := shelf_at st14.ls.shf (n := "do") (by decide)
      refine ⟨_, rfl, p, dx2, fs2, rfl, ip2, lk2, _, rfl, p, da, xs ds.length, y, F, .row n [0, ((i : Nat) : Int)], rfl, st14.ls.shf, xok, by rw [xlen]; omega, dat, dok, can, fun H15 F2 v15 shf2 af => ?_⟩
      have xok2 := xok.next dok can (by rw [xlen]; omega)
      obtain ⟨d0, hd0⟩ : ∃ d0 : Deed, d0 = .row n [0, ((i : Nat) : Int)] := ⟨_, rfl⟩
      rw [← hd0] at dok can ch2 xok2 shf2 dat
      have tp := af.tups st14.ls.shf
      have eX : (fun k => if k ≤ ds.length then xs k else ({ y with deeds := (xs ds.length).deeds ++ [d0] } : Shelf)) (ds ++ [d0]).length = { y with deeds := (xs ds.length).deeds ++ [d0] } := by
        show (if (ds ++ [d0]).length ≤ ds.length then _ else _) = _
        rw [List.length_append, List.length_singleton, if_neg (by omega)]
      obtain ⟨x2, hx2⟩ : ∃ x2 : Shelf, x2 = { y with deeds := (xs ds.length).deeds ++ [d0] } := ⟨_, rfl⟩
      have nm2' : x2.tabs.map Tab.name = nm3 := by rw [hx2]; exact nm2
      have tb2' : ∀ t ∈ x2.tabs, t.cols = (["a", "b"] : List Str) ∧ t.rows.length ≤ 9 + (6 * i + j + 1) ∧ t.made < 3 := by rw [hx2]; exact tb2
      have old2' : ∀ m, m ≤ ds.length → ∀ a, cntL x2.tabs m a = cntL (xs ds.length).tabs m a := by rw [hx2]; exact old2
      have xl2 : x2.deeds.length = ds.length + 1 := by rw [hx2]; show ((xs ds.length).deeds ++ [d0]).length = _; rw [List.length_append, xlen]; rfl
      rw [← hx2] at eX xok2 shf2 ch2
      obtain ⟨xs2, hxs2⟩ : ∃ xs2 : Nat → Shelf, xs2 = fun k => if k ≤ ds.length then xs k else x2 := ⟨_, rfl⟩
      rw [← hxs2] at eX ch2
      have ask15 := Dp.tups tp _ (askD_only dr false) st14.ask
      have each15 := DpAll.tups tp _ (plans_only m (anyP ss) m1 m3) st14.each
      have pls15 := af.off _ _ st14.nP.2.2.2 st14.pls
      have eB15 := af.off _ _ st14.ls.nF.2.2 eB14
      have dat15 := dat.tups tp
      obtain ⟨ns, tt, ov, el, ec, z1, z2, z3⟩ := id st14.ls.pen
      have el15 := af.off _ _ st14.ls.nF.1 el
      have ec15 := af.off _ _ st14.ls.nF.2.1 ec
      have nF2 : ∀ {q : Addr} {o : HO}, ¬ F q → H14 q = some o → ¬ F2 q := fun n e h => by
        rcases af.new _ h with z | z
        · exact n z
        · rw [e] at z
          cases z
      obtain ⟨us2, eus2, rus2⟩ := id st14.ls.us
      rw [eB14] at eus2
      cases eus2
      have rus15 : DeedsAt K H15 usd ds := rus2.mono fun v d ⟨q, e1, e2⟩ => ⟨q, e1, e2.tups tp⟩
      have nFl := nF2 st14.ls.nF.1 el
      have nFc := nF2 st14.ls.nF.2.1 ec
      have nFB := nF2 st14.ls.nF.2.2 eB14
      have nFP := nF2 st14.nP.2.2.2 st14.pls
      have nPs := st14.nP
      clear af st14 tp dat el ec eB14 ip1 ip2 nF2
      -- told again
      have hmo2 : x2.mo (some m0) ≤ x2.deeds.length := by rw [xl2]; show m0 ≤ _; omega
      have tin2 : TabsIn x2 (x2.mo (some m0)) ss := tabs_in nm2' (fun t ht => (tb2' t ht).2.2) dr.tabs m3'
      have sz2 : (fun n => cntAt x2 (x2.mo (some m0)) (tabOf ss n)) = sz := by
        rw [hsz]
        funext n
        rw [cntAt_eq, cntAt_eq]
        exact old2' m0 mle _
      refine ⟨_, rfl, _, rfl, _, rfl, or_mo mk (fun Q' q' => ⟨_, rfl, q'⟩) ⟨_, rfl, _, rfl, rfl, p, A, PL, x2, F2, ss, o, wy, some m0, rm, by rw [hm0]; rfl, shf2, xok2, hmo2, ask_of ask15, small, plA each15, lo, on, oj, tin2, fun r' t' H16 s16 hr' ht' => ?_⟩⟩
      rw [sz2, kl] at hr' ht'
      refine ⟨_, _, rfl, be_dp hr' ht', (shn rm).1, (shn rm).2.1, (shn rm).2.2, ?_⟩
      rw [kxe]
      refine ⟨_, rfl, rfl, _, rfl, iteF' (okN _) ?_⟩
      have eB16 := s16 _ _ eB15
      have tq := Tups.upd_lst (K := K) (ys := usd ++ [.ref da]) eB16
      refine ⟨_, rfl, .inl ⟨rfl, _, SqL.of eB16⟩, _, rfl, B, usd, _, rfl, rfl, eB16, by rw [sizeLine_eq]; omega, ?_⟩
      have tp2 : Tups K H15 (upd H16 B (.lst (usd ++ [.ref da]))) := (Tups.of_same s16).trans tq
      refine ⟨ds ++ [d0], xs2, F2, _, _, _, _, _, _, _, _, ⟨⟨?_, ⟨usd ++ [.ref da], upd_same, ?_⟩, ch2, by rw [eX]; exact nm2', by rw [eX]; exact tb2', by rw [List.length_append]; omega, by rw [List.length_append, List.length_singleton]; omega, ?_, nBl, ⟨nFl, nFc, nFB⟩⟩, Dp.tups tp2 _ (askD_only dr false) ask15, ?_, DpAll.tups tp2 _ (plans_only m (anyP ss) m1 m3) each15, ⟨nPs.1, nPs.2.1, nPs.2.2.1, nFP⟩⟩, rfl⟩
      · exact Pen.off ⟨ns, tt, ov, s16 _ _ el15, s16 _ _ ec15, z1, z2, by omega⟩ nBl.1 nBl.2
      · exact K37t.each_snoc (rus15.mono fun v d ⟨q, e1, e2⟩ => ⟨q, e1, e2.tups tp2⟩) ⟨da, rfl, dat15.tups tp2⟩
      · rw [eX]
        exact (shf2.same s16).keep tq fun b o hb e => by rw [upd_ne (fun z => nFB (by rw [← z]; exact hb))]; exact e
      · rw [upd_ne nPs.2.2.1]
        exact s16 _ _ pls15
    · rintro σ H1 ⟨ds, xs, F, y7, y8, y9, y10, y11, y12, y13, y14, st, rfl⟩
      exact ⟨ds, xs, F, _, _, _, _, _, _, _, _, _, _, _, st.ls.le (by simp; omega) (by simp; omega), rfl⟩
  · rintro σ H1 ⟨ds, xs, F, y4, y5, y6, y7, y8, y9, y10, y11, y12, y13, y14, ls, rfl⟩
    exact q H1
end
end K37
end

section
set_option Elab.async false
set_option linter.all false
set_option maxRecDepth 100000
set_option maxHeartbeats 8000000
namespace K37
open PySem PySem.Spec PyProof.Rows L2 Gd K37t
theorem all_mk {l : PySem.W.OpenLaw} {w : World} {K : PySem.W.Frag} {h : Heap} {mg : Str → Option Value} {fa : Addr} {C T0 E0 f0 f1 f2 f3 f4 f5 f6 f7 f8 f9 f10 f11 f12 f13 f14 f15 f16 f17 f18 f19 f20 f21 f22 f23 f24 f25 f26 f27 f28 f29 f30 D22 D29 : Addr} (X : K.In h) (G : h.Ns mainGlobals mg) (hfa : mg "law" = some (.ref fa))
    {td0 te0 od0 an0 od1 an1 od2 an2 od3 an3 od4 an4 od5 an5 od6 an6 od7 an7 od8 an8 od9 an9 od10 an10 od11 an11 od12 an12 od13 an13 od14 an14 od15 an15 od16 an16 od17 an17 od18 an18 od19 an19 od20 an20 od21 an21 od22 an22 od23 an23 od24 an24 od25 an25 od26 an26 od27 an27 od28 an28 od29 an29 od30 an30 : Option Addr} {ts0 ts1 sl0 sl1 sl2 sl3 sl4 sl5 sl6 sl7 sl8 sl9 sl10 sl11 sl12 sl13 sl14 sl15 sl16 sl17 sl18 sl19 sl20 sl21 sl22 sl23 sl24 sl25 sl26 sl27 sl28 sl29 sl30 : Array (Option Value)} {tc0 oc0 dc0 pm0 cd0 ct0 kV0 oc1 dc1 pm1 cd1 ct1 kV1 oc2 dc2 pm2 cd2 ct2 kV2 oc3 dc3 pm3 cd3 ct3 kV3 oc4 dc4 pm4 cd4 ct4 kV4 oc5 dc5 pm5 cd5 ct5 kV5 oc6 dc6 pm6 cd6 ct6 kV6 oc7 dc7 pm7 cd7 ct7 kV7 oc8 dc8 pm8 cd8 ct8 kV8 oc9 dc9 pm9 cd9 ct9 kV9 oc10 dc10 pm10 cd10 ct10 kV10 oc11 dc11 pm11 cd11 ct11 kV11 oc12 dc12 pm12 cd12 ct12 kV12 oc13 dc13 pm13 cd13 ct13 kV13 oc14 dc14 pm14 cd14 ct14 kV14 oc15 dc15 pm15 cd15 ct15 kV15 oc16 dc16 pm16 cd16 ct16 kV16 oc17 dc17 pm17 cd17 ct17 kV17 oc18 dc18 pm18 cd18 ct18 kV18 oc19 dc19 pm19 cd19 ct19 kV19 oc20 dc20 pm20 cd20 ct20 kV20 oc21 dc21 pm21 cd21 ct21 kV21 oc22 dc22 pm22 cd22 ct22 oc23 dc23 pm23 cd23 ct23 kV23 oc24 dc24 pm24 cd24 ct24 kV24 oc25 dc25 pm25 cd25 ct25 kV25 oc26 dc26 pm26 cd26 ct26 kV26 oc27 dc27 pm27 cd27 ct27 kV27 oc28 dc28 pm28 cd28 ct28 kV28 oc29 dc29 pm29 cd29 ct29 oc30 dc30 pm30 cd30 ct30 kV30 : Value} {tn0 tn1 : Nat} {tk0 tk1 tk2 tk3 tk4 tk5 tk6 : Tok}
    (aPM : PySem.W.nsIn K mainGlobals "permutations" = some (some (.type "itertools.permutations")))
    (aC : PySem.W.nsIn K mainGlobals "Tables" = some (some (.ref C)))
    (aF0 : PySem.W.nsIn K mainGlobals "is_name" = some (some (.ref f0)))
    (lF0 : K.lookup f0 = some ⟨oc0, od0, .func (PySem.W.fnOf "is_name" "is_name" (defArgs sName) (defBody sName) (defScope sName) .none kV0 dc0 pm0 an0 cd0 ct0), sl0⟩)
    (cF0 : PySem.W.codeIn K cd0 "is_name" = true)
    (kF0 : PySem.W.keepIn K (.ref f0) = true)
    (aF1 : PySem.W.nsIn K mainGlobals "is_whole" = some (some (.ref f1)))
    (lF1 : K.lookup f1 = some ⟨oc1, od1, .func (PySem.W.fnOf "is_whole" "is_whole" (defArgs sWhole) (defBody sWhole) (defScope sWhole) .none kV1 dc1 pm1 an1 cd1 ct1), sl1⟩)
    (cF1 : PySem.W.codeIn K cd1 "is_whole" = true)
    (kF1 : PySem.W.keepIn K (.ref f1) = true)
    (aF2 : PySem.W.nsIn K mainGlobals "is_number" = some (some (.ref f2)))
    (lF2 : K.lookup f2 = some ⟨oc2, od2, .func (PySem.W.fnOf "is_number" "is_number" (defArgs sNumber) (defBody sNumber) (defScope sNumber) .none kV2 dc2 pm2 an2 cd2 ct2), sl2⟩)
    (cF2 : PySem.W.codeIn K cd2 "is_number" = true)
    (kF2 : PySem.W.keepIn K (.ref f2) = true)
    (aF3 : PySem.W.nsIn K mainGlobals "_is_deed" = some (some (.ref f3)))
    (lF3 : K.lookup f3 = some ⟨oc3, od3, .func (PySem.W.fnOf "_is_deed" "_is_deed" (defArgs sDeed) (defBody sDeed) (defScope sDeed) .none kV3 dc3 pm3 an3 cd3 ct3), sl3⟩)
    (cF3 : PySem.W.codeIn K cd3 "_is_deed" = true)
    (kF3 : PySem.W.keepIn K (.ref f3) = true)
    (aF4 : PySem.W.nsIn K mainGlobals "_are_columns" = some (some (.ref f4)))
    (lF4 : K.lookup f4 = some ⟨oc4, od4, .func (PySem.W.fnOf "_are_columns" "_are_columns" (defArgs sCol) (defBody sCol) (defScope sCol) .none kV4 dc4 pm4 an4 cd4 ct4), sl4⟩)
    (cF4 : PySem.W.codeIn K cd4 "_are_columns" = true)
    (kF4 : PySem.W.keepIn K (.ref f4) = true)
    (aF5 : PySem.W.nsIn K mainGlobals "plans_of" = some (some (.ref f5)))
    (lF5 : K.lookup f5 = some ⟨oc5, od5, .func (PySem.W.fnOf "plans_of" "plans_of" (defArgs sPl) (defBody sPl) (defScope sPl) .none kV5 dc5 pm5 an5 cd5 ct5), sl5⟩)
    (cF5 : PySem.W.codeIn K cd5 "plans_of" = true)
    (kF5 : PySem.W.keepIn K (.ref f5) = true)
    (aF6 : PySem.W.nsIn K mainGlobals "led_to" = some (some (.ref f6)))
    (lF6 : K.lookup f6 = some ⟨oc6, od6, .func (PySem.W.fnOf "led_to" "led_to" (defArgs sLed) (defBody sLed) (defScope sLed) .none kV6 dc6 pm6 an6 cd6 ct6), sl6⟩)
    (cF6 : PySem.W.codeIn K cd6 "led_to" = true)
    (kF6 : PySem.W.keepIn K (.ref f6) = true)
    (aF7 : PySem.W.nsIn K mainGlobals "links_of" = some (some (.ref f7)))
    (lF7 : K.lookup f7 = some ⟨oc7, od7, .func (PySem.W.fnOf "links_of" "links_of" (defArgs sLk) (defBody sLk) (defScope sLk) .none kV7 dc7 pm7 an7 cd7 ct7), sl7⟩)
    (cF7 : PySem.W.codeIn K cd7 "links_of" = true)
    (kF7 : PySem.W.keepIn K (.ref f7) = true)
    (aF8 : PySem.W.nsIn K mainGlobals "keeps_of" = some (some (.ref f8)))
    (lF8 : K.lookup f8 = some ⟨oc8, od8, .func (PySem.W.fnOf "keeps_of" "keeps_of" (defArgs sKe) (defBody sKe) (defScope sKe) .none kV8 dc8 pm8 an8 cd8 ct8), sl8⟩)
    (cF8 : PySem.W.codeIn K cd8 "keeps_of" = true)
    (kF8 : PySem.W.keepIn K (.ref f8) = true)
    (aF9 : PySem.W.nsIn K mainGlobals "pairs_between" = some (some (.ref f9)))
    (lF9 : K.lookup f9 = some ⟨oc9, od9, .func (PySem.W.fnOf "pairs_between" "pairs_between" (defArgs sPB) (defBody sPB) (defScope sPB) .none kV9 dc9 pm9 an9 cd9 ct9), sl9⟩)
    (cF9 : PySem.W.codeIn K cd9 "pairs_between" = true)
    (kF9 : PySem.W.keepIn K (.ref f9) = true)
    (aF10 : PySem.W.nsIn K mainGlobals "_law_pen" = some (some (.ref f10)))
    (lF10 : K.lookup f10 = some ⟨oc10, od10, .func (PySem.W.fnOf "_law_pen" "_law_pen" (defArgs sPen) (defBody sPen) (defScope sPen) .none kV10 dc10 pm10 an10 cd10 ct10), sl10⟩)
    (cF10 : PySem.W.codeIn K cd10 "_law_pen" = true)
    (kF10 : PySem.W.keepIn K (.ref f10) = true)
    (aF11 : PySem.W.nsIn K mainGlobals "_law_take" = some (some (.ref f11)))
    (lF11 : K.lookup f11 = some ⟨oc11, od11, .func (PySem.W.fnOf "_law_take" "_law_take" (defArgs sDraw) (defBody sDraw) (defScope sDraw) .none kV11 dc11 pm11 an11 cd11 ct11), sl11⟩)
    (cF11 : PySem.W.codeIn K cd11 "_law_take" = true)
    (kF11 : PySem.W.keepIn K (.ref f11) = true)
    (aF12 : PySem.W.nsIn K mainGlobals "_law_pick" = some (some (.ref f12)))
    (lF12 : K.lookup f12 = some ⟨oc12, od12, .func (PySem.W.fnOf "_law_pick" "_law_pick" (defArgs sPk) (defBody sPk) (defScope sPk) .none kV12 dc12 pm12 an12 cd12 ct12), sl12⟩)
    (cF12 : PySem.W.codeIn K cd12 "_law_pick" = true)
    (kF12 : PySem.W.keepIn K (.ref f12) = true)
    (aF13 : PySem.W.nsIn K mainGlobals "_law_deeds" = some (some (.ref f13)))
    (lF13 : K.lookup f13 = some ⟨oc13, od13, .func (PySem.W.fnOf "_law_deeds" "_law_deeds" (defArgs sDs) (defBody sDs) (defScope sDs) .none kV13 dc13 pm13 an13 cd13 ct13), sl13⟩)
    (cF13 : PySem.W.codeIn K cd13 "_law_deeds" = true)
    (kF13 : PySem.W.keepIn K (.ref f13) = true)
    (aF14 : PySem.W.nsIn K mainGlobals "_law_pairs" = some (some (.ref f14)))
    (lF14 : K.lookup f14 = some ⟨oc14, od14, .func (PySem.W.fnOf "_law_pairs" "_law_pairs" (defArgs sPr) (defBody sPr) (defScope sPr) .none kV14 dc14 pm14 an14 cd14 ct14), sl14⟩)
    (cF14 : PySem.W.codeIn K cd14 "_law_pairs" = true)
    (kF14 : PySem.W.keepIn K (.ref f14) = true)
    (aF15 : PySem.W.nsIn K mainGlobals "_law_sources" = some (some (.ref f15)))
    (lF15 : K.lookup f15 = some ⟨oc15, od15, .func (PySem.W.fnOf "_law_sources" "_law_sources" (defArgs sSc) (defBody sSc) (defScope sSc) .none kV15 dc15 pm15 an15 cd15 ct15), sl15⟩)
    (cF15 : PySem.W.codeIn K cd15 "_law_sources" = true)
    (kF15 : PySem.W.keepIn K (.ref f15) = true)
    (aF16 : PySem.W.nsIn K mainGlobals "_law_size" = some (some (.ref f16)))
    (lF16 : K.lookup f16 = some ⟨oc16, od16, .func (PySem.W.fnOf "_law_size" "_law_size" (defArgs sSi) (defBody sSi) (defScope sSi) .none kV16 dc16 pm16 an16 cd16 ct16), sl16⟩)
    (cF16 : PySem.W.codeIn K cd16 "_law_size" = true)
    (kF16 : PySem.W.keepIn K (.ref f16) = true)
    (aF17 : PySem.W.nsIn K mainGlobals "_law_are_tied" = some (some (.ref f17)))
    (lF17 : K.lookup f17 = some ⟨oc17, od17, .func (PySem.W.fnOf "_law_are_tied" "_law_are_tied" (defArgs sTi) (defBody sTi) (defScope sTi) .none kV17 dc17 pm17 an17 cd17 ct17), sl17⟩)
    (cF17 : PySem.W.codeIn K cd17 "_law_are_tied" = true)
    (kF17 : PySem.W.keepIn K (.ref f17) = true)
    (aF18 : PySem.W.nsIn K mainGlobals "_law_linked" = some (some (.ref f18)))
    (lF18 : K.lookup f18 = some ⟨oc18, od18, .func (PySem.W.fnOf "_law_linked" "_law_linked" (defArgs sLi) (defBody sLi) (defScope sLi) .none kV18 dc18 pm18 an18 cd18 ct18), sl18⟩)
    (cF18 : PySem.W.codeIn K cd18 "_law_linked" = true)
    (kF18 : PySem.W.keepIn K (.ref f18) = true)
    (aF19 : PySem.W.nsIn K mainGlobals "_law_due" = some (some (.ref f19)))
    (lF19 : K.lookup f19 = some ⟨oc19, od19, .func (PySem.W.fnOf "_law_due" "_law_due" (defArgs sDu) (defBody sDu) (defScope sDu) .none kV19 dc19 pm19 an19 cd19 ct19), sl19⟩)
    (cF19 : PySem.W.codeIn K cd19 "_law_due" = true)
    (kF19 : PySem.W.keepIn K (.ref f19) = true)
    (aF20 : PySem.W.nsIn K mainGlobals "_law_rooms" = some (some (.ref f20)))
    (lF20 : K.lookup f20 = some ⟨oc20, od20, .func (PySem.W.fnOf "_law_rooms" "_law_rooms" (defArgs sRo) (defBody sRo) (defScope sRo) .none kV20 dc20 pm20 an20 cd20 ct20), sl20⟩)
    (cF20 : PySem.W.codeIn K cd20 "_law_rooms" = true)
    (kF20 : PySem.W.keepIn K (.ref f20) = true)
    (aF21 : PySem.W.nsIn K mainGlobals "law" = some (some (.ref f21)))
    (lF21 : K.lookup f21 = some ⟨oc21, od21, .func (PySem.W.fnOf "law" "law" (defArgs sLaw) (defBody sLaw) (defScope sLaw) .none kV21 dc21 pm21 an21 cd21 ct21), sl21⟩)
    (cF21 : PySem.W.codeIn K cd21 "law" = true)
    (kF21 : PySem.W.keepIn K (.ref f21) = true)
    (aF22 : PySem.W.nsIn K mainGlobals "begun" = some (some (.ref f22)))
    (lF22 : K.lookup f22 = some ⟨oc22, od22, .func (PySem.W.fnOf "begun" "begun" (defArgs sBe) (defBody sBe) (defScope sBe) .none (.ref D22) dc22 pm22 an22 cd22 ct22), sl22⟩)
    (cF22 : PySem.W.codeIn K cd22 "begun" = true)
    (kF22 : PySem.W.keepIn K (.ref f22) = true)
    (dF22 : PySem.W.nsIn K D22 "moment" = some (some .none))
    (dR22 : PySem.W.nsIn K D22 "rooms" = some (some (.int 20 tk6)))
    (aF23 : PySem.W.findIn K (.ref C) "do" = some (some (.ref f23)))
    (iF23 : PySem.W.isFn K (.ref f23) = true)
    (lF23 : K.lookup f23 = some ⟨oc23, od23, .func (PySem.W.fnOf "do" "Tables.do" (defArgs sDo) (defBody sDo) (defScope sDo) .none kV23 dc23 pm23 an23 cd23 ct23), sl23⟩)
    (cF23 : PySem.W.codeIn K cd23 "Tables.do" = true)
    (kF23 : PySem.W.keepIn K (.ref f23) = true)
    (aF24 : PySem.W.findIn K (.ref C) "_make" = some (some (.ref f24)))
    (iF24 : PySem.W.isFn K (.ref f24) = true)
    (lF24 : K.lookup f24 = some ⟨oc24, od24, .func (PySem.W.fnOf "_make" "Tables._make" (defArgs sMake) (defBody sMake) (defScope sMake) .none kV24 dc24 pm24 an24 cd24 ct24), sl24⟩)
    (cF24 : PySem.W.codeIn K cd24 "Tables._make" = true)
    (kF24 : PySem.W.keepIn K (.ref f24) = true)
    (aF25 : PySem.W.findIn K (.ref C) "_put" = some (some (.ref f25)))
    (iF25 : PySem.W.isFn K (.ref f25) = true)
    (lF25 : K.lookup f25 = some ⟨oc25, od25, .func (PySem.W.fnOf "_put" "Tables._put" (defArgs sPut) (defBody sPut) (defScope sPut) .none kV25 dc25 pm25 an25 cd25 ct25), sl25⟩)
    (cF25 : PySem.W.codeIn K cd25 "Tables._put" = true)
    (kF25 : PySem.W.keepIn K (.ref f25) = true)
    (aF26 : PySem.W.findIn K (.ref C) "_take_out" = some (some (.ref f26)))
    (iF26 : PySem.W.isFn K (.ref f26) = true)
    (lF26 : K.lookup f26 = some ⟨oc26, od26, .func (PySem.W.fnOf "_take_out" "Tables._take_out" (defArgs sOut) (defBody sOut) (defScope sOut) .none kV26 dc26 pm26 an26 cd26 ct26), sl26⟩)
    (cF26 : PySem.W.codeIn K cd26 "Tables._take_out" = true)
    (kF26 : PySem.W.keepIn K (.ref f26) = true)
    (aF27 : PySem.W.findIn K (.ref C) "moment" = some (some (.ref f27)))
    (iF27 : PySem.W.isFn K (.ref f27) = true)
    (lF27 : K.lookup f27 = some ⟨oc27, od27, .func (PySem.W.fnOf "moment" "Tables.moment" (defArgs sMom) (defBody sMom) (defScope sMom) .none kV27 dc27 pm27 an27 cd27 ct27), sl27⟩)
    (cF27 : PySem.W.codeIn K cd27 "Tables.moment" = true)
    (kF27 : PySem.W.keepIn K (.ref f27) = true)
    (aF28 : PySem.W.findIn K (.ref C) "_moment_of" = some (some (.ref f28)))
    (iF28 : PySem.W.isFn K (.ref f28) = true)
    (lF28 : K.lookup f28 = some ⟨oc28, od28, .func (PySem.W.fnOf "_moment_of" "Tables._moment_of" (defArgs sMof) (defBody sMof) (defScope sMof) .none kV28 dc28 pm28 an28 cd28 ct28), sl28⟩)
    (cF28 : PySem.W.codeIn K cd28 "Tables._moment_of" = true)
    (kF28 : PySem.W.keepIn K (.ref f28) = true)
    (aF29 : PySem.W.findIn K (.ref C) "rows" = some (some (.ref f29)))
    (iF29 : PySem.W.isFn K (.ref f29) = true)
    (lF29 : K.lookup f29 = some ⟨oc29, od29, .func (PySem.W.fnOf "rows" "Tables.rows" (defArgs sRows) (defBody sRows) (defScope sRows) .none (.ref D29) dc29 pm29 an29 cd29 ct29), sl29⟩)
    (cF29 : PySem.W.codeIn K cd29 "Tables.rows" = true)
    (kF29 : PySem.W.keepIn K (.ref f29) = true)
    (dF29 : PySem.W.nsIn K D29 "moment" = some (some .none))
    (aF30 : PySem.W.findIn K (.ref C) "__init__" = some (some (.ref f30)))
    (iF30 : PySem.W.isFn K (.ref f30) = true)
    (lF30 : K.lookup f30 = some ⟨oc30, od30, .func (PySem.W.fnOf "__init__" "Tables.__init__" (defArgs sInit) (defBody sInit) (defScope sInit) (.ref T0) kV30 dc30 pm30 an30 cd30 ct30), sl30⟩)
    (cF30 : PySem.W.codeIn K cd30 "Tables.__init__" = true)
    (kF30 : PySem.W.keepIn K (.ref f30) = true)
    (lT0 : K.lookup T0 = some ⟨tc0, td0, .seq #[.ref E0] tn0, ts0⟩)
    (lE0 : K.lookup E0 = some ⟨.type "tuple", te0, .seq #[] tn1, ts1⟩)
    (pg : PySem.W.plainGet K C Str.empty = true)
    (hd : PySem.W.hasDictIn K C = true)
    (po : PySem.W.plainOver K C = true)
    (sa : PySem.W.findIn K (.ref C) "__setattr__" = some (some (.builtin "object.__setattr__")))
    (mk : PySem.W.makesIn K C = true)
    (kc : PySem.W.keepIn K (.ref C) = true)
    (n_deeds : PySem.W.findIn K (.ref C) "_deeds" = some none)
    (n_columns : PySem.W.findIn K (.ref C) "_columns" = some none)
    (n_made : PySem.W.findIn K (.ref C) "_made" = some none)
    (n_rows : PySem.W.findIn K (.ref C) "_rows" = some none)
    (q0 : PySem.W.nsIn K mainGlobals "_LETTERS" = some (some (.str "abcdefghijklmnopqrstuvwxyz" tk0)))
    (q1 : PySem.W.nsIn K mainGlobals "_LONGEST_NAME" = some (some (.int 8 tk1)))
    (q2 : PySem.W.nsIn K mainGlobals "_TOO_GREAT" = some (some (.int 1000000000000000000000000000000 tk2)))
    (q3 : PySem.W.nsIn K mainGlobals "_MOST_COLUMNS" = some (some (.int 4 tk3)))
    (q4 : PySem.W.nsIn K mainGlobals "_MOST_TABLES" = some (some (.int 6 tk4)))
    (q5 : PySem.W.nsIn K mainGlobals "_MOST_ROWS" = some (some (.int 60 tk5)))
    (z_sorted : PySem.W.nsIn K mainGlobals "sorted" = some none)
    (z_enumerate : PySem.W.nsIn K mainGlobals "enumerate" = some none)
    (z_isinstance : PySem.W.nsIn K mainGlobals "isinstance" = some none)
    (z_str : PySem.W.nsIn K mainGlobals "str" = some none)
    (z_int : PySem.W.nsIn K mainGlobals "int" = some none)
    (z_bool : PySem.W.nsIn K mainGlobals "bool" = some none)
    (z_len : PySem.W.nsIn K mainGlobals "len" = some none)
    (z_all : PySem.W.nsIn K mainGlobals "all" = some none)
    (z_tuple : PySem.W.nsIn K mainGlobals "tuple" = some none)
    (z_set : PySem.W.nsIn K mainGlobals "set" = some none)
    (z_range : PySem.W.nsIn K mainGlobals "range" = some none)
    (z_abs : PySem.W.nsIn K mainGlobals "abs" = some none)
    (z_repr : PySem.W.nsIn K mainGlobals "repr" = some none)
    (z_list : PySem.W.nsIn K mainGlobals "list" = some none)
    (z_sum : PySem.W.nsIn K mainGlobals "sum" = some none)
    (z_max : PySem.W.nsIn K mainGlobals "max" = some none)
    (z_min : PySem.W.nsIn K mainGlobals "min" = some none) :
    ∃ fd : FuncData, (∀ (s : Shared) (v : Value), BindsTo s fd ⟨[v], []⟩ [("_law_script", v)]) ∧ ∀ base : Heap, K.In base → base.Ns mainGlobals mg → FnG l.prog w K mg base CX0 7 fa fd ["_law_script"] (spLaw K) := by
  have e := hfa.symm.trans (PySem.W.mg_of X G aF21)
  cases e
  have F0 := fun_mk (st := sName) lF0 cF0 kF0
  have b0 := F0.binds (ps := ["thing"]) fun _ _ _ _ _ _ us hl => match us, hl with | [_], _ => rfl
  have m0 := PySem.W.mg_of X G aF0
  have F1 := fun_mk (st := sWhole) lF1 cF1 kF1
  have b1 := F1.binds (ps := ["thing"]) fun _ _ _ _ _ _ us hl => match us, hl with | [_], _ => rfl
  have m1 := PySem.W.mg_of X G aF1
  have F2 := fun_mk (st := sNumber) lF2 cF2 kF2
  have b2 := F2.binds (ps := ["thing"]) fun _ _ _ _ _ _ us hl => match us, hl with | [_], _ => rfl
  have m2 := PySem.W.mg_of X G aF2
  have F3 := fun_mk (st := sDeed) lF3 cF3 kF3
  have b3 := F3.binds (ps := ["thing"]) fun _ _ _ _ _ _ us hl => match us, hl with | [_], _ => rfl
  have m3 := PySem.W.mg_of X G aF3
  have F4 := fun_mk (st := sCol) lF4 cF4 kF4
  have b4 := F4.binds (ps := ["thing"]) fun _ _ _ _ _ _ us hl => match us, hl with | [_], _ => rfl
  have m4 := PySem.W.mg_of X G aF4
  have F5 := fun_mk (st := sPl) lF5 cF5 kF5
  have b5 := F5.binds (ps := ["ask"]) fun _ _ _ _ _ _ us hl => match us, hl with | [_], _ => rfl
  have m5 := PySem.W.mg_of X G aF5
  have F6 := fun_mk (st := sLed) lF6 cF6 kF6
  have b6 := F6.binds (ps := ["ask", "plan"]) fun _ _ _ _ _ _ us hl => match us, hl with | [_, _], _ => rfl
  have m6 := PySem.W.mg_of X G aF6
  have F7 := fun_mk (st := sLk) lF7 cF7 kF7
  have b7 := F7.binds (ps := ["ask", "plan"]) fun _ _ _ _ _ _ us hl => match us, hl with | [_, _], _ => rfl
  have m7 := PySem.W.mg_of X G aF7
  have F8 := fun_mk (st := sKe) lF8 cF8 kF8
  have b8 := F8.binds (ps := ["ask", "plan"]) fun _ _ _ _ _ _ us hl => match us, hl with | [_, _], _ => rfl
  have m8 := PySem.W.mg_of X G aF8
  have F9 := fun_mk (st := sPB) lF9 cF9 kF9
  have b9 := F9.binds (ps := ["sources", "number", "ahead"]) fun _ _ _ _ _ _ us hl => match us, hl with | [_, _, _], _ => rfl
  have m9 := PySem.W.mg_of X G aF9
  have F10 := fun_mk (st := sPen) lF10 cF10 kF10
  have b10 := F10.binds (ps := ["_law_script"]) fun _ _ _ _ _ _ us hl => match us, hl with | [_], _ => rfl
  have m10 := PySem.W.mg_of X G aF10
  have F11 := fun_mk (st := sDraw) lF11 cF11 kF11
  have b11 := F11.binds (ps := ["_law_pen_here", "_law_many"]) fun _ _ _ _ _ _ us hl => match us, hl with | [_, _], _ => rfl
  have m11 := PySem.W.mg_of X G aF11
  have F12 := fun_mk (st := sPk) lF12 cF12 kF12
  have b12 := F12.binds (ps := ["_law_pen_here", "_law_some"]) fun _ _ _ _ _ _ us hl => match us, hl with | [_, _], _ => rfl
  have m12 := PySem.W.mg_of X G aF12
  have F13 := fun_mk (st := sDs) lF13 cF13 kF13
  have b13 := F13.binds (ps := ["_law_pen_here", "_law_most"]) fun _ _ _ _ _ _ us hl => match us, hl with | [_, _], _ => rfl
  have m13 := PySem.W.mg_of X G aF13
  have F14 := fun_mk (st := sPr) lF14 cF14 kF14
  have b14 := F14.binds (ps := ["_law_pen_here", "_law_ahead"]) fun _ _ _ _ _ _ us hl => match us, hl with | [_, _], _ => rfl
  have m14 := PySem.W.mg_of X G aF14
  have F15 := fun_mk (st := sSc) lF15 cF15 kF15
  have b15 := F15.binds (ps := ["_law_pen_here"]) fun _ _ _ _ _ _ us hl => match us, hl with | [_], _ => rfl
  have m15 := PySem.W.mg_of X G aF15
  have F16 := fun_mk (st := sSi) lF16 cF16 kF16
  have b16 := F16.binds (ps := ["_law_deeds_here", "_law_name"]) fun _ _ _ _ _ _ us hl => match us, hl with | [_, _], _ => rfl
  have m16 := PySem.W.mg_of X G aF16
  have F17 := fun_mk (st := sTi) lF17 cF17 kF17
  have b17 := F17.binds (ps := ["_law_query", "_law_one", "_law_other"]) fun _ _ _ _ _ _ us hl => match us, hl with | [_, _, _], _ => rfl
  have m17 := PySem.W.mg_of X G aF17
  have F18 := fun_mk (st := sLi) lF18 cF18 kF18
  have b18 := F18.binds (ps := ["_law_query", "_law_led_by"]) fun _ _ _ _ _ _ us hl => match us, hl with | [_, _], _ => rfl
  have m18 := PySem.W.mg_of X G aF18
  have F19 := fun_mk (st := sDu) lF19 cF19 kF19
  have b19 := F19.binds (ps := ["_law_query", "_law_led_by", "_law_deeds_here", "_law_room"]) fun _ _ _ _ _ _ us hl => match us, hl with | [_, _, _, _], _ => rfl
  have m19 := PySem.W.mg_of X G aF19
  have F20 := fun_mk (st := sRo) lF20 cF20 kF20
  have b20 := F20.binds (ps := ["_law_pen_here", "_law_query", "_law_led_by", "_law_deeds_here"]) fun _ _ _ _ _ _ us hl => match us, hl with | [_, _, _, _], _ => rfl
  have m20 := PySem.W.mg_of X G aF20
  have F21 := fun_mk (st := sLaw) lF21 cF21 kF21
  have m21 := PySem.W.mg_of X G aF21
  have F22 : FunD K "begun" "begun" (defArgs sBe) (defBody sBe) (defScope sBe) [] [("moment", .non), ("rooms", .int 20)] f22 _ := ⟨⟨_, _, _, _, _, _, _, _, _, _, rfl, lF22, cF22, .inl ⟨rfl, rfl⟩, .inr ⟨_, rfl, fun q hq => by simp only [List.mem_cons, List.not_mem_nil, or_false] at hq; rcases hq with rfl | rfl; exact ⟨_, dF22, rfl⟩; exact ⟨_, dR22, _, rfl⟩⟩⟩, kF22⟩
  have m22 := PySem.W.mg_of X G aF22
  obtain ⟨mw1, kb3⟩ := F22.kbinds0 (ps := ["tables", "ask", "plan", "moment", "rooms"]) 3 ["moment", "rooms"] [] (fun vs _ zs => vs ++ zs) (by simp) (fun q hq => nomatch hq) (fun a _ c => a.append c) fun _ _ _ _ _ _ us mv ws h1 h2 h3 => match us, mv, ws, h1, h2, h3 with | [_, _, _], [], [_, _], _, _, _ => rfl
  obtain ⟨mw2, kb2⟩ := F22.kbinds0 (ps := ["tables", "ask", "plan", "moment", "rooms"]) 3 ["moment"] [("rooms", .int 20)] (fun vs mz zs => vs ++ zs ++ mz) (by simp) (fun q hq => by simp only [List.mem_cons, List.not_mem_nil, or_false] at hq; rw [hq]; simp) (fun a b c => (a.append c).append b) fun _ _ _ _ _ _ us mv ws h1 h2 h3 => match us, mv, ws, h1, h2, h3 with | [_, _, _], [_], [_], _, _, _ => ⟨_, _, _, _, _, _, rfl, rfl, rfl⟩
  obtain ⟨mw3, kb5⟩ := F22.kbinds0 (ps := ["tables", "ask", "plan", "moment", "rooms"]) 0 ["rooms", "plan", "moment", "ask", "tables"] [] (fun _ _ zs => back5 zs) (by simp) (fun q hq => nomatch hq) (fun _ _ c => back5_rel c) fun _ _ _ _ _ _ us mv ws h1 h2 h3 => match us, mv, ws, h1, h2, h3 with | [], [], [_, _, _, _, _], _, _, _ => rfl
  have F23 := fun_mk (st := sDo) lF23 cF23 kF23
  have b23 := F23.binds (ps := ["self", "deed"]) fun _ _ _ _ _ _ us hl => match us, hl with | [_, _], _ => rfl
  have m23 : Meth K C "do" f23 := ⟨aF23, iF23, kF23⟩
  have F24 := fun_mk (st := sMake) lF24 cF24 kF24
  have b24 := F24.binds (ps := ["self", "name", "columns"]) fun _ _ _ _ _ _ us hl => match us, hl with | [_, _, _], _ => rfl
  have m24 : Meth K C "_make" f24 := ⟨aF24, iF24, kF24⟩
  have F25 := fun_mk (st := sPut) lF25 cF25 kF25
  have b25 := F25.binds (ps := ["self", "name", "worths"]) fun _ _ _ _ _ _ us hl => match us, hl with | [_, _, _], _ => rfl
  have m25 : Meth K C "_put" f25 := ⟨aF25, iF25, kF25⟩
  have F26 := fun_mk (st := sOut) lF26 cF26 kF26
  have b26 := F26.binds (ps := ["self", "name", "number"]) fun _ _ _ _ _ _ us hl => match us, hl with | [_, _, _], _ => rfl
  have m26 : Meth K C "_take_out" f26 := ⟨aF26, iF26, kF26⟩
  have F27 := fun_mk (st := sMom) lF27 cF27 kF27
  have b27 := F27.binds (ps := ["self"]) fun _ _ _ _ _ _ us hl => match us, hl with | [_], _ => rfl
  have m27 : Meth K C "moment" f27 := ⟨aF27, iF27, kF27⟩
  have F28 := fun_mk (st := sMof) lF28 cF28 kF28
  have b28 := F28.binds (ps := ["self", "name", "moment"]) fun _ _ _ _ _ _ us hl => match us, hl with | [_, _, _], _ => rfl
  have m28 : Meth K C "_moment_of" f28 := ⟨aF28, iF28, kF28⟩
  have F29 : FunD K "rows" "Tables.rows" (defArgs sRows) (defBody sRows) (defScope sRows) [] [("moment", .non)] f29 _ := ⟨⟨_, _, _, _, _, _, _, _, _, _, rfl, lF29, cF29, .inl ⟨rfl, rfl⟩, .inr ⟨_, rfl, fun q hq => by rw [List.mem_singleton.mp hq]; exact ⟨_, dF29, rfl⟩⟩⟩, kF29⟩
  have m29 : Meth K C "rows" f29 := ⟨aF29, iF29, kF29⟩
  obtain ⟨mv29, kb29⟩ := F29.kbinds0 (ps := ["self", "name", "moment"]) 2 ["moment"] [] (fun vs _ zs => vs ++ zs) (by simp) (fun q hq => nomatch hq) (fun a _ c => a.append c) fun _ _ _ _ _ _ us mv ws h1 h2 h3 => match us, mv, ws, h1, h2, h3 with | [u0, u1], [], [_], _, _, _ => rfl
  have F30 : FunD K "__init__" "Tables.__init__" (defArgs sInit) (defBody sInit) (defScope sInit) [.ref E0] [] f30 _ := ⟨⟨_, _, _, _, _, _, _, _, _, _, rfl, lF30, cF30, .inr ⟨(by simp), T0, _, [.ref E0], _, rfl, lT0, rfl, .cons rfl .nil⟩, .inl rfl⟩, kF30⟩
  have m30 : Meth K C "__init__" f30 := ⟨aF30, iF30, kF30⟩
  obtain ⟨dsI, hI, bI⟩ := F30.binds1 (ps := ["self", "deeds"]) 2 1 (by simp) rfl fun _ _ _ _ _ _ _ us its h1 h2 => match us, its, h1, h2 with | [_, _], [_], _, _ => ⟨_, rfl, rfl⟩
  cases (show Vals [] dsI from hI)
  have y_sorted := PySem.W.mg_none_of X G z_sorted
  have y_enumerate := PySem.W.mg_none_of X G z_enumerate
  have y_isinstance := PySem.W.mg_none_of X G z_isinstance
  have y_str := PySem.W.mg_none_of X G z_str
  have y_int := PySem.W.mg_none_of X G z_int
  have y_bool := PySem.W.mg_none_of X G z_bool
  have y_len := PySem.W.mg_none_of X G z_len
  have y_all := PySem.W.mg_none_of X G z_all
  have y_tuple := PySem.W.mg_none_of X G z_tuple
  have y_set := PySem.W.mg_none_of X G z_set
  have y_range := PySem.W.mg_none_of X G z_range
  have y_abs := PySem.W.mg_none_of X G z_abs
  have y_repr := PySem.W.mg_none_of X G z_repr
  have y_list := PySem.W.mg_none_of X G z_list
  have y_sum := PySem.W.mg_none_of X G z_sum
  have y_max := PySem.W.mg_none_of X G z_max
  have y_min := PySem.W.mg_none_of X G z_min
  have Cs0 : Cs K mg 0 := ⟨⟨_, PySem.W.mg_of X G q0⟩, ⟨_, PySem.W.mg_of X G q1⟩, ⟨_, PySem.W.mg_of X G q2⟩, y_isinstance, y_str, y_int, y_bool, y_len, y_all⟩
  have Ct0 : Ct mg := ⟨⟨_, PySem.W.mg_of X G q3⟩, ⟨_, PySem.W.mg_of X G q4⟩, ⟨_, PySem.W.mg_of X G q5⟩, y_tuple, y_set⟩
  have T : TxtT K mg C := ⟨⟨pg, hd, po, sa⟩, n_deeds, n_columns, n_made, n_rows, y_sorted, y_enumerate⟩
  refine ⟨PySem.W.fnOf "law" "law" (defArgs sLaw) (defBody sLaw) (defScope sLaw) .none kV21 dc21 pm21 an21 cd21 ct21, fun s v => .of_eq rfl, fun base _ _ => ?_⟩
  have gName := ok_name (P := l.prog) (w := w) (base := base) F0 Cs0
  have gWhole := ok_whole (P := l.prog) (w := w) (base := base) F1 Cs0
  have gNumber := ok_number (P := l.prog) (w := w) (base := base) F2 Cs0 F1 b1 m1
  have gCol := ok_col (P := l.prog) (w := w) (base := base) F4 Cs0 Ct0 F0 gName m0 b0
  have gDeed := ok_deed (P := l.prog) (w := w) (base := base) F3 Cs0 Ct0 F0 gName m0 b0 F1 gWhole m1 b1 F2 gNumber m2 b2 F4 gCol m4 b4
  have MK1 : Mt l.prog w K mg base C "_make" ["self", "name", "columns"] CX0 1 (spMake K C) := ⟨_, _, m24, ok_make (P := l.prog) (w := w) (base := base) F24 T Cs0 Ct0, b24⟩
  have MP : Mt l.prog w K mg base C "_put" ["self", "name", "worths"] CX0 1 (spPut K C) := ⟨_, _, m25, ok_put (P := l.prog) (w := w) (base := base) F25 T Cs0 Ct0, b25⟩
  have MO : Mt l.prog w K mg base C "_take_out" ["self", "name", "number"] CX0 1 (spOut K C) := ⟨_, _, m26, ok_out (P := l.prog) (w := w) (base := base) F26 T Cs0, b26⟩
  have MD : Mt l.prog w K mg base C "do" ["self", "deed"] CX0 4 (spDo K C) := ⟨_, _, m23, ok_do (P := l.prog) (w := w) (base := base) F23 T F3 gDeed m3 b3 MK1 MP MO, b23⟩
  have MM : Mt l.prog w K mg base C "moment" ["self"] CX0 1 (spMom K C) := ⟨_, _, m27, ok_mom (P := l.prog) (w := w) (base := base) F27 T Cs0, b27⟩
  have MF : Mt l.prog w K mg base C "_moment_of" ["self", "name", "moment"] CX0 2 (spMof K C) := ⟨_, _, m28, ok_mof (P := l.prog) (w := w) (base := base) F28 T Cs0 F0 gName m0 b0, b28⟩
  have MR : MtN l.prog w K mg base C "rows" ["self", "name", "moment"] 1 CX0 3 (spRows K C) := ⟨_, _, _, m29, ok_rows (P := l.prog) (w := w) (base := base) F29 T MF, kb29⟩
  have mPM := PySem.W.mg_of X G aPM
  have gPB := ok_pb (P := l.prog) (w := w) (base := base) (mg := mg) F9
  have gLk := ok_lk (P := l.prog) (w := w) (base := base) F7 y_enumerate y_range y_len F9 gPB b9 m9
  have gPl := ok_pl (P := l.prog) (w := w) (base := base) F5 mPM y_list y_range y_len y_sorted F7 gLk b7 m7
  have gLed := ok_led (P := l.prog) (w := w) (base := base) (K := K) F6 y_list y_range y_len
  have gKe := ok_ke (P := l.prog) (w := w) (base := base) F8 F7 gLk b7 m7 F6 gLed b6 m6
  have gBe := ok_be (P := l.prog) (w := w) (base := base) F22 T y_len y_tuple MR F8 gKe m8 b8
  have gInit := ok_initL (P := l.prog) (w := w) (base := base) F30 T MD
  have gPen := ok_pen (P := l.prog) (w := w) (base := base) (mg := mg) F10
  have gDraw := ok_draw (P := l.prog) (w := w) (base := base) (K := K) F11 y_len y_abs
  have gPk := ok_pk (P := l.prog) (w := w) (base := base) (K := K) F12 y_len F11 gDraw b11 m11
  have gPr := ok_pr (P := l.prog) (w := w) (base := base) (K := K) F14 y_range y_tuple F11 gDraw b11 m11 F12 gPk b12 m12
  have gSc := ok_sc (P := l.prog) (w := w) (base := base) (K := K) F15 y_range y_len y_tuple F11 gDraw b11 m11 F12 gPk b12 m12 F14 gPr b14 m14
  have gDs := ok_ds (P := l.prog) (w := w) (base := base) (K := K) F13 y_len y_range y_int F11 gDraw b11 m11 F12 gPk b12 m12
  have gSi := ok_si (P := l.prog) (w := w) (base := base) (K := K) F16 y_len
  have gTi := ok_ti (P := l.prog) (w := w) (base := base) (K := K) (mg := mg) F17
  have gLi := ok_li (P := l.prog) (w := w) (base := base) (K := K) F18 y_len y_range F17 gTi m17 b17
  have gDu := ok_du (P := l.prog) (w := w) (base := base) (K := K) F19 y_tuple F18 gLi m18 b18 F16 gSi m16 b16
  have gRo := ok_ro (P := l.prog) (w := w) (base := base) (K := K) F20 y_sum y_max F18 gLi m18 b18 F16 gSi m16 b16 F11 gDraw m11 b11 F12 gPk m12 b12
  exact ok_law F21 T y_range y_repr y_len y_min F10 gPen m10 b10 F11 gDraw m11 b11 F13 gDs m13 b13 F15 gSc m15 b15 F5 gPl m5 b5 F12 gPk m12 b12 F20 gRo m20 b20 F19 gDu m19 b19
    kF22 gBe m22 kb3 kb2 kb5 ⟨mk, aF30, iF30, kc⟩ gInit (PySem.W.mg_of X G aC) bI MM MD
end K37
open PySem PySem.W PyProof.Rows
set_option maxRecDepth 100000 in
set_option maxHeartbeats 0 in
theorem PySem.Challenge.cw_plansamid_k37_what_visits_take_holds : PySem.Challenge.rw_plansamid_k37_what_visits_take.Holds := by
  w_on; o_law; k_head; (case hw => w_witness2)
  k_fill
  refine Gd.walkG (l := PySem.Challenge.rw_plansamid_k37_what_visits_take) (m := 63) (n := 7) (x := "_law_script") (sp := K37.spLaw) rfl (by decide) rfl ⟨rfl, by decide, by decide⟩ (fun w h Y => PySem.W.kIn_of Y) ?F ?S
  case S =>
    intro K H a ns h1 _ _ h4
    exact ⟨a, ns, rfl, h4, h1, fun _ => rfl⟩
  case F =>
    intro w mg fa h KX G hmg
    refine' K37.all_mk KX G hmg ?aPM ?aC ?aF0 ?lF0 ?cF0 ?kF0 ?aF1 ?lF1 ?cF1 ?kF1 ?aF2 ?lF2 ?cF2 ?kF2 ?aF3 ?lF3 ?cF3 ?kF3 ?aF4 ?lF4 ?cF4 ?kF4 ?aF5 ?lF5 ?cF5 ?kF5 ?aF6 ?lF6 ?cF6 ?kF6 ?aF7 ?lF7 ?cF7 ?kF7 ?aF8 ?lF8 ?cF8 ?kF8 ?aF9 ?lF9 ?cF9 ?kF9 ?aF10 ?lF10 ?cF10 ?kF10 ?aF11 ?lF11 ?cF11 ?kF11 ?aF12 ?lF12 ?cF12 ?kF12 ?aF13 ?lF13 ?cF13 ?kF13 ?aF14 ?lF14 ?cF14 ?kF14 ?aF15 ?lF15 ?cF15 ?kF15 ?aF16 ?lF16 ?cF16 ?kF16 ?aF17 ?lF17 ?cF17 ?kF17 ?aF18 ?lF18 ?cF18 ?kF18 ?aF19 ?lF19 ?cF19 ?kF19 ?aF20 ?lF20 ?cF20 ?kF20 ?aF21 ?lF21 ?cF21 ?kF21 ?aF22 ?lF22 ?cF22 ?kF22 ?dF22 ?dR22 ?aF23 ?iF23 ?lF23 ?cF23 ?kF23 ?aF24 ?iF24 ?lF24 ?cF24 ?kF24 ?aF25 ?iF25 ?lF25 ?cF25 ?kF25 ?aF26 ?iF26 ?lF26 ?cF26 ?kF26 ?aF27 ?iF27 ?lF27 ?cF27 ?kF27 ?aF28 ?iF28 ?lF28 ?cF28 ?kF28 ?aF29 ?iF29 ?lF29 ?cF29 ?kF29 ?dF29 ?aF30 ?iF30 ?lF30 ?cF30 ?kF30 ?lT0 ?lE0 ?pg ?hd ?po ?sa ?mk ?kc ?n_deeds ?n_columns ?n_made ?n_rows ?q0 ?q1 ?q2 ?q3 ?q4 ?q5 ?z_sorted ?z_enumerate ?z_isinstance ?z_str ?z_int ?z_bool ?z_len ?z_all ?z_tuple ?z_set ?z_range ?z_abs ?z_repr ?z_list ?z_sum ?z_max ?z_min
    (case aPM => k_is)
    (case aC => k_is)
    (case aF0 => k_is)
    (case lF0 => k_is)
    (case cF0 => k_is)
    (case kF0 => k_is)
    (case aF1 => k_is)
    (case lF1 => k_is)
    (case cF1 => k_is)
    (case kF1 => k_is)
    (case aF2 => k_is)
    (case lF2 => k_is)
    (case cF2 => k_is)
    (case kF2 => k_is)
    (case aF3 => k_is)
    (case lF3 => k_is)
    (case cF3 => k_is)
    (case kF3 => k_is)
    (case aF4 => k_is)
    (case lF4 => k_is)
    (case cF4 => k_is)
    (case kF4 => k_is)
    (case aF5 => k_is)
    (case lF5 => k_is)
    (case cF5 => k_is)
    (case kF5 => k_is)
    (case aF6 => k_is)
    (case lF6 => k_is)
    (case cF6 => k_is)
    (case kF6 => k_is)
    (case aF7 => k_is)
    (case lF7 => k_is)
    (case cF7 => k_is)
    (case kF7 => k_is)
    (case aF8 => k_is)
    (case lF8 => k_is)
    (case cF8 => k_is)
    (case kF8 => k_is)
    (case aF9 => k_is)
    (case lF9 => k_is)
    (case cF9 => k_is)
    (case kF9 => k_is)
    (case aF10 => k_is)
    (case lF10 => k_is)
    (case cF10 => k_is)
    (case kF10 => k_is)
    (case aF11 => k_is)
    (case lF11 => k_is)
    (case cF11 => k_is)
    (case kF11 => k_is)
    (case aF12 => k_is)
    (case lF12 => k_is)
    (case cF12 => k_is)
    (case kF12 => k_is)
    (case aF13 => k_is)
    (case lF13 => k_is)
    (case cF13 => k_is)
    (case kF13 => k_is)
    (case aF14 => k_is)
    (case lF14 => k_is)
    (case cF14 => k_is)
    (case kF14 => k_is)
    (case aF15 => k_is)
    (case lF15 => k_is)
    (case cF15 => k_is)
    (case kF15 => k_is)
    (case aF16 => k_is)
    (case lF16 => k_is)
    (case cF16 => k_is)
    (case kF16 => k_is)
    (case aF17 => k_is)
    (case lF17 => k_is)
    (case cF17 => k_is)
    (case kF17 => k_is)
    (case aF18 => k_is)
    (case lF18 => k_is)
    (case cF18 => k_is)
    (case kF18 => k_is)
    (case aF19 => k_is)
    (case lF19 => k_is)
    (case cF19 => k_is)
    (case kF19 => k_is)
    (case aF20 => k_is)
    (case lF20 => k_is)
    (case cF20 => k_is)
    (case kF20 => k_is)
    (case aF21 => k_is)
    (case lF21 => k_is)
    (case cF21 => k_is)
    (case kF21 => k_is)
    (case aF22 => k_is)
    (case lF22 => k_is)
    (case cF22 => k_is)
    (case kF22 => k_is)
    (case dF22 => k_is)
    (case dR22 => k_is)
    (case aF23 => k_is)
    (case iF23 => k_is)
    (case lF23 => k_is)
    (case cF23 => k_is)
    (case kF23 => k_is)
    (case aF24 => k_is)
    (case iF24 => k_is)
    (case lF24 => k_is)
    (case cF24 => k_is)
    (case kF24 => k_is)
    (case aF25 => k_is)
    (case iF25 => k_is)
    (case lF25 => k_is)
    (case cF25 => k_is)
    (case kF25 => k_is)
    (case aF26 => k_is)
    (case iF26 => k_is)
    (case lF26 => k_is)
    (case cF26 => k_is)
    (case kF26 => k_is)
    (case aF27 => k_is)
    (case iF27 => k_is)
    (case lF27 => k_is)
    (case cF27 => k_is)
    (case kF27 => k_is)
    (case aF28 => k_is)
    (case iF28 => k_is)
    (case lF28 => k_is)
    (case cF28 => k_is)
    (case kF28 => k_is)
    (case aF29 => k_is)
    (case iF29 => k_is)
    (case lF29 => k_is)
    (case cF29 => k_is)
    (case kF29 => k_is)
    (case dF29 => k_is)
    (case aF30 => k_is)
    (case iF30 => k_is)
    (case lF30 => k_is)
    (case cF30 => k_is)
    (case kF30 => k_is)
    (case lT0 => k_is)
    (case lE0 => k_is)
    (case pg => k_is)
    (case hd => k_is)
    (case po => k_is)
    (case sa => k_is)
    (case mk => k_is)
    (case kc => k_is)
    (case n_deeds => k_is)
    (case n_columns => k_is)
    (case n_made => k_is)
    (case n_rows => k_is)
    (case q0 => k_is)
    (case q1 => k_is)
    (case q2 => k_is)
    (case q3 => k_is)
    (case q4 => k_is)
    (case q5 => k_is)
    (case z_sorted => k_is)
    (case z_enumerate => k_is)
    (case z_isinstance => k_is)
    (case z_str => k_is)
    (case z_int => k_is)
    (case z_bool => k_is)
    (case z_len => k_is)
    (case z_all => k_is)
    (case z_tuple => k_is)
    (case z_set => k_is)
    (case z_range => k_is)
    (case z_abs => k_is)
    (case z_repr => k_is)
    (case z_list => k_is)
    (case z_sum => k_is)
    (case z_max => k_is)
    (case z_min => k_is)
end
