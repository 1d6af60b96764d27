import PyProof.Rows.All
import Wide.All
import OpenK.AllK
import Wide.FinOn
import HandS.ForMost
import PyProof.ReprRoads
import HandS.IsInst
import HandS.Walk
import KE.KExcInit
import KE.KIsAll
import HandS.ForExc
import HandS.ExcInit
import HandS.ExcIs
import KE.KExcIs
import HandS.ExcValue
import HandS.TryOnly
import HandS.RaiseFrom
import HandS.SuiteRaise
import HandS.WordsExc
import HandS.Star
import KE.GoesEnum
import KE.GoesMore
import HandS.SetKeys
import HandS.FStr
import HandS.DictComp
import HandS.More
import HandS.RaiseMore
import KE.KCallOwn
import HandS.Lambda
import HandS.EndBits
import PyProof.Rows.StrMeet
import PyProof.StrLawsChain
import PyProof.StrLawsTight
import HandS.ClsMeth
import PyProof.Rows.StrSplitAre
import HandS.OwnEq
import PyProof.InstEq
import PyProof.ReprNest
import HandS.Sort
import HandS.SortOrd
import HandS.SortRule
import PyProof.Rows.SortKeyStr
import PyProof.StrOps
import PyProof.Conv_bool
import PyProof.StrLawsRepr
import HandS.Style
import PyProof.ReprLen
import PySem.Challenge.RW_stackquotes_k01_vocabularies_made
set_option Elab.async false
set_option linter.all false
set_option maxRecDepth 100000
set_option maxHeartbeats 4000000
/-! Promises of defs that ask for a repr: they hold where no repr is under way (no guard on the stack). -/
namespace SQ
open PySem PySem.Spec PyProof.Rows L2

/-- what a def keeps when it is called where nothing guards -/
structure FnG (P : Program) (w : World) (K : PySem.W.Frag) (mg : Str → Option Value)
    (base : Heap) (CX : CXT) (k : Nat) (f : Addr) (fd : FuncData) (ps : List Str) (sp : Sp) : Prop where
  len : ∀ vs H Q E, sp vs H Q E → vs.length = ps.length
  go : ∀ (A : Around), A.guards = some [] → ∀ (outer : List Env) (s : Shared) (H : Hp)
    (args : Args) (us : List Value) (vs : List V) (Q : VK) (E : XK), Room k A →
    Env0 P w K mg base A outer s H → BindsTo s fd args (ps.zip us) → Vals vs us →
    sp vs H Q E → codeAny (model P w) A (.call (.ref f) args) (CR CX outer P w H s Q E) s
theorem FnG.of {P : Program} {w : World} {K : PySem.W.Frag} {mg : Str → Option Value} {base : Heap} {CX : CXT} {k : Nat} {f : Addr}
    {fd : FuncData} {ps : List Str} {sp : Sp} (F : FnOk P w K mg base CX k f fd ps sp) : FnG P w K mg base CX k f fd ps sp :=
  ⟨F.len, fun A _ outer s H args us vs Q E => F.run A outer s H args us vs Q E⟩

theorem deeper_guards {A : Around} {e : Env} (h : A.guards = some []) : (A.deeper e).guards = some [] := by
  first
    | exact h
    | (unfold Around.deeper; exact h)
    | simpa [Around.deeper] using h

section
variable {P : Program} {w : World} {K : PySem.W.Frag} {mg : Str → Option Value} {base : Heap}
/-- a def of the text, by its body: nothing leaves it as an error -/
theorem okG {x qual : Str} {st : Stmt} {f : Addr} {fd : FuncData} {N ps : List Str} {k : Nat} {sp : Sp}
    (F : Fun K x qual st f fd) (S : FnScope N ps (defScope st))
    (len : ∀ vs H Q E, sp vs H Q E → vs.length = ps.length)
    (hb : ∀ (cdv : Value) (A : Around) (outer : List Env) (s : Shared) (H : Hp) (vs : List V) (Q : VK) (E : XK),
      (A.deeper (envOfC qual (defScope st) s.heap.objs.size f cdv)).guards = some [] →
      Room k (A.deeper (envOfC qual (defScope st) s.heap.objs.size f cdv)) → sp vs H Q E →
      ∃ t, PSs (cxOf CX0 P w K mg base N qual (defScope st) f cdv A outer s H E).nox (defBody st) t ∧
        t { nx := fun _ H' => Q .non H', rt := Q } (start N vs) H) :
    FnG P w K mg base CX0 (k + 1) f fd ps sp := by
  obtain ⟨oc, od, kV, doc, pm, an, cdv, ct, osl, rfl, lk, hcd⟩ := F.ex
  refine ⟨len, fun A hgd outer s H args us vs Q E hroom en bnd rel hsp => ?_⟩
  have nargs := len _ _ _ _ hsp
  have old : ∀ b o, base.get? b = some o → s.heap.get? b = some o := fun b o q => (en.bs b o q).1
  have kin := en.mod.kin.keeps old
  have nol := en.mod.nolimit.keeps old
  have kinds : ∀ y ∈ ps.zip us, (defScope st).names.lookup y.1 = some .local ∨
      ((defScope st).names.lookup y.1 = some .cell ∧
        ((cellsFrom (s.heap.objs.size + 1) (defScope st).names []).lookup y.1).isSome = true) := by
    rintro ⟨n, v⟩ hy
    rcases S.par n (List.of_mem_zip hy).1 with q | q
    · exact Or.inl q
    · exact Or.inr ⟨q, PySem.W.cellsFrom_some _ _ _ (Or.inl q)⟩
  refine codeAny_call_function hroom.depth (kin _ _ lk) rfl S.co S.gen rfl
    (PySem.W.codeRec_of kin hcd) (bnd _ _ _ _ ?_)
  refine wpAny_newFunctionEnv_cells S.kind kinds ?_
  intro env he s1 ic
  subst he
  refine ⟨nol.keeps ic.toInCall.keep, codeAny_func ?_⟩
  obtain ⟨t, ht, hq⟩ := hb cdv A outer s H vs Q E (deeper_guards hgd) (hroom.deeper _) hsp
  have inv := inv_start (CX := CX0) (E := E) S hroom.hd en nargs rel ic
  refine wpAny_mono (ht.nox.run [] s1 (start N vs) H _ inv hq) ?_ fun e s' hs => hs
  intro fl s' hs
  cases fl with
  | ret u =>
    obtain ⟨v, σ', H', J, rv, q⟩ := hs
    exact ⟨v, H', J.os, J.bare, J.base, J.hok, rv, q⟩
  | next =>
    obtain ⟨σ', H', J, q⟩ := hs
    exact ⟨V.non, H', J.os, J.bare, J.base, J.hok, rfl, q⟩
  | brk =>
    obtain ⟨_, _, _, q⟩ := hs
    exact q.elim
  | cont =>
    obtain ⟨_, _, _, q⟩ := hs
    exact q.elim
end

section
variable {X : Cx} {CX : CXT} {k : Nat} {f : Addr} {fd : FuncData} {ps : List Str} {sp : Sp} {E : XK}
  {x : Str} {p pos : Pos} {e : Expr} {es : List Expr} {t : TA}
/-- f(e, ..), f such a def -/
theorem pe_callG (F : FnG X.prog X.w X.K X.mg X.base CX k f fd ps sp) (hgd : X.A.guards = some []) (hr : Room k X.A)
    (hg : Gl X x) (hm : X.mg x = some (.ref f)) (hk : PySem.W.keepIn X.K (.ref f) = true) (hb : Binds X.K fd ps [])
    (hx : Passes CX X E) (ha : PA X (e :: es) t) (hdb : (x == ("__debug__" : Str)) = false := by decide)
    (he : starEach (e :: es) X.env = (false, eval e X.env) :: starEach es X.env := by rfl)
    (hpl : (backTo pos (starEach es X.env)).any (·.1) = false := by rfl) :
    PE X (.Call (.Name x p) (e :: es) [] pos) (tCall sp [] E t) := by
  constructor
  intro pins s σ H Q I h
  refine wpAny_Call_Name_kw (ld_glob I hg hm ?_ hdb)
  refine PySem.W.callWith_K (h₀ := X.base) I.ok.mod.kin hk (thn (ha.run pos pins s σ H _ I h) ?_) he hpl
  intro us s1 ⟨vs, H1, I1, r, q⟩
  refine ⟨I1.kIn, ?_⟩
  have r2 : Vals (vs ++ []) (us ++ []) := r.append .nil
  have hl : (us ++ []).length = ps.length := by
    rw [← r2.length]
    exact F.len _ _ _ _ q
  show wpAny _ _ (call (.ref f) us) _ _ _
  refine wpAny_call (codeAny_mono (F.go X.A hgd X.stack s1 H1 ⟨us, []⟩ (us ++ []) (vs ++ []) Q E hr I1.env0
    (hb s1 us I1.kIn hl) r2 q) ?_)
  intro r s' hq
  rcases r with er | (_ | _ | _ | u)
  · exact hx pins σ H1 s1 er s' I1 hq
  · exact hq.elim
  · exact hq.elim
  · exact hq.elim
  · exact I1.after hq
end

/-- the law's call, by such a promise -/
theorem lawG {P : Program} {w : World} {K : PySem.W.Frag} {mg mb : Str → Option Value} {CX : CXT} {k : Nat} {fa a : Addr}
    {fd : FuncData} {x : Str} {sp : Sp} {s₁ : Shared} {vs : List Value} {ns : List Int}
    (KX : K.In s₁.heap) (hns : s₁.heap.Ns mainGlobals mg) (hb : s₁.heap.Ns builtinsNs mb)
    (hbb : ∀ x : Str, x ≠ "__name__" → mb x = bootBuiltins x) (hlim : s₁.heap.NoLimit) (hg : s₁.gens = #[])
    (ha : s₁.heap.get? a = some { cls := .type "list", data := .seq vs.toArray }) (hi : IntsAre vs ns)
    (hl : ns.length ≤ sizeLine) (hr : Room k callerA)
    (F : ∀ base : Heap, K.In base → base.Ns mainGlobals mg → FnG P w K mg base CX k fa fd [x] sp)
    (hbind : ∀ (s : Shared) (u : Value), BindsTo s fd ⟨[u], []⟩ [(x, u)])
    (hsp : ∀ H : Hp, Only H → SqL K H a (ns.map V.int) → sp [.ref a] H (fun v _ => v = .bl true) fun _ _ _ => False)
    (hCX : ∀ H e s', CX [] H s₁ (fun _ _ _ => False) e s' → False) :
    codeAny (model P w) callerA (.call (.ref fa) ⟨[.ref a], []⟩)
      (fun r s' => r = .ok (.ret (.bool true)) ∧ OldK s₁.heap s'.heap ∧ s'.os = s₁.os ∧ AllBare s'.gens) s₁ := by
  have rv := vals_ints hi
  have key : ∀ H : Hp, Only H → SqL K H a (ns.map V.int) → HOk P w H s₁.heap → (∀ b, H b ≠ none → b = a) →
      (H a ≠ none → K.lookup a = none) →
      codeAny (model P w) callerA (.call (.ref fa) ⟨[.ref a], []⟩)
        (fun r s' => r = .ok (.ret (.bool true)) ∧ OldK s₁.heap s'.heap ∧ s'.os = s₁.os ∧ AllBare s'.gens) s₁ := by
    intro H hO hS hok hA hK
    have only : ∀ {b : Addr} {u : HO}, H b = some u → b = a := fun {b u} q => hA b (by rw [q]; exact fun z => nomatch z)
    have free : ∀ {b : Addr} {o : Obj} {es : Array DictEntry} {ep : Nat}, s₁.heap.get? b = some o → o.data = .dict es ep → H b = none := by
      intro b o es ep q d
      cases z : H b with
      | none => rfl
      | some u =>
        have e' := only z
        subst e'
        rw [ha] at q
        cases q
        cases (show Data.seq vs.toArray _ = Data.dict es ep from d)
    have nsB : ∀ {b : Addr} {m : Str → Option Value}, s₁.heap.Ns b m → (hidT s₁.heap H).Ns b m := by
      rintro b m ⟨o, es, ep, q, d, r⟩
      exact ⟨o, es, ep, hidT_get q (free q d), d, r⟩
    have kB : K.In (hidT s₁.heap H) := by
      intro b o q
      refine hidT_get (KX b o q) ?_
      cases z : H b with
      | none => rfl
      | some u =>
        have e' := only z
        subst e'
        rw [hK (by rw [z]; exact fun y => nomatch y)] at q
        cases q
    have md : Mod K mg (hidT s₁.heap H) := by
      refine ⟨kB, nsB hns, ⟨mb, nsB hb, hbb⟩, ?_⟩
      obtain ⟨mc, h1, h2⟩ := hlim
      exact ⟨mc, nsB h1, h2⟩
    have en : Env0 P w K mg (hidT s₁.heap H) callerA [] s₁ H := {
      frames := rfl
      mod := md
      bs := fun b o q => of_hidT q
      bsz := Nat.le_of_eq (hidT_size _ _)
      funs := trivial
      frf := fun b hb => absurd (show b ∈ ([] : List Addr) from hb) (by simp)
      hok := hok
      bare := .of_eq hg }
    refine codeAny_mono ((F _ kB (nsB hns)).go callerA rfl [] s₁ H ⟨[.ref a], []⟩ [.ref a] [.ref a] _ _ hr en
      (hbind s₁ (.ref a)) (.cons rfl .nil) (hsp H hO hS)) ?_
    intro r s' h
    rcases r with er | (_ | _ | _ | u)
    · exact (hCX H er s' h).elim
    · exact h.elim
    · exact h.elim
    · exact h.elim
    · obtain ⟨v, H', os, bare, un, hok', r', q⟩ := h
      have q' : v = .bl true := q
      subst q'
      obtain rfl : u = Value.bool true := r'
      refine ⟨rfl, OldK.of_keep ?_, os, bare⟩
      intro b o q
      cases z : H b with
      | none => exact un.keep b o q z (fun y => absurd (show b ∈ ([] : List Addr) from y) (by simp)) (by simp)
      | some u =>
        rcases hO b with y | ⟨ob, xs, y⟩
        · rw [z] at y
          cases y
        · obtain ⟨e1, _⟩ := hok b _ y
          obtain ⟨e2, _⟩ := hok' b _ (un.frzs b ob _ y)
          rw [q] at e1
          cases e1
          exact e2
  cases hk : K.lookup a with
  | some o =>
    have q := KX a o hk
    rw [ha] at q
    cases q
    refine key (fun _ => none) (fun _ => .inl rfl) (.inr ⟨_, vs.toArray, _, hk, rfl, rfl, rfl, ?_, by simpa using rv⟩) ?_ (fun b z => absurd rfl z) fun z => absurd rfl z
    · rw [List.size_toArray, hi.length]
      exact hl
    · intro b u z
      cases (show (none : Option HO) = some u from z)
  | none =>
    let o0 : Obj := { cls := .type "list", data := .seq vs.toArray }
    let H0 : Hp := upd (fun _ => none) a (.frz o0 (.lst (ns.map V.int)))
    have h0 : ∀ b u, H0 b = some u → b = a ∧ u = .frz o0 (.lst (ns.map V.int)) := by
      intro b u z
      by_cases hb : b = a
      · subst hb
        refine ⟨rfl, ?_⟩
        rw [show H0 b = _ from upd_same] at z
        exact (Option.some.inj z).symm
      · rw [show H0 b = _ from upd_ne hb] at z
        cases z
    refine key H0 (fun b => ?_) (.inl (.inr ⟨o0, upd_same⟩)) (fun b u z => ?_) (fun b z => ?_) fun _ => hk
    · by_cases hb : b = a
      · subst hb
        exact .inr ⟨_, _, upd_same⟩
      · exact .inl (upd_ne hb)
    · obtain ⟨rfl, rfl⟩ := h0 b u z
      exact ⟨ha, by rw [List.length_map]; exact hl, vs, _, rv, ha⟩
    · cases q : H0 b with
      | none => exact absurd q z
      | some u => exact (h0 b u q).1
/-- the goal that the head leaves -/
theorem walkG {l : PySem.W.OpenLaw} {n k : Nat} {q : Program} {loose : List Str} {XP : (Str → Option Value) → Heap → Prop}
    {YP : World → Heap → Prop} {d : DefRec} {K : Params → PySem.W.Frag} {CX : CXT} {sp : PySem.W.Frag → Sp} {x : Str}
    (hn : l.most = some n) (hn2 : n ≤ sizeLine) (hdf : d.params.defaults = []) (hr : Room k callerA)
    (hY : ∀ (w : World) (h : Heap), YP w h → (K w.params).In h)
    (F : ∀ (w : World) (mg : Str → Option Value) (fa : Addr) (h : Heap), (K w.params).In h → h.Ns mainGlobals mg →
      mg d.name = some (.ref fa) → ∃ fd : FuncData, (∀ (s : Shared) (u : Value), BindsTo s fd ⟨[u], []⟩ [(x, u)]) ∧
        ∀ base : Heap, (K w.params).In base → base.Ns mainGlobals mg →
          FnG l.prog w (K w.params) mg base CX k fa fd [x] (sp (K w.params)))
    (hsp : ∀ (K : PySem.W.Frag) (H : Hp) (a : Addr) (ns : List Int), ns.length ≤ n → Only H → SqL K H a (ns.map V.int) →
      sp K [.ref a] H (fun v _ => v = .bl true) fun _ _ _ => False)
    (hCX : ∀ (H : Hp) (s : Shared) (e : Value) (s' : Shared), CX [] H s (fun _ _ _ => False) e s' → False) :
    PySem.W.WalkO q loose XP YP l.row.toRowW d [] (fun f vs => PySem.call f vs) := by
  refine Att.attach_call hn hdf ?_
  intro w s₀ s₁ mg mb fa o pm cd doc a vs ns G Y ho hd hcd hmg hobj hints hlen hg
  have KX := hY w _ Y
  obtain ⟨fd, hb, hF⟩ := F w mg fa _ KX G.T.g hmg
  exact lawG KX G.T.g G.T.b G.T.builtins G.T.nolimit hg hobj hints (Nat.le_trans hlen hn2) hr hF hb
    (fun H hO hS => hsp _ H a ns hlen hO hS) fun H e s' => hCX H s₁ e s'
end SQ
/-! repr of a list of data. -/
namespace SQ
open PySem PySem.Spec PyProof.Rows L2

mutual
theorem dp_plain {K : PySem.W.Frag} {H : Hp} : ∀ (d : PyData) (v : V), Dp K H v d → d.hasDict = false
  | .none, _, _ => by simp only [PyData.hasDict]
  | .bool _, _, _ => by simp only [PyData.hasDict]
  | .int _, _, _ => by simp only [PyData.hasDict]
  | .str _, _, _ => by simp only [PyData.hasDict]
  | .list ds, _, h => by
    cases h with
    | lst _ ha =>
      simp only [PyData.hasDict]
      exact dpAll_plain ds _ ha
  | .tuple ds, _, h => by
    cases h with
    | tup _ ha =>
      simp only [PyData.hasDict]
      exact dpAll_plain ds _ ha
  | .dict _, _, h => nomatch h
theorem dpAll_plain {K : PySem.W.Frag} {H : Hp} : ∀ (ds : List PyData) (vs : List V), DpAll K H vs ds → PyData.hasDictAll ds = false
  | [], _, _ => by simp only [PyData.hasDictAll]
  | d :: ds, _, h => by
    cases h with
    | cons h1 h2 =>
      simp only [PyData.hasDictAll, dp_plain d _ h1, dpAll_plain ds _ h2, Bool.or_false]
end

/-- None, a bool, an int, a text, an empty dict -/
inductive Flat (H : Hp) : V → PyData → Prop
  | non : Flat H .non .none
  | bl (b : Bool) : Flat H (.bl b) (.bool b)
  | int (i : Int) : Flat H (.int i) (.int i)
  | str (x : Str) : Flat H (.str x) (.str x)
  | dic {a : Addr} (h : H a = some (.dK [])) : Flat H (.ref a) (.dict [])
inductive FlatAll (H : Hp) : List V → List PyData → Prop
  | nil : FlatAll H [] []
  | cons {v : V} {vs : List V} {d : PyData} {ds : List PyData} : Flat H v d → FlatAll H vs ds → FlatAll H (v :: vs) (d :: ds)

section
variable {X : Cx} {pins : List (Addr × Obj)} {σ : L2.St} {H : Hp} {s : Shared}
theorem flat_reads (I : Inv X pins σ H s) {d : PyData} {v : V} {u : Value} (h : Flat H v d) (r : RelV v u) :
    ∃ as, Reads s.heap u d as ∧ sysModules ∉ as := by
  cases h with
  | non =>
    obtain rfl : u = Value.none := r
    exact ⟨_, Reads.none, by simp⟩
  | bl b =>
    obtain rfl : u = Value.bool b := r
    exact ⟨_, Reads.bool b, by simp⟩
  | int i =>
    obtain ⟨t, rfl⟩ := r
    exact ⟨_, Reads.int i t, by simp⟩
  | str x =>
    obtain ⟨t, rfl⟩ := r
    exact ⟨_, Reads.str x t, by simp⟩
  | @dic a ha =>
    obtain rfl : u = Value.ref a := r
    obtain ⟨_, na, vs, kv, o, es, ep, h1, h2, h3, h4⟩ := (show ObjOk X.prog X.w H s.heap a (.dK []) from I.hok a _ ha)
    cases kv
    have he : es.toList = [] := by
      have h5 := h4.2.1
      generalize es.toList = l at h5
      cases h5
      rfl
    refine ⟨a :: [] ++ [], Reads.dict (kvs := []) h1 h2.1 h3 (by rw [he]; exact .nil) (by rw [he]; exact .nil), ?_⟩
    intro hm
    have e : sysModules = a := by simpa using hm
    rw [← e] at na
    exact absurd na (by decide)
theorem flatAll_reads (I : Inv X pins σ H s) : ∀ {ds : List PyData} {vs : List V} {us : List Value}, FlatAll H vs ds → Vals vs us →
    ∃ as, ReadsAll s.heap us ds as ∧ sysModules ∉ as
  | _, _, _, .nil, .nil => ⟨[], .nil, by simp⟩
  | _, _, _, .cons h hs, .cons r rs => by
    obtain ⟨as, a1, a2⟩ := flat_reads I h r
    obtain ⟨bs, b1, b2⟩ := flatAll_reads I hs rs
    exact ⟨_, .cons a1 b1, fun hm => (List.mem_append.mp hm).elim a2 b2⟩
end

/-- repr of a list, its items ds -/
def rReprL (K : PySem.W.Frag) : List V → Hp → VK → Prop := fun xs H Q => ∃ (a : Addr) (vs : List V) (ds : List PyData), xs = [.ref a] ∧ SqL K H a vs ∧
  (DpAll K H vs ds ∨ FlatAll H vs ds) ∧ (PyData.list ds).showable = true ∧ (PyData.list ds).depth ≤ 60 ∧ (PyData.list ds).shown.length ≤ sizeLine ∧ Q (.str (PyData.list ds).shown) H
theorem cr_reprL {X : Cx} (hg : X.A.guards = some []) (hu : X.A.units + 64 < cLine) : CallR X (.builtin "repr") (rReprL X.K) := by
  intro pins s σ H xs us Q I r h
  obtain ⟨a, vs, ds, rfl, hL, hd, hs, hdp, hz, q⟩ := h
  obtain ⟨its, rv, ⟨o, n, e, c, _, dt⟩, _⟩ := I.list hL
  rw [Vals.ref1 r]
  have fin : ∀ (h' : Heap) (u tk : Nat), (∀ b o, s.heap.get? b = some o → h'.get? b = some o) → EP X pins σ Q (.str (PyData.list ds).shown u) { s with heap := h', toks := tk } :=
    fun h' u tk hk => ⟨.str _, H, I.kept hk, ⟨u, rfl⟩, q⟩
  rcases hd with hd | hd
  · obtain ⟨as, rd⟩ := Dp.reads I (.list ds) (.ref a) (.ref a) (.lst hL hd) rfl
    exact repr_of_reads' (h₀ := s.heap) rd hs (PyData.noDict_hsm (dp_plain _ _ (Dp.lst hL hd))) hg (by omega) (fun _ _ z => z) fin hz
  · obtain ⟨as, h4, hno⟩ := flatAll_reads I hd rv
    have hz' : (listText (PyData.shownAll ds)).length ≤ sizeLine := by simpa only [PyData.shown] using hz
    have hs' : PyData.showableAll ds = true := by simpa [PyData.showable] using hs
    obtain ⟨bs, hb, hk⟩ := ReprAllK.of_readsAll (prog := X.prog) (w := X.w) h4 hs' (fun _ => hno) (fun t ht => Nat.le_trans (listText_mem_le ht) hz')
    have whole : Reads s.heap (.ref a) (.list ds) (a :: as) := .list (vs := its.toArray) e c dt (by simpa using h4)
    have hna : a ∉ bs := not_mem_of_deeper whole (by simp only [PyData.depth]; omega) hb
    refine call_repr_slot (by omega) ⟨o, e, c⟩ F.slot_list_repr.toG ?_
    simp only [PyData.depth] at hdp
    have fin' : ∀ (h' : Heap) (u tk : Nat), (∀ b o, s.heap.get? b = some o → h'.get? b = some o) →
        (∃ x t, Value.str (listText (PyData.shownAll ds)) u = .str x t ∧ EP X pins σ Q (.str (listText (PyData.shownAll ds)) u) { s with heap := h', toks := tk }) :=
      fun h' u tk z => ⟨_, _, rfl, by have := fin h' u tk z; simpa only [PyData.shown] using this⟩
    cases its with
    | nil =>
      cases h4
      simp only [PyData.shownAll, listText_nil] at fin'
      exact call_list_repr_empty ⟨o, e, c⟩ e dt (fin' s.heap _ _ fun _ _ z => z)
    | cons y l =>
      exact call_list_reprK (h₀ := s.heap) e c dt hna (by simpa using hk.length_eq) (fun i y e => hk.item i y (by simpa using e)) hg (fun b _ => Clear.nil b)
        (by show X.A.units + 1 + (PyData.depthAll ds + 1) < cLine; omega) (fun _ _ z => z) fin' hz'
end SQ
namespace SQ1
open PySem L2 SQ
/-! ### the law's frame: the urn, the draws, the law itself -/
def top (i : Nat) : Stmt := PySem.Challenge.pw_stackquotes_k01_vocabularies_made.main.body.getD i (.Pass ⟨0, 0, 0, 0⟩)
abbrev sUrn : Stmt := top 24
abbrev sLot : Stmt := top 25
abbrev sOne : Stmt := top 26
abbrev sRight : Stmt := top 31
abbrev sLaw : Stmt := top 32
/-- the built-ins' names are still theirs -/
structure Blt (mg : Str → Option Value) : Prop where
  int : mg "int" = none
  len : mg "len" = none
  abs : mg "abs" = none
  divmod : mg "divmod" = none
  max : mg "max" = none
  min : mg "min" = none
  range : mg "range" = none
  all : mg "all" = none
/-- all that stood stands, but at u -/
def But (u : Addr) (H H' : Hp) : Prop := ∀ b o, H b = some o → b ≠ u → H' b = some o
theorem But.refl {u : Addr} {H : Hp} : But u H H := fun _ _ e _ => e
theorem But.trans {u : Addr} {H H1 H2 : Hp} (a : But u H H1) (b : But u H1 H2) : But u H H2 := fun c o e n => b c o (a c o e n) n
theorem But.new {u p : Addr} {H H' : Hp} {o : HO} (a : But u H H') (h : H' p = none) : But u H (upd H' p o) := fun c x e n => by
  have e1 := a c x e n
  rw [upd_ne (ne_of_none e1 h)]
  exact e1
theorem But.put {u : Addr} {H H' : Hp} {o : HO} (a : But u H H') : But u H (upd H' u o) := fun c x e n => by
  rw [upd_ne n]
  exact a c x e n
theorem Same.but {u : Addr} {H H' : Hp} (a : Same H H') : But u H H' := fun c x e _ => a c x e
theorem same_new {p : Addr} {H H' : Hp} {o : HO} (a : Same H H') (h : H' p = none) : Same H (upd H' p o) := fun c x e => by
  have e1 := a c x e
  rw [upd_ne (ne_of_none e1 h)]
  exact e1
theorem keptT {σ : St} {H : Hp} {A B : Hp → Prop} (h : A H) : tYes σ H (fun b H3 => if b = true then A H3 else B H3) := by
  show (if true = true then A H else B H)
  rw [if_pos rfl]
  exact h
def urnAt (H : Hp) (u : Addr) : Prop := ∃ x y z : Int, H u = some (.lst [.int x, .int y, .int z])
def spUrn (K : PySem.W.Frag) : Sp := fun vs H Q _ => ∃ (a : Addr) (ns : List Int) (k : Nat), vs = [.ref a, .int k] ∧ SqL K H a (ns.map V.int) ∧ k ≤ 63 ∧
  ∀ (H' : Hp) (p : Addr), Same H H' → H p = none → urnAt H' p → Q (.ref p) H'
def spLot : Sp := fun vs H Q _ => ∃ (u : Addr) (m : Int), vs = [.ref u, .int m] ∧ urnAt H u ∧ 0 < m ∧ m < 1073741824 ∧
  ∀ (H' : Hp) (d : Int), 0 ≤ d → d < m → urnAt H' u → But u H H' → Q (.int d) H'
def spOne (K : PySem.W.Frag) : Sp := fun vs H Q _ => ∃ (u t : Addr) (xs : List V), vs = [.ref u, .ref t] ∧ urnAt H u ∧ u ≠ t ∧ H t = some (.lst xs) ∧ 0 < xs.length ∧ xs.length ≤ 1000 ∧
  ∀ (H' : Hp) (i : Nat) (x : V), xs[i]? = some x → urnAt H' u → But u H H' → Q x H'
def spRight : Sp := fun vs H Q _ => ∃ u : Addr, vs = [.ref u] ∧ urnAt H u ∧ ∀ H' : Hp, But u H H' → Q (.bl true) H'
def spLaw (K : PySem.W.Frag) : Sp := fun vs H Q _ => ∃ (a : Addr) (ns : List Int), vs = [.ref a] ∧ SqL K H a (ns.map V.int) ∧ ns.length ≤ 63 ∧ ∀ H', Q (.bl true) H'
section
variable {P : Program} {w : World} {K : PySem.W.Frag} {mg : Str → Option Value} {base : Heap}
theorem scU : FnScope ["_law_script", "_law_k", "_law_mixed", "_law_entry", "_law_own"] ["_law_script", "_law_k"] (defScope sUrn) := ⟨rfl, rfl, rfl, by decide +kernel, rfl, by decide +kernel, by decide +kernel⟩
theorem ok_urn {f : Addr} {fd : FuncData} (F : Fun K "_law_urn" "_law_urn" sUrn f fd) (B : Blt mg) : FnOk P w K mg base CX0 1 f fd ["_law_script", "_law_k"] (spUrn K) := by
  refine F.ok scU (fun vs H Q E h => ?_) (fun cdv A outer s H vs Q E hr h => ?_)
  · obtain ⟨a, ns, k, rfl, _⟩ := h
    rfl
  · obtain ⟨a, ns, k, rfl, hS, hk, q⟩ := h
    refine ⟨_, pss_cons (ps_set (i := 2) scU.nd rfl (.inl rfl) (pe_op op_add pe_int (pe_op op_mul pe_int (pv 1))))
      (pss_cons (ps_for PassesOwn.never rfl (pi_list (pe_slice sl_list (pv 0) po_none (po_some pe_int))) (pg_name (i := 3) scU.nd rfl (.inl rfl))
        (pss_one (ps_set (i := 2) scU.nd rfl (.inl rfl) (pe_op op_mod (pe_callTy call_int1 (by rfl) B.int (by decide +kernel)
          (pa_cons (pe_op op_add (pe_op op_mul (pv 2) pe_int) (pe_op op_mod (pe_callTy call_int1 (by rfl) B.int (by decide +kernel) (pa_cons (pv 3) pa_nil)) pe_int)) pa_nil)) pe_int))))
      (pss_cons (ps_set (i := 4) scU.nd rfl (.inl rfl) (pe_ifExp (pt_cmpR op_lt (pv 1) (pe_callB call_len_seq (by rfl) B.len PySem.boot_len (pa_cons (pv 0) pa_nil)) (nomark _))
        (pe_callTy call_int1 (by rfl) B.int (by decide +kernel) (pa_cons (pe_ix ix_list (pv 0) (pv 1) (fun _ _ => rfl)) pa_nil))
        (pe_op op_add (pe_op op_mul pe_int (pv 1)) pe_int)))
      (pss_one (ps_ret (pe_lst (pa_cons (pe_ifExp (PW.pt (pw_or (pt_cmpR op_lt (pv 4) pe_int (nomark _)) (pw_or1 (pt_cmpR op_ge (pv 4) (pe_op op_pow pe_int pe_int) (nomark _)))))
          (pe_callB call_abs (by rfl) B.abs (by decide +kernel) (pa_cons (pv 4) pa_nil)) pe_int)
        (pa_cons (pe_op op_mod (pe_callTy call_int1 (by rfl) B.int (by decide +kernel) (pa_cons (pe_op op_add (pe_op op_mul (pv 2) pe_int) (pe_op op_mod (pv 4) pe_int)) pa_nil)) pe_int)
        (pa_cons pe_int pa_nil)))))))), ?_⟩
    -- mixed
    refine ⟨_, rfl, _, _, rfl, rfl, .inl ⟨by decide, by decide⟩, _, _, rfl, rfl, ?_⟩
    -- the slice
    refine ⟨_, rfl, _, rfl, a, _, rfl, hS, fun p hp => ?_⟩
    have hp' : SqL K (upd H p (.lst (cutV (ns.map V.int) none (some 14)))) p (cutV (ns.map V.int) none (some 14)) := SqL.of upd_same
    have s1 : Same H (upd H p (.lst (cutV (ns.map V.int) none (some 14)))) := same_new (fun _ _ e => e) hp
    refine ⟨p, rfl, ⟨_, hp'⟩, for_list (K := K) (a := p) (xs := cutV (ns.map V.int) none (some 14))
      (fun i σ H2 => ∃ (m : Int) (v : Option V), σ = [some (.ref a), some (.int k), some (.int m), v, none] ∧ H2 = upd H p (.lst (cutV (ns.map V.int) none (some 14))))
      ⟨_, _, rfl, rfl⟩ (fun i σ H2 _ ⟨_, _, _, e2⟩ => by rw [e2]; exact hp') ?_ ?_⟩
    · rintro i y σ H2 hi ⟨m, v, rfl, rfl⟩
      obtain ⟨z, rfl⟩ : ∃ z, y = V.int z := by
        have hm : y ∈ ns.map V.int := List.mem_of_mem_drop (List.mem_of_mem_take (List.mem_of_getElem? hi))
        obtain ⟨z, _, e⟩ := List.mem_map.mp hm
        exact ⟨z, e.symm⟩
      refine ⟨_, rfl, _, _, rfl, rfl, .inr ⟨by decide, by decide⟩, _, rfl, .inl ⟨_, rfl, _, _, rfl, rfl, (by show (0 : Int) < 1999999973; decide), _, _, rfl, rfl, .inl ⟨_, rfl, _, _, rfl, rfl, (by show (0 : Int) < 1999999973; decide), ?_⟩⟩⟩
      exact ⟨_, _, rfl, rfl⟩
    · rintro σ H2 ⟨m, v, rfl, rfl⟩
      have hS2 := s1.seq hS
      -- own
      refine ⟨_, rfl, _, rfl, a, _, rfl, .inl hS2, _, _, rfl, rfl, _, rfl, ?_⟩
      refine ite2 (fun hlt => ?_) (fun _ => ?_)
      · have hlt' : (k : Int) < ((ns.map V.int).length : Int) := of_decide_eq_true hlt
        have hk2 : k < ns.length := by rw [List.length_map] at hlt'; omega
        refine ⟨_, rfl, _, rfl, a, _, _, _, rfl, rfl, hS2, atI_nat (by rw [List.getElem?_map, List.getElem?_eq_getElem hk2]; rfl), .inl ⟨_, rfl, ?_⟩⟩
        refine ⟨_, rfl, _, _, rfl, rfl, _, rfl, ?_⟩
        refine ite2 (fun _ => iteT ?_) (fun _ => ⟨_, rfl, _, _, rfl, rfl, ⟨by decide, by decide, by decide⟩, _, _, rfl, rfl, _, rfl, ite2 (fun _ => ?_) (fun _ => ?_)⟩)
        · refine ⟨_, rfl, _, rfl, ?_⟩
          exact ⟨_, rfl, _, _, rfl, rfl, .inr ⟨by decide, by decide⟩, _, rfl, _, _, rfl, rfl, (by show (0 : Int) < 1999999973; decide), _, _, rfl, rfl, .inl ⟨_, rfl, _, _, rfl, rfl, (by show (0 : Int) < 1999999973; decide),
            (by show 3 ≤ sizeLine; decide), fun p2 hp2 => q _ p2 (same_new s1 hp2) (s1.free hp2) ⟨_, _, _, upd_same⟩⟩⟩
        · refine ⟨_, rfl, _, rfl, ?_⟩
          exact ⟨_, rfl, _, _, rfl, rfl, .inr ⟨by decide, by decide⟩, _, rfl, _, _, rfl, rfl, (by show (0 : Int) < 1999999973; decide), _, _, rfl, rfl, .inl ⟨_, rfl, _, _, rfl, rfl, (by show (0 : Int) < 1999999973; decide),
            (by show 3 ≤ sizeLine; decide), fun p2 hp2 => q _ p2 (same_new s1 hp2) (s1.free hp2) ⟨_, _, _, upd_same⟩⟩⟩
        · exact ⟨_, rfl, _, _, rfl, rfl, .inr ⟨by decide, by decide⟩, _, rfl, _, _, rfl, rfl, (by show (0 : Int) < 1999999973; decide), _, _, rfl, rfl, .inl ⟨_, rfl, _, _, rfl, rfl, (by show (0 : Int) < 1999999973; decide),
            (by show 3 ≤ sizeLine; decide), fun p2 hp2 => q _ p2 (same_new s1 hp2) (s1.free hp2) ⟨_, _, _, upd_same⟩⟩⟩
      · refine ⟨_, rfl, _, _, rfl, rfl, .inl ⟨by decide, by decide⟩, _, _, rfl, rfl, ?_⟩
        refine ⟨_, rfl, _, _, rfl, rfl, _, rfl, ?_⟩
        refine ite2 (fun _ => iteT ?_) (fun _ => ⟨_, rfl, _, _, rfl, rfl, ⟨by decide, by decide, by decide⟩, _, _, rfl, rfl, _, rfl, ite2 (fun _ => ?_) (fun _ => ?_)⟩)
        · refine ⟨_, rfl, _, rfl, ?_⟩
          exact ⟨_, rfl, _, _, rfl, rfl, .inr ⟨by decide, by decide⟩, _, rfl, _, _, rfl, rfl, (by show (0 : Int) < 1999999973; decide), _, _, rfl, rfl, .inl ⟨_, rfl, _, _, rfl, rfl, (by show (0 : Int) < 1999999973; decide),
            (by show 3 ≤ sizeLine; decide), fun p2 hp2 => q _ p2 (same_new s1 hp2) (s1.free hp2) ⟨_, _, _, upd_same⟩⟩⟩
        · refine ⟨_, rfl, _, rfl, ?_⟩
          exact ⟨_, rfl, _, _, rfl, rfl, .inr ⟨by decide, by decide⟩, _, rfl, _, _, rfl, rfl, (by show (0 : Int) < 1999999973; decide), _, _, rfl, rfl, .inl ⟨_, rfl, _, _, rfl, rfl, (by show (0 : Int) < 1999999973; decide),
            (by show 3 ≤ sizeLine; decide), fun p2 hp2 => q _ p2 (same_new s1 hp2) (s1.free hp2) ⟨_, _, _, upd_same⟩⟩⟩
        · exact ⟨_, rfl, _, _, rfl, rfl, .inr ⟨by decide, by decide⟩, _, rfl, _, _, rfl, rfl, (by show (0 : Int) < 1999999973; decide), _, _, rfl, rfl, .inl ⟨_, rfl, _, _, rfl, rfl, (by show (0 : Int) < 1999999973; decide),
            (by show 3 ≤ sizeLine; decide), fun p2 hp2 => q _ p2 (same_new s1 hp2) (s1.free hp2) ⟨_, _, _, upd_same⟩⟩⟩
theorem scLo : FnScope ["_law_urn_here", "_law_many", "_law_digit"] ["_law_urn_here", "_law_many"] (defScope sLot) := ⟨rfl, rfl, rfl, by decide +kernel, rfl, by decide +kernel, by decide +kernel⟩
theorem ok_lot {f : Addr} {fd : FuncData} (F : Fun K "_law_lot" "_law_lot" sLot f fd) (B : Blt mg) : FnOk P w K mg base CX0 1 f fd ["_law_urn_here", "_law_many"] spLot := by
  refine F.ok scLo (fun vs H Q E h => ?_) (fun cdv A outer s H vs Q E hr h => ?_)
  · obtain ⟨u, m, rfl, _⟩ := h
    rfl
  · obtain ⟨u, m, rfl, ⟨x, y, z, hu⟩, m0, m1, q⟩ := h
    refine ⟨_, pss_cons (ps_if (pt_cmpR op_gt (pe_ix ix_list (pv 0) pe_int (fun _ _ => rfl)) pe_int (nomark _))
        (pss_cons (ps_asg (pe_callB call_divmod (by rfl) B.divmod (by decide +kernel) (pa_cons (pe_callTy call_int1 (by rfl) B.int (by decide +kernel) (pa_cons (pe_ix ix_list (pv 0) pe_int (fun _ _ => rfl)) pa_nil)) (pa_cons (pv 1) pa_nil)))
          (pg_tup rfl (pgs_cons (pg_sub (pv 0) pe_int set_list) (pgs_cons (pg_name (i := 2) scLo.nd rfl (.inl rfl)) pgs_nil))))
        (pss_one (ps_ret (pv 2)))) pss_nil)
      (pss_cons (ps_asg (pe_op op_add (pe_ix ix_list (pv 0) pe_int (fun _ _ => rfl)) pe_int) (pg_sub (pv 0) pe_int set_list))
      (pss_cons (ps_asg (pe_op op_mod (pe_callTy call_int1 (by rfl) B.int (by decide +kernel) (pa_cons (pe_op op_add (pe_op op_add (pe_op op_mul (pe_ix ix_list (pv 0) pe_int (fun _ _ => rfl)) pe_int)
          (pe_op op_mul (pe_op op_fdiv (pe_ix ix_list (pv 0) pe_int (fun _ _ => rfl)) pe_int) pe_int)) (pe_op op_mul pe_int (pe_ix ix_list (pv 0) pe_int (fun _ _ => rfl)))) pa_nil)) pe_int) (pg_sub (pv 0) pe_int set_list))
      (pss_one (ps_ret (pe_op op_mod (pe_callTy call_int1 (by rfl) B.int (by decide +kernel) (pa_cons (pe_op op_fdiv (pe_ix ix_list (pv 0) pe_int (fun _ _ => rfl)) pe_int) pa_nil)) (pv 1)))))), ?_⟩
    refine ⟨_, rfl, u, _, _, _, rfl, rfl, SqL.of hu, rfl, _, _, rfl, rfl, _, rfl, ?_⟩
    refine ite2 (fun _ => ?_) (fun _ => ?_)
    · refine ⟨_, rfl, u, _, _, _, rfl, rfl, SqL.of hu, rfl, .inl ⟨_, rfl, _, rfl, _, _, rfl, ⟨m0, m1⟩, fun p hp => ?_⟩⟩
      have hup : u ≠ p := ne_of_none hu hp
      refine ⟨p, _, rfl, SqT.of upd_same, rfl, _, _, rfl, ⟨_, rfl, u, _, _, 0, rfl, rfl, by rw [upd_ne hup]; exact hu, rfl, _, _, rfl, rfl, ?_⟩⟩
      refine ⟨_, rfl, q _ _ (Int.emod_nonneg _ (by omega)) (Int.emod_lt_of_pos _ m0) ⟨_, _, _, upd_same⟩ ((But.refl.new hp).put)⟩
    · refine ⟨_, rfl, u, _, _, _, rfl, rfl, SqL.of hu, rfl, _, _, rfl, rfl, _, rfl, u, _, _, 2, rfl, rfl, hu, rfl, ?_⟩
      have h1 : (upd H u (.lst ([V.int x, V.int y, V.int z].set 2 (V.int (z + 1))))) u = some (.lst [V.int x, V.int y, V.int (z + 1)]) := upd_same
      refine ⟨_, rfl, u, _, _, _, rfl, rfl, SqL.of h1, rfl, _, _, rfl, rfl, .inr ⟨by decide, by decide⟩,
        _, rfl, u, _, _, _, rfl, rfl, SqL.of h1, rfl, _, _, rfl, rfl, ⟨by decide, by decide⟩, _, _, rfl, rfl, .inr ⟨by decide, by decide⟩, _, _, rfl, rfl,
        _, rfl, u, _, _, _, rfl, rfl, SqL.of h1, rfl, _, _, rfl, rfl, .inl ⟨by decide, by decide⟩, _, _, rfl, rfl,
        .inl ⟨_, rfl, _, _, rfl, rfl, (by show (0 : Int) < 1999999973; decide), _, rfl, u, _, _, 1, rfl, rfl, h1, rfl, ?_⟩⟩
      refine ⟨_, rfl, u, _, _, _, rfl, rfl, SqL.of upd_same, rfl, _, _, rfl, rfl, ⟨by decide, by decide⟩, .inl ⟨_, rfl, _, rfl, _, _, rfl, rfl, m0, ?_⟩⟩
      exact q _ _ (Int.emod_nonneg _ (by omega)) (Int.emod_lt_of_pos _ m0) ⟨_, _, _, upd_same⟩ (But.refl.put.put)
theorem scO : FnScope ["_law_urn_here", "_law_things"] ["_law_urn_here", "_law_things"] (defScope sOne) := ⟨rfl, rfl, rfl, by decide +kernel, rfl, by decide +kernel, by decide +kernel⟩
/-- the draws stand where they stand -/
structure Drw (K : PySem.W.Frag) (mg : Str → Option Value) (fL fO : Addr) (fdL fdO : FuncData) : Prop where
  gL : mg "_law_lot" = some (.ref fL)
  FL : Fun K "_law_lot" "_law_lot" sLot fL fdL
  bL : Binds K fdL ["_law_urn_here", "_law_many"] []
  gO : mg "_law_one" = some (.ref fO)
  FO : Fun K "_law_one" "_law_one" sOne fO fdO
  bO : Binds K fdO ["_law_urn_here", "_law_things"] []
theorem ok_one {fL fO : Addr} {fdL fdO : FuncData} (D : Drw K mg fL fO fdL fdO) (B : Blt mg) : FnOk P w K mg base CX0 2 fO fdO ["_law_urn_here", "_law_things"] (spOne K) := by
  have GL : FnOk P w K mg base CX0 1 fL fdL ["_law_urn_here", "_law_many"] spLot := ok_lot D.FL B
  refine D.FO.ok scO (fun vs H Q E h => ?_) (fun cdv A outer s H vs Q E hr h => ?_)
  · obtain ⟨u, t, xs, rfl, _⟩ := h
    rfl
  · obtain ⟨u, t, xs, rfl, hu, nut, ht, x0, x1, q⟩ := h
    refine ⟨_, pss_one (ps_ret (pe_ix ix_list (pv 1) (pe_call GL hr rfl D.gL D.FL.kp D.bL .nil pass0 (pa_cons (pv 0) (pa_cons (pe_callB call_len_seq (by rfl) B.len PySem.boot_len (pa_cons (pv 1) pa_nil)) pa_nil))) (fun _ _ => rfl))), ?_⟩
    refine ⟨_, rfl, _, rfl, _, rfl, t, xs, rfl, .inl (SqL.of ht), u, _, rfl, hu, by omega, by omega, fun H1 d d0 d1 hu1 bt => ?_⟩
    have ht1 := bt t _ ht (Ne.symm nut)
    obtain ⟨i, rfl⟩ : ∃ i : Nat, d = i := ⟨d.toNat, by omega⟩
    have hi : i < xs.length := by omega
    have hx : xs[i]? = some xs[i] := List.getElem?_eq_getElem hi
    exact ⟨t, xs, _, _, rfl, rfl, SqL.of ht1, atI_nat hx, q H1 i _ hx hu1 bt⟩
theorem scLaw : FnScope ["_law_script", "_law_k"] ["_law_script"] (defScope sLaw) := ⟨rfl, rfl, rfl, by decide +kernel, rfl, by decide +kernel, by decide +kernel⟩
theorem ok_law {f fU fR : Addr} {fd fdU fdR : FuncData} {j : Nat} (F : Fun K "law" "law" sLaw f fd) (B : Blt mg) (gU : mg "_law_urn" = some (.ref fU)) (FU : Fun K "_law_urn" "_law_urn" sUrn fU fdU) (bU : Binds K fdU ["_law_script", "_law_k"] [])
    (gR : mg "_law_right" = some (.ref fR)) (kR : PySem.W.keepIn K (.ref fR) = true) (bR : Binds K fdR ["_law_urn_here"] []) (GR : FnG P w K mg base CX0 (j + 1) fR fdR ["_law_urn_here"] spRight) : FnG P w K mg base CX0 (j + 2) f fd ["_law_script"] (spLaw K) := by
  have GU : FnOk P w K mg base CX0 1 fU fdU ["_law_script", "_law_k"] (spUrn K) := ok_urn FU B
  refine okG F scLaw (fun vs H Q E h => ?_) (fun cdv A outer s H vs Q E hgd hr h => ?_)
  · obtain ⟨a, ns, rfl, _⟩ := h
    rfl
  · obtain ⟨a, ns, rfl, hS, hlen, q⟩ := h
    refine ⟨_, pss_one (ps_ret (pe_callB (cr_all rfl) (by rfl) B.all (by decide +kernel) (pa_cons (pe_lc (own := [("_law_k", 1)]) (g := gName 1) (tt := tYes) rfl scLaw.nd
      (pi_range1 (by rfl) B.range (pa_cons (pe_callB (call_max2 rfl) (by rfl) B.max (by decide +kernel) (pa_cons pe_int (pa_cons (pe_callB (call_min2 rfl) (by rfl) B.min (by decide +kernel)
        (pa_cons (pe_callB call_len_seq (by rfl) B.len PySem.boot_len (pa_cons (pv 0) pa_nil)) (pa_cons pe_int pa_nil))) pa_nil))) pa_nil))
      (blkOk_by (N := ["_law_script", "_law_k"]) (sc := defScope sLaw) (by decide +kernel)) (fun _ _ _ _ _ => pg_name (i := 1) scLaw.nd rfl (Or.inl rfl)) (fun _ _ _ _ _ => pts_nil)
      (fun _ _ _ _ _ => pe_callG GR hgd hr rfl gR kR bR pass0 (pa_cons (pe_call GU (hr.mono (by omega)) rfl gU FU.kp bU .nil pass0 (pa_cons (pv 0) (pa_cons (pv 1) pa_nil))) pa_nil))) pa_nil))), ?_⟩
    refine ⟨_, rfl, a, _, rfl, .inl hS, _, _, rfl, _, _, rfl, ?_⟩
    generalize hj : (if (if (6 : Int) < ((ns.map V.int).length : Int) then (6 : Int) else ((ns.map V.int).length : Int)) > 2 then (if (6 : Int) < ((ns.map V.int).length : Int) then (6 : Int) else ((ns.map V.int).length : Int)) else 2) = n
    have hn : 0 ≤ n ∧ n ≤ 6 := by
      rw [← hj]
      split <;> split <;> omega
    refine ⟨n, rfl, by omega, by omega, fun D hD => ?_⟩
    refine lc_range (lo := 0) (n := n.toNat) (fun i H2 => Same H H2 ∧ H2 D = some (.lst ((List.replicate i true).map V.bl))) ⟨same_new (fun _ _ e => e) hD, upd_same⟩ ?_ ?_
    · rintro i H2 hi ⟨s2, hD2⟩
      refine ⟨rfl, keptT ?_⟩
      refine ⟨_, rfl, _, rfl, a, ns, i, by rw [Int.zero_add]; rfl, s2.seq hS, by omega, fun H3 p s3 np hp => ?_⟩
      refine ⟨p, rfl, hp, fun H4 b4 => ?_⟩
      have hD4 : H4 D = some (.lst ((List.replicate i true).map V.bl)) := b4 D _ (s3 D _ hD2) (ne_of_none hD2 np)
      refine ⟨_, hD4, small1000 (by rw [List.length_map, List.length_replicate]; omega), fun b o e => ?_, ?_⟩
      · have hb : b ≠ D := ne_of_none e hD
        have e2 := s2 b o e
        rw [upd_ne hb]
        exact b4 b o (s3 b o e2) (ne_of_none e2 np)
      · rw [upd_same, List.replicate_succ', List.map_append]
        rfl
    · rintro H2 ⟨s2, hD2⟩
      refine ⟨D, _, rfl, SqL.of hD2, ?_⟩
      have e : (List.replicate n.toNat true).all id = true := by
        rw [List.all_eq_true]
        intro x hx
        exact (List.eq_of_mem_replicate hx)
      rw [e]
      exact q H2
end
end SQ1
namespace SQ1
open PySem L2 SQ
abbrev sPI : Stmt := top 9
abbrev sNm : Stmt := top 10
abbrev sFN : Stmt := top 11
abbrev sAr : Stmt := top 16
abbrev sEn : Stmt := top 17
/-- the kinds of values that come here -/
inductive Kd (H : Hp) : V → String → Prop
  | non : Kd H .non "NoneType"
  | bl (b : Bool) : Kd H (.bl b) "bool"
  | int (i : Int) : Kd H (.int i) "int"
  | str (x : Str) (h : x.length ≤ 1000) : Kd H (.str x) "str"
  | lst {a : Addr} {xs : List V} (e : H a = some (.lst xs)) : Kd H (.ref a) "list"
  | tup {a : Addr} {xs : List V} (e : H a = some (.tup xs)) : Kd H (.ref a) "tuple"
  | dic {a : Addr} {kvs : List (Key × V)} (e : H a = some (.dK kvs)) : Kd H (.ref a) "dict"
theorem Kd.ty {K : PySem.W.Frag} {H : Hp} {v : V} {t : String} (k : Kd H v t) : TyX K H v (.type t) := by
  cases k with
  | non => exact .base .non
  | bl b => exact .base (.bl b)
  | int i => exact .base (.int i)
  | str x h => exact .base (.str x)
  | lst e => exact .base (.lst e)
  | tup e => exact .base (.tup e)
  | dic e => exact .base (.dK e)
theorem Kd.same {H H' : Hp} {v : V} {t : String} (s : Same H H') (k : Kd H v t) : Kd H' v t := by
  cases k with
  | non => exact .non
  | bl b => exact .bl b
  | int i => exact .int i
  | str x h => exact .str x h
  | lst e => exact .lst (s _ _ e)
  | tup e => exact .tup (s _ _ e)
  | dic e => exact .dic (s _ _ e)
/-- isinstance(x, n) -/
theorem isi_ok {K : PySem.W.Frag} {H : Hp} {v : V} {t n : String} {b : Bool} {Q : VK} (k : Kd H v t) (h : kitB t n = some b) (q : Q (.bl b) H) : rIsi K [v, .ty n] H Q := ⟨v, .ty n, .type t, .type n, b, rfl, .ty n, k.ty, kit_ty h, q⟩
def isInt : V → Bool
  | .int _ => true
  | _ => false
def letters : List Nat := [97, 98, 99, 100, 101, 102, 103, 104, 105, 106, 107, 108, 109, 110, 111, 112, 113, 114, 115, 116, 117, 118, 119, 120, 121, 122]
def nameOk (n : Str) : Bool := decide (1 ≤ (n.length : Int)) && decide ((n.length : Int) ≤ 8) && n.cps.toList.all fun c => decide (c ∈ letters)
def isNm : V → Bool
  | .str n => nameOk n
  | _ => false
def cores : List Str := ["call", "dip", "curry", "compose", "choose"]
def isFree : V → Bool
  | .str n => nameOk n && !decide (n ∈ cores)
  | _ => false
def isAr : V → Bool
  | .int i => decide (0 ≤ i) && decide (i ≤ 3)
  | _ => false
structure B2 (mg : Str → Option Value) : Prop where
  isi : mg "isinstance" = none
  int : mg "int" = none
  bool : mg "bool" = none
  str : mg "str" = none
  tuple : mg "tuple" = none
  len : mg "len" = none
  all : mg "all" = none
  lets : ∃ t, mg "LETTERS" = some (.str "abcdefghijklmnopqrstuvwxyz" t)
  longest : ∃ t, mg "LONGEST_NAME" = some (.int 8 t)
  ar : ∃ t, mg "MOST_ARITY" = some (.int 3 t)
section
variable {P : Program} {w : World} {K : PySem.W.Frag} {mg : Str → Option Value} {base : Heap}
def spV (f : V → Bool) : Sp := fun vs H Q _ => ∃ (v : V) (t : String), vs = [v] ∧ Kd H v t ∧ ∀ H', Same H H' → Q (.bl (f v)) H'
theorem scPI : FnScope ["value"] ["value"] (defScope sPI) := ⟨rfl, rfl, rfl, by decide +kernel, rfl, by decide +kernel, by decide +kernel⟩
theorem ok_pi {f : Addr} {fd : FuncData} (F : Fun K "is_plain_integer" "is_plain_integer" sPI f fd) (B : B2 mg) : FnOk P w K mg base CX0 1 f fd ["value"] (spV isInt) := by
  refine F.ok scPI (fun vs H Q E h => ?_) (fun cdv A outer s H vs Q E hr h => ?_)
  · obtain ⟨v, t, rfl, _⟩ := h
    rfl
  · obtain ⟨v, t, rfl, k, q⟩ := h
    have q0 := q H (fun _ _ e => e)
    refine ⟨_, pss_one (ps_ret (pe_and (pe_callB call_isi (by rfl) B.isi (by decide +kernel) (pa_cons (pv 0) (pa_cons (pe_bltn (v := .ty "int") (by rfl) B.int (by decide +kernel) rfl) pa_nil)))
      (pe_one (pe_not (pe_callB call_isi (by rfl) B.isi (by decide +kernel) (pa_cons (pv 0) (pa_cons (pe_bltn (v := .ty "bool") (by rfl) B.bool (by decide +kernel) rfl) pa_nil))))))), ?_⟩
    refine ⟨_, rfl, ?_⟩
    cases k with
    | non => exact ⟨_, _, _, _, false, rfl, .ty "int", Kd.non.ty, kit_ty (by decide +kernel), _, rfl, iteF q0⟩
    | bl b => exact ⟨_, _, _, _, true, rfl, .ty "int", (Kd.bl b).ty, kit_ty (by decide +kernel), _, rfl, iteT ⟨_, rfl, _, _, _, _, true, rfl, .ty "bool", (Kd.bl b).ty, kit_ty (by decide +kernel), _, rfl, q0⟩⟩
    | int i => exact ⟨_, _, _, _, true, rfl, .ty "int", (Kd.int i).ty, kit_ty (by decide +kernel), _, rfl, iteT ⟨_, rfl, _, _, _, _, false, rfl, .ty "bool", (Kd.int i).ty, kit_ty (by decide +kernel), _, rfl, q0⟩⟩
    | str x hx => exact ⟨_, _, _, _, false, rfl, .ty "int", (Kd.str x hx).ty, kit_ty (by decide +kernel), _, rfl, iteF q0⟩
    | lst e => exact ⟨_, _, _, _, false, rfl, .ty "int", (Kd.lst e).ty, kit_ty (by decide +kernel), _, rfl, iteF q0⟩
    | tup e => exact ⟨_, _, _, _, false, rfl, .ty "int", (Kd.tup e).ty, kit_ty (by decide +kernel), _, rfl, iteF q0⟩
    | dic e => exact ⟨_, _, _, _, false, rfl, .ty "int", (Kd.dic e).ty, kit_ty (by decide +kernel), _, rfl, iteF q0⟩
theorem scNm : FnScope ["value", "letter"] ["value"] (defScope sNm) := ⟨rfl, rfl, rfl, by decide +kernel, rfl, by decide +kernel, by decide +kernel⟩
theorem ok_nm {f : Addr} {fd : FuncData} (F : Fun K "is_name" "is_name" sNm f fd) (B : B2 mg) : FnOk P w K mg base CX0 1 f fd ["value"] (spV isNm) := by
  obtain ⟨t1, hlet⟩ := B.lets
  obtain ⟨t2, hlon⟩ := B.longest
  refine F.ok scNm (fun vs H Q E h => ?_) (fun cdv A outer s H vs Q E hr h => ?_)
  · obtain ⟨v, t, rfl, _⟩ := h
    rfl
  · obtain ⟨v, t, rfl, k, q⟩ := h
    have q0 := q H (fun _ _ e => e)
    refine ⟨_, pss_cons (ps_if (PW.pt (pw_or (pt_not (pt_val (pe_callB call_isi (by rfl) B.isi (by decide +kernel) (pa_cons (pv 0) (pa_cons (pe_bltn (v := .ty "str") (by rfl) B.str (by decide +kernel) rfl) pa_nil)))))
        (pw_or1 (pt_not (pt_chain op_le op_le pe_int (pe_callB call_len_str (by rfl) B.len PySem.boot_len (pa_cons (pv 0) pa_nil)) (pe_glob (v := .int 8) rfl hlon ⟨_, rfl⟩))))))
        (pss_one (ps_ret pe_bl)) pss_nil)
      (pss_one (ps_ret (pe_callB (cr_all rfl) (by rfl) B.all (by decide +kernel) (pa_cons (pe_lc (own := [("letter", 1)]) (g := gName 1) (tt := tYes) rfl scNm.nd (pi_str (pv 0)) (blkOk_by (N := ["value", "letter"]) (sc := defScope sNm) (by decide +kernel))
        (fun _ _ _ _ _ => pg_name (i := 1) scNm.nd rfl (Or.inl rfl)) (fun _ _ _ _ _ => pts_nil) (fun _ _ _ _ _ => pe_cmpR op_in_sign (pv 1) (pe_glob (v := .str "abcdefghijklmnopqrstuvwxyz") rfl hlet ⟨_, rfl⟩) rfl)) pa_nil)))), ?_⟩
    refine ⟨_, rfl, ?_⟩
    cases k with
    | non => exact ⟨_, _, _, _, false, rfl, .ty "str", Kd.non.ty, kit_ty (by decide +kernel), _, rfl, iteT (iteT q0)⟩
    | bl b => exact ⟨_, _, _, _, false, rfl, .ty "str", (Kd.bl b).ty, kit_ty (by decide +kernel), _, rfl, iteT (iteT q0)⟩
    | int i => exact ⟨_, _, _, _, false, rfl, .ty "str", (Kd.int i).ty, kit_ty (by decide +kernel), _, rfl, iteT (iteT q0)⟩
    | lst e => exact ⟨_, _, _, _, false, rfl, .ty "str", (Kd.lst e).ty, kit_ty (by decide +kernel), _, rfl, iteT (iteT q0)⟩
    | tup e => exact ⟨_, _, _, _, false, rfl, .ty "str", (Kd.tup e).ty, kit_ty (by decide +kernel), _, rfl, iteT (iteT q0)⟩
    | dic e => exact ⟨_, _, _, _, false, rfl, .ty "str", (Kd.dic e).ty, kit_ty (by decide +kernel), _, rfl, iteT (iteT q0)⟩
    | str x hx =>
      refine ⟨_, _, _, _, true, rfl, .ty "str", (Kd.str x hx).ty, kit_ty (by decide +kernel), _, rfl, iteF ?_⟩
      have hx' : x.length ≤ sizeLine := Nat.le_of_lt (small1000 hx)
      refine ⟨_, rfl, x, rfl, hx', _, _, rfl, rfl, _, rfl, ?_⟩
      refine ite2 (fun h1 => ⟨_, _, rfl, rfl, _, rfl, ?_⟩) (fun h1 => ⟨_, rfl, iteT ?_⟩)
      · by_cases h8 : (x.length : Int) ≤ 8
        · rw [decide_eq_true h8]
          refine iteF ?_
          have hq : isNm (.str x) = x.cps.toList.all fun c => decide (c ∈ letters) := by
            show (decide (1 ≤ (x.length : Int)) && decide ((x.length : Int) ≤ 8) && x.cps.toList.all fun c => decide (c ∈ letters)) = _
            rw [h1, decide_eq_true h8]
            rfl
          rw [hq] at q
          refine ⟨_, rfl, x, rfl, fun D hD => ?_⟩
          refine lc_it (walk_str (z := x)) (fun i H2 => H2 = upd H D (.lst (((x.cps.toList.take i).map fun c => decide (c ∈ letters)).map V.bl))) rfl (fun _ _ _ _ => trivial) ?_ ?_
          · rintro i v H2 H3 hi rfl ⟨rfl, c, hc, rfl⟩
            refine ⟨rfl, keptT ⟨_, rfl, c, _, rfl, rfl, _, upd_same, small1000 ?_, ?_⟩⟩
            · have hz : x.cps.toList.length ≤ 1000 := hx
              rw [List.length_map, List.length_map, List.length_take]
              exact Nat.le_trans (Nat.min_le_right _ _) hz
            · have e1 : (("abcdefghijklmnopqrstuvwxyz" : Str).cps.toList) = letters := by decide +kernel
              have e2 : x.cps.toList.take (i + 1) = x.cps.toList.take i ++ [c] := by
                rw [List.take_add_one]
                have : x.cps.toList[i]? = some c := by simpa using hc
                rw [this]
                rfl
              rw [upd_upd, e1, e2, List.map_append, List.map_append]
              rfl
          · rintro H2 rfl
            refine ⟨D, _, rfl, SqL.of upd_same, ?_⟩
            have e3 : ((x.cps.toList.take x.cps.size).map fun c => decide (c ∈ letters)).all id = x.cps.toList.all fun c => decide (c ∈ letters) := by
              rw [List.all_map, show x.cps.size = x.cps.toList.length from rfl, List.take_length]
              rfl
            rw [e3]
            exact q _ (same_new (fun _ _ e => e) hD)
        · rw [decide_eq_false h8]
          refine iteT ?_
          have hq : isNm (.str x) = false := by
            show (decide (1 ≤ (x.length : Int)) && decide ((x.length : Int) ≤ 8) && x.cps.toList.all fun c => decide (c ∈ letters)) = _
            rw [decide_eq_false h8, Bool.and_false]
            rfl
          rw [hq] at q0
          exact q0
      · have h1' : decide (1 ≤ (x.length : Int)) = false := Bool.eq_false_iff.mpr h1
        have hq : isNm (.str x) = false := by
          show (decide (1 ≤ (x.length : Int)) && decide ((x.length : Int) ≤ 8) && x.cps.toList.all fun c => decide (c ∈ letters)) = _
          rw [h1']
          rfl
        rw [hq] at q0
        exact q0
/-- where the helpers stand -/
structure D2 (K : PySem.W.Frag) (mg : Str → Option Value) (fP fN fF fA fE : Addr) (dP dN dF dA dE : FuncData) : Prop where
  gP : mg "is_plain_integer" = some (.ref fP)
  FP : Fun K "is_plain_integer" "is_plain_integer" sPI fP dP
  bP : Binds K dP ["value"] []
  gN : mg "is_name" = some (.ref fN)
  FN : Fun K "is_name" "is_name" sNm fN dN
  bN : Binds K dN ["value"] []
  gF : mg "is_free_name" = some (.ref fF)
  FF : Fun K "is_free_name" "is_free_name" sFN fF dF
  bF : Binds K dF ["value"] []
  gA : mg "is_arity" = some (.ref fA)
  FA : Fun K "is_arity" "is_arity" sAr fA dA
  bA : Binds K dA ["value"] []
  gE : mg "is_entry" = some (.ref fE)
  FE : Fun K "is_entry" "is_entry" sEn fE dE
  bE : Binds K dE ["value"] []
/-- CORE_WORDS -/
structure Core (K : PySem.W.Frag) (mg : Str → Option Value) (tC : Addr) : Prop where
  g : mg "CORE_WORDS" = some (.ref tC)
  at_ : ∀ H : Hp, SqT K H tC (cores.map V.str)
theorem inV_strs (x : Str) : ∀ l : List Str, inV (.str x) (l.map V.str) = decide (x ∈ l)
  | [] => rfl
  | y :: l => by
    have ih := inV_strs x l
    unfold inV at ih ⊢
    rw [List.map_cons, List.any_cons, ih]
    by_cases h : y = x
    · subst h
      simp [eqV]
    · have h' : ¬ x = y := fun e => h e.symm
      simp [eqV, h, h']
theorem inV_cores {x : Str} : inV (.str x) (cores.map V.str) = decide (x ∈ cores) := inV_strs x cores
variable {fP fN fF fA fE tC : Addr} {dP dN dF dA dE : FuncData}
theorem scFN : FnScope ["value"] ["value"] (defScope sFN) := ⟨rfl, rfl, rfl, by decide +kernel, rfl, by decide +kernel, by decide +kernel⟩
theorem ok_fn (D : D2 K mg fP fN fF fA fE dP dN dF dA dE) (B : B2 mg) (C : Core K mg tC) : FnOk P w K mg base CX0 2 fF dF ["value"] (spV isFree) := by
  have GN : FnOk P w K mg base CX0 1 fN dN ["value"] (spV isNm) := ok_nm D.FN B
  refine D.FF.ok scFN (fun vs H Q E h => ?_) (fun cdv A outer s H vs Q E hr h => ?_)
  · obtain ⟨v, t, rfl, _⟩ := h
    rfl
  · obtain ⟨v, t, rfl, k, q⟩ := h
    refine ⟨_, pss_one (ps_ret (pe_and (pe_call GN hr rfl D.gN D.FN.kp D.bN .nil pass0 (pa_cons (pv 0) pa_nil)) (pe_one (pe_cmpR op_notIn_seq (pv 0) (pe_glob (v := .ref tC) rfl C.g rfl) (by rfl))))), ?_⟩
    refine ⟨_, rfl, v, t, rfl, k, fun H1 s1 => ⟨_, rfl, ?_⟩⟩
    have q1 := q H1 s1
    cases k with
    | str x hx =>
      cases hn : nameOk x with
      | false =>
        have e : isFree (.str x) = false := by
          show (nameOk x && !decide (x ∈ cores)) = false
          rw [hn]
          rfl
        rw [e] at q1
        rw [show isNm (.str x) = false from hn]
        exact iteF q1
      | true =>
        rw [show isNm (.str x) = true from hn]
        refine iteT ⟨_, rfl, tC, _, rfl, .inr (C.at_ H1), rfl, ?_, ?_⟩
        · decide
        · have e : (!inV (.str x) (cores.map V.str)) = isFree (.str x) := by
            show _ = (nameOk x && !decide (x ∈ cores))
            rw [hn, Bool.true_and]
            rw [inV_cores]
          show Q (.bl (!inV (.str x) (cores.map V.str))) H1
          rw [e]
          exact q1
    | non => exact iteF q1
    | bl b => exact iteF q1
    | int i => exact iteF q1
    | lst e => exact iteF q1
    | tup e => exact iteF q1
    | dic e => exact iteF q1
theorem scAr : FnScope ["value"] ["value"] (defScope sAr) := ⟨rfl, rfl, rfl, by decide +kernel, rfl, by decide +kernel, by decide +kernel⟩
theorem ok_ar (D : D2 K mg fP fN fF fA fE dP dN dF dA dE) (B : B2 mg) : FnOk P w K mg base CX0 2 fA dA ["value"] (spV isAr) := by
  have GP : FnOk P w K mg base CX0 1 fP dP ["value"] (spV isInt) := ok_pi D.FP B
  obtain ⟨t3, har⟩ := B.ar
  refine D.FA.ok scAr (fun vs H Q E h => ?_) (fun cdv A outer s H vs Q E hr h => ?_)
  · obtain ⟨v, t, rfl, _⟩ := h
    rfl
  · obtain ⟨v, t, rfl, k, q⟩ := h
    refine ⟨_, pss_one (ps_ret (pe_and (pe_call GP hr rfl D.gP D.FP.kp D.bP .nil pass0 (pa_cons (pv 0) pa_nil)) (pe_one (pe_chain op_le op_le pe_int (pv 0) (pe_glob (v := .int 3) rfl har ⟨_, rfl⟩))))), ?_⟩
    refine ⟨_, rfl, v, t, rfl, k, fun H1 s1 => ⟨_, rfl, ?_⟩⟩
    have q1 := q H1 s1
    cases k with
    | int i =>
      refine iteT ⟨_, rfl, _, _, rfl, rfl, _, rfl, ite2 (fun h0 => ⟨_, _, rfl, rfl, ?_⟩) (fun h0 => ?_)⟩
      · have e : decide (i ≤ 3) = isAr (.int i) := by
          show _ = (decide (0 ≤ i) && decide (i ≤ 3))
          rw [h0, Bool.true_and]
        show Q (.bl (decide (i ≤ 3))) H1
        rw [e]
        exact q1
      · have e : isAr (.int i) = false := by
          show (decide (0 ≤ i) && decide (i ≤ 3)) = false
          rw [Bool.eq_false_iff.mpr h0]
          rfl
        rw [e] at q1
        exact q1
    | str x hx => exact iteF q1
    | non => exact iteF q1
    | bl b => exact iteF q1
    | lst e => exact iteF q1
    | tup e => exact iteF q1
    | dic e => exact iteF q1
end
end SQ1
namespace SQ1
open PySem L2 SQ
/-- what is_entry makes of a value -/
inductive Ent (H : Hp) : V → Option (Str × Int × Int) → Prop
  | no {v : V} {t : String} (k : Kd H v t) (ht : (t == "tuple") = false) : Ent H v none
  | len {a : Addr} {xs : List V} (e : H a = some (.tup xs)) (h : ((xs.length : Int) == 3) = false) : Ent H (.ref a) none
  | bad {a : Addr} {x y z : V} {tx ty tz : String} (e : H a = some (.tup [x, y, z])) (kx : Kd H x tx) (ky : Kd H y ty) (kz : Kd H z tz) (h : (isFree x && (isAr y && isAr z)) = false) : Ent H (.ref a) none
  | good {a : Addr} {n : Str} {i j : Int} (e : H a = some (.tup [.str n, .int i, .int j])) (hn : n.length ≤ 1000) (h : (isFree (.str n) && (isAr (.int i) && isAr (.int j))) = true) : Ent H (.ref a) (some (n, i, j))
theorem Ent.same {H H' : Hp} {v : V} {o : Option (Str × Int × Int)} (s : Same H H') (k : Ent H v o) : Ent H' v o := by
  cases k with
  | no k ht => exact .no (k.same s) ht
  | len e h => exact .len (s _ _ e) h
  | bad e kx ky kz h => exact .bad (s _ _ e) (kx.same s) (ky.same s) (kz.same s) h
  | good e hn h => exact .good (s _ _ e) hn h
section
variable {P : Program} {w : World} {K : PySem.W.Frag} {mg : Str → Option Value} {base : Heap} {fP fN fF fA fE tC : Addr} {dP dN dF dA dE : FuncData}
def spEn : Sp := fun vs H Q _ => ∃ (v : V) (o : Option (Str × Int × Int)), vs = [v] ∧ Ent H v o ∧ ∀ H', Same H H' → Q (.bl o.isSome) H'
theorem scEn : FnScope ["value", "name", "inputs", "outputs"] ["value"] (defScope sEn) := ⟨rfl, rfl, rfl, by decide +kernel, rfl, by decide +kernel, by decide +kernel⟩
theorem st {H H1 H2 : Hp} (a : Same H H1) (b : Same H1 H2) : Same H H2 := fun x o e => b x o (a x o e)
theorem ok_en (D : D2 K mg fP fN fF fA fE dP dN dF dA dE) (B : B2 mg) (C : Core K mg tC) : FnOk P w K mg base CX0 3 fE dE ["value"] spEn := by
  have GF : FnOk P w K mg base CX0 2 fF dF ["value"] (spV isFree) := ok_fn D B C
  have GA : FnOk P w K mg base CX0 2 fA dA ["value"] (spV isAr) := ok_ar D B
  refine D.FE.ok scEn (fun vs H Q E h => ?_) (fun cdv A outer s H vs Q E hr h => ?_)
  · obtain ⟨v, o, rfl, _⟩ := h
    rfl
  · obtain ⟨v, o, rfl, k, q⟩ := h
    refine ⟨_, pss_cons (ps_if (PW.pt (pw_or (pt_not (pt_val (pe_callB call_isi (by rfl) B.isi (by decide +kernel) (pa_cons (pv 0) (pa_cons (pe_bltn (v := .ty "tuple") (by rfl) B.tuple (by decide +kernel) rfl) pa_nil)))))
        (pw_or1 (pt_cmpR op_ne (pe_callB call_len_seq (by rfl) B.len PySem.boot_len (pa_cons (pv 0) pa_nil)) pe_int (nomark _))))) (pss_one (ps_ret pe_bl)) pss_nil)
      (pss_cons (ps_asg (pv 0) (pg_tup rfl (pgs_cons (pg_name (i := 1) scEn.nd rfl (.inl rfl)) (pgs_cons (pg_name (i := 2) scEn.nd rfl (.inl rfl)) (pgs_cons (pg_name (i := 3) scEn.nd rfl (.inl rfl)) pgs_nil)))))
      (pss_one (ps_ret (pe_and (pe_call GF hr rfl D.gF D.FF.kp D.bF .nil pass0 (pa_cons (pv 1) pa_nil)) (pe_and (pe_call GA hr rfl D.gA D.FA.kp D.bA .nil pass0 (pa_cons (pv 2) pa_nil))
        (pe_one (pe_call GA hr rfl D.gA D.FA.kp D.bA .nil pass0 (pa_cons (pv 3) pa_nil)))))))), ?_⟩
    refine ⟨_, rfl, ?_⟩
    have q0 := q H (fun _ _ e => e)
    cases k with
    | no k ht =>
      have fin : ∀ t, (t == "tuple") = false → Kd H v t → kitB t "tuple" = some false := by
        intro t h k
        cases k
        · decide +kernel
        · decide +kernel
        · decide +kernel
        · decide +kernel
        · decide +kernel
        · exact absurd h (by decide)
        · decide +kernel
      exact ⟨_, _, _, _, false, rfl, .ty "tuple", k.ty, kit_ty (fin _ ht k), _, rfl, iteT (iteT q0)⟩
    | @len a xs e h =>
      refine ⟨_, _, _, _, true, rfl, .ty "tuple", (Kd.tup e).ty, kit_ty (by decide +kernel), _, rfl, iteF ?_⟩
      refine ⟨_, rfl, a, xs, rfl, .inr (SqT.of e), rfl, _, rfl, ?_⟩
      have ne : ¬ (V.int (xs.length : Int) = V.int 3) := fun z => by
        have z' : (xs.length : Int) = 3 := V.int.inj z
        rw [z'] at h
        exact absurd h (by decide)
      rw [decide_eq_false ne]
      exact iteT q0
    | @bad a x y z tx ty tz e kx ky kz h =>
      refine ⟨_, _, _, _, true, rfl, .ty "tuple", (Kd.tup e).ty, kit_ty (by decide +kernel), _, rfl, iteF ?_⟩
      refine ⟨_, rfl, a, _, rfl, .inr (SqT.of e), rfl, _, rfl, iteNS rfl ?_⟩
      refine ⟨_, rfl, a, _, rfl, SqT.of e, rfl, _, _, rfl, _, _, rfl, _, _, rfl, rfl, ?_⟩
      refine ⟨_, rfl, x, tx, rfl, kx, fun H1 s1 => ⟨_, rfl, ?_⟩⟩
      cases hx : isFree x with
      | false => exact iteF (q H1 s1)
      | true =>
        rw [hx, Bool.true_and] at h
        refine iteT ⟨_, rfl, y, ty, rfl, ky.same s1, fun H2 s2 => ⟨_, rfl, ?_⟩⟩
        cases hy : isAr y with
        | false => exact iteF (q H2 (st s1 s2))
        | true =>
          rw [hy, Bool.true_and] at h
          refine iteT ⟨_, rfl, z, tz, rfl, (kz.same s1).same s2, fun H3 s3 => ?_⟩
          rw [h]
          exact q H3 (st s1 (st s2 s3))
    | @good a n i j e hn h =>
      refine ⟨_, _, _, _, true, rfl, .ty "tuple", (Kd.tup e).ty, kit_ty (by decide +kernel), _, rfl, iteF ?_⟩
      refine ⟨_, rfl, a, _, rfl, .inr (SqT.of e), rfl, _, rfl, iteNS rfl ?_⟩
      refine ⟨_, rfl, a, _, rfl, SqT.of e, rfl, _, _, rfl, _, _, rfl, _, _, rfl, rfl, ?_⟩
      rw [Bool.and_eq_true, Bool.and_eq_true] at h
      obtain ⟨h1, h2, h3⟩ := h
      refine ⟨_, rfl, .str n, _, rfl, .str n hn, fun H1 s1 => ⟨_, rfl, ?_⟩⟩
      rw [h1]
      refine iteT ⟨_, rfl, .int i, _, rfl, .int i, fun H2 s2 => ⟨_, rfl, ?_⟩⟩
      rw [h2]
      refine iteT ⟨_, rfl, .int j, _, rfl, .int j, fun H3 s3 => ?_⟩
      rw [h3]
      exact q H3 (st s1 (st s2 s3))
end
end SQ1
/-! Own exceptions over any of the built-in bases, made as values (by position, by keyword, without arguments), read, and asked for their class. -/
namespace SQ
open PySem PySem.Spec PyProof.Rows L2
open PySem.W (Looks)
section
variable {prog : Program} {w : World} {A : Around} {E : Value → Shared → Prop} {R : Result → Shared → Prop}
  {h : Heap} {g : Array GenState} {d : Drawn} {t : Nat} {os : OsState}
  {nm q : Str} {C N : Addr} {bs bm bmB : List Value} {hdct : Bool} {sn : List Str} {sub : List Value} {ab : Bool}
  {col : Option Bool} {dd : Option Addr} {k0 k1 k2 k3 k5 : Option Value} {B newId initId : String} {kw : List (Str × Value)}

theorem chk_new (FB : ExcBaseFacts B newId initId bmB) (hT : ∀ X : String, bm.contains (.type X) = bmB.contains (.type X))
    {rest : List Value} {Q : Unit → Shared → Prop}
    (hC : h.get? C = some (excClassObj nm q C N bs bm hdct sn sub ab col dd k0 k1 k2 k3 k5 newId))
    (hq : Q () ⟨h, g, d, t, os⟩) :
    wpAny (model prog w) A (checkBuiltinCall newId ⟨.ref C :: rest, kw⟩) Q E ⟨h, g, d, t, os⟩ := by
  have inB : (Value.ref C :: bm).contains (.type B) = true := by
    rw [List.contains_cons, hT, FB.hasB, Bool.or_true]
  have nostar := FB.noStar
  simp only [checkBuiltinCall, FB.newKind, FB.newSplit, FB.newRow]
  repeat (first
    | refine wpAny_loadPart_at hC ?_
    | (refine wpAny_isSubtype_exc hC ?_; rw [inB])
    | refine wpAny_staticBase_exc hC ?_
    | refine wpAny_madeBy_exc hC ?_
    | simp only [bne_self_eq_false, Bool.false_eq_true, if_false]
    | wp_step)
  exact hq
theorem run_new (FB : ExcBaseFacts B newId initId bmB) (hT : ∀ X : String, bm.contains (.type X) = bmB.contains (.type X))
    {rest : List Value} (hC : h.get? C = some (excClassObj nm q C N bs bm hdct sn sub ab col dd k0 k1 k2 k3 k5 newId))
    (hrest : rest.length ≤ sizeLine)
    (hq : R (.ok (.ret (.ref (h.objs.size + 1)))) ⟨(h.push (PySem.W.kdv_tup rest)).push (PySem.HandSPX.excO C h.objs.size), g, d, t, os⟩) :
    codeAny (model prog w) A (.builtin newId ⟨.ref C :: rest, kw⟩) R ⟨h, g, d, t, os⟩ := by
  have en := FB.ends
  have inB : (Value.ref C :: bm).contains (.type B) = true := by
    rw [List.contains_cons, hT, FB.hasB, Bool.or_true]
  have inA : (Value.ref C :: bm).contains (.type "AttributeError") = false := by
    rw [List.contains_cons, hT, FB.noAttr]
    rfl
  have inN : (Value.ref C :: bm).contains (.type "NameError") = false := by
    rw [List.contains_cons, hT, FB.noName]
    rfl
  refine codeAny_builtinAt FB.entry ?_
  unfold Builtin.«BaseException.__new__»
  refine PySem.wpAt_bind ?_
  show PySem.wpAt _ _ _ (stack >>= _) _ _ _
  refine PySem.wpAt_bind (PySem.wpAt_stack fun p below => PySem.wpAt_of_wpAny ?_)
  wp_walk
  refine PySem.wpAt_of_wpAny ?_
  rw [FB.owner]
  repeat (first
    | with_reducible refine wpAny_madeHere_exc FB.canon hC ?_
    | with_reducible refine wpAny_loadPart_at hC ?_
    | (with_reducible refine wpAny_isSubtype_exc hC ?_; first | rw [inB] | rw [inA] | rw [inN])
    | wp_step)
  show R _ _
  rw [Heap.size_push]
  exact hq
theorem run_tcall (FB : ExcBaseFacts B newId initId bmB) (hT : ∀ X : String, bm.contains (.type X) = bmB.contains (.type X))
    {rest : List Value} {fI : Addr} {Q : Fin → Shared → Prop}
    (hC : h.get? C = some (excClassObj nm q C N bs bm hdct sn sub ab col dd k0 k1 k2 k3 k5 newId))
    (hi : Looks (model prog w) h (typeLookup (.ref C) "__init__") (some (.ref fI)))
    (hb : ∀ self, Looks (model prog w) h (bindSpecial (.ref fI) self) (.ref fI, [self])) (hrest : rest.length ≤ sizeLine)
    (hq : codeAny (model prog w) A (.call (.ref fI) ⟨.ref (h.objs.size + 1) :: rest, kw⟩)
      (fun r s' => match r with
        | .ok (.ret v) => v = .none ∧ Q (.done (.ret (.ref (h.objs.size + 1)))) s'
        | .ok _ => False
        | .error e => E e s')
      ⟨(h.push (PySem.W.kdv_tup rest)).push (PySem.HandSPX.excO C h.objs.size), g, d, t, os⟩) :
    wpAny (model prog w) A (Builtin.«type.__call__» ⟨.ref C :: rest, kw⟩) Q E ⟨h, g, d, t, os⟩ := by
  repeat (first
    | with_reducible refine wpAny_loadPart_at hC ?_
    | with_reducible refine wpAny_madeBy_exc hC ?_
    | wp_step)
  refine codeAny_call_builtin_code (Code.quiet_builtin _ FB.quiet) (chk_new FB hT hC ?_)
  refine run_new FB hT hC hrest ?_
  show wpAny _ _ _ _ _ _
  have keep : ∀ b o, h.get? b = some o → ((h.push (PySem.W.kdv_tup rest)).push (PySem.HandSPX.excO C h.objs.size)).get? b = some o :=
    fun b o e => Heap.get?_push_of_some _ (Heap.get?_push_of_some _ e)
  have hC1 := keep _ _ hC
  have got : ((h.push (PySem.W.kdv_tup rest)).push (PySem.HandSPX.excO C h.objs.size)).get? (h.objs.size + 1) = some (PySem.HandSPX.excO C h.objs.size) := by heap_get
  have inC : (Value.ref C :: bm).contains (.ref C) = true := by simp
  have i1 := hi.keeps keep
  have b1 := (hb (.ref (h.objs.size + 1))).keeps keep
  unfold isInstance
  repeat (first
    | with_reducible refine wpAny_loadPart_at got ?_
    | (with_reducible refine wpAny_isSubtype_exc hC1 ?_; rw [inC])
    | wp_step)
  show wpAny _ _ (typeLookup (.ref C) _) _ _ _
  refine i1.at ?_
  refine wpAny_holding (wpAny_bind (b1.at ?_))
  refine wpAny_bind (wpAny_call (codeAny_mono hq fun r s' z => ?_))
  rcases r with e | (_ | _ | _ | v) <;> first | exact z | exact z.elim | skip
  obtain ⟨rfl, z⟩ := z
  first
    | exact wpAny_pure (wpAny_pure z)
    | (wp_walk; exact z)
theorem run_ccall (FB : ExcBaseFacts B newId initId bmB) (hT : ∀ X : String, bm.contains (.type X) = bmB.contains (.type X))
    {rest : List Value} {fI : Addr}
    (hC : h.get? C = some (excClassObj nm q C N bs bm hdct sn sub ab col dd k0 k1 k2 k3 k5 newId))
    (hi : Looks (model prog w) h (typeLookup (.ref C) "__init__") (some (.ref fI)))
    (hb : ∀ self, Looks (model prog w) h (bindSpecial (.ref fI) self) (.ref fI, [self])) (hrest : rest.length ≤ sizeLine)
    (hq : codeAny (model prog w) (A.under (.builtin "type.__call__" ⟨.ref C :: rest, kw⟩)) (.call (.ref fI) ⟨.ref (h.objs.size + 1) :: rest, kw⟩)
      (PySem.W.InitBack (h.objs.size + 1) R)
      ⟨(h.push (PySem.W.kdv_tup rest)).push (PySem.HandSPX.excO C h.objs.size), g, d, t, os⟩) :
    codeAny (model prog w) A (.call (.ref C) ⟨rest, kw⟩) R ⟨h, g, d, t, os⟩ := by
  have f1 := tc_lookup
  have f2 := tc_bind (.ref C)
  have hTy : (⟨h, g, d, t, os⟩ : Shared).TypeIs (.ref C) "type" := ⟨_, hC, rfl⟩
  refine codeAny_of_tree ?_
  show wpAny _ _ (callAny (.ref C) _) _ _ _
  repeat (any_goals (first | assumption | with_reducible refine wpAny_loadPart_at hC ?_ | wp_step))
  refine ⟨rfl, ?_⟩
  refine codeAny_call_builtin_at (Code.quiet_builtin _ (by decide +kernel)) entry_typeCall (wpAny_check_type_call_sub hC (run_tcall FB hT hC hi hb hrest ?_))
  refine codeAny_mono hq fun r s' z => ?_
  rcases r with e | (_ | _ | _ | v) <;> exact z
end
end SQ
namespace SQ
open PySem PySem.Spec PyProof.Rows L2

/-! ### what the written part says of an error's class -/
/-- the text of «def __init__(self, f): self.f = f» -/
def iArgs (f : Str) (p1 p2 : Pos) : Arguments := { posonlyargs := [], args := [{ arg := "self", annotation := none, pos := p1 }, { arg := f, annotation := none, pos := p2 }], vararg := none, kwonlyargs := [], kw_defaults := [], kwarg := none, defaults := [] }
def iBody (f : Str) (q1 q2 q3 q4 : Pos) : List Stmt := [.Assign [.Attribute (.Name "self" q1) f q2] (.Name f q3) q4]
def iScope (f : Str) : Scope := { kind := .function, names := [(PySem.Str.ofString "self", .local), (f, .local)], isGenerator := false, isCoroutine := false, more := [] }
/-- a built-in base: its name, its makers, its mro -/
structure BaseB (B newId initId : String) (bmB : List Value) : Prop where
  fb : ExcBaseFacts B newId initId bmB
  sf : StoreFacts B bmB "object.__setattr__" "object"
theorem bValue : BaseB "ValueError" "ValueError.__new__" "ValueError.__init__" [.type "ValueError", .type "Exception", .type "BaseException", .type "object"] := ⟨F.excBase_ValueError, F.store_ValueError⟩
theorem bType : BaseB "TypeError" "TypeError.__new__" "TypeError.__init__" [.type "TypeError", .type "Exception", .type "BaseException", .type "object"] := ⟨F.excBase_TypeError, F.store_TypeError⟩
theorem bLookup : BaseB "LookupError" "LookupError.__new__" "LookupError.__init__" [.type "LookupError", .type "Exception", .type "BaseException", .type "object"] := ⟨F.excBase_LookupError, F.store_LookupError⟩
theorem bArith : BaseB "ArithmeticError" "ArithmeticError.__new__" "ArithmeticError.__init__" [.type "ArithmeticError", .type "Exception", .type "BaseException", .type "object"] := ⟨F.excBase_ArithmeticError, F.store_ArithmeticError⟩

/-- the facts that one check finds (a class at C; its field f) -/
def errOk (K : PySem.W.Frag) (C : Addr) (f : Str) (bmB : List Value) (newId : String) : Bool :=
  PySem.W.excInitIn K C bmB newId && PySem.W.excOver K C bmB && PySem.W.hasDictIn K C && PySem.W.keepIn K (.ref C) &&
  (PySem.W.findIn K (.ref C) "__setattr__" == some (some (.builtin "object.__setattr__"))) &&
  (PySem.W.findIn K (.ref C) "__getattribute__" == some (some (.builtin "BaseException.__getattribute__"))) &&
  (PySem.W.findIn K (.ref C) "__getattr__" == some none) && (PySem.W.findIn K (.ref C) f == some none) &&
  (PySem.W.subIn K (.ref C) (.type "BaseException") == some true) && (PySem.W.clsIn K C).isSome &&
  (PySem.W.findIn K (.ref C) "__class__" == some (some (.builtin "object.__class__"))) && (PySem.W.mroIn K C (.type "object") == some true)
structure ErrC (K : PySem.W.Frag) (C : Addr) (f : Str) (bmB : List Value) (newId : String) : Prop where
  ini : PySem.W.excInitIn K C bmB newId = true
  ov : PySem.W.excOver K C bmB = true
  hd : PySem.W.hasDictIn K C = true
  kp : PySem.W.keepIn K (.ref C) = true
  sa : PySem.W.findIn K (.ref C) "__setattr__" = some (some (.builtin "object.__setattr__"))
  ga : PySem.W.findIn K (.ref C) "__getattribute__" = some (some (.builtin "BaseException.__getattribute__"))
  gg : PySem.W.findIn K (.ref C) "__getattr__" = some none
  no : PySem.W.findIn K (.ref C) f = some none
  ex : PySem.W.subIn K (.ref C) (.type "BaseException") = some true
  cl : (PySem.W.clsIn K C).isSome = true
  ca : PySem.W.findIn K (.ref C) "__class__" = some (some (.builtin "object.__class__"))
  ob : PySem.W.mroIn K C (.type "object") = some true
theorem ErrC.of {K : PySem.W.Frag} {C : Addr} {f : Str} {bmB : List Value} {newId : String} (h : errOk K C f bmB newId = true) : ErrC K C f bmB newId := by
  unfold errOk at h
  simp only [Bool.and_eq_true, beq_iff_eq] at h
  obtain ⟨⟨⟨⟨⟨⟨⟨⟨⟨⟨⟨h1, h2⟩, h3⟩, h4⟩, h5⟩, h6⟩, h7⟩, h8⟩, h9⟩, h10⟩, h11⟩, h12⟩ := h
  exact ⟨h1, h2, h3, h4, h5, h6, h7, h8, h9, h10, h11, h12⟩
/-- .. and of its __init__ -/
structure ErrI (K : PySem.W.Frag) (C fI : Addr) (f : Str) : Prop where
  at_ : PySem.W.findIn K (.ref C) "__init__" = some (some (.ref fI))
  ty : PySem.W.typeIn K (.ref fI) = some (.type "function")
  fn : ∃ (qual : Str) (oc : Value) (od : Option Addr) (doc pm : Value) (an : Option Addr) (cdv ct : Value) (osl : Array (Option Value)) (p1 p2 q1 q2 q3 q4 : Pos),
    K.lookup fI = some ⟨oc, od, .func (PySem.W.fnOf "__init__" qual (iArgs f p1 p2) (iBody f q1 q2 q3 q4) (iScope f) .none .none doc pm an cdv ct), osl⟩ ∧ PySem.W.codeIn K cdv qual = true
/-- the three fields -/
def Fld (f : Str) : Prop := f = "value" ∨ f = "index" ∨ f = "limit"

section
variable {prog : Program} {w : World} {A : Around} {E : Value → Shared → Prop} {R : Result → Shared → Prop} {hp : Heap} {g : Array GenState} {d : Drawn} {t : Nat} {os : OsState}
  {K : PySem.W.Frag} {B newId initId : String} {bmB : List Value} {C fI : Addr} {f : Str}
/-- self.f = v on an exception that has no dict yet -/
theorem store_first (SF : StoreFacts B bmB "object.__setattr__" "object") (T : ErrC K C f bmB newId) {x t0 : Addr} {tk : Tok} {v : Value} (X : K.In hp) (hx : hp.get? x = some (PySem.HandSPX.excO C t0))
    (hq : ∀ h' tk' dx, (∀ b o, b ≠ x → hp.get? b = some o → h'.get? b = some o) → hp.objs.size ≤ dx → dx ≠ x →
      h'.get? x = some { cls := .ref C, dict := some dx, data := .fields #[.ref t0, .none, .none, .none, .bool false, .none] } →
      h'.Ns1 dx (fun y => if y = f then some v else none) → R (.ok (.ret .none)) ⟨h', g, d, tk', os⟩) :
    codeAny (model prog w) A (.call (.builtin "object.__setattr__") ⟨[.ref x, .str f tk, v], []⟩) R ⟨hp, g, d, t, os⟩ := by
  have ht : PySem.W.takerIn K C f = some none := by
    unfold PySem.W.takerIn
    rw [T.no]
    rfl
  have ne : x ≠ hp.objs.size := Nat.ne_of_lt (Heap.lt_size hx)
  refine PySem.W.osa_openX (od := none) SF X ⟨hx, rfl, rfl, trivial⟩ T.ov ht fun b => ?_
  obtain ⟨cd, hc, hd'⟩ := PySem.W.any_some T.hd
  refine wpAny_bind (wpAny_pure (wpAny_bind (PySem.W.instanceDict_exc (c2 := .none) hx (PySem.W.looks_clsIn X hc) hd' ?_)))
  show wpAny _ _ (Builtin.ObjectAttr.storeInDict hp.objs.size (.str f tk) f v) _ _ _
  refine PySem.HandSPX.store_in_new ?_ ?_
  · exact ⟨_, #[], _, (Heap.get?_update_ne _ _ _ _ ne.symm).trans (Heap.get?_push_at rfl rfl), rfl, fun e he => absurd he (by simp), fun _ => rfl⟩
  · intro h' tk' hn' hs
    have hx1 : (hp.push { cls := .type "dict", data := .dict #[] }).get? x = some (PySem.HandSPX.excO C t0) := Heap.get?_push_of_some _ hx
    refine hq h' tk' hp.objs.size (fun b o hb ho => ?_) (Nat.le_refl _) ne.symm ?_ hn'
    · exact (hs.2 b (Nat.ne_of_lt (Heap.lt_size ho))).trans ((Heap.get?_update_ne _ _ _ _ hb).trans (Heap.get?_push_of_some _ ho))
    · exact (hs.2 x ne).trans (Heap.get?_update_self _ hx1 rfl)
end
/-- an error made: its object at e, its dict at dx, both new -/
structure Made (h h' : Heap) (e C dx : Addr) (f : Str) (v : Value) : Prop where
  keep : ∀ b o, h.get? b = some o → h'.get? b = some o
  new : h.objs.size ≤ e
  obj : ∃ t1 : Addr, h'.get? e = some ({ cls := .ref C, dict := some dx, data := .fields #[.ref t1, .none, .none, .none, .bool false, .none] } : Obj)
  dbig : h.objs.size ≤ dx
  dne : dx ≠ e
  ns : h'.Ns1 dx (fun y => if y = f then some v else none)
theorem ld_loc {M : Model} {s : Shared} {name : Str} {scope : Scope} {L a : Addr} {cd : Value} {m : Str → Option Value} {x : Str} {pos : Pos} {v : Value} {Q : Value → Shared → Prop} {A : Around} {E : Value → Shared → Prop} (hn : s.heap.Ns L m) (hv : m x = some v) (h : Q v s)
    (hk : scope.kind = .function := by rfl) (hl : (envOfC name scope L a cd).kindOf x = some .local := by rfl) (hd : (x == ("__debug__" : Str)) = false := by decide) :
    wpAny M A (eval (.Name x pos) (envOfC name scope L a cd)) Q E s := wpAny_Name (wpAny_loadName_local hk hl hn hv h) hd
section
variable {prog : Program} {w : World} {A : Around} {E : Value → Shared → Prop} {R : Result → Shared → Prop} {s : Shared}
  {K : PySem.W.Frag} {B newId initId : String} {bmB : List Value} {C fI : Addr} {f : Str}
/-- the run of __init__, the value coming by position or by keyword -/
theorem run_init (hf : Fld f) (SF : StoreFacts B bmB "object.__setattr__" "object") (T : ErrC K C f bmB newId) (J : ErrI K C fI f) {x t0 : Addr} {v : Value} {args : Args} (ha : args = ⟨[.ref x, v], []⟩ ∨ args = ⟨[.ref x], [(f, v)]⟩)
    (X : K.In s.heap) (hlim : s.heap.NoLimit) (hx : s.heap.get? x = some (PySem.HandSPX.excO C t0)) (hroom : A.depth < recursionLimit)
    (hq : ∀ h' tk dx, (∀ b o, b ≠ x → s.heap.get? b = some o → h'.get? b = some o) → s.heap.objs.size ≤ dx → dx ≠ x →
      h'.get? x = some { cls := .ref C, dict := some dx, data := .fields #[.ref t0, .none, .none, .none, .bool false, .none] } →
      h'.Ns1 dx (fun y => if y = f then some v else none) → R (.ok (.ret .none)) { s with heap := h', toks := tk }) :
    codeAny (model prog w) A (.call (.ref fI) args) R s := by
  obtain ⟨qual, oc, od, doc, pm, an, cdv, ct, osl, p1, p2, q1, q2, q3, q4, ho, hcd⟩ := J.fn
  have key : ∀ (bnd : BindsTo s (PySem.W.fnOf "__init__" qual (iArgs f p1 p2) (iBody f q1 q2 q3 q4) (iScope f) .none .none doc pm an cdv ct) args [("self", .ref x), (f, v)]), codeAny (model prog w) A (.call (.ref fI) args) R s := by
    intro bnd
    rcases hf with rfl | rfl | rfl
    all_goals
      refine Att.call_fn X hlim ho hcd hroom bnd (by first | rfl | decide | with_unfolding_all rfl) (fun s₁ IC => ?_) rfl rfl rfl
      obtain ⟨h₁, tk₁, rfl⟩ := IC.toInCall.same
      have k : ∀ b o, s.heap.get? b = some o → h₁.get? b = some o := IC.toInCall.keep
      have hn := IC.toInCall.ns
      have X₁ : K.In h₁ := X.keeps k
      have hx₁ := k _ _ hx
      show wpAny _ _ (execs _ _) _ _ _
      refine wpAny_execs_cons (plainObj_wpAny_Assign_Attribute ?_)
      refine ld_loc (v := v) hn (by first | rfl | with_unfolding_all rfl | kernel_rfl) (ld_loc (v := .ref x) hn (by first | rfl | with_unfolding_all rfl | kernel_rfl) ?_)
      refine PySem.W.set_plain X₁ (ox := PySem.HandSPX.excO C t0) (od := none) ⟨hx₁, rfl, rfl, trivial⟩ T.sa ?_
      refine store_first SF T X₁ hx₁ (fun h₃ tk₃ dx k₃ dn dne hx₃ hn₃ => ?_)
      show wpAny _ _ (execs _ _) _ _ _
      have z : s.heap.objs.size < h₁.objs.size := hn.lt
      exact wpAny_execs_nil (hq h₃ tk₃ dx (fun b o hb e => k₃ b o hb (k b o e)) (Nat.le_of_lt (Nat.lt_of_lt_of_le z dn)) dne hx₃ hn₃)
  refine key ?_
  rcases hf with rfl | rfl | rfl
  all_goals
    rcases ha with rfl | rfl
    · exact BindsTo.of_eq (by first | rfl | with_unfolding_all rfl | kernel_rfl)
    · exact BindsTo.of_eq (by first | rfl | with_unfolding_all rfl | kernel_rfl)
/-- C(v), C(f=v) -/
theorem run_made (hf : Fld f) (BB : BaseB B newId initId bmB) (T : ErrC K C f bmB newId) (J : ErrI K C fI f) {v : Value} {pos : List Value} {kw : List (Str × Value)} (ha : (pos = [v] ∧ kw = []) ∨ (pos = [] ∧ kw = [(f, v)]))
    (X : K.In s.heap) (hlim : s.heap.NoLimit) (hroom : A.depth + 1 < recursionLimit)
    (hq : ∀ h' tk e dx, Made s.heap h' e C dx f v → R (.ok (.ret (.ref e))) { s with heap := h', toks := tk }) :
    codeAny (model prog w) A (.call (.ref C) ⟨pos, kw⟩) R s := by
  obtain ⟨nm, N, qn, bs, bm, hdct, sn, sub, ab, col, dd, k0, k1, k2, k3, k5, hC, hT⟩ := PySem.W.excInit_of X T.ini
  obtain ⟨hp, g, dr, tk, os⟩ := s
  have k : ∀ b o, hp.get? b = some o → ((hp.push (PySem.W.kdv_tup pos)).push (PySem.HandSPX.excO C hp.objs.size)).get? b = some o := fun b o e => Heap.get?_push_of_some _ (Heap.get?_push_of_some _ e)
  have hget : ((hp.push (PySem.W.kdv_tup pos)).push (PySem.HandSPX.excO C hp.objs.size)).get? (hp.objs.size + 1) = some (PySem.HandSPX.excO C hp.objs.size) := by heap_get
  have hpos : pos.length ≤ sizeLine := by
    rcases ha with ⟨rfl, _⟩ | ⟨rfl, _⟩
    · show 1 ≤ sizeLine
      decide
    · show 0 ≤ sizeLine
      decide
  refine run_ccall BB.fb hT hC (PySem.W.looks_findIn X J.at_) (fun self => PySem.W.bind_fn X self J.ty) hpos ?_
  refine run_init (s := ⟨(hp.push (PySem.W.kdv_tup pos)).push (PySem.HandSPX.excO C hp.objs.size), g, dr, tk, os⟩) (v := v) hf BB.sf T J ?_ (X.keeps k) (hlim.keeps k) hget ?_ ?_
  · rcases ha with ⟨rfl, rfl⟩ | ⟨rfl, rfl⟩
    · exact .inl rfl
    · exact .inr rfl
  · rw [make_depth]
    exact hroom
  · intro h' tk' dx k' dn dne hx hns
    have old : ∀ b o, hp.get? b = some o → h'.get? b = some o := fun b o e => k' b o (Nat.ne_of_lt (Nat.lt_succ_of_lt (Heap.lt_size e))) (k b o e)
    have z : hp.objs.size + 1 + 1 ≤ dx := by
      have q := dn
      first
        | exact q
        | (simpa only [Heap.size_push] using q)
    exact ⟨rfl, hq h' tk' (hp.objs.size + 1) dx ⟨old, Nat.le_succ _, ⟨_, hx⟩, Nat.le_trans (Nat.le_trans (Nat.le_succ _) (Nat.le_succ _)) z, dne, hns⟩⟩
end
/-! ### the rules over the layer -/
section
variable {X : Cx} {pins : List (Addr × Obj)} {σ : L2.St} {H : Hp} {s : Shared}
/-- two new objects laid and tracked -/
theorem laid_two (I : Inv X pins σ H s) {h' : Heap} {a d : Addr} {o u : HO} {t' : Nat} (k : ∀ b z, s.heap.get? b = some z → h'.get? b = some z) (ha : s.heap.objs.size ≤ a) (hd : s.heap.objs.size ≤ d) (ne : d ≠ a)
    (oka : ObjOk X.prog X.w (upd (upd H d u) a o) h' a o) (okd : ObjOk X.prog X.w (upd (upd H d u) a o) h' d u) : Inv X pins σ (upd (upd H d u) a o) { s with heap := h', toks := t' } := by
  have na : H a = none := I.hok.fresh ha
  have nd : H d = none := I.hok.fresh hd
  have far : ∀ {b : Addr} {z : Obj}, s.heap.get? b = some z → b ≠ a ∧ b ≠ d := fun {b z} q =>
    ⟨Nat.ne_of_lt (Nat.lt_of_lt_of_le (Heap.lt_size q) ha), Nat.ne_of_lt (Nat.lt_of_lt_of_le (Heap.lt_size q) hd)⟩
  have same : ∀ {b : Addr} {z : HO}, H b = some z → upd (upd H d u) a o b = some z := fun {b z} q => by
    rw [upd_ne (ne_of_none q na), upd_ne (ne_of_none q nd)]
    exact q
  refine I.un (t' := t') ⟨fun b z q _ _ _ => k b z q, fun b z q _ _ _ => ⟨z.slots, k b z q⟩, fun b z q n _ => ?_, fun b z q _ => ⟨z, k b z q⟩, fun b xs q => same q, fun b z xs q => same q, fun b ps q => ⟨#[], by rw [same q]; simp⟩⟩ ?_
  · rw [upd_ne (far q).1, upd_ne (far q).2]
    exact n
  · intro b z q
    by_cases hb : b = a
    · subst hb
      rw [upd_same] at q
      cases q
      exact oka
    · rw [upd_ne hb] at q
      by_cases hb2 : b = d
      · subst hb2
        rw [upd_same] at q
        cases q
        exact okd
      · rw [upd_ne hb2] at q
        exact (I.hok b z q).stay (fun c y _ r => k c y r) (fun c r => same r) fun c xs r => same r
end
/-- at a: an error of the class at C whose field f holds v -/
def ErrAt (H : Hp) (a C : Addr) (f : Str) (v : V) : Prop := ∃ d, H a = some (exo a C (some d)) ∧ H d = some (exd d [(f, v)])
/-- at a: an error of the class at C, with a dict or without -/
def ErrIs (H : Hp) (a C : Addr) : Prop := ∃ d, H a = some (exo a C d)  ∧ ∀ x, d = some x → ∃ fs, H x = some (exd x fs)
theorem ErrAt.is {H : Hp} {a C : Addr} {f : Str} {v : V} (h : ErrAt H a C f v) : ErrIs H a C := by
  obtain ⟨d, h1, h2⟩ := h
  exact ⟨some d, h1, fun x e => by cases e; exact ⟨_, h2⟩⟩
theorem ErrAt.same {H H' : Hp} {a C : Addr} {f : Str} {v : V} (s : Same H H') (h : ErrAt H a C f v) : ErrAt H' a C f v := by
  obtain ⟨d, h1, h2⟩ := h
  exact ⟨d, s _ _ h1, s _ _ h2⟩
theorem ErrIs.same {H H' : Hp} {a C : Addr} (s : Same H H') (h : ErrIs H a C) : ErrIs H' a C := by
  obtain ⟨d, h1, h2⟩ := h
  refine ⟨d, s _ _ h1, fun x e => ?_⟩
  obtain ⟨fs, h3⟩ := h2 x e
  exact ⟨fs, s _ _ h3⟩
/-- C(e) and C(f=e): a new error -/
def tErr (C : Addr) (f : Str) (te : TE) : TE := fun σ H Q => te σ H fun v H1 => ∀ (a : Addr) (H' : Hp), Same H1 H' → H1 a = none → ErrAt H' a C f v → Q (.ref a) H'
/-- C() -/
def tErr0 (C : Addr) : TE := fun σ H Q => ∀ (a : Addr) (H' : Hp), Same H H' → H a = none → ErrIs H' a C → Q (.ref a) H'
section
variable {X : Cx} {B newId initId : String} {bmB : List Value} {C fI : Addr} {f x : Str} {e : Expr} {te : TE} {p pos kpos : Pos} {k : Nat}
theorem made_end {pins : List (Addr × Obj)} {σ : L2.St} {H : Hp} {s : Shared} {Q : VK} {v : V} {v' : Value} (I : Inv X pins σ H s) (rv : RelV v v') {h' : Heap} {tk : Nat} {a dx : Addr} (M : Made s.heap h' a C dx f v')
    (q : ∀ (a : Addr) (H' : Hp), Same H H' → H a = none → ErrAt H' a C f v → Q (.ref a) H') : EP X pins σ Q (.ref a) { s with heap := h', toks := tk } := by
  obtain ⟨t1, ho⟩ := M.obj
  have na : H a = none := I.hok.fresh M.new
  have nd : H dx = none := I.hok.fresh M.dbig
  have J : Inv X pins σ (upd (upd H dx (exd dx [(f, v)])) a (exo a C (some dx))) { s with heap := h', toks := tk } :=
    laid_two I M.keep M.new M.dbig M.dne (exo_ok ho) (exd_ok M.ns (relO_put (fs := []) rv fun g => True.intro))
  refine ⟨.ref a, _, J, rfl, q a _ (fun b o z => ?_) na ⟨dx, upd_same, ?_⟩⟩
  · rw [upd_ne (ne_of_none z na), upd_ne (ne_of_none z nd)]
    exact z
  · rw [upd_ne M.dne, upd_same]
theorem pe_err (hf : Fld f) (BB : BaseB B newId initId bmB) (T : ErrC X.K C f bmB newId) (J : ErrI X.K C fI f) (gC : X.mg x = some (.ref C)) (hr : Room k X.A) (hg : Gl X x) (he : PE X e te)
    (hdb : (x == ("__debug__" : Str)) = false := by decide) (hs : starEach [e] X.env = (false, eval e X.env) :: starEach [] X.env := by rfl) : PE X (.Call (.Name x p) [e] [] pos) (tErr C f te) := by
  constructor
  intro pins s σ H Q I h
  refine wpAny_Call_Name_kw (ld_glob I hg gC ?_ hdb)
  refine PySem.W.callWith_K (h₀ := X.base) I.ok.mod.kin T.kp ?_ hs (by rfl)
  rw [hs]
  show wpAny _ _ (spliced ((false, eval e X.env) :: backTo pos (starEach [] X.env))) _ _ s
  refine Calls.spliced_cons (thn (he.run pins s σ H _ I h) fun u s1 ⟨v, H1, I1, r1, q1⟩ => ?_)
  refine Calls.spliced_nil ⟨I1.kIn, ?_⟩
  show wpAny _ _ (call (.ref C) [u]) _ _ _
  exact wpAny_call (run_made (pos := [u]) (kw := []) hf BB T J (.inl ⟨rfl, rfl⟩) I1.kIn I1.nolimit (by have := hr.dp; omega) fun h' tk a dx M => made_end I1 r1 M q1)
theorem pe_errK (hf : Fld f) (BB : BaseB B newId initId bmB) (T : ErrC X.K C f bmB newId) (J : ErrI X.K C fI f) (gC : X.mg x = some (.ref C)) (hr : Room k X.A) (hg : Gl X x) (he : PE X e te)
    (hdb : (x == ("__debug__" : Str)) = false := by decide) : PE X (.Call (.Name x p) [] [⟨some f, e, kpos⟩] pos) (tErr C f te) := by
  constructor
  intro pins s σ H Q I h
  refine wpAny_Call_Name_kw (ld_glob I hg gC ?_ hdb)
  refine PySem.W.callWith_KW0 (h₀ := X.base) I.ok.mod.kin T.kp rfl ?_
  have hk : PK X [⟨some f, e, kpos⟩] (tCons te tNil) := pk_cons he pk_nil
  have h2 : tCons te tNil σ H (fun zs H1 => match zs with
      | [v] => ∀ (a : Addr) (H' : Hp), Same H1 H' → H1 a = none → ErrAt H' a C f v → Q (.ref a) H'
      | _ => False) := h
  refine thn (hk.run pos pins s σ H _ I h2) ?_
  intro us s1 ⟨zs, H1, I1, r1, q1⟩
  refine ⟨I1.kIn, ?_⟩
  cases r1 with
  | nil => exact q1.elim
  | cons rv rr =>
    cases rr with
    | cons _ _ => exact q1.elim
    | nil =>
      rename_i u
      show wpAny _ _ (call (.ref C) [] [(f, u)]) _ _ _
      exact wpAny_call (run_made (pos := []) (kw := [(f, u)]) hf BB T J (.inr ⟨rfl, rfl⟩) I1.kIn I1.nolimit (by have := hr.dp; omega) fun h' tk a dx M => made_end I1 rv M q1)
/-- the facts of a class without an __init__ of its own -/
theorem pe_err0 {bmB : List Value} (FB : ExcBaseFacts B newId initId bmB) (q : PySem.W.excIn X.K C bmB newId = true) (gC : X.mg x = some (.ref C)) (kC : PySem.W.keepIn X.K (.ref C) = true) (hg : Gl X x)
    (hdb : (x == ("__debug__" : Str)) = false := by decide) : PE X (.Call (.Name x p) [] [] pos) (tErr0 C) := by
  constructor
  intro pins s σ H Q I h
  refine wpAny_Call_Name_kw (ld_glob I hg gC ?_ hdb)
  refine PySem.W.callWith_K0 I.kIn kC ?_
  show wpAny _ _ (call (.ref C) []) _ _ _
  obtain ⟨bm, N, nm, qn, bs, hdct, sn, sub, ab, col, dd, k0, k1, k2, k3, k5, mN, hC, hN, hni, T⟩ := exc_obj I.kIn q
  refine wpAny_call_exc_subT FB T hC hN hni (fun h' a hm => ?_) (by show 0 ≤ sizeLine; decide)
  have hn : H a = none := I.hok.gone hm.new
  obtain ⟨t, ht, _, _⟩ := hm.there
  refine ⟨.ref a, upd H a (exo a C none), I.laidN hm.keeps hm.new hn (exo_ok (t1 := t) ht), rfl, h a _ (fun b o z => ?_) hn ⟨none, upd_same, fun x e => nomatch e⟩⟩
  rw [upd_ne (ne_of_none z hn)]
  exact z
/-- err.f -/
def tErrGet (C : Addr) (f : Str) (te : TE) : TE := fun σ H Q => te σ H fun x H1 => ∃ (a : Addr) (v : V), x = .ref a ∧ ErrAt H1 a C f v ∧ Q v H1
theorem pe_errGet (Cs : Addr → Prop) (T : ∀ C, Cs C → ∃ bmB newId, ErrC X.K C f bmB newId) (he : PE X e te) (hb : attributeBase e f X.env (eval e X.env) = eval e X.env) :
    PE X (.Attribute e f pos) (fun σ H Q => te σ H fun x H1 => ∃ (a C : Addr) (v : V), x = .ref a ∧ Cs C ∧ ErrAt H1 a C f v ∧ Q v H1) := by
  constructor
  intro pins s σ H Q I h
  refine attr_of hb (thn (he.run pins s σ H _ I h) ?_)
  intro u s1 ⟨x, H1, I1, rx, a, C, v, ex, hC, ⟨d, ha, hd⟩, q⟩
  subst ex
  obtain rfl : u = Value.ref a := rx
  obtain ⟨bmB, newId, T⟩ := T C hC
  obtain ⟨t1, ho⟩ := exo_at I1.hok ha
  obtain ⟨mA, hns, hr⟩ := exd_at I1.hok hd
  obtain ⟨od, hod, hl⟩ := lookIn_ns hns
  have l : List.lookup f [(f, v)] = some v := by simp [List.lookup]
  obtain ⟨u, hu, ru⟩ := RelO.some_of (v := v) (o := mA f) (by rw [← l]; exact hr f)
  have J : PySem.W.InstAt s1.heap a { cls := .ref C, dict := some d, data := .fields #[.ref t1, .none, .none, .none, .bool false, .none] } C (some od) := ⟨ho, rfl, rfl, hod⟩
  exact HandSPX.exc_get I1.kIn J T.ga T.gg T.ex (PySem.W.findObj_own T.hd T.no rfl (by rw [hl, hu])) (handed_of ru) ⟨v, H1, I1.tok _, ru, q⟩
end
/-! ### isinstance of an error -/
structure IsF (K : PySem.W.Frag) : Prop where
  gt : PySem.W.specialIn K (.builtin "object.__class__") "__get__" = some (some (.builtin "getset_descriptor.__get__"))
  tk : PySem.W.takesIn K (.builtin "object.__class__") = some true
/-- what isinstance asks of the class -/
structure IsC (K : PySem.W.Frag) (C : Addr) : Prop where
  ga : PySem.W.findIn K (.ref C) "__getattribute__" = some (some (.builtin "BaseException.__getattribute__"))
  gg : PySem.W.findIn K (.ref C) "__getattr__" = some none
  ex : PySem.W.subIn K (.ref C) (.type "BaseException") = some true
  cl : (PySem.W.clsIn K C).isSome = true
  ca : PySem.W.findIn K (.ref C) "__class__" = some (some (.builtin "object.__class__"))
  ob : PySem.W.mroIn K C (.type "object") = some true
theorem ErrC.isc {K : PySem.W.Frag} {C : Addr} {f : Str} {bmB : List Value} {newId : String} (T : ErrC K C f bmB newId) : IsC K C := ⟨T.ga, T.gg, T.ex, T.cl, T.ca, T.ob⟩
def isOk (K : PySem.W.Frag) (C : Addr) : Bool := (PySem.W.findIn K (.ref C) "__getattribute__" == some (some (.builtin "BaseException.__getattribute__"))) &&
  (PySem.W.findIn K (.ref C) "__getattr__" == some none) && (PySem.W.subIn K (.ref C) (.type "BaseException") == some true) && (PySem.W.clsIn K C).isSome &&
  (PySem.W.findIn K (.ref C) "__class__" == some (some (.builtin "object.__class__"))) && (PySem.W.mroIn K C (.type "object") == some true)
theorem IsC.of {K : PySem.W.Frag} {C : Addr} (h : isOk K C = true) : IsC K C := by
  unfold isOk at h
  simp only [Bool.and_eq_true, beq_iff_eq] at h
  obtain ⟨⟨⟨⟨⟨h1, h2⟩, h3⟩, h4⟩, h5⟩, h6⟩ := h
  exact ⟨h1, h2, h3, h4, h5, h6⟩
def rIsErr (K : PySem.W.Frag) : List V → Hp → VK → Prop := fun xs H Q => ∃ (a C : Addr) (c : V) (u : Value) (b : Bool), xs = [.ref a, c] ∧ ErrIs H a C ∧ IsC K C ∧ (∀ z, RelV c z → z = u) ∧ PySem.W.kitOne K (.ref C) u = some b ∧ Q (.bl b) H
theorem cr_isErr {X : Cx} (W : IsF X.K) : CallR X (.builtin "isinstance") (rIsErr X.K) := by
  intro pins s σ H xs us Q I r h
  obtain ⟨a, C, c, u, b, rfl, ⟨d, ha, hd⟩, T, hc, e, q⟩ := h
  obtain ⟨u1, u2, rfl, r1, r2⟩ := vals2 r
  obtain rfl : u1 = Value.ref a := r1
  have e2 := hc _ r2
  subst e2
  obtain ⟨t1, ho⟩ := exo_at I.hok ha
  have J : ∃ od, PySem.W.InstAt s.heap a { cls := .ref C, dict := d, data := .fields #[.ref t1, .none, .none, .none, .bool false, .none] } C od := by
    cases d with
    | none => exact ⟨none, ho, rfl, rfl, trivial⟩
    | some x =>
      obtain ⟨fs, hx⟩ := hd x rfl
      obtain ⟨mA, hns, _⟩ := exd_at I.hok hx
      obtain ⟨od, hod, _⟩ := lookIn_ns hns
      exact ⟨some od, ho, rfl, rfl, hod⟩
  obtain ⟨od, J⟩ := J
  exact PySem.W.kia_one (PySem.W.kitx_exc T.cl T.ga T.gg T.ex T.ca W.gt W.tk T.ob) I.kIn J e (fun z => nomatch z) fun tk => ⟨.bl b, H, I.tok tk, rfl, q⟩
end SQ
/-! Such errors raised, caught, read and asked in the suite. -/
namespace SQ
open PySem PySem.Spec PyProof.Rows L2
section
variable {X : Cx} {B newId initId : String} {bmB : List Value} {C fI : Addr} {f x : Str} {e : Expr} {te : TE} {p pos : Pos} {k : Nat}
/-- C(e), to be raised -/
theorem pmk_err (hf : Fld f) (BB : BaseB B newId initId bmB) (T : ErrC X.K C f bmB newId) (J : ErrI X.K C fI f) (ty : PySem.W.typeIn X.K (.ref C) = some (.type "type")) (gC : X.mg x = some (.ref C)) (hr : Room k X.A) (hg : Gl X x) (he : PE X e te)
    (hdb : (x == ("__debug__" : Str)) = false := by decide) (hs : starEach [e] X.env = (false, eval e X.env) :: starEach [] X.env := by rfl) :
    PMk X (.Call (.Name x p) [e] [] pos) (fun σ H Q => te σ H fun v H1 => ∀ d, H1 d = none → Q (.ref C) (some d) (upd H1 d (.xd [(f, v)]))) := by
  intro pins s σ H Q I h
  refine wpAny_Call_Name_kw (ld_glob I hg gC ?_ hdb)
  refine PySem.W.callWith_K (h₀ := X.base) I.ok.mod.kin T.kp ?_ hs (by rfl)
  rw [hs]
  show wpAny _ _ (spliced ((false, eval e X.env) :: backTo pos (starEach [] X.env))) _ _ s
  refine Calls.spliced_cons (thn (he.run pins s σ H _ I h) fun u s1 ⟨v, H1, I1, r1, q1⟩ => ?_)
  refine Calls.spliced_nil ⟨I1.kIn, ?_⟩
  show wpAny _ _ (call (.ref C) [u]) _ _ _
  have hlim := I1.nolimit
  obtain ⟨hp, g, dr, tk, os⟩ := s1
  refine wpAny_call (run_made (pos := [u]) (kw := []) hf BB T J (.inl ⟨rfl, rfl⟩) I1.kIn hlim (by have := hr.dp; omega) fun h' tk' a dx M => ?_)
  show MkP X pins σ Q (.ref a) ⟨h', g, dr, tk', os⟩
  obtain ⟨t1, ho⟩ := M.obj
  obtain ⟨G', g1, g2⟩ := restrict h' fun b => decide (b ≠ a)
  have gk : ∀ b, b ≠ a → G'.get? b = h'.get? b := fun b hb => g1 b (decide_eq_true hb)
  have ge : G'.get? a = none := g2 a (by simp)
  have old : ∀ b o, hp.get? b = some o → G'.get? b = some o := fun b o q =>
    (gk b (Nat.ne_of_lt (Nat.lt_of_lt_of_le (Heap.lt_size q) M.new))).trans (M.keep b o q)
  have ob : ObjOk X.prog X.w (upd H1 dx (.xd [(f, v)])) G' dx (.xd [(f, v)]) :=
    ⟨_, M.ns.at (fun o q => (gk dx M.dne).trans q), fun y => relO_put (fs := []) (mA := fun _ => none) r1 (fun g => True.intro) y⟩
  have J1 : Inv X pins σ (upd H1 dx (.xd [(f, v)])) ⟨G', g, dr, tk', os⟩ := I1.laid (t' := tk') old M.dbig ob
  refine ⟨a, _, _, ⟨G', g, dr, tk', os⟩, _, .ref C, some dx, rfl, J1, fun b o q => ?_, ge, ho, ⟨rfl, rfl⟩, rfl, rfl, ?_, rfl, I1.bare, raises_own T.ex ty, q1 dx (I1.hok.fresh M.dbig)⟩
  · by_cases hb : b = a
    · have q' : G'.get? b = some o := q
      rw [hb, ge] at q'
      cases q'
    · exact (gk b hb).symm.trans q
  · rw [upd_ne (Ne.symm M.dne)]
    exact I1.hok.fresh M.new
end
section
variable {X : Cx} {a : Addr} {oe : Obj} {cls : Value} {d : Option Addr} {pn : List (Addr × Obj)} {f : Str} {e : Expr} {te : TE} {pos : Pos}
/-- what is known of the error that a suite holds -/
def Held (K : PySem.W.Frag) (H : Hp) (cls : Value) (d : Option Addr) (C : Addr) (f : Str) (v : V) : Prop := cls = .ref C ∧ ∃ dd, d = some dd ∧ H dd = some (.xd [(f, v)])
theorem held_at {pins : List (Addr × Obj)} {σ : L2.St} {H : Hp} {s : Shared} {C : Addr} {v : V} (I : Inv (X.suite a ((a, oe) :: pn)) pins σ H s) (hz : Zc cls d oe) (hf : ∃ vs, oe.data = .fields vs) (h : Held X.K H cls d C f v) :
    ∃ (od : Obj) (u : Value), PySem.W.InstAt s.heap a oe C (some od) ∧ PySem.W.lookIn f od = some (some u) ∧ RelV v u := by
  obtain ⟨rfl, dd, rfl, hd⟩ := h
  obtain ⟨ha, _⟩ := I.pin (a, oe) (List.mem_append_left _ List.mem_cons_self)
  obtain ⟨vs, hv⟩ := hf
  have hx : ObjOk X.prog X.w H s.heap dd (.xd [(f, v)]) := I.hok dd _ hd
  obtain ⟨mA, hns, hr⟩ := hx
  obtain ⟨od, ho, hl⟩ := lookIn_ns hns
  have l : List.lookup f [(f, v)] = some v := by simp [List.lookup]
  obtain ⟨u, hu, ru⟩ := RelO.some_of (v := v) (o := mA f) (by rw [← l]; exact hr f)
  exact ⟨od, u, ⟨ha, hz.1, by unfold PySem.W.notCls; rw [hv] <;> rfl, by rw [hz.2]; exact ho⟩, by rw [hl, hu], ru⟩
/-- err.f, err the error that the suite holds -/
theorem pe_heldGet (hz : Zc cls d oe) (hf : ∃ vs, oe.data = .fields vs) (he : PE (X.suite a ((a, oe) :: pn)) e te) (hb : attributeBase e f X.env (eval e X.env) = eval e X.env := by rfl) :
    PE (X.suite a ((a, oe) :: pn)) (.Attribute e f pos) (fun σ H Q => te σ H fun y H1 => y = .ref a ∧ ∃ (C : Addr) (v : V) (bmB : List Value) (newId : String), Held X.K H1 cls d C f v ∧ ErrC X.K C f bmB newId ∧ Q v H1) := by
  constructor
  intro pins s σ H Q I h
  refine attr_of hb (thn (he.run pins s σ H _ I h) ?_)
  intro u s1 ⟨y, H1, I1, ry, ey, C, v, bmB, newId, hh, T, q⟩
  subst ey
  obtain rfl : u = Value.ref a := ry
  obtain ⟨od, u, J, hl, ru⟩ := held_at I1 hz hf hh
  exact HandSPX.exc_get I1.kIn J T.ga T.gg T.ex (PySem.W.findObj_own T.hd T.no rfl hl) (handed_of ru) ⟨v, H1, I1.tok _, ru, q⟩
/-- isinstance(err, c) -/
theorem cr_heldIs (W : IsF X.K) (hz : Zc cls d oe) (hf : ∃ vs, oe.data = .fields vs) : CallR (X.suite a ((a, oe) :: pn)) (.builtin "isinstance")
    (fun xs H Q => ∃ (c : V) (u : Value) (b : Bool) (C : Addr) (v : V) (f : Str), xs = [.ref a, c] ∧ Held X.K H cls d C f v ∧ IsC X.K C ∧ (∀ z, RelV c z → z = u) ∧ PySem.W.kitOne X.K (.ref C) u = some b ∧ Q (.bl b) H) := by
  intro pins s σ H xs us Q I r h
  obtain ⟨c, u, b, C, v, f, rfl, hh, T, hc, e, q⟩ := h
  obtain ⟨u1, u2, rfl, r1, r2⟩ := vals2 r
  obtain rfl : u1 = Value.ref a := r1
  have e2 := hc _ r2
  subst e2
  obtain ⟨od, _, J, _, _⟩ := held_at I hz hf hh
  exact PySem.W.kia_one (PySem.W.kitx_exc T.cl T.ga T.gg T.ex T.ca W.gt W.tk T.ob) I.kIn J e (fun z => nomatch z) fun tk => ⟨.bl b, H, I.tok tk, rfl, q⟩
end
end SQ
/-! Such errors made anywhere (also in an except suite); promises that say that the error has no context. -/
namespace SQ
open PySem PySem.Spec PyProof.Rows L2
section
variable {X : Cx} {B newId initId : String} {bmB : List Value} {C fI : Addr} {f x : Str} {e : Expr} {te : TE} {p pos : Pos} {k : Nat}
/-- C(e), to be raised -/
theorem pmk5_err (hf : Fld f) (BB : BaseB B newId initId bmB) (T : ErrC X.K C f bmB newId) (J : ErrI X.K C fI f) (ty : PySem.W.typeIn X.K (.ref C) = some (.type "type")) (gC : X.mg x = some (.ref C)) (hr : X.A.depth + 1 < recursionLimit) (hg : Gl X x) (he : PE X e te)
    (hdb : (x == ("__debug__" : Str)) = false := by decide) (hs : starEach [e] X.env = (false, eval e X.env) :: starEach [] X.env := by rfl) :
    L2H.PMk5 X (.Call (.Name x p) [e] [] pos) (fun σ H Q => te σ H fun v H1 => ∀ d, H1 d = none → Q (.ref C) (some d) (upd H1 d (.xd [(f, v)]))) := by
  intro pins s σ H Q I h
  refine wpAny_Call_Name_kw (ld_glob I hg gC ?_ hdb)
  refine PySem.W.callWith_K (h₀ := X.base) I.ok.mod.kin T.kp ?_ hs (by rfl)
  rw [hs]
  show wpAny _ _ (spliced ((false, eval e X.env) :: backTo pos (starEach [] X.env))) _ _ s
  refine Calls.spliced_cons (thn (he.run pins s σ H _ I h) fun u s1 ⟨v, H1, I1, r1, q1⟩ => ?_)
  refine Calls.spliced_nil ⟨I1.kIn, ?_⟩
  show wpAny _ _ (call (.ref C) [u]) _ _ _
  have hlim := I1.nolimit
  obtain ⟨hp, g, dr, tk, os⟩ := s1
  refine wpAny_call (run_made (pos := [u]) (kw := []) hf BB T J (.inl ⟨rfl, rfl⟩) I1.kIn hlim hr fun h' tk' a dx M => ?_)
  show L2N.MkP X pins σ Q (.ref a) ⟨h', g, dr, tk', os⟩ ∧ L2H.Six (.ref a) ⟨h', g, dr, tk', os⟩
  obtain ⟨t1, ho⟩ := M.obj
  obtain ⟨G', g1, g2⟩ := restrict h' fun b => decide (b ≠ a)
  have gk : ∀ b, b ≠ a → G'.get? b = h'.get? b := fun b hb => g1 b (decide_eq_true hb)
  have ge : G'.get? a = none := g2 a (by simp)
  have old : ∀ b o, hp.get? b = some o → G'.get? b = some o := fun b o q =>
    (gk b (Nat.ne_of_lt (Nat.lt_of_lt_of_le (Heap.lt_size q) M.new))).trans (M.keep b o q)
  have ob : ObjOk X.prog X.w (upd H1 dx (.xd [(f, v)])) G' dx (.xd [(f, v)]) :=
    ⟨_, M.ns.at (fun o q => (gk dx M.dne).trans q), fun y => relO_put (fs := []) (mA := fun _ => none) r1 (fun g => True.intro) y⟩
  have J1 : Inv X pins σ (upd H1 dx (.xd [(f, v)])) ⟨G', g, dr, tk', os⟩ := I1.laid (t' := tk') old M.dbig ob
  refine ⟨⟨a, _, _, ⟨G', g, dr, tk', os⟩, _, .ref C, some dx, rfl, J1, fun b o q => ?_, ge, ho, ⟨rfl, rfl, fun vs z => by cases z; rfl⟩, rfl, rfl, ?_, rfl, I1.bare, raises_own T.ex ty, q1 dx (I1.hok.fresh M.dbig)⟩, ?_⟩
  · by_cases hb : b = a
    · have q' : G'.get? b = some o := q
      rw [hb, ge] at q'
      cases q'
    · exact (gk b hb).symm.trans q
  · rw [upd_ne (Ne.symm M.dne)]
    exact I1.hok.fresh M.new
  · intro a' oe vs ea hg hd
    cases ea
    have hg' : h'.get? a = some oe := hg
    rw [ho] at hg'
    cases hg'
    cases hd
    show (4 : Nat) < 6
    decide
theorem pmk_of5 {t : L2.St → Hp → XK → Prop} (h : L2H.PMk5 X e t) : L2.PMk X e t := fun pins s σ H Q I q => thn (h pins s σ H Q I q) fun u s' ⟨⟨a, oe, vs, sI, H', cls, d, r0, J, k, hne, ha, hz, rest⟩, _⟩ =>
  ⟨a, oe, vs, sI, H', cls, d, r0, J, k, hne, ha, hz.zc, rest⟩
end
theorem cxN_to {P : Program} {w : World} {outer : List Env} {H : Hp} {s : Shared} {E : XK} {u : Value} {t : Shared} (c : L2N.CX P w outer H s E u t) : L2.CX P w outer H s E u t := by
  obtain ⟨a, B, H', cls, d, e, fl, rest⟩ := c
  exact ⟨a, B, H', cls, d, e, L2H.flyingZ_imp (fun _ z => z.zc) fl, rest⟩
theorem cxUpN {P : Program} {w : World} : StX.CXUp (L2N.CX P w) := by
  rintro outer s H s2 H2 E e t un kp ho ⟨a, B, H', cls, d, ea, fl, hok, ub, na, os, ag, he⟩
  have ub2 : UB (frs outer) H H' s.heap B t.heap := by
    constructor
    · exact fun b o q n hb => ub.keep b o (kp b o q) (un.free b o q n (fun z => nomatch z)) hb
    · exact fun b o q hb => ub.slot b o (kp b o q) hb
    · exact fun b o q n => ub.free b o (kp b o q) (un.free b o q n (fun z => nomatch z))
    · exact fun b o q hb => ub.there b o (kp b o q) hb
    · exact fun b xs q => ub.tups b xs (un.tups b xs q)
    · exact fun b o xs q => ub.frzs b o xs (un.frzs b o xs q)
    · intro b ps q
      obtain ⟨m1, e1⟩ := un.tbls b ps q
      obtain ⟨m2, e2⟩ := ub.tbls b _ e1
      refine ⟨m1 ++ m2, ?_⟩
      rw [e2, Array.append_assoc]
  exact ⟨a, B, H', cls, d, ea, fl, hok, ub2, na, os.trans ho, ag, he⟩
section
variable {P : Program} {w : World} {K : PySem.W.Frag} {mg : Str → Option Value} {base : Heap}
/-- a def that may raise, its error without context -/
theorem okN {x qual : Str} {st : Stmt} {f : Addr} {fd : FuncData} {N ps : List Str} {k : Nat} {sp : Sp} (F : Fun K x qual st f fd) (S : FnScope N ps (defScope st)) (len : ∀ vs H Q E, sp vs H Q E → vs.length = ps.length)
    (hb : ∀ (cdv : Value) (A : Around) (outer : List Env) (s : Shared) (H : Hp) (vs : List V) (Q : VK) (E : XK), Room k (A.deeper (envOfC qual (defScope st) s.heap.objs.size f cdv)) → sp vs H Q E →
      ∃ t, PSs (cxOf (L2N.CX P w) P w K mg base N qual (defScope st) f cdv A outer s H E) (defBody st) t ∧ t { nx := fun _ H' => Q .non H', rt := Q } (start N vs) H) : FnOk P w K mg base (L2N.CX P w) (k + 1) f fd ps sp := by
  obtain ⟨oc, od, kV, doc, pm, an, cdv, ct, osl, rfl, lk, hcd⟩ := F.ex
  exact fn_of lk hcd S len fun A outer s H vs Q E hr hsp => hb cdv A outer s H vs Q E hr hsp
/-- the context is forgotten -/
theorem fnR_ctx {k : Nat} {f : Addr} {sp : Sp} (F : FnR P w K mg base (L2N.CX P w) k f sp) : FnR P w K mg base (L2.CX P w) k f sp := by
  intro A outer s H us vs Q E hr e0 r hsp
  refine codeAny_mono (F A outer s H us vs Q E hr e0 r hsp) fun r s' h => ?_
  cases r with
  | error e => exact cxN_to h
  | ok fl =>
    cases fl <;> exact h
end
end SQ
/-! for i, x in enumerate(a tuple) -/
namespace SQ
open PySem PySem.Spec PyProof.Rows L2
def ItT (K : PySem.W.Frag) (a : Addr) : It :=
  ⟨fun i H => ∃ (xs : List V) (x : V), SqT K H a xs ∧ xs[i]? = some x,
    fun i H v H' => ∃ T x, v = .ref T ∧ H T = none ∧ H' = upd H T (.tup [.int (i : Nat), x]) ∧ ∀ xs, SqT K H a xs → xs[i]? = some x,
    fun i H => ∃ xs : List V, SqT K H a xs ∧ xs.length = i⟩
/-- the makings of enumerate(v) -/
theorem meets_enum1 {v : Value} {o : Obj} {G : Heap → Prop} (B : Begins v o G) :
    Meets (Builtin.«enumerate.__new__» ⟨[.type "enumerate", v], []⟩) (fun _ R s => G s.heap ∧
      R (.ok (.ret (.ref (s.heap.push o).objs.size))) { s with heap := (s.heap.push o).push ({ cls := .type "enumerate", data := .fields #[.none, .bool false, .ref s.heap.objs.size, rawInt 0, .none, .none] } : Obj) }) := by
  refine .of_wp fun prog w A R s h => ?_
  obtain ⟨hp, g, d, tk, os⟩ := s
  obtain ⟨hG, hR⟩ := h
  have isSub := sub_enumerate
  have it : ∀ {A' : Around} {E : Value → Shared → Prop} {Q : Value → Shared → Prop}, Q (.ref hp.objs.size) ⟨hp.push o, g, d, tk, os⟩ →
      wpAny (model prog w) A' (pyIter v) Q E ⟨hp, g, d, tk, os⟩ := fun q => B.iter prog w _ _ ⟨hp, g, d, tk, os⟩ _ hG q
  wp_walk using it
  refine wpAny_stack_any fun st => wpAny_pure ?_
  split
  · rename_i c _ _ _ _ _
    cases (c == Value.type "enumerate") <;>
    · wp_walk using it
      exact ⟨_, rfl, hR⟩
  · wp_walk using it
    exact ⟨_, rfl, hR⟩
section
variable {prog : Program} {w : World} {A : Around} {E : Value → Shared → Prop} {s : Shared}
theorem enum_of {v : Value} {o : Obj} {G : Heap → Prop} {Q : Value → Shared → Prop} (B : Begins v o G) (hG : G s.heap)
    (h : ∀ h', IsEnum h' (s.heap.objs.size + 1) s.heap.objs.size 0 .none → h'.get? s.heap.objs.size = some o →
      (∀ b u, s.heap.get? b = some u → h'.get? b = some u) → Q (.ref (s.heap.objs.size + 1)) { s with heap := h' }) :
    wpAny (model prog w) A (call (.type "enumerate") [v]) Q E s := by
  refine callType_new F.called_enumerate (by decide) (F.typeCall_enumerate_1 _) (F.newCall_enumerate_1 _) (fun obj => F.args_object_init_2 obj _)
    F.entry_enumerate_new (meets_enum1 B) ⟨hG, ?_⟩
  have hz : (s.heap.push o).objs.size = s.heap.objs.size + 1 := Heap.size_push ..
  show _ ∧ _
  rw [hz]
  have got := Heap.get?_push_size (s.heap.push o)
    (o := { cls := .type "enumerate", data := .fields #[.none, .bool false, .ref s.heap.objs.size, rawInt 0, .none, .none] }) rfl
  rw [hz] at got
  exact ⟨⟨_, got, rfl⟩, h _ got (Heap.get?_push_of_some _ (Heap.get?_push_size _ B.free)) fun b u x => Heap.get?_push_of_some _ (Heap.get?_push_of_some _ x)⟩
end
theorem tup_of {h : Heap} {a : Addr} {its : List Value} (p : IsTup h a its.toArray) : h.IsTuple a its.toArray := by
  obtain ⟨o, e, c, n, d⟩ := p
  exact ⟨o, e, c, n, d⟩
theorem turn_enumT {P : Program} {w : World} {K : PySem.W.Frag} {elts : List Expr} {kk : Nat} {tpos : Pos} (a e it : Addr) :
    Turn P w K (.Tuple elts kk tpos) (ItT K a) [e, it] e (fun i h => (∃ old, IsEnum h e it ((i : Nat) : Int) old) ∧ h.IsTupleIter it a i ∧ e ≠ it ∧ a ≠ it ∧ e ≠ a) where
  mem := by simp
  obj := fun i h ⟨⟨old, he⟩, ⟨o, ho, hc, hd⟩, _⟩ b hb => by
    rcases (show b = e ∨ b = it by simpa using hb) with z | z
    · rw [z]
      exact ⟨_, he, fun v q => nomatch q⟩
    · rw [z]
      exact ⟨o, ho, fun v q => by rw [hd] at q; cases q⟩
  keep := fun i h h' ⟨⟨old, he⟩, ⟨o, ho, r⟩, ne⟩ k => ⟨⟨old, k e (by simp) _ he⟩, ⟨o, k it (by simp) _ ho, r⟩, ne⟩
  item := by
    intro X hP hw hK hc i pins s σ H E I hf ⟨⟨old, he⟩, hit, ne1, ne2, ne3⟩ ⟨xs, x, hq, hx⟩
    subst hP hw hK
    obtain ⟨its, rv, p, hz⟩ := I.tuple hq
    obtain ⟨u, hu, ru⟩ := rv.get hx
    have hel : e < s.heap.objs.size := Heap.lt_size he
    have hil : it < s.heap.objs.size := by
      obtain ⟨_, q, _⟩ := hit
      exact Heap.lt_size q
    have hd : X.A.in1.handled = none := I.ok.hd hc
    have hlt : i < its.toArray.size := by
      have := (List.getElem?_eq_some_iff.mp hu).1
      simpa using this
    refine wpAny_pyNext_enum_itemD (Draws.tuple (prog := X.prog) (w := X.w) (A := X.A.in1) hd it a ne2 its.toArray) he ⟨hit, tup_of p⟩ hlt ne1 (by simp [ne1, ne3]) ?_
    intro u' h' tk hu' ho ⟨hit', _⟩ hT hsz hk
    have eu : u' = u := by
      have h1 : its[i]? = some u' := by simpa using hu'
      rw [hu] at h1
      exact (Option.some.inj h1).symm
    subst eu
    refine ⟨_, rfl, wpAny_letOwnedTupleGo_enum (s := { s with heap := h', toks := tk + 1 }) ho fun h'' he' sb => ?_⟩
    have hT2 : h''.get? s.heap.objs.size = some { cls := .type "tuple", data := .seq #[.int i tk, u'] } := (sb.2 _ (Nat.ne_of_gt hel)).trans hT
    have new : ObjOk X.prog X.w (upd H s.heap.objs.size (.tup [.int (i : Nat), x])) h'' s.heap.objs.size (.tup [.int (i : Nat), x]) :=
      ⟨by show 2 ≤ sizeLine; decide, [.int i tk, u'], .cons ⟨_, rfl⟩ (.cons ru .nil), ⟨_, hT2, rfl, _, rfl⟩⟩
    have I1 : Inv X pins σ (upd H s.heap.objs.size (.tup [.int (i : Nat), x])) { s with heap := h'', toks := tk + 1 } :=
      I.turnedNew (ch := [e, it]) (fun b ob hb q => (sb.2 b (fun z => hb (by simp [z]))).trans (hk b ob (fun z => hb (by simp [z])) (fun z => hb (by simp [z])) q)) hf (Nat.le_refl _) new
    refine ⟨.ref s.heap.objs.size, _, I1, rfl, ⟨_, x, rfl, I.hok.fresh (Nat.le_refl _), rfl, fun ys hy => by rw [I.tuple_inj hy hq]; exact hx⟩, ⟨⟨u', ?_⟩, ?_, ne1, ne2, ne3⟩, fun b hb => ?_⟩
    · rw [show ((i + 1 : Nat) : Int) = (i : Int) + 1 by omega]
      exact he'
    · obtain ⟨o, q, r⟩ := hit'
      exact ⟨o, (sb.2 it (Ne.symm ne1)).trans q, r⟩
    · have hb' : b < s.heap.objs.size := by
        rcases (show b = e ∨ b = it by simpa using hb) with z | z
        · rw [z]
          exact hel
        · rw [z]
          exact hil
      rw [upd_ne (Nat.ne_of_lt hb')]
      exact (hf b hb).1
  done := by
    intro X hP hw hK hc i pins s σ H E I hf ⟨⟨old, he⟩, hit, ne1, ne2, ne3⟩ ⟨xs, hq, hx⟩
    subst hP hw hK
    obtain ⟨its, rv, p, hz⟩ := I.tuple hq
    obtain ⟨f0, f1, f2, f3, f4, f5⟩ := hf it (by simp)
    have hl := rv.length
    have hd : X.A.in1.handled = none := I.ok.hd hc
    have hn : its.toArray.size = i := by
      rw [List.size_toArray]
      omega
    refine wpAny_pyNext_enum_endD (Draws.tuple (prog := X.prog) (w := X.w) (A := X.A.in1) hd it a ne2 its.toArray) he ?_ ?_
    · rw [hn]
      exact ⟨hit, tup_of p⟩
    · intro h' eb
      exact ⟨rfl, I.turned (t' := s.toks) (fun b o hb q => eb b o hb q) f0 f1 f3 f4 f5⟩
  self := fun A i s Q E ⟨⟨_, he⟩, _⟩ h => wpAny_pyIter_enum he h
def iEnumT (K : PySem.W.Frag) (ta : TA) : TI := fun σ H R => ta σ H fun vs H1 => ∃ a xs, vs = [.ref a] ∧ SqT K H1 a xs ∧ R (ItT K a) H1
theorem pi_enumT {X : Cx} {e : Expr} {ta : TA} {p pos tpos : Pos} {elts : List Expr} {kk : Nat} (hg : Gl X "enumerate") (hm : X.mg "enumerate" = none) (ha : PA X [e] ta)
    (hs : starEach [e] X.env = [(false, eval e X.env)] := by rfl) : PI X (.Tuple elts kk tpos) (.Call (.Name "enumerate" p) [e] [] pos) (iEnumT X.K ta) := by
  constructor
  intro pins s σ H R I h
  refine Call_ (ld_blt I hg hm boot_enumerate (PyProof.Rows.callWith_type1 (thn (ha.run pos pins s σ H _ I h) ?_) hs rfl))
  intro us s1 ⟨vs, H1, I1, r1, a, xs, ex, hq, q⟩
  subst ex
  cases r1 with
  | cons r rr =>
    cases rr
    cases r
    obtain ⟨its, rv, p', hz⟩ := I1.tuple hq
    have hal : a < s1.heap.objs.size := by
      obtain ⟨o, e', _⟩ := p'
      exact Heap.lt_size e'
    refine enum_of (begins_tuple a its.toArray) (tup_of p') fun h' he hit hk => wpAny_pyIter_enum he ?_
    have I2 : Inv X pins σ H1 { s1 with heap := h' } := I1.kept (t' := s1.toks) hk
    refine ⟨s1.heap.objs.size + 1, [s1.heap.objs.size + 1, s1.heap.objs.size], _, _, H1, rfl, I2, turn_enumT a (s1.heap.objs.size + 1) s1.heap.objs.size,
      ⟨⟨.none, he⟩, ⟨_, hit, rfl, rfl⟩, Nat.succ_ne_self _, Nat.ne_of_lt hal, Nat.ne_of_gt (Nat.lt_succ_of_lt hal)⟩, fun b hb => ?_, q⟩
    have hle : s1.heap.objs.size ≤ b := by
      rcases (show b = s1.heap.objs.size + 1 ∨ b = s1.heap.objs.size by simpa using hb) with z | z
      · rw [z]
        exact Nat.le_succ _
      · rw [z]
        exact Nat.le_refl _
    exact I1.fpOk hle (I1.hok.fresh hle)
end SQ
namespace SQ1
open PySem L2 SQ
abbrev sChk : Stmt := top 18
theorem dp_of {k : Nat} {A : Around} (hr : Room k A) : A.depth + 1 < recursionLimit := by
  have := hr.dp
  omega
abbrev En := Option (Str × Int × Int)
abbrev Ents (H : Hp) (xs : List V) (os : List En) : Prop := Paired (Ent H) xs os
theorem Ents.same {H H' : Hp} {xs : List V} {os : List En} (s : Same H H') (h : Ents H xs os) : Ents H' xs os := Paired.mapP h fun a b e => e.same s
/-- the first place that is refused, what stands ahead of i having the names seen -/
def firstBad (seen : List Str) (i : Nat) : List En → Option Nat
  | [] => none
  | none :: _ => some i
  | some (n, _, _) :: os => if n ∈ seen then some i else firstBad (n :: seen) (i + 1) os
/-- what the error's index holds, if there is one -/
def verdict (os : List En) : Option V := if 8 < os.length then some .non else (firstBad [] 0 os).map fun i => .int (i : Nat)
/-- the error's class as the top has made it -/
structure EC (K : PySem.W.Frag) (mg : Str → Option Value) (CE fI : Addr) : Prop where
  g : mg "InvalidEntries" = some (.ref CE)
  T : ErrC K CE "index" [.type "ValueError", .type "Exception", .type "BaseException", .type "object"] "ValueError.__new__"
  J : ErrI K CE fI "index"
  ty : PySem.W.typeIn K (.ref CE) = some (.type "type")
structure B3 (mg : Str → Option Value) : Prop where
  set : mg "set" = none
  enumerate : mg "enumerate" = none
  most : ∃ t, mg "MOST_ENTRIES" = some (.int 8 t)
def spChk (CE : Addr) : Sp := fun vs H Q E => ∃ (t : Addr) (xs : List V) (os : List En), vs = [.ref t] ∧ H t = some (.tup xs) ∧ Ents H xs os ∧ xs.length ≤ 2000 ∧
  (∀ idx, verdict os = some idx → ∀ (d : Addr) (H' : Hp), Same H H' → H' d = some (.xd [("index", idx)]) → E (.ref CE) (some d) H') ∧ (verdict os = none → ∀ H', Same H H' → Q .non H')
section
variable {P : Program} {w : World} {K : PySem.W.Frag} {mg : Str → Option Value} {base : Heap} {fP fN fF fA fE tC CE fI : Addr} {dP dN dF dA dE : FuncData}
theorem scCk : FnScope ["entries", "taken", "place", "entry"] ["entries"] (defScope sChk) := ⟨rfl, rfl, rfl, by decide +kernel, rfl, by decide +kernel, by decide +kernel⟩
theorem walk_enumT {a : Addr} {xs : List V} : Walk (ItT K a) xs.length (fun H => SqT K H a xs) (YPair (fun i => some (.int (i : Nat))) (fun i => xs[i]?)) := by
  refine ⟨fun i _ hi q => ⟨xs, xs[i], q, by simp [hi]⟩, fun _ q => ⟨xs, q, rfl⟩, fun i H v H' _ q y => ?_⟩
  obtain ⟨T, x, h1, h2, h3, h4⟩ := y
  exact ⟨T, .int (i : Nat), x, h1, h2, h3, rfl, h4 xs q⟩
theorem Ents.get {H : Hp} : ∀ {xs : List V} {os : List En} {i : Nat} {x : V}, Ents H xs os → xs[i]? = some x → ∃ o, os[i]? = some o ∧ Ent H x o
  | _, _, _, _, .nil, e => by simp at e
  | _, _, 0, x, .cons r t, e => by
    cases e
    exact ⟨_, rfl, r⟩
  | _, _, i + 1, x, .cons r t, e => Ents.get (i := i) (x := x) t e
theorem drop_at {α : Type} : ∀ {l : List α} {i : Nat} {x : α}, l[i]? = some x → l.drop i = x :: l.drop (i + 1)
  | [], i, x, h => by simp at h
  | a :: l, 0, x, h => by
    cases h
    rfl
  | a :: l, i + 1, x, h => drop_at (l := l) (i := i) h
theorem ok_chk {f : Addr} {fd : FuncData} (F : Fun K "check_entries" "check_entries" sChk f fd) (D : D2 K mg fP fN fF fA fE dP dN dF dA dE) (B : B2 mg) (C : Core K mg tC) (Z : EC K mg CE fI) (BB : B3 mg) : FnOk P w K mg base (L2N.CX P w) 4 f fd ["entries"] (spChk CE) := by
  have GE : FnOk P w K mg base CX0 3 fE dE ["value"] spEn := ok_en D B C
  obtain ⟨tM, hM⟩ := BB.most
  refine okN F scCk (fun vs H Q E h => ?_) (fun cdv A outer s H vs Q E hr h => ?_)
  · obtain ⟨t, xs, os, rfl, _⟩ := h
    rfl
  · obtain ⟨t, xs, os, rfl, ht, he, hlen, kE, kQ⟩ := h
    have hl : xs.length = os.length := Paired.length he
    refine ⟨_, pss_cons (ps_if (pt_cmpR op_gt (pe_callB call_len_seq (by rfl) B.len PySem.boot_len (pa_cons (pv 0) pa_nil)) (pe_glob (v := .int 8) rfl hM ⟨_, rfl⟩) (nomark _))
        (pss_one (L2N.ps_raise rfl (L2N.takes_of rfl rfl rfl rfl) (L2H.PMk5.pmk (pmk5_err (.inr (.inl rfl)) bValue Z.T Z.J Z.ty Z.g (dp_of hr) rfl pe_non)))) pss_nil)
      (pss_cons (ps_set (i := 1) scCk.nd rfl (.inl rfl) (pe_callTy0 cr_set0K (by rfl) BB.set (by decide +kernel)))
      (pss_one (ps_for (passes_of rfl) rfl (pi_enumT (by rfl) BB.enumerate (pa_cons (pv 0) pa_nil)) (pg_tup rfl (pgs_cons (pg_name (i := 2) scCk.nd rfl (.inl rfl)) (pgs_cons (pg_name (i := 3) scCk.nd rfl (.inl rfl)) pgs_nil)))
        (pss_cons (ps_if (PW.pt (pw_or (pt_not (pt_val (pe_call GE hr rfl D.gE D.FE.kp D.bE .nil pass0 (pa_cons (pv 3) pa_nil)))) (pw_or1 (pt_cmpR or_sinK (pe_ix ix_tup (pv 3) pe_int (fun _ _ => rfl)) (pv 1) (by rfl)))))
          (pss_one (L2N.ps_raise rfl (L2N.takes_of rfl rfl rfl rfl) (L2H.PMk5.pmk (pmk5_err (.inr (.inl rfl)) bValue Z.T Z.J Z.ty Z.g (dp_of hr) rfl (pv 2))))) pss_nil)
        (pss_one (ps_expr (pe_saddK (pv 1) (pa_cons (pe_ix ix_tup (pv 3) pe_int (fun _ _ => rfl)) pa_nil)))))))), ?_⟩
    refine ⟨_, rfl, t, xs, rfl, .inr (SqT.of ht), _, _, rfl, rfl, _, rfl, ?_⟩
    by_cases h8 : (8 : Int) < (xs.length : Int)
    · rw [decide_eq_true h8]
      refine iteT fun d nd => ?_
      exact kE .non (by unfold verdict; rw [if_pos (by omega)]) d _ (same_new (fun _ _ e => e) nd) upd_same
    · rw [decide_eq_false h8]
      refine iteF ⟨rfl, fun p np => ?_⟩
      have sP : Same H (upd H p (SetK P w p (fun _ => false) 0)) := same_new (fun _ _ e => e) np
      have hv : verdict os = (firstBad [] 0 os).map fun i => .int (i : Nat) := by
        unfold verdict
        rw [if_neg (by omega)]
      refine ⟨_, rfl, t, xs, rfl, SqT.of (sP _ _ ht), for_it walk_enumT (fun i σ H2 => ∃ (S : Key → Bool) (n : Nat) (seen : List Str) (v2 v3 : Option V), σ = [some (.ref t), some (.ref p), v2, v3] ∧ Same H H2 ∧ H2 p = some (SetK P w p S n) ∧ n ≤ i ∧
          (∀ k : Str, S (Sum.inr k) = decide (k ∈ seen)) ∧ firstBad [] 0 os = firstBad seen i (os.drop i))
        ⟨_, 0, [], none, none, rfl, sP, upd_same, Nat.le_refl _, fun k => by simp, rfl⟩ (fun i σ H2 _ ⟨_, _, _, _, _, _, s2, _⟩ => SqT.of (s2 _ _ ht)) ?_ ?_⟩
      · rintro i v σ H2 H3 hi ⟨S, n, seen, v2, v3, rfl, s2, hp2, hn, hS, hF⟩ ⟨T, x, y, rfl, nT, rfl, e1, e2⟩
        cases e1
        obtain ⟨o, ho, en⟩ := Ents.get he e2
        have s3 : Same H2 (upd H2 T (.tup [.int (i : Nat), y])) := same_new (fun _ _ e => e) nT
        have hT : upd H2 T (.tup [.int (i : Nat), y]) T = some (.tup [.int (i : Nat), y]) := upd_same
        have hp3 := s3 _ _ hp2
        rw [drop_at ho] at hF
        generalize hG : upd H2 T (HO.tup [V.int (i : Nat), y]) = G at hT hp3 s3 ⊢
        have s23 : Same H G := st s2 s3
        refine ⟨T, _, rfl, SqT.of hT, rfl, _, _, rfl, _, _, rfl, rfl, ?_⟩
        refine ⟨_, rfl, y, o, rfl, en.same s23, fun G1 sg => ⟨_, rfl, ?_⟩⟩
        have s4 : Same H G1 := st s23 sg
        have hp4 := sg _ _ hp3
        cases o with
        | none =>
          refine iteT (iteT ⟨_, rfl, fun d nd => ?_⟩)
          refine kE (.int (i : Nat)) ?_ d _ (same_new s4 nd) upd_same
          rw [hv, hF]
          rfl
        | some o3 =>
          obtain ⟨nm, a1, a2⟩ := o3
          refine iteF ?_
          have en4 := en.same s4
          cases en4 with
          | @good ea _ _ _ eE hnm hok =>
            refine ⟨_, rfl, ea, _, _, _, rfl, rfl, SqT.of eE, rfl, _, rfl, Sum.inr nm, p, S, n, rfl, rfl, hp4, _, rfl, ?_⟩
            show (if S (Sum.inr nm) = true then _ else _)
            rw [hS nm]
            by_cases hm : nm ∈ seen
            · rw [decide_eq_true hm]
              refine iteT ⟨_, rfl, fun d nd => ?_⟩
              refine kE (.int (i : Nat)) ?_ d _ (same_new s4 nd) upd_same
              rw [hv, hF]
              show (if nm ∈ seen then some i else _).map _ = _
              rw [if_pos hm]
              rfl
            · rw [decide_eq_false hm]
              refine iteF ?_
              refine ⟨_, rfl, ⟨p, S, n, rfl, hp4⟩, _, rfl, ea, _, _, _, rfl, rfl, SqT.of eE, rfl, p, Sum.inr nm, S, n, rfl, rfl, hp4, ?_, ?_⟩
              · show n + 1 < 4096
                omega
              · refine ⟨_, _, nm :: seen, _, _, rfl, ?_, upd_same, ?_, ?_, ?_⟩
                · intro b ob e
                  rw [upd_ne (ne_of_none e np)]
                  exact s4 _ _ e
                · split <;> omega
                · intro k
                  show (S (Sum.inr k) || decide ((Sum.inr k : Key) = Sum.inr nm)) = decide (k ∈ nm :: seen)
                  rw [hS k, key_rr]
                  by_cases hk : k = nm
                  · subst hk
                    simp
                  · simp [hk]
                · rw [hF]
                  show (if nm ∈ seen then some i else firstBad (nm :: seen) (i + 1) (os.drop (i + 1))) = _
                  rw [if_neg hm]
      · rintro σ H2 ⟨S, n, seen, v2, v3, rfl, s2, hp2, hn, hS, hF⟩
        refine kQ ?_ H2 s2
        rw [hv, hF, hl, List.drop_length]
        rfl
end
end SQ1
namespace SQ1
open PySem L2 SQ
abbrev sTx : Stmt := top 19
abbrev sIni : Stmt := inClass (top 22) 0
def etext (n : Str) (i j : Int) : Str := Str.empty ++ n ++ " " ++ (toString i) ++ " " ++ (toString j)
def spTx : Sp := fun vs H Q _ => ∃ (n : Str) (t : Addr) (i j : Int), vs = [.str n, .ref t] ∧ H t = some (.tup [.int i, .int j]) ∧ n.length ≤ 1000 ∧ 0 ≤ i ∧ i ≤ 3 ∧ 0 ≤ j ∧ j ≤ 3 ∧ Q (.str (etext n i j)) H
section
variable {P : Program} {w : World} {K : PySem.W.Frag} {mg : Str → Option Value} {base : Heap} {fP fN fF fA fE tC CE fI : Addr} {dP dN dF dA dE : FuncData}
theorem scTx : FnScope ["name", "arity", "inputs", "outputs"] ["name", "arity"] (defScope sTx) := ⟨rfl, rfl, rfl, by decide +kernel, rfl, by decide +kernel, by decide +kernel⟩
theorem four {i : Int} (h0 : 0 ≤ i) (h1 : i ≤ 3) : i = 0 ∨ i = 1 ∨ i = 2 ∨ i = 3 := by omega
theorem small_log {i : Int} (h0 : 0 ≤ i) (h1 : i ≤ 3) : i.natAbs.log2 < 1920 := by
  rcases four h0 h1 with rfl | rfl | rfl | rfl <;> decide
theorem len_num {i : Int} (h0 : 0 ≤ i) (h1 : i ≤ 3) : ((toString i : String) : Str).length = 1 := by
  rcases four h0 h1 with rfl | rfl | rfl | rfl <;> decide +kernel
theorem len_app (a b : Str) : (a ++ b).length = a.length + b.length := by
  show (a.cps ++ b.cps).size = a.cps.size + b.cps.size
  exact Array.size_append
theorem ok_tx {f : Addr} {fd : FuncData} (F : Fun K "entry_text" "entry_text" sTx f fd) : FnOk P w K mg base CX0 1 f fd ["name", "arity"] spTx := by
  refine F.ok scTx (fun vs H Q E h => ?_) (fun cdv A outer s H vs Q E hr h => ?_)
  · obtain ⟨n, t, i, j, rfl, _⟩ := h
    rfl
  · obtain ⟨n, t, i, j, rfl, ht, hn, i0, i3, j0, j3, q⟩ := h
    refine ⟨_, pss_cons (ps_asg (pv 1) (pg_tup rfl (pgs_cons (pg_name (i := 2) scTx.nd rfl (.inl rfl)) (pgs_cons (pg_name (i := 3) scTx.nd rfl (.inl rfl)) pgs_nil))))
      (pss_one (ps_ret (pe_joined (.cons (pe_fmt (pv 0)) (.cons pe_str (.cons (pe_fmt (pv 2)) (.cons pe_str (.cons (pe_fmt (pv 3)) .nil)))))))), ?_⟩
    have line : ∀ {k : Nat}, k ≤ 2000 → k ≤ sizeLine := fun h => Nat.le_trans h (by decide)
    have l0 : (Str.empty).length = 0 := rfl
    have l1 : ((" " : String) : Str).length = 1 := by decide +kernel
    have li := len_num i0 i3
    have lj := len_num j0 j3
    refine ⟨_, rfl, t, _, rfl, SqT.of ht, rfl, _, _, rfl, _, _, rfl, rfl, ?_⟩
    refine ⟨_, rfl, .inl ⟨n, rfl, line (by omega), n, rfl, line (by rw [len_app]; omega), _, rfl, line (by rw [len_app, len_app]; omega), _, rfl, .inr ⟨i, rfl, small_log i0 i3, _, rfl, line (by rw [len_app, len_app, len_app, li]; omega), _, rfl, line (by rw [len_app, len_app, len_app, len_app, li]; omega), _, rfl,
      .inr ⟨j, rfl, small_log j0 j3, _, rfl, line (by rw [len_app, len_app, len_app, len_app, len_app, li, lj]; omega), q⟩⟩⟩⟩
end
end SQ1
namespace SQ1
open PySem L2 SQ
abbrev G3 := Str × Int × Int
def gnames (gs : List G3) : List Str := gs.map (·.1)
/-- nothing is refused: all are entries, the names differ -/
theorem none_bad : ∀ (os : List En) (seen : List Str) (i : Nat), firstBad seen i os = none → ∃ gs : List G3, os = gs.map some ∧ (gnames gs).Nodup ∧ ∀ n ∈ gnames gs, n ∉ seen
  | [], _, _, _ => ⟨[], rfl, List.nodup_nil, fun n h => nomatch h⟩
  | none :: _, _, _, h => nomatch h
  | some (n, a, b) :: os, seen, i, h => by
    have h' : (if n ∈ seen then some i else firstBad (n :: seen) (i + 1) os) = none := h
    by_cases hm : n ∈ seen
    · rw [if_pos hm] at h'
      cases h'
    · rw [if_neg hm] at h'
      obtain ⟨gs, e, nd, ns⟩ := none_bad os (n :: seen) (i + 1) h'
      refine ⟨(n, a, b) :: gs, by rw [e]; rfl, ?_, ?_⟩
      · refine List.nodup_cons.mpr ⟨fun hn => ns n hn List.mem_cons_self, nd⟩
      · intro m hm2
        rcases List.mem_cons.mp hm2 with e2 | e2
        · rw [e2]
          exact hm
        · exact fun z => ns m e2 (List.mem_cons_of_mem _ z)
theorem verdict_none {os : List En} (h : verdict os = none) : ∃ gs : List G3, os = gs.map some ∧ (gnames gs).Nodup ∧ gs.length ≤ 8 := by
  unfold verdict at h
  by_cases h8 : 8 < os.length
  · rw [if_pos h8] at h
    cases h
  · rw [if_neg h8, Option.map_eq_none_iff] at h
    obtain ⟨gs, e, nd, _⟩ := none_bad os [] 0 h
    refine ⟨gs, e, nd, ?_⟩
    rw [e, List.length_map] at h8
    omega
/-- the numbers of a name -/
def arOf (gs : List G3) (n : Str) : Int × Int := ((gs.find? fun g => decide (g.1 = n)).map (·.2)).getD (0, 0)
def vtext (gs : List G3) (ys : List Str) : Str := Txt.join ", " (ys.map fun n => etext n (arOf gs n).1 (arOf gs n).2)
/-- the dict of the numbers -/
def Kvs (H : Hp) (kvs : List (Key × V)) (gs : List G3) : Prop := Paired (fun kv g => kv.1 = Sum.inr g.1 ∧ ∃ t, kv.2 = .ref t ∧ H t = some (.tup [.int g.2.1, .int g.2.2])) kvs gs
theorem Kvs.same {H H' : Hp} {kvs : List (Key × V)} {gs : List G3} (s : Same H H') (h : Kvs H kvs gs) : Kvs H' kvs gs := Paired.mapP h fun a b e => ⟨e.1, let ⟨t, h1, h2⟩ := e.2; ⟨t, h1, s _ _ h2⟩⟩
theorem Kvs.names {H : Hp} : ∀ {kvs : List (Key × V)} {gs : List G3}, Kvs H kvs gs → kvs.map (·.1) = (gnames gs).map Sum.inr
  | _, _, .nil => rfl
  | _, _, .cons r t => by
    exact congr (congrArg List.cons r.1) (Kvs.names t)
theorem Kvs.no {H : Hp} {n : Str} : ∀ {kvs : List (Key × V)} {gs : List G3}, Kvs H kvs gs → n ∉ gnames gs → valV kvs (Sum.inr n) = none
  | _, _, .nil, _ => rfl
  | _, _, .cons (a := kv) (b := g) r t, hn => by
    have h1 : ¬ kv.1 = Sum.inr n := fun z => hn (by rw [r.1] at z; rw [← Sum.inr.inj z]; exact List.mem_cons_self)
    rw [valV_neg h1]
    exact Kvs.no t fun z => hn (List.mem_cons_of_mem _ z)
theorem Kvs.at {H : Hp} {n : Str} : ∀ {kvs : List (Key × V)} {gs : List G3}, Kvs H kvs gs → n ∈ gnames gs → ∃ t, valV kvs (Sum.inr n) = some (.ref t) ∧ H t = some (.tup [.int (arOf gs n).1, .int (arOf gs n).2])
  | _, _, .nil, h => nomatch h
  | _, _, .cons (a := kv) (b := g) (l₂ := gs) r t, hn => by
    by_cases h1 : g.1 = n
    · obtain ⟨t0, e1, e2⟩ := r.2
      refine ⟨t0, ?_, ?_⟩
      · rw [valV_pos (by rw [r.1, h1]), e1]
      · unfold arOf
        rw [List.find?_cons_of_pos (by simpa using h1)]
        exact e2
    · have h2 : ¬ kv.1 = Sum.inr n := fun z => h1 (by rw [r.1] at z; exact Sum.inr.inj z)
      have hn' : n ∈ gnames gs := by
        rcases List.mem_cons.mp hn with z | z
        · exact absurd z.symm h1
        · exact z
      obtain ⟨t0, e1, e2⟩ := Kvs.at t hn'
      refine ⟨t0, ?_, ?_⟩
      · rw [valV_neg h2]
        exact e1
      · unfold arOf at e2 ⊢
        rw [List.find?_cons_of_neg (by simpa using h1)]
        exact e2
theorem Kvs.snoc {H : Hp} : ∀ {kvs : List (Key × V)} {gs : List G3} {kv : Key × V} {g : G3}, Kvs H kvs gs → (kv.1 = Sum.inr g.1 ∧ ∃ t, kv.2 = .ref t ∧ H t = some (.tup [.int g.2.1, .int g.2.2])) → Kvs H (kvs ++ [kv]) (gs ++ [g])
  | _, _, _, _, .nil, h => .cons h .nil
  | _, _, _, _, .cons r t, h => .cons r (Kvs.snoc t h)
end SQ1
namespace SQ1
open PySem L2 SQ
/-- the class of the vocabularies -/
structure VC (K : PySem.W.Frag) (mg : Str → Option Value) (C : Addr) : Prop where
  g : mg "Vocabulary" = some (.ref C)
  cl : Cls K C
  nA : NoAttr K C "arities"
  nN : NoAttr K C "names"
  nT : NoAttr K C "text"
structure B4 (mg : Str → Option Value) : Prop where
  sorted : mg "sorted" = none
def flds (dA tN : Addr) (z : Str) : List (Str × V) := putF "text" (.str z) (putF "names" (.ref tN) (putF "arities" (.ref dA) []))
/-- a vocabulary at x, with the entries gs, the names ys -/
def Vc (C : Addr) (H : Hp) (x : Addr) (gs : List G3) (ys : List Str) : Prop := ∃ (dx dA tN : Addr) (kvs : List (Key × V)), H x = some (.ins C dx (flds dA tN (vtext gs ys))) ∧ H tN = some (.tup (ys.map V.str)) ∧ H dA = some (.dK kvs) ∧ Kvs H kvs gs
/-- what __init__ promises, once the entries lie in a tuple -/
def spIni0 (C CE : Addr) : Sp := fun vs H Q E => ∃ (x dx t : Addr) (xs : List V) (os : List En), vs = [.ref x, .ref t] ∧ H x = some (.ins C dx []) ∧ H t = some (.tup xs) ∧ Ents H xs os ∧ xs.length ≤ 2000 ∧
  (∀ idx, verdict os = some idx → ∀ (d : Addr) (H' : Hp), Same H H' → H' d = some (.xd [("index", idx)]) → E (.ref CE) (some d) H') ∧
  (verdict os = none → ∀ gs : List G3, os = gs.map some → ∀ (H' : Hp) (ys : List Str), ys.Perm (gnames gs) → PyProof.Rows.sortedS ys = true → But x H H' → Vc C H' x gs ys → Q .non H')
section
variable {P : Program} {w : World} {K : PySem.W.Frag} {mg : Str → Option Value} {base : Heap} {fP fN fF fA fE tC CE fI C fC fX : Addr} {dP dN dF dA dE dC dX : FuncData}
theorem scIni : FnScope ["self", "entries", "arities", "name", "inputs", "outputs"] ((["self"] : List Str) ++ (["entries"] : List Str)) (defScope sIni) := ⟨rfl, rfl, rfl, by decide +kernel, rfl, by decide +kernel, by decide +kernel⟩
structure I2 (K : PySem.W.Frag) (mg : Str → Option Value) (fC fX : Addr) (dC dX : FuncData) : Prop where
  gC : mg "check_entries" = some (.ref fC)
  FC : Fun K "check_entries" "check_entries" sChk fC dC
  bC : Binds K dC ["entries"] []
  gX : mg "entry_text" = some (.ref fX)
  FX : Fun K "entry_text" "entry_text" sTx fX dX
  bX : Binds K dX ["name", "arity"] []
theorem nodup_take {α : Type} : ∀ {l : List α} {i : Nat} {x : α}, l.Nodup → l[i]? = some x → x ∉ l.take i
  | [], i, x, _, h => by simp at h
  | a :: l, 0, x, _, h => by simp
  | a :: l, i + 1, x, nd, h => by
    have h' : l[i]? = some x := h
    obtain ⟨n1, n2⟩ := List.nodup_cons.mp nd
    rw [List.take_succ_cons]
    intro hm
    rcases List.mem_cons.mp hm with e | e
    · exact n1 (e ▸ List.mem_of_getElem? h')
    · exact nodup_take n2 h' e
theorem take_more {α : Type} {l : List α} {i : Nat} {x : α} (h : l[i]? = some x) : l.take (i + 1) = l.take i ++ [x] := by
  rw [List.take_add_one, h]
  rfl
theorem ents_good {H : Hp} : ∀ {xs : List V} {gs : List G3}, Ents H xs (gs.map some) → ∀ g ∈ gs, (isFree (.str g.1) && (isAr (.int g.2.1) && isAr (.int g.2.2))) = true
  | _, [], _, g, h => nomatch h
  | _, g0 :: gs, .cons r t, g, h => by
    rcases List.mem_cons.mp h with e | e
    · subst e
      cases r with
      | good _ _ hq => exact hq
    · exact ents_good t g e
theorem ar_mem {gs : List G3} {n : Str} (h : n ∈ gnames gs) : ∃ g ∈ gs, g.1 = n ∧ arOf gs n = g.2 := by
  unfold arOf
  cases hf : gs.find? (fun g => decide (g.1 = n)) with
  | none =>
    obtain ⟨g, hg, e⟩ := List.mem_map.mp h
    have := List.find?_eq_none.mp hf g hg
    exact absurd (by simpa using e) (by simpa using this)
  | some g => exact ⟨g, List.mem_of_find?_eq_some hf, by simpa using List.find?_some hf, rfl⟩
theorem ar_ok {i : Int} (h : isAr (.int i) = true) : 0 ≤ i ∧ i ≤ 3 := by
  have h' : (decide (0 ≤ i) && decide (i ≤ 3)) = true := h
  rw [Bool.and_eq_true] at h'
  exact ⟨of_decide_eq_true h'.1, of_decide_eq_true h'.2⟩
theorem free_len {n : Str} (h : isFree (.str n) = true) : n.length ≤ 8 := by
  have h' : (nameOk n && !decide (n ∈ cores)) = true := h
  rw [Bool.and_eq_true] at h'
  have h2 := h'.1
  unfold nameOk at h2
  rw [Bool.and_eq_true, Bool.and_eq_true] at h2
  have := of_decide_eq_true h2.1.2
  omega
/-- what is known of a name's numbers -/
theorem good_at {H : Hp} {xs : List V} {gs : List G3} {n : Str} (he : Ents H xs (gs.map some)) (h : n ∈ gnames gs) : n.length ≤ 8 ∧ (0 ≤ (arOf gs n).1 ∧ (arOf gs n).1 ≤ 3) ∧ 0 ≤ (arOf gs n).2 ∧ (arOf gs n).2 ≤ 3 := by
  obtain ⟨g, hg, rfl, e⟩ := ar_mem h
  have hh := ents_good he g hg
  rw [Bool.and_eq_true, Bool.and_eq_true] at hh
  rw [e]
  exact ⟨free_len hh.1, ar_ok hh.2.1, ar_ok hh.2.2⟩
theorem etext_len {n : Str} {i j : Int} (hn : n.length ≤ 8) (i0 : 0 ≤ i) (i3 : i ≤ 3) (j0 : 0 ≤ j) (j3 : j ≤ 3) : (etext n i j).length ≤ 12 := by
  unfold etext
  have l0 : (Str.empty).length = 0 := rfl
  have l1 : ((" " : String) : Str).length = 1 := by decide +kernel
  rw [len_app, len_app, len_app, len_app, len_app, len_num i0 i3, len_num j0 j3, l1, l0]
  omega
theorem sum_le {α : Type} (f : α → Nat) (b : Nat) : ∀ l : List α, (∀ x ∈ l, f x ≤ b) → (l.map f).sum ≤ l.length * b
  | [], _ => by simp
  | x :: l, h => by
    have h1 := h x List.mem_cons_self
    have h2 := sum_le f b l fun y hy => h y (List.mem_cons_of_mem _ hy)
    rw [List.map_cons, List.sum_cons, List.length_cons, Nat.add_mul]
    omega
theorem keptD {σ : St} {H : Hp} {A B : Hp → Prop} (h : A H) : tYes σ H (fun b H3 => if b = true then A H3 else B H3) := keptT h
theorem body_ini (I : I2 K mg fC fX dC dX) (D : D2 K mg fP fN fF fA fE dP dN dF dA dE) (B : B2 mg) (CW : Core K mg tC) (Z : EC K mg CE fI) (BB : B3 mg) (B4' : B4 mg) (VV : VC K mg C) {f : Addr} (cdv : Value) (A : Around) (outer : List Env) (s : Shared) (H : Hp) (vs : List V) (Q : VK) (E : XK)
    (hr : Room 4 (A.deeper (PyProof.Rows.envOfC "Vocabulary.__init__" (defScope sIni) s.heap.objs.size f cdv))) (h : spIni0 C CE vs H Q E) :
    ∃ t, PSs (cxOf (L2N.CX P w) P w K mg base ["self", "entries", "arities", "name", "inputs", "outputs"] "Vocabulary.__init__" (defScope sIni) f cdv A outer s H E) (defBody sIni) t ∧ t { nx := fun _ H' => Q .non H', rt := Q } (start ["self", "entries", "arities", "name", "inputs", "outputs"] vs) H := by
  have GC : FnOk P w K mg base (L2N.CX P w) 4 fC dC ["entries"] (spChk CE) := ok_chk I.FC D B CW Z BB
  have GX : FnOk P w K mg base CX0 1 fX dX ["name", "arity"] spTx := ok_tx I.FX
  obtain ⟨x, dx, t, xs, os, rfl, hx, ht, he, hlen, kE, kQ⟩ := h
  have hu := hu_of hr
  refine ⟨_, pss_cons (ps_expr (pe_call GC hr rfl I.gC I.FC.kp I.bC .nil (L2N.passes_call (L2N.takes_of rfl rfl rfl rfl) (fun _ _ _ _ h => h)) (pa_cons (pv 1) pa_nil)))
    (pss_cons (ps_set (i := 2) scIni.nd rfl (.inr rfl) (pe_dc (own := [("name", 3), ("inputs", 4), ("outputs", 5)]) (g := gTup K 3 (gCons (gName 3) (gCons (gName 4) (gCons (gName 5) gNil)))) (tt := tYes) rfl scIni.nd (pi_tup (pv 1)) (blkOk_by (N := ["self", "entries", "arities", "name", "inputs", "outputs"]) (sc := defScope sIni) (by decide +kernel))
      (fun _ _ _ _ _ => pg_tup rfl (pgs_cons (pg_name (i := 3) scIni.nd rfl (.inl rfl)) (pgs_cons (pg_name (i := 4) scIni.nd rfl (.inl rfl)) (pgs_cons (pg_name (i := 5) scIni.nd rfl (.inl rfl)) pgs_nil)))) (fun _ _ _ _ _ => pts_nil) (fun _ _ _ _ _ => pv 3) (fun _ _ _ _ _ => pe_tup (pa_cons (pv 4) (pa_cons (pv 5) pa_nil)))))
    (pss_cons (ps_fld (pv 0) (pv 2) rfl)
    (pss_cons (ps_fld (pv 0) (pe_callTy call_tuple_of (by rfl) B.tuple (by decide +kernel) (pa_cons (pe_callB (call_sortedD rfl) (by rfl) B4'.sorted (by decide +kernel) (pa_cons (pv 2) pa_nil)) pa_nil)) rfl)
    (pss_one (ps_fld (pv 0) (pe_join pe_str (pe_lc (own := [("name", 3)]) (g := gName 3) (tt := tYes) rfl scIni.nd (pi_tup (pe_fld (pv 0) rfl)) (blkOk_by (N := ["self", "entries", "arities", "name", "inputs", "outputs"]) (sc := defScope sIni) (by decide +kernel))
      (fun _ _ _ _ _ => pg_name (i := 3) scIni.nd rfl (.inl rfl)) (fun _ _ _ _ _ => pts_nil) (fun _ _ _ _ _ => pe_call GX (hr.mono (by decide)) rfl I.gX I.FX.kp I.bX .nil pass0 (pa_cons (pv 3) (pa_cons (pe_dget hu (pv 2) (pv 3) (fun _ _ => rfl)) pa_nil))))) rfl))))), ?_⟩
  refine ⟨_, rfl, t, xs, os, rfl, ht, he, hlen, kE, fun hv H1 s1 => ?_⟩
  obtain ⟨gs, rfl, nd, h8⟩ := verdict_none hv
  have hl : xs.length = gs.length := by
    have := Paired.length he
    rw [List.length_map] at this
    exact this
  -- arities = {..}
  refine ⟨_, rfl, t, rfl, ⟨_, SqT.of (s1 _ _ ht)⟩, fun D hD => ?_⟩
  refine dc_tup (K := K) (a := t) (xs := xs) (fun i H2 => ∃ kvs, H2 D = some (.dK kvs) ∧ Kvs H2 kvs (gs.take i) ∧ Same H1 H2) ⟨[], upd_same, .nil, same_new (fun _ _ e => e) hD⟩ (fun i H2 _ ⟨_, _, _, s2⟩ => SqT.of (s2 _ _ (s1 _ _ ht))) ?_ ?_
  · rintro i v H2 hi ⟨kvs, hD2, hk, s2⟩
    obtain ⟨o, ho, en⟩ := Ents.get he hi
    rw [List.getElem?_map] at ho
    cases hg : gs[i]? with
    | none =>
      rw [hg] at ho
      cases ho
    | some g =>
      rw [hg] at ho
      cases ho
      obtain ⟨n, a1, a2⟩ := g
      cases en with
      | @good ea _ _ _ eE hnm hok =>
        have eE2 := s2 _ _ (s1 _ _ eE)
        refine ⟨ea, _, rfl, SqT.of eE2, rfl, _, _, rfl, _, _, rfl, _, _, rfl, rfl, rfl, keptD ?_⟩
        refine ⟨_, rfl, _, rfl, _, rfl, (by show 2 ≤ sizeLine; decide), fun T nT => ?_⟩
        have hDT : D ≠ T := ne_of_none hD2 nT
        have hno : n ∉ gnames (gs.take i) := by
          have e1 : gnames (gs.take i) = (gnames gs).take i := by
            unfold gnames
            rw [List.map_take]
          rw [e1]
          exact nodup_take nd (by unfold gnames; rw [List.getElem?_map, hg]; rfl)
        have hl2 : kvs.length = (gs.take i).length := Paired.length hk
        refine ⟨kvs, Sum.inr n, rfl, by rw [upd_ne hDT]; exact hD2, small1000 (by rw [hl2, List.length_take]; omega), ?_⟩
        refine ⟨_, upd_same, ?_, ?_⟩
        · rw [putK_new _ (hk.no hno), take_more hg]
          have s3 : Same H2 (upd H2 T (.tup [.int a1, .int a2])) := same_new (fun _ _ e => e) nT
          have kk : Kvs (upd H2 T (.tup [.int a1, .int a2])) (kvs ++ [(Sum.inr n, .ref T)]) (gs.take i ++ [(n, a1, a2)]) := (hk.same s3).snoc ⟨rfl, T, rfl, upd_same⟩
          refine Paired.mapP kk fun kv g ⟨h1, t0, h2, h3⟩ => ⟨h1, t0, h2, ?_⟩
          rw [upd_ne (ne_of h3 (show upd H2 T (.tup [.int a1, .int a2]) D = some (.dK kvs) by rw [upd_ne hDT]; exact hD2) (by intro z; cases z))]
          exact h3
        · intro b ob e
          rw [upd_ne (ne_of_none e hD), upd_ne (ne_of_none (s2 _ _ e) nT)]
          exact s2 _ _ e
  · rintro H2 ⟨kvs, hD2, hk, s2⟩
    rw [hl, List.take_length] at hk
    have hx2 : H2 x = some (.ins C dx []) := s2 _ _ (s1 _ _ hx)
    have sH2 : Same H H2 := st s1 s2
    -- self.arities = arities
    refine ⟨_, rfl, _, rfl, x, C, dx, [], rfl, hx2, VV.cl, VV.nA, (by show 0 < 1000; decide), ?_⟩
    have hxD : x ≠ D := ne_of hx2 hD2 (by intro z; cases z)
    generalize hG3 : upd H2 x (HO.ins C dx (putF "arities" (.ref D) [])) = H3
    have b3 : But x H2 H3 := by rw [← hG3]; exact But.refl.put
    have hx3 : H3 x = some (.ins C dx (putF "arities" (.ref D) [])) := by rw [← hG3]; exact upd_same
    have hD3 : H3 D = some (.dK kvs) := b3 _ _ hD2 (Ne.symm hxD)
    have hk3 : Kvs H3 kvs gs := Paired.mapP hk fun kv g ⟨h1, t0, h2, h3⟩ => ⟨h1, t0, h2, b3 _ _ h3 (ne_of h3 hx2 (by intro z; cases z))⟩
    have hln : (gnames gs).length ≤ 8 := by
      unfold gnames
      rw [List.length_map]
      exact h8
    -- self.names = tuple(sorted(arities))
    refine ⟨_, rfl, D, kvs, gnames gs, rfl, .inl hD3, hk3.names, (by omega), fun ys p hperm hsort np => ⟨p, ys.map V.str, rfl, .inl ⟨SqL.of upd_same, fun l nl => ?_⟩⟩⟩
    have s4 : Same H3 (upd (upd H3 p (.lst (ys.map V.str))) l (.tup (ys.map V.str))) := same_new (same_new (fun _ _ e => e) np) nl
    generalize hG4 : upd (upd H3 p (HO.lst (ys.map V.str))) l (HO.tup (ys.map V.str)) = H4 at s4
    have hl4 : H4 l = some (.tup (ys.map V.str)) := by rw [← hG4]; exact upd_same
    have hx4 := s4 _ _ hx3
    refine ⟨_, rfl, x, C, dx, _, rfl, hx4, VV.cl, VV.nN, (by show 1 < 1000; decide), ?_⟩
    generalize hG5 : upd H4 x (HO.ins C dx (putF "names" (.ref l) (putF "arities" (.ref D) []))) = H5
    have b5 : But x H4 H5 := by rw [← hG5]; exact But.refl.put
    have hx5 : H5 x = some (.ins C dx (putF "names" (.ref l) (putF "arities" (.ref D) []))) := by rw [← hG5]; exact upd_same
    have hl5 : H5 l = some (.tup (ys.map V.str)) := b5 _ _ hl4 (ne_of hl4 hx4 (by intro z; cases z))
    have hD5 : H5 D = some (.dK kvs) := b5 _ _ (s4 _ _ hD3) (Ne.symm hxD)
    have hk5 : Kvs H5 kvs gs := Paired.mapP (hk3.same s4) fun kv g ⟨h1, t0, h2, h3⟩ => ⟨h1, t0, h2, b5 _ _ h3 (ne_of h3 hx4 (by intro z; cases z))⟩
    have bt : But x H H5 := ((Same.but sH2).trans b3).trans ((Same.but s4).trans b5)
    have mem : ∀ n ∈ ys, n ∈ gnames gs := fun n hn => hperm.mem_iff.mp hn
    have hly : ys.length ≤ 8 := by
      rw [hperm.length_eq]
      exact hln
    -- self.text = ', '.join(..)
    refine ⟨⟨_, rfl⟩, _, rfl, x, C, dx, _, _, rfl, hx5, VV.cl, VV.nN, rfl, l, rfl, ⟨_, SqT.of hl5⟩, fun D2 hD2' => ?_⟩
    refine lc_tup (K := K) (a := l) (xs := ys.map V.str) (fun i H6 => H6 = upd H5 D2 (.lst (((ys.take i).map fun n => etext n (arOf gs n).1 (arOf gs n).2).map V.str))) rfl (fun i H6 _ e => by rw [e]; exact SqT.of (by rw [upd_ne (ne_of_none hl5 hD2')]; exact hl5)) ?_ ?_
    · rintro i v H6 hi rfl
      rw [List.getElem?_map] at hi
      cases hy : ys[i]? with
      | none =>
        rw [hy] at hi
        cases hi
      | some n =>
        rw [hy] at hi
        cases hi
        have hn := mem n (List.mem_of_getElem? hy)
        obtain ⟨g1, ⟨g2, g3⟩, g4, g5⟩ := good_at he hn
        obtain ⟨t0, v1, v2⟩ := hk5.at hn
        refine ⟨rfl, keptT ⟨_, rfl, _, rfl, _, rfl, D, .ref t0, rfl, ?_, n, t0, _, _, rfl, ?_, by omega, g2, g3, g4, g5, _, upd_same, small1000 ?_, ?_⟩⟩
        · rw [← v1]
          exact DGet.k (k := Sum.inr n) (by rw [upd_ne (ne_of_none hD5 hD2')]; exact hD5)
        · rw [upd_ne (ne_of_none v2 hD2')]
          exact v2
        · rw [List.length_map, List.length_map, List.length_take]
          omega
        · rw [upd_upd, take_more hy, List.map_append, List.map_append]
          rfl
    · rintro H6 rfl
      rw [List.length_map, List.take_length]
      refine ⟨_, D2, _, rfl, rfl, .inl (SqL.of upd_same), ?_, ?_⟩
      · rw [List.map_map, List.length_map]
        have := sum_le ((fun z : Str => z.length) ∘ fun n => etext n (arOf gs n).1 (arOf gs n).2) 12 ys (fun n hn => by
          obtain ⟨g1, ⟨g2, g3⟩, g4, g5⟩ := good_at he (mem n hn)
          exact etext_len g1 g2 g3 g4 g5)
        have l2 : (", " : Str).length = 2 := by decide +kernel
        rw [l2]
        omega
      · have hx6 : upd H5 D2 (.lst ((ys.map fun n => etext n (arOf gs n).1 (arOf gs n).2).map V.str)) x = some (.ins C dx (putF "names" (.ref l) (putF "arities" (.ref D) []))) := by
          rw [upd_ne (ne_of_none hx5 hD2')]
          exact hx5
        refine ⟨_, rfl, x, C, dx, _, rfl, hx6, VV.cl, VV.nT, (by show 2 < 1000; decide), ?_⟩
        have lx : l ≠ x := ne_of hl5 hx5 (by intro z; cases z)
        refine kQ hv gs rfl _ ys hperm hsort ((bt.new hD2').put) ⟨dx, D, l, kvs, upd_same, ?_, ?_, ?_⟩
        · rw [upd_ne lx, upd_ne (ne_of_none hl5 hD2')]
          exact hl5
        · rw [upd_ne (Ne.symm hxD), upd_ne (ne_of_none hD5 hD2')]
          exact hD5
        · refine Paired.mapP hk5 fun kv g ⟨h1, t0, h2, h3⟩ => ⟨h1, t0, h2, ?_⟩
          rw [upd_ne (ne_of h3 hx5 (by intro z; cases z)), upd_ne (ne_of_none h3 hD2')]
          exact h3
end
end SQ1
namespace SQ1
open PySem L2 SQ
abbrev sStr : Stmt := inClass (top 22) 5
def spInit (C CE : Addr) : Sp := fun vs H Q E => ∃ ws rest, vs = ws ++ rest ∧ ws.length = (["self"] : List Str).length ∧ rest.length ≤ sizeLine ∧ ∀ p, H p = Option.none → spIni0 C CE (ws ++ [V.ref p]) (upd H p (.tup rest)) Q E
def spStr (C : Addr) : Sp := fun vs H Q _ => ∃ (x dx dA tN : Addr) (z : Str), vs = [.ref x] ∧ H x = some (.ins C dx (flds dA tN z)) ∧ Q (.str z) H
section
variable {P : Program} {w : World} {K : PySem.W.Frag} {mg : Str → Option Value} {base : Heap} {fP fN fF fA fE tC CE fI C fC fX : Addr} {dP dN dF dA dE dC dX : FuncData}
theorem ok_ini (I : I2 K mg fC fX dC dX) (D : D2 K mg fP fN fF fA fE dP dN dF dA dE) (B : B2 mg) (CW : Core K mg tC) (Z : EC K mg CE fI) (BB : B3 mg) (B4' : B4 mg) (VV : VC K mg C) {f : Addr} {fd : FuncData} (F : Fun K "__init__" "Vocabulary.__init__" sIni f fd) :
    FnR P w K mg base (L2N.CX P w) 5 f (spInit C CE) := by
  obtain ⟨oc, od, kV, doc, pm, an, cdv, ct, osl, rfl, lk, hcd⟩ := F.ex
  exact StX.fn_star (ps := ["self"]) (pv := "entries") lk hcd scIni cxUpN (StX.bind_star1 (B := fun vs => bindArgs (PySem.W.fnOf "__init__" "Vocabulary.__init__" (defArgs sIni) (defBody sIni) (defScope sIni) .none kV doc pm an cdv ct) ⟨vs, []⟩) (fun a => rfl) (fun a r rs => rfl)) (fun A outer s H vs Q E hr h => body_ini I D B CW Z BB B4' VV cdv A outer s H vs Q E hr h)
theorem scStr : FnScope ["self"] ["self"] (defScope sStr) := ⟨rfl, rfl, rfl, by decide +kernel, rfl, by decide +kernel, by decide +kernel⟩
theorem ok_str {f : Addr} {fd : FuncData} (F : Fun K "__str__" "Vocabulary.__str__" sStr f fd) (B : B2 mg) (VV : VC K mg C) : FnOk P w K mg base CX0 1 f fd ["self"] (spStr C) := by
  refine F.ok scStr (fun vs H Q E h => ?_) (fun cdv A outer s H vs Q E hr h => ?_)
  · obtain ⟨x, dx, dA, tN, z, rfl, _⟩ := h
    rfl
  · obtain ⟨x, dx, dA, tN, z, rfl, hx, q⟩ := h
    refine ⟨_, pss_one (ps_ret (pe_callTy SkE.call_str_str (by rfl) B.str (by decide +kernel) (pa_cons (pe_fld (pv 0) rfl) pa_nil))), ?_⟩
    exact ⟨_, rfl, x, C, dx, _, _, rfl, hx, VV.cl, VV.nT, rfl, z, rfl, q⟩
end
end SQ1
namespace SQ
open PySem PySem.Spec PyProof.Rows L2
section
variable {X : Cx} {k : Nat} {f C : Addr} {fd : FuncData} {ps : List Str} {sp : Sp}
/-- str(o), o an instance whose class has __str__ -/
theorem cr_strOwn (F : FnR X.prog X.w X.K X.mg X.base CX0 k f sp) (hr : Room (k + 2) X.A) (hs : PySem.W.findIn X.K (.ref C) "__str__" = some (some (.ref f))) (hf : PySem.W.isFn X.K (.ref f) = true) :
    CallR X (.type "str") (fun xs H Q => ∃ (x dx : Addr) (fs : List (Str × V)), xs = [.ref x] ∧ H x = some (.ins C dx fs) ∧ sp [.ref x] H (fun v H' => ∃ z, v = .str z ∧ Q v H') E0) := by
  intro pins s σ H xs us Q I r h
  obtain ⟨x, dx, fs, rfl, hx, q⟩ := h
  obtain ⟨u, rfl, r1⟩ := vals1 r
  obtain rfl : u = Value.ref x := r1
  obtain ⟨mA, O, _⟩ := ins_get I.hok hx
  obtain ⟨od, J, _⟩ := O.look
  have hr2 : Room k X.A.in1.in1 := Room.in1 (Room.in1 hr)
  refine PySem.W.kso_call hr2.units0 I.kIn J hs hf (wpAny_call (codeAny_mono (F X.A.in1.in1 X.stack s H [.ref x] [.ref x] _ _ hr2 I.env0.in1.in1 (.cons rfl .nil) q) fun r s' hq => ?_))
  cases r with
  | error e => exact (show False from hq).elim
  | ok fl =>
    cases fl with
    | next => exact False.elim hq
    | brk => exact False.elim hq
    | cont => exact False.elim hq
    | ret u =>
      obtain ⟨v, H', I', rv, z, rfl, q'⟩ := I.after hq
      obtain ⟨t, rfl⟩ := rv
      exact ⟨.str z, H', I', ⟨t, rfl⟩, q'⟩
end
end SQ
/-! The law's end for promises as in SqG where code objects are made: their tables are tracked. -/
namespace SQ
open PySem PySem.Spec PyProof.Rows L2
abbrev tab0 : Obj := { cls := .none, data := .fields #[] }
abbrev lst0 (vs : List Value) : Obj := { cls := .type "list", data := .seq vs.toArray }
/-- what may be tracked at the law's call: the script, the tables -/
def Trk (a : Addr) (ts : List Addr) (H : Hp) : Prop := ∀ b u, H b = some u → (b = a ∧ ∃ o xs, u = .frz o (.lst xs)) ∨ (b ∈ ts ∧ u = .tbl #[])
section
variable {P : Program} {w : World} {K : PySem.W.Frag} {mg mb : Str → Option Value} {s : Shared} {a : Addr} {cs : List (Addr × Addr)} {vs : List Value} {H : Hp}
theorem trk_data (ha : s.heap.get? a = some (lst0 vs)) (hT : ∀ p ∈ cs, s.heap.get? p.2 = some tab0) (tr : Trk a (cs.map (·.2)) H) {b : Addr} {o : Obj} (q : s.heap.get? b = some o)
    (n1 : ∀ l n, o.data ≠ .seq l n) (n2 : o.data ≠ .fields #[]) : H b = none := by
  cases z : H b with
  | none => rfl
  | some u =>
    rcases tr b u z with ⟨rfl, _⟩ | ⟨hm, _⟩
    · rw [ha] at q
      cases q
      exact absurd rfl (n1 _ _)
    · obtain ⟨p, hp, rfl⟩ := List.mem_map.mp hm
      rw [hT p hp] at q
      cases q
      exact absurd rfl n2
theorem trk_ns (ha : s.heap.get? a = some (lst0 vs)) (hT : ∀ p ∈ cs, s.heap.get? p.2 = some tab0) (tr : Trk a (cs.map (·.2)) H) {b : Addr} {m : Str → Option Value} : s.heap.Ns b m → (hidT s.heap H).Ns b m := by
  rintro ⟨o, es, ep, q, d, r⟩
  refine ⟨o, es, ep, hidT_get q (trk_data ha hT tr q (fun l n z => ?_) fun z => ?_), d, r⟩ <;> (rw [d] at z; cases z)
theorem trk_in (KX : K.In s.heap) (nT : ∀ p ∈ cs, K.lookup p.2 = none) (nA : H a ≠ none → K.lookup a = none) (tr : Trk a (cs.map (·.2)) H) : K.In (hidT s.heap H) := by
  intro b o q
  refine hidT_get (KX b o q) ?_
  cases z : H b with
  | none => rfl
  | some u =>
    rcases tr b u z with ⟨rfl, _⟩ | ⟨hm, _⟩
    · rw [nA (by rw [z]; simp)] at q
      cases q
    · obtain ⟨p, hp, rfl⟩ := List.mem_map.mp hm
      rw [nT p hp] at q
      cases q
theorem trk_tab (hns : s.heap.Ns mainGlobals mg) (ha : s.heap.get? a = some (lst0 vs)) (hT : ∀ p ∈ cs, s.heap.get? p.2 = some tab0) (C : ∀ p ∈ cs, PySem.W.CodeHd s.heap p.1 p.2)
    (hbm : ∃ (bm : Addr) (ob : Obj), mg "__builtins__" = some (.ref bm) ∧ bm ≠ builtinsNs ∧ s.heap.get? bm = some ob ∧ ob.cls = .type "module" ∧ ob.dict = some builtinsNs ∧ ob.data = .plain)
    (tr : Trk a (cs.map (·.2)) H) : ∀ p ∈ cs, LamX.TabB (hidT s.heap H) mg p.1 p.2 := by
  intro p hp
  have tp := hT p hp
  have nm : mainGlobals ≠ p.2 := by
    intro z
    obtain ⟨o, es, ep, q, d, _⟩ := hns
    rw [z, tp] at q
    cases q
    cases d
  refine ⟨?_, ?_, nm⟩
  · obtain ⟨o, us, fi, t1, fl, t2, b, tx, t3, q, r1, r2, r3, rest⟩ := C p hp
    refine ⟨o, us, fi, t1, fl, t2, b, tx, t3, hidT_get q (trk_data ha hT tr q (fun l n z => ?_) fun z => ?_), r1, r2, r3, rest⟩
    · rw [r2] at z
      cases z
    · rw [r2] at z
      cases z
      simp at r3
  · obtain ⟨bm, ob, b1, b2, b3, b4, b5, b6⟩ := hbm
    refine ⟨bm, ob, b1, b2, ?_, ?_, hidT_get b3 (trk_data ha hT tr b3 (fun l n z => ?_) fun z => ?_), b4, b5, b6⟩
    · rintro rfl
      obtain ⟨o, es, ep, q, d, _⟩ := hns
      rw [q] at b3
      cases b3
      rw [d] at b6
      cases b6
    · rintro rfl
      rw [tp] at b3
      cases b3
      cases b6
    · rw [b6] at z
      cases z
    · rw [b6] at z
      cases z
end
/-- the law's call: such a promise, tables tracked -/
theorem lawGT {P : Program} {w : World} {K : PySem.W.Frag} {mg mb : Str → Option Value} {k : Nat} {fa a : Addr} {cs : List (Addr × Addr)}
    {fd : FuncData} {x : Str} {sp : Sp} {s : Shared} {vs : List Value} {ns : List Int}
    (KX : K.In s.heap) (hns : s.heap.Ns mainGlobals mg) (hb : s.heap.Ns builtinsNs mb) (hbb : ∀ y : Str, y ≠ "__name__" → mb y = bootBuiltins y) (hlim : s.heap.NoLimit) (hg : s.gens = #[])
    (hT : ∀ p ∈ cs, s.heap.get? p.2 = some tab0) (nT : ∀ p ∈ cs, K.lookup p.2 = none) (C : ∀ p ∈ cs, PySem.W.CodeHd s.heap p.1 p.2)
    (hbm : ∃ (bm : Addr) (ob : Obj), mg "__builtins__" = some (.ref bm) ∧ bm ≠ builtinsNs ∧ s.heap.get? bm = some ob ∧ ob.cls = .type "module" ∧ ob.dict = some builtinsNs ∧ ob.data = .plain)
    (ha : s.heap.get? a = some (lst0 vs)) (hi : IntsAre vs ns) (hl : ns.length ≤ sizeLine) (hr : Room k callerA)
    (F : ∀ base : Heap, K.In base → base.Ns mainGlobals mg → (∀ p ∈ cs, LamX.TabB base mg p.1 p.2) → FnG P w K mg base CX0 k fa fd [x] sp)
    (hbind : ∀ (t : Shared) (u : Value), BindsTo t fd ⟨[u], []⟩ [(x, u)])
    (hsp : ∀ G : Hp, (∀ p ∈ cs, G p.2 = some (.tbl #[])) → SqL K G a (ns.map V.int) → sp [.ref a] G (fun v _ => v = .bl true) E0) :
    codeAny (model P w) callerA (.call (.ref fa) ⟨[.ref a], []⟩) (fun r t => r = .ok (.ret (.bool true)) ∧ OldK s.heap t.heap ∧ t.os = s.os ∧ AllBare t.gens) s := by
  have rv := vals_ints hi
  have inT : ∀ p ∈ cs, p.2 ∈ cs.map (·.2) := fun p hp => List.mem_map.mpr ⟨p, hp, rfl⟩
  have aT : a ∉ cs.map (·.2) := by
    intro z
    obtain ⟨p, hp, e⟩ := List.mem_map.mp z
    have e' : p.2 = a := e
    have t := hT p hp
    rw [e', ha] at t
    have t' : (lst0 vs).data = tab0.data := congrArg Obj.data (Option.some.inj t)
    cases t'
  have go : ∀ H : Hp, (∀ p ∈ cs, H p.2 = some (.tbl #[])) → Trk a (cs.map (·.2)) H → SqL K H a (ns.map V.int) → HOk P w H s.heap → (H a ≠ none → K.lookup a = none) →
      codeAny (model P w) callerA (.call (.ref fa) ⟨[.ref a], []⟩) (fun r t => r = .ok (.ret (.bool true)) ∧ OldK s.heap t.heap ∧ t.os = s.os ∧ AllBare t.gens) s := by
    intro H hH tr hS hok nA
    have kB := trk_in KX nT nA tr
    have gB := trk_ns ha hT tr hns
    have md : Mod K mg (hidT s.heap H) := ⟨kB, gB, ⟨mb, trk_ns ha hT tr hb, hbb⟩, by
      obtain ⟨mc, h1, h2⟩ := hlim
      exact ⟨mc, trk_ns ha hT tr h1, h2⟩⟩
    have en : Env0 P w K mg (hidT s.heap H) callerA [] s H := {
      frames := rfl
      mod := md
      bs := fun b o q => of_hidT q
      bsz := Nat.le_of_eq (hidT_size _ _)
      funs := trivial
      frf := fun b z => nomatch (show b ∈ ([] : List Addr) from z)
      hok := hok
      bare := .of_eq hg }
    refine codeAny_mono ((F _ kB gB (trk_tab hns ha hT C hbm tr)).go callerA rfl [] s H ⟨[.ref a], []⟩ [.ref a] [.ref a] _ _ hr en (hbind s (.ref a)) (.cons rfl .nil) (hsp H hH hS)) ?_
    intro r t h
    rcases r with er | (_ | _ | _ | u)
    · exact (show False from h).elim
    · exact h.elim
    · exact h.elim
    · exact h.elim
    · obtain ⟨v, H', os, bare, un, hok', r', q⟩ := h
      have q' : v = .bl true := q
      subst q'
      obtain rfl : u = Value.bool true := r'
      have kept : ∀ b o, b ∉ cs.map (·.2) → s.heap.get? b = some o → t.heap.get? b = some o := by
        intro b o nb e
        cases z : H b with
        | none => exact un.keep b o e z (fun y => nomatch (show b ∈ ([] : List Addr) from y)) (fun y => nomatch y)
        | some u =>
          rcases tr b u z with ⟨_, ob, xs, rfl⟩ | ⟨hm, _⟩
          · obtain ⟨e1, _⟩ := hok b _ z
            obtain ⟨e2, _⟩ := hok' b _ (un.frzs b ob _ z)
            rw [e] at e1
            cases e1
            exact e2
          · exact absurd hm nb
      have grew : ∀ p ∈ cs, ∃ more : Array Value, t.heap.get? p.2 = some { cls := .none, data := .fields more } := by
        intro p hp
        obtain ⟨m, z⟩ := un.tbls p.2 #[] (hH p hp)
        exact ⟨_, hok' p.2 _ z⟩
      refine ⟨rfl, ⟨fun b o e => ?_, fun b o e => ?_⟩, os, bare⟩
      all_goals
        by_cases hm : b ∈ cs.map (·.2)
      · obtain ⟨p, hp, rfl⟩ := List.mem_map.mp hm
        obtain ⟨m, hm2⟩ := grew p hp
        rw [hT p hp] at e
        cases e
        refine .inr (.inl ⟨((C p hp).tab (hT p hp)).isCodeTable, rfl, #[], m, rfl, ?_⟩)
        rw [Array.empty_append]
        exact hm2
      · exact .inl (kept b o hm e)
      · obtain ⟨p, hp, rfl⟩ := List.mem_map.mp hm
        obtain ⟨m, hm2⟩ := grew p hp
        exact ⟨_, hm2⟩
      · exact ⟨o, kept b o hm e⟩
  let G0 : Hp := fun b => if b ∈ cs.map (·.2) then some (.tbl #[]) else none
  have gT : ∀ b, b ∈ cs.map (·.2) → G0 b = some (.tbl #[]) := fun b hm => if_pos hm
  have gN : ∀ b, b ∉ cs.map (·.2) → G0 b = none := fun b hm => if_neg hm
  have okT : ∀ (X : Hp) b, b ∈ cs.map (·.2) → ObjOk P w X s.heap b (.tbl #[]) := by
    intro X b hm
    obtain ⟨p, hp, rfl⟩ := List.mem_map.mp hm
    exact hT p hp
  cases hk : K.lookup a with
  | some o =>
    have q := KX a o hk
    rw [ha] at q
    cases q
    refine go G0 (fun p hp => gT _ (inT p hp)) (fun b u z => ?_) (.inr ⟨_, vs.toArray, _, hk, rfl, rfl, rfl, ?_, by simpa using rv⟩) (fun b u z => ?_) (fun z => absurd (gN a aT) z)
    · by_cases hm : b ∈ cs.map (·.2)
      · rw [gT b hm] at z
        exact .inr ⟨hm, (Option.some.inj z).symm⟩
      · rw [gN b hm] at z
        cases z
    · rw [List.size_toArray, hi.length]
      exact hl
    · by_cases hm : b ∈ cs.map (·.2)
      · rw [gT b hm] at z
        cases z
        exact okT _ b hm
      · rw [gN b hm] at z
        cases z
  | none =>
    have hu : ∀ b u, upd G0 a (.frz (lst0 vs) (.lst (ns.map V.int))) b = some u → (b = a ∧ u = .frz (lst0 vs) (.lst (ns.map V.int))) ∨ (b ∈ cs.map (·.2) ∧ u = .tbl #[]) := by
      intro b u z
      by_cases hb : b = a
      · subst hb
        rw [upd_same] at z
        exact .inl ⟨rfl, (Option.some.inj z).symm⟩
      · rw [upd_ne hb] at z
        by_cases hm : b ∈ cs.map (·.2)
        · rw [gT b hm] at z
          exact .inr ⟨hm, (Option.some.inj z).symm⟩
        · rw [gN b hm] at z
          cases z
    refine go (upd G0 a (.frz (lst0 vs) (.lst (ns.map V.int)))) (fun p hp => ?_) (fun b u z => ?_) (.inl (.inr ⟨lst0 vs, upd_same⟩)) (fun b u z => ?_) (fun _ => hk)
    · have ne : p.2 ≠ a := fun e => aT (by rw [← e]; exact inT p hp)
      rw [upd_ne ne]
      exact gT _ (inT p hp)
    · rcases hu b u z with ⟨e1, e2⟩ | e
      · exact .inl ⟨e1, _, _, e2⟩
      · exact .inr e
    · rcases hu b u z with ⟨rfl, rfl⟩ | ⟨hm, rfl⟩
      · exact ⟨ha, by rw [List.length_map]; exact hl, vs, _, rv, ha⟩
      · exact okT _ b hm
/-- what is to be known of the law at the head's heap -/
def AtG (l : PySem.W.OpenLaw) (w : World) (K : PySem.W.Frag) (k n : Nat) (x : Str) (mg : Str → Option Value) (fa : Addr) (h : Heap) : Prop :=
  ∃ (fd : FuncData) (cs : List (Addr × Addr)) (sp : Sp), (∀ p ∈ cs, h.get? p.2 = some tab0 ∧ K.lookup p.2 = none ∧ PySem.W.CodeHd h p.1 p.2) ∧ (∀ (s : Shared) (u : Value), BindsTo s fd ⟨[u], []⟩ [(x, u)]) ∧
    (∀ (H : Hp) (a : Addr) (ns : List Int), ns.length ≤ n → (∀ z ∈ ns, Builtin.Int.intBits z ≤ 1048576) → (∀ p ∈ cs, H p.2 = some (.tbl #[])) → SqL K H a (ns.map V.int) → sp [.ref a] H (fun v _ => v = .bl true) E0) ∧
    ∀ base : Heap, K.In base → base.Ns mainGlobals mg → (∀ p ∈ cs, LamX.TabB base mg p.1 p.2) → FnG l.prog w K mg base CX0 k fa fd [x] sp
theorem walkGT {l : PySem.W.OpenLaw} {n k : Nat} {q : Program} {loose : List Str} {XP : (Str → Option Value) → Heap → Prop} {YP : World → Heap → Prop} {d : DefRec} {K : Params → PySem.W.Frag} {x : Str}
    (hn : l.most = some n) (hn2 : n ≤ sizeLine) (hdf : d.params.defaults = []) (hr : Room k callerA) (hY : ∀ (w : World) (h : Heap), YP w h → (K w.params).In h)
    (F : ∀ (w : World) (mg : Str → Option Value) (fa : Addr) (h : Heap), YP w h → (K w.params).In h → h.Ns mainGlobals mg → mg d.name = some (.ref fa) → AtG l w (K w.params) k n x mg fa h) :
    PySem.W.WalkO q loose XP YP l.row.toRowW d [] (fun f vs => PySem.call f vs) := by
  refine Att.attach_callB hn hdf ?_
  intro w s0 s1 mg mb fa o pm cd doc a vs ns G Y ho hd hcd hmg hobj hints hlen hbits hg
  have KX := hY w _ Y
  obtain ⟨fd, cs, sp, hc, hb, hsp, hF⟩ := F w mg fa _ Y KX G.T.g hmg
  exact lawGT KX G.T.g G.T.b G.T.builtins G.T.nolimit hg (fun p hp => (hc p hp).1) (fun p hp => (hc p hp).2.1) (fun p hp => (hc p hp).2.2) G.T.bmain hobj hints (Nat.le_trans hlen hn2) hr hF hb
    (fun H hH hS => hsp H a ns hlen hbits hH hS)
end SQ
namespace SQ1
open PySem L2 SQ
/-- all stands but what is at u, and the tables -/
def ButT (u : Addr) (H H' : Hp) : Prop := ∀ b o, H b = some o → b ≠ u → (∀ ps, o ≠ .tbl ps) → H' b = some o
theorem ButT.of {u : Addr} {H H' : Hp} (a : But u H H') : ButT u H H' := fun b o e n _ => a b o e n
theorem ButT.ofN {u : Addr} {H H' : Hp} (a : LamX.ExtN H H') : ButT u H H' := fun b o e _ t => a b o e t
theorem ButT.trans {u : Addr} {H H1 H2 : Hp} (a : ButT u H H1) (b : ButT u H1 H2) : ButT u H H2 := fun c o e n t => b c o (a c o e n t) n t
theorem ext_new {p : Addr} {H H' : Hp} {o : HO} (a : LamX.ExtN H H') (h : H' p = none) : LamX.ExtN H (upd H' p o) := fun c x e t => by
  have e1 := a c x e t
  rw [upd_ne (ne_of_none e1 h)]
  exact e1
theorem ext_seq {K : PySem.W.Frag} {H H' : Hp} {a : Addr} {xs : List V} (e : LamX.ExtN H H') (h : SqL K H a xs) : SqL K H' a xs := by
  rcases h with (h | ⟨o, h⟩) | h
  · exact .inl (.inl (e _ _ h (fun ps z => nomatch z)))
  · exact .inl (.inr ⟨o, e _ _ h (fun ps z => nomatch z)⟩)
  · exact .inr h
abbrev TL := List (Addr × Str)
def spRightT (T : TL) : Sp := fun vs H Q _ => ∃ u : Addr, vs = [.ref u] ∧ urnAt H u ∧ LamX.Tabs T H ∧ ∀ H' : Hp, ButT u H H' → LamX.Tabs T H' → Q (.bl true) H'
def spLawT (K : PySem.W.Frag) (T : TL) : Sp := fun vs H Q _ => ∃ (a : Addr) (ns : List Int), vs = [.ref a] ∧ SqL K H a (ns.map V.int) ∧ ns.length ≤ 63 ∧ LamX.Tabs T H ∧ ∀ H', Q (.bl true) H'
theorem tabs_put {T : TL} {H : Hp} {D : Addr} {xs ys : List V} (t : LamX.Tabs T H) (hD : H D = some (.lst xs)) : LamX.Tabs T (upd H D (.lst ys)) := by
  intro p hp
  obtain ⟨ps, h1, h2, h3⟩ := t p hp
  refine ⟨ps, ?_, h2, fun pos cv hc => ?_⟩
  · rw [upd_ne (ne_of h1 hD (by intro z; cases z))]
    exact h1
  · obtain ⟨c, e1, e2⟩ := h3 pos cv hc
    refine ⟨c, e1, ?_⟩
    rw [upd_ne (ne_of e2 hD (by intro z; unfold LamX.CodeO at z; cases z))]
    exact e2
section
variable {P : Program} {w : World} {K : PySem.W.Frag} {mg : Str → Option Value} {base : Heap}
theorem ok_lawT {T : TL} {f fU fR : Addr} {fd fdU fdR : FuncData} {j : Nat} (F : Fun K "law" "law" sLaw f fd) (B : Blt mg) (gU : mg "_law_urn" = some (.ref fU)) (FU : Fun K "_law_urn" "_law_urn" sUrn fU fdU) (bU : Binds K fdU ["_law_script", "_law_k"] [])
    (gR : mg "_law_right" = some (.ref fR)) (kR : PySem.W.keepIn K (.ref fR) = true) (bR : Binds K fdR ["_law_urn_here"] []) (GR : FnG P w K mg base CX0 (j + 1) fR fdR ["_law_urn_here"] (spRightT T)) : FnG P w K mg base CX0 (j + 2) f fd ["_law_script"] (spLawT K T) := by
  have GU : FnOk P w K mg base CX0 1 fU fdU ["_law_script", "_law_k"] (spUrn K) := ok_urn FU B
  refine okG F scLaw (fun vs H Q E h => ?_) (fun cdv A outer s H vs Q E hgd hr h => ?_)
  · obtain ⟨a, ns, rfl, _⟩ := h
    rfl
  · obtain ⟨a, ns, rfl, hS, hlen, hT, q⟩ := h
    refine ⟨_, pss_one (ps_ret (pe_callB (cr_all rfl) (by rfl) B.all (by decide +kernel) (pa_cons (pe_lc (own := [("_law_k", 1)]) (g := gName 1) (tt := tYes) rfl scLaw.nd
      (pi_range1 (by rfl) B.range (pa_cons (pe_callB (call_max2 rfl) (by rfl) B.max (by decide +kernel) (pa_cons pe_int (pa_cons (pe_callB (call_min2 rfl) (by rfl) B.min (by decide +kernel)
        (pa_cons (pe_callB call_len_seq (by rfl) B.len PySem.boot_len (pa_cons (pv 0) pa_nil)) (pa_cons pe_int pa_nil))) pa_nil))) pa_nil))
      (blkOk_by (N := ["_law_script", "_law_k"]) (sc := defScope sLaw) (by decide +kernel)) (fun _ _ _ _ _ => pg_name (i := 1) scLaw.nd rfl (Or.inl rfl)) (fun _ _ _ _ _ => pts_nil)
      (fun _ _ _ _ _ => pe_callG GR hgd hr rfl gR kR bR pass0 (pa_cons (pe_call GU (hr.mono (by omega)) rfl gU FU.kp bU .nil pass0 (pa_cons (pv 0) (pa_cons (pv 1) pa_nil))) pa_nil))) pa_nil))), ?_⟩
    refine ⟨_, rfl, a, _, rfl, .inl hS, _, _, rfl, _, _, rfl, ?_⟩
    generalize hj : (if (if (6 : Int) < ((ns.map V.int).length : Int) then (6 : Int) else ((ns.map V.int).length : Int)) > 2 then (if (6 : Int) < ((ns.map V.int).length : Int) then (6 : Int) else ((ns.map V.int).length : Int)) else 2) = n
    have hn : 0 ≤ n ∧ n ≤ 6 := by
      rw [← hj]
      split <;> split <;> omega
    refine ⟨n, rfl, by omega, by omega, fun D hD => ?_⟩
    refine lc_range (lo := 0) (n := n.toNat) (fun i H2 => LamX.ExtN H H2 ∧ LamX.Tabs T H2 ∧ H2 D = some (.lst ((List.replicate i true).map V.bl))) ⟨ext_new (LamX.ExtN.refl H) hD, hT.ext (same_new (fun _ _ e => e) hD), upd_same⟩ ?_ ?_
    · rintro i H2 hi ⟨s2, t2, hD2⟩
      refine ⟨rfl, keptT ?_⟩
      refine ⟨_, rfl, _, rfl, a, ns, i, by rw [Int.zero_add]; rfl, ext_seq s2 hS, by omega, fun H3 p s3 np hp => ?_⟩
      refine ⟨p, rfl, hp, t2.ext s3, fun H4 b4 t4 => ?_⟩
      have hD4 : H4 D = some (.lst ((List.replicate i true).map V.bl)) := b4 D _ (s3 D _ hD2) (ne_of_none hD2 np) (fun ps z => nomatch z)
      refine ⟨_, hD4, small1000 (by rw [List.length_map, List.length_replicate]; omega), fun b o e t => ?_, tabs_put t4 hD4, ?_⟩
      · have hb : b ≠ D := ne_of_none e hD
        have e2 := s2 b o e t
        rw [upd_ne hb]
        exact b4 b o (s3 b o e2) (ne_of_none e2 np) t
      · rw [upd_same, List.replicate_succ', List.map_append]
        rfl
    · rintro H2 ⟨s2, t2, hD2⟩
      refine ⟨D, _, rfl, SqL.of hD2, ?_⟩
      have e : (List.replicate n.toNat true).all id = true := by
        rw [List.all_eq_true]
        intro x hx
        exact (List.eq_of_mem_replicate hx)
      rw [e]
      exact q H2
end
end SQ1
namespace SQ1
open PySem L2 SQ
/-! ### sorted texts are unique -/
theorem rising_pw : ∀ (l : List Str) (p : Str), PyProof.Rows.risingS p l = true → (p :: l).Pairwise fun a b => a.cps.toList ≤ b.cps.toList
  | [], p, _ => List.pairwise_singleton _ _
  | x :: l, p, h => by
    have h' : (!Spec.ltCps x.cps.toList p.cps.toList && PyProof.Rows.risingS x l) = true := h
    rw [Bool.and_eq_true, PyProof.Rows.ltCps_eq] at h'
    have h1 : p.cps.toList ≤ x.cps.toList := by
      have := h'.1
      simp only [Bool.not_eq_true', decide_eq_false_iff_not] at this
      exact List.not_lt.mp this
    have h2 := rising_pw l x h'.2
    refine List.pairwise_cons.mpr ⟨fun y hy => ?_, h2⟩
    rcases List.mem_cons.mp hy with rfl | hy
    · exact h1
    · exact List.le_trans h1 ((List.pairwise_cons.mp h2).1 y hy)
theorem sorted_pw {l : List Str} (h : PyProof.Rows.sortedS l = true) : l.Pairwise fun a b => a.cps.toList ≤ b.cps.toList := by
  cases l with
  | nil => exact List.Pairwise.nil
  | cons x l => exact rising_pw l x h
theorem sorted_one {l m : List Str} (hl : PyProof.Rows.sortedS l = true) (hm : PyProof.Rows.sortedS m = true) (p : l.Perm m) : l = m := by
  refine List.Perm.eq_of_pairwise (fun a b _ _ h1 h2 => ?_) (sorted_pw hl) (sorted_pw hm) p
  have e := List.le_antisymm h1 h2
  obtain ⟨ca⟩ := a
  obtain ⟨cb⟩ := b
  have e' : ca = cb := Array.toList_inj.mp e
  rw [e']
/-! ### what is kept of data -/
structure Keep (H H' : Hp) : Prop where
  tup : ∀ a xs, H a = some (.tup xs) → H' a = some (.tup xs)
  lst : ∀ a xs, H a = some (.lst xs) → ∃ ys, H' a = some (.lst ys)
  dK : ∀ a kvs, H a = some (.dK kvs) → H' a = some (.dK kvs)
theorem Keep.same {H H' : Hp} (s : Same H H') : Keep H H' := ⟨fun a _ e => s a _ e, fun a xs e => ⟨xs, s a _ e⟩, fun a _ e => s a _ e⟩
theorem Keep.ext {H H' : Hp} (s : LamX.ExtN H H') : Keep H H' := ⟨fun a _ e => s a _ e (fun _ z => nomatch z), fun a xs e => ⟨xs, s a _ e (fun _ z => nomatch z)⟩, fun a _ e => s a _ e (fun _ z => nomatch z)⟩
theorem Keep.but {u : Addr} {H H' : Hp} (b : But u H H') (hu : urnAt H u) (hu' : urnAt H' u) : Keep H H' := by
  obtain ⟨x, y, z, e0⟩ := hu
  obtain ⟨x', y', z', e1⟩ := hu'
  refine ⟨fun a xs e => b a _ e ?_, fun a xs e => ?_, fun a kvs e => b a _ e ?_⟩
  · exact ne_of e e0 (by intro z; cases z)
  · by_cases h : a = u
    · subst h
      exact ⟨_, e1⟩
    · exact ⟨xs, b a _ e h⟩
  · exact ne_of e e0 (by intro z; cases z)
theorem Keep.trans {H H1 H2 : Hp} (a : Keep H H1) (b : Keep H1 H2) : Keep H H2 := ⟨fun x xs e => b.tup _ _ (a.tup _ _ e), fun x xs e => let ⟨_, e1⟩ := a.lst _ _ e; b.lst _ _ e1, fun x k e => b.dK _ _ (a.dK _ _ e)⟩
theorem Kd.keep {H H' : Hp} {v : V} {t : String} (s : Keep H H') (k : Kd H v t) : Kd H' v t := by
  cases k with
  | non => exact .non
  | bl b => exact .bl b
  | int i => exact .int i
  | str x h => exact .str x h
  | lst e =>
    obtain ⟨ys, e1⟩ := s.lst _ _ e
    exact .lst e1
  | tup e => exact .tup (s.tup _ _ e)
  | dic e => exact .dic (s.dK _ _ e)
theorem Ent.keep {H H' : Hp} {v : V} {o : En} (s : Keep H H') (k : Ent H v o) : Ent H' v o := by
  cases k with
  | no k ht => exact .no (k.keep s) ht
  | len e h => exact .len (s.tup _ _ e) h
  | bad e kx ky kz h => exact .bad (s.tup _ _ e) (kx.keep s) (ky.keep s) (kz.keep s) h
  | good e hn h => exact .good (s.tup _ _ e) hn h
end SQ1
/-! Texts cut at a separator and put together again. -/
namespace SQ
open PySem L2
theorem str_ext {a b : Str} (h : a.cps.toList = b.cps.toList) : a = b := by
  obtain ⟨ca⟩ := a
  obtain ⟨cb⟩ := b
  have e : ca = cb := Array.toList_inj.mp h
  rw [e]
theorem str_app (a b : Str) : (a ++ b).cps.toList = a.cps.toList ++ b.cps.toList := by
  show (a.cps ++ b.cps).toList = _
  exact Array.toList_append
/-- signs put together -/
def jn (S : List Nat) : List (List Nat) → List Nat
  | [] => []
  | [x] => x
  | x :: y :: r => x ++ (S ++ jn S (y :: r))
theorem tl_join (sep : Str) : ∀ l : List Str, (Str.join sep l).cps.toList = jn sep.cps.toList (l.map fun x => x.cps.toList)
  | [] => rfl
  | [x] => rfl
  | x :: y :: r => by
    have h := tl_join sep (y :: r)
    show (x ++ sep ++ Str.join sep (y :: r)).cps.toList = _
    rw [str_app, str_app, h, List.append_assoc]
    rfl
theorem spl_free {c : Nat} {S : List Nat} : ∀ (p acc r : List Nat), c ∉ p → TL.spl (c :: S) 0 acc (p ++ r) = TL.spl (c :: S) 0 (acc ++ p) r
  | [], acc, r, _ => by rw [List.append_nil]; rfl
  | x :: p, acc, r, h => by
    have hx : x ≠ c := fun e => h (e ▸ List.mem_cons_self)
    have hp : c ∉ p := fun e => h (List.mem_cons_of_mem _ e)
    rw [List.cons_append, TL.spl_miss (TL.pre_of_head S (p ++ r) hx), spl_free p _ r hp, List.append_assoc]
    rfl
theorem spl_jn {c : Nat} {S : List Nat} : ∀ (ps : List (List Nat)) (p acc : List Nat), c ∉ p → (∀ x ∈ ps, c ∉ x) → TL.spl (c :: S) 0 acc (jn (c :: S) (p :: ps)) = (acc ++ p) :: ps
  | [], p, acc, h, _ => by
    have e := spl_free (S := S) p acc [] h
    rw [List.append_nil, TL.spl_nil] at e
    exact e
  | q :: ps, p, acc, h, hs => by
    have e := spl_free (S := S) p acc ((c :: S) ++ jn (c :: S) (q :: ps)) h
    show TL.spl (c :: S) 0 acc (p ++ ((c :: S) ++ jn (c :: S) (q :: ps))) = _
    have hp : TL.pre (c :: S) (c :: (S ++ jn (c :: S) (q :: ps))) = true := TL.pre_self (c :: S) _
    rw [e, List.cons_append, TL.spl_hit hp, TL.spl_pass]
    have e2 : (S ++ jn (c :: S) (q :: ps)).drop ((c :: S).length - 1) = jn (c :: S) (q :: ps) := by
      show (S ++ jn (c :: S) (q :: ps)).drop S.length = _
      exact List.drop_left
    rw [e2, spl_jn ps q [] (hs q List.mem_cons_self) fun x hx => hs x (List.mem_cons_of_mem _ hx)]
    rfl
theorem map_tl_inj : ∀ {a b : List Str}, a.map (fun x => x.cps.toList) = b.map (fun x => x.cps.toList) → a = b
  | [], [], _ => rfl
  | [], _ :: _, h => nomatch h
  | _ :: _, [], h => nomatch h
  | x :: a, y :: b, h => by
    rw [List.map_cons, List.map_cons, List.cons.injEq] at h
    rw [str_ext h.1, map_tl_inj h.2]
/-- cut where it was put together -/
theorem split_join {sep : Str} {c : Nat} {S : List Nat} (hs : sep.cps.toList = c :: S) (hk : sep.cps.all (· < 256) = true) {ps : List Str} (hn : ps ≠ []) (hf : ∀ p ∈ ps, c ∉ p.cps.toList) : Txt.split (Str.join sep ps) sep = ps := by
  refine map_tl_inj ?_
  have hy : TL.tl sep ≠ [] := by
    show sep.cps.toList ≠ []
    rw [hs]
    exact fun z => nomatch z
  have e := TL.split_spl (Str.join sep ps) sep hy (TL.kind_ok hk)
  refine e.trans ?_
  show TL.spl sep.cps.toList 0 [] (Str.join sep ps).cps.toList = _
  rw [tl_join, hs]
  cases ps with
  | nil => exact absurd rfl hn
  | cons p ps =>
    rw [List.map_cons, spl_jn _ _ _ (hf p List.mem_cons_self) (fun x hx => by
      obtain ⟨y, hy, rfl⟩ := List.mem_map.mp hx
      exact hf y (List.mem_cons_of_mem _ hy))]
    rfl
theorem join_split (x y : Str) : Str.join y (Txt.split x y) = x := StrLaws.join_split x y
theorem split_ne (x y : Str) : Txt.split x y ≠ [] := by
  have h := PyProof.Rows.split_pos x y
  intro e
  rw [e] at h
  exact absurd h (by decide)
end SQ
/-! Static methods, called by position and by keyword; instances made with a starred list or nothing. -/
namespace SQ
open PySem PySem.Spec PyProof.Rows L2
structure SMet (K : PySem.W.Frag) (C : Addr) (mc : Value) (m : Str) (p g : Addr) : Prop where
  rd : PySem.W.readsIn K C mc = true
  ga : PySem.W.specialIn K (.ref C) "__getattribute__" = some (some (.builtin "type.__getattribute__"))
  at_ : PySem.W.findCls K (.ref C) mc m = some (.get (.builtin "staticmethod.__get__") (.ref p) .none (.ref C))
  rc : ∃ rest, PySem.W.recIn K p "staticmethod" = some (.ref g :: rest)
  kp : PySem.W.keepIn K (.ref g) = true
section
variable {X : Cx} {CX : CXT} {k : Nat} {C p g : Addr} {mc : Value} {sp : Sp} {E : XK} {o e : Expr} {es : List Expr} {x m : Str} {pos apos kpos sp_ : Pos} {ta te : TE} {t : TA} {pl : Sem Bool}
theorem getsm_ok {pins : List (Addr × Obj)} {σ : L2.St} {H : Hp} {s : Shared} {A : Around} {E : Value → Shared → Prop} {Q : Value × List Value → Shared → Prop} (I : Inv X pins σ H s) (c : SMet X.K C mc m p g)
    (h : ∀ t, Inv X pins σ H t → Q (.ref g, []) t) : wpAny (model X.prog X.w) A (getMethod (.ref C) m pl) Q E s := by
  obtain ⟨rest, hp⟩ := c.rc
  refine PySem.W.method_cls I.kIn c.ga (PySem.W.cls_bind I.kIn c.rd c.at_ ?_)
  exact wpAny_call (PySem.W.sm_get (s := { s with toks := s.toks + 1 }) I.kIn hp (PySem.W.handed_on rfl (h _ (I.tok _))))
/-- C.m(e, ..) -/
theorem pe_smeth (he : PE X o ta) (c : SMet X.K C mc m p g) (F : FnR X.prog X.w X.K X.mg X.base CX k g sp) (hr : Room k X.A) (hx : Passes CX X E) (ha : PA X (e :: es) t)
    (hst : starEach (e :: es) X.env = (false, eval e X.env) :: starEach es X.env := by rfl) (hpl : (backTo pos (starEach es X.env)).any (·.1) = false := by rfl)
    (ht : eval (.Call (.Attribute o m apos) (e :: es) [] pos) X.env = (do
      let v ← eval o X.env
      standAt apos.atName
      let (fn, pre) ← holding [v] (getMethod v m pl)
      callWith pos fn pre (backTo pos (starEach (e :: es) X.env)) (backToKw pos (keywordEach [] X.env))) := by rfl) :
    PE X (.Call (.Attribute o m apos) (e :: es) [] pos) (fun σ H Q => ta σ H fun y H1 => y = .ref C ∧ t σ H1 fun vs H2 => sp vs H2 Q E) := by
  constructor
  intro pins s σ H Q I h
  refine PySem.W.methodCall_KW (pl := pl) (thn (he.run pins s σ H _ I h) fun u s1 ⟨y, H1, I1, ry, ey, q⟩ => ?_) ht
  subst ey
  obtain rfl : u = Value.ref C := ry
  refine getsm_ok I1 c fun s2 I2 => ?_
  refine PySem.W.callWith_K (h₀ := X.base) I2.ok.mod.kin c.kp (thn (ha.run pos pins s2 σ H1 _ I2 q) fun us s3 ⟨vs, H2, I3, rv, q2⟩ => ⟨I3.kIn, ?_⟩) hst hpl
  exact wpAny_call (run_fnR F hr hx I3 rv q2)
/-- C.m(f=e) -/
theorem pe_smethK {fd : FuncData} {f : Str} (he : PE X o ta) (c : SMet X.K C mc m p g) (F : FnOk X.prog X.w X.K X.mg X.base CX k g fd [f] sp) (hr : Room k X.A) (hb : ∀ (s : Shared) (u : Value), BindsTo s fd ⟨[], [(f, u)]⟩ [(f, u)]) (hx : Passes CX X E) (ha : PE X e te)
    (ht : eval (.Call (.Attribute o m apos) [] [⟨some f, e, kpos⟩] pos) X.env = (do
      let v ← eval o X.env
      standAt apos.atName
      let (fn, pre) ← holding [v] (getMethod v m pl)
      callWith pos fn pre (backTo pos (starEach [] X.env)) (backToKw pos (keywordEach [⟨some f, e, kpos⟩] X.env))) := by rfl) :
    PE X (.Call (.Attribute o m apos) [] [⟨some f, e, kpos⟩] pos) (fun σ H Q => ta σ H fun y H1 => y = .ref C ∧ te σ H1 fun v H2 => ∃ v', [v] = [v'] ∧ sp [v'] H2 Q E) := by
  constructor
  intro pins s σ H Q I h
  refine PySem.W.methodCall_KW (pl := pl) (thn (he.run pins s σ H _ I h) fun u s1 ⟨y, H1, I1, ry, ey, q⟩ => ?_) ht
  subst ey
  obtain rfl : u = Value.ref C := ry
  refine getsm_ok I1 c fun s2 I2 => ?_
  refine PySem.W.callWith_KW0 (h₀ := X.base) I2.ok.mod.kin c.kp rfl ?_
  have hk : PK X [⟨some f, e, kpos⟩] (tCons te tNil) := pk_cons ha pk_nil
  refine thn (hk.run pos pins s2 σ H1 (fun zs H2 => ∃ v, zs = [v] ∧ sp [v] H2 Q E) I2 ?_) ?_
  · exact q
  · intro us s3 ⟨zs, H2, I3, r1, v, ez, q2⟩
    subst ez
    refine ⟨I3.kIn, ?_⟩
    cases r1 with
    | cons rv rr =>
      cases rr
      rename_i u
      show wpAny _ _ (call (.ref g) [] [(f, u)]) _ _ _
      refine wpAny_call (codeAny_mono (F.run X.A X.stack s3 H2 ⟨[], [(f, u)]⟩ [u] [v] Q E hr I3.env0 (hb s3 u) (.cons rv .nil) q2) fun r s' hq => ?_)
      cases r with
      | error e => exact hx pins σ H2 s3 e s' I3 hq
      | ok fl => cases fl with
        | ret u => exact I3.after hq
        | next => exact False.elim hq
        | brk => exact False.elim hq
        | cont => exact False.elim hq
/-- the instance is made, what __init__ lets out being taken at these slots -/
theorem make_at {f : Addr} {pins : List (Addr × Obj)} {σ : L2.St} {H : Hp} {s : Shared} {Q : VK} {us : List Value} {vs : List V} (M : Mk X.K C f) (F : FnR X.prog X.w X.K X.mg X.base CX k f sp) (hr : Room (k + 1) X.A) (hx : PassesAt CX X σ E) (I : Inv X pins σ H s) (r : Vals vs us)
    (h : ∀ q dx, H q = none → H dx = none → dx ≠ q → sp (V.ref q :: vs) (upd (upd H dx (.own q)) q (.ins C dx [])) (fun v H2 => v = .non ∧ Q (.ref q) H2) E) :
    wpAny (model X.prog X.w) X.A (call (.ref C) us) (EP X pins σ Q) X.xe s := by
  have J := Inv.made (C := C) I
  have hsp := h (s.heap.objs.size + 1) s.heap.objs.size (I.hok.fresh (Nat.le_succ _)) (I.hok.fresh (Nat.le_refl _)) (fun z => Nat.succ_ne_self _ z.symm)
  have rs : Vals (V.ref (s.heap.objs.size + 1) :: vs) (Value.ref (s.heap.objs.size + 1) :: us) := .cons rfl r
  refine wpAny_call (make_map (f := f) I.kIn M.makes M.init (beq_iff_eq.mp M.fn) ?_)
  refine codeAny_mono (F _ X.stack _ _ _ _ _ E (hr.make C us []) (J.env0.make C us []) rs hsp) ?_
  intro r t ht
  rcases r with er | (_ | _ | _ | u)
  · exact hx pins _ _ er t J ht
  · exact ht.elim
  · exact ht.elim
  · exact ht.elim
  · obtain ⟨v, G, J2, rv, rfl, q2⟩ := J.after ht
    exact ⟨rv, V.ref (s.heap.objs.size + 1), G, J2, rfl, q2⟩
/-- C(*e) in a try -/
theorem pe_makeST {f : Addr} {E : L2.St → XK} (Kx : PySem.W.Frag) (hK : X.K = Kx) (M : Mk X.K C f) (F : FnR X.prog X.w X.K X.mg X.base CX k f sp) (hr : Room (k + 1) X.A) (hg : Gl X x) (hm : X.mg x = some (.ref C)) (hx : ∀ σ, PassesAt CX X σ (E σ)) (he : PE X e te) (hdb : (x == ("__debug__" : Str)) = false := by decide)
    (hst : starEach [.Starred e sp_] X.env = [(true, eval e X.env)] := by rfl) :
    PE X (.Call (.Name x apos) [.Starred e sp_] [] pos) (fun σ H Q => te σ H fun y H1 => ∃ a xs, y = V.ref a ∧ (SqT Kx H1 a xs ∨ SqL Kx H1 a xs) ∧ ∀ q dx, H1 q = none → H1 dx = none → dx ≠ q → sp (V.ref q :: xs) (upd (upd H1 dx (.own q)) q (.ins C dx [])) (fun v H2 => v = .non ∧ Q (.ref q) H2) (E σ)) := by
  subst hK
  constructor
  intro pins s σ H Q I h
  refine wpAny_Call_Name_kw (ld_glob I hg hm ?_ hdb)
  refine PySem.W.callWith_S (h₀ := X.base) I.ok.mod.kin M.kp (thn (he.run pins s σ H _ I h) fun v s1 ⟨y, H1, I1, ry, a, xs, ey, hxs, q⟩ => ?_) hst
  subst ey
  obtain rfl : v = Value.ref a := ry
  exact StX.star_any I1 hxs fun us s2 I2 rv => ⟨I2.kIn, make_at M F hr (hx σ) I2 rv q⟩
/-- C(*e), C() by a positional promise of __init__ -/
theorem pe_makeS {f : Addr} (M : Mk X.K C f) (F : FnR X.prog X.w X.K X.mg X.base CX k f sp) (hr : Room (k + 1) X.A) (hg : Gl X x) (hm : X.mg x = some (.ref C)) (hx : Passes CX X E) (he : PE X e te) (hdb : (x == ("__debug__" : Str)) = false := by decide)
    (hst : starEach [.Starred e sp_] X.env = [(true, eval e X.env)] := by rfl) :
    PE X (.Call (.Name x apos) [.Starred e sp_] [] pos) (fun σ H Q => te σ H fun y H1 => ∃ a xs, y = V.ref a ∧ (SqT X.K H1 a xs ∨ SqL X.K H1 a xs) ∧ ∀ q dx, H1 q = none → H1 dx = none → dx ≠ q → sp (V.ref q :: xs) (upd (upd H1 dx (.own q)) q (.ins C dx [])) (fun v H2 => v = .non ∧ Q (.ref q) H2) E) := by
  constructor
  intro pins s σ H Q I h
  refine wpAny_Call_Name_kw (ld_glob I hg hm ?_ hdb)
  refine PySem.W.callWith_S (h₀ := X.base) I.ok.mod.kin M.kp (thn (he.run pins s σ H _ I h) fun v s1 ⟨y, H1, I1, ry, a, xs, ey, hxs, q⟩ => ?_) hst
  subst ey
  obtain rfl : v = Value.ref a := ry
  exact StX.star_any I1 hxs fun us s2 I2 rv => ⟨I2.kIn, StX.run_makeR M F hr hx I2 rv q⟩
theorem pe_make0R {f : Addr} (M : Mk X.K C f) (F : FnR X.prog X.w X.K X.mg X.base CX k f sp) (hr : Room (k + 1) X.A) (hg : Gl X x) (hm : X.mg x = some (.ref C)) (hx : Passes CX X E) (hdb : (x == ("__debug__" : Str)) = false := by decide) :
    PE X (.Call (.Name x apos) [] [] pos) (fun σ H Q => ∀ q dx, H q = none → H dx = none → dx ≠ q → sp [V.ref q] (upd (upd H dx (.own q)) q (.ins C dx [])) (fun v H2 => v = .non ∧ Q (.ref q) H2) E) := by
  constructor
  intro pins s σ H Q I h
  refine wpAny_Call_Name_kw (ld_glob I hg hm ?_ hdb)
  refine PySem.W.callWith_K0 I.kIn M.kp ?_
  show wpAny _ _ (call (.ref C) []) _ _ _
  exact StX.run_makeR M F hr hx I .nil h
end
end SQ
namespace SQ1
open PySem L2 SQ
abbrev sSE : Stmt := top 20
abbrev sSS : Stmt := top 21
/-! ### what a text says -/
def digOf (a : Str) : Option Int := if a = "0" then some 0 else if a = "1" then some 1 else if a = "2" then some 2 else if a = "3" then some 3 else none
def rawOf : List Str → Option (Str × Int × Int)
  | [n, a, b] => (digOf a).bind fun i => (digOf b).map fun j => (n, i, j)
  | _ => none
def goodRaw : Option (Str × Int × Int) → En
  | some (n, i, j) => if isFree (.str n) = true then some (n, i, j) else none
  | none => none
def entryOf (p : Str) : En := goodRaw (rawOf (Txt.split p " "))
def partsOf (x : Str) : List Str := if x = "" then [] else Txt.split x ", "
def ensOf (x : Str) : List En := (partsOf x).map entryOf
theorem dig_ar {a : Str} {i : Int} (h : digOf a = some i) : 0 ≤ i ∧ i ≤ 3 ∧ a = (toString i : String) := by
  unfold digOf at h
  split at h
  · cases h
    rename_i e
    exact ⟨by decide, by decide, e⟩
  split at h
  · cases h
    rename_i e
    exact ⟨by decide, by decide, e⟩
  split at h
  · cases h
    rename_i e
    exact ⟨by decide, by decide, e⟩
  split at h
  · cases h
    rename_i e
    exact ⟨by decide, by decide, e⟩
  · cases h
theorem ar_dig {i : Int} (h0 : 0 ≤ i) (h1 : i ≤ 3) : digOf ((toString i : String) : Str) = some i := by
  rcases four h0 h1 with rfl | rfl | rfl | rfl <;> decide +kernel
theorem isAr_of {i : Int} (h0 : 0 ≤ i) (h1 : i ≤ 3) : isAr (.int i) = true := by
  show (decide (0 ≤ i) && decide (i ≤ 3)) = true
  rw [decide_eq_true h0, decide_eq_true h1]
  rfl
theorem raw_ok {p n : Str} {i j : Int} (h : rawOf (Txt.split p " ") = some (n, i, j)) : Txt.split p " " = [n, ((toString i : String) : Str), ((toString j : String) : Str)] ∧ (0 ≤ i ∧ i ≤ 3) ∧ 0 ≤ j ∧ j ≤ 3 := by
  generalize hs : Txt.split p " " = l at h
  match l, h with
  | [n', a, b], h =>
    have h' : ((digOf a).bind fun i => (digOf b).map fun j => (n', i, j)) = some (n, i, j) := h
    cases ha : digOf a with
    | none =>
      rw [ha] at h'
      cases h'
    | some i' =>
      cases hb : digOf b with
      | none =>
        rw [ha, hb] at h'
        cases h'
      | some j' =>
        rw [ha, hb] at h'
        cases h'
        obtain ⟨a1, a2, a3⟩ := dig_ar ha
        obtain ⟨b1, b2, b3⟩ := dig_ar hb
        exact ⟨by rw [a3, b3], ⟨a1, a2⟩, b1, b2⟩
  | [], h => cases h
  | [_], h => cases h
  | [_, _], h => cases h
  | _ :: _ :: _ :: _ :: _, h => cases h
/-- the values that split_entry hands out -/
def RawAt (H : Hp) (v : V) : Option (Str × Int × Int) → Prop
  | none => v = .non
  | some (n, i, j) => ∃ a, v = .ref a ∧ H a = some (.tup [.str n, .int i, .int j])
theorem raw_ent {H : Hp} {v : V} {p : Str} (hp : p.length ≤ 1000) (r : RawAt H v (rawOf (Txt.split p " "))) : Ent H v (entryOf p) := by
  unfold entryOf
  cases hq : rawOf (Txt.split p " ") with
  | none =>
    rw [hq] at r
    have r' : v = .non := r
    subst r'
    exact .no .non (by decide)
  | some g =>
    obtain ⟨n, i, j⟩ := g
    rw [hq] at r
    obtain ⟨a, rfl, ha⟩ := r
    obtain ⟨hs, ⟨i0, i3⟩, j0, j3⟩ := raw_ok hq
    have hn : n.length ≤ 1000 := Nat.le_trans (PyProof.Rows.part_short (x := p) (y := " ") (by rw [hs]; exact List.mem_cons_self)) hp
    show Ent H (.ref a) (if isFree (.str n) = true then some (n, i, j) else none)
    by_cases hf : isFree (.str n) = true
    · rw [if_pos hf]
      exact .good ha hn (by rw [hf, isAr_of i0 i3, isAr_of j0 j3]; rfl)
    · rw [if_neg hf]
      exact .bad ha (.str n hn) (.int i) (.int j) (by rw [Bool.eq_false_iff.mpr hf]; rfl)
/-- DIGITS -/
structure Dg (K : PySem.W.Frag) (w : World) (mg : Str → Option Value) (dD : Addr) (es : Array DictEntry) (nn : Nat) : Prop where
  g : mg "DIGITS" = some (.ref dD)
  D : KDict K w dD es nn
  look : ∀ z : Str, ∃ r : Option Value, PySem.W.nsIn K dD z = some r ∧ (∀ i, digOf z = some i → ∃ t, r = some (.int i t)) ∧ (digOf z = none → r = none)
section
variable {P : Program} {w : World} {K : PySem.W.Frag} {mg : Str → Option Value} {base : Heap} {dD fSE : Addr} {es : Array DictEntry} {nn : Nat} {dSE : FuncData}
theorem Dg.some {z : Str} {r : Option Value} (h1 : ∀ i, digOf z = some i → ∃ t, r = some (.int i t)) (h2 : digOf z = none → r = none) : r.isSome = (digOf z).isSome := by
  cases h : digOf z with
  | none =>
    rw [h2 h]
    rfl
  | some i =>
    obtain ⟨t, rfl⟩ := h1 i h
    rfl
def spSE : Sp := fun vs H Q _ => ∃ p : Str, vs = [.str p] ∧ p.length ≤ 1000 ∧ ∀ v H', Same H H' → RawAt H' v (rawOf (Txt.split p " ")) → Q v H'
theorem scSE : FnScope ["text", "fields", "name", "inputs", "outputs"] ["text"] (defScope sSE) := ⟨rfl, rfl, rfl, by decide +kernel, rfl, by decide +kernel, by decide +kernel⟩
theorem ok_se {f : Addr} {fd : FuncData} (F : Fun K "split_entry" "split_entry" sSE f fd) (B : B2 mg) (D : Dg K w mg dD es nn) : FnOk P w K mg base CX0 1 f fd ["text"] spSE := by
  refine F.ok scSE (fun vs H Q E h => ?_) (fun cdv A outer s H vs Q E hr h => ?_)
  · obtain ⟨p, rfl, _⟩ := h
    rfl
  · obtain ⟨p, rfl, hp, q⟩ := h
    refine ⟨_, pss_cons (ps_set (i := 1) scSE.nd rfl (.inl rfl) (pe_split (pv 0) pe_str))
      (pss_cons (ps_if (pt_cmpR op_ne (pe_callB call_len_seq (by rfl) B.len PySem.boot_len (pa_cons (pv 1) pa_nil)) pe_int (nomark _)) (pss_one (ps_ret pe_non)) pss_nil)
      (pss_cons (ps_asg (pv 1) (pg_lst rfl (pgs_cons (pg_name (i := 2) scSE.nd rfl (.inl rfl)) (pgs_cons (pg_name (i := 3) scSE.nd rfl (.inl rfl)) (pgs_cons (pg_name (i := 4) scSE.nd rfl (.inl rfl)) pgs_nil)))))
      (pss_cons (ps_if (PW.pt (pw_or (pt_cmpR (op_notIn_kd D.D) (pv 3) (pe_glob (v := .ref dD) rfl D.g rfl) (by rfl)) (pw_or1 (pt_cmpR (op_notIn_kd D.D) (pv 4) (pe_glob (v := .ref dD) rfl D.g rfl) (by rfl))))) (pss_one (ps_ret pe_non)) pss_nil)
      (pss_one (ps_ret (pe_tup (pa_cons (pv 2) (pa_cons (pe_ix ix_kdict (pe_glob (v := .ref dD) rfl D.g rfl) (pv 3) (fun _ _ => rfl)) (pa_cons (pe_ix ix_kdict (pe_glob (v := .ref dD) rfl D.g rfl) (pv 4) (fun _ _ => rfl)) pa_nil))))))))), ?_⟩
    refine ⟨_, rfl, ⟨_, rfl⟩, _, _, rfl, rfl, (by decide +kernel), Nat.le_trans (Nat.add_le_add_right hp 2) (by decide), fun l nl => ?_⟩
    have s1 : Same H (upd H l (.lst ((Txt.split p " ").map V.str))) := same_new (fun _ _ e => e) nl
    have h1 : upd H l (.lst ((Txt.split p " ").map V.str)) l = some (.lst ((Txt.split p " ").map V.str)) := upd_same
    generalize upd H l (.lst ((Txt.split p " ").map V.str)) = H1 at s1 h1 ⊢
    refine ⟨_, rfl, l, _, rfl, .inl (SqL.of h1), rfl, _, rfl, ?_⟩
    rw [List.length_map]
    have q1 := fun v => q v H1 s1
    generalize hs : Txt.split p " " = fs at q q1 h1 ⊢
    by_cases h3 : fs.length = 3
    · have e3 : ¬ ¬ V.int (fs.length : Int) = V.int 3 := fun z => z (by rw [h3]; rfl)
      obtain ⟨n, a, b, rfl⟩ : ∃ n a b, fs = [n, a, b] := by
        match fs, h3 with
        | [n, a, b], _ => exact ⟨n, a, b, rfl⟩
      refine iteNS rfl ?_
      refine ⟨_, rfl, l, _, rfl, SqL.of h1, rfl, _, _, rfl, _, _, rfl, _, _, rfl, rfl, ?_⟩
      obtain ⟨ra, ea, a1, a2⟩ := D.look a
      obtain ⟨rb, eb, b1, b2⟩ := D.look b
      refine ⟨_, rfl, a, ra, rfl, rfl, ea, _, rfl, ?_⟩
      rw [Dg.some a1 a2]
      cases ha : digOf a with
      | none =>
        refine iteT (iteT (q1 .non ?_))
        show RawAt H1 .non ((digOf a).bind fun i => (digOf b).map fun j => (n, i, j))
        rw [ha]
        exact rfl
      | some i =>
        refine iteF ⟨_, rfl, b, rb, rfl, rfl, eb, _, rfl, ?_⟩
        rw [Dg.some b1 b2]
        cases hb : digOf b with
        | none =>
          refine iteT (q1 .non ?_)
          show RawAt H1 .non ((digOf a).bind fun i => (digOf b).map fun j => (n, i, j))
          rw [ha, hb]
          exact rfl
        | some j =>
          obtain ⟨ta, rfl⟩ := a1 i ha
          obtain ⟨tb, rfl⟩ := b1 j hb
          refine iteF ⟨_, rfl, _, rfl, dD, a, .int i, rfl, rfl, ⟨es, nn, _, D.D.at_, D.D.lit, ea, ⟨ta, rfl⟩⟩, _, rfl, dD, b, .int j, rfl, rfl, ⟨es, nn, _, D.D.at_, D.D.lit, eb, ⟨tb, rfl⟩⟩, (by show 3 ≤ sizeLine; decide), fun t nt => ?_⟩
          refine q _ _ (same_new s1 nt) ?_
          show RawAt _ _ ((digOf a).bind fun i => (digOf b).map fun j => (n, i, j))
          rw [ha, hb]
          exact ⟨t, rfl, upd_same⟩
    · have ne : ¬ V.int (fs.length : Int) = V.int 3 := fun z => h3 (by have := V.int.inj z; omega)
      rw [decide_eq_false ne]
      refine iteT (q1 .non ?_)
      have e : rawOf fs = none := by
        match fs, h3 with
        | [], _ => rfl
        | [_], _ => rfl
        | [_, _], _ => rfl
        | [_, _, _], h => exact absurd rfl h
        | _ :: _ :: _ :: _ :: _, _ => rfl
      rw [e]
      exact rfl
end
end SQ1
namespace SQ1
open PySem L2 SQ
abbrev sRd : Stmt := inClass (top 22) 1
section
variable {P : Program} {w : World} {K : PySem.W.Frag} {mg : Str → Option Value} {base : Heap} {dD fSE : Addr} {es : Array DictEntry} {nn : Nat} {dSE : FuncData}
structure S3 (K : PySem.W.Frag) (mg : Str → Option Value) (fSE fSS : Addr) (dSE dSS : FuncData) : Prop where
  gE : mg "split_entry" = some (.ref fSE)
  FE : Fun K "split_entry" "split_entry" sSE fSE dSE
  bE : Binds K dSE ["text"] []
  gS : mg "split_entries" = some (.ref fSS)
  FS : Fun K "split_entries" "split_entries" sSS fSS dSS
  bS : Binds K dSS ["text"] []
def spSS : Sp := fun vs H Q _ => ∃ x : Str, vs = [.str x] ∧ x.length ≤ 1000 ∧ ∀ (l : Addr) (ws : List V) (H' : Hp), Same H H' → H' l = some (.lst ws) → Ents H' ws (ensOf x) → Q (.ref l) H'
theorem scSS : FnScope ["text", "part"] ["text"] (defScope sSS) := ⟨rfl, rfl, rfl, by decide +kernel, rfl, by decide +kernel, by decide +kernel⟩
theorem ents_snoc {H : Hp} {xs : List V} {os : List En} {v : V} {o : En} (h : Ents H xs os) (e : Ent H v o) : Ents H (xs ++ [v]) (os ++ [o]) := Paired.snoc h e
theorem ok_ss {fSS : Addr} {dSS : FuncData} (S : S3 K mg fSE fSS dSE dSS) (B : B2 mg) (D : Dg K w mg dD es nn) : FnOk P w K mg base CX0 2 fSS dSS ["text"] spSS := by
  have GE : FnOk P w K mg base CX0 1 fSE dSE ["text"] spSE := ok_se S.FE B D
  refine S.FS.ok scSS (fun vs H Q E h => ?_) (fun cdv A outer s H vs Q E hr h => ?_)
  · obtain ⟨x, rfl, _⟩ := h
    rfl
  · obtain ⟨x, rfl, hx, q⟩ := h
    refine ⟨_, pss_cons (ps_if (pt_cmpR op_eq (pv 0) pe_str (nomark _)) (pss_one (ps_ret (pe_lst pa_nil))) pss_nil)
      (pss_one (ps_ret (pe_lc (own := [("part", 1)]) (g := gName 1) (tt := tYes) rfl scSS.nd (pi_list (pe_split (pv 0) pe_str)) (blkOk_by (N := ["text", "part"]) (sc := defScope sSS) (by decide +kernel)) (fun _ _ _ _ _ => pg_name (i := 1) scSS.nd rfl (.inl rfl)) (fun _ _ _ _ _ => pts_nil)
        (fun _ _ _ _ _ => pe_call GE hr rfl S.gE S.FE.kp S.bE .nil pass0 (pa_cons (pv 1) pa_nil))))), ?_⟩
    refine ⟨_, rfl, rfl, _, rfl, ?_⟩
    by_cases h0 : x = ""
    · subst h0
      refine iteT ⟨by show 0 ≤ sizeLine; decide, fun l nl => ?_⟩
      exact q l [] _ (same_new (fun _ _ e => e) nl) upd_same .nil
    · have ne : ¬ V.str x = V.str "" := fun z => h0 (V.str.inj z)
      rw [decide_eq_false ne]
      refine iteF ?_
      have hp : ensOf x = (Txt.split x ", ").map entryOf := by
        unfold ensOf partsOf
        rw [if_neg h0]
      rw [hp] at q
      refine ⟨_, rfl, ⟨_, rfl⟩, _, _, rfl, rfl, (by decide +kernel), Nat.le_trans (Nat.add_le_add_right hx 2) (by decide), fun l nl => ?_⟩
      have s1 : Same H (upd H l (.lst ((Txt.split x ", ").map V.str))) := same_new (fun _ _ e => e) nl
      have h1 : upd H l (.lst ((Txt.split x ", ").map V.str)) l = some (.lst ((Txt.split x ", ").map V.str)) := upd_same
      generalize upd H l (.lst ((Txt.split x ", ").map V.str)) = H1 at s1 h1 ⊢
      have hsh : ∀ p ∈ Txt.split x ", ", p.length ≤ 1000 := fun p hp => Nat.le_trans (PyProof.Rows.part_short hp) hx
      have hll : (Txt.split x ", ").length ≤ 1002 := Nat.le_trans (PyProof.Rows.split_le x ", ") (by omega)
      generalize Txt.split x ", " = ps at q h1 hsh hll ⊢
      refine ⟨l, rfl, ⟨_, SqL.of h1⟩, fun Dd hD => ?_⟩
      refine lc_list (K := K) (a := l) (xs := ps.map V.str) (fun i H2 => ∃ ws, H2 Dd = some (.lst ws) ∧ Ents H2 ws ((ps.take i).map entryOf) ∧ Same H1 H2) ⟨[], upd_same, .nil, same_new (fun _ _ e => e) hD⟩ (fun i H2 _ ⟨_, _, _, s2⟩ => SqL.of (s2 _ _ h1)) ?_ ?_
      · rintro i v H2 hi ⟨ws, hD2, en, s2⟩
        rw [List.getElem?_map] at hi
        cases hg : ps[i]? with
        | none =>
          rw [hg] at hi
          cases hi
        | some p =>
          rw [hg] at hi
          cases hi
          have hpl := hsh p (List.mem_of_getElem? hg)
          refine ⟨rfl, keptT ⟨_, rfl, p, rfl, hpl, fun v H3 s3 ra => ?_⟩⟩
          have hD3 := s3 _ _ hD2
          have hl := Paired.length en
          have el := raw_ent hpl ra
          have lb : ws.length ≤ 1002 := by
            rw [hl, List.length_map, List.length_take]
            omega
          refine ⟨ws, hD3, Nat.lt_of_le_of_lt lb (by decide), ws ++ [v], upd_same, ?_, ?_⟩
          · rw [take_more hg, List.map_append]
            have e4 := ents_snoc (en.same s3) el
            refine Paired.mapP e4 fun y o ey => ?_
            refine ey.keep ⟨fun a xs e => ?_, fun a xs e => ?_, fun a kvs e => ?_⟩
            · rw [upd_ne (ne_of e hD3 (by intro z; cases z))]
              exact e
            · by_cases ha : a = Dd
              · subst ha
                exact ⟨_, upd_same⟩
              · exact ⟨xs, by rw [upd_ne ha]; exact e⟩
            · rw [upd_ne (ne_of e hD3 (by intro z; cases z))]
              exact e
          · intro b o e
            rw [upd_ne (ne_of_none e hD)]
            exact s3 _ _ (s2 _ _ e)
      · rintro H2 ⟨ws, hD2, en, s2⟩
        rw [List.length_map, List.take_length] at en
        exact q Dd ws H2 (st s1 s2) hD2 en
end
end SQ1
namespace SQ1
open PySem L2 SQ
def nameOf (p : Str) : Str := (Txt.split p " ").headD ""
def namesOf (x : Str) : List Str := (partsOf x).map nameOf
/-- whether a text is that of a vocabulary -/
def goodText (x : Str) : Bool := decide ((partsOf x).length ≤ 8) && ((partsOf x).all fun p => (entryOf p).isSome) && decide (namesOf x).Nodup && PyProof.Rows.sortedS (namesOf x)
theorem etext_join (n : Str) (i j : Int) : etext n i j = Str.join " " [n, ((toString i : String) : Str), ((toString j : String) : Str)] := by
  apply str_ext
  rw [tl_join]
  unfold etext
  simp only [str_app, List.map_cons, List.map_nil, jn, List.append_assoc]
  rfl
theorem free_letters {n : Str} (h : isFree (.str n) = true) : ∀ c ∈ n.cps.toList, c ∈ letters := by
  have h' : (nameOk n && !decide (n ∈ cores)) = true := h
  rw [Bool.and_eq_true] at h'
  have h2 := h'.1
  unfold nameOk at h2
  rw [Bool.and_eq_true] at h2
  intro c hc
  exact of_decide_eq_true (List.all_eq_true.mp h2.2 c hc)
theorem num_signs {i : Int} (h0 : 0 ≤ i) (h1 : i ≤ 3) : ∀ c ∈ (((toString i : String) : Str)).cps.toList, c ∈ [48, 49, 50, 51] := by
  rcases four h0 h1 with rfl | rfl | rfl | rfl <;> decide +kernel
theorem letters_32 : 32 ∉ letters := by decide
theorem letters_44 : 44 ∉ letters := by decide
/-- the fields of an entry's text -/
theorem split_etext {n : Str} {i j : Int} (hf : isFree (.str n) = true) (i0 : 0 ≤ i) (i3 : i ≤ 3) (j0 : 0 ≤ j) (j3 : j ≤ 3) : Txt.split (etext n i j) " " = [n, ((toString i : String) : Str), ((toString j : String) : Str)] := by
  rw [etext_join]
  refine split_join (c := 32) (S := []) (by decide +kernel) (by decide +kernel) (fun z => nomatch z) ?_
  intro p hp
  simp only [List.mem_cons, List.not_mem_nil, or_false] at hp
  rcases hp with rfl | rfl | rfl
  · exact fun z => letters_32 (free_letters hf 32 z)
  · exact fun z => absurd (num_signs i0 i3 32 z) (by decide)
  · exact fun z => absurd (num_signs j0 j3 32 z) (by decide)
theorem etext_44 {n : Str} {i j : Int} (hf : isFree (.str n) = true) (i0 : 0 ≤ i) (i3 : i ≤ 3) (j0 : 0 ≤ j) (j3 : j ≤ 3) : 44 ∉ (etext n i j).cps.toList := by
  rw [etext_join, tl_join]
  intro z
  have z' : 44 ∈ n.cps.toList ++ ([32] ++ ((((toString i : String) : Str)).cps.toList ++ ([32] ++ (((toString j : String) : Str)).cps.toList))) := z
  simp only [List.mem_append] at z'
  rcases z' with z | z | z | z | z
  · exact letters_44 (free_letters hf 44 z)
  · exact absurd z (by decide)
  · exact absurd (num_signs i0 i3 44 z) (by decide)
  · exact absurd z (by decide)
  · exact absurd (num_signs j0 j3 44 z) (by decide)
/-- an entry and its text -/
theorem entry_ok {p n : Str} {i j : Int} (h : entryOf p = some (n, i, j)) : p = etext n i j ∧ isFree (.str n) = true ∧ (0 ≤ i ∧ i ≤ 3) ∧ (0 ≤ j ∧ j ≤ 3) ∧ nameOf p = n := by
  unfold entryOf at h
  cases hr : rawOf (Txt.split p " ") with
  | none =>
    rw [hr] at h
    cases h
  | some g =>
    obtain ⟨n', i', j'⟩ := g
    rw [hr] at h
    have h' : (if isFree (.str n') = true then some (n', i', j') else none) = some (n, i, j) := h
    by_cases hf : isFree (.str n') = true
    · rw [if_pos hf] at h'
      cases h'
      obtain ⟨hs, hi, hj⟩ := raw_ok hr
      refine ⟨?_, hf, hi, hj, ?_⟩
      · rw [etext_join, ← hs, join_split]
      · unfold nameOf
        rw [hs]
        rfl
    · rw [if_neg hf] at h'
      cases h'
theorem entry_of {n : Str} {i j : Int} (hf : isFree (.str n) = true) (i0 : 0 ≤ i) (i3 : i ≤ 3) (j0 : 0 ≤ j) (j3 : j ≤ 3) : entryOf (etext n i j) = some (n, i, j) := by
  unfold entryOf
  rw [split_etext hf i0 i3 j0 j3]
  show goodRaw ((digOf _).bind fun i => (digOf _).map fun j => (n, i, j)) = _
  rw [ar_dig i0 i3, ar_dig j0 j3]
  show (if isFree (.str n) = true then some (n, i, j) else none) = _
  rw [if_pos hf]
/-! ### parts and entries -/
theorem parts_some : ∀ {ps : List Str}, (ps.all fun p => (entryOf p).isSome) = true → ∃ gs : List G3, ps.map entryOf = gs.map some ∧ gnames gs = ps.map nameOf ∧ ps = gs.map fun g => etext g.1 g.2.1 g.2.2
  | [], _ => ⟨[], rfl, rfl, rfl⟩
  | p :: ps, h => by
    rw [List.all_cons, Bool.and_eq_true] at h
    obtain ⟨gs, e1, e2, e3⟩ := parts_some h.2
    obtain ⟨⟨n, i, j⟩, e⟩ := Option.isSome_iff_exists.mp h.1
    obtain ⟨k1, _, _, _, k5⟩ := entry_ok e
    refine ⟨(n, i, j) :: gs, ?_, ?_, ?_⟩
    · rw [List.map_cons, e, e1]
      rfl
    · show n :: gnames gs = nameOf p :: ps.map nameOf
      rw [k5, e2]
    · show p :: ps = etext n i j :: _
      rw [← k1, ← e3]
theorem some_parts : ∀ {ps : List Str} {gs : List G3}, ps.map entryOf = gs.map some → (ps.all fun p => (entryOf p).isSome) = true
  | [], _, _ => rfl
  | p :: ps, [], h => nomatch h
  | p :: ps, g :: gs, h => by
    rw [List.map_cons, List.map_cons, List.cons.injEq] at h
    rw [List.all_cons, h.1, some_parts h.2]
    rfl
theorem bad_none : ∀ (gs : List G3) (seen : List Str) (i : Nat), (gnames gs).Nodup → (∀ n ∈ gnames gs, n ∉ seen) → firstBad seen i (gs.map some) = none
  | [], _, _, _, _ => rfl
  | (n, a, b) :: gs, seen, i, nd, h => by
    obtain ⟨n1, n2⟩ := List.nodup_cons.mp nd
    show (if n ∈ seen then some i else firstBad (n :: seen) (i + 1) (gs.map some)) = none
    rw [if_neg (h n List.mem_cons_self)]
    refine bad_none gs (n :: seen) (i + 1) n2 fun m hm => ?_
    intro z
    rcases List.mem_cons.mp z with e | e
    · exact n1 (e ▸ hm)
    · exact h m (List.mem_cons_of_mem _ hm) e
theorem none_verdict {gs : List G3} (nd : (gnames gs).Nodup) (h8 : gs.length ≤ 8) : verdict (gs.map some) = none := by
  unfold verdict
  rw [if_neg (by rw [List.length_map]; omega), bad_none gs [] 0 nd (fun n _ z => nomatch z)]
  rfl
theorem ar_self : ∀ {gs : List G3}, (gnames gs).Nodup → ∀ g ∈ gs, arOf gs g.1 = g.2
  | [], _, g, h => nomatch h
  | g0 :: gs, nd, g, h => by
    obtain ⟨n1, n2⟩ := List.nodup_cons.mp nd
    unfold arOf
    rcases List.mem_cons.mp h with rfl | h
    · rw [List.find?_cons_of_pos (by simp)]
      rfl
    · have ne : ¬ g0.1 = g.1 := fun z => n1 (List.mem_map.mpr ⟨g, h, z.symm⟩)
      rw [List.find?_cons_of_neg (by simpa using ne)]
      exact ar_self n2 g h
theorem text_self {gs : List G3} (nd : (gnames gs).Nodup) : vtext gs (gnames gs) = Str.join ", " (gs.map fun g => etext g.1 g.2.1 g.2.2) := by
  show Builtin.Str.glued ", " _ = _
  rw [StrLaws.glued_eq_join]
  congr 1
  unfold gnames
  rw [List.map_map]
  refine List.map_congr_left fun g hg => ?_
  show etext g.1 (arOf gs g.1).1 (arOf gs g.1).2 = _
  rw [ar_self nd g hg]
theorem read_good {x : Str} (h : goodText x = true) : ∃ gs : List G3, ensOf x = gs.map some ∧ verdict (gs.map some) = none ∧ ∀ ys : List Str, ys.Perm (gnames gs) → PyProof.Rows.sortedS ys = true → vtext gs ys = x := by
  unfold goodText at h
  rw [Bool.and_eq_true, Bool.and_eq_true, Bool.and_eq_true] at h
  obtain ⟨⟨⟨h8, ha⟩, hn⟩, hs⟩ := h
  obtain ⟨gs, e1, e2, e3⟩ := parts_some ha
  have nd : (gnames gs).Nodup := by
    rw [e2]
    exact of_decide_eq_true hn
  have hl : gs.length ≤ 8 := by
    have := of_decide_eq_true h8
    rw [e3, List.length_map] at this
    exact this
  refine ⟨gs, e1, none_verdict nd hl, fun ys hp hy => ?_⟩
  have e : ys = gnames gs := sorted_one hy (by rw [e2]; exact hs) hp
  rw [e, text_self nd, ← e3]
  by_cases h0 : x = ""
  · unfold partsOf
    rw [if_pos h0, h0]
    rfl
  · unfold partsOf
    rw [if_neg h0, join_split]
theorem read_bad {x : Str} (h : goodText x = false) {gs : List G3} (eg : ensOf x = gs.map some) (hv : verdict (gs.map some) = none) {ys : List Str} (hp : ys.Perm (gnames gs)) (hy : PyProof.Rows.sortedS ys = true) : vtext gs ys ≠ x := by
  intro ex
  have ha : ((partsOf x).all fun p => (entryOf p).isSome) = true := some_parts eg
  obtain ⟨gs', e1, e2, e3⟩ := parts_some ha
  have eg' : gs' = gs := by
    have z : gs'.map some = gs.map some := e1.symm.trans eg
    exact List.map_inj_right (fun a b hab => Option.some.inj hab) |>.mp z
  subst eg'
  obtain ⟨gs2, z2, nd, h8⟩ := verdict_none hv
  have eg2 : gs' = gs2 := List.map_inj_right (fun a b hab => Option.some.inj hab) |>.mp z2
  subst eg2
  have hl : (partsOf x).length ≤ 8 := by
    rw [e3, List.length_map]
    exact h8
  have good : ∀ g ∈ gs', isFree (.str g.1) = true ∧ (0 ≤ g.2.1 ∧ g.2.1 ≤ 3) ∧ 0 ≤ g.2.2 ∧ g.2.2 ≤ 3 := by
    intro g hg
    have hm : some g ∈ (partsOf x).map entryOf := by
      have e1' : (partsOf x).map entryOf = gs'.map some := e1
      rw [e1']
      exact List.mem_map.mpr ⟨g, hg, rfl⟩
    obtain ⟨p, _, hpe⟩ := List.mem_map.mp hm
    obtain ⟨_, k2, k3, k4, _⟩ := entry_ok hpe
    exact ⟨k2, k3, k4⟩
  have hsorted : PyProof.Rows.sortedS (gnames gs') = true := by
    by_cases h0 : x = ""
    · have ep : partsOf x = [] := by
        unfold partsOf
        rw [if_pos h0]
      rw [e2, ep]
      rfl
    · have gy : ∀ n ∈ ys, isFree (.str n) = true ∧ (0 ≤ (arOf gs' n).1 ∧ (arOf gs' n).1 ≤ 3) ∧ 0 ≤ (arOf gs' n).2 ∧ (arOf gs' n).2 ≤ 3 := by
        intro n hn
        obtain ⟨g, hg, e, ea⟩ := ar_mem (hp.mem_iff.mp hn)
        rw [ea, ← e]
        exact good g hg
      have ep : partsOf x = Txt.split x ", " := by
        unfold partsOf
        rw [if_neg h0]
      have ne : ys ≠ [] := by
        intro z
        rw [z] at ex
        exact h0 (by rw [← ex]; rfl)
      have ex' : Str.join ", " (ys.map fun n => etext n (arOf gs' n).1 (arOf gs' n).2) = x := by
        rw [← ex]
        show _ = Builtin.Str.glued ", " _
        rw [StrLaws.glued_eq_join]
      have sp : Txt.split x ", " = ys.map fun n => etext n (arOf gs' n).1 (arOf gs' n).2 := by
        rw [← ex']
        refine split_join (c := 44) (S := [32]) (by decide +kernel) (by decide +kernel) (fun z => ne (List.map_eq_nil_iff.mp z)) ?_
        intro p hp
        obtain ⟨n, hn, rfl⟩ := List.mem_map.mp hp
        obtain ⟨k1, ⟨k2, k3⟩, k4, k5⟩ := gy n hn
        exact etext_44 k1 k2 k3 k4 k5
      have en : gnames gs' = ys := by
        rw [e2, ep, sp, List.map_map]
        have z : ∀ n ∈ ys, (nameOf ∘ fun n => etext n (arOf gs' n).1 (arOf gs' n).2) n = n := by
          intro n hn
          obtain ⟨k1, ⟨k2, k3⟩, k4, k5⟩ := gy n hn
          show nameOf (etext n _ _) = n
          unfold nameOf
          rw [split_etext k1 k2 k3 k4 k5]
          rfl
        rw [List.map_congr_left z, List.map_id']
      rw [en]
      exact hy
  unfold goodText at h
  have nd' : (namesOf x).Nodup := by
    show ((partsOf x).map nameOf).Nodup
    rw [← e2]
    exact nd
  have hs' : PyProof.Rows.sortedS (namesOf x) = true := by
    show PyProof.Rows.sortedS ((partsOf x).map nameOf) = true
    rw [← e2]
    exact hsorted
  rw [decide_eq_true hl, ha, decide_eq_true nd', hs'] at h
  cases h
end SQ1
namespace SQ1
open PySem L2 SQ
/-- InvalidText as the top has made it -/
structure TC (K : PySem.W.Frag) (mg : Str → Option Value) (CT fJ : Addr) : Prop where
  g : mg "InvalidText" = some (.ref CT)
  T : ErrC K CT "value" [.type "ValueError", .type "Exception", .type "BaseException", .type "object"] "ValueError.__new__"
  J : ErrI K CT fJ "value"
  ty : PySem.W.typeIn K (.ref CT) = some (.type "type")
def spRd (K : PySem.W.Frag) (C CT : Addr) : Sp := fun vs H Q E => ∃ v : V, vs = [v] ∧ ((∃ t, TyX K H v t ∧ PySem.W.kitOne K t (.type "str") = some false ∧ ∀ d H', Same H H' → H' d = some (.xd [("value", v)]) → E (.ref CT) (some d) H') ∨
  (∃ x : Str, v = .str x ∧ x.length ≤ 1000 ∧ (goodText x = true → ∀ (o : Addr) (H' : Hp) (gs : List G3) (ys : List Str), Same H H' → ensOf x = gs.map some → ys.Perm (gnames gs) → PyProof.Rows.sortedS ys = true → Vc C H' o gs ys → Q (.ref o) H') ∧ (goodText x = false → ∀ d H', Same H H' → H' d = some (.xd [("value", v)]) → E (.ref CT) (some d) H')))
theorem new_ins {C x dx : Addr} {H : Hp} (nx : H x = none) (ndx : H dx = none) (ne : dx ≠ x) : Same H (upd (upd H dx (.own x)) x (.ins C dx [])) := same_new (same_new (fun _ _ e => e) ndx) (by rw [upd_ne (Ne.symm ne)]; exact nx)
/-- Vocabulary(..), refused or not -/
theorem init_any {C CE : Addr} {H2 : Hp} {vs : List V} {os : List En} {E : XK} {R : Hp → Prop} {x dx : Addr} (nx : H2 x = none) (ndx : H2 dx = none) (ne : dx ≠ x) (hes : Ents H2 vs os) (hl : vs.length ≤ 2000)
    (kE : ∀ idx, verdict os = some idx → ∀ d H', Same H2 H' → H' d = some (.xd [("index", idx)]) → E (.ref CE) (some d) H')
    (kQ : verdict os = none → ∀ gs : List G3, os = gs.map some → ∀ (H' : Hp) (ys : List Str), ys.Perm (gnames gs) → PyProof.Rows.sortedS ys = true → Same H2 H' → Vc C H' x gs ys → R H') :
    spInit C CE (V.ref x :: vs) (upd (upd H2 dx (.own x)) x (.ins C dx [])) (fun v H' => v = .non ∧ R H') E := by
  have s1 : Same H2 (upd (upd H2 dx (.own x)) x (.ins C dx [])) := new_ins nx ndx ne
  refine ⟨[.ref x], vs, rfl, rfl, Nat.le_trans hl (by decide), fun p hp => ?_⟩
  have s2 : Same (upd (upd H2 dx (.own x)) x (.ins C dx [])) (upd (upd (upd H2 dx (.own x)) x (.ins C dx [])) p (.tup vs)) := same_new (fun _ _ e => e) hp
  refine ⟨x, dx, p, vs, os, rfl, s2 _ _ upd_same, upd_same, hes.same (st s1 s2), hl, fun idx h' d H' s' hd => kE idx h' d H' (st s1 (st s2 s')) hd, fun hv gs eg H' ys hp' hs' bt hx => ?_⟩
  exact ⟨rfl, kQ hv gs eg H' ys hp' hs' (fun b o e => bt b o (s2 _ _ (s1 _ _ e)) (ne_of_none e nx)) hx⟩
section
variable {P : Program} {w : World} {K : PySem.W.Frag} {mg : Str → Option Value} {base : Heap} {dD fSE fSS C CE CT fI fJ fIn : Addr} {es : Array DictEntry} {nn : Nat} {dSE dSS : FuncData}
theorem scRd : FnScope ["text", "entries", "vocabulary"] ["text"] (defScope sRd) := ⟨rfl, rfl, rfl, by decide +kernel, rfl, by decide +kernel, by decide +kernel⟩
theorem ok_rd {f : Addr} {fd : FuncData} (F : Fun K "read" "Vocabulary.read" sRd f fd) (S : S3 K mg fSE fSS dSE dSS) (B : B2 mg) (D : Dg K w mg dD es nn) (Z : EC K mg CE fI) (ex : PySem.W.exmOne K (.ref CE) (.ref CE) = some true) (ZT : TC K mg CT fJ) (VV : VC K mg C) (MK : Mk K C fIn)
    (GI : FnR P w K mg base (L2N.CX P w) 5 fIn (spInit C CE)) : FnOk P w K mg base (L2.CX P w) 7 f fd ["text"] (spRd K C CT) := by
  have GS : FnOk P w K mg base CX0 2 fSS dSS ["text"] spSS := ok_ss S B D
  refine F.okX scRd (fun vs H Q E h => ?_) (fun cdv A outer s H vs Q E hr h => ?_)
  · obtain ⟨v, rfl, _⟩ := h
    rfl
  · obtain ⟨v, rfl, h⟩ := h
    have hdp := dp_of hr
    refine ⟨_, pss_cons (ps_if (pt_not (pt_val (pe_callB call_isi (by rfl) B.isi (by decide +kernel) (pa_cons (pv 0) (pa_cons (pe_bltn (v := .ty "str") (by rfl) B.str (by decide +kernel) rfl) pa_nil)))))
        (pss_one (ps_raise rfl (takes_of rfl rfl rfl rfl) (pmk_of5 (pmk5_err (.inl rfl) bValue ZT.T ZT.J ZT.ty ZT.g (dp_of hr) rfl (pv 0))))) pss_nil)
      (pss_cons (ps_set (i := 1) scRd.nd rfl (.inl rfl) (pe_call GS (hr.mono (by decide)) rfl S.gS S.FS.kp S.bS .nil pass0 (pa_cons (pv 0) pa_nil)))
      (pss_cons (L2H.ps_try_onlyX (c := .ref CE) rfl rfl ⟨rfl, by decide, .inl Z.g⟩ (fun hd => PassesOwnAt.leaving) (takes_of rfl rfl rfl rfl)
          (by intro W pn xe tkN tkP po; exact pss_one (ps_set (i := 2) scRd.nd rfl (.inl rfl) (pe_makeST K rfl MK GI hr rfl VV.g (fun σ => L2N.passAt tkN σ) (pv 1))))
          (by intro a oe cls d pn hz hf tk hot; exact pss_one (L2H.ps_raiseHN hot tk (pmk5_err (.inl rfl) bValue ZT.T ZT.J ZT.ty ZT.g hdp rfl (pv 0)))))
      (pss_cons (ps_if (pt_cmpR op_ne (pe_fld (pv 2) rfl) (pv 0) (nomark _)) (pss_one (ps_raise rfl (takes_of rfl rfl rfl rfl) (pmk_of5 (pmk5_err (.inl rfl) bValue ZT.T ZT.J ZT.ty ZT.g (dp_of hr) rfl (pv 0))))) pss_nil)
      (pss_one (ps_ret (pv 2)))))), ?_⟩
    rcases h with ⟨t, ty, ki, kE⟩ | ⟨x, rfl, hx, kG, kB⟩
    · refine ⟨_, rfl, v, .ty "str", t, .type "str", false, rfl, .ty "str", ty, ki, _, rfl, iteT ⟨_, rfl, fun d nd => ?_⟩⟩
      exact kE d _ (same_new (fun _ _ e => e) nd) upd_same
    · refine ⟨_, rfl, .str x, .ty "str", .type "str", .type "str", true, rfl, .ty "str", .base (.str x), kit_ty (by decide +kernel), _, rfl, iteF ?_⟩
      refine ⟨_, rfl, x, rfl, hx, fun l ws H1 s1 hl en => ?_⟩
      have hlen : ws.length ≤ 2000 := by
        have := Paired.length en
        unfold ensOf partsOf at this
        rw [this, List.length_map]
        split
        · exact Nat.zero_le _
        · exact Nat.le_trans (PyProof.Rows.split_le x ", ") (by omega)
      refine ⟨_, rfl, l, ws, rfl, .inr (SqL.of hl), fun o dx no ndx ne => init_any no ndx ne en hlen ?_ ?_⟩
      · intro idx hv d H' s' hd
        refine ⟨true, ex, fun _ a ha => ⟨_, rfl, fun d2 nd2 => ?_⟩, fun z => nomatch z⟩
        refine kB ?_ d2 _ (same_new (st s1 s') nd2) upd_same
        cases hg : goodText x with
        | false => rfl
        | true =>
          obtain ⟨gs, e1, e2, _⟩ := read_good hg
          rw [e1, e2] at hv
          cases hv
      · intro hv gs eg H' ys hp hs s' hV
        have hV' := hV
        obtain ⟨dx', dA, tN, kvs, ho, _⟩ := hV'
        rw [eg] at hv
        refine ⟨_, rfl, o, C, dx', _, _, rfl, ho, VV.cl, VV.nT, rfl, _, rfl, rfl, _, rfl, ?_⟩
        by_cases he : vtext gs ys = x
        · have hg : goodText x = true := by
            cases hg : goodText x with
            | true => rfl
            | false => exact absurd he (read_bad hg eg hv hp hs)
          refine iteNS (by rw [he]) ⟨_, rfl, ?_⟩
          exact kG hg o H' gs ys (st s1 s') eg hp hs hV
        · have hg : goodText x = false := by
            cases hg : goodText x with
            | false => rfl
            | true =>
              obtain ⟨gs2, e1, _, e3⟩ := read_good hg
              have z : gs2 = gs := List.map_inj_right (fun a b hab => Option.some.inj hab) |>.mp (e1.symm.trans eg)
              subst z
              exact absurd (e3 ys hp hs) he
          have nv : ¬ V.str (vtext gs ys) = V.str x := fun z => he (V.str.inj z)
          rw [decide_eq_false nv]
          refine iteT ⟨_, rfl, fun d nd => ?_⟩
          exact kB hg d _ (same_new (st s1 s') nd) upd_same
end
end SQ1
/-! != of instances whose class has its own == and no !=. -/
namespace SQ
open PySem PySem.Spec PyProof.Rows L2
open PySem.W (InstAt findIn isFn subIn)
theorem slot_one : Slot "object" "__ne__" "object.__ne__" :=
  .of (owner := "object") (n := "__ne__") (by rw [typeLookup_type, builtinLookup_eq_fast]; kernel_rfl) (by decide +kernel) (by decide +kernel) (by decide +kernel)
    (.inl (by decide +kernel)) (by rw [isSubtype_type]; kernel_rfl)
section
variable {prog : Program} {w : World} {A : Around} {E : Value → Shared → Prop} {s : Shared} {K : PySem.W.Frag} {x y C f : Addr} {ox oy : Obj} {od oe : Option Obj}
theorem ifBound_ne {M : Model} {b : Value} {Q : Option Value → Shared → Prop} (X : K.In s.heap) (I : InstAt s.heap x ox C od) (hs : findIn K (.ref C) "__ne__" = some (some (.builtin "object.__ne__")))
    (h : wpAny M A (call (.builtin "object.__ne__") [.ref x, b]) (fun v => Q (some v)) E s) : wpAny M A (callSpecialIfBound? (.ref x) "__ne__" [b]) Q E s := by
  simp only [callSpecialIfBound?, bindSpecialIfBound?]
  refine wpAny_holding (wpAny_bind (wpAny_bind (wpAny_bind (I.type.here ((PySem.W.looks_findIn X hs).here ?_)))))
  refine wpAny_bind (wpAny_askSetting (wpAny_ite ?_))
  have fin : wpAny M A (call (.builtin "object.__ne__") ([.ref x] ++ [b]) >>= fun v => pure (some v)) Q E s := wpAny_bind (wpAny_mono h (fun v s' z => wpAny_pure z) fun _ _ z => z)
  have bd : bindSpecial (.builtin "object.__ne__") (.ref x) = pure (.builtin "object.__ne__", [.ref x]) := slot_one.bind (.ref x)
  rw [bd]
  split
  · exact wpAny_bind (wpAny_pure (wpAny_pure (by exact fin)))
  · exact wpAny_tryCatch (wpAny_bind (wpAny_pure (wpAny_pure (by exact fin))))
theorem chk_ne {M : Model} {b : Value} {Q : Unit → Shared → Prop} (X : K.In s.heap) (I : InstAt s.heap x ox C od) (ho : subIn K (.ref C) (.type "object") = some true) (h : Q () s) :
    wpAny M A (checkBuiltinCall "object.__ne__" ⟨[.ref x, b], []⟩) Q E s := by
  have ha := PySem.F.cmpArgs_ne (.ref x) b
  simp only [checkBuiltinCall, PySem.F.cmpKind_ne, PySem.F.cmpSplit_ne]
  refine wpAny_bind ?_
  unfold isInstance
  refine wpAny_bind (I.type.here ((PySem.W.looks_subIn X ho).here ?_))
  simp only [Bool.not_true, Bool.false_eq_true, if_false]
  cases hsig : Manifest.signature? "object.__ne__" with
  | none => exact wpAny_pure h
  | some sig =>
    simp only [argsOk, hsig] at ha
    show wpAny M A (Bind.checkArgs "object.__ne__" sig ⟨[.ref x, b], []⟩) Q E _
    have h2 : Bind.checkArgs "object.__ne__" sig ⟨[.ref x, b], []⟩ = pure () := ha
    rw [h2]
    exact wpAny_pure h
def NeBack (Q : Value → Shared → Prop) (v : Value) (s' : Shared) : Prop := ∃ b, v = .bool b ∧ Q (.bool (!b)) s'
theorem call_ne {Q : Value → Shared → Prop} (X : K.In s.heap) (I : InstAt s.heap x ox C od) (hu : A.in1.units < cLine) (ho : subIn K (.ref C) (.type "object") = some true) (he : findIn K (.ref C) "__eq__" = some (some (.ref f))) (hf : isFn K (.ref f) = true)
    (h : wpAny (model prog w) A.in1 (call (.ref f) [.ref x, .ref y]) (NeBack Q) E s) : wpAny (model prog w) A (call (.builtin "object.__ne__") [.ref x, .ref y]) Q E s := by
  refine wpAny_call (codeAny_call_builtin slot_one.plain PySem.F.cmpEntry_ne (chk_ne X I ho ?_))
  unfold Builtin.«object.__ne__»
  refine wpAny_bind (m := slotArgs "__ne__" 1 _) (wpAny_pure ?_)
  refine wpAny_bind (wpAny_cRoomFor hu ?_)
  refine wpAny_bind (PySem.W.ifBound_K X I he hf (wpAny_mono h (fun v s' z => ?_) fun _ _ z => z))
  obtain ⟨b, rfl, q⟩ := z
  refine wpAny_bind (wpAny_truthy_bool ?_)
  exact wpAny_pure q
theorem rc_ne {Q : Value → Shared → Prop} (X : K.In s.heap) (I : InstAt s.heap x ox C od) (J : InstAt s.heap y oy C oe) (hu0 : A.units < cLine) (hu : A.in1.units < cLine) (ho : subIn K (.ref C) (.type "object") = some true)
    (hs : findIn K (.ref C) "__ne__" = some (some (.builtin "object.__ne__"))) (he : findIn K (.ref C) "__eq__" = some (some (.ref f))) (hf : isFn K (.ref f) = true)
    (h : wpAny (model prog w) A.in1 (call (.ref f) [.ref x, .ref y]) (NeBack Q) E s) : wpAny (model prog w) A (richCompare .NotEq (.ref x) (.ref y)) Q E s := by
  have one : wpAny (model prog w) A (tryCompare (.ref x) "__ne__" (.ref y)) (fun r s' => ∃ b, r = some (.bool b) ∧ Q (.bool b) s') E s := by
    unfold tryCompare
    have g := call_ne (prog := prog) (w := w) (A := A) (E := E) (Q := fun v s' => ∃ b, v = .bool b ∧ Q v s') X I hu ho he hf (wpAny_mono h (fun v s' z => by
      obtain ⟨b, rfl, q⟩ := z
      exact ⟨b, rfl, _, rfl, q⟩) fun _ _ z => z)
    refine wpAny_bind (ifBound_ne X I hs (wpAny_mono g (fun v s' z => ?_) fun _ _ z => z))
    obtain ⟨b, rfl, q⟩ := z
    exact wpAny_pure ⟨b, rfl, q⟩
  unfold richCompare
  simp only [oneThing_ref]
  refine wpAny_holding (wpAny_bind (wpAny_cRoomFor hu0 ?_))
  refine wpAny_bind (I.type.here (wpAny_bind (J.type.here ?_)))
  rw [show (Value.ref C != Value.ref C) = false from by simp]
  simp only [Bool.false_eq_true, if_false]
  refine wpAny_bind (wpAny_pure ?_)
  simp only [Bool.false_eq_true, if_false]
  refine wpAny_bind (wpAny_mono one (fun r s' z => ?_) fun _ _ z => z)
  obtain ⟨b, rfl, q⟩ := z
  exact wpAny_pure q
end
/-- how the class at C compares -/
structure CmpC (K : PySem.W.Frag) (C f : Addr) : Prop where
  ob : subIn K (.ref C) (.type "object") = some true
  ne : findIn K (.ref C) "__ne__" = some (some (.builtin "object.__ne__"))
  eq : findIn K (.ref C) "__eq__" = some (some (.ref f))
  fn : isFn K (.ref f) = true
theorem op_neOwn {X : Cx} {k : Nat} {f C : Addr} {sp : Sp} (F : FnR X.prog X.w X.K X.mg X.base CX0 k f sp) (hr : Room (k + 2) X.A) (T : CmpC X.K C f) :
    OpR X (compareOp .NotEq) (fun x y H Q => ∃ (a b dx dy : Addr) (fs gs : List (Str × V)), x = .ref a ∧ y = .ref b ∧ H a = some (.ins C dx fs) ∧ H b = some (.ins C dy gs) ∧ sp [.ref a, .ref b] H (fun v H' => ∃ r, v = .bl r ∧ Q (.bl (!r)) H') E0) := by
  intro pins s σ H x y v u Q I rx ry h
  obtain ⟨a, b, dx, dy, fs, gs, rfl, rfl, ha, hb, q⟩ := h
  obtain rfl : v = Value.ref a := rx
  obtain rfl : u = Value.ref b := ry
  obtain ⟨mA, O, _⟩ := ins_get I.hok ha
  obtain ⟨od, J, _⟩ := O.look
  obtain ⟨mB, O2, _⟩ := ins_get I.hok hb
  obtain ⟨oe, J2, _⟩ := O2.look
  have hr1 : Room (k + 1) X.A.in1 := Room.in1 hr
  refine rc_ne I.kIn J J2 hr.units0 hr1.units0 T.ob T.ne T.eq T.fn (wpAny_call (codeAny_mono (F X.A.in1 X.stack s H [.ref a, .ref b] [.ref a, .ref b] _ _ (hr1.mono (by omega)) I.env0.in1 (.cons rfl (.cons rfl .nil)) q) fun r s' hq => ?_))
  rcases r with er | (_ | _ | _ | z)
  · exact (show False from hq).elim
  · exact False.elim hq
  · exact False.elim hq
  · exact False.elim hq
  · obtain ⟨v, H', I', rv, r, rfl, q'⟩ := I.after hq
    obtain rfl : z = Value.bool r := rv
    exact ⟨r, rfl, .bl (!r), H', I', rfl, q'⟩
end SQ
/-! repr of an instance with its own __repr__, and of a list that holds one. -/
namespace SQ
open PySem PySem.Spec PyProof.Rows L2
open PySem.W (InstAt findIn isFn subIn)
open Builtin Builtin.List
section
variable {prog : Program} {w : World} {A : Around} {E : Value → Shared → Prop} {R : Result → Shared → Prop} {s : Shared} {K : PySem.W.Frag} {x C f : Addr} {ox : Obj} {od : Option Obj}
def SBack (Q : Str → Shared → Prop) (v : Value) (s' : Shared) : Prop := ∃ z t, v = .str z t ∧ Q z s'
theorem repr_own {Q : Str → Shared → Prop} {b : Nat} (hb : b ≤ sizeLine) (hu : A.units < cLine) (X : K.In s.heap) (I : InstAt s.heap x ox C od) (hs : findIn K (.ref C) "__repr__" = some (some (.ref f))) (hf : isFn K (.ref f) = true)
    (h : wpAny (model prog w) A (call (.ref f) [.ref x]) (SBack Q) E s) : wpAny (model prog w) A (pyReprUnder b (.ref x)) Q E s := by
  unfold pyReprUnder
  rw [if_neg (by omega)]
  refine wpAny_bind (m := pyReprObjUnder b (.ref x)) ?_
  unfold pyReprObjUnder pyReprObjBy
  refine wpAny_bind (wpAny_cRoomFor hu ?_)
  refine wpAny_bind (m := specialOf (.ref x) "__repr__") (wpAny_bind (I.type.here ((PySem.W.looks_findIn X hs).here ?_)))
  simp only [Option.isNone_some, Bool.false_eq_true, if_false]
  refine wpAny_bind (m := callSpecialIfBoundBy? _ (.ref x) "__repr__") ?_
  simp only [callSpecialIfBoundBy?, bindSpecialIfBound?]
  refine wpAny_holding (wpAny_bind (wpAny_bind (wpAny_bind (I.type.here ((PySem.W.looks_findIn X hs).here ?_)))))
  refine wpAny_bind (wpAny_askSetting (wpAny_ite ?_))
  have fin : wpAny (model prog w) A (call (.ref f) [.ref x] >>= fun v => pure (some v)) (fun a s' => wpAny (model prog w) A (match a with
        | some r => do
          let __do_lift ← isInstance r (Value.type "str")
          if __do_lift = true then pure r
            else do
              let __do_lift ← typeNameOf r
              raiseErrorMade "TypeError" (toString "__repr__ returned non-string (type " ++ toString __do_lift ++ toString ")")
        | none => unsupported "repr:special-get-raises") (fun r s2 => ∃ z t, r = .str z t ∧ Q z s2) E s') E s := by
    refine wpAny_bind (wpAny_mono h (fun v s' z => wpAny_pure ?_) fun _ _ z => z)
    obtain ⟨y, t, rfl, q⟩ := z
    refine wpAny_bind (wpAny_isInstance (T := "str") (b := true) (typeIs_str _ _ _) isSubtype_str_str ?_)
    exact wpAny_pure ⟨y, t, rfl, q⟩
  split
  · refine wpAny_bind ((PySem.W.bind_fn X _ (beq_iff_eq.mp hf)).here (wpAny_pure ?_))
    refine wpAny_mono fin (fun a s' z => wpAny_mono z (fun r s2 y => ?_) fun _ _ y => y) fun _ _ y => y
    obtain ⟨y, t, rfl, q⟩ := y
    exact wpAny_pure q
  · refine wpAny_tryCatch (wpAny_bind ((PySem.W.bind_fn X _ (beq_iff_eq.mp hf)).here (wpAny_pure ?_)))
    refine wpAny_mono fin (fun a s' z => wpAny_mono z (fun r s2 y => ?_) fun _ _ y => y) fun _ _ y => y
    obtain ⟨y, t, rfl, q⟩ := y
    exact wpAny_pure q
/-- one turn of the list's repr -/
theorem repr_turn {a P : Addr} {items : Array Value} {i sg : Nat} {oa : Obj} {na : Nat} {x : Value} (ha : s.heap.get? a = some oa) (hda : oa.data = .seq items na) (hx : items[i]? = some x)
    (h : wpAny (model prog w) (A.under (.builtin "list.__repr__.loop" ⟨[.ref a, rawInt i, .ref P, rawInt sg], []⟩)) (pyReprUnder (sg + 1) x) (fun t s' => t.length ≤ sizeLine ∧ ∃ (acc : List Value) (c : Nat), s'.heap.get? P = some { cls := .type "list", data := .seq acc.toArray c } ∧ acc.length ≤ sizeLine ∧
      codeAny (model prog w) A (.builtin "list.__repr__.loop" ⟨[.ref a, rawInt ((i + 1 : Nat) : Int), .ref P, rawInt ((sg + (t.length + 2) : Nat) : Int)], []⟩) R { s' with heap := s'.heap.update P (Obj.mapSeq (·.push (.str t s'.toks))), toks := s'.toks + 1 }) (fun e s' => R (.error e) s') s) :
    codeAny (model prog w) A (.builtin "list.__repr__.loop" ⟨[.ref a, rawInt i, .ref P, rawInt sg], []⟩) R s := by
  refine codeAny_builtin F.entry_list_repr_loop ?_
  show wpAny _ _ («list.__repr__.loop» ⟨[.ref a, .int i 0, .ref P, .int sg 0], []⟩) _ _ s
  rw [repr_loop_tree]
  refine wpAny_bind (wpAny_listItems ha hda ?_)
  have hsome : items[(i : Int).toNat]? = some x := by simpa using hx
  simp only [hsome]
  rw [Int.toNat_natCast]
  refine wpAny_bind (wpAny_holding (wpAny_mono h (fun t s' z => ?_) fun _ _ z => z))
  obtain ⟨hz, acc, c, hP, hl, hc⟩ := z
  refine wpAny_bind (wpAny_mkStr ?_ hz)
  refine wpAny_bind ?_
  show wpAny _ _ (updateSeq P _) _ _ _
  refine wpAny_updateSeq hP rfl (wpAny_pure ⟨F.quiet_list_repr_loop _, ?_⟩) (by rw [List.size_toArray]; exact hl)
  have e1 : ((i : Int) + 1) = ((i + 1 : Nat) : Int) := by omega
  rw [e1]
  exact hc
theorem repr_stop {a P : Addr} {items : Array Value} {i sg : Nat} {oa op : Obj} {na np : Nat} {done : List (Str × Tok)} (ha : s.heap.get? a = some oa) (hda : oa.data = .seq items na) (hx : items[i]? = none) (hp : s.heap.get? P = some op) (hdp : op.data = .seq (strValues done).toArray np)
    (hz : (listText (done.map (·.1))).length ≤ sizeLine) (h : R (.ok (.ret (.str (listText (done.map (·.1))) s.toks))) { s with toks := s.toks + 1 }) :
    codeAny (model prog w) A (.builtin "list.__repr__.loop" ⟨[.ref a, rawInt i, .ref P, rawInt sg], []⟩) R s := by
  refine codeAny_builtin F.entry_list_repr_loop ?_
  show wpAny _ _ («list.__repr__.loop» ⟨[.ref a, .int i 0, .ref P, .int sg 0], []⟩) _ _ s
  rw [repr_loop_tree]
  refine wpAny_bind (wpAny_listItems ha hda ?_)
  have hnone : items[(i : Int).toNat]? = none := by simpa using hx
  simp only [hnone]
  unfold reprEnd
  refine wpAny_bind (wpAny_listItems hp hdp ?_)
  rw [List.toList_toArray, repr_fold]
  refine wpAny_bind (wpAny_pure ?_)
  exact wpAny_bind (wpAny_mkStr (wpAny_pure h) hz)
end
end SQ
namespace SQ
open PySem PySem.Spec PyProof.Rows L2
open PySem.W (InstAt findIn isFn subIn)
open Builtin Builtin.List
abbrev lpC (args : Args) : Code := .builtin "list.__repr__.loop" args
theorem lp_depth (A : Around) (args : Args) : (A.under (lpC args)).depth ≤ A.depth + 1 := by
  first
    | exact Nat.le_refl _
    | exact Nat.le_succ _
    | (show A.depth + (lpC args).weight ≤ A.depth + 1; decide)
    | (simp [Around.under, Code.weight, Code.isCreation, Code.isGuard, Code.isCaller, Code.frames, Code.isFrame, guardIds])
theorem lp_frames (A : Around) (args : Args) : (A.under (lpC args)).frames = A.frames := by
  show pushEnvs (lpC args).envs A.frames = A.frames
  cases A.frames <;> rfl
theorem lp_room {k : Nat} {A : Around} (r : Room (k + 1) A) (args : Args) : Room k (A.under (lpC args)) := by
  have h1 := lp_depth A args
  have h2 := units_under_list_loop A args
  have h3 := r.dp
  have h4 := r.un
  exact ⟨r.hd, by omega, by rw [h2]; omega⟩
theorem lp_env {P : Program} {w : World} {K : PySem.W.Frag} {mg : Str → Option Value} {base : Heap} {A : Around} {outer : List Env} {s : Shared} {H : Hp} (e : Env0 P w K mg base A outer s H) (args : Args) : Env0 P w K mg base (A.under (lpC args)) outer s H :=
  ⟨(lp_frames A args).trans e.frames, e.mod, e.bs, e.bsz, e.funs, e.frf, e.hok, e.bare⟩
structure RpC (K : PySem.W.Frag) (C f : Addr) : Prop where
  rp : findIn K (.ref C) "__repr__" = some (some (.ref f))
  fn : isFn K (.ref f) = true
abbrev bT (b : Bool) : Str := if b = true then Str.ofString "True" else Str.ofString "False"
def rRepr3 (C : Addr) (sp : Sp) : List V → Hp → VK → Prop := fun xs H Q => ∃ (a o dx : Addr) (fs : List (Str × V)) (t z : Str) (b : Bool), xs = [.ref a] ∧ H a = some (.lst [.str t, .ref o, .bl b]) ∧ H o = some (.ins C dx fs) ∧
  (reprText t).length ≤ 1000 ∧ z.length ≤ 1000 ∧ (∀ H1, Same H H1 → sp [.ref o] H1 (fun v H2 => v = .str z ∧ Same H1 H2) E0) ∧ ∀ H', Same H H' → Q (.str (listText [reprText t, z, bT b])) H'
theorem same_refl (H : Hp) : Same H H := fun _ _ e => e
theorem cr_repr3 {X : Cx} {k : Nat} {f C : Addr} {sp : Sp} (F : FnR X.prog X.w X.K X.mg X.base CX0 k f sp) (hr : Room (k + 3) X.A) (hg : X.A.guards = some []) (T : RpC X.K C f) : CallR X (.builtin "repr") (rRepr3 C sp) := by
  intro pins s σ H xs us Q I r h
  obtain ⟨a, o, dx, fs, t, z, b, rfl, ha, ho, ht, hz, hsp, q⟩ := h
  rw [Vals.ref1 r]
  obtain ⟨_, its, n, rv, e⟩ := (show ObjOk X.prog X.w H s.heap a (.lst [.str t, .ref o, .bl b]) from I.hok a _ ha)
  obtain ⟨tk, rfl⟩ : ∃ tk, its = [.str t tk, .ref o, .bool b] := by
    cases rv with
    | cons r1 rv =>
      cases rv with
      | cons r2 rv =>
        cases rv with
        | cons r3 rv =>
          cases rv
          obtain ⟨tk, rfl⟩ := r1
          obtain rfl := (show _ = Value.ref o from r2)
          obtain rfl := (show _ = Value.bool b from r3)
          exact ⟨tk, rfl⟩
  have hu := hr.un
  have bl : (bT b).length ≤ 5 := by cases b <;> decide
  refine call_repr_slot (by omega) ⟨_, e, rfl⟩ PySem.F.slot_list_repr.toG ?_
  refine wpAny_call (codeAny_call_builtin PySem.F.slot_list_repr.plain PySem.F.entry_list_repr (PySem.F.slot_list_repr.check _ _ _ _ _ _ _ _ ⟨_, e, rfl⟩ (PySem.F.args_list_repr_1 _) ?_))
  refine wpAny_list_repr_head (b := 0) (g := []) hg (fun v rest kw hm => nomatch hm) e rfl ?_
  refine wpAny_bind (m := newList []) (wpAny_newObj_type ?_)
  refine wpAny_pure ⟨PySem.F.quiet_list_repr_loop _, ?_⟩
  have nP : H s.heap.objs.size = none := I.hok.fresh (Nat.le_refl _)
  have I1 : Inv X pins σ (upd H s.heap.objs.size (.lst [])) { s with heap := s.heap.push { cls := .type "list", data := .seq ([] : List Value).toArray } } :=
    I.laid (t' := s.toks) (fun c u y => Heap.get?_push_of_some _ y) (Nat.le_refl _) ⟨Nat.zero_le _, [], _, .nil, Heap.get?_push_size _ rfl⟩
  generalize hP : s.heap.objs.size = P at nP I1 ⊢
  generalize hs1 : ({ s with heap := s.heap.push { cls := .type "list", data := .seq ([] : List Value).toArray } } : Shared) = s1 at I1 ⊢
  have aP : a ≠ P := ne_of_none ha nP
  have oP : o ≠ P := ne_of_none ho nP
  have at_ : ∀ {G : Hp} {s' : Shared} {ys : List V}, Inv X pins σ G s' → G a = some (.lst [.str t, .ref o, .bl b]) → ∃ (tk' : Tok) (n' : Nat), s'.heap.get? a = some { cls := .type "list", data := .seq #[.str t tk', .ref o, .bool b] n' } := by
    intro G s' ys J hG
    obtain ⟨_, its, n, rv, e⟩ := (show ObjOk X.prog X.w G s'.heap a (.lst [.str t, .ref o, .bl b]) from J.hok a _ hG)
    cases rv with
    | cons r1 rv =>
      cases rv with
      | cons r2 rv =>
        cases rv with
        | cons r3 rv =>
          cases rv
          obtain ⟨tk, rfl⟩ := r1
          obtain rfl := (show _ = Value.ref o from r2)
          obtain rfl := (show _ = Value.bool b from r3)
          exact ⟨tk, _, e⟩
  have line : ∀ {m : Nat}, m ≤ 10000 → m ≤ sizeLine := fun h => Nat.le_trans h (by decide)
  -- the text
  have g1 : upd H P (.lst []) a = some (.lst [.str t, .ref o, .bl b]) := by rw [upd_ne aP]; exact ha
  obtain ⟨tk1, n1, e1⟩ := at_ (ys := []) I1 g1
  refine repr_turn (i := 0) (sg := 0) e1 rfl rfl ?_
  refine ReprIs.str t tk1 (line (by omega)) _ (line (by omega)) _ _ _ _ fun k1 => ⟨line (by omega), [], ?_⟩
  obtain ⟨_, acc1, c1, rv1, p1⟩ := (show ObjOk X.prog X.w (upd H P (.lst [])) s1.heap P (.lst []) from I1.hok P _ upd_same)
  cases rv1
  refine ⟨c1, p1, Nat.zero_le _, ?_⟩
  have I2 := Inv.lset (t' := k1 + 1) (its' := [.str (reprText t) k1]) (f := fun y => y.push (.str (reprText t) k1)) (I1.tok k1) upd_same p1 rfl (.cons ⟨_, rfl⟩ .nil : Vals [.str (reprText t)] _) (by show 1 ≤ sizeLine; decide)
  rw [upd_upd] at I2
  generalize hs2 : ({ ({ s1 with toks := k1 } : Shared) with heap := _, toks := k1 + 1 } : Shared) = s2 at I2
  clear hs2 hs1 e1 p1
  -- the instance
  have sm2 : Same H (upd H P (.lst [.str (reprText t)])) := fun c u y => by
    rw [upd_ne (ne_of_none y nP)]
    exact y
  obtain ⟨tk2, n2, e2⟩ := at_ (ys := []) I2 (sm2 _ _ ha)
  refine repr_turn (i := 1) (sg := 0 + ((reprText t).length + 2)) e2 rfl rfl ?_
  obtain ⟨mA, O, _⟩ := ins_get I2.hok (sm2 _ _ ho)
  obtain ⟨od, J, _⟩ := O.look
  have hr1 : Room (k + 2) X.A.in1 := Room.in1 hr
  have hr2 : Room (k + 1) (X.A.in1.under (lpC ⟨[.ref a, rawInt ((1 : Nat) : Int), .ref P, rawInt ((0 + ((reprText t).length + 2) : Nat) : Int)], []⟩)) := lp_room hr1 _
  refine repr_own (line (by omega)) hr2.units0 I2.kIn J T.rp T.fn (wpAny_call (codeAny_mono (F _ X.stack s2 _ [.ref o] [.ref o] _ _ (hr2.mono (by omega)) (lp_env I2.env0.in1 _) (.cons rfl .nil) (hsp _ sm2)) fun r s3 hq => ?_))
  rcases r with er | (_ | _ | _ | v)
  · exact (show False from hq).elim
  · exact False.elim hq
  · exact False.elim hq
  · exact False.elim hq
  obtain ⟨v', H3, I3, rv3, rfl, sm3⟩ := I2.after hq
  obtain ⟨tz, rfl⟩ := rv3
  refine ⟨z, tz, rfl, line (by omega), ?_⟩
  have hP3 : H3 P = some (.lst [.str (reprText t)]) := sm3 _ _ upd_same
  obtain ⟨_, acc3, c3, rv3, p3⟩ := (show ObjOk X.prog X.w H3 s3.heap P (.lst [.str (reprText t)]) from I3.hok P _ hP3)
  obtain ⟨k3, rfl⟩ : ∃ k3, acc3 = [.str (reprText t) k3] := by
    cases rv3 with
    | cons r1 rv =>
      cases rv
      obtain ⟨k3, rfl⟩ := r1
      exact ⟨k3, rfl⟩
  refine ⟨_, c3, p3, (by show 1 ≤ sizeLine; decide), ?_⟩
  have I4 := Inv.lset (t' := s3.toks + 1) (its' := [.str (reprText t) k3, .str z s3.toks]) (f := fun y => y.push (.str z s3.toks)) I3 hP3 p3 rfl (.cons ⟨_, rfl⟩ (.cons ⟨_, rfl⟩ .nil) : Vals [.str (reprText t), .str z] _) (by show 2 ≤ sizeLine; decide)
  generalize hs4 : ({ s3 with heap := _, toks := s3.toks + 1 } : Shared) = s4 at I4
  have sm4 : Same H (upd H3 P (.lst [.str (reprText t), .str z])) := fun c u y => by
    rw [upd_ne (ne_of_none y nP)]
    exact sm3 _ _ (sm2 _ _ y)
  clear hs4 p3 e2
  -- the bool
  obtain ⟨tk4, n4, e4⟩ := at_ (ys := []) I4 (sm4 _ _ ha)
  refine repr_turn (i := 2) e4 rfl rfl ?_
  refine ReprIs.bool b _ (line ?_) _ _ _ _ fun k5 => ⟨Nat.le_trans bl (by decide), ?_⟩
  · show _ + (bT b).length ≤ 10000
    omega
  obtain ⟨_, acc5, c5, rv5, p5⟩ := (show ObjOk X.prog X.w (upd H3 P (.lst [.str (reprText t), .str z])) s4.heap P (.lst [.str (reprText t), .str z]) from I4.hok P _ upd_same)
  obtain ⟨ka, kb, rfl⟩ : ∃ ka kb, acc5 = [.str (reprText t) ka, .str z kb] := by
    cases rv5 with
    | cons r1 rv =>
      cases rv with
      | cons r2 rv =>
        cases rv
        obtain ⟨ka, rfl⟩ := r1
        obtain ⟨kb, rfl⟩ := r2
        exact ⟨ka, kb, rfl⟩
  refine ⟨_, c5, p5, (by show 2 ≤ sizeLine; decide), ?_⟩
  have I6 := Inv.lset (t' := k5 + 1) (its' := [.str (reprText t) ka, .str z kb, .str (bT b) k5]) (f := fun y => y.push (.str (bT b) k5)) (I4.tok k5) upd_same p5 rfl (.cons ⟨_, rfl⟩ (.cons ⟨_, rfl⟩ (.cons ⟨_, rfl⟩ .nil)) : Vals [.str (reprText t), .str z, .str (bT b)] _) (by show 3 ≤ sizeLine; decide)
  rw [upd_upd] at I6
  have sm6 : Same H (upd H3 P (.lst [.str (reprText t), .str z, .str (bT b)])) := fun c u y => by
    rw [upd_ne (ne_of_none y nP)]
    exact sm3 _ _ (sm2 _ _ y)
  obtain ⟨tk6, n6, e6⟩ := at_ (ys := []) I6 (sm6 _ _ ha)
  obtain ⟨_, acc7, c7, rv7, p7⟩ := (show ObjOk X.prog X.w _ _ P (.lst [.str (reprText t), .str z, .str (bT b)]) from I6.hok P _ upd_same)
  obtain ⟨l7, el7, em7⟩ : ∃ l : List (Str × Tok), strValues l = acc7 ∧ l.map (·.1) = [reprText t, z, bT b] := by
    cases rv7 with
    | cons r1 rv =>
      cases rv with
      | cons r2 rv =>
        cases rv with
        | cons r3 rv =>
          cases rv
          obtain ⟨k1, rfl⟩ := r1
          obtain ⟨k2, rfl⟩ := r2
          obtain ⟨k3, rfl⟩ := r3
          exact ⟨[(reprText t, k1), (z, k2), (bT b, k3)], rfl, rfl⟩
  have hfin : (listText [reprText t, z, bT b]).length ≤ 10000 := by
    have h1 : (listText [reprText t, z, bT b]).length = (textFrom 0 "[" [reprText t, z, bT b]).length + 1 := by
      show (textFrom 0 "[" [reprText t, z, bT b] ++ "]").length = _
      rw [strLen_append]
      rfl
    have h2 : (textFrom 0 "[" [reprText t, z, bT b]).length = (textFrom 1 (("[" : Str) ++ (if (0 : Nat) > 0 then ", " else "" : String) ++ reprText t) [z, bT b]).length := rfl
    rw [textFrom_length_pos _ _ _ (Nat.succ_pos 0), strLen_append, strLen_append, piled_cons, piled_cons, piled_nil] at h2
    have h3 : ("[" : Str).length = 1 := rfl
    have h4 : (((if (0 : Nat) > 0 then ", " else "" : String) : Str)).length = 0 := rfl
    rw [h3, h4] at h2
    omega
  refine repr_stop (i := 3) (done := l7) e6 rfl rfl p7 (by rw [el7]) (by rw [em7]; exact line hfin) ?_
  rw [em7]
  exact ⟨_, _, rfl, .str _, _, I6.tok _, ⟨_, rfl⟩, q _ sm6⟩
end SQ
/-! sorted of triples (text, int, int). -/
namespace SQ
open PySem PySem.Spec PyProof.Rows L2 SrtO Srt
abbrev T3 := Str × Int × Int
def lex3 (p q : T3) : Bool := if p.1 = q.1 then lexB p.2 q.2 else decide (p.1.cps.toList < q.1.cps.toList)
theorem cps_inj {x y : Str} (h : x.cps.toList = y.cps.toList) : x = y := by
  obtain ⟨a⟩ := x
  obtain ⟨b⟩ := y
  have e : a = b := Array.toList_inj.mp h
  rw [e]
theorem cps_asym {x y : Str} (h : x.cps.toList < y.cps.toList) : ¬ y.cps.toList < x.cps.toList := fun z => List.lt_irrefl _ (List.lt_trans h z)
theorem lex3_no {p q : T3} (ne : p.1 ≠ q.1) : lex3 p q = false ↔ q.1.cps.toList < p.1.cps.toList := by
  unfold lex3
  rw [if_neg ne, decide_eq_false_iff_not]
  constructor
  · intro h
    rcases List.le_iff_lt_or_eq.mp (List.not_lt.mp h) with z | z
    · exact z
    · exact absurd (cps_inj z.symm) ne
  · exact cps_asym
theorem swo3 : Swo lex3 := by
  refine ⟨fun x y h => ?_, fun x y z h1 h2 => ?_⟩
  · by_cases e : x.1 = y.1
    · unfold lex3 at h ⊢
      rw [if_pos e] at h
      rw [if_pos e.symm]
      have a := lexB_iff.mp h
      refine lexB_no.mpr ?_
      omega
    · have h' := h
      unfold lex3 at h'
      rw [if_neg e, decide_eq_true_eq] at h'
      exact (lex3_no (Ne.symm e)).mpr h'
  · by_cases e1 : y.1 = x.1
    · by_cases e2 : z.1 = y.1
      · unfold lex3 at h1 h2 ⊢
        rw [if_pos e1] at h1
        rw [if_pos e2] at h2
        rw [if_pos (e2.trans e1)]
        have a := lexB_no.mp h1
        have b := lexB_no.mp h2
        refine lexB_no.mpr ?_
        omega
      · have a := (lex3_no e2).mp h2
        refine (lex3_no (fun q => e2 (q.trans e1.symm))).mpr ?_
        rw [← e1]
        exact a
    · have a := (lex3_no e1).mp h1
      by_cases e2 : z.1 = y.1
      · refine (lex3_no (fun q => e1 (e2.symm.trans q))).mpr ?_
        rw [e2]
        exact a
      · have b := (lex3_no e2).mp h2
        have c := List.lt_trans a b
        refine (lex3_no (fun q => ?_)).mpr c
        rw [q] at c
        exact List.lt_irrefl _ c
theorem swo_at {α β : Type} {lt : β → β → Bool} (O : Swo lt) (f : α → β) : Swo fun x y => lt (f x) (f y) := ⟨fun x y => O.asym (f x) (f y), fun x y z => O.tr (f x) (f y) (f z)⟩
def Is3 (h : Heap) (v : Value) (x : T3) : Prop := ∃ a o t u r n, v = .ref a ∧ h.get? a = some o ∧ o.cls = .type "tuple" ∧ o.data = .seq #[.str x.1 t, .int x.2.1 u, .int x.2.2 r] n
theorem Is3.keeps {h h' : Heap} {v : Value} {x : T3} (p : Is3 h v x) (k : ∀ b o, h.get? b = some o → o.cls = .type "tuple" → h'.get? b = some o) : Is3 h' v x := by
  obtain ⟨a, o, t, u, r, n, e, ho, hc, hd⟩ := p
  exact ⟨a, o, t, u, r, n, e, k _ _ ho hc, hc, hd⟩
theorem firsts3 {h : Heap} : ∀ {vs : List Value}, (∀ v ∈ vs, ∃ x, Is3 h v x) → ∃ fs : List Value, PySem.W.KatTups h vs fs ∧ fs.length = vs.length ∧ ∀ f ∈ fs, ∃ x t, f = Value.str x t
  | [], _ => ⟨[], PySem.W.KatTups.nil, rfl, fun _ hm => by simp at hm⟩
  | v :: vs, hp => by
    obtain ⟨fs, h1, h2, h3⟩ := firsts3 (vs := vs) fun v' hm => hp v' (List.mem_cons_of_mem _ hm)
    obtain ⟨x, a, o, t, u, r, n, e, ho, hc, hd⟩ := hp v (List.mem_cons_self ..)
    subst e
    refine ⟨.str x.1 t :: fs, PySem.W.KatTups.cons ho hc hd rfl h1, by rw [List.length_cons, List.length_cons, h2], fun f hm => ?_⟩
    rcases List.mem_cons.mp hm with rfl | hm
    · exact ⟨_, t, rfl⟩
    · exact h3 f hm
section
variable {prog : Program} {w : World} {A : Around} {s : Shared} {E : Value → Shared → Prop}
theorem cmp3 {vs : List Value} {k : Value → T3} (hp : ∀ v ∈ vs, Is3 s.heap v (k v)) : Cmp prog w A s (tuples' true) (fun p => p.1 ∈ vs) (lt2 fun v u => lex3 (k v) (k u)) := by
  intro p q hm hm'
  have h1 := hp _ hm
  have h2 := hp _ hm'
  show wpAny (model prog w) A (keyLt' (tuples' true) p.1 q.1) (fun r s' => s' = s ∧ r = lex3 (k p.1) (k q.1)) (fun _ _ => False) s
  generalize k p.1 = K1 at h1 ⊢
  generalize k q.1 = K2 at h2 ⊢
  obtain ⟨x, y, z⟩ := K1
  obtain ⟨x', y', z'⟩ := K2
  obtain ⟨a, o, t, u, r, n, e, ho, hc, hd⟩ := h1
  obtain ⟨a', o', t', u', r', n', e', ho', hc', hd'⟩ := h2
  rw [e, e']
  refine PySem.W.kat_lt ho hd ho' hd' ?_
  show PySem.W.KatLex prog w A true (decide (3 < 3)) _ [(.str x t, .str x' t'), (.int y u, .int y' u'), (.int z r, .int z' r')] 0 s
  refine PySem.W.kat_cons (SeqAt.EqAt.str_str x t x' t' prog w _ _ ?_)
  refine PySem.W.kat_go (fun e1 => ?_) (fun e1 => ?_)
  · have ex : x = x' := by simpa using e1
    subst ex
    have e0 : lex3 (x, y, z) (x, y', z') = lexB (y, z) (y', z') := if_pos rfl
    rw [e0]
    refine PySem.W.kat_yes (PySem.W.kat_cons (SeqAt.EqAt.int_int y u y' u' prog w _ _ ?_))
    refine PySem.W.kat_go (fun e2 => ?_) (fun e2 => ?_)
    · have ey : y = y' := by simpa using e2
      subst ey
      have e3 : lexB (y, z) (y, z') = decide (z < z') := if_pos rfl
      refine PySem.W.kat_yes (PySem.W.kat_cons (SeqAt.EqAt.int_int z r z' r' prog w _ _ ?_))
      refine PySem.W.kat_go (fun e4 => ?_) (fun e4 => ?_)
      · have ez : z = z' := by simpa using e4
        subst ez
        refine PySem.W.kat_yes (PySem.W.kat_nil ⟨rfl, ?_⟩)
        rw [e3]
        simp
      · refine PySem.W.kat_no (PySem.W.kat_one _ _ (PyProof.Rows.lt_int ?_))
        exact (show s = s ∧ decide (z < z') = lexB (y, z) (y, z') from ⟨rfl, e3.symm⟩)
    · have ny : ¬ y = y' := by simpa using e2
      have e3 : lexB (y, z) (y', z') = decide (y < y') := if_neg ny
      refine PySem.W.kat_no (PySem.W.kat_one _ _ (PyProof.Rows.lt_int ?_))
      exact (show s = s ∧ decide (y < y') = lexB (y, z) (y', z') from ⟨rfl, e3.symm⟩)
  · have nx : ¬ x = x' := by simpa using e1
    have e3 : lex3 (x, y, z) (x', y', z') = decide (x.cps.toList < x'.cps.toList) := if_neg nx
    exact PySem.W.kat_no (PyProof.Rows.oneLt_str ⟨rfl, e3.symm⟩)
theorem sortable3 {a : Addr} {vs : List Value} {k : Value → T3} (h0 : 0 < vs.length) (hp : ∀ v ∈ vs, Is3 s.heap v (k v)) (ha : ∀ o, s.heap.get? a = some o → o.cls ≠ .type "tuple") : SortableO prog w A s a vs fun v u => lex3 (k v) (k u) := by
  intro h' keep
  have hp' : ∀ v ∈ vs, Is3 h' v (k v) := fun v hm => (hp v hm).keeps fun b o e c => keep b o (fun z => by subst z; exact ha o e c) e
  obtain ⟨fs, h1, h2, h3⟩ := firsts3 fun v hm => ⟨_, hp' v hm⟩
  refine ⟨tuples' true, fun Q E hq => ?_, cmp3 hp'⟩
  refine PySem.W.kat_kind (T := .type "str") h1 (by omega) (fun f hm => ?_) (by rfl) ?_
  · obtain ⟨x, t, rfl⟩ := h3 f hm
    exact PySem.W.Looks.now
  · have e : (Value.type "str" != Value.type "tuple") = true := by first | decide +kernel | rfl | decide
    rw [e]
    exact hq
theorem sorted3 {l : Addr} {vs : List Value} {k : Value → T3} {Q : Value → Shared → Prop} (hl : s.heap.IsList l vs.toArray) (hz : vs.length ≤ sizeLine) (hp : ∀ v ∈ vs, Is3 s.heap v (k v))
    (h : ∀ (h' : Heap) (d : Addr) (out : List Value), Srtd (fun v u => lex3 (k v) (k u)) out → Stb (fun v u => lex3 (k v) (k u)) out vs → (∀ b o, s.heap.get? b = some o → h'.get? b = some o) → s.heap.objs.size ≤ d → (∃ n, h'.get? d = some (seqObj "list" out.toArray n)) → Q (.ref d) { s with heap := h' }) :
    wpAny (model prog w) A (call (.builtin "sorted") [.ref l]) Q E s := by
  refine sorted_ord (swo_at swo3 k) hl hz (fun h2 h₁ a ha kk => ?_) fun out hs hb => ?_
  · refine sortable3 (s := { s with heap := h₁ }) (by omega) (fun v hm => (hp v hm).keeps fun b o e _ => (kk b o e).2) fun o e => ?_
    have e' : some o = some (seqObj "list" vs.toArray 0) := e.symm.trans ha
    cases e'
    intro c
    exact absurd (Value.type.inj c) (by decide)
  · exact h _ _ out hs hb (fun b o e => sortedAll_old e) (Nat.le_succ _) (sortedAll_at s.heap vs out.toArray)
end
/-- sorted(xs), xs a list of triples -/
def rSorted3 (K : PySem.W.Frag) : List V → Hp → VK → Prop := fun vs H Q => ∃ (a : Addr) (xs : List V) (k : V → T3), vs = [V.ref a] ∧ SqL K H a xs ∧ (∀ x ∈ xs, ∃ t, x = V.ref t ∧ H t = some (.tup [.str (k x).1, .int (k x).2.1, .int (k x).2.2])) ∧
  ∀ ys p, Srtd (fun x y => lex3 (k x) (k y)) ys → ys.Perm xs → H p = none → Q (.ref p) (upd H p (.lst ys))
theorem cr_sorted3 {X : Cx} : CallR X (.builtin "sorted") (rSorted3 X.K) := by
  intro pins s σ H vs us Q I r h
  obtain ⟨a, xs, k, rfl, hs, hx, q⟩ := h
  obtain ⟨its, rv, hl, hz⟩ := I.list hs
  obtain ⟨u, rfl, ru⟩ := vals1 r
  obtain rfl : u = Value.ref a := ru
  obtain ⟨e1, e2⟩ := refs_back rv fun x m => by
    obtain ⟨t, e, _⟩ := hx x m
    exact ⟨t, e⟩
  refine sorted3 (k := fun u => k (backV u)) hl.isList (by rw [← rv.length]; exact hz) (fun v hv => ?_) fun h' d out h1 h2 kp hd hn => ?_
  · obtain ⟨t, rfl⟩ := e2 v hv
    have hm : V.ref t ∈ xs := by rw [e1]; exact List.mem_map.mpr ⟨_, hv, rfl⟩
    obtain ⟨t', e, ht⟩ := hx _ hm
    cases e
    obtain ⟨_, its2, r2, o, ho, hc, n, hd⟩ := I.hok _ _ ht
    cases r2 with
    | cons r0 r2 =>
      cases r2 with
      | cons ri r2 =>
        cases r2 with
        | cons rj r2 =>
          cases r2
          obtain ⟨t0, rfl⟩ := r0
          obtain ⟨t1, rfl⟩ := ri
          obtain ⟨t2, rfl⟩ := rj
          exact ⟨t, o, t0, t1, t2, n, rfl, ho, hc, hd⟩
  · have h3 : ∀ u ∈ out, ∃ a, u = Value.ref a := fun u hu => e2 u (h2.perm.mem_iff.mp hu)
    obtain ⟨n, hn⟩ := hn
    have hb : (out.map backV).Perm xs := by
      rw [e1]
      exact h2.perm.map backV
    refine ⟨.ref d, upd H d (.lst (out.map backV)), I.laid (t' := s.toks) kp hd ⟨?_, out, n, vals_back h3, hn⟩, rfl, q _ d (List.pairwise_map.mpr h1) hb (I.hok.fresh hd)⟩
    rw [hb.length_eq]
    exact hz
end SQ
/-! len, bool, repr, == of an instance with own methods; a method by keyword. -/
namespace SQ
open PySem PySem.Spec PyProof.Rows L2
open PySem.W (InstAt findIn isFn subIn)
section
variable {prog : Program} {w : World} {A : Around} {E : Value → Shared → Prop} {s : Shared} {K : PySem.W.Frag} {x C f : Addr} {ox : Obj} {od : Option Obj}
def IBack (Q : Value → Shared → Prop) (v : Value) (s' : Shared) : Prop := ∃ (n : Int) (t : Tok), v = .int n t ∧ 0 ≤ n ∧ n < 1000 ∧ Q (.int n s'.toks) { s' with toks := s'.toks + 1 }
theorem len_body {Q : PySem.Fin → Shared → Prop} (X : K.In s.heap) (I : InstAt s.heap x ox C od) (hs : findIn K (.ref C) "__len__" = some (some (.ref f))) (hf : isFn K (.ref f) = true)
    (h : wpAny (model prog w) A (call (.ref f) [.ref x]) (IBack fun v s' => Q (.done (.ret v)) s') E s) : wpAny (model prog w) A (Builtin.«len» ⟨[.ref x], []⟩) Q E s := by
  unfold Builtin.«len»
  refine wpAny_bind (m := oneArg "len" _) (wpAny_pure ?_)
  refine wpAny_bind (m := callSpecial? (.ref x) (Str.ofString "__len__")) (PySem.W.special_fn X I hs (beq_iff_eq.mp hf) (wpAny_mono h (fun r s' hr => ?_) fun _ _ y => y))
  obtain ⟨n, t, rfl, h0, h1, hq⟩ := hr
  refine wpAny_bind (wpAny_holding (wpAny_pure ?_))
  refine wpAny_bind (wpAny_letGo ?_)
  show wpAny _ _ (if n < 0 then _ else _) _ _ _
  rw [if_neg (by omega)]
  show wpAny _ _ (if n ≥ 2 ^ 63 then _ else _) _ _ _
  rw [if_neg (by omega)]
  exact wpAny_bind (wpAny_mkInt (wpAny_pure hq))
theorem len_own {Q : Value → Shared → Prop} (X : K.In s.heap) (I : InstAt s.heap x ox C od) (hs : findIn K (.ref C) "__len__" = some (some (.ref f))) (hf : isFn K (.ref f) = true)
    (h : wpAny (model prog w) A.in1 (call (.ref f) [.ref x]) (IBack Q) E s) : wpAny (model prog w) A (call (.builtin "len") [.ref x]) Q E s := by
  refine Calls.call_function_entry kind_len plain_len entry_len (args_len1 _) ?_
  refine len_body X I hs hf (wpAny_mono h (fun r s' hr => ?_) fun _ _ y => y)
  obtain ⟨n, t, rfl, h0, h1, hq⟩ := hr
  exact ⟨n, t, rfl, h0, h1, ⟨_, rfl, hq⟩⟩
theorem repr_call {Q : Value → Shared → Prop} (hu : A.in1.units < cLine) (X : K.In s.heap) (I : InstAt s.heap x ox C od) (hs : findIn K (.ref C) "__repr__" = some (some (.ref f))) (hf : isFn K (.ref f) = true)
    (h : wpAny (model prog w) A.in1 (call (.ref f) [.ref x]) (SBack fun z s' => ∀ t, Q (.str z t) s') E s) : wpAny (model prog w) A (call (.builtin "repr") [.ref x]) Q E s := by
  refine Calls.call_function_entry PySem.F.kind_repr PySem.F.plain_repr PySem.F.entry_repr (PySem.F.args_repr1 _) ?_
  unfold Builtin.«repr»
  refine wpAny_bind (m := oneArg "repr" _) (wpAny_pure ?_)
  refine wpAny_bind (wpAny_cRoomFor hu ?_)
  refine wpAny_bind (wpAny_bind (I.type.here ((PySem.W.looks_findIn X hs).here ?_)))
  show wpAny _ _ (if (some (Value.ref f)).isNone = true then _ else _) _ _ _
  rw [if_neg (by simp)]
  refine wpAny_bind (m := callSpecialIfBound? (.ref x) (Str.ofString "__repr__") _) (PySem.W.ifBound_K X I hs hf (wpAny_mono h (fun r s' hr => ?_) fun _ _ y => y))
  obtain ⟨z, t, rfl, hq⟩ := hr
  refine wpAny_bind (wpAny_isInstance (typeIs_str _ _ _) isSubtype_str_str ?_)
  first
    | exact wpAny_pure ⟨_, rfl, hq t⟩
    | (rw [if_pos rfl]; exact wpAny_pure ⟨_, rfl, hq t⟩)
    | (simp only [if_true]; exact wpAny_pure ⟨_, rfl, hq t⟩)
/-- o == a text -/
theorem rc_eqS {y : Str} {ty : Tok} {Q : Value → Shared → Prop} (X : K.In s.heap) (I : InstAt s.heap x ox C od) (hu0 : A.units < cLine) (hsub : subIn K (.type "str") (.ref C) = some false)
    (he : findIn K (.ref C) "__eq__" = some (some (.ref f))) (hf : isFn K (.ref f) = true)
    (h : wpAny (model prog w) A (call (.ref f) [.ref x, .str y ty]) (fun v s' => ∃ b, v = .bool b ∧ Q v s') E s) : wpAny (model prog w) A (richCompare .Eq (.ref x) (.str y ty)) Q E s := by
  have one : wpAny (model prog w) A (tryCompare (.ref x) "__eq__" (.str y ty)) (fun r s' => ∃ b, r = some (.bool b) ∧ Q (.bool b) s') E s := by
    unfold tryCompare
    refine wpAny_bind (PySem.W.ifBound_K X I he hf (wpAny_mono h (fun v s' z => ?_) fun _ _ z => z))
    obtain ⟨b, rfl, q⟩ := z
    exact wpAny_pure ⟨b, rfl, q⟩
  unfold richCompare
  refine wpAny_holding (wpAny_bind (wpAny_cRoomFor hu0 ?_))
  have h1 : oneThing? .Eq (.ref x) (.str y ty) = none := by rfl
  rw [h1]
  refine wpAny_bind (I.type.here ?_)
  refine wpAny_bind (m := typeOf (.str y ty)) (wpAny_pure ?_)
  rw [show (Value.ref C != Value.type "str") = true from by rfl]
  simp only [if_true]
  refine wpAny_bind ((PySem.W.looks_subIn X hsub).here ?_)
  simp only [Bool.false_eq_true, if_false]
  refine wpAny_bind (wpAny_mono one (fun r s' z => ?_) fun _ _ z => z)
  obtain ⟨b, rfl, q⟩ := z
  exact wpAny_pure q
end
end SQ
namespace SQ
open PySem PySem.Spec PyProof.Rows L2
open PySem.W (InstAt findIn isFn subIn)
section
variable {prog : Program} {w : World} {A : Around} {E : Value → Shared → Prop} {s : Shared} {K : PySem.W.Frag} {x C f : Addr} {ox : Obj} {od : Option Obj}
theorem truthy_len {Q : Bool → Shared → Prop} (X : K.In s.heap) (I : InstAt s.heap x ox C od) (hb : findIn K (.ref C) "__bool__" = some none) (hs : findIn K (.ref C) "__len__" = some (some (.ref f))) (hf : isFn K (.ref f) = true)
    (h : wpAny (model prog w) A.in1 (call (.ref f) [.ref x]) (IBack fun v s' => ∃ n t, v = .int n t ∧ Q (n != 0) s') E s) : wpAny (model prog w) A (truthy (.ref x)) Q E s := by
  unfold truthy
  refine wpAny_bind (m := callSpecial? (.ref x) (Str.ofString "__bool__")) (wpAny_bind (wpAny_bind (I.type.here ((PySem.W.looks_findIn X hb).here (wpAny_pure ?_)))))
  refine wpAny_bind (wpAny_bind (I.type.here ((PySem.W.looks_findIn X hs).here ?_)))
  show wpAny _ _ (if (some (Value.ref f)).isNone = true then _ else _) _ _ _
  rw [if_neg (by simp)]
  refine wpAny_bind (wpAny_runValue (codeAny_builtin entry_len ?_))
  rw [Around.under_plainId (by decide +kernel) _]
  refine len_body X I hs hf (wpAny_mono h (fun r s' hr => ?_) fun _ _ y => y)
  obtain ⟨n, t, rfl, h0, h1, m, u, e, hq⟩ := hr
  cases e
  exact ⟨n, t, rfl, h0, h1, wpAny_pure hq⟩
theorem bool_own {Q : Value → Shared → Prop} (X : K.In s.heap) (I : InstAt s.heap x ox C od) (hb : findIn K (.ref C) "__bool__" = some none) (hs : findIn K (.ref C) "__len__" = some (some (.ref f))) (hf : isFn K (.ref f) = true)
    (h : wpAny (model prog w) A.in1.in1.in1 (call (.ref f) [.ref x]) (IBack fun v s' => ∃ n t, v = .int n t ∧ Q (.bool (n != 0)) s') E s) : wpAny (model prog w) A (call (.type "bool") [.ref x]) Q E s := by
  refine callType_codes (T := "bool") (Bi := Builtin.«object.__init__») (Q₁ := fun r s₁ => ∃ b, r = .bool b ∧ Q r s₁) PySem.F.called_bool (PySem.F.typeCall_bool_1 _) PySem.F.entry_object_init ?_ ?_
  · refine codeAny_of_tree ?_
    show wpAny _ A.in1.in1 (do checkBuiltinCall "bool.__new__" ⟨[.type "bool", .ref x], []⟩; again (.builtin "bool.__new__" ⟨[.type "bool", .ref x], []⟩)) _ _ s
    refine wpAny_bind (wpAny_of_eq (PySem.F.newCall_bool_1 _) (wpAny_pure ⟨plainId_quiet (by decide +kernel) _, codeAny_builtin PySem.F.entry_bool_new ?_⟩))
    rw [Around.under_plainId (by decide +kernel) _]
    unfold Builtin.«bool.__new__»
    refine wpAny_bind (m := isType (.type "bool")) (wpAny_pure ?_)
    have f1 := PySem.F.conv_sub_bool
    simp only [Bool.not_true, Bool.false_eq_true, if_false]
    refine wpAny_bind (wpAny_of_eq f1 ?_)
    simp only [Bool.not_true, Bool.false_eq_true, if_false]
    refine wpAny_bind (m := someArgs "bool" 0 1 _) (wpAny_pure ?_)
    refine wpAny_bind (truthy_len X I hb hs hf (wpAny_mono h (fun r s' hr => ?_) fun _ _ y => y))
    obtain ⟨n, t, rfl, h0, h1, m, u, e, hq⟩ := hr
    cases e
    exact ⟨n, t, rfl, h0, h1, n, _, rfl, wpAny_pure ⟨_, rfl, hq⟩⟩
  · rintro obj s₁ ⟨b, rfl, hq⟩
    exact ⟨rfl, PySem.F.args_object_init_2 _ _, object_init_meets PySem.F.called_bool.init.lookup PySem.F.called_bool.made (by decide) prog w A.in1 _ s₁ ⟨rfl, rfl, hq⟩⟩
end
section
variable {X : Cx} {k : Nat} {f C : Addr} {sp : Sp}
/-- what the class at C has for len, bool, repr, == -/
structure LenC (K : PySem.W.Frag) (C f : Addr) : Prop where
  ln : findIn K (.ref C) "__len__" = some (some (.ref f))
  fn : isFn K (.ref f) = true
  bo : findIn K (.ref C) "__bool__" = some none
theorem cr_lenOwn (F : FnR X.prog X.w X.K X.mg X.base CX0 k f sp) (hr : Room (k + 1) X.A) (T : LenC X.K C f) :
    CallR X (.builtin "len") (fun xs H Q => ∃ (x dx : Addr) (fs : List (Str × V)), xs = [.ref x] ∧ H x = some (.ins C dx fs) ∧ sp [.ref x] H (fun v H' => ∃ n : Int, v = .int n ∧ 0 ≤ n ∧ n < 1000 ∧ Q v H') E0) := by
  intro pins s σ H xs us Q I r h
  obtain ⟨x, dx, fs, rfl, hx, q⟩ := h
  obtain ⟨u, rfl, r1⟩ := vals1 r
  obtain rfl : u = Value.ref x := r1
  obtain ⟨mA, O, _⟩ := ins_get I.hok hx
  obtain ⟨od, J, _⟩ := O.look
  have hr2 : Room k X.A.in1 := Room.in1 hr
  refine len_own I.kIn J T.ln T.fn (wpAny_call (codeAny_mono (F X.A.in1 X.stack s H [.ref x] [.ref x] _ _ hr2 I.env0.in1 (.cons rfl .nil) q) fun r s' hq => ?_))
  rcases r with er | (_ | _ | _ | u)
  · exact (show False from hq).elim
  · exact False.elim hq
  · exact False.elim hq
  · exact False.elim hq
  · obtain ⟨v, H', I', rv, n, rfl, n0, n1, q'⟩ := I.after hq
    obtain ⟨t, rfl⟩ := rv
    exact ⟨n, t, rfl, n0, n1, .int n, H', I'.tok _, ⟨_, rfl⟩, q'⟩
theorem cr_boolOwn (F : FnR X.prog X.w X.K X.mg X.base CX0 k f sp) (hr : Room (k + 3) X.A) (T : LenC X.K C f) :
    CallR X (.type "bool") (fun xs H Q => ∃ (x dx : Addr) (fs : List (Str × V)), xs = [.ref x] ∧ H x = some (.ins C dx fs) ∧ sp [.ref x] H (fun v H' => ∃ n : Int, v = .int n ∧ 0 ≤ n ∧ n < 1000 ∧ Q (.bl (n != 0)) H') E0) := by
  intro pins s σ H xs us Q I r h
  obtain ⟨x, dx, fs, rfl, hx, q⟩ := h
  obtain ⟨u, rfl, r1⟩ := vals1 r
  obtain rfl : u = Value.ref x := r1
  obtain ⟨mA, O, _⟩ := ins_get I.hok hx
  obtain ⟨od, J, _⟩ := O.look
  have hr2 : Room k X.A.in1.in1.in1 := Room.in1 (Room.in1 (Room.in1 hr))
  refine bool_own I.kIn J T.bo T.ln T.fn (wpAny_call (codeAny_mono (F X.A.in1.in1.in1 X.stack s H [.ref x] [.ref x] _ _ hr2 I.env0.in1.in1.in1 (.cons rfl .nil) q) fun r s' hq => ?_))
  rcases r with er | (_ | _ | _ | u)
  · exact (show False from hq).elim
  · exact False.elim hq
  · exact False.elim hq
  · exact False.elim hq
  · obtain ⟨v, H', I', rv, n, rfl, n0, n1, q'⟩ := I.after hq
    obtain ⟨t, rfl⟩ := rv
    exact ⟨n, t, rfl, n0, n1, n, _, rfl, .bl (n != 0), H', I'.tok _, rfl, q'⟩
theorem cr_reprOwn (F : FnR X.prog X.w X.K X.mg X.base CX0 k f sp) (hr : Room (k + 1) X.A) (T : RpC X.K C f) :
    CallR X (.builtin "repr") (fun xs H Q => ∃ (x dx : Addr) (fs : List (Str × V)), xs = [.ref x] ∧ H x = some (.ins C dx fs) ∧ sp [.ref x] H (fun v H' => ∃ z, v = .str z ∧ Q v H') E0) := by
  intro pins s σ H xs us Q I r h
  obtain ⟨x, dx, fs, rfl, hx, q⟩ := h
  obtain ⟨u, rfl, r1⟩ := vals1 r
  obtain rfl : u = Value.ref x := r1
  obtain ⟨mA, O, _⟩ := ins_get I.hok hx
  obtain ⟨od, J, _⟩ := O.look
  have hr2 : Room k X.A.in1 := Room.in1 hr
  refine repr_call hr2.units0 I.kIn J T.rp T.fn (wpAny_call (codeAny_mono (F X.A.in1 X.stack s H [.ref x] [.ref x] _ _ hr2 I.env0.in1 (.cons rfl .nil) q) fun r s' hq => ?_))
  rcases r with er | (_ | _ | _ | u)
  · exact (show False from hq).elim
  · exact False.elim hq
  · exact False.elim hq
  · exact False.elim hq
  · obtain ⟨v, H', I', rv, z, rfl, q'⟩ := I.after hq
    obtain ⟨t, rfl⟩ := rv
    exact ⟨z, t, rfl, fun t' => ⟨.str z, H', I', ⟨t', rfl⟩, q'⟩⟩
theorem op_eqOwnS (F : FnR X.prog X.w X.K X.mg X.base CX0 k f sp) (hr : Room k X.A) (T : CmpC X.K C f) (hsub : subIn X.K (.type "str") (.ref C) = some false) :
    OpR X (compareOp .Eq) (fun x y H Q => ∃ (a dx : Addr) (fs : List (Str × V)) (z : Str), x = .ref a ∧ y = .str z ∧ H a = some (.ins C dx fs) ∧ sp [.ref a, .str z] H (fun v H' => ∃ r, v = .bl r ∧ Q v H') E0) := by
  intro pins s σ H x y v u Q I rx ry h
  obtain ⟨a, dx, fs, z, rfl, rfl, ha, q⟩ := h
  obtain rfl : v = Value.ref a := rx
  obtain ⟨tz, rfl⟩ := ry
  obtain ⟨mA, O, _⟩ := ins_get I.hok ha
  obtain ⟨od, J, _⟩ := O.look
  refine rc_eqS I.kIn J hr.units0 hsub T.eq T.fn (wpAny_call (codeAny_mono (F X.A X.stack s H [.ref a, .str z tz] [.ref a, .str z] _ _ hr I.env0 (.cons rfl (.cons ⟨_, rfl⟩ .nil)) q) fun r s' hq => ?_))
  rcases r with er | (_ | _ | _ | u)
  · exact (show False from hq).elim
  · exact False.elim hq
  · exact False.elim hq
  · exact False.elim hq
  · obtain ⟨v, H', I', rv, r, rfl, q'⟩ := I.after hq
    obtain rfl : u = Value.bool r := rv
    exact ⟨r, rfl, .bl r, H', I', rfl, q'⟩
end
section
variable {X : Cx} {CX : CXT} {k : Nat} {C g : Addr} {sp : Sp} {E : XK} {o e : Expr} {m : Str} {pos apos kpos : Pos} {ta te : TE} {pl : Sem Bool}
def tMethK (C : Addr) (m : Str) (sp : Sp) (E : XK) (ta te : TE) : TE := fun σ H Q => ta σ H fun y H1 => ∃ (a dx : Addr) (fs : List (Str × V)), y = .ref a ∧ H1 a = some (.ins C dx fs) ∧ fs.lookup m = none ∧ te σ H1 fun v H2 => ∃ v', [v] = [v'] ∧ sp [.ref a, v'] H2 Q E
/-- o.m(f=e), o an instance -/
theorem pe_methK {fd : FuncData} {f sf : Str} (he : PE X o ta) (c : Cls X.K C) (hm : Meth X.K C m g) (F : FnOk X.prog X.w X.K X.mg X.base CX k g fd [sf, f] sp) (hr : Room k X.A) (hb : ∀ (s : Shared) (v u : Value), BindsTo s fd ⟨[v], [(f, u)]⟩ [(sf, v), (f, u)]) (hx : Passes CX X E) (ha : PE X e te)
    (ht : eval (.Call (.Attribute o m apos) [] [⟨some f, e, kpos⟩] pos) X.env = (do
      let v ← eval o X.env
      standAt apos.atName
      let (fn, pre) ← holding [v] (getMethod v m pl)
      callWith pos fn pre (backTo pos (starEach [] X.env)) (backToKw pos (keywordEach [⟨some f, e, kpos⟩] X.env))) := by rfl) :
    PE X (.Call (.Attribute o m apos) [] [⟨some f, e, kpos⟩] pos) (tMethK C m sp E ta te) := by
  constructor
  intro pins s σ H Q I h
  refine PySem.W.methodCall_KW (pl := pl) (thn (he.run pins s σ H _ I h) fun u s1 ⟨y, H1, I1, ry, a, dx, fs, ey, ea, l, q⟩ => ?_) ht
  subst ey
  obtain rfl : u = Value.ref a := ry
  refine getmeth_ok I1 ea c hm l ?_
  refine PySem.W.callWith_KW0 (first := [.ref a]) (h₀ := X.base) I1.ok.mod.kin hm.kp rfl ?_
  have hk : PK X [⟨some f, e, kpos⟩] (tCons te tNil) := pk_cons ha pk_nil
  refine thn (hk.run pos pins s1 σ H1 (fun zs H2 => ∃ v, zs = [v] ∧ sp [.ref a, v] H2 Q E) I1 ?_) ?_
  · exact q
  · intro us s3 ⟨zs, H2, I3, r1, v, ez, q2⟩
    subst ez
    refine ⟨I3.kIn, ?_⟩
    cases r1 with
    | cons rv rr =>
      cases rr
      rename_i u
      show wpAny _ _ (call (.ref g) [.ref a] [(f, u)]) _ _ _
      refine wpAny_call (codeAny_mono (F.run X.A X.stack s3 H2 ⟨[.ref a], [(f, u)]⟩ [.ref a, u] [.ref a, v] Q E hr I3.env0 (hb s3 (.ref a) u) (.cons rfl (.cons rv .nil)) q2) fun r s' hq => ?_)
      cases r with
      | error e => exact hx pins σ H2 s3 e s' I3 hq
      | ok fl => cases fl with
        | ret u => exact I3.after hq
        | next => exact False.elim hq
        | brk => exact False.elim hq
        | cont => exact False.elim hq
end
end SQ
namespace SQ1
open PySem L2 SQ
abbrev sEq : Stmt := inClass (top 22) 3
abbrev sRp : Stmt := inClass (top 22) 6
structure IC (K : PySem.W.Frag) (C : Addr) : Prop where
  cl : Cls K C
  ha : PySem.W.findIn K (.ref C) "__class__" = some (some (.builtin "object.__class__"))
  hn : PySem.W.specialIn K (.builtin "object.__class__") "__get__" = some (some (.builtin "getset_descriptor.__get__"))
  htk : PySem.W.takesIn K (.builtin "object.__class__") = some true
  hm : PySem.W.mroIn K C (.type "object") = some true
  self : PySem.W.kitOne K (.ref C) (.ref C) = some true
  str : PySem.W.kitOne K (.ref C) (.type "str") = some false
  strC : PySem.W.kitOne K (.type "str") (.ref C) = some false
theorem IC.ty {K : PySem.W.Frag} {C a dx : Addr} {H : Hp} {fs : List (Str × V)} (T : IC K C) (e : H a = some (.ins C dx fs)) : TyX K H (.ref a) (.ref C) := .base (.ins e T.cl T.ha T.hn T.htk T.hm)
section
variable {P : Program} {w : World} {K : PySem.W.Frag} {mg : Str → Option Value} {base : Heap} {C : Addr}
def spEqV (C : Addr) : Sp := fun vs H Q _ => ∃ (a dx dA tN : Addr) (x : Str), H a = some (.ins C dx (flds dA tN x)) ∧ ((∃ (b dy dB tM : Addr) (y : Str), vs = [.ref a, .ref b] ∧ H b = some (.ins C dy (flds dB tM y)) ∧ Q (.bl (decide (x = y))) H) ∨ ∃ z : Str, vs = [.ref a, .str z] ∧ Q (.bl false) H)
theorem scEq : FnScope ["self", "other"] ["self", "other"] (defScope sEq) := ⟨rfl, rfl, rfl, by decide +kernel, rfl, by decide +kernel, by decide +kernel⟩
theorem ok_eq {f : Addr} {fd : FuncData} (F : Fun K "__eq__" "Vocabulary.__eq__" sEq f fd) (B : B2 mg) (VV : VC K mg C) (T : IC K C) : FnOk P w K mg base CX0 1 f fd ["self", "other"] (spEqV C) := by
  refine F.ok scEq (fun vs H Q E h => ?_) (fun cdv A outer s H vs Q E hr h => ?_)
  · obtain ⟨a, dx, dA, tN, x, _, h⟩ := h
    rcases h with ⟨b, dy, dB, tM, y, rfl, _⟩ | ⟨z, rfl, _⟩ <;> rfl
  · obtain ⟨a, dx, dA, tN, x, ha, h⟩ := h
    rcases h with ⟨b, dy, dB, tM, y, rfl, hb, q⟩ | ⟨z, rfl, q⟩
    · refine ⟨_, pss_one (ps_ret (pe_and (pe_callB call_isi (by rfl) B.isi (by decide +kernel) (pa_cons (pv 1) (pa_cons (pe_glob (v := .ref C) rfl VV.g rfl) pa_nil)))
      (pe_one (pe_cmpR op_eq (pe_fld (pv 0) rfl) (pe_fld (pv 1) rfl) (by rfl))))), ?_⟩
      refine ⟨_, rfl, _, _, _, _, true, rfl, .own C, T.ty hb, T.self, _, rfl, iteT ?_⟩
      refine ⟨_, rfl, a, C, dx, _, _, rfl, ha, VV.cl, VV.nT, rfl, _, rfl, b, C, dy, _, _, rfl, hb, VV.cl, VV.nT, rfl, rfl, ?_⟩
      have e : decide (V.str x = V.str y) = decide (x = y) := by
        by_cases h : x = y
        · subst h
          rw [decide_eq_true rfl, decide_eq_true rfl]
        · rw [decide_eq_false h, decide_eq_false (fun z => h (V.str.inj z))]
      rw [e]
      exact q
    · refine ⟨_, pss_one (ps_ret (pe_and (pe_callB call_isi (by rfl) B.isi (by decide +kernel) (pa_cons (pv 1) (pa_cons (pe_glob (v := .ref C) rfl VV.g rfl) pa_nil)))
      (pe_one (pe_cmpR op_eq (pe_fld (pv 0) rfl) (pe_fld (pv 1) rfl) (by rfl))))), ?_⟩
      exact ⟨_, rfl, .str z, _, .type "str", _, false, rfl, .own C, .base (.str z), T.strC, _, rfl, iteF q⟩
def spRp (C : Addr) : Sp := fun vs H Q _ => ∃ (a dx dA tN : Addr) (x : Str), vs = [.ref a] ∧ H a = some (.ins C dx (flds dA tN x)) ∧ x.length ≤ 1000 ∧ Q (.str (Str.empty ++ "Vocabulary(" ++ x ++ ")")) H
theorem scRp : FnScope ["self"] ["self"] (defScope sRp) := ⟨rfl, rfl, rfl, by decide +kernel, rfl, by decide +kernel, by decide +kernel⟩
theorem ok_rp {f : Addr} {fd : FuncData} (F : Fun K "__repr__" "Vocabulary.__repr__" sRp f fd) (VV : VC K mg C) : FnOk P w K mg base CX0 1 f fd ["self"] (spRp C) := by
  refine F.ok scRp (fun vs H Q E h => ?_) (fun cdv A outer s H vs Q E hr h => ?_)
  · obtain ⟨a, dx, dA, tN, x, rfl, _⟩ := h
    rfl
  · obtain ⟨a, dx, dA, tN, x, rfl, ha, hx, q⟩ := h
    refine ⟨_, pss_one (ps_ret (pe_joined (.cons pe_str (.cons (pe_fmt (pe_fld (pv 0) rfl)) (.cons pe_str .nil))))), ?_⟩
    have l1 : (Str.empty ++ ("Vocabulary(" : Str)).length = 11 := by decide
    have l2 : (")" : Str).length = 1 := rfl
    have line : ∀ {n : Nat}, n ≤ 2000 → n ≤ sizeLine := fun h => Nat.le_trans h (by decide)
    refine ⟨_, rfl, by rw [l1]; exact line (by decide), _, rfl, a, C, dx, _, _, rfl, ha, VV.cl, VV.nT, rfl, ?_⟩
    refine .inl ⟨x, rfl, line (by omega), _, rfl, ?_, _, rfl, ?_, q⟩
    · rw [len_app, l1]
      exact line (by omega)
    · rw [len_app, len_app, l1, l2]
      exact line (by omega)
def spOneS : Sp := fun vs H Q _ => ∃ (u : Addr) (z : Str), vs = [.ref u, .str z] ∧ urnAt H u ∧ 0 < z.length ∧ z.length ≤ 1000 ∧
  ∀ (H' : Hp) (c : Nat), c ∈ z.cps.toList → urnAt H' u → But u H H' → Q (.str ⟨#[c]⟩) H'
theorem ok_oneS {fL fO : Addr} {fdL fdO : FuncData} (D : Drw K mg fL fO fdL fdO) (B : Blt mg) : FnOk P w K mg base CX0 2 fO fdO ["_law_urn_here", "_law_things"] spOneS := by
  have GL : FnOk P w K mg base CX0 1 fL fdL ["_law_urn_here", "_law_many"] spLot := ok_lot D.FL B
  refine D.FO.ok scO (fun vs H Q E h => ?_) (fun cdv A outer s H vs Q E hr h => ?_)
  · obtain ⟨u, z, rfl, _⟩ := h
    rfl
  · obtain ⟨u, z, rfl, hu, z0, z1, q⟩ := h
    refine ⟨_, pss_one (ps_ret (pe_ix ix_str (pv 1) (pe_call GL hr rfl D.gL D.FL.kp D.bL .nil pass0 (pa_cons (pv 0) (pa_cons (pe_callB call_len_str (by rfl) B.len PySem.boot_len (pa_cons (pv 1) pa_nil)) pa_nil))) (fun _ _ => rfl))), ?_⟩
    have hl : z.length ≤ sizeLine := Nat.le_of_lt (small1000 z1)
    refine ⟨_, rfl, _, rfl, _, rfl, z, rfl, hl, u, _, rfl, hu, by omega, by omega, fun H1 d d0 d1 hu1 bt => ?_⟩
    obtain ⟨i, rfl⟩ : ∃ i : Nat, d = i := ⟨d.toNat, by omega⟩
    have hi : i < z.cps.toList.length := by
      have : (z.cps.toList.length : Int) = z.length := by simp [Str.length]
      omega
    have hx : z.cps.toList[i]? = some z.cps.toList[i] := List.getElem?_eq_getElem hi
    exact ⟨z, _, _, rfl, rfl, hl, atI_nat hx, q H1 _ (List.getElem_mem hi) hu1 bt⟩
abbrev sLen : Stmt := inClass (top 22) 4
abbrev sAri : Stmt := inClass (top 22) 2
def spLen (C : Addr) : Sp := fun vs H Q _ => ∃ (a : Addr) (gs : List G3) (ys : List Str), vs = [.ref a] ∧ Vc C H a gs ys ∧ ys.length ≤ 8 ∧ Q (.int ys.length) H
theorem scLen : FnScope ["self"] ["self"] (defScope sLen) := ⟨rfl, rfl, rfl, by decide +kernel, rfl, by decide +kernel, by decide +kernel⟩
theorem ok_len {f : Addr} {fd : FuncData} (F : Fun K "__len__" "Vocabulary.__len__" sLen f fd) (B : B2 mg) (VV : VC K mg C) : FnOk P w K mg base CX0 1 f fd ["self"] (spLen C) := by
  refine F.ok scLen (fun vs H Q E h => ?_) (fun cdv A outer s H vs Q E hr h => ?_)
  · obtain ⟨a, gs, ys, rfl, _⟩ := h
    rfl
  · obtain ⟨a, gs, ys, rfl, ⟨dx, dA, tN, kvs, ha, hN, hA, hk⟩, hl, q⟩ := h
    refine ⟨_, pss_one (ps_ret (pe_callB call_len_seq (by rfl) B.len PySem.boot_len (pa_cons (pe_fld (pv 0) rfl) pa_nil))), ?_⟩
    refine ⟨_, rfl, a, C, dx, _, _, rfl, ha, VV.cl, VV.nN, rfl, tN, _, rfl, .inr (SqT.of hN), ?_⟩
    rw [List.length_map]
    exact q
/-- InvalidName as the top has made it -/
structure NC (K : PySem.W.Frag) (mg : Str → Option Value) (CN fJ : Addr) : Prop where
  g : mg "InvalidName" = some (.ref CN)
  T : ErrC K CN "value" [.type "ValueError", .type "Exception", .type "BaseException", .type "object"] "ValueError.__new__"
  J : ErrI K CN fJ "value"
  ty : PySem.W.typeIn K (.ref CN) = some (.type "type")
def spAri (K : PySem.W.Frag) (C CN : Addr) : Sp := fun vs H Q E => ∃ (a : Addr) (gs : List G3) (ys : List Str) (v : V), vs = [.ref a, v] ∧ Vc C H a gs ys ∧
  ((∃ n : Str, v = .str n ∧ n ∈ gnames gs ∧ ∀ t, H t = some (.tup [.int (arOf gs n).1, .int (arOf gs n).2]) → Q (.ref t) H) ∨
   (((∃ t, TyX K H v t ∧ PySem.W.kitOne K t (.type "str") = some false) ∨ ∃ n : Str, v = .str n ∧ n ∉ gnames gs) ∧ ∀ d H', Same H H' → H' d = some (.xd [("value", v)]) → E (.ref CN) (some d) H'))
theorem scAri : FnScope ["self", "name"] ["self", "name"] (defScope sAri) := ⟨rfl, rfl, rfl, by decide +kernel, rfl, by decide +kernel, by decide +kernel⟩
theorem ok_ari {CN fJ f : Addr} {fd : FuncData} (F : Fun K "arity" "Vocabulary.arity" sAri f fd) (B : B2 mg) (VV : VC K mg C) (Z : NC K mg CN fJ) : FnOk P w K mg base (L2.CX P w) 2 f fd ["self", "name"] (spAri K C CN) := by
  refine F.okX scAri (fun vs H Q E h => ?_) (fun cdv A outer s H vs Q E hr h => ?_)
  · obtain ⟨a, gs, ys, v, rfl, _⟩ := h
    rfl
  · obtain ⟨a, gs, ys, v, rfl, ⟨dx, dA, tN, kvs, ha, hN, hA, hk⟩, h⟩ := h
    have hu := hu_of hr
    refine ⟨_, pss_cons (ps_if (PW.pt (pw_or (pt_not (pt_val (pe_callB call_isi (by rfl) B.isi (by decide +kernel) (pa_cons (pv 1) (pa_cons (pe_bltn (v := .ty "str") (by rfl) B.str (by decide +kernel) rfl) pa_nil)))))
        (pw_or1 (pt_cmp (pc_dnotin hu (pv 1) (pe_fld (pv 0) rfl))))))
        (pss_one (ps_raise rfl (takes_of rfl rfl rfl rfl) (pmk_of5 (pmk5_err (.inl rfl) bValue Z.T Z.J Z.ty Z.g (dp_of hr) rfl (pv 1))))) pss_nil)
      (pss_one (ps_ret (pe_dget hu (pe_fld (pv 0) rfl) (pv 1) (fun _ _ => rfl)))), ?_⟩
    rcases h with ⟨n, rfl, hn, q⟩ | ⟨h, kE⟩
    · obtain ⟨t, v1, v2⟩ := hk.at hn
      refine ⟨_, rfl, .str n, .ty "str", .type "str", .type "str", true, rfl, .ty "str", .base (.str n), kit_ty (by decide +kernel), _, rfl, iteF ?_⟩
      refine ⟨_, rfl, _, rfl, a, C, dx, _, _, rfl, ha, VV.cl, VV.nA, rfl, dA, _, rfl, DGet.k (k := Sum.inr n) hA, _, rfl, ?_⟩
      rw [v1]
      refine iteF ⟨_, rfl, a, C, dx, _, _, rfl, ha, VV.cl, VV.nA, rfl, _, rfl, dA, .ref t, rfl, ?_, q t v2⟩
      rw [← v1]
      exact DGet.k (k := Sum.inr n) hA
    · rcases h with ⟨t, ty, ki⟩ | ⟨n, rfl, hn⟩
      · refine ⟨_, rfl, v, .ty "str", t, .type "str", false, rfl, .ty "str", ty, ki, _, rfl, iteT ⟨_, rfl, fun d nd => ?_⟩⟩
        exact kE d _ (same_new (fun _ _ e => e) nd) upd_same
      · refine ⟨_, rfl, .str n, .ty "str", .type "str", .type "str", true, rfl, .ty "str", .base (.str n), kit_ty (by decide +kernel), _, rfl, iteF ?_⟩
        refine ⟨_, rfl, _, rfl, a, C, dx, _, _, rfl, ha, VV.cl, VV.nA, rfl, dA, _, rfl, DGet.k (k := Sum.inr n) hA, _, rfl, ?_⟩
        rw [hk.no hn]
        refine iteT ⟨_, rfl, fun d nd => ?_⟩
        exact kE d _ (same_new (fun _ _ e => e) nd) upd_same
end
end SQ1
namespace SQ1
open PySem L2 SQ
/-! ### the lines that the law makes -/
theorem mem_jn {S : List Nat} {c : Nat} : ∀ {ps : List (List Nat)} {p : List Nat}, p ∈ ps → c ∈ p → c ∈ jn S ps
  | [], p, h, _ => nomatch h
  | [x], p, h, hc => by
    rw [List.mem_singleton.mp h] at hc
    exact hc
  | x :: y :: r, p, h, hc => by
    show c ∈ x ++ (S ++ jn S (y :: r))
    rcases List.mem_cons.mp h with rfl | h
    · exact List.mem_append_left _ hc
    · exact List.mem_append_right _ (List.mem_append_right _ (mem_jn h hc))
def tot (n : Nat) (ps : List Str) : Nat := (ps.map (·.length)).sum + ps.length * n
theorem join_tot (sep : Str) (ps : List Str) : (Str.join sep ps).length ≤ tot sep.length ps := StrLaws.join_length_le sep ps
def abcz : List Nat := [97, 98, 99, 120, 121, 122, 113, 107]
structure Tit (x : Str) : Prop where
  lo : 1 ≤ x.length
  hi : x.length ≤ 8
  sg : ∀ c ∈ x.cps.toList, c ∈ abcz
theorem tit_name {x : Str} (t : Tit x) : nameOk x = true := by
  unfold nameOk
  have h1 := t.lo
  have h2 := t.hi
  rw [decide_eq_true (by omega), decide_eq_true (by omega), Bool.true_and, Bool.true_and, List.all_eq_true]
  intro c hc
  have hm := t.sg c hc
  have : ∀ c ∈ abcz, c ∈ letters := by decide
  exact decide_eq_true (this c hm)
theorem tit_core {x : Str} (t : Tit x) : x ∉ cores := by
  intro h
  have : ∀ y ∈ cores, ¬ ∀ c ∈ y.cps.toList, c ∈ abcz := by decide +kernel
  exact this x h t.sg
theorem tit_free {x : Str} (t : Tit x) : isFree (.str x) = true := by
  show (nameOk x && !decide (x ∈ cores)) = true
  rw [tit_name t, decide_eq_false (tit_core t)]
  rfl
/-- an entry's text as the law writes it -/
def ltext (g : G3) : Str := g.1 ++ " " ++ ((toString g.2.1 : String) : Str) ++ " " ++ ((toString g.2.2 : String) : Str)
theorem ltext_e (g : G3) : ltext g = etext g.1 g.2.1 g.2.2 := by
  apply str_ext
  unfold ltext etext
  simp only [str_app, List.append_assoc]
  rfl
structure GoodG (gs : List G3) : Prop where
  tit : ∀ g ∈ gs, Tit g.1
  ar : ∀ g ∈ gs, (0 ≤ g.2.1 ∧ g.2.1 ≤ 3) ∧ 0 ≤ g.2.2 ∧ g.2.2 ≤ 3
  nd : (gnames gs).Nodup
  so : PyProof.Rows.sortedS (gnames gs) = true
  few : gs.length ≤ 8
def lineOf (gs : List G3) : Str := Str.join ", " (gs.map ltext)
theorem ltext_len {g : G3} (t : Tit g.1) (a : (0 ≤ g.2.1 ∧ g.2.1 ≤ 3) ∧ 0 ≤ g.2.2 ∧ g.2.2 ≤ 3) : (ltext g).length ≤ 12 := by
  unfold ltext
  have h1 := len_num a.1.1 a.1.2
  have h2 := len_num a.2.1 a.2.2
  have h3 : (" " : Str).length = 1 := rfl
  have h4 := t.hi
  rw [len_app, len_app, len_app, len_app, h1, h2, h3]
  omega
theorem sums_le {k : Nat} : ∀ {l : List Nat}, (∀ x ∈ l, x ≤ k) → l.sum ≤ l.length * k
  | [], _ => by simp
  | x :: l, h => by
    have h1 := sums_le (l := l) fun y hy => h y (List.mem_cons_of_mem _ hy)
    have h2 := h x List.mem_cons_self
    rw [List.sum_cons, List.length_cons, Nat.add_mul, Nat.one_mul]
    omega
theorem line_len {gs : List G3} (G : GoodG gs) : (lineOf gs).length ≤ 200 := by
  have h1 := join_tot ", " (gs.map ltext)
  unfold tot at h1
  have h2 : (((gs.map ltext).map (·.length))).sum ≤ ((gs.map ltext).map (·.length)).length * 12 := sums_le fun x hx => by
    obtain ⟨y, hy, rfl⟩ := List.mem_map.mp hx
    obtain ⟨g, hg, rfl⟩ := List.mem_map.mp hy
    exact ltext_len (G.tit g hg) (G.ar g hg)
  rw [List.length_map, List.length_map] at h2
  rw [List.length_map] at h1
  have h3 : (", " : Str).length = 2 := rfl
  rw [h3] at h1
  have h4 := G.few
  unfold lineOf
  omega
theorem line_parts {gs : List G3} (G : GoodG gs) : partsOf (lineOf gs) = gs.map ltext := by
  cases gs with
  | nil => rfl
  | cons g gs =>
    have ne : lineOf (g :: gs) ≠ "" := by
      intro z
      have hm : (32 : Nat) ∈ (lineOf (g :: gs)).cps.toList := by
        unfold lineOf
        rw [tl_join]
        refine mem_jn (p := (ltext g).cps.toList) (List.mem_map.mpr ⟨ltext g, List.mem_map.mpr ⟨g, List.mem_cons_self, rfl⟩, rfl⟩) ?_
        unfold ltext
        simp only [str_app]
        exact List.mem_append_left _ (List.mem_append_left _ (List.mem_append_left _ (List.mem_append_right _ (by decide))))
      rw [z] at hm
      exact absurd hm (by decide)
    unfold partsOf
    rw [if_neg ne]
    unfold lineOf
    refine split_join (c := 44) (S := [32]) (by decide +kernel) (by decide +kernel) (by simp) fun p hp => ?_
    obtain ⟨h, hh, rfl⟩ := List.mem_map.mp hp
    obtain ⟨⟨a1, a2⟩, a3, a4⟩ := G.ar h hh
    rw [ltext_e]
    exact etext_44 (tit_free (G.tit h hh)) a1 a2 a3 a4
theorem line_good {gs : List G3} (G : GoodG gs) : goodText (lineOf gs) = true := by
  have en : ∀ g ∈ gs, entryOf (ltext g) = some g ∧ nameOf (ltext g) = g.1 := fun g hg => by
    obtain ⟨⟨a1, a2⟩, a3, a4⟩ := G.ar g hg
    rw [ltext_e]
    have e := entry_of (tit_free (G.tit g hg)) a1 a2 a3 a4
    exact ⟨e, (entry_ok e).2.2.2.2⟩
  have names : namesOf (lineOf gs) = gnames gs := by
    unfold namesOf gnames
    rw [line_parts G, List.map_map]
    exact List.map_congr_left fun g hg => (en g hg).2
  unfold goodText
  rw [names, line_parts G, List.length_map, decide_eq_true G.few, decide_eq_true G.nd, G.so]
  have ha : ((gs.map ltext).all fun p => (entryOf p).isSome) = true := by
    rw [List.all_eq_true]
    intro p hp
    obtain ⟨g, hg, rfl⟩ := List.mem_map.mp hp
    rw [(en g hg).1]
    rfl
  rw [ha]
  rfl
/-- an entry's text says the entry -/
theorem ltext_inj {g h : G3} (tg : Tit g.1) (ag : (0 ≤ g.2.1 ∧ g.2.1 ≤ 3) ∧ 0 ≤ g.2.2 ∧ g.2.2 ≤ 3) (th : Tit h.1) (ah : (0 ≤ h.2.1 ∧ h.2.1 ≤ 3) ∧ 0 ≤ h.2.2 ∧ h.2.2 ≤ 3) (e : ltext g = ltext h) : g = h := by
  have e1 := entry_of (tit_free tg) ag.1.1 ag.1.2 ag.2.1 ag.2.2
  have e2 := entry_of (tit_free th) ah.1.1 ah.1.2 ah.2.1 ah.2.2
  rw [← ltext_e] at e1 e2
  rw [e, e2] at e1
  exact (Option.some.inj e1).symm
theorem line_inj {gs hs : List G3} (G : GoodG gs) (I : GoodG hs) (e : lineOf gs = lineOf hs) : gs = hs := by
  have p := line_parts G
  rw [e, line_parts I] at p
  have go : ∀ (xs ys : List G3), (∀ g ∈ xs, Tit g.1 ∧ ((0 ≤ g.2.1 ∧ g.2.1 ≤ 3) ∧ 0 ≤ g.2.2 ∧ g.2.2 ≤ 3)) → (∀ g ∈ ys, Tit g.1 ∧ ((0 ≤ g.2.1 ∧ g.2.1 ≤ 3) ∧ 0 ≤ g.2.2 ∧ g.2.2 ≤ 3)) → ys.map ltext = xs.map ltext → xs = ys := by
    intro xs
    induction xs with
    | nil =>
      intro ys _ _ h
      cases ys with
      | nil => rfl
      | cons y ys => cases h
    | cons x xs ih =>
      intro ys hx hy h
      cases ys with
      | nil => cases h
      | cons y ys =>
        rw [List.map_cons, List.map_cons, List.cons.injEq] at h
        have a := hx x List.mem_cons_self
        have b := hy y List.mem_cons_self
        rw [ltext_inj a.1 a.2 b.1 b.2 h.1.symm, ih ys (fun g hg => hx g (List.mem_cons_of_mem _ hg)) (fun g hg => hy g (List.mem_cons_of_mem _ hg)) h.2]
  exact go gs hs (fun g hg => ⟨G.tit g hg, G.ar g hg⟩) (fun g hg => ⟨I.tit g hg, I.ar g hg⟩) p
/-- entries in any order -/
structure GoodE (es : List G3) : Prop where
  tit : ∀ g ∈ es, Tit g.1
  ar : ∀ g ∈ es, (0 ≤ g.2.1 ∧ g.2.1 ≤ 3) ∧ 0 ≤ g.2.2 ∧ g.2.2 ≤ 3
  nd : (gnames es).Nodup
  few : es.length ≤ 8
structure SrtOf (es S : List G3) : Prop where
  pm : S.Perm es
  so : PyProof.Rows.sortedS (gnames S) = true
theorem names_pm {es S : List G3} (p : S.Perm es) : (gnames S).Perm (gnames es) := p.map _
theorem SrtOf.good {es S : List G3} (G : GoodE es) (h : SrtOf es S) : GoodG S := ⟨fun g hg => G.tit g (h.pm.mem_iff.mp hg), fun g hg => G.ar g (h.pm.mem_iff.mp hg), (names_pm h.pm).nodup_iff.mpr G.nd, h.so, by rw [h.pm.length_eq]; exact G.few⟩
theorem GoodE.perm {es fs : List G3} (G : GoodE es) (p : fs.Perm es) : GoodE fs := ⟨fun g hg => G.tit g (p.mem_iff.mp hg), fun g hg => G.ar g (p.mem_iff.mp hg), (names_pm p).nodup_iff.mpr G.nd, by rw [p.length_eq]; exact G.few⟩
/-- a list is told by its names and its entries -/
theorem by_names {es : List G3} (nd : (gnames es).Nodup) : ∀ {xs ys : List G3}, (∀ g ∈ xs, g ∈ es) → (∀ g ∈ ys, g ∈ es) → gnames xs = gnames ys → xs = ys
  | [], [], _, _, _ => rfl
  | [], y :: ys, _, _, h => nomatch h
  | x :: xs, [], _, _, h => nomatch h
  | x :: xs, y :: ys, hx, hy, h => by
    have h' : x.1 :: gnames xs = y.1 :: gnames ys := h
    rw [List.cons.injEq] at h'
    have e1 := ar_self nd x (hx x List.mem_cons_self)
    have e2 := ar_self nd y (hy y List.mem_cons_self)
    rw [h'.1, e2] at e1
    have e : x = y := Prod.ext h'.1 e1.symm
    rw [e, by_names nd (fun g hg => hx g (List.mem_cons_of_mem _ hg)) (fun g hg => hy g (List.mem_cons_of_mem _ hg)) h'.2]
theorem srt_one {es S T : List G3} (G : GoodE es) (a : SrtOf es S) (b : SrtOf es T) : S = T := by
  have e : gnames S = gnames T := sorted_one a.so b.so ((names_pm a.pm).trans (names_pm b.pm).symm)
  exact by_names G.nd (fun g hg => a.pm.mem_iff.mp hg) (fun g hg => b.pm.mem_iff.mp hg) e
/-- the text that __init__ makes -/
theorem vtext_line {es gs S : List G3} (G : GoodE es) (p : gs.Perm es) (h : SrtOf es S) : vtext gs (gnames S) = lineOf S := by
  have nd : (gnames gs).Nodup := (names_pm p).nodup_iff.mpr G.nd
  show Builtin.Str.glued ", " _ = _
  rw [StrLaws.glued_eq_join]
  unfold lineOf gnames
  rw [List.map_map]
  congr 1
  refine List.map_congr_left fun g hg => ?_
  rw [ltext_e]
  show etext g.1 (arOf gs g.1).1 (arOf gs g.1).2 = _
  rw [ar_self nd g (p.mem_iff.mpr (h.pm.mem_iff.mp hg))]
theorem line_ens {S : List G3} (G : GoodG S) : ensOf (lineOf S) = S.map some := by
  unfold ensOf
  rw [line_parts G, List.map_map]
  refine List.map_congr_left fun g hg => ?_
  obtain ⟨⟨a1, a2⟩, a3, a4⟩ := G.ar g hg
  show entryOf (ltext g) = some g
  rw [ltext_e]
  exact entry_of (tit_free (G.tit g hg)) a1 a2 a3 a4
/-- a sorted list by lex3 has sorted names -/
theorem rising_of : ∀ (l : List Str) (p : Str), (p :: l).Pairwise (fun a b => ¬ b.cps.toList < a.cps.toList) → PyProof.Rows.risingS p l = true
  | [], p, _ => rfl
  | x :: l, p, h => by
    obtain ⟨h1, h2⟩ := List.pairwise_cons.mp h
    show (!Spec.ltCps x.cps.toList p.cps.toList && PyProof.Rows.risingS x l) = true
    rw [PyProof.Rows.ltCps_eq, decide_eq_false (h1 x List.mem_cons_self), rising_of l x h2]
    rfl
theorem sorted_of {l : List Str} (h : l.Pairwise fun a b => ¬ b.cps.toList < a.cps.toList) : PyProof.Rows.sortedS l = true := by
  cases l with
  | nil => rfl
  | cons x l => exact rising_of l x h
theorem srt3_names {S : List G3} (h : S.Pairwise fun x y => lex3 y x = false) : PyProof.Rows.sortedS (gnames S) = true := by
  refine sorted_of ?_
  unfold gnames
  rw [List.pairwise_map]
  refine h.imp fun {x y} e => ?_
  by_cases z : y.1 = x.1
  · rw [z]
    exact List.lt_irrefl _
  · exact cps_asym ((lex3_no z).mp e)
end SQ1
namespace SQ1
open PySem L2 SQ
abbrev sTxt : Stmt := top 30
abbrev nTx : List Str := ["_law_entries_here", "_law_each", "_law_part"]
theorem scTxt : FnScope nTx ["_law_entries_here"] (defScope sTxt) := ⟨rfl, rfl, rfl, by decide +kernel, rfl, by decide +kernel, by decide +kernel⟩
theorem callR_or {X : Cx} {f : Value} {r1 r2 : List V → Hp → VK → Prop} (h1 : CallR X f r1) (h2 : CallR X f r2) : CallR X f (fun xs H Q => r1 xs H Q ∨ r2 xs H Q) := fun pins s σ H xs us Q I r h => h.elim (h1 pins s σ H xs us Q I r) (h2 pins s σ H xs us Q I r)
theorem pi_tupK {X : Cx} {K : PySem.W.Frag} {tg l : Expr} {tl : TE} (h : X.K = K) (hl : PE X l tl) : PI X tg l (iTup K tl) := by
  subst h
  exact pi_tup hl
theorem pe_joinK {X : Cx} {K : PySem.W.Frag} {o e : Expr} {apos pos : Pos} {to te : TE} (h : X.K = K) (j : PE X (.Call (.Attribute o "join" apos) [e] [] pos) (tM1 (fun x xs H Q => ∃ a p, ∃ ys : List Str, x = .str a ∧ xs = [.ref p] ∧ (SqL X.K H p (ys.map V.str) ∨ SqT X.K H p (ys.map V.str)) ∧ (ys.map (·.length)).sum + ys.length * a.length ≤ 16777216 ∧ Q (.str (Txt.join a ys)) H) to te)) :
    PE X (.Call (.Attribute o "join" apos) [e] [] pos) (tM1 (fun x xs H Q => ∃ a p, ∃ ys : List Str, x = .str a ∧ xs = [.ref p] ∧ (SqL K H p (ys.map V.str) ∨ SqT K H p (ys.map V.str)) ∧ (ys.map (·.length)).sum + ys.length * a.length ≤ 16777216 ∧ Q (.str (Txt.join a ys)) H) to te) := by
  subst h
  exact j
/-- the entries as they lie in a list -/
def Trs (H : Hp) (xs : List V) (es : List G3) : Prop := Paired (fun x g => ∃ t, x = V.ref t ∧ H t = some (.tup [.str g.1, .int g.2.1, .int g.2.2])) xs es
theorem Trs.same {H H' : Hp} {xs : List V} {es : List G3} (s : Same H H') (h : Trs H xs es) : Trs H' xs es := Paired.mapP h fun a b ⟨t, e1, e2⟩ => ⟨t, e1, s _ _ e2⟩
theorem Trs.len {H : Hp} {xs : List V} {es : List G3} (h : Trs H xs es) : xs.length = es.length := Paired.length h
def keyT (H : Hp) (x : V) : G3 := match x with
  | .ref t => match H t with
    | some (.tup [.str n, .int i, .int j]) => (n, i, j)
    | _ => ("", 0, 0)
  | _ => ("", 0, 0)
theorem Trs.key {H : Hp} : ∀ {xs : List V} {es : List G3}, Trs H xs es → xs.map (keyT H) = es
  | _, _, .nil => rfl
  | _, _, .cons r t => by
    obtain ⟨a, e1, e2⟩ := r
    rw [List.map_cons, Trs.key t, e1]
    unfold keyT
    simp only [e2]
theorem Trs.each {H : Hp} : ∀ {xs : List V} {es : List G3}, Trs H xs es → ∀ x ∈ xs, ∃ t, x = V.ref t ∧ H t = some (.tup [.str (keyT H x).1, .int (keyT H x).2.1, .int (keyT H x).2.2])
  | _, _, .nil, x, h => nomatch h
  | _, _, .cons r t, x, h => by
    rcases List.mem_cons.mp h with rfl | h
    · obtain ⟨a, e1, e2⟩ := r
      refine ⟨a, e1, ?_⟩
      rw [e1]
      unfold keyT
      simp only [e2]
    · exact Trs.each t x h
theorem Trs.of {H : Hp} : ∀ {xs : List V}, (∀ x ∈ xs, ∃ t, x = V.ref t ∧ H t = some (.tup [.str (keyT H x).1, .int (keyT H x).2.1, .int (keyT H x).2.2])) → Trs H xs (xs.map (keyT H))
  | [], _ => .nil
  | x :: xs, h => .cons (h x List.mem_cons_self) (Trs.of fun y hy => h y (List.mem_cons_of_mem _ hy))
theorem Paired.at {α β : Type} {F : α → β → Prop} : ∀ {l : List α} {m : List β} {i : Nat} {x : α}, Paired F l m → l[i]? = some x → ∃ y, m[i]? = some y ∧ F x y
  | _, _, i, x, .nil, h => by simp at h
  | _, _, 0, x, .cons r t, h => by
    simp at h
    subst h
    exact ⟨_, rfl, r⟩
  | _, _, i + 1, x, .cons r t, h => by
    rw [List.getElem?_cons_succ] at h
    obtain ⟨y, h1, h2⟩ := Paired.at t h
    exact ⟨y, by rw [List.getElem?_cons_succ]; exact h1, h2⟩
/-- _law_text promises the line of the sorted entries -/
def spTxt (K : PySem.W.Frag) : Sp := fun vs H Q _ => ∃ (l : Addr) (xs : List V) (es : List G3), vs = [.ref l] ∧ H l = some (.lst xs) ∧ Trs H xs es ∧ GoodE es ∧ ∀ (S : List G3) (H' : Hp), SrtOf es S → Same H H' → Q (.str (lineOf S)) H'
theorem join3 (g : G3) : Txt.join " " [g.1, ((toString g.2.1 : String) : Str), ((toString g.2.2 : String) : Str)] = ltext g := by
  show Builtin.Str.glued " " _ = _
  rw [StrLaws.glued_eq_join, ltext_e, etext_join]
section
variable {P : Program} {w : World} {K : PySem.W.Frag} {mg : Str → Option Value} {base : Heap}
theorem ok_txt {f : Addr} {fd : FuncData} (F : Fun K "_law_text" "_law_text" sTxt f fd) (B : B2 mg) (B4' : B4 mg) : FnOk P w K mg base CX0 1 f fd ["_law_entries_here"] (spTxt K) := by
  refine F.ok scTxt (fun vs H Q E h => ?_) (fun cdv A outer s H vs Q E hr h => ?_)
  · obtain ⟨l, xs, es, rfl, _⟩ := h
    rfl
  · obtain ⟨l, xs, es, rfl, hl, ht, G, q⟩ := h
    refine ⟨_, pss_one (ps_ret (pe_join pe_str (pe_lc (own := [("_law_each", 1)]) (g := gName 1) (tt := tYes) rfl scTxt.nd (pi_list (pe_callB cr_sorted3 (by rfl) B4'.sorted (by decide +kernel) (pa_cons (pv 0) pa_nil))) (blkOk_by (N := nTx) (sc := defScope sTxt) (by decide +kernel))
      (fun _ _ _ _ _ => pg_name (i := 1) scTxt.nd rfl (.inl rfl)) (fun _ _ _ _ _ => pts_nil)
      (fun _ _ _ _ _ => pe_joinK (K := K) rfl (pe_join pe_str (pe_lc (own := [("_law_part", 2)]) (g := gName 2) (tt := tYes) rfl scTxt.nd (pi_tupK (K := K) rfl (pv 1)) (blkOk_by (N := nTx) (sc := { kind := ScopeKind.function, names := [(".0", NameKind.local), ("_law_each", NameKind.local)], isGenerator := false, isCoroutine := false }) (by decide +kernel))
        (fun _ _ _ _ _ => pg_name (i := 2) scTxt.nd rfl (.inl rfl)) (fun _ _ _ _ _ => pts_nil)
        (fun _ _ _ _ _ => pe_callTy (callR_or SkE.call_str_str call_str_int) (by rfl) B.str (by decide +kernel) (pa_cons (pv 2) pa_nil)))))))), ?_⟩
    have k3 : ∀ g : G3, g ∈ es → g.1.length ≤ 8 := fun g hg => (G.tit g hg).hi
    refine ⟨⟨_, rfl⟩, _, rfl, ?_⟩
    refine ⟨l, xs, keyT H, rfl, SqL.of hl, ht.each, fun ys p so pm np => ?_⟩
    refine ⟨p, rfl, ⟨_, SqL.of upd_same⟩, fun D nD => ?_⟩
    have eS : ys.map (keyT H) = ys.map (keyT H) := rfl
    generalize hS : ys.map (keyT H) = S at eS
    have pS : S.Perm es := by
      rw [← hS, ← ht.key]
      exact pm.map _
    have oS : SrtOf es S := ⟨pS, srt3_names (by rw [← hS, List.pairwise_map]; exact so)⟩
    have tS : Trs H ys S := by
      rw [← hS]
      exact Trs.of fun x hx => ht.each x (pm.mem_iff.mp hx)
    have GS := oS.good G
    have sp : Same H (upd H p (.lst ys)) := same_new (fun _ _ e => e) np
    have lS : ys.length = S.length := tS.len
    have few := GS.few
    refine lc_list (K := K) (a := p) (xs := ys) (fun i G2 => Same (upd H p (.lst ys)) G2 ∧ G2 D = some (.lst (((S.take i).map ltext).map V.str))) ⟨same_new (fun _ _ e => e) nD, upd_same⟩ (fun i G2 _ h => SqL.of (h.1 _ _ upd_same)) ?_ ?_
    · rintro i v G2 hi ⟨s2, hD⟩
      obtain ⟨g, hg, t, rfl, e2⟩ := Paired.at tS hi
      have e3 := s2 _ _ (sp _ _ e2)
      have gm : g ∈ S := List.mem_of_getElem? hg
      obtain ⟨⟨i0, i3⟩, j0, j3⟩ := GS.ar g gm
      have n8 := (GS.tit g gm).hi
      have li := len_num i0 i3
      have lj := len_num j0 j3
      refine ⟨rfl, keptT ⟨⟨_, rfl⟩, _, rfl, t, rfl, ⟨_, SqT.of e3⟩, fun D2 nD2 => ?_⟩⟩
      have DD : D ≠ D2 := ne_of_none hD nD2
      refine lc_tup (K := K) (a := t) (xs := [.str g.1, .int g.2.1, .int g.2.2]) (fun k G3' => G3' = upd G2 D2 (.lst ((([g.1, ((toString g.2.1 : String) : Str), ((toString g.2.2 : String) : Str)] : List Str).take k).map V.str))) rfl (fun k G3' _ e => by rw [e]; exact SqT.of (by rw [upd_ne (ne_of_none e3 nD2)]; exact e3)) ?_ ?_
      · rintro k x G3' hk rfl
        match k, hk with
        | 0, hk =>
          cases hk
          refine ⟨rfl, keptT ⟨_, rfl, .inl ⟨g.1, rfl, _, upd_same, (by show 0 < sizeLine; decide), ?_⟩⟩⟩
          rw [upd_upd]
          rfl
        | 1, hk =>
          cases hk
          refine ⟨rfl, keptT ⟨_, rfl, .inr ⟨g.2.1, rfl, small_log i0 (by omega), _, upd_same, (by show 1 < sizeLine; decide), ?_⟩⟩⟩
          rw [upd_upd]
          rfl
        | 2, hk =>
          cases hk
          refine ⟨rfl, keptT ⟨_, rfl, .inr ⟨g.2.2, rfl, small_log j0 (by omega), _, upd_same, (by show 2 < sizeLine; decide), ?_⟩⟩⟩
          rw [upd_upd]
          rfl
        | k + 3, hk => cases hk
      · rintro G3' rfl
        refine ⟨_, D2, [g.1, ((toString g.2.1 : String) : Str), ((toString g.2.2 : String) : Str)], rfl, rfl, .inl (SqL.of upd_same), ?_, ?_⟩
        · show (g.1.length + (((toString g.2.1 : String) : Str).length + (((toString g.2.2 : String) : Str).length + 0))) + 3 * 1 ≤ _
          rw [li, lj]
          omega
        · refine ⟨_, (by rw [upd_ne DD]; exact hD), small1000 (by rw [List.length_map, List.length_map, List.length_take]; omega), ?_, ?_⟩
          · intro b ob e
            have e1 := s2 _ _ e
            rw [upd_ne (ne_of_none e nD), upd_ne (ne_of_none e1 nD2)]
            exact e1
          · rw [upd_same, take_more hg, List.map_append, List.map_append, join3]
            rfl
    · rintro G2 ⟨s2, hD⟩
      rw [lS, List.take_length] at hD
      refine ⟨_, D, S.map ltext, rfl, rfl, .inl (SqL.of hD), ?_, ?_⟩
      · have h2 : ((S.map ltext).map (·.length)).sum ≤ ((S.map ltext).map (·.length)).length * 12 := sums_le fun x hx => by
          obtain ⟨y, hy, rfl⟩ := List.mem_map.mp hx
          obtain ⟨g, hg, rfl⟩ := List.mem_map.mp hy
          exact ltext_len (GS.tit g hg) (GS.ar g hg)
        rw [List.length_map, List.length_map] at h2
        rw [List.length_map]
        have h3 : (", " : Str).length = 2 := rfl
        rw [h3]
        omega
      · have e : Txt.join ", " (S.map ltext) = lineOf S := by
          show Builtin.Str.glued ", " _ = _
          rw [StrLaws.glued_eq_join]
          rfl
        have q' := q S G2 oS (st sp s2)
        rw [← e] at q'
        exact q'
end
end SQ1
namespace SQ1
open PySem L2 SQ
abbrev sMd : Stmt := top 29
abbrev nMd : List Str := ["_law_entries_here", "_law_some"]
theorem scMd : FnScope nMd ["_law_entries_here"] (defScope sMd) := ⟨rfl, rfl, rfl, by decide +kernel, rfl, by decide +kernel, by decide +kernel⟩
theorem passX {X : Cx} : Passes (L2.CX X.prog X.w) X E0 := fun _ _ _ _ _ _ _ ⟨_, _, _, _, _, _, _, _, _, _, _, _, h⟩ => (show False from h).elim
theorem passN {X : Cx} : Passes (L2N.CX X.prog X.w) X E0 := fun _ _ _ _ _ _ _ ⟨_, _, _, _, _, _, _, _, _, _, _, _, h⟩ => (show False from h).elim
/-- a vocabulary of the entries es, S the sorted ones -/
def VcS (C : Addr) (H : Hp) (o : Addr) (es S : List G3) : Prop := ∃ gs : List G3, gs.Perm es ∧ SrtOf es S ∧ Vc C H o gs (gnames S) ∧ vtext gs (gnames S) = lineOf S
def spMd (K : PySem.W.Frag) (C : Addr) : Sp := fun vs H Q _ => ∃ (l : Addr) (xs : List V) (es : List G3), vs = [.ref l] ∧ H l = some (.lst xs) ∧ Trs H xs es ∧ GoodE es ∧ ∀ (o : Addr) (S : List G3) (H' : Hp), SrtOf es S → Same H H' → VcS C H' o es S → Q (.ref o) H'
theorem ar_is {i : Int} (h0 : 0 ≤ i) (h1 : i ≤ 3) : isAr (.int i) = true := by
  show (decide (0 ≤ i) && decide (i ≤ 3)) = true
  rw [decide_eq_true h0, decide_eq_true h1]
  rfl
theorem trs_ents {H : Hp} {xs : List V} {es : List G3} (t : Trs H xs es) (ok : ∀ g ∈ es, Tit g.1 ∧ (0 ≤ g.2.1 ∧ g.2.1 ≤ 3) ∧ 0 ≤ g.2.2 ∧ g.2.2 ≤ 3) : Ents H xs (es.map some) := by
  induction t with
  | nil => exact .nil
  | @cons x g xs es r t ih =>
    obtain ⟨a, rfl, e⟩ := r
    obtain ⟨h1, ⟨h2, h3⟩, h4, h5⟩ := ok g List.mem_cons_self
    refine .cons (.good e ?_ ?_) (ih fun g hg => ok g (List.mem_cons_of_mem _ hg))
    · have := h1.hi
      omega
    · rw [tit_free h1, ar_is h2 h3, ar_is h4 h5]
      rfl
theorem GoodE.ok {es : List G3} (G : GoodE es) : ∀ g ∈ es, Tit g.1 ∧ (0 ≤ g.2.1 ∧ g.2.1 ≤ 3) ∧ 0 ≤ g.2.2 ∧ g.2.2 ≤ 3 := fun g hg => ⟨G.tit g hg, G.ar g hg⟩
/-- a sorted list of the names makes the sorted entries -/
theorem srt_of {es : List G3} (G : GoodE es) {ys : List Str} (p : ys.Perm (gnames es)) (so : PyProof.Rows.sortedS ys = true) : ∃ S, SrtOf es S ∧ ys = gnames S := by
  refine ⟨ys.map fun n => (n, arOf es n), ⟨?_, ?_⟩, ?_⟩
  · have e : es = (gnames es).map fun n => (n, arOf es n) := by
      unfold gnames
      rw [List.map_map]
      refine (List.map_id _).symm.trans (List.map_congr_left fun g hg => ?_)
      show g = (g.1, arOf es g.1)
      rw [ar_self G.nd g hg]
    have q := p.map fun n => (n, arOf es n)
    rw [← e] at q
    exact q
  · unfold gnames
    rw [List.map_map]
    show PyProof.Rows.sortedS (ys.map fun n => n) = true
    rw [List.map_id']
    exact so
  · unfold gnames
    rw [List.map_map]
    exact (List.map_id' ys).symm
/-- Vocabulary(..) of good entries -/
theorem init_good {C CE : Addr} {H2 : Hp} {vs : List V} {es : List G3} {Q : VK} {x dx : Addr} (nx : H2 x = none) (ndx : H2 dx = none) (ne : dx ≠ x) (t : Trs H2 vs es) (G : GoodE es)
    (q : ∀ (S : List G3) (H' : Hp), SrtOf es S → Same H2 H' → VcS C H' x es S → Q (.ref x) H') : spInit C CE (V.ref x :: vs) (upd (upd H2 dx (.own x)) x (.ins C dx [])) (fun v H' => v = .non ∧ Q (.ref x) H') E0 := by
  have l := t.len
  have f := G.few
  have vn := none_verdict G.nd f
  refine init_any nx ndx ne (trs_ents t G.ok) (by omega) (fun idx hv => ?_) (fun _ gs eg H' ys p so s' V => ?_)
  · rw [vn] at hv
    cases hv
  · have e : gs = es := (List.map_inj_right (fun a b hab => Option.some.inj hab) |>.mp eg).symm
    subst e
    obtain ⟨S, oS, rfl⟩ := srt_of G p so
    exact q S H' oS s' ⟨_, List.Perm.refl _, oS, V, vtext_line G (List.Perm.refl _) oS⟩
theorem itY {c A B : Prop} [Decidable c] (hc : c) (h : A) : if decide c = true then A else B := by
  rw [if_pos (decide_eq_true hc)]
  exact h
theorem itN {c A B : Prop} [Decidable c] (hc : ¬ c) (h : B) : if decide c = true then A else B := by
  rw [decide_eq_false hc]
  exact iteF h
section
variable {P : Program} {w : World} {K : PySem.W.Frag} {mg : Str → Option Value} {base : Heap} {C CE CT fIn fRd fT smp : Addr} {mc : Value} {dT : FuncData}
theorem ok_md {f : Addr} {fd : FuncData} (F : Fun K "_law_made" "_law_made" sMd f fd) (B : B2 mg) (hlist : mg "list" = none) (VV : VC K mg C) (MK : Mk K C fIn) (GI : FnR P w K mg base (L2N.CX P w) 5 fIn (spInit C CE)) (SM : SMet K C mc "read" smp fRd) (GR : FnR P w K mg base (L2.CX P w) 7 fRd (spRd K C CT))
    (gT : mg "_law_text" = some (.ref fT)) (kT : PySem.W.keepIn K (.ref fT) = true) (bT : Binds K dT ["_law_entries_here"] []) (GT : FnOk P w K mg base CX0 1 fT dT ["_law_entries_here"] (spTxt K)) : FnOk P w K mg base CX0 8 f fd ["_law_entries_here"] (spMd K C) := by
  refine F.ok scMd (fun vs H Q E h => ?_) (fun cdv A outer s H vs Q E hr h => ?_)
  · obtain ⟨l, xs, es, rfl, _⟩ := h
    rfl
  · obtain ⟨l, xs, es, rfl, hl, ht, G, q⟩ := h
    refine ⟨_, pss_cons (ps_set (i := 1) scMd.nd rfl (.inl rfl) (pe_op op_cat (pe_callTy call_list_of (by rfl) hlist (by decide +kernel) (pa_cons (pv 0) pa_nil)) (pe_op op_rep (pe_lst (pa_cons pe_non pa_nil)) pe_int)))
      (pss_cons (ps_if (pt_cmpR op_eq (pe_callB call_len_seq (by rfl) B.len PySem.boot_len (pa_cons (pv 0) pa_nil)) pe_int (nomark _)) (pss_one (ps_ret (pe_make0R MK GI (hr.mono (by decide)) rfl VV.g passN))) pss_nil)
      (pss_cons (ps_if (pt_cmpR op_lt (pe_callB call_len_seq (by rfl) B.len PySem.boot_len (pa_cons (pv 0) pa_nil)) pe_int (nomark _))
        (pss_one (ps_ret (pe_ifExp (pt_cmpR op_eq (pe_callB call_len_seq (by rfl) B.len PySem.boot_len (pa_cons (pv 0) pa_nil)) pe_int (nomark _))
          (StX.pe_makeR MK GI (hr.mono (by decide)) rfl VV.g passN (pa_cons (pe_ix ix_list (pv 1) pe_int (fun _ _ => rfl)) pa_nil))
          (StX.pe_makeR MK GI (hr.mono (by decide)) rfl VV.g passN (pa_cons (pe_ix ix_list (pv 1) pe_int (fun _ _ => rfl)) (pa_cons (pe_ix ix_list (pv 1) pe_int (fun _ _ => rfl)) pa_nil)))))) pss_nil)
      (pss_cons (ps_if (pt_cmpR op_eq (pe_callB call_len_seq (by rfl) B.len PySem.boot_len (pa_cons (pv 0) pa_nil)) pe_int (nomark _))
        (pss_one (ps_ret (StX.pe_makeR MK GI (hr.mono (by decide)) rfl VV.g passN (pa_cons (pe_ix ix_list (pv 1) pe_int (fun _ _ => rfl)) (pa_cons (pe_ix ix_list (pv 1) pe_int (fun _ _ => rfl)) (pa_cons (pe_ix ix_list (pv 1) pe_int (fun _ _ => rfl)) pa_nil)))))) pss_nil)
      (pss_one (ps_ret (pe_smeth (pe_glob (v := .ref C) rfl VV.g rfl) SM GR (hr.mono (by decide)) passX (pa_cons (pe_call GT (hr.mono (by decide)) rfl gT kT bT .nil pass0 (pa_cons (pv 0) pa_nil)) pa_nil))))))), ?_⟩
    have le := ht.len
    refine ⟨_, rfl, l, xs, rfl, .inl (SqL.of hl), fun p1 n1 => ?_⟩
    refine ⟨(by show 1 ≤ sizeLine; decide), fun p2 n2 => ⟨p2, 4, [.non], rfl, rfl, upd_same, by decide, by decide, (by show 4 ≤ sizeLine; decide), fun p3 n3 => ?_⟩⟩
    have few := G.few
    have d12 : p1 ≠ p2 := ne_of_none upd_same n2
    have d13 : p1 ≠ p3 := ne_of_none (show upd (upd H p1 (.lst xs)) p2 (.lst [.non]) p1 = some (.lst xs) by rw [upd_ne d12]; exact upd_same) n3
    refine ⟨p1, p3, xs, _, rfl, rfl, (by rw [upd_ne d13, upd_ne d12]; exact upd_same), upd_same, Nat.le_of_lt (small1000 (by show xs.length + 4 ≤ 1000; omega)), fun p4 n4 => ?_⟩
    have s1 : Same H (upd H p1 (.lst xs)) := same_new (fun _ _ e => e) n1
    have s2 : Same H (upd (upd H p1 (.lst xs)) p2 (.lst [.non])) := same_new s1 n2
    have s3 := same_new s2 n3 (o := .lst (List.replicate (4 : Int).toNat [V.non]).flatten)
    have s4 : Same H _ := same_new s3 n4 (o := .lst (xs ++ (List.replicate (4 : Int).toNat [V.non]).flatten))
    generalize hH4 : upd (upd (upd (upd H p1 (.lst xs)) p2 (.lst [.non])) p3 (.lst (List.replicate (4 : Int).toNat [V.non]).flatten)) p4 (.lst (xs ++ (List.replicate (4 : Int).toNat [V.non]).flatten)) = H4 at s4
    have h4 : H4 p4 = some (.lst (xs ++ (List.replicate (4 : Int).toNat [V.non]).flatten)) := by rw [← hH4]; exact upd_same
    have hl4 := s4 _ _ hl
    have ht4 := ht.same s4
    have eqk : ∀ {k : Int}, V.int ((xs.length : Nat) : Int) = V.int k ↔ ((xs.length : Nat) : Int) = k := ⟨fun e => V.int.inj e, fun e => by rw [e]⟩
    have q4 : ∀ (o : Addr) (S : List G3) (H' : Hp), SrtOf es S → Same H4 H' → VcS C H' o es S → Q (.ref o) H' := fun o S H' oS s' V => q o S H' oS (st s4 s') V
    refine ⟨_, rfl, l, xs, rfl, .inl (SqL.of hl4), rfl, _, rfl, ?_⟩
    by_cases c0 : xs.length = 0
    · refine itY (eqk.mpr (by omega)) ?_
      obtain rfl : xs = [] := List.length_eq_zero_iff.mp c0
      cases ht
      exact fun o dx no nd ne => init_good no nd ne .nil G fun S H' oS s' V => q4 o S H' oS s' V
    refine itN (fun e => c0 (by have := eqk.mp e; omega)) ?_
    refine ⟨_, rfl, l, xs, rfl, .inl (SqL.of hl4), _, _, rfl, rfl, _, rfl, ?_⟩
    by_cases c3 : xs.length < 3
    · refine itY (by omega) ?_
      refine ⟨_, rfl, l, xs, rfl, .inl (SqL.of hl4), rfl, _, rfl, ?_⟩
      by_cases c1 : xs.length = 1
      · refine itY (eqk.mpr (by omega)) ?_
        match xs, c1 with
        | [x], _ =>
          refine ⟨_, rfl, p4, _, _, _, rfl, rfl, SqL.of h4, atI_nat (j := 0) rfl, ?_⟩
          exact fun o dx no nd ne => init_good no nd ne ht4 G fun S H' oS s' V => q4 o S H' oS s' V
      · refine itN (fun e => c1 (by have := eqk.mp e; omega)) ?_
        match xs, c0, c1, c3 with
        | [x, y], _, _, _ =>
          refine ⟨_, rfl, p4, _, _, _, rfl, rfl, SqL.of h4, atI_nat (j := 0) rfl, _, rfl, p4, _, _, _, rfl, rfl, SqL.of h4, atI_nat (j := 1) rfl, ?_⟩
          exact fun o dx no nd ne => init_good no nd ne ht4 G fun S H' oS s' V => q4 o S H' oS s' V
        | [], c0, _, _ => exact absurd rfl c0
        | [x], _, c1, _ => exact absurd rfl c1
        | x :: y :: z :: r, _, _, c3 => exact absurd c3 (by simp)
    refine itN (by omega) ?_
    refine ⟨_, rfl, l, xs, rfl, .inl (SqL.of hl4), rfl, _, rfl, ?_⟩
    by_cases c4 : xs.length = 3
    · refine itY (eqk.mpr (by omega)) ?_
      match xs, c4 with
      | [x, y, z], _ =>
        refine ⟨_, rfl, p4, _, _, _, rfl, rfl, SqL.of h4, atI_nat (j := 0) rfl, _, rfl, p4, _, _, _, rfl, rfl, SqL.of h4, atI_nat (j := 1) rfl, _, rfl, p4, _, _, _, rfl, rfl, SqL.of h4, atI_nat (j := 2) rfl, ?_⟩
        exact fun o dx no nd ne => init_good no nd ne ht4 G fun S H' oS s' V => q4 o S H' oS s' V
    refine itN (fun e => c4 (by have := eqk.mp e; omega)) ?_
    refine ⟨rfl, _, rfl, l, xs, es, rfl, hl4, ht4, G, fun S H5 oS s5 => ?_⟩
    have GS := oS.good G
    have ll := line_len GS
    refine ⟨_, rfl, .inr ⟨lineOf S, rfl, by omega, fun _ o H6 gs ys s6 eg hp hs hV => ?_, fun hb => ?_⟩⟩
    · have e : gs = S := by
        rw [line_ens GS] at eg
        exact (List.map_inj_right (fun a b hab => Option.some.inj hab) |>.mp eg).symm
      subst e
      have ey : ys = gnames gs := sorted_one hs oS.so hp
      subst ey
      exact q4 o gs H6 oS (st s5 s6) ⟨gs, oS.pm, oS, hV, vtext_line G oS.pm oS⟩
    · rw [line_good GS] at hb
      cases hb
end
end SQ1
namespace SQ1
open PySem L2 SQ
abbrev sTi : Stmt := top 28
abbrev nTi : List Str := ["_law_urn_here", "_law_many", "_law_found", "_law_turn", "_law_title", "_law_k"]
theorem scTi : FnScope nTi ["_law_urn_here", "_law_many"] (defScope sTi) := ⟨rfl, rfl, rfl, by decide +kernel, rfl, by decide +kernel, by decide +kernel⟩
def abcq : List Nat := [97, 98, 99, 120, 121, 122, 113]
/-- a title that is drawn: none of its signs is a k -/
structure TitA (x : Str) : Prop where
  lo : 1 ≤ x.length
  hi : x.length ≤ 8
  sg : ∀ c ∈ x.cps.toList, c ∈ abcq
theorem TitA.tit {x : Str} (t : TitA x) : Tit x := ⟨t.lo, t.hi, fun c hc => by
  have h := t.sg c hc
  have : ∀ c ∈ abcq, c ∈ abcz := by decide
  exact this c h⟩
theorem jn_one : ∀ cs : List Nat, jn [] (cs.map fun c => [c]) = cs
  | [] => rfl
  | [c] => rfl
  | c :: d :: cs => by
    have h := jn_one (d :: cs)
    show [c] ++ ([] ++ jn [] ((d :: cs).map fun c => [c])) = _
    rw [h]
    rfl
theorem join_signs (cs : List Nat) : (Txt.join "" (cs.map fun c => (⟨#[c]⟩ : Str))).cps.toList = cs := by
  show (Builtin.Str.glued "" _).cps.toList = cs
  rw [StrLaws.glued_eq_join, tl_join, List.map_map]
  exact jn_one cs
theorem sum_ones (cs : List Nat) : ((cs.map fun c => (⟨#[c]⟩ : Str)).map (·.length)).sum = cs.length := by
  induction cs with
  | nil => rfl
  | cons c cs ih =>
    rw [List.map_cons, List.map_cons, List.sum_cons, ih, List.length_cons]
    show 1 + cs.length = cs.length + 1
    omega
/-- what _law_titles promises -/
def spTi : Sp := fun vs H Q _ => ∃ (u : Addr) (m : Nat), vs = [.ref u, .int m] ∧ urnAt H u ∧ m ≤ 8 ∧
  ∀ (H' : Hp) (p : Addr) (xs : List Str), urnAt H' u → But u H H' → H p = none → p ≠ u → H' p = some (.lst (xs.map V.str)) → xs.length ≤ m → xs.Nodup → (∀ x ∈ xs, TitA x) → Q (.ref p) H'
theorem b1u {H : Hp} {u d : Addr} {o o' : HO} (e : H u = some o) (nd : H d = none) : upd H d o' u = some o := by
  rw [upd_ne (ne_of_none e nd)]
  exact e
theorem in_strs (x : Str) (xs : List Str) : inV (.str x) (xs.map V.str) = decide (x ∈ xs) := by
  unfold inV
  rw [List.any_map]
  have e : ((fun y => eqV y (V.str x)) ∘ V.str) = fun y : Str => decide (y = x) := by
    funext y
    show (y == x) = decide (y = x)
    by_cases h : y = x
    · subst h
      rw [decide_eq_true rfl]
      exact beq_self_eq_true y
    · rw [decide_eq_false h]
      exact beq_eq_false_iff_ne.mpr h
  rw [e]
  by_cases h : x ∈ xs
  · rw [decide_eq_true h, List.any_eq_true]
    exact ⟨x, h, decide_eq_true rfl⟩
  · rw [decide_eq_false h, List.any_eq_false]
    intro y hy
    simp only [decide_eq_true_eq]
    exact fun e => h (e ▸ hy)
theorem but_none {u d : Addr} {H G : Hp} (b : But u H G) (ne : d ≠ u) (n : G d = none) : H d = none := by
  cases h : H d with
  | none => rfl
  | some o =>
    have := b d o h ne
    rw [n] at this
    cases this
theorem but_put {u d : Addr} {H G : Hp} {o : HO} (b : But u H G) (n : H d = none) : But u H (upd G d o) := fun c x e ne => by
  rw [upd_ne (ne_of_none e n)]
  exact b c x e ne
theorem cut8 (t : Str) : (cutS t none (some 8)).cps.toList = t.cps.toList.take 8 := by
  have hl : t.length = t.cps.toList.length := by simp [Str.length]
  have e0 : HT.sIx t.length 0 none = 0 := rfl
  have e8 : HT.sIx t.length t.length (some 8) = min 8 t.length := by
    first
      | (unfold HT.sIx; simp; omega)
      | (simp [HT.sIx]; omega)
      | (simp [HT.sIx])
  show ((t.cps.toList.drop (HT.sIx t.length 0 none)).take (HT.sIx t.length t.length (some 8) - HT.sIx t.length 0 none)).toArray.toList = _
  rw [e0, e8, List.drop_zero, Nat.sub_zero, hl]
  apply List.ext_getElem?
  intro i
  simp only [List.getElem?_take]
  by_cases h : i < 8
  · by_cases h2 : i < t.cps.toList.length
    · rw [if_pos (by omega), if_pos h]
    · rw [if_neg (by omega), if_pos h, List.getElem?_eq_none (by omega)]
  · rw [if_neg (by omega), if_neg h]
section
variable {P : Program} {w : World} {K : PySem.W.Frag} {mg : Str → Option Value} {base : Heap}
theorem ok_ti {f fL fO : Addr} {fd fdL fdO : FuncData} (F : Fun K "_law_titles" "_law_titles" sTi f fd) (D : Drw K mg fL fO fdL fdO) (BL : Blt mg) : FnOk P w K mg base CX0 3 f fd ["_law_urn_here", "_law_many"] spTi := by
  have GL : FnOk P w K mg base CX0 1 fL fdL ["_law_urn_here", "_law_many"] spLot := ok_lot D.FL BL
  have GO : FnOk P w K mg base CX0 2 fO fdO ["_law_urn_here", "_law_things"] (spOne K) := ok_one D BL
  have GOS : FnOk P w K mg base CX0 2 fO fdO ["_law_urn_here", "_law_things"] spOneS := ok_oneS D BL
  refine F.ok scTi (fun vs H Q E h => ?_) (fun cdv A outer s H vs Q E hr h => ?_)
  · obtain ⟨u, m, rfl, _⟩ := h
    rfl
  · obtain ⟨u, m, rfl, hu, m8, q⟩ := h
    refine ⟨_, pss_cons (ps_set (i := 2) scTi.nd rfl (.inl rfl) (pe_lst pa_nil))
      (pss_cons (ps_for PassesOwn.never rfl (pi_range1 (by rfl) BL.range (pa_cons (pe_op op_mul pe_int (pv 1)) pa_nil)) (pg_name (i := 3) scTi.nd rfl (.inl rfl))
        (pss_cons (ps_set (i := 4) scTi.nd rfl (.inl rfl) (pe_op op_add_str (pe_join pe_str (pe_lc (own := [("_law_k", 5)]) (g := gName 5) (tt := tYes) rfl scTi.nd (pi_range1 (by rfl) BL.range (pa_cons (pe_op op_add pe_int (pe_call GL (hr.mono (by decide)) rfl D.gL D.FL.kp D.bL .nil pass0 (pa_cons (pv 0) (pa_cons pe_int pa_nil)))) pa_nil))
            (blkOk_by (N := nTi) (sc := defScope sTi) (by decide +kernel)) (fun _ _ _ _ _ => pg_name (i := 5) scTi.nd rfl (.inl rfl)) (fun _ _ _ _ _ => pts_nil) (fun _ _ _ _ _ => pe_call GOS (hr.mono (by decide)) rfl D.gO D.FO.kp D.bO .nil pass0 (pa_cons (pv 0) (pa_cons pe_str pa_nil)))))
          (pe_call GO (hr.mono (by decide)) rfl D.gO D.FO.kp D.bO .nil pass0 (pa_cons (pv 0) (pa_cons (pe_lst (pa_cons pe_str (pa_cons pe_str pa_nil))) pa_nil)))))
        (pss_one (ps_if (PW.pt (pw_and (pt_cmpR op_notIn_seq (pe_slice sl_str (pv 4) po_none (po_some pe_int)) (pv 2) (by rfl)) (pw_and1 (pt_cmpR op_lt (pe_callB call_len_seq (by rfl) BL.len PySem.boot_len (pa_cons (pv 2) pa_nil)) (pv 1) (nomark _)))))
          (pss_one (ps_expr (pe_bm PySem.F.plainAttrs_list PySem.F.slot_list_append PySem.F.type_list_append mt_append (pv 2) (pa_cons (pe_slice sl_str (pv 4) po_none (po_some pe_int)) pa_nil)))) pss_nil))))
      (pss_one (ps_ret (pv 2)))), ?_⟩
    refine ⟨(by show 0 ≤ sizeLine; decide), fun d nd => ?_⟩
    have du : d ≠ u := by
      obtain ⟨x, y, z, e⟩ := hu
      exact (ne_of_none e nd).symm
    have b0 : But u H (upd H d (.lst [])) := But.refl.new nd
    have hu0 : urnAt (upd H d (.lst [])) u := by
      obtain ⟨x, y, z, e⟩ := hu
      exact ⟨x, y, z, b1u e nd⟩
    refine ⟨_, rfl, 2, (m : Int), rfl, rfl, .inl ⟨by decide, by decide⟩, _, rfl, (by omega), (by omega), ?_⟩
    refine for_range (lo := 0) (n := (2 * (m : Int)).toNat) (fun i σ G => ∃ (a3 a4 : Option V) (xs : List Str), σ = [some (.ref u), some (.int m), some (.ref d), a3, a4, none] ∧ urnAt G u ∧ But u H G ∧ G d = some (.lst (xs.map V.str)) ∧ xs.length ≤ m ∧ xs.Nodup ∧ ∀ x ∈ xs, TitA x) ⟨_, _, [], rfl, hu0, b0, upd_same, Nat.zero_le _, List.nodup_nil, fun _ z => nomatch z⟩ ?_ ?_
    · rintro i σ G hi ⟨a3, a4, xs, rfl, hu1, b1, hd1, hl, nd1, ok1⟩
      refine ⟨⟨_, rfl⟩, _, rfl, u, 8, rfl, hu1, by decide, by decide, fun G2 k k0 k8 hu2 b2 => ⟨_, _, rfl, rfl, _, rfl, by omega, by omega, fun D2 hD2 => ?_⟩⟩
      have hd2 : G2 d = some (.lst (xs.map V.str)) := b2 _ _ hd1 du
      have D2u : D2 ≠ u := by
        obtain ⟨x, y, z, e⟩ := hu2
        exact (ne_of_none e hD2).symm
      have D2d : D2 ≠ d := (ne_of_none hd2 hD2).symm
      have hHD : H D2 = none := but_none (b1.trans b2) D2u hD2
      refine lc_range (lo := 0) (n := (1 + k).toNat) (fun j G4 => urnAt G4 u ∧ But u H G4 ∧ G4 d = some (.lst (xs.map V.str)) ∧ ∃ cs : List Nat, G4 D2 = some (.lst ((cs.map fun c => (⟨#[c]⟩ : Str)).map V.str)) ∧ cs.length = j ∧ ∀ c ∈ cs, c ∈ abcq) ⟨?_, (b1.trans b2).new hD2, by rw [upd_ne (Ne.symm D2d)]; exact hd2, [], upd_same, rfl, fun _ z => nomatch z⟩ ?_ ?_
      · obtain ⟨x, y, z, e⟩ := hu2
        exact ⟨x, y, z, b1u e hD2⟩
      · rintro j G4 hj ⟨hu4, b4, hd4, cs, hD4, lc, hcs⟩
        refine ⟨rfl, keptT ⟨_, rfl, u, "abcxyz", rfl, hu4, by decide, by decide, fun G5 z hz hu5 b5 => ?_⟩⟩
        have hD5 : G5 D2 = some (.lst ((cs.map fun c => (⟨#[c]⟩ : Str)).map V.str)) := b5 _ _ hD4 D2u
        refine ⟨_, hD5, small1000 (by rw [List.length_map, List.length_map]; omega), ?_, ?_, by rw [upd_ne (Ne.symm D2d)]; exact b5 _ _ hd4 du, cs ++ [z], ?_, by rw [List.length_append, lc]; rfl, fun c hc => ?_⟩
        · obtain ⟨x, y, z, e⟩ := hu5
          exact ⟨x, y, z, by rw [upd_ne (Ne.symm D2u)]; exact e⟩
        · exact but_put (b4.trans b5) hHD
        · rw [upd_same, List.map_append, List.map_append]
          rfl
        · rcases List.mem_append.mp hc with h | h
          · exact hcs c h
          · rw [List.mem_singleton.mp h]
            have e : ∀ c ∈ (("abcxyz" : Str).cps.toList), c ∈ abcq := by decide
            exact e z hz
      · rintro G4 ⟨hu4, b4, hd4, cs, hD4, lc, hcs⟩
        refine ⟨_, D2, cs.map fun c => (⟨#[c]⟩ : Str), rfl, rfl, .inl (SqL.of hD4), ?_, ?_⟩
        · rw [sum_ones]
          show cs.length + (cs.map _).length * 0 ≤ _
          omega
        refine ⟨_, rfl, (by show 2 ≤ sizeLine; decide), fun p3 n3 => ?_⟩
        have up3 : u ≠ p3 := by
          obtain ⟨x, y, z, e⟩ := hu4
          exact ne_of_none e n3
        have hu4' : urnAt (upd G4 p3 (.lst [.str "", .str "q"])) u := by
          obtain ⟨x, y, z, e⟩ := hu4
          exact ⟨x, y, z, b1u e n3⟩
        refine ⟨u, p3, [.str "", .str "q"], rfl, hu4', up3, upd_same, by decide, by decide, fun G6 i6 x6 hx6 hu6 b6 => ?_⟩
        have b6' : But u H G6 := (b4.new n3).trans b6
        have hd6 : G6 d = some (.lst (xs.map V.str)) := b6 _ _ (by rw [upd_ne (ne_of_none hd4 n3)]; exact hd4) du
        obtain ⟨y, rfl, hy1, hy2⟩ : ∃ y : Str, x6 = .str y ∧ y.length ≤ 1 ∧ ∀ c ∈ y.cps.toList, c ∈ abcq := by
          match i6, hx6 with
          | 0, h => cases h; exact ⟨_, rfl, by decide, by decide⟩
          | 1, h => cases h; exact ⟨_, rfl, by decide, by decide⟩
          | i + 2, h => cases h
        have ej := join_signs cs
        have el : (Txt.join "" (cs.map fun c => (⟨#[c]⟩ : Str))).length = cs.length := by
          have := congrArg List.length ej
          simpa [Str.length] using this
        refine ⟨_, _, rfl, rfl, Nat.le_of_lt (small1000 (by rw [el]; omega)), ?_⟩
        generalize htt : Txt.join "" (cs.map fun c => (⟨#[c]⟩ : Str)) ++ y = t
        have tl : t.cps.toList = cs ++ y.cps.toList := by
          rw [← htt, str_app, ej]
        have tlen : t.length = cs.length + y.length := by
          rw [← htt, len_app, el]
        have T8 : TitA (cutS t none (some 8)) := by
          have e := cut8 t
          have e2 : (cutS t none (some 8)).length = min 8 t.length := by
            have := congrArg List.length e
            rw [List.length_take] at this
            simpa [Str.length] using this
          refine ⟨by rw [e2, tlen]; omega, by rw [e2]; omega, fun c hc => ?_⟩
          rw [e, tl] at hc
          rcases List.mem_append.mp (List.mem_of_mem_take hc) with h | h
          · exact hcs c h
          · exact hy2 c h
        have tz : t.length ≤ sizeLine := Nat.le_of_lt (small1000 (by rw [tlen]; omega))
        have fl : (xs.map V.str).all flatV = true := by
          rw [List.all_eq_true]
          intro v hv
          obtain ⟨x, _, rfl⟩ := List.mem_map.mp hv
          rfl
        refine ⟨_, rfl, 8, rfl, t, rfl, tz, _, rfl, d, _, rfl, .inl (SqL.of hd6), rfl, fl, _, rfl, ?_⟩
        show (if (!inV (.str (cutS t none (some 8))) (xs.map V.str)) = true then _ else _)
        rw [in_strs]
        have keep : ∃ (a3 a4 : Option V) (xs' : List Str), ([some (.ref u), some (.int m), some (.ref d), some (V.int (0 + (i : Int))), some (.str t), none] : List (Option V)) = [some (.ref u), some (.int m), some (.ref d), a3, a4, none] ∧ urnAt G6 u ∧ But u H G6 ∧ G6 d = some (.lst (xs'.map V.str)) ∧ xs'.length ≤ m ∧ xs'.Nodup ∧ ∀ x ∈ xs', TitA x := ⟨_, _, xs, rfl, hu6, b6', hd6, hl, nd1, ok1⟩
        by_cases hT : cutS t none (some 8) ∈ xs
        · rw [decide_eq_true hT]
          exact iteF keep
        rw [decide_eq_false hT]
        refine iteT ?_
        refine ⟨_, rfl, d, _, rfl, .inl (SqL.of hd6), _, rfl, _, _, rfl, rfl, _, rfl, ?_⟩
        by_cases hm : ((xs.map V.str).length : Int) < (m : Int)
        · refine itY hm ?_
          rw [List.length_map] at hm
          refine ⟨_, rfl, .inl ⟨rfl, _, SqL.of hd6⟩, _, rfl, 8, rfl, t, rfl, tz, d, _, _, rfl, rfl, hd6, small1000 (by rw [List.length_map]; omega), ?_⟩
          refine ⟨_, _, xs ++ [cutS t none (some 8)], rfl, ?_, but_put b6' nd, ?_, ?_, ?_, ?_⟩
          · obtain ⟨x, y, z, e⟩ := hu6
            exact ⟨x, y, z, by rw [upd_ne (Ne.symm du)]; exact e⟩
          · rw [upd_same, List.map_append]
            rfl
          · rw [List.length_append]
            show xs.length + 1 ≤ m
            omega
          · refine List.nodup_append.mpr ⟨nd1, (by simp), fun a ha b hb e => ?_⟩
            rw [List.mem_singleton.mp hb] at e
            exact hT (e ▸ ha)
          · intro x hx
            rcases List.mem_append.mp hx with h | h
            · exact ok1 x h
            · rw [List.mem_singleton.mp h]
              exact T8
        · exact itN hm keep
    · rintro σ G ⟨a3, a4, xs, rfl, hu1, b1, hd1, hl, nd1, ok1⟩
      refine ⟨_, rfl, ?_⟩
      exact q G d xs hu1 b1 nd du hd1 hl nd1 ok1
end
end SQ1
namespace SQ1
open PySem L2 SQ
abbrev sHad : Stmt := top 27
theorem takes_len {X : Cx} {W : WX} (t : Takes X W) : Takes X (fun c d σ H => σ.length = X.N.length → W c d σ H) := fun u s' ⟨a, B, sI, pins, σ, H, cls, d, e, I, nb, up, sky, na, os, ag, w⟩ =>
  t u s' ⟨a, B, sI, pins, σ, H, cls, d, e, I, nb, up, sky, na, os, ag, w I.len⟩
theorem pe_wk {X : Cx} {e : Expr} {t : TE} (h : PE X e t) : PE X e (fun σ H Q => ∃ R : VK, (∀ v H', R v H' → Q v H') ∧ t σ H R) := ⟨fun pins s σ H Q I ⟨R, hR, ht⟩ =>
  thn (h.run pins s σ H R I ht) fun u s1 ⟨v, H1, I1, r, q⟩ => ⟨v, H1, I1, r, hR v H1 q⟩⟩
/-- what _law_had makes of the lambda's reading -/
def THad (CE : Addr) : (XK → Hp → VK → Prop) → Hp → VK → Prop := fun tl H Q =>
  tl (fun cls d H' => ∃ (dd : Addr) (idx : V), cls = .ref CE ∧ d = some dd ∧ H' dd = some (.xd [("value", idx)]) ∧ ∀ p, H' p = none → Q (.ref p) (upd H' p (.lst [.str "InvalidName", idx, .bl true]))) H
    (fun v H' => ∀ p, H' p = none → Q (.ref p) (upd H' p (.lst [.str "given", v])))
structure HadF (K : PySem.W.Frag) (mg : Str → Option Value) (CE CI : Addr) : Prop where
  isf : IsF K
  gI : mg "InputError" = some (.ref CI)
  gV : mg "ValueError" = none
  ex : PySem.W.exmOne K (.ref CE) (.ref CE) = some true
  k1 : PySem.W.kitOne K (.ref CE) (.ref CI) = some true
  k2 : PySem.W.kitOne K (.ref CE) (.type "ValueError") = some true
abbrev nHad : List Str := ["_law_ask", "_law_given", "e"]
theorem scHad : FnScope nHad ["_law_ask"] (defScope sHad) := ⟨rfl, rfl, rfl, by decide +kernel, rfl, by decide +kernel, by decide +kernel⟩
theorem had_gives {X : Cx} {g CE CI fI : Addr} {cdg : Value} {q : Str} (B : B2 X.mg) (Z : NC X.K X.mg CE fI) (F : HadF X.K X.mg CE CI) : LamX.GivesTo X nHad "_law_had" (defScope sHad) g cdg (defBody sHad) "_law_ask" q (THad CE) := by
  intro f c' s H Q tl act hc h
  refine ⟨_, pss_cons (ps_try_as (X := (cxOf C8.CX0 X.prog X.w X.K X.mg X.base nHad "_law_had" (defScope sHad) g cdg X.A X.stack s H C8.E0).nox) (c := .ref CE) (i := 2)
      (tb := fun W D σ H => ∃ Ech : XK, (∀ cls d σ' H', Ech cls d H' → σ'.length = 3 → W cls d σ' H') ∧ σ[0]? = some (some (.ref f)) ∧ H c' = some (LamX.CodeO c' q) ∧ ∃ R : VK, (∀ v H', R v H' → D.nx (σ.set 1 (some v)) H') ∧ tl Ech H R)
      (Wout := fun _ _ _ _ => False)
      rfl rfl scHad.nd rfl rfl ⟨rfl, by decide, .inl Z.g⟩ LamX.takes0 (fun W pn xe tk _ => ?_)
      (fun a oe cls d pn hz hf => pss_one (ps_ret (pe_lst (pa_cons pe_str (pa_cons (pe_heldGet hz hf (pv 2)) (pa_cons (pe_and (pe_callB (cr_heldIs F.isf hz hf) (by rfl) B.isi (by decide +kernel) (pa_cons (pv 2) (pa_cons (pe_glob (v := .ref CI) rfl F.gI rfl) pa_nil)))
        (pe_one (pe_callB (cr_heldIs F.isf hz hf) (by rfl) B.isi (by decide +kernel) (pa_cons (pv 2) (pa_cons (pe_bltn (v := .ty "ValueError") (by rfl) F.gV (by decide +kernel) rfl) pa_nil))))) pa_nil)))))))
    (pss_one (ps_ret (pe_lst (pa_cons pe_str (pa_cons (pv 1) pa_nil))))), ?_⟩
  · refine ⟨fun pins s' σ H' D I h' => ?_⟩
    obtain ⟨Ech, hW, h1, h2, R, hR, h3⟩ := h'
    exact (pss_one (ps_set (i := 1) scHad.nd rfl (.inl rfl) (pe_wk (act _ pn xe Ech _ _ (takes_len tk) (fun cls d σ' H' e hl => hW cls d σ' H' e hl))))).run pins s' σ H' D I ⟨R, hR, h1, h2, h3⟩
  · refine ⟨_, ?_, rfl, hc, _, ?_, h⟩
    rotate_left
    · intro v H' k
      exact ⟨_, rfl, (by show 2 ≤ sizeLine; decide), fun p hp => k p hp⟩
    rintro cls d σ' H' ⟨dd, idx, rfl, rfl, hd, k⟩ hl
    refine ⟨true, F.ex, fun _ a ha => ?_, fun z => nomatch z⟩
    have h2 : (σ'.set 2 (some (V.ref a)))[2]? = some (some (V.ref a)) := by
      rw [List.getElem?_set_self (by omega)]
    refine ⟨_, h2, rfl, CE, idx, _, _, ⟨rfl, dd, rfl, hd⟩, Z.T, _, h2, _, _, true, CE, idx, "value", rfl, ⟨rfl, dd, rfl, hd⟩, Z.T.isc, fun z e => ?_, F.k1, _, rfl, iteT ?_⟩
    · exact e
    · refine ⟨_, h2, _, _, true, CE, idx, "value", rfl, ⟨rfl, dd, rfl, hd⟩, Z.T.isc, fun z e => e, F.k2, ?_, fun p hp => ?_⟩
      · show 3 ≤ sizeLine
        decide
      · exact k p hp
end SQ1
namespace SQ
open PySem PySem.Spec PyProof.Rows L2
/-- a def of the text, its code object at c -/
structure FunC (K : PySem.W.Frag) (x qual : Str) (st : Stmt) (f : Addr) (fd : FuncData) (c : Addr) : Prop where
  ex : ∃ (oc : Value) (od : Option Addr) (kV doc pm : Value) (an : Option Addr) (ct : Value) (osl : Array (Option Value)),
    fd = PySem.W.fnOf x qual (defArgs st) (defBody st) (defScope st) .none kV doc pm an (.ref c) ct ∧ K.lookup f = some ⟨oc, od, .func fd, osl⟩ ∧ PySem.W.codeIn K (.ref c) qual = true
  kp : PySem.W.keepIn K (.ref f) = true
theorem FunC.f {K : PySem.W.Frag} {x qual : Str} {st : Stmt} {f : Addr} {fd : FuncData} {c : Addr} (F : FunC K x qual st f fd c) : Fun K x qual st f fd := by
  obtain ⟨oc, od, kV, doc, pm, an, ct, osl, e, l, q⟩ := F.ex
  exact ⟨⟨oc, od, kV, doc, pm, an, .ref c, ct, osl, e, l, q⟩, F.kp⟩
section
variable {P : Program} {w : World} {K : PySem.W.Frag} {mg : Str → Option Value} {base : Heap}
/-- okG where the code object is known -/
theorem okGc {x qual : Str} {st : Stmt} {f c : Addr} {fd : FuncData} {N ps : List Str} {k : Nat} {sp : Sp}
    (F : FunC K x qual st f fd c) (S : FnScope N ps (defScope st))
    (len : ∀ vs H Q E, sp vs H Q E → vs.length = ps.length)
    (hb : ∀ (A : Around) (outer : List Env) (s : Shared) (H : Hp) (vs : List V) (Q : VK) (E : XK),
      (A.deeper (envOfC qual (defScope st) s.heap.objs.size f (.ref c))).guards = some [] →
      Room k (A.deeper (envOfC qual (defScope st) s.heap.objs.size f (.ref c))) → sp vs H Q E →
      ∃ t, PSs (cxOf CX0 P w K mg base N qual (defScope st) f (.ref c) A outer s H E).nox (defBody st) t ∧
        t { nx := fun _ H' => Q .non H', rt := Q } (start N vs) H) :
    FnG P w K mg base CX0 (k + 1) f fd ps sp := by
  obtain ⟨oc, od, kV, doc, pm, an, ct, osl, rfl, lk, hcd⟩ := F.ex
  refine ⟨len, fun A hgd outer s H args us vs Q E hroom en bnd rel hsp => ?_⟩
  have nargs := len _ _ _ _ hsp
  have old : ∀ b o, base.get? b = some o → s.heap.get? b = some o := fun b o q => (en.bs b o q).1
  have kin := en.mod.kin.keeps old
  have nol := en.mod.nolimit.keeps old
  have kinds : ∀ y ∈ ps.zip us, (defScope st).names.lookup y.1 = some .local ∨
      ((defScope st).names.lookup y.1 = some .cell ∧
        ((cellsFrom (s.heap.objs.size + 1) (defScope st).names []).lookup y.1).isSome = true) := by
    rintro ⟨n, v⟩ hy
    rcases S.par n (List.of_mem_zip hy).1 with q | q
    · exact Or.inl q
    · exact Or.inr ⟨q, PySem.W.cellsFrom_some _ _ _ (Or.inl q)⟩
  refine codeAny_call_function hroom.depth (kin _ _ lk) rfl S.co S.gen rfl
    (PySem.W.codeRec_of kin hcd) (bnd _ _ _ _ ?_)
  refine wpAny_newFunctionEnv_cells S.kind kinds ?_
  intro env he s1 ic
  subst he
  refine ⟨nol.keeps ic.toInCall.keep, codeAny_func ?_⟩
  obtain ⟨t, ht, hq⟩ := hb A outer s H vs Q E (deeper_guards hgd) (hroom.deeper _) hsp
  have inv := inv_start (CX := CX0) (E := E) S hroom.hd en nargs rel ic
  refine wpAny_mono (ht.nox.run [] s1 (start N vs) H _ inv hq) ?_ fun e s' hs => hs
  intro fl s' hs
  cases fl with
  | ret u =>
    obtain ⟨v, σ', H', J, rv, q⟩ := hs
    exact ⟨v, H', J.os, J.bare, J.base, J.hok, rv, q⟩
  | next =>
    obtain ⟨σ', H', J, q⟩ := hs
    exact ⟨V.non, H', J.os, J.bare, J.base, J.hok, rfl, q⟩
  | brk =>
    obtain ⟨_, _, _, q⟩ := hs
    exact q.elim
  | cont =>
    obtain ⟨_, _, _, q⟩ := hs
    exact q.elim
end
end SQ
namespace SQ1
open PySem L2 SQ
abbrev nR : List Str := ["_law_urn_here", "_law_turn", "_law_titles_here", "_law_title", "_law_some", "_law_line", "_law_seen", "_law_due", "_law_many", "_law_left", "_law_others", "_law_made_here", "_law_odd", "_law_each"]
theorem scR : FnScope nR ["_law_urn_here"] (defScope sRight) := ⟨rfl, rfl, rfl, by decide +kernel, rfl, by decide +kernel, by decide +kernel⟩
structure HadD (K : PySem.W.Frag) (mg : Str → Option Value) (fH : Addr) (dH : FuncData) : Prop where
  g : mg "_law_had" = some (.ref fH)
  F : Fun K "_law_had" "_law_had" sHad fH dH
  b : Binds K dH ["_law_ask"] []
theorem pe_had {X : Cx} {T : TL} {fH CE CI fI c Pt : Addr} {dH : FuncData} {k : Nat} {params : Arguments} {body : Expr} {scope : Scope} {t : XK → TE} {p lpos pos : Pos} (HD : HadD X.K X.mg fH dH) (B : B2 X.mg) (Z : NC X.K X.mg CE fI) (HF : HadF X.K X.mg CE CI) (TB : LamX.TabB X.base X.mg c Pt) (hcode : X.env.code = .ref c)
    (hmT : (Pt, X.env.qual ++ "<lambda>") ∈ T) (huT : ∀ p ∈ T, p.1 = Pt → p.2 = X.env.qual ++ "<lambda>") (hr : Room (k + 2) X.A) (L : LamX.LamS X.env.scope scope) (hdef : defaultsOf params X.env = ([], []))
    (hbind : ∀ (q : Str) (cl : List (Str × Addr)) (pm cv ctv : Value), bindArgs (PySem.W.kla_fn "<lambda>" q params body scope cl pm cv ctv) ⟨[], []⟩ = pure [])
    (hbody : ∀ (A : Around) (outer : List Env) (s : Shared) (H : Hp) (E : XK) (f c' : Addr), Room k (A.deeper (LamX.lamEnv X scope s.heap.objs.size f c')) → PE (LamX.lamCx X A outer s H E scope f c') body (t E)) (hg : Gl X "_law_had" := by rfl) :
    PE X (.Call (.Name "_law_had" p) [.Lambda params body scope lpos] [] pos) (LamX.tLam T (THad CE) t) := by
  obtain ⟨oc, od, kV, doc, pm, an, cdv, ct, osl, rfl, lk, hcd⟩ := HD.F.ex
  exact LamX.pe_lamcall (Ng := nHad) (a := "_law_ask") hg HD.g HD.F.kp lk hcd HD.b scHad rfl (.inl rfl) (had_gives B Z HF) TB hcode hmT huT hr L hdef hbind hbody
structure StrO (K : PySem.W.Frag) (C fS : Addr) : Prop where
  f : PySem.W.findIn K (.ref C) "__str__" = some (some (.ref fS))
  fn : PySem.W.isFn K (.ref fS) = true
theorem rd_set {te : TE} {i : Nat} {rest : TS} {D : Ends} {σ : St} {H : Hp} (h : te σ H fun v H1 => rest D (σ.set i (some v)) H1) : tSeq (tAsg te (gName i)) rest D σ H := h
theorem rd_tgt {te : TE} {g : TG} {rest : TS} {D : Ends} {σ : St} {H : Hp} (h : te σ H fun v H1 => g v σ H1 (rest D)) : tSeq (tAsg te g) rest D σ H := h
theorem rd_if {c : TT} {t u : TS} {rest : TS} {D : Ends} {σ : St} {H : Hp} (h : c σ H fun b H1 => if b = true then t { D with nx := rest D } σ H1 else u { D with nx := rest D } σ H1) : tSeq (tIfS c t u) rest D σ H := h
theorem rd_call2 {sp : Sp} {E : XK} {t1 t2 : TE} {σ : St} {H : Hp} {Q : VK} (h : t1 σ H fun x H1 => t2 σ H1 fun y H2 => sp [x, y] H2 Q E) : tCall sp [] E (tCons t1 (tCons t2 tNil)) σ H Q := h
theorem tabs_but {T : TL} {u : Addr} {H H' : Hp} (t : LamX.Tabs T H) (hu : urnAt H u) (b : But u H H') : LamX.Tabs T H' := by
  obtain ⟨x, y, z, e0⟩ := hu
  intro p hp
  obtain ⟨ps, h1, h2, h3⟩ := t p hp
  refine ⟨ps, b _ _ h1 (ne_of h1 e0 (by intro z; cases z)), h2, fun pos cv hc => ?_⟩
  obtain ⟨c, e1, e2⟩ := h3 pos cv hc
  exact ⟨c, e1, b _ _ e2 (ne_of e2 e0 (by intro z; unfold LamX.CodeO at z; cases z))⟩
theorem urn_same {u : Addr} {H H' : Hp} (s : Same H H') (h : urnAt H u) : urnAt H' u := by
  obtain ⟨x, y, z, e⟩ := h
  exact ⟨x, y, z, s _ _ e⟩
theorem urn_ne {u p : Addr} {H : Hp} (h : urnAt H u) (n : H p = none) : u ≠ p := by
  obtain ⟨x, y, z, e⟩ := h
  exact ne_of_none e n
theorem rd_ex {te : TE} {rest : TS} {D : Ends} {σ : St} {H : Hp} (h : te σ H fun _ H1 => rest D σ H1) : tSeq (tDrop te) rest D σ H := h
abbrev lamN : Str := ("_law_right" : Str) ++ ".<locals>." ++ "<lambda>"
end SQ1
namespace SQ1
open PySem L2 SQ
def forB : Stmt → List Stmt
  | .For _ _ b _ _ => b
  | _ => []
def nth (l : List Stmt) (i : Nat) : Stmt := l.getD i (.Pass ⟨0, 0, 0, 0⟩)
abbrev rTurn : List Stmt := forB (nth (defBody sRight) 0)
abbrev Xr (P : Program) (w : World) (K : PySem.W.Frag) (mg : Str → Option Value) (base : Heap) (fR c : Addr) (A : Around) (outer : List Env) (s : Shared) (H : Hp) (E : XK) : Cx := (cxOf CX0 P w K mg base nR "_law_right" (defScope sRight) fR (.ref c) A outer s H E).nox
/-- what the law's one turn leans on -/
structure All (P : Program) (w : World) (K : PySem.W.Frag) (mg : Str → Option Value) (base : Heap) (fL fO fH fTi fM fT fA fS fEq fRp fLn CN CI fJ C c Pt : Addr) (fdL fdO dH dTi dM dT dA : FuncData) : Prop where
  BL : Blt mg
  B : B2 mg
  B4' : B4 mg
  rp : mg "repr" = none
  DW : Drw K mg fL fO fdL fdO
  HD : HadD K mg fH dH
  Z : NC K mg CN fJ
  HF : HadF K mg CN CI
  VV : VC K mg C
  T : IC K C
  SO : StrO K C fS
  CQ : CmpC K C fEq
  RC : RpC K C fRp
  LC : LenC K C fLn
  sub : PySem.W.subIn K (.type "str") (.ref C) = some false
  MA : Meth K C "arity" fA
  bA : Binds K dA ["self", "name"] []
  hbA : ∀ (s : Shared) (v u : Value), BindsTo s dA ⟨[v], [("name", u)]⟩ [("self", v), ("name", u)]
  GA : FnOk P w K mg base (L2.CX P w) 2 fA dA ["self", "name"] (spAri K C CN)
  GS : FnR P w K mg base CX0 1 fS (spStr C)
  GE : FnR P w K mg base CX0 1 fEq (spEqV C)
  GP : FnR P w K mg base CX0 1 fRp (spRp C)
  GN : FnR P w K mg base CX0 1 fLn (spLen C)
  TB : LamX.TabB base mg c Pt
  GL : FnOk P w K mg base CX0 1 fL fdL ["_law_urn_here", "_law_many"] spLot
  GO : FnOk P w K mg base CX0 2 fO fdO ["_law_urn_here", "_law_things"] (spOne K)
  gTi : mg "_law_titles" = some (.ref fTi)
  kTi : PySem.W.keepIn K (.ref fTi) = true
  bTi : Binds K dTi ["_law_urn_here", "_law_many"] []
  GTi : FnOk P w K mg base CX0 3 fTi dTi ["_law_urn_here", "_law_many"] spTi
  gM : mg "_law_made" = some (.ref fM)
  kM : PySem.W.keepIn K (.ref fM) = true
  bM : Binds K dM ["_law_entries_here"] []
  GM : FnOk P w K mg base CX0 8 fM dM ["_law_entries_here"] (spMd K C)
  gT : mg "_law_text" = some (.ref fT)
  kT : PySem.W.keepIn K (.ref fT) = true
  bT : Binds K dT ["_law_entries_here"] []
  GT : FnOk P w K mg base CX0 1 fT dT ["_law_entries_here"] (spTxt K)
end SQ1
namespace SQ1
open PySem L2 SQ
def Fresh (H0 : Hp) (D : Addr) : Prop := ∀ o, H0 D = some o → ∃ ps, o = .tbl ps
structure St3 (T : TL) (u : Addr) (H0 H : Hp) : Prop where
  but : ButT u H0 H
  tab : LamX.Tabs T H
  urn : urnAt H u
section
variable {T : TL} {u : Addr} {H0 H H' : Hp}
theorem St3.same (S : St3 T u H0 H) (s : Same H H') : St3 T u H0 H' := ⟨fun b o e n t => s _ _ (S.but b o e n t), S.tab.ext s, urn_same s S.urn⟩
theorem St3.butu (S : St3 T u H0 H) (b : But u H H') (hu : urnAt H' u) : St3 T u H0 H' := ⟨S.but.trans (ButT.of b), tabs_but S.tab S.urn b, hu⟩
theorem St3.ext (S : St3 T u H0 H) (x : LamX.ExtN H H') (t : LamX.Tabs T H') : St3 T u H0 H' := by
  refine ⟨S.but.trans (ButT.ofN x), t, ?_⟩
  obtain ⟨a, b, c, e⟩ := S.urn
  exact ⟨a, b, c, x _ _ e (fun _ z => nomatch z)⟩
theorem St3.put {D : Addr} {xs ys : List V} (S : St3 T u H0 H) (hD : H D = some (.lst xs)) (n0 : Fresh H0 D) (ne : D ≠ u) : St3 T u H0 (upd H D (.lst ys)) := by
  refine ⟨fun b o e n t => ?_, tabs_put S.tab hD, ?_⟩
  · have hb : b ≠ D := fun z => by
      obtain ⟨ps, h⟩ := n0 o (z ▸ e)
      exact t ps h
    rw [upd_ne hb]
    exact S.but b o e n t
  · obtain ⟨a, b, c, e⟩ := S.urn
    exact ⟨a, b, c, by rw [upd_ne (Ne.symm ne)]; exact e⟩
theorem St3.new {D : Addr} (S : St3 T u H0 H) (n : H D = none) : Fresh H0 D := by
  intro o e
  have ne : D ≠ u := (urn_ne S.urn n).symm
  cases o with
  | tbl ps => exact ⟨ps, rfl⟩
  | _ =>
    have := S.but D _ e ne (fun ps z => nomatch z)
    rw [n] at this
    cases this
end
end SQ1
namespace SQ1
open PySem L2 SQ
section
variable {P : Program} {w : World} {K : PySem.W.Frag} {mg : Str → Option Value} {base : Heap} {fR fL fO fH fTi fM fT fA fS fEq fRp fLn CN CI fJ C c Pt : Addr} {fdL fdO dH dTi dM dT dA : FuncData} {A : Around} {outer : List Env} {s : Shared} {H : Hp} {E : XK}
variable {T : TL} {u : Addr} {H0 : Hp}
theorem r_0 (a : All P w K mg base fL fO fH fTi fM fT fA fS fEq fRp fLn CN CI fJ C c Pt fdL fdO dH dTi dM dT dA) (hr : Room 9 (Xr P w K mg base fR c A outer s H E).A) : ∃ t, PS (Xr P w K mg base fR c A outer s H E) (nth rTurn 0) t ∧ ∀ (D : Ends) (G : Hp) (a1 a2 a3 a4 a5 a6 a7 a8 a9 a10 a11 a12 : Option V), St3 T u H0 G →
    (∀ (G' : Hp) (l : Addr) (xs : List Str), St3 T u H0 G' → G' l = some (.lst (xs.map V.str)) → l ≠ u → xs.length ≤ 8 → xs.Nodup → (∀ x ∈ xs, TitA x) → D.nx [some (.ref u), a1, some (.ref l), a3, a4, a5, a6, a7, a8, a9, a10, a11, a12, none] G') →
    t D [some (.ref u), a1, a2, a3, a4, a5, a6, a7, a8, a9, a10, a11, a12, none] G := by
  refine ⟨_, ps_set (i := 2) scR.nd rfl (.inl rfl) (pe_call a.GTi (hr.mono (by decide)) rfl a.gTi a.kTi a.bTi .nil pass0 (pa_cons (pv 0) (pa_cons (pe_call a.GO (hr.mono (by decide)) rfl a.DW.gO a.DW.FO.kp a.DW.bO .nil pass0 (pa_cons (pv 0) (pa_cons (pe_lst (pa_cons pe_int (pa_cons pe_int (pa_cons pe_int (pa_cons pe_int (pa_cons pe_int (pa_cons pe_int pa_nil))))))) pa_nil))) pa_nil))), fun D G a1 a2 a3 a4 a5 a6 a7 a8 a9 a10 a11 a12 S q => ?_⟩
  refine ⟨_, rfl, _, rfl, (by show 6 ≤ sizeLine; decide), fun p np => ?_⟩
  have S1 : St3 T u H0 (upd G p (.lst [.int 0, .int 1, .int 2, .int 3, .int 3, .int 8])) := S.same (same_new (fun _ _ e => e) np)
  refine ⟨u, p, _, rfl, S1.urn, urn_ne S.urn np, upd_same, by decide, by decide, fun G2 i x hx hu2 b2 => ?_⟩
  have S2 := S1.butu b2 hu2
  obtain ⟨m, rfl, m8⟩ : ∃ m : Nat, x = .int (m : Int) ∧ m ≤ 8 := by
    match i, hx with
    | 0, h => cases h; exact ⟨0, rfl, by decide⟩
    | 1, h => cases h; exact ⟨1, rfl, by decide⟩
    | 2, h => cases h; exact ⟨2, rfl, by decide⟩
    | 3, h => cases h; exact ⟨3, rfl, by decide⟩
    | 4, h => cases h; exact ⟨3, rfl, by decide⟩
    | 5, h => cases h; exact ⟨8, rfl, by decide⟩
    | i + 6, h => cases h
  refine ⟨u, m, rfl, hu2, m8, fun G3 l xs hu3 b3 nl lu hl lm nd ok => ?_⟩
  exact q G3 l xs (S2.butu b3 hu3) hl lu (by omega) nd ok
end
end SQ1
namespace SQ1
open PySem L2 SQ
theorem Trs.but {u : Addr} {H H' : Hp} {xs : List V} {es : List G3} (b : But u H H') (hu : urnAt H u) (h : Trs H xs es) : Trs H' xs es := by
  obtain ⟨x, y, z, e⟩ := hu
  exact Paired.mapP h fun v g ⟨t, e1, e2⟩ => ⟨t, e1, b _ _ e2 (ne_of e2 e (by intro z; cases z))⟩
theorem Trs.put {D : Addr} {H : Hp} {xs ys zs : List V} {es : List G3} (hD : H D = some (.lst ys)) (h : Trs H xs es) : Trs (upd H D (.lst zs)) xs es :=
  Paired.mapP h fun v g ⟨t, e1, e2⟩ => ⟨t, e1, by rw [upd_ne (ne_of e2 hD (by intro z; cases z))]; exact e2⟩
theorem Trs.snoc {H : Hp} : ∀ {xs : List V} {es : List G3} {v : V} {g : G3}, Trs H xs es → (∃ t, v = V.ref t ∧ H t = some (.tup [.str g.1, .int g.2.1, .int g.2.2])) → Trs H (xs ++ [v]) (es ++ [g])
  | _, _, _, _, .nil, h => .cons h .nil
  | _, _, _, _, .cons r t, h => .cons r (Trs.snoc t h)
theorem VcS.same {C o : Addr} {H H' : Hp} {es S : List G3} (s : Same H H') (h : VcS C H o es S) : VcS C H' o es S := by
  obtain ⟨gs, h1, h2, ⟨dx, dA, tN, kvs, e1, e2, e3, e4⟩, h4⟩ := h
  exact ⟨gs, h1, h2, ⟨dx, dA, tN, kvs, s _ _ e1, s _ _ e2, s _ _ e3, e4.same s⟩, h4⟩
theorem lst_ne {u l : Addr} {G : Hp} {xs : List Str} (hu : urnAt G u) (hl : G l = some (.lst (xs.map V.str))) : l ≠ u := by
  obtain ⟨x, y, z, e⟩ := hu
  intro e2
  subst e2
  rw [hl] at e
  have e3 := HO.lst.inj (Option.some.inj e)
  cases xs with
  | nil => cases e3
  | cons y ys => cases e3
section
variable {P : Program} {w : World} {K : PySem.W.Frag} {mg : Str → Option Value} {base : Heap} {fR fL fO fH fTi fM fT fA fS fEq fRp fLn CN CI fJ C c Pt : Addr} {fdL fdO dH dTi dM dT dA : FuncData} {A : Around} {outer : List Env} {s : Shared} {H : Hp} {E : XK}
variable {T : TL} {u : Addr} {H0 : Hp}
theorem r_1 (a : All P w K mg base fL fO fH fTi fM fT fA fS fEq fRp fLn CN CI fJ C c Pt fdL fdO dH dTi dM dT dA) (hr : Room 9 (Xr P w K mg base fR c A outer s H E).A) : ∃ t, PS (Xr P w K mg base fR c A outer s H E) (nth rTurn 1) t ∧ ∀ (D : Ends) (G : Hp) (l : Addr) (xs : List Str) (a1 a3 a4 a5 a6 a7 a8 a9 a10 a11 a12 : Option V), St3 T u H0 G → G l = some (.lst (xs.map V.str)) → xs.length ≤ 8 → xs.Nodup → (∀ x ∈ xs, TitA x) →
    (∀ (G' : Hp) (p : Addr) (vs : List V) (es : List G3), St3 T u H0 G' → G' l = some (.lst (xs.map V.str)) → G' p = some (.lst vs) → Trs G' vs es → GoodE es → gnames es = xs → D.nx [some (.ref u), a1, some (.ref l), a3, some (.ref p), a5, a6, a7, a8, a9, a10, a11, a12, none] G') →
    t D [some (.ref u), a1, some (.ref l), a3, a4, a5, a6, a7, a8, a9, a10, a11, a12, none] G := by
  refine ⟨_, (ps_setLc (i := 4) (own := [("_law_title", 3)]) (g := gName 3) (tt := tYes) rfl scR.nd rfl rfl rfl (pi_list (pv 2)) (blkOk_by (N := nR) (sc := defScope sRight) (by decide +kernel)) (fun _ _ _ _ _ => pg_name (i := 3) scR.nd rfl (.inl rfl)) (fun _ _ _ _ _ => pts_nil)
      (fun _ _ _ _ _ => pe_tup (pa_cons (pv 3) (pa_cons (pe_call a.GL (hr.mono (by decide)) rfl a.DW.gL a.DW.FL.kp a.DW.bL .nil pass0 (pa_cons (pv 0) (pa_cons pe_int pa_nil))) (pa_cons (pe_call a.GL (hr.mono (by decide)) rfl a.DW.gL a.DW.FL.kp a.DW.bL .nil pass0 (pa_cons (pv 0) (pa_cons pe_int pa_nil))) pa_nil))))), fun D G l xs a1 a3 a4 a5 a6 a7 a8 a9 a10 a11 a12 S hl h8 nd ok q => ?_⟩
  have lu : l ≠ u := lst_ne S.urn hl
  refine ⟨_, rfl, l, rfl, ⟨_, SqL.of hl⟩, fun D2 hD2 => ?_⟩
  have f2 : Fresh H0 D2 := S.new hD2
  have D2u : D2 ≠ u := (urn_ne S.urn hD2).symm
  have D2l : D2 ≠ l := (ne_of_none hl hD2).symm
  refine lc_list (K := K) (a := l) (xs := xs.map V.str) (fun i G2 => St3 T u H0 G2 ∧ G2 l = some (.lst (xs.map V.str)) ∧ ∃ (vs : List V) (es : List G3), G2 D2 = some (.lst vs) ∧ Trs G2 vs es ∧ gnames es = xs.take i ∧ ∀ g ∈ es, (0 ≤ g.2.1 ∧ g.2.1 ≤ 3) ∧ 0 ≤ g.2.2 ∧ g.2.2 ≤ 3)
    ⟨S.same (same_new (fun _ _ e => e) hD2), by rw [upd_ne (Ne.symm D2l)]; exact hl, [], [], upd_same, .nil, rfl, fun _ z => nomatch z⟩ (fun i G2 _ h => SqL.of h.2.1) ?_ ?_
  · rintro i v G2 hi ⟨S2, hl2, vs, es, hD, ht, hn, har⟩
    rw [List.getElem?_map] at hi
    cases hg : xs[i]? with
    | none =>
      rw [hg] at hi
      cases hi
    | some y =>
      rw [hg] at hi
      cases hi
      refine ⟨rfl, keptT ⟨_, rfl, _, rfl, u, 4, rfl, S2.urn, by decide, by decide, fun G3' m m0 m4 hu3 b3 => ⟨_, rfl, u, 4, rfl, hu3, by decide, by decide, fun G4 n n0 n4 hu4 b4 => ⟨(by show 3 ≤ sizeLine; decide), fun p np => ?_⟩⟩⟩⟩
      have S4 := (S2.butu b3 hu3).butu b4 hu4
      have t4 := (ht.but b3 S2.urn).but b4 hu3
      have hD4 : G4 D2 = some (.lst vs) := b4 _ _ (b3 _ _ hD D2u) D2u
      have hl4 : G4 l = some (.lst (xs.map V.str)) := b4 _ _ (b3 _ _ hl2 lu) lu
      have sp : Same G4 (upd G4 p (.tup [.str y, .int m, .int n])) := same_new (fun _ _ e => e) np
      have len : vs.length ≤ 8 := by
        rw [ht.len]
        have e := congrArg List.length hn
        unfold gnames at e
        rw [List.length_map, List.length_take] at e
        omega
      refine ⟨vs, sp _ _ hD4, small1000 (by omega), (S4.same sp).put (sp _ _ hD4) f2 D2u, by rw [upd_ne (Ne.symm D2l)]; exact sp _ _ hl4, vs ++ [.ref p], es ++ [(y, m, n)], upd_same, ((t4.same sp).snoc ⟨p, rfl, upd_same⟩).put (sp _ _ hD4), ?_, fun g hg' => ?_⟩
      · rw [take_more hg, ← hn]
        unfold gnames
        rw [List.map_append]
        rfl
      · rcases List.mem_append.mp hg' with h | h
        · exact har g h
        · rw [List.mem_singleton.mp h]
          exact ⟨⟨m0, by show m ≤ 3; omega⟩, n0, by show n ≤ 3; omega⟩
  · rintro G2 ⟨S2, hl2, vs, es, hD, ht, hn, har⟩
    rw [List.length_map, List.take_length] at hn
    refine q G2 D2 vs es S2 hl2 hD ht ⟨fun g hg => (ok g.1 (by rw [← hn]; exact List.mem_map.mpr ⟨g, hg, rfl⟩)).tit, har, by rw [hn]; exact nd, ?_⟩ hn
    have e := congrArg List.length hn
    unfold gnames at e
    rw [List.length_map] at e
    omega
theorem r_2 (a : All P w K mg base fL fO fH fTi fM fT fA fS fEq fRp fLn CN CI fJ C c Pt fdL fdO dH dTi dM dT dA) (hr : Room 9 (Xr P w K mg base fR c A outer s H E).A) : ∃ t, PS (Xr P w K mg base fR c A outer s H E) (nth rTurn 2) t ∧ ∀ (D : Ends) (G : Hp) (p : Addr) (vs : List V) (es : List G3) (a1 a2 a3 a5 a6 a7 a8 a9 a10 a11 a12 : Option V), St3 T u H0 G → G p = some (.lst vs) → Trs G vs es → GoodE es →
    (∀ (G' : Hp) (o : Addr) (S : List G3), St3 T u H0 G' → Same G G' → VcS C G' o es S → D.nx [some (.ref u), a1, a2, a3, some (.ref p), some (.str (lineOf S)), a6, a7, a8, a9, a10, some (.ref o), a12, none] G') →
    t D [some (.ref u), a1, a2, a3, some (.ref p), a5, a6, a7, a8, a9, a10, a11, a12, none] G := by
  refine ⟨_, ps_asg (pe_tup (pa_cons (pe_call a.GM (hr.mono (by decide)) rfl a.gM a.kM a.bM .nil pass0 (pa_cons (pv 4) pa_nil)) (pa_cons (pe_call a.GT (hr.mono (by decide)) rfl a.gT a.kT a.bT .nil pass0 (pa_cons (pv 4) pa_nil)) pa_nil)))
    (pg_tup rfl (pgs_cons (pg_name (i := 11) scR.nd rfl (.inr rfl)) (pgs_cons (pg_name (i := 5) scR.nd rfl (.inl rfl)) pgs_nil))), fun D G p vs es a1 a2 a3 a5 a6 a7 a8 a9 a10 a11 a12 S hp ht GG q => ?_⟩
  refine ⟨_, rfl, p, vs, es, rfl, hp, ht, GG, fun o S' G2 oS s2 V => ?_⟩
  refine ⟨_, rfl, p, vs, es, rfl, s2 _ _ hp, ht.same s2, GG, fun S2 G3' oS2 s3 => ?_⟩
  refine ⟨(by show 2 ≤ sizeLine; decide), fun pt npt => ?_⟩
  have e : S2 = S' := srt_one GG oS2 oS
  subst e
  have s4 : Same G3' (upd G3' pt (.tup [.ref o, .str (lineOf S2)])) := same_new (fun _ _ e => e) npt
  refine ⟨pt, _, rfl, SqT.of upd_same, rfl, _, _, rfl, _, _, rfl, rfl, ?_⟩
  exact q _ o S2 (((S.same s2).same s3).same s4) (st s2 (st s3 s4)) (V.same (st s3 s4))
end
end SQ1
namespace SQ1
open PySem L2 SQ
section
variable {P : Program} {w : World} {K : PySem.W.Frag} {mg : Str → Option Value} {base : Heap} {fR fL fO fH fTi fM fT fA fS fEq fRp fLn CN CI fJ C c Pt : Addr} {fdL fdO dH dTi dM dT dA : FuncData} {A : Around} {outer : List Env} {s : Shared} {H : Hp} {E : XK}
variable {T : TL} {u : Addr} {H0 : Hp}
/-- what is no name of a vocabulary -/
inductive Odd (G : Hp) : V → Prop
  | non : Odd G .non
  | int : Odd G (.int 5)
  | tup0 {p : Addr} (h : G p = some (.tup [])) : Odd G (.ref p)
  | tup {p : Addr} (h : G p = some (.tup [.str "t", .int 1])) : Odd G (.ref p)
  | lst {p : Addr} (h : G p = some (.lst [])) : Odd G (.ref p)
  | bl : Odd G (.bl true)
  | str {z : Str} (h : z ∈ [("" : Str), "call", "Q", "zzzzzzzzz"]) : Odd G (.str z)
  | dic {p : Addr} (h : G p = some (.dK [])) : Odd G (.ref p)
theorem Odd.keep {G G' : Hp} {v : V} (k : ∀ p o, G p = some o → (∀ x y z, o ≠ .lst [.int x, .int y, .int z]) → (∀ ps, o ≠ .tbl ps) → G' p = some o) (o : Odd G v) : Odd G' v := by
  cases o with
  | non => exact .non
  | int => exact .int
  | tup0 h => exact .tup0 (k _ _ h (fun _ _ _ z => nomatch z) (fun _ z => nomatch z))
  | tup h => exact .tup (k _ _ h (fun _ _ _ z => nomatch z) (fun _ z => nomatch z))
  | lst h => exact .lst (k _ _ h (fun _ _ _ z => by cases z) (fun _ z => nomatch z))
  | bl => exact .bl
  | str h => exact .str h
  | dic h => exact .dic (k _ _ h (fun _ _ _ z => nomatch z) (fun _ z => nomatch z))
theorem Odd.same {G G' : Hp} {v : V} (s : Same G G') (o : Odd G v) : Odd G' v := o.keep fun p x e _ _ => s p x e
theorem Odd.ext {G G' : Hp} {v : V} (s : LamX.ExtN G G') (o : Odd G v) : Odd G' v := o.keep fun p x e _ t => s p x e t
theorem Odd.but {u : Addr} {G G' : Hp} {v : V} (hu : urnAt G u) (b : But u G G') (o : Odd G v) : Odd G' v := by
  obtain ⟨x, y, z, eu⟩ := hu
  exact o.keep fun p x' e n _ => b p x' e fun q => by
    subst q
    rw [eu] at e
    exact n x y z (Option.some.inj e).symm
theorem VcS.ext {C o : Addr} {H H' : Hp} {es S : List G3} (s : LamX.ExtN H H') (h : VcS C H o es S) : VcS C H' o es S := by
  obtain ⟨gs, h1, h2, ⟨dx, dA, tN, kvs, e1, e2, e3, e4⟩, h4⟩ := h
  exact ⟨gs, h1, h2, ⟨dx, dA, tN, kvs, s _ _ e1 (fun _ z => nomatch z), s _ _ e2 (fun _ z => nomatch z), s _ _ e3 (fun _ z => nomatch z), Paired.mapP e4 fun kv g ⟨q1, t0, q2, q3⟩ => ⟨q1, t0, q2, s _ _ q3 (fun _ z => nomatch z)⟩⟩, h4⟩
theorem VcS.but {u C o : Addr} {H H' : Hp} {es S : List G3} (hu : urnAt H u) (b : But u H H') (h : VcS C H o es S) : VcS C H' o es S := by
  obtain ⟨x, y, z, eu⟩ := hu
  obtain ⟨gs, h1, h2, ⟨dx, dA, tN, kvs, e1, e2, e3, e4⟩, h4⟩ := h
  exact ⟨gs, h1, h2, ⟨dx, dA, tN, kvs, b _ _ e1 (ne_of e1 eu (by intro z; cases z)), b _ _ e2 (ne_of e2 eu (by intro z; cases z)), b _ _ e3 (ne_of e3 eu (by intro z; cases z)), Paired.mapP e4 fun kv g ⟨q1, t0, q2, q3⟩ => ⟨q1, t0, q2, b _ _ q3 (ne_of q3 eu (by intro z; cases z))⟩⟩, h4⟩
theorem r_7 (a : All P w K mg base fL fO fH fTi fM fT fA fS fEq fRp fLn CN CI fJ C c Pt fdL fdO dH dTi dM dT dA) (hr : Room 9 (Xr P w K mg base fR c A outer s H E).A) : ∃ t, PS (Xr P w K mg base fR c A outer s H E) (nth rTurn 7) t ∧ ∀ (D : Ends) (G : Hp) (o : Addr) (es S : List G3) (a1 a2 a3 a4 a5 a6 a7 a8 a9 a10 a12 : Option V), St3 T u H0 G → VcS C G o es S →
    (∀ (v : V) (G' : Hp), St3 T u H0 G' → VcS C G' o es S → Odd G' v → D.nx [some (.ref u), a1, a2, a3, a4, a5, a6, a7, a8, a9, a10, some (.ref o), some v, none] G') →
    t D [some (.ref u), a1, a2, a3, a4, a5, a6, a7, a8, a9, a10, some (.ref o), a12, none] G := by
  refine ⟨_, ps_set (i := 12) scR.nd rfl (.inr rfl) (pe_call a.GO (hr.mono (by decide)) rfl a.DW.gO a.DW.FO.kp a.DW.bO .nil pass0 (pa_cons (pv 0) (pa_cons (pe_lst (pa_cons pe_non (pa_cons pe_int (pa_cons pe_str (pa_cons pe_str (pa_cons pe_str (pa_cons pe_str (pa_cons (pe_tup pa_nil) (pa_cons (pe_tup (pa_cons pe_str (pa_cons pe_int pa_nil))) (pa_cons pe_bl (pa_cons (pe_lst pa_nil) (pa_cons pe_dnewK pa_nil)))))))))))) pa_nil))), fun D G o es S' a1 a2 a3 a4 a5 a6 a7 a8 a9 a10 a12 S V q => ?_⟩
  refine ⟨_, rfl, (by show 0 ≤ sizeLine; decide), fun p1 n1 => ⟨(by show 2 ≤ sizeLine; decide), fun p2 n2 => ⟨(by show 0 ≤ sizeLine; decide), fun p3 n3 => fun p4 n4 => ?_⟩⟩⟩
  have s1 : Same G (upd G p1 (.tup [])) := same_new (fun _ _ e => e) n1
  have h1 : upd G p1 (.tup []) p1 = some (.tup []) := upd_same
  generalize upd G p1 (.tup []) = G1 at s1 h1 n2 n3 n4 ⊢
  have s2 : Same G1 (upd G1 p2 (.tup [.str "t", .int 1])) := same_new (fun _ _ e => e) n2
  have h2 : upd G1 p2 (.tup [.str "t", .int 1]) p2 = some (.tup [.str "t", .int 1]) := upd_same
  generalize upd G1 p2 (.tup [.str "t", .int 1]) = G2 at s2 h2 n3 n4 ⊢
  have s3 : Same G2 (upd G2 p3 (.lst [])) := same_new (fun _ _ e => e) n3
  have h3 : upd G2 p3 (.lst []) p3 = some (.lst []) := upd_same
  generalize upd G2 p3 (.lst []) = G3' at s3 h3 n4 ⊢
  have s4 : Same G3' (upd G3' p4 (.dK [])) := same_new (fun _ _ e => e) n4
  have h4 : upd G3' p4 (.dK []) p4 = some (.dK []) := upd_same
  generalize upd G3' p4 (.dK []) = G4 at s4 h4 ⊢
  refine ⟨(by show 11 ≤ sizeLine; decide), fun p5 n5 => ?_⟩
  have s5 := fun xs => same_new (o := .lst xs) (fun _ _ e => e : Same G4 G4) n5
  have S4 : St3 T u H0 G4 := (((S.same s1).same s2).same s3).same s4
  have V4 := (((V.same s1).same s2).same s3).same s4
  have S5 := S4.same (s5 [.non, .int 5, .str "", .str "call", .str "Q", .str "zzzzzzzzz", .ref p1, .ref p2, .bl true, .ref p3, .ref p4])
  refine ⟨u, p5, _, rfl, S5.urn, urn_ne S4.urn n5, upd_same, (by show 0 < 11; decide), (by show 11 ≤ 1000; decide), fun G6 i v ev hu6 b6 => ?_⟩
  refine q v G6 (S5.butu b6 hu6) ((V4.same (s5 _)).but S5.urn b6) ?_
  have hm := List.mem_of_getElem? ev
  refine Odd.but S5.urn b6 ?_
  refine Odd.same (s5 _) ?_
  simp only [List.mem_cons, List.not_mem_nil, or_false] at hm
  rcases hm with rfl | rfl | rfl | rfl | rfl | rfl | rfl | rfl | rfl | rfl | rfl
  · exact .non
  · exact .int
  · exact .str (by simp)
  · exact .str (by simp)
  · exact .str (by simp)
  · exact .str (by simp)
  · exact .tup0 (s4 _ _ (s3 _ _ (s2 _ _ h1)))
  · exact .tup (s4 _ _ (s3 _ _ h2))
  · exact .bl
  · exact .lst (s4 _ _ h3)
  · exact .dic h4
end
end SQ1
namespace SQ1
open PySem L2 SQ
section
variable {P : Program} {w : World} {K : PySem.W.Frag} {mg : Str → Option Value} {base : Heap} {fR fL fO fH fTi fM fT fA fS fEq fRp fLn CN CI fJ C c Pt : Addr} {fdL fdO dH dTi dM dT dA : FuncData} {A : Around} {outer : List Env} {s : Shared} {H : Hp} {E : XK}
variable {T : TL} {u : Addr} {H0 : Hp}
/-- what is seen of a vocabulary, as data -/
def dSeen (es S : List G3) : List PyData := [.tuple ((gnames S).map PyData.str), .str (lineOf S), .str (Str.empty ++ "Vocabulary(" ++ lineOf S ++ ")"), .int es.length, .bool ((es.length : Int) != 0), .list (es.map fun g => .tuple [.int g.2.1, .int g.2.2])]
theorem dp_strs {K : PySem.W.Frag} {H : Hp} : ∀ l : List Str, DpAll K H (l.map V.str) (l.map PyData.str)
  | [] => .nil
  | x :: l => .cons (.str x) (dp_strs l)
/-- the pairs of numbers -/
def Prs (H : Hp) (xs : List V) (es : List G3) : Prop := Paired (fun x g => ∃ t, x = V.ref t ∧ H t = some (.tup [.int g.2.1, .int g.2.2])) xs es
theorem Prs.same {H H' : Hp} {xs : List V} {es : List G3} (s : Same H H') (h : Prs H xs es) : Prs H' xs es := Paired.mapP h fun a b ⟨t, e1, e2⟩ => ⟨t, e1, s _ _ e2⟩
theorem Prs.put {D : Addr} {H : Hp} {xs ys zs : List V} {es : List G3} (hD : H D = some (.lst ys)) (h : Prs H xs es) : Prs (upd H D (.lst zs)) xs es :=
  Paired.mapP h fun v g ⟨t, e1, e2⟩ => ⟨t, e1, by rw [upd_ne (ne_of e2 hD (by intro z; cases z))]; exact e2⟩
theorem Prs.snoc {H : Hp} : ∀ {xs : List V} {es : List G3} {v : V} {g : G3}, Prs H xs es → (∃ t, v = V.ref t ∧ H t = some (.tup [.int g.2.1, .int g.2.2])) → Prs H (xs ++ [v]) (es ++ [g])
  | _, _, _, _, .nil, h => .cons h .nil
  | _, _, _, _, .cons r t, h => .cons r (Prs.snoc t h)
theorem Prs.dp {K : PySem.W.Frag} {H : Hp} : ∀ {xs : List V} {es : List G3}, Prs H xs es → DpAll K H xs (es.map fun g => .tuple [.int g.2.1, .int g.2.2])
  | _, _, .nil => .nil
  | _, _, .cons r t => by
    obtain ⟨a, e1, e2⟩ := r
    rw [e1]
    exact .cons (.tup (SqT.of e2) (.cons (.int _) (.cons (.int _) .nil))) (Prs.dp t)
theorem r_3 (a : All P w K mg base fL fO fH fTi fM fT fA fS fEq fRp fLn CN CI fJ C c Pt fdL fdO dH dTi dM dT dA) (hr : Room 9 (Xr P w K mg base fR c A outer s H E).A) : ∃ t, PS (Xr P w K mg base fR c A outer s H E) (nth rTurn 3) t ∧ ∀ (D : Ends) (G : Hp) (l o : Addr) (es S : List G3) (a1 a3 a4 a5 a6 a7 a8 a9 a10 a12 : Option V), St3 T u H0 G → G l = some (.lst ((gnames es).map V.str)) → GoodE es → VcS C G o es S →
    (∀ (G' : Hp) (p : Addr) (vs : List V), St3 T u H0 G' → Same G G' → G' p = some (.lst vs) → DpAll K G' vs (dSeen es S) → D.nx [some (.ref u), a1, some (.ref l), a3, a4, a5, some (.ref p), a7, a8, a9, a10, some (.ref o), a12, none] G') →
    t D [some (.ref u), a1, some (.ref l), a3, a4, a5, a6, a7, a8, a9, a10, some (.ref o), a12, none] G := by
  refine ⟨_, ps_set (i := 6) scR.nd rfl (.inl rfl) (pe_lst (pa_cons (pe_fld (pv 11) rfl) (pa_cons (pe_callTy (cr_strOwn a.GS (hr.mono (by decide)) a.SO.f a.SO.fn) (by rfl) a.B.str (by decide +kernel) (pa_cons (pv 11) pa_nil)) (pa_cons (pe_callB (cr_reprOwn a.GP (hr.mono (by decide)) a.RC) (by rfl) a.rp (by decide +kernel) (pa_cons (pv 11) pa_nil))
      (pa_cons (pe_callB (cr_lenOwn a.GN (hr.mono (by decide)) a.LC) (by rfl) a.B.len PySem.boot_len (pa_cons (pv 11) pa_nil)) (pa_cons (pe_callTy (cr_boolOwn a.GN (hr.mono (by decide)) a.LC) (by rfl) a.B.bool (by decide +kernel) (pa_cons (pv 11) pa_nil))
      (pa_cons (pe_lc (own := [("_law_title", 3)]) (g := gName 3) (tt := tYes) rfl scR.nd (pi_list (pv 2)) (blkOk_by (N := nR) (sc := defScope sRight) (by decide +kernel)) (fun _ _ _ _ _ => pg_name (i := 3) scR.nd rfl (.inl rfl)) (fun _ _ _ _ _ => pts_nil)
        (fun _ _ _ _ _ => pe_methK (pv 11) a.VV.cl a.MA a.GA (hr.mono (by decide)) a.hbA passX (pv 3))) pa_nil))))))), fun D G l o es S' a1 a3 a4 a5 a6 a7 a8 a9 a10 a12 S hl GE hVS q => ?_⟩
  have V0 := hVS
  obtain ⟨gs, pm, oS, hV, hT⟩ := V0
  have hV0 := hV
  obtain ⟨dx, dA, tN, kvs, ho, hN, hA, hk⟩ := hV
  have GS := oS.good GE
  have ll := line_len GS
  have nl : (gnames S').length = es.length := by
    unfold gnames
    rw [List.length_map, oS.pm.length_eq]
  have few := GE.few
  rw [hT] at ho
  refine ⟨_, rfl, o, C, dx, _, _, rfl, ho, a.VV.cl, a.VV.nN, rfl, ?_⟩
  refine ⟨_, rfl, o, dx, _, rfl, ho, o, dx, dA, tN, _, rfl, ho, _, rfl, ?_⟩
  refine ⟨_, rfl, o, dx, _, rfl, ho, o, dx, dA, tN, _, rfl, ho, by omega, _, rfl, ?_⟩
  refine ⟨_, rfl, o, dx, _, rfl, ho, o, gs, _, rfl, hV0, by omega, _, rfl, by omega, by omega, ?_⟩
  refine ⟨_, rfl, o, dx, _, rfl, ho, o, gs, _, rfl, hV0, by omega, _, rfl, by omega, by omega, ?_⟩
  refine ⟨_, rfl, l, rfl, ⟨_, SqL.of hl⟩, fun D2 nD2 => ?_⟩
  have D2l : D2 ≠ l := (ne_of_none hl nD2).symm
  have ndg : (gnames gs).Nodup := (names_pm pm).nodup_iff.mpr GE.nd
  refine lc_list (K := K) (a := l) (xs := (gnames es).map V.str) (fun i G2 => Same G G2 ∧ ∃ vs : List V, G2 D2 = some (.lst vs) ∧ Prs G2 vs (es.take i)) ⟨same_new (fun _ _ e => e) nD2, [], upd_same, .nil⟩ (fun i G2 _ h => SqL.of (h.1 _ _ hl)) ?_ ?_
  · rintro i v G2 hi ⟨s2, vs, hD, hp⟩
    unfold gnames at hi
    rw [List.map_map, List.getElem?_map] at hi
    cases hg : es[i]? with
    | none =>
      rw [hg] at hi
      cases hi
    | some g =>
      rw [hg] at hi
      cases hi
      have gm : g ∈ gs := pm.mem_iff.mpr (List.mem_of_getElem? hg)
      have hV2 : Vc C G2 o gs (gnames S') := ⟨dx, dA, tN, kvs, by rw [hT]; exact s2 _ _ ho, s2 _ _ hN, s2 _ _ hA, hk.same s2⟩
      have len : vs.length ≤ 8 := by
        have e := Paired.length hp
        rw [List.length_take] at e
        omega
      refine ⟨rfl, keptT ⟨_, rfl, o, dx, _, rfl, s2 _ _ ho, rfl, _, rfl, _, rfl, o, gs, _, _, rfl, hV2, .inl ⟨g.1, rfl, List.mem_map.mpr ⟨g, gm, rfl⟩, fun t ht => ?_⟩⟩⟩
      rw [ar_self ndg g gm] at ht
      refine ⟨vs, hD, small1000 (by omega), ?_, vs ++ [.ref t], upd_same, ?_⟩
      · intro b ob e
        rw [upd_ne (ne_of_none e nD2)]
        exact s2 _ _ e
      · rw [take_more hg]
        exact (hp.snoc ⟨t, rfl, ht⟩).put hD
  · rintro G2 ⟨s2, vs, hD, hp⟩
    have el : ((gnames es).map V.str).length = es.length := by
      unfold gnames
      rw [List.length_map, List.length_map]
    rw [el, List.take_length] at hp
    refine ⟨(by show 6 ≤ sizeLine; decide), fun p np => ?_⟩
    have s3 := fun xs => same_new (o := .lst xs) (fun _ _ e => e : Same G2 G2) np
    refine q _ p _ ((S.same s2).same (s3 _)) (st s2 (s3 _)) upd_same ?_
    have hD3 := s3 [.ref tN, .str (lineOf S'), .str (Str.empty ++ "Vocabulary(" ++ lineOf S' ++ ")"), .int (gnames S').length, .bl (((gnames S').length : Int) != 0), .ref D2] _ _ hD
    have hN3 := s3 [.ref tN, .str (lineOf S'), .str (Str.empty ++ "Vocabulary(" ++ lineOf S' ++ ")"), .int (gnames S').length, .bl (((gnames S').length : Int) != 0), .ref D2] _ _ (s2 _ _ hN)
    have hp3 := hp.same (s3 [.ref tN, .str (lineOf S'), .str (Str.empty ++ "Vocabulary(" ++ lineOf S' ++ ")"), .int (gnames S').length, .bl (((gnames S').length : Int) != 0), .ref D2])
    unfold dSeen
    rw [← nl]
    exact .cons (.tup (SqT.of hN3) (dp_strs _)) (.cons (.str _) (.cons (.str _) (.cons (.int _) (.cons (.bl _) (.cons (.lst (SqL.of hD3) hp3.dp) .nil)))))
end
end SQ1
namespace SQ1
open PySem L2 SQ
def okS (x : Str) : Prop := ∀ c ∈ x.cps.toList, c < 1114112
theorem strOk_of {x : Str} (h : okS x) : PyData.strOk x = true := by
  unfold PyData.strOk
  rw [← Array.all_toList, List.all_eq_true]
  intro c hc
  exact decide_eq_true (h c hc)
theorem free_ok {n : Str} (h : isFree (.str n) = true) : okS n := by
  intro c hc
  have hm := free_letters h c hc
  unfold letters at hm
  have : ∀ c ∈ ([97, 98, 99, 100, 101, 102, 103, 104, 105, 106, 107, 108, 109, 110, 111, 112, 113, 114, 115, 116, 117, 118, 119, 120, 121, 122] : List Nat), c < 1114112 := by decide
  exact this c hm
def d3 (g : G3) : PyData := .tuple [.str g.1, .int g.2.1, .int g.2.2]
theorem lay_trs : ∀ {l : List G3}, (∀ g ∈ l, okS g.1) → PyData.canLayAll0 (l.map d3) = true
  | [], _ => by simp only [List.map_nil, PyData.canLayAll0]
  | x :: l, h => by
    rw [List.map_cons]
    unfold d3
    simp only [PyData.canLayAll0, PyData.canLay0]
    rw [strOk_of (h x List.mem_cons_self)]
    have := lay_trs fun y hy => h y (List.mem_cons_of_mem _ hy)
    unfold d3 at this
    rw [this]
    rfl
theorem depth_trs : ∀ l : List G3, PyData.depthAll (l.map d3) ≤ 1
  | [] => by simp [PyData.depthAll]
  | x :: l => by
    have := depth_trs l
    rw [List.map_cons]
    unfold d3 at this ⊢
    simp only [PyData.depthAll, PyData.depth] at this ⊢
    omega
theorem shaped_trs {l : List G3} (h : ∀ g ∈ l, okS g.1) : SeqAt.shaped (.list (l.map d3)) = true := by
  have := depth_trs l
  unfold SeqAt.shaped
  simp only [PyData.canLay0, PyData.depth, lay_trs h]
  rw [Bool.true_and]
  exact decide_eq_true (by omega)
theorem Trs.dp {K : PySem.W.Frag} {H : Hp} : ∀ {xs : List V} {es : List G3}, Trs H xs es → DpAll K H xs (es.map d3)
  | _, _, .nil => .nil
  | _, _, .cons r t => by
    obtain ⟨a, e1, e2⟩ := r
    rw [e1]
    exact .cons (.tup (SqT.of e2) (.cons (.str _) (.cons (.int _) (.cons (.int _) .nil)))) (Trs.dp t)
theorem ne_nil (es : List G3) : (!PyData.eqv (.list (es.map d3)) (.list [])) = ((es.length : Int) != 0) := by
  cases es with
  | nil => simp [PyData.eqv, PyData.eqvAll]
  | cons g es =>
    simp only [List.map_cons, PyData.eqv, PyData.eqvAll, List.length_cons]
    simp [bne]
    omega
theorem shaped_nil : SeqAt.shaped (.list []) = true := by decide +kernel
section
variable {P : Program} {w : World} {K : PySem.W.Frag} {mg : Str → Option Value} {base : Heap} {fR fL fO fH fTi fM fT fA fS fEq fRp fLn CN CI fJ C c Pt : Addr} {fdL fdO dH dTi dM dT dA : FuncData} {A : Around} {outer : List Env} {s : Shared} {H : Hp} {E : XK}
variable {T : TL} {u : Addr} {H0 : Hp}
theorem r_4 (a : All P w K mg base fL fO fH fTi fM fT fA fS fEq fRp fLn CN CI fJ C c Pt fdL fdO dH dTi dM dT dA) (hr : Room 9 (Xr P w K mg base fR c A outer s H E).A) : ∃ t, PS (Xr P w K mg base fR c A outer s H E) (nth rTurn 4) t ∧ ∀ (D : Ends) (G : Hp) (l p : Addr) (vs : List V) (es S : List G3) (a1 a3 a6 a7 a8 a9 a10 a11 a12 : Option V), St3 T u H0 G → G l = some (.lst ((gnames es).map V.str)) → G p = some (.lst vs) → Trs G vs es → GoodE es → SrtOf es S →
    (∀ (G' : Hp) (p' tT : Addr), St3 T u H0 G' → Same G G' → G' p' = some (.lst [.ref tT, .str (lineOf S), .str (Str.empty ++ "Vocabulary(" ++ lineOf S ++ ")"), .int es.length, .bl ((es.length : Int) != 0)]) → G' tT = some (.tup ((gnames S).map V.str)) → D.nx [some (.ref u), a1, some (.ref l), a3, some (.ref p), some (.str (lineOf S)), a6, some (.ref p'), a8, a9, a10, a11, a12, none] G') →
    t D [some (.ref u), a1, some (.ref l), a3, some (.ref p), some (.str (lineOf S)), a6, a7, a8, a9, a10, a11, a12, none] G := by
  refine ⟨_, ps_set (i := 7) scR.nd rfl (.inl rfl) (pe_lst (pa_cons (pe_callTy call_tuple_of (by rfl) a.B.tuple (by decide +kernel) (pa_cons (pe_callB cr_sortedS (by rfl) a.B4'.sorted (by decide +kernel) (pa_cons (pv 2) pa_nil)) pa_nil)) (pa_cons (pv 5) (pa_cons (pe_op op_add_str (pe_op op_add_str pe_str (pv 5)) pe_str)
      (pa_cons (pe_callB call_len_seq (by rfl) a.B.len PySem.boot_len (pa_cons (pv 4) pa_nil)) (pa_cons (pe_cmpR (op_neD hr.units) (pv 4) (pe_lst pa_nil) (by rfl)) pa_nil)))))), fun D G l p vs es S' a1 a3 a6 a7 a8 a9 a10 a11 a12 S hl hp ht GE oS q => ?_⟩
  have GS := oS.good GE
  have ll := line_len GS
  have few := GE.few
  have line : ∀ {n : Nat}, n ≤ 1000 → n ≤ sizeLine := fun h => Nat.le_of_lt (small1000 h)
  have nl : (gnames es).length = es.length := by
    unfold gnames
    rw [List.length_map]
  refine ⟨_, rfl, l, gnames es, rfl, SqL.of hl, by omega, fun ys p1 pm so n1 => ?_⟩
  have ey : ys = gnames S' := sorted_one so oS.so (pm.trans (names_pm oS.pm).symm)
  subst ey
  refine ⟨p1, _, rfl, .inl ⟨SqL.of upd_same, fun tT nT => ?_⟩⟩
  have s1 : Same G (upd (upd G p1 (.lst ((gnames S').map V.str))) tT (.tup ((gnames S').map V.str))) := same_new (same_new (fun _ _ e => e) n1) nT
  have hT : upd (upd G p1 (.lst ((gnames S').map V.str))) tT (.tup ((gnames S').map V.str)) tT = some (.tup ((gnames S').map V.str)) := upd_same
  generalize upd (upd G p1 (.lst ((gnames S').map V.str))) tT (.tup ((gnames S').map V.str)) = G1 at s1 hT ⊢
  have l1 : ("Vocabulary(" : Str).length = 11 := by decide
  have l2 : (")" : Str).length = 1 := rfl
  refine ⟨_, rfl, _, rfl, _, _, rfl, rfl, line (by rw [l1]; omega), _, _, rfl, rfl, line (by rw [len_app, l1, l2]; omega), ?_⟩
  refine ⟨_, rfl, p, vs, rfl, .inl (SqL.of (s1 _ _ hp)), ?_⟩
  refine ⟨_, rfl, (by show 0 ≤ sizeLine; decide), fun pe ne => ?_⟩
  have s2 : Same G1 (upd G1 pe (.lst [])) := same_new (fun _ _ e => e) ne
  refine ⟨_, _, .lst (SqL.of (s2 _ _ (s1 _ _ hp))) ((ht.same (st s1 s2)).dp), .lst (SqL.of upd_same) .nil, shaped_trs (fun g hg => free_ok (tit_free (GE.tit g hg))), shaped_nil, ?_⟩
  rw [ne_nil]
  refine ⟨(by show 5 ≤ sizeLine; decide), fun p' np' => ?_⟩
  have s3 := fun xs => same_new (o := .lst xs) (fun _ _ e => e : Same (upd G1 pe (.lst [])) _) np'
  refine q _ p' tT (((S.same s1).same s2).same (s3 _)) (st s1 (st s2 (s3 _))) ?_ (s3 _ _ _ (s2 _ _ hT))
  rw [upd_same, ht.len]
  have ee : ("Vocabulary(" : Str) ++ lineOf S' ++ (")" : Str) = Str.empty ++ "Vocabulary(" ++ lineOf S' ++ ")" := by
    apply str_ext
    simp only [str_app]
    rfl
  rw [ee]
end
end SQ1
namespace SQ1
open PySem L2 SQ
theorem jn_mem {S : List Nat} {c : Nat} : ∀ {ps : List (List Nat)}, c ∈ jn S ps → c ∈ S ∨ ∃ p ∈ ps, c ∈ p
  | [], h => nomatch h
  | [x], h => .inr ⟨x, List.mem_singleton.mpr rfl, h⟩
  | x :: y :: r, h => by
    have h' : c ∈ x ++ (S ++ jn S (y :: r)) := h
    rcases List.mem_append.mp h' with h | h
    · exact .inr ⟨x, List.mem_cons_self, h⟩
    rcases List.mem_append.mp h with h | h
    · exact .inl h
    rcases jn_mem h with h | ⟨p, hp, h⟩
    · exact .inl h
    · exact .inr ⟨p, List.mem_cons_of_mem _ hp, h⟩
theorem ok_join {sep : Str} {ps : List Str} (h0 : okS sep) (h : ∀ p ∈ ps, okS p) : okS (Str.join sep ps) := by
  intro c hc
  rw [tl_join] at hc
  rcases jn_mem hc with hc | ⟨p, hp, hc⟩
  · exact h0 c hc
  · obtain ⟨q, hq, rfl⟩ := List.mem_map.mp hp
    exact h q hq c hc
theorem ok_app {a b : Str} (ha : okS a) (hb : okS b) : okS (a ++ b) := by
  intro c hc
  rw [str_app] at hc
  rcases List.mem_append.mp hc with h | h
  · exact ha c h
  · exact hb c h
theorem ltext_ok {g : G3} (t : Tit g.1) (a : (0 ≤ g.2.1 ∧ g.2.1 ≤ 3) ∧ 0 ≤ g.2.2 ∧ g.2.2 ≤ 3) : okS (ltext g) := by
  have num : ∀ {i : Int}, 0 ≤ i → i ≤ 3 → okS ((toString i : String) : Str) := fun h0 h1 c hc => by
    have hm := num_signs h0 h1 c hc
    have : ∀ c ∈ ([48, 49, 50, 51] : List Nat), c < 1114112 := by decide
    exact this c hm
  have sp : okS (" " : Str) := by
    unfold okS
    decide +kernel
  exact ok_app (ok_app (ok_app (ok_app (free_ok (tit_free t)) sp) (num a.1.1 a.1.2)) sp) (num a.2.1 a.2.2)
theorem line_ok {gs : List G3} (G : GoodG gs) : okS (lineOf gs) := by
  refine ok_join (by unfold okS; decide +kernel) fun p hp => ?_
  obtain ⟨g, hg, rfl⟩ := List.mem_map.mp hp
  exact ltext_ok (G.tit g hg) (G.ar g hg)
theorem sum_le8 {α : Type} (f : α → Nat) (b : Nat) (l : List α) (h : ∀ x ∈ l, f x ≤ b) (hl : l.length ≤ 8) : (l.map f).sum ≤ 8 * b := by
  have h1 := sum_le f b l h
  have h2 := Nat.mul_le_mul_right b hl
  omega
theorem shAll : ∀ l : List PyData, PyData.shownAll l = l.map PyData.shown
  | [] => by simp only [PyData.shownAll, List.map_nil]
  | d :: l => by simp only [PyData.shownAll, List.map_cons, shAll l]
theorem rep_len {x : Str} (h : okS x) : (reprText x).length ≤ 10 * x.length + 2 := StrLaws.reprText_len x (fun c hc => Nat.lt_trans (h c hc) (by decide))
theorem num_small {i : Int} (h0 : 0 ≤ i) (h1 : i ≤ 8) : (((toString i : String) : Str)).length ≤ 2 := by
  have : i = 0 ∨ i = 1 ∨ i = 2 ∨ i = 3 ∨ i = 4 ∨ i = 5 ∨ i = 6 ∨ i = 7 ∨ i = 8 := by omega
  rcases this with rfl | rfl | rfl | rfl | rfl | rfl | rfl | rfl | rfl <;> decide +kernel
theorem seen_shown {es S : List G3} (GE : GoodE es) (oS : SrtOf es S) : (PyData.list (dSeen es S)).shown.length ≤ 10000 := by
  have GS := oS.good GE
  have ll := line_len GS
  have lo := line_ok GS
  have few := GE.few
  have fS := GS.few
  have e1 : ((PyData.tuple ((gnames S).map PyData.str)).shown).length ≤ 8 * 82 + 19 := by
    simp only [PyData.shown]
    rw [shAll, List.map_map]
    have h := tupleText_len_le ((gnames S).map (PyData.shown ∘ PyData.str))
    rw [List.map_map, List.length_map] at h
    have h2 := sum_le8 ((fun x : Str => x.length) ∘ (PyData.shown ∘ PyData.str)) 82 (gnames S) (fun x hx => by
      obtain ⟨g, hg, rfl⟩ := List.mem_map.mp hx
      have t := GS.tit g hg
      have := rep_len (free_ok (tit_free t))
      have := t.hi
      show (PyData.shown (.str g.1)).length ≤ 82
      simp only [PyData.shown]
      omega) (by unfold gnames; rw [List.length_map]; exact fS)
    have h3 : (gnames S).length ≤ 8 := by unfold gnames; rw [List.length_map]; exact fS
    omega
  have e6 : ((PyData.list (es.map fun g => PyData.tuple [.int g.2.1, .int g.2.2])).shown).length ≤ 8 * 11 + 19 := by
    simp only [PyData.shown]
    rw [shAll, List.map_map]
    have h := listText_len_le (es.map (PyData.shown ∘ fun g : G3 => PyData.tuple [.int g.2.1, .int g.2.2]))
    rw [List.map_map, List.length_map] at h
    have h2 := sum_le8 ((fun x : Str => x.length) ∘ (PyData.shown ∘ fun g : G3 => PyData.tuple [.int g.2.1, .int g.2.2])) 11 es (fun g hg => by
      obtain ⟨⟨i0, i3⟩, j0, j3⟩ := GE.ar g hg
      have a1 := num_small i0 (by omega)
      have a2 := num_small j0 (by omega)
      show (PyData.shown (.tuple [.int g.2.1, .int g.2.2])).length ≤ 11
      simp only [PyData.shown, PyData.shownAll]
      have := tupleText_len_le [((toString g.2.1 : String) : Str), ((toString g.2.2 : String) : Str)]
      simp only [List.map_cons, List.map_nil, List.sum_cons, List.sum_nil, List.length_cons, List.length_nil] at this
      omega) few
    omega
  have e2 := rep_len lo
  have vo : okS (Str.empty ++ "Vocabulary(" ++ lineOf S ++ ")") := ok_app (ok_app (ok_app (by unfold okS; decide +kernel) (by unfold okS; decide +kernel)) lo) (by unfold okS; decide +kernel)
  have e3 := rep_len vo
  have l1 : (Str.empty ++ ("Vocabulary(" : Str)).length = 11 := by decide
  have l2 : (")" : Str).length = 1 := rfl
  rw [len_app, len_app, l1, l2] at e3
  have e4 := num_small (i := (es.length : Int)) (by omega) (by omega)
  have e5 : ((PyData.bool ((es.length : Int) != 0)).shown).length ≤ 5 := by
    cases ((es.length : Int) != 0) <;> decide +kernel
  have h := listText_len_le (PyData.shownAll (dSeen es S))
  unfold dSeen at h ⊢
  simp only [PyData.shown] at e1 e5 e6 ⊢
  simp only [PyData.shownAll, List.map_cons, List.map_nil, List.sum_cons, List.sum_nil, List.length_cons, List.length_nil, PyData.shown] at h ⊢
  omega
theorem slT {X : Cx} {K : PySem.W.Frag} (h : X.K = K) : SlR X (rSlT K) := by
  subst h
  exact sl_tup
section
variable {P : Program} {w : World} {K : PySem.W.Frag} {mg : Str → Option Value} {base : Heap} {fR fL fO fH fTi fM fT fA fS fEq fRp fLn CN CI fJ C c Pt : Addr} {fdL fdO dH dTi dM dT dA : FuncData} {A : Around} {outer : List Env} {s : Shared} {H : Hp} {E : XK}
variable {T : TL} {u : Addr} {H0 : Hp}
end
end SQ1
namespace SQ1
open PySem L2 SQ
theorem Trs.rev {H : Hp} : ∀ {xs : List V} {es : List G3}, Trs H xs es → Trs H xs.reverse es.reverse
  | _, _, .nil => .nil
  | _, _, .cons r t => by
    rw [List.reverse_cons, List.reverse_cons]
    exact (Trs.rev t).snoc r
theorem sa_strs : ∀ l : List Str, PyData.showableAll (l.map PyData.str) = true ∧ PyData.depthAll (l.map PyData.str) ≤ 0
  | [] => by simp [PyData.showableAll, PyData.depthAll]
  | x :: l => by
    have := sa_strs l
    simp only [List.map_cons, PyData.showableAll, PyData.depthAll, PyData.showable, PyData.depth, this.1]
    exact ⟨by first | rfl | simp, by have := this.2; omega⟩
theorem sa_prs : ∀ l : List G3, (∀ g ∈ l, (0 ≤ g.2.1 ∧ g.2.1 ≤ 3) ∧ 0 ≤ g.2.2 ∧ g.2.2 ≤ 3) → PyData.showableAll (l.map fun g => PyData.tuple [.int g.2.1, .int g.2.2]) = true ∧ PyData.depthAll (l.map fun g => PyData.tuple [.int g.2.1, .int g.2.2]) ≤ 1
  | [], _ => by simp [PyData.showableAll, PyData.depthAll]
  | x :: l, h => by
    have := sa_prs l fun g hg => h g (List.mem_cons_of_mem _ hg)
    obtain ⟨⟨h1, h2⟩, h3, h4⟩ := h x List.mem_cons_self
    have k1 := small_log h1 (by omega)
    have k2 := small_log h3 (by omega)
    simp only [List.map_cons, PyData.showableAll, PyData.depthAll, PyData.showable, PyData.depth, this.1]
    exact ⟨by simp [k1, k2], by have := this.2; omega⟩
theorem seen_ok {es : List G3} (S : List G3) (GE : GoodE es) : (PyData.list (dSeen es S)).showable = true ∧ (PyData.list (dSeen es S)).depth ≤ 60 := by
  have h1 := sa_strs (gnames S)
  have h2 := sa_prs es GE.ar
  have few := GE.few
  have k : es.length.log2 < 1920 := Nat.lt_of_le_of_lt (Nat.log2_le_self _) (by omega)
  unfold dSeen
  constructor
  · simp only [PyData.showable, PyData.showableAll, h1.1, h2.1]
    simp
    simpa using k
  · simp only [PyData.depth, PyData.depthAll]
    have := h1.2
    have := h2.2
    omega
section
variable {P : Program} {w : World} {K : PySem.W.Frag} {mg : Str → Option Value} {base : Heap} {fR fL fO fH fTi fM fT fA fS fEq fRp fLn CN CI fJ C c Pt : Addr} {fdL fdO dH dTi dM dT dA : FuncData} {A : Around} {outer : List Env} {s : Shared} {H : Hp} {E : XK}
variable {T : TL} {u : Addr} {H0 : Hp}
theorem r_5 (a : All P w K mg base fL fO fH fTi fM fT fA fS fEq fRp fLn CN CI fJ C c Pt fdL fdO dH dTi dM dT dA) (hr : Room 9 (Xr P w K mg base fR c A outer s H E).A) (hgd : (Xr P w K mg base fR c A outer s H E).A.guards = some []) : ∃ t, PS (Xr P w K mg base fR c A outer s H E) (nth rTurn 5) t ∧ ∀ (D : Ends) (G : Hp) (p ps pd o tT : Addr) (vs us : List V) (es S : List G3) (a1 a2 a3 a8 a9 a10 a12 : Option V), St3 T u H0 G → G p = some (.lst vs) → Trs G vs es → GoodE es → VcS C G o es S → G ps = some (.lst us) → DpAll K G us (dSeen es S) →
    G pd = some (.lst [.ref tT, .str (lineOf S), .str (Str.empty ++ "Vocabulary(" ++ lineOf S ++ ")"), .int es.length, .bl ((es.length : Int) != 0)]) → G tT = some (.tup ((gnames S).map V.str)) →
    (∀ (G' : Hp), St3 T u H0 G' → Same G G' → D.nx [some (.ref u), a1, a2, a3, some (.ref p), some (.str (lineOf S)), some (.ref ps), some (.ref pd), a8, a9, a10, some (.ref o), a12, none] G') →
    t D [some (.ref u), a1, a2, a3, some (.ref p), some (.str (lineOf S)), some (.ref ps), some (.ref pd), a8, a9, a10, some (.ref o), a12, none] G := by
  refine ⟨_, ps_if (PW.pt (pw_or (pt_cmpR op_ne (pe_callB (cr_reprL hgd hr.units) (by rfl) a.rp (by decide +kernel) (pa_cons (pv 6) pa_nil))
        (pe_callB (cr_reprL hgd hr.units) (by rfl) a.rp (by decide +kernel) (pa_cons (pe_op op_cat (pv 7) (pe_lst (pa_cons (pe_lc (own := [("_law_each", 13)]) (g := gName 13) (tt := tYes) rfl scR.nd (pi_list (pv 4)) (blkOk_by (N := nR) (sc := defScope sRight) (by decide +kernel)) (fun _ _ _ _ _ => pg_name (i := 13) scR.nd rfl (.inl rfl)) (fun _ _ _ _ _ => pts_nil)
          (fun _ _ _ _ _ => pe_slice (slT (K := K) rfl) (pv 13) (po_some pe_int) po_none)) pa_nil))) pa_nil)) (nomark _))
      (pw_or (pt_cmpR (op_neOwn a.GE (hr.mono (by decide)) a.CQ) (pv 11) (pe_call a.GM (hr.mono (by decide)) rfl a.gM a.kM a.bM .nil pass0 (pa_cons (pe_revL (pv 4)) pa_nil)) (nomark _))
      (pw_or1 (pt_cmpR (op_eqOwnS a.GE (hr.mono (by decide)) a.CQ a.sub) (pv 11) (pv 5) (nomark _)))))) (pss_one (ps_ret pe_bl)) pss_nil, fun D G p ps pd o tT vs us es S' a1 a2 a3 a8 a9 a10 a12 S hp ht GE hV hps dps hpd htT q => ?_⟩
  obtain ⟨ok1, ok2⟩ := seen_ok S' GE
  have V0 := hV
  obtain ⟨gs, pm, oS, ⟨dx, dA, tN, kvs, ho, _⟩, hvt⟩ := V0
  rw [hvt] at ho
  have ok3 : (PyData.list (dSeen es S')).shown.length ≤ sizeLine := Nat.le_trans (seen_shown GE oS) (by decide)
  refine ⟨_, rfl, ps, us, dSeen es S', rfl, SqL.of hps, .inl dps, ok1, ok2, ok3, ?_⟩
  refine ⟨_, rfl, _, rfl, p, rfl, ⟨_, SqL.of hp⟩, fun D2 nD2 => ?_⟩
  refine lc_list (K := K) (a := p) (xs := vs) (fun i G2 => Same G G2 ∧ ∃ ws : List V, G2 D2 = some (.lst ws) ∧ Prs G2 ws (es.take i)) ⟨same_new (fun _ _ e => e) nD2, [], upd_same, .nil⟩ (fun i G2 _ h => SqL.of (h.1 _ _ hp)) ?_ ?_
  · rintro i v G2 hi ⟨s2, ws, hD, hw⟩
    obtain ⟨g, hg, t, rfl, e2⟩ := Paired.at ht hi
    have len : ws.length ≤ 8 := by
      have e := Paired.length hw
      rw [List.length_take] at e
      have := GE.few
      omega
    refine ⟨rfl, keptT ⟨_, rfl, 1, rfl, t, _, rfl, SqT.of (s2 _ _ e2), (fun h => absurd h.1 (by decide : ¬ HT.sIx 3 0 (some 1) = 0)), fun q1 n1 => ?_⟩⟩
    have s3 : Same G2 (upd G2 q1 (.tup [.int g.2.1, .int g.2.2])) := same_new (fun _ _ e => e) n1
    refine ⟨ws, s3 _ _ hD, small1000 (by omega), ?_, ws ++ [.ref q1], upd_same, ?_⟩
    · intro b ob e
      rw [upd_ne (ne_of_none e nD2)]
      exact s3 _ _ (s2 _ _ e)
    · rw [take_more hg]
      exact ((hw.same s3).snoc ⟨q1, rfl, upd_same⟩).put (s3 _ _ hD)
  · rintro G2 ⟨s2, ws, hD, hw⟩
    rw [ht.len, List.take_length] at hw
    refine ⟨(by show 1 ≤ sizeLine; decide), fun pl npl => ?_⟩
    have s3 : Same G2 (upd G2 pl (.lst [.ref D2])) := same_new (fun _ _ e => e) npl
    refine ⟨pd, pl, _, _, rfl, rfl, s3 _ _ (s2 _ _ hpd), upd_same, (by show 6 ≤ sizeLine; decide), fun pc npc => ?_⟩
    have s4 := fun zs => same_new (o := .lst zs) (fun _ _ e => e : Same (upd G2 pl (.lst [.ref D2])) _) npc
    have s5 := fun zs => st s2 (st s3 (s4 zs))
    dsimp only [tNil]
    refine ⟨pc, _, dSeen es S', rfl, SqL.of upd_same, .inl ?_, ok1, ok2, ok3, ?_⟩
    · unfold dSeen
      exact .cons (.tup (SqT.of (s5 _ _ _ htT)) (dp_strs _)) (.cons (.str _) (.cons (.str _) (.cons (.int _) (.cons (.bl _) (.cons (.lst (SqL.of (s4 _ _ _ (s3 _ _ hD))) ((hw.same s3).same (s4 _)).dp) .nil)))))
    refine ⟨rfl, _, rfl, ?_⟩
    rw [decide_eq_true rfl]
    refine iteF ?_
    have s6 := s5 ([.ref tT, .str (lineOf S'), .str (Str.empty ++ "Vocabulary(" ++ lineOf S' ++ ")"), .int es.length, .bl ((es.length : Int) != 0)] ++ [.ref D2])
    generalize upd (upd G2 pl (.lst [.ref D2])) pc _ = G6 at s6 ⊢
    refine ⟨_, rfl, _, rfl, p, vs, rfl, SqL.of (s6 _ _ hp), fun pr npr => ?_⟩
    have s7 : Same G6 (upd G6 pr (.lst vs.reverse)) := same_new (fun _ _ e => e) npr
    refine ⟨pr, vs.reverse, es.reverse, rfl, upd_same, (ht.same (st s6 s7)).rev, GE.perm (List.reverse_perm es), fun o2 S2 G8 oS2 s8 V2 => ?_⟩
    have e2 : S2 = S' := srt_one GE ⟨oS2.pm.trans (List.reverse_perm es), oS2.so⟩ oS
    subst e2
    obtain ⟨gs2, _, _, ⟨dy, dB, tM, kvs2, ho2, _⟩, hvt2⟩ := V2
    rw [hvt2] at ho2
    have ho8 := s8 _ _ (s7 _ _ (s6 _ _ ho))
    refine ⟨o, o2, dx, dy, _, _, rfl, rfl, ho8, ho2, o, dx, dA, tN, _, ho8, .inl ⟨o2, dy, dB, tM, _, rfl, ho2, _, rfl, _, rfl, ?_⟩⟩
    rw [decide_eq_true rfl]
    refine iteF ?_
    refine ⟨_, rfl, _, rfl, o, dx, _, _, rfl, rfl, ho8, o, dx, dA, tN, _, ho8, .inr ⟨_, rfl, false, rfl, _, rfl, iteF ?_⟩⟩
    exact q G8 (((S.same s6).same s7).same s8) (st s6 (st s7 s8))
end
end SQ1
namespace SQ1
open PySem L2 SQ
def ifB : Stmt → List Stmt
  | .If _ b _ _ => b
  | _ => []
theorem cut_last (ws : List V) (v : V) : cutV (ws ++ [v]) none (some (-1)) = ws := by
  have e : HT.sIx (ws ++ [v]).length (ws ++ [v]).length (some (-1)) = ws.length := by
    simp [HT.sIx]
    omega
  show (((ws ++ [v]).drop 0).take (HT.sIx (ws ++ [v]).length (ws ++ [v]).length (some (-1)) - 0)) = ws
  rw [e, List.drop_zero, Nat.sub_zero, List.take_left]
theorem cut_all (xs : List V) (h : xs.length ≤ 8) : cutV xs none (some 8) = xs := by
  have e : HT.sIx xs.length xs.length (some 8) = xs.length := by
    simp [HT.sIx]
    omega
  show ((xs.drop 0).take (HT.sIx xs.length xs.length (some 8) - 0)) = xs
  rw [e, List.drop_zero, Nat.sub_zero, List.take_length]
theorem at_last (ws : List V) (v : V) : atI (ws ++ [v]) (-1) = some v := by
  unfold atI
  have e : ixN (ws ++ [v]).length (-1) = some ws.length := by
    unfold ixN
    rw [List.length_append]
    simp
    omega
  rw [e]
  simp
theorem goodE_pre {fs : List G3} {g : G3} (G : GoodE (fs ++ [g])) : GoodE fs := by
  have nd := G.nd
  unfold gnames at nd
  rw [List.map_append] at nd
  refine ⟨fun x hx => G.tit x (List.mem_append_left _ hx), fun x hx => G.ar x (List.mem_append_left _ hx), (List.nodup_append.mp nd).1, ?_⟩
  have := G.few
  rw [List.length_append] at this
  omega
theorem goodE_with {fs : List G3} {g h : G3} (G : GoodE (fs ++ [g])) (th : Tit h.1) (ah : (0 ≤ h.2.1 ∧ h.2.1 ≤ 3) ∧ 0 ≤ h.2.2 ∧ h.2.2 ≤ 3) (hn : h.1 ∉ gnames fs) : GoodE (fs ++ [h]) := by
  have G0 := goodE_pre G
  refine ⟨fun x hx => ?_, fun x hx => ?_, ?_, ?_⟩
  · rcases List.mem_append.mp hx with q | q
    · exact G0.tit x q
    · rw [List.mem_singleton.mp q]; exact th
  · rcases List.mem_append.mp hx with q | q
    · exact G0.ar x q
    · rw [List.mem_singleton.mp q]; exact ah
  · unfold gnames
    rw [List.map_append]
    refine List.nodup_append.mpr ⟨G0.nd, by simp, fun a ha b hb e => ?_⟩
    have hb' : b = h.1 := by simpa using hb
    exact hn (hb' ▸ e ▸ ha)
  · have := G.few
    rw [List.length_append] at this ⊢
    exact this
theorem not_in {fs : List G3} {g : G3} (G : GoodE (fs ++ [g])) : g.1 ∉ gnames fs := by
  have nd := G.nd
  unfold gnames at nd
  rw [List.map_append] at nd
  intro h
  exact (List.nodup_append.mp nd).2.2 g.1 h g.1 (by simp) rfl
theorem last_eq {fs : List G3} {g h : G3} (p : (fs ++ [h]).Perm (fs ++ [g])) : h = g := by
  have := (List.perm_append_left_iff fs).mp p
  simpa using this
theorem slL {X : Cx} {K : PySem.W.Frag} (h : X.K = K) : SlR X (rSlL K) := by
  subst h
  exact sl_list
end SQ1
namespace SQ1
open PySem L2 SQ
theorem split_last {xs : List V} {es : List G3} {H : Hp} (t : Trs H xs es) (h : es ≠ []) : ∃ ws v fs g, xs = ws ++ [v] ∧ es = fs ++ [g] ∧ Trs H ws fs ∧ ∃ a, v = V.ref a ∧ H a = some (.tup [.str g.1, .int g.2.1, .int g.2.2]) := by
  induction t with
  | nil => exact absurd rfl h
  | @cons x g xs es r t ih =>
    cases es with
    | nil =>
      cases t
      exact ⟨[], x, [], g, rfl, rfl, .nil, r⟩
    | cons g2 es =>
      obtain ⟨ws, v, fs, g', e1, e2, e3, e4⟩ := ih (by simp)
      exact ⟨x :: ws, v, g :: fs, g', by rw [e1]; rfl, by rw [e2]; rfl, .cons r e3, e4⟩
/-- another vocabulary than that of es -/
def Oth (es : List G3) (G : Hp) (x : V) : Prop := ∃ r ws F, x = V.ref r ∧ G r = some (.lst ws) ∧ Trs G ws F ∧ GoodE F ∧ ¬ F.Perm es
theorem Oth.same {es : List G3} {G G' : Hp} {x : V} (s : Same G G') (h : Oth es G x) : Oth es G' x := by
  obtain ⟨r, ws, F, e1, e2, e3, e4, e5⟩ := h
  exact ⟨r, ws, F, e1, s _ _ e2, e3.same s, e4, e5⟩
theorem oth_line {es F S S2 : List G3} (GE : GoodE es) (GF : GoodE F) (oS : SrtOf es S) (o2 : SrtOf F S2) (n : ¬ F.Perm es) : ¬ lineOf S = lineOf S2 := fun e => by
  have := line_inj (oS.good GE) (o2.good GF) e
  subst this
  exact n (o2.pm.symm.trans oS.pm)
theorem cut5 (t : Str) : (cutS t none (some 5)).cps.toList = t.cps.toList.take 5 := by
  have hl : t.length = t.cps.toList.length := by simp [Str.length]
  have e0 : HT.sIx t.length 0 none = 0 := rfl
  have e8 : HT.sIx t.length t.length (some 5) = min 5 t.length := by
    first
      | (unfold HT.sIx; simp; omega)
      | (simp [HT.sIx]; omega)
      | (simp [HT.sIx])
  show ((t.cps.toList.drop (HT.sIx t.length 0 none)).take (HT.sIx t.length t.length (some 5) - HT.sIx t.length 0 none)).toArray.toList = _
  rw [e0, e8, List.drop_zero, Nat.sub_zero, hl]
  apply List.ext_getElem?
  intro i
  simp only [List.getElem?_take]
  by_cases h : i < 5
  · by_cases h2 : i < t.cps.toList.length
    · rw [if_pos (by omega), if_pos h]
    · rw [if_neg (by omega), if_pos h, List.getElem?_eq_none (by omega)]
  · rw [if_neg (by omega), if_neg h]
def kName (x : Str) : Str := ("k" : Str) ++ cutS x none (some 5) ++ ("zz" : Str)
theorem kName_tl (x : Str) : (kName x).cps.toList = [107] ++ x.cps.toList.take 5 ++ [122, 122] := by
  unfold kName
  rw [str_app, str_app, cut5]
  rfl
theorem kName_tit {x : Str} (t : TitA x) : Tit (kName x) := by
  have e := kName_tl x
  have l : (kName x).length = 3 + (x.cps.toList.take 5).length := by
    have := congrArg List.length e
    simp only [List.length_append, List.length_cons, List.length_nil] at this
    have h2 : (kName x).length = (kName x).cps.toList.length := by simp [Str.length]
    omega
  have l5 : (x.cps.toList.take 5).length ≤ 5 := by
    rw [List.length_take]
    omega
  refine ⟨by omega, by omega, fun c hc => ?_⟩
  rw [e] at hc
  have hq : ∀ c ∈ abcq, c ∈ abcz := by decide
  rcases List.mem_append.mp hc with h | h
  · rcases List.mem_append.mp h with h | h
    · rw [List.mem_singleton.mp h]
      decide
    · exact hq c (t.sg c (List.mem_of_mem_take h))
  · have : ∀ c ∈ ([122, 122] : List Nat), c ∈ abcz := by decide
    exact this c h
theorem kName_not {x y : Str} (t : TitA y) : kName x ≠ y := fun e => by
  have h : (107 : Nat) ∈ y.cps.toList := by
    rw [← e, kName_tl]
    simp
  exact absurd (t.sg 107 h) (by decide)
end SQ1
namespace SQ1
open PySem L2 SQ
section
variable {P : Program} {w : World} {K : PySem.W.Frag} {mg : Str → Option Value} {base : Heap} {fR fL fO fH fTi fM fT fA fS fEq fRp fLn CN CI fJ C c Pt : Addr} {fdL fdO dH dTi dM dT dA : FuncData} {A : Around} {outer : List Env} {s : Shared} {H : Hp} {E : XK}
variable {T : TL} {u : Addr} {H0 : Hp}
theorem r_6 (a : All P w K mg base fL fO fH fTi fM fT fA fS fEq fRp fLn CN CI fJ C c Pt fdL fdO dH dTi dM dT dA) (hr : Room 9 (Xr P w K mg base fR c A outer s H E).A) : ∃ t, PS (Xr P w K mg base fR c A outer s H E) (nth rTurn 6) t ∧ ∀ (D : Ends) (G : Hp) (p o : Addr) (vs : List V) (es S : List G3) (a1 a2 a3 a5 a6 a7 a8 a9 a10 a12 : Option V), St3 T u H0 G → G p = some (.lst vs) → Trs G vs es → GoodE es → (∀ g ∈ es, TitA g.1) → VcS C G o es S →
    (∀ (G' : Hp) (b3 b8 b9 b10 : Option V), St3 T u H0 G' → Same G G' → D.nx [some (.ref u), a1, a2, b3, some (.ref p), a5, a6, a7, b8, b9, b10, some (.ref o), a12, none] G') →
    t D [some (.ref u), a1, a2, a3, some (.ref p), a5, a6, a7, a8, a9, a10, some (.ref o), a12, none] G := by
  have pA : PS (Xr P w K mg base fR c A outer s H E) (nth (ifB (nth rTurn 6)) 0) _ := ps_asg (pe_ix ix_list (pv 4) (pe_un un_neg pe_int) (fun _ _ => rfl)) (pg_tup rfl (pgs_cons (pg_name (i := 3) scR.nd rfl (.inl rfl)) (pgs_cons (pg_name (i := 8) scR.nd rfl (.inl rfl)) (pgs_cons (pg_name (i := 9) scR.nd rfl (.inl rfl)) pgs_nil))))
  have pB : PS (Xr P w K mg base fR c A outer s H E) (nth (ifB (nth rTurn 6)) 1) _ := ps_set (i := 10) scR.nd rfl (.inl rfl) (pe_lst (pa_cons (pe_slice sl_list (pv 4) po_none (po_some (pe_un un_neg pe_int))) (pa_cons (pe_op op_cat (pe_slice sl_list (pv 4) po_none (po_some (pe_un un_neg pe_int))) (pe_lst (pa_cons (pe_tup (pa_cons (pv 3) (pa_cons (pv 8) (pa_cons (pe_op op_mod (pe_callTy call_int1 (by rfl) a.BL.int (by decide +kernel) (pa_cons (pe_op op_add (pv 9) pe_int) pa_nil)) pe_int) pa_nil)))) pa_nil))) pa_nil)))
  have pC : PS (Xr P w K mg base fR c A outer s H E) (nth (ifB (nth rTurn 6)) 2) _ := ps_expr (pe_bm PySem.F.plainAttrs_list PySem.F.slot_list_append PySem.F.type_list_append mt_append (pv 10) (pa_cons (pe_op op_cat (pe_slice sl_list (pv 4) po_none (po_some (pe_un un_neg pe_int))) (pe_lst (pa_cons (pe_tup (pa_cons (pe_op op_add_str (pe_op op_add_str pe_str (pe_slice sl_str (pv 3) po_none (po_some pe_int))) pe_str) (pa_cons (pv 8) (pa_cons (pv 9) pa_nil)))) pa_nil))) pa_nil))
  have pD : PS (Xr P w K mg base fR c A outer s H E) (nth (ifB (nth rTurn 6)) 3) _ := ps_if (pt_not (pt_val (pe_callB (cr_all rfl) (by rfl) a.BL.all (by decide +kernel) (pa_cons (pe_lc (own := [("_law_each", 13)]) (g := gName 13) (tt := tYes) rfl scR.nd (pi_list (pv 10)) (blkOk_by (N := nR) (sc := defScope sRight) (by decide +kernel)) (fun _ _ _ _ _ => pg_name (i := 13) scR.nd rfl (.inl rfl)) (fun _ _ _ _ _ => pts_nil)
      (fun _ _ _ _ _ => pe_cmpR (op_neOwn a.GE (hr.mono (by decide)) a.CQ) (pv 11) (pe_call a.GM (hr.mono (by decide)) rfl a.gM a.kM a.bM .nil pass0 (pa_cons (pe_slice (slL (K := K) rfl) (pv 13) po_none (po_some pe_int)) pa_nil)) (by rfl))) pa_nil)))) (pss_one (ps_ret pe_bl)) pss_nil
  refine ⟨_, ps_if (pt_cmpR (op_neD hr.units) (pv 4) (pe_lst pa_nil) (nomark _)) (pss_cons pA (pss_cons pB (pss_cons pC (pss_one pD)))) pss_nil, fun D G p o vs es S' a1 a2 a3 a5 a6 a7 a8 a9 a10 a12 S hp ht GE TA hV q => ?_⟩
  have few := GE.few
  have V0 := hV
  obtain ⟨gs, pm, oS, ⟨dx, dA, tN, kvs, ho, _⟩, hvt⟩ := V0
  rw [hvt] at ho
  refine ⟨_, rfl, (by show 0 ≤ sizeLine; decide), fun pe ne => ?_⟩
  have s1 : Same G (upd G pe (.lst [])) := same_new (fun _ _ e => e) ne
  refine ⟨_, _, .lst (SqL.of (s1 _ _ hp)) ((ht.same s1).dp), .lst (SqL.of upd_same) .nil, shaped_trs (fun g hg => free_ok (tit_free (GE.tit g hg))), shaped_nil, _, rfl, ?_⟩
  rw [ne_nil]
  by_cases he : es = []
  · subst he
    exact iteF (q _ _ _ _ _ (S.same s1) s1)
  have hb : ((es.length : Int) != 0) = true := by
    cases es with
    | nil => exact absurd rfl he
    | cons g es =>
      simp [bne]
      omega
  rw [hb]
  refine iteT ?_
  obtain ⟨ws, v, fs, g, rfl, rfl, tf, t, rfl, e2⟩ := split_last ht he
  generalize upd G pe (.lst []) = G1 at s1 ⊢
  have hp1 := s1 _ _ hp
  refine rd_tgt ?_
  refine ⟨_, rfl, 1, rfl, p, _, _, _, rfl, rfl, SqL.of hp1, at_last _ _, ?_⟩
  refine ⟨t, _, rfl, SqT.of (s1 _ _ e2), rfl, _, _, rfl, _, _, rfl, _, _, rfl, rfl, ?_⟩
  refine rd_set ?_
  refine ⟨_, rfl, 1, rfl, _, rfl, p, _, rfl, SqL.of hp1, fun q1 n1 => ?_⟩
  rw [cut_last]
  have s2 : Same G1 (upd G1 q1 (.lst ws)) := same_new (fun _ _ e => e) n1
  have h2 : upd G1 q1 (.lst ws) q1 = some (.lst ws) := upd_same
  generalize upd G1 q1 (.lst ws) = G2 at s2 h2 ⊢
  refine ⟨_, rfl, 1, rfl, _, rfl, p, _, rfl, SqL.of (s2 _ _ hp1), fun q2 n2 => ?_⟩
  rw [cut_last]
  have s3 : Same G2 (upd G2 q2 (.lst ws)) := same_new (fun _ _ e => e) n2
  have h3 : upd G2 q2 (.lst ws) q2 = some (.lst ws) := upd_same
  generalize upd G2 q2 (.lst ws) = G3' at s3 h3 ⊢
  have i4 : 0 ≤ (g.2.2 + 1) % 4 ∧ (g.2.2 + 1) % 4 ≤ 3 := by omega
  refine ⟨_, rfl, _, rfl, _, rfl, _, _, rfl, rfl, .inl ⟨_, rfl, _, _, rfl, rfl, (by show (0 : Int) < 4; decide), (by show 3 ≤ sizeLine; decide), fun q3 n3 => ⟨(by show 1 ≤ sizeLine; decide), fun q4 n4 => ?_⟩⟩⟩
  have s4 : Same G3' (upd G3' q3 (.tup [.str g.1, .int g.2.1, .int ((g.2.2 + 1) % 4)])) := same_new (fun _ _ e => e) n3
  have h4 : upd G3' q3 (.tup [.str g.1, .int g.2.1, .int ((g.2.2 + 1) % 4)]) q3 = some (.tup [.str g.1, .int g.2.1, .int ((g.2.2 + 1) % 4)]) := upd_same
  generalize upd G3' q3 (.tup [.str g.1, .int g.2.1, .int ((g.2.2 + 1) % 4)]) = G4 at s4 h4 n4 ⊢
  have s5 : Same G4 (upd G4 q4 (.lst [.ref q3])) := same_new (fun _ _ e => e) n4
  have h5 : upd G4 q4 (.lst [.ref q3]) q4 = some (.lst [.ref q3]) := upd_same
  generalize upd G4 q4 (.lst [.ref q3]) = G5 at s5 h5 ⊢
  have lw : ws.length ≤ 7 := by
    have e1 := tf.len
    rw [List.length_append] at few
    simp only [List.length_cons, List.length_nil] at few
    omega
  refine ⟨q2, q4, ws, _, rfl, rfl, s5 _ _ (s4 _ _ h3), h5, Nat.le_of_lt (small1000 (by show ws.length + 1 ≤ 1000; omega)), fun q5 n5 => ?_⟩
  have s6 : Same G5 (upd G5 q5 (.lst (ws ++ [.ref q3]))) := same_new (fun _ _ e => e) n5
  have h6 : upd G5 q5 (.lst (ws ++ [.ref q3])) q5 = some (.lst (ws ++ [.ref q3])) := upd_same
  generalize upd G5 q5 (.lst (ws ++ [.ref q3])) = G6 at s6 h6 ⊢
  refine ⟨(by show 2 ≤ sizeLine; decide), fun q6 n6 => ?_⟩
  have s7 : Same G6 (upd G6 q6 (.lst [.ref q1, .ref q5])) := same_new (fun _ _ e => e) n6
  have h7 : upd G6 q6 (.lst [.ref q1, .ref q5]) q6 = some (.lst [.ref q1, .ref q5]) := upd_same
  generalize upd G6 q6 (.lst [.ref q1, .ref q5]) = G7 at s7 h7 ⊢
  have sA : Same G G7 := st s1 (st s2 (st s3 (st s4 (st s5 (st s6 s7)))))
  refine rd_ex ?_
  refine ⟨_, rfl, .inl ⟨rfl, _, SqL.of h7⟩, _, rfl, 1, rfl, _, rfl, p, _, rfl, SqL.of (sA _ _ hp), fun q7 n7 => ?_⟩
  rw [cut_last]
  have s8 : Same G7 (upd G7 q7 (.lst ws)) := same_new (fun _ _ e => e) n7
  have h8 : upd G7 q7 (.lst ws) q7 = some (.lst ws) := upd_same
  generalize upd G7 q7 (.lst ws) = G8 at s8 h8 ⊢
  have tg := TA g (List.mem_append_right _ List.mem_cons_self)
  have tz : g.1.length ≤ sizeLine := Nat.le_of_lt (small1000 (by have := tg.hi; omega))
  have kz : (cutS g.1 none (some 5)).length ≤ 5 := by
    have := congrArg List.length (cut5 g.1)
    rw [List.length_take] at this
    have e2 : (cutS g.1 none (some 5)).length = (cutS g.1 none (some 5)).cps.toList.length := by simp [Str.length]
    omega
  have k1 : ("k" : Str).length = 1 := rfl
  have k2 : ("zz" : Str).length = 2 := rfl
  refine ⟨_, rfl, 5, rfl, _, rfl, tz, _, _, rfl, rfl, Nat.le_of_lt (small1000 (by omega)), _, _, rfl, rfl, Nat.le_of_lt (small1000 (by rw [len_app]; omega)), _, rfl, _, rfl, (by show 3 ≤ sizeLine; decide), fun q8 n8 => ⟨(by show 1 ≤ sizeLine; decide), fun q9 n9 => ?_⟩⟩
  have s9 : Same G8 (upd G8 q8 (.tup [.str (("k" : Str) ++ cutS g.1 none (some 5) ++ ("zz" : Str)), .int g.2.1, .int g.2.2])) := same_new (fun _ _ e => e) n8
  have h9 : upd G8 q8 (.tup [.str (("k" : Str) ++ cutS g.1 none (some 5) ++ ("zz" : Str)), .int g.2.1, .int g.2.2]) q8 = some (.tup [.str (kName g.1), .int g.2.1, .int g.2.2]) := upd_same
  generalize upd G8 q8 (.tup [.str (("k" : Str) ++ cutS g.1 none (some 5) ++ ("zz" : Str)), .int g.2.1, .int g.2.2]) = G9 at s9 h9 n9 ⊢
  have s10 : Same G9 (upd G9 q9 (.lst [.ref q8])) := same_new (fun _ _ e => e) n9
  have h10 : upd G9 q9 (.lst [.ref q8]) q9 = some (.lst [.ref q8]) := upd_same
  generalize upd G9 q9 (.lst [.ref q8]) = G10 at s10 h10 ⊢
  refine ⟨q7, q9, ws, _, rfl, rfl, s10 _ _ (s9 _ _ h8), h10, Nat.le_of_lt (small1000 (by show ws.length + 1 ≤ 1000; omega)), fun q10 n10 => ?_⟩
  have s11 : Same G10 (upd G10 q10 (.lst (ws ++ [.ref q8]))) := same_new (fun _ _ e => e) n10
  have h11 : upd G10 q10 (.lst (ws ++ [.ref q8])) q10 = some (.lst (ws ++ [.ref q8])) := upd_same
  generalize upd G10 q10 (.lst (ws ++ [.ref q8])) = G11 at s11 h11 ⊢
  have t7 : Same G7 G11 := st s8 (st s9 (st s10 s11))
  have h7' := t7 _ _ h7
  refine ⟨q6, _, _, rfl, rfl, h7', small1000 (by show 2 ≤ 1000; decide), ?_⟩
  have sF : Same G G6 := st s1 (st s2 (st s3 (st s4 (st s5 s6))))
  -- what stands behind the append
  have tr0 : Trs G11 ws fs := tf.same (st sA t7)
  have o1 : Oth (fs ++ [g]) G11 (.ref q1) := ⟨q1, ws, fs, rfl, t7 _ _ (s7 _ _ (s6 _ _ (s5 _ _ (s4 _ _ (s3 _ _ h2))))), tr0, goodE_pre GE, fun pm' => by
    have := pm'.length_eq
    rw [List.length_append] at this
    simp at this⟩
  have ar := GE.ar g (List.mem_append_right _ List.mem_cons_self)
  have o2 : Oth (fs ++ [g]) G11 (.ref q5) := ⟨q5, _, fs ++ [(g.1, g.2.1, (g.2.2 + 1) % 4)], rfl, t7 _ _ (s7 _ _ h6), tr0.snoc ⟨q3, rfl, t7 _ _ (s7 _ _ (s6 _ _ (s5 _ _ h4)))⟩, goodE_with GE (GE.tit g (List.mem_append_right _ List.mem_cons_self)) ⟨ar.1, i4⟩ (show g.1 ∉ gnames fs from not_in GE), fun pm' => by
    have e := last_eq pm'
    have e2 : (g.2.2 + 1) % 4 = g.2.2 := congrArg (fun z : G3 => z.2.2) e
    have := ar.2
    omega⟩
  have kn : kName g.1 ∉ gnames fs := fun hm => by
    obtain ⟨z, hz, e⟩ := List.mem_map.mp hm
    exact kName_not (TA z (List.mem_append_left _ hz)) e.symm
  have o3 : Oth (fs ++ [g]) G11 (.ref q10) := ⟨q10, _, fs ++ [(kName g.1, g.2.1, g.2.2)], rfl, h11, tr0.snoc ⟨q8, rfl, s11 _ _ (s10 _ _ h9)⟩, goodE_with GE (kName_tit tg) ar kn, fun pm' => by
    have e := last_eq pm'
    exact kName_not tg (congrArg (fun z : G3 => z.1) e)⟩
  have sG : Same G (upd G11 q6 (.lst ([.ref q1, .ref q5] ++ [.ref q10]))) := fun b ob e => by
    rw [upd_ne (ne_of_none (sF _ _ e) n6)]
    exact t7 _ _ (sA _ _ e)
  have put : ∀ {x : V}, Oth (fs ++ [g]) G11 x → x ≠ .ref q6 → Oth (fs ++ [g]) (upd G11 q6 (.lst ([.ref q1, .ref q5] ++ [.ref q10]))) x := fun {x} h ne => by
    obtain ⟨r, ws', F, e1, e2, e3, e4, e5⟩ := h
    exact ⟨r, ws', F, e1, by rw [upd_ne (fun z => ne (by rw [e1, z]))]; exact e2, e3.put h7', e4, e5⟩
  have ne1 : q1 ≠ q6 := ne_of_none (s6 _ _ (s5 _ _ (s4 _ _ (s3 _ _ h2)))) n6
  have ne5 : q5 ≠ q6 := ne_of_none h6 n6
  have ne10 : q10 ≠ q6 := (ne_of_none (s10 _ _ (s9 _ _ (s8 _ _ h7))) n10).symm
  have p1 := put o1 (fun z => ne1 (V.ref.inj z))
  have p2 := put o2 (fun z => ne5 (V.ref.inj z))
  have p3 := put o3 (fun z => ne10 (V.ref.inj z))
  have h12 : upd G11 q6 (.lst ([.ref q1, .ref q5] ++ [.ref q10])) q6 = some (.lst [.ref q1, .ref q5, .ref q10]) := upd_same
  generalize upd G11 q6 (.lst ([.ref q1, .ref q5] ++ [.ref q10])) = G12 at sG p1 p2 p3 h12 ⊢
  refine ⟨_, rfl, q6, rfl, ⟨_, SqL.of h12⟩, fun D2 nD2 => ?_⟩
  refine lc_list (K := K) (a := q6) (xs := [.ref q1, .ref q5] ++ [.ref q10]) (fun i G2 => Same G12 G2 ∧ G2 D2 = some (.lst ((List.replicate i true).map V.bl))) ⟨same_new (fun _ _ e => e) nD2, upd_same⟩ (fun i G2 _ h => SqL.of (h.1 _ _ h12)) ?_ ?_
  · rintro i v G2' hi ⟨s2', hD⟩
    have ov : i < 3 ∧ Oth (fs ++ [g]) G2' v := by
      match i, hi with
      | 0, h => cases h; exact ⟨by decide, p1.same s2'⟩
      | 1, h => cases h; exact ⟨by decide, p2.same s2'⟩
      | 2, h => cases h; exact ⟨by decide, p3.same s2'⟩
      | i + 3, h => cases h
    obtain ⟨i3, r, ws', F, rfl, hr', trF, GF, nF⟩ := ov
    have lF : ws'.length ≤ 8 := by rw [trF.len]; exact GF.few
    refine ⟨rfl, keptT ⟨_, rfl, _, rfl, 8, rfl, r, _, rfl, SqL.of hr', fun qs ns => ?_⟩⟩
    rw [cut_all _ lF]
    have s3' : Same G2' (upd G2' qs (.lst ws')) := same_new (fun _ _ e => e) ns
    refine ⟨qs, ws', F, rfl, upd_same, trF.same s3', GF, fun o2 S2 G8' oS2 s8' V2 => ?_⟩
    obtain ⟨gs2, _, _, ⟨dy, dB, tM, kvs2, ho2, _⟩, hvt2⟩ := V2
    rw [hvt2] at ho2
    have ho8 := s8' _ _ (s3' _ _ (s2' _ _ (sG _ _ ho)))
    refine ⟨o, o2, dx, dy, _, _, rfl, rfl, ho8, ho2, o, dx, dA, tN, _, ho8, .inl ⟨o2, dy, dB, tM, _, rfl, ho2, _, rfl, ?_⟩⟩
    rw [decide_eq_false (oth_line GE GF oS oS2 nF)]
    have hD8 := s8' _ _ (s3' _ _ hD)
    refine ⟨_, hD8, small1000 (by rw [List.length_map, List.length_replicate]; omega), ?_, ?_⟩
    · intro b ob e
      rw [upd_ne (ne_of_none e nD2)]
      exact s8' _ _ (s3' _ _ (s2' _ _ e))
    · rw [upd_same, List.replicate_succ', List.map_append]
      rfl
  · rintro G2' ⟨s2', hD⟩
    refine ⟨D2, _, rfl, SqL.of hD, ?_⟩
    have e : (List.replicate (([V.ref q1, .ref q5] ++ [.ref q10]) : List V).length true).all id = true := rfl
    rw [e]
    refine ⟨_, rfl, ?_⟩
    exact iteF (q _ _ _ _ _ (S.same (st sG s2')) (st sG s2'))
end
end SQ1
namespace SQ1
open PySem L2 SQ
section
variable {P : Program} {w : World} {K : PySem.W.Frag} {mg : Str → Option Value} {base : Heap} {fR fL fO fH fTi fM fT fA fS fEq fRp fLn CN CI fJ C c Pt : Addr} {fdL fdO dH dTi dM dT dA : FuncData} {A : Around} {outer : List Env} {s : Shared} {H : Hp} {E : XK}
variable {T : TL} {u : Addr} {H0 : Hp}
theorem odd_names : ∀ z ∈ [("" : Str), "call", "Q", "zzzzzzzzz"], isFree (.str z) = false := by decide +kernel
theorem ari_odd {G : Hp} {o : Addr} {es S : List G3} {v : V} {Q : VK} {E : XK} (GE : GoodE es) (V : VcS C G o es S) (od : Odd G v) (h : ∀ d G', Same G G' → G' d = some (.xd [("value", v)]) → E (.ref CN) (some d) G') : spAri K C CN [.ref o, v] G Q E := by
  obtain ⟨gs, pm, oS, hV, _⟩ := V
  refine ⟨o, gs, _, v, rfl, hV, .inr ⟨?_, h⟩⟩
  cases od with
  | non => exact .inl ⟨_, .base .non, kit_ty (by decide +kernel)⟩
  | int => exact .inl ⟨_, .base (.int 5), kit_ty (by decide +kernel)⟩
  | tup0 e => exact .inl ⟨_, .base (.tup e), kit_ty (by decide +kernel)⟩
  | tup e => exact .inl ⟨_, .base (.tup e), kit_ty (by decide +kernel)⟩
  | lst e => exact .inl ⟨_, .base (.lst e), kit_ty (by decide +kernel)⟩
  | bl => exact .inl ⟨_, .base (.bl true), kit_ty (by decide +kernel)⟩
  | dic e => exact .inl ⟨_, .base (.dK e), kit_ty (by decide +kernel)⟩
  | @str z hz =>
    refine .inr ⟨z, rfl, fun hm => ?_⟩
    obtain ⟨g, hg, e⟩ := List.mem_map.mp hm
    have f := tit_free (GE.tit g (pm.mem_iff.mp hg))
    rw [show g.1 = z from e, odd_names z hz] at f
    cases f
theorem repr_two {G : Hp} {v : V} (o : Odd G v) : ∃ text, ∀ (G1 : Hp) (p : Addr), Same G G1 → G1 p = some (.lst [.str "InvalidName", v, .bl true]) → ∀ Q : VK, Q (.str text) G1 → rReprL K [.ref p] G1 Q := by
  have sm : ∀ {d : PyData}, (PyData.list [.str "InvalidName", d, .bool true]).shown.length ≤ 5000 → (PyData.list [.str "InvalidName", d, .bool true]).shown.length ≤ sizeLine := fun h => Nat.le_trans h (by decide)
  cases o with
  | non => exact ⟨_, fun G1 p s hp Q q => ⟨p, _, [.str "InvalidName", .none, .bool true], rfl, SqL.of hp, .inl (.cons (.str _) (.cons .non (.cons (.bl true) .nil))), by decide +kernel, by decide +kernel, sm (by decide +kernel), q⟩⟩
  | int => exact ⟨_, fun G1 p s hp Q q => ⟨p, _, [.str "InvalidName", .int 5, .bool true], rfl, SqL.of hp, .inl (.cons (.str _) (.cons (.int 5) (.cons (.bl true) .nil))), by decide +kernel, by decide +kernel, sm (by decide +kernel), q⟩⟩
  | bl => exact ⟨_, fun G1 p s hp Q q => ⟨p, _, [.str "InvalidName", .bool true, .bool true], rfl, SqL.of hp, .inl (.cons (.str _) (.cons (.bl true) (.cons (.bl true) .nil))), by decide +kernel, by decide +kernel, sm (by decide +kernel), q⟩⟩
  | tup0 e => exact ⟨_, fun G1 p s hp Q q => ⟨p, _, [.str "InvalidName", .tuple [], .bool true], rfl, SqL.of hp, .inl (.cons (.str _) (.cons (.tup (SqT.of (s _ _ e)) .nil) (.cons (.bl true) .nil))), by decide +kernel, by decide +kernel, sm (by decide +kernel), q⟩⟩
  | tup e => exact ⟨_, fun G1 p s hp Q q => ⟨p, _, [.str "InvalidName", .tuple [.str "t", .int 1], .bool true], rfl, SqL.of hp, .inl (.cons (.str _) (.cons (.tup (SqT.of (s _ _ e)) (.cons (.str _) (.cons (.int 1) .nil))) (.cons (.bl true) .nil))), by decide +kernel, by decide +kernel, sm (by decide +kernel), q⟩⟩
  | lst e => exact ⟨_, fun G1 p s hp Q q => ⟨p, _, [.str "InvalidName", .list [], .bool true], rfl, SqL.of hp, .inl (.cons (.str _) (.cons (.lst (SqL.of (s _ _ e)) .nil) (.cons (.bl true) .nil))), by decide +kernel, by decide +kernel, sm (by decide +kernel), q⟩⟩
  | dic e => exact ⟨_, fun G1 p s hp Q q => ⟨p, _, [.str "InvalidName", .dict [], .bool true], rfl, SqL.of hp, .inr (.cons (.str _) (.cons (.dic (s _ _ e)) (.cons (.bl true) .nil))), by decide +kernel, by decide +kernel, sm (by decide +kernel), q⟩⟩
  | @str z hz =>
    refine ⟨_, fun G1 p s hp Q q => ⟨p, _, [.str "InvalidName", .str z, .bool true], rfl, SqL.of hp, .inl (.cons (.str _) (.cons (.str z) (.cons (.bl true) .nil))), ?_, ?_, sm ?_, q⟩⟩
    · simp [PyData.showable, PyData.showableAll]
    · simp [PyData.depth, PyData.depthAll]
    · have : ∀ z ∈ [("" : Str), "call", "Q", "zzzzzzzzz"], (PyData.list [.str "InvalidName", .str z, .bool true]).shown.length ≤ 5000 := by decide +kernel
      exact this z hz
theorem r_8 (a : All P w K mg base fL fO fH fTi fM fT fA fS fEq fRp fLn CN CI fJ C c Pt fdL fdO dH dTi dM dT dA) (hr : Room 9 (Xr P w K mg base fR c A outer s H E).A) (hgd : (Xr P w K mg base fR c A outer s H E).A.guards = some []) : ∃ t, PS (Xr P w K mg base fR c A outer s H E) (nth rTurn 8) t ∧ ∀ (D : Ends) (G : Hp) (o : Addr) (es S : List G3) (v : V) (a1 a2 a3 a4 a5 a6 a7 a8 a9 a10 : Option V), St3 [(Pt, lamN)] u H0 G → GoodE es → VcS C G o es S → Odd G v →
    (∀ G', St3 [(Pt, lamN)] u H0 G' → D.nx [some (.ref u), a1, a2, a3, a4, a5, a6, a7, a8, a9, a10, some (.ref o), some v, none] G') →
    t D [some (.ref u), a1, a2, a3, a4, a5, a6, a7, a8, a9, a10, some (.ref o), some v, none] G := by
  have hmT : (Pt, lamN) ∈ [(Pt, lamN)] := List.mem_singleton.mpr rfl
  have huT : ∀ p ∈ [(Pt, lamN)], p.1 = Pt → p.2 = lamN := fun p hp _ => by
    rw [List.mem_singleton.mp hp]
  refine ⟨_, ps_if (pt_cmpR op_ne (pe_callB (cr_reprL hgd hr.units) (by rfl) a.rp (by decide +kernel) (pa_cons (pe_had a.HD a.B a.Z a.HF a.TB rfl hmT huT hr (LamX.lamS_by (sc := defScope sRight) (by decide +kernel)) rfl (fun _ _ _ _ _ => rfl)
              (fun A outer s H E f c' hr => pe_meth (pv 11) a.VV.cl a.MA a.GA (hr.mono (by decide)) a.bA .nil (passes_call (takes_of rfl rfl rfl rfl) (fun _ _ _ _ h => h)) (pa_cons (pv 12) pa_nil))) pa_nil))
          (pe_callB (cr_reprL hgd hr.units) (by rfl) a.rp (by decide +kernel) (pa_cons (pe_lst (pa_cons pe_str (pa_cons (pv 12) (pa_cons pe_bl pa_nil)))) pa_nil)) (nomark _)) (pss_one (ps_ret pe_bl)) pss_nil, fun D G o es S' v a1 a2 a3 a4 a5 a6 a7 a8 a9 a10 S GE V od q => ?_⟩
  refine ⟨S.tab, fun G1 x1 t1 => ?_⟩
  have S1 := S.ext x1 t1
  have V1 := V.ext x1
  have o1 := od.ext x1
  obtain ⟨text, rt⟩ := repr_two (K := K) o1
  have V1' := V1
  obtain ⟨gs, pm, oS, ⟨dx, dA, tN, kvs, ho, _⟩, _⟩ := V1'
  refine ⟨_, rfl, o, dx, _, rfl, ho, rfl, _, rfl, ?_⟩
  dsimp only [tNil]
  refine ari_odd GE V1 o1 fun d G2 s2 hd => ?_
  refine ⟨d, v, rfl, rfl, hd, fun p np => ?_⟩
  have s3 : Same G2 (upd G2 p (.lst [.str "InvalidName", v, .bl true])) := same_new (fun _ _ e => e) np
  refine rt _ p (st s2 s3) upd_same _ ?_
  refine ⟨_, rfl, (by show 3 ≤ sizeLine; decide), fun p5 n5 => ?_⟩
  have s5 := same_new (o := .lst [.str "InvalidName", v, .bl true]) (fun _ _ e => e : Same _ (upd G2 p (.lst [.str "InvalidName", v, .bl true]))) n5
  dsimp only [tNil]
  refine rt _ p5 (st s2 (st s3 s5)) upd_same _ ?_
  refine ⟨rfl, _, rfl, ?_⟩
  rw [decide_eq_true rfl]
  exact iteF (q _ (S1.same (st s2 (st s3 s5))))
end
end SQ1
namespace SQ1
open PySem L2 SQ
theorem seqT_same {K : PySem.W.Frag} {H H' : Hp} {a : Addr} {xs : List V} (e : Same H H') (h : SqT K H a xs) : SqT K H' a xs := by
  rcases h with (h | ⟨o, h⟩) | h
  · exact .inl (.inl (e _ _ h))
  · exact .inl (.inr ⟨o, e _ _ h⟩)
  · exact .inr h
mutual
theorem dp_same {K : PySem.W.Frag} {H H' : Hp} (s : Same H H') : ∀ {v : V} {d : PyData}, Dp K H v d → Dp K H' v d
  | _, _, .non => .non
  | _, _, .bl b => .bl b
  | _, _, .int i => .int i
  | _, _, .str x => .str x
  | _, _, .lst h a => .lst (s.seq h) (dpAll_same s a)
  | _, _, .tup h a => .tup (seqT_same s h) (dpAll_same s a)
theorem dpAll_same {K : PySem.W.Frag} {H H' : Hp} (s : Same H H') : ∀ {vs : List V} {ds : List PyData}, DpAll K H vs ds → DpAll K H' vs ds
  | _, _, .nil => .nil
  | _, _, .cons h t => .cons (dp_same s h) (dpAll_same s t)
end
theorem rd_seq {t u : TS} {D : Ends} {σ : St} {H : Hp} (h : t { D with nx := u D } σ H) : tSeq t u D σ H := h
section
variable {P : Program} {w : World} {K : PySem.W.Frag} {mg : Str → Option Value} {base : Heap} {fR fL fO fH fTi fM fT fA fS fEq fRp fLn CN CI fJ C c Pt : Addr} {fdR fdL fdO dH dTi dM dT dA : FuncData}
theorem ok_right (F : FunC K "_law_right" "_law_right" sRight fR fdR c) (a : All P w K mg base fL fO fH fTi fM fT fA fS fEq fRp fLn CN CI fJ C c Pt fdL fdO dH dTi dM dT dA) : FnG P w K mg base CX0 10 fR fdR ["_law_urn_here"] (spRightT [(Pt, lamN)]) := by
  refine okGc F scR (fun vs H Q E h => ?_) (fun A outer s H vs Q E hgd hr h => ?_)
  · obtain ⟨u, rfl, _⟩ := h
    rfl
  · obtain ⟨u, rfl, hu, hT, q⟩ := h
    obtain ⟨t0, p0, k0⟩ := r_0 (fR := fR) (outer := outer) (s := s) (H := H) (E := E) (T := [(Pt, lamN)]) (u := u) (H0 := H) a hr
    obtain ⟨t1, p1, k1⟩ := r_1 (fR := fR) (outer := outer) (s := s) (H := H) (E := E) (T := [(Pt, lamN)]) (u := u) (H0 := H) a hr
    obtain ⟨t2, p2, k2⟩ := r_2 (fR := fR) (outer := outer) (s := s) (H := H) (E := E) (T := [(Pt, lamN)]) (u := u) (H0 := H) a hr
    obtain ⟨t3, p3, k3⟩ := r_3 (fR := fR) (outer := outer) (s := s) (H := H) (E := E) (T := [(Pt, lamN)]) (u := u) (H0 := H) a hr
    obtain ⟨t4, p4, k4⟩ := r_4 (fR := fR) (outer := outer) (s := s) (H := H) (E := E) (T := [(Pt, lamN)]) (u := u) (H0 := H) a hr
    obtain ⟨t5, p5, k5⟩ := r_5 (fR := fR) (outer := outer) (s := s) (H := H) (E := E) (T := [(Pt, lamN)]) (u := u) (H0 := H) a hr hgd
    obtain ⟨t6, p6, k6⟩ := r_6 (fR := fR) (outer := outer) (s := s) (H := H) (E := E) (T := [(Pt, lamN)]) (u := u) (H0 := H) a hr
    obtain ⟨t7, p7, k7⟩ := r_7 (fR := fR) (outer := outer) (s := s) (H := H) (E := E) (T := [(Pt, lamN)]) (u := u) (H0 := H) a hr
    obtain ⟨t8, p8, k8⟩ := r_8 (fR := fR) (outer := outer) (s := s) (H := H) (E := E) (u := u) (H0 := H) a hr hgd
    refine ⟨_, pss_cons (ps_for PassesOwn.never rfl (pi_range1 (by rfl) a.BL.range (pa_cons pe_int pa_nil)) (pg_name (i := 1) scR.nd rfl (.inl rfl))
      (pss_cons p0 (pss_cons p1 (pss_cons p2 (pss_cons p3 (pss_cons p4 (pss_cons p5 (pss_cons p6 (pss_cons p7 (pss_one p8)))))))))) (pss_one (ps_ret pe_bl)), ?_⟩
    have S0 : St3 [(Pt, lamN)] u H H := ⟨fun b o e _ _ => e, hT, hu⟩
    refine rd_seq ?_
    refine ⟨_, rfl, by decide, by decide, ?_⟩
    refine for_range (lo := 0) (n := 4) (fun i σ G => ∃ (a1 a2 a3 a4 a5 a6 a7 a8 a9 a10 a11 a12 : Option V), σ = [some (.ref u), a1, a2, a3, a4, a5, a6, a7, a8, a9, a10, a11, a12, none] ∧ St3 [(Pt, lamN)] u H G) ⟨_, _, _, _, _, _, _, _, _, _, _, _, rfl, S0⟩ ?_ ?_
    · rintro i σ G hi ⟨a1, a2, a3, a4, a5, a6, a7, a8, a9, a10, a11, a12, rfl, S⟩
      refine rd_seq (k0 _ _ _ _ _ _ _ _ _ _ _ _ _ _ S fun G1 l xs S1 hl lu h8 nd ok => ?_)
      refine rd_seq (k1 _ _ l xs _ _ _ _ _ _ _ _ _ _ _ S1 hl h8 nd ok fun G2 p vs es S2 hl2 hp ht GE hn => ?_)
      have TA : ∀ g ∈ es, TitA g.1 := fun g hg => ok g.1 (by rw [← hn]; exact List.mem_map.mpr ⟨g, hg, rfl⟩)
      rw [← hn] at hl2
      refine rd_seq (k2 _ _ p vs es _ _ _ _ _ _ _ _ _ _ _ S2 hp ht GE fun G3' o S' S3 s3 V => ?_)
      refine rd_seq (k3 _ _ l o es S' _ _ _ _ _ _ _ _ _ _ S3 (s3 _ _ hl2) GE V fun G4 ps us S4 s4 hps dps => ?_)
      have V4 := V.same s4
      have oS : SrtOf es S' := by
        obtain ⟨gs, pm, oS, _⟩ := V
        exact oS
      refine rd_seq (k4 _ _ l p vs es S' _ _ _ _ _ _ _ _ _ S4 (s4 _ _ (s3 _ _ hl2)) (s4 _ _ (s3 _ _ hp)) (ht.same (st s3 s4)) GE oS fun G5 pd tT S5 s5 hpd htT => ?_)
      refine rd_seq (k5 _ _ p ps pd o tT vs us es S' _ _ _ _ _ _ _ S5 (s5 _ _ (s4 _ _ (s3 _ _ hp))) (ht.same (st s3 (st s4 s5))) GE (V4.same s5) (s5 _ _ hps) (dpAll_same s5 dps) hpd htT fun G6 S6 s6 => ?_)
      have V6 := (V4.same s5).same s6
      refine rd_seq (k6 _ _ p o vs es S' _ _ _ _ _ _ _ _ _ _ S6 (s6 _ _ (s5 _ _ (s4 _ _ (s3 _ _ hp)))) (ht.same (st s3 (st s4 (st s5 s6)))) GE TA V6 fun G7 b3 b8 b9 b10 S7 s7 => ?_)
      refine rd_seq (k7 _ _ o es S' _ _ _ _ _ _ _ _ _ _ _ S7 (V6.same s7) fun v G8 S8 V8 od => ?_)
      exact k8 _ _ o es S' v _ _ _ _ _ _ _ _ _ _ S8 GE V8 od fun G9 S9 => ⟨_, _, _, _, _, _, _, _, _, _, _, _, rfl, S9⟩
    · rintro σ G ⟨a1, a2, a3, a4, a5, a6, a7, a8, a9, a10, a11, a12, rfl, S⟩
      exact q G S.but S.tab
end
end SQ1
namespace SQ1
open PySem L2 SQ
theorem isStr_ne {x z : Str} {t : Tok} (h : z ≠ x) : (Value.str x t).isStr z = false := by
  rw [PySem.W.isStr_of]
  show (x == z) = false
  exact beq_eq_false_iff_ne.mpr (Ne.symm h)
theorem isStr_eq {x : Str} {t : Tok} : (Value.str x t).isStr x = true := by
  rw [PySem.W.isStr_of]
  show (x == x) = true
  exact beq_self_eq_true x
theorem look_of {K : PySem.W.Frag} {dD : Addr} {h0 h1 h2 h3 : Int} {t0 t1 t2 t3 s0 s1 s2 s3 : Tok} {nn : Nat}
    (lD : K.lookup dD = some ⟨.type "dict", none, .dict #[⟨h0, .str "0" t0, .int 0 s0⟩, ⟨h1, .str "1" t1, .int 1 s1⟩, ⟨h2, .str "2" t2, .int 2 s2⟩, ⟨h3, .str "3" t3, .int 3 s3⟩] nn, #[]⟩) :
    ∀ z : Str, ∃ r : Option Value, PySem.W.nsIn K dD z = some r ∧ (∀ i, digOf z = some i → ∃ t, r = some (.int i t)) ∧ (digOf z = none → r = none) := by
  intro z
  unfold PySem.W.nsIn
  rw [lD]
  dsimp only
  have e : ∀ {x : Str} {t : Tok}, z ≠ x → (Value.str x t).isStr z = false := fun h => isStr_ne h
  unfold digOf
  by_cases z0 : z = "0"
  · subst z0
    refine ⟨some (.int 0 s0), ?_, fun i h => ?_, fun h => ?_⟩
    · rw [List.find?_cons_of_pos (by simp only [isStr_eq])]
    · rw [if_pos rfl] at h
      cases h
      exact ⟨_, rfl⟩
    · rw [if_pos rfl] at h
      cases h
  by_cases z1 : z = "1"
  · subst z1
    refine ⟨some (.int 1 s1), ?_, fun i h => ?_, fun h => ?_⟩
    · rw [List.find?_cons_of_neg (by simp only [e z0]; decide), List.find?_cons_of_pos (by simp only [isStr_eq])]
    · rw [if_neg z0, if_pos rfl] at h
      cases h
      exact ⟨_, rfl⟩
    · rw [if_neg z0, if_pos rfl] at h
      cases h
  by_cases z2 : z = "2"
  · subst z2
    refine ⟨some (.int 2 s2), ?_, fun i h => ?_, fun h => ?_⟩
    · rw [List.find?_cons_of_neg (by simp only [e z0]; decide), List.find?_cons_of_neg (by simp only [e z1]; decide), List.find?_cons_of_pos (by simp only [isStr_eq])]
    · rw [if_neg z0, if_neg z1, if_pos rfl] at h
      cases h
      exact ⟨_, rfl⟩
    · rw [if_neg z0, if_neg z1, if_pos rfl] at h
      cases h
  by_cases z3 : z = "3"
  · subst z3
    refine ⟨some (.int 3 s3), ?_, fun i h => ?_, fun h => ?_⟩
    · rw [List.find?_cons_of_neg (by simp only [e z0]; decide), List.find?_cons_of_neg (by simp only [e z1]; decide), List.find?_cons_of_neg (by simp only [e z2]; decide), List.find?_cons_of_pos (by simp only [isStr_eq])]
    · rw [if_neg z0, if_neg z1, if_neg z2, if_pos rfl] at h
      cases h
      exact ⟨_, rfl⟩
    · rw [if_neg z0, if_neg z1, if_neg z2, if_pos rfl] at h
      cases h
  refine ⟨none, ?_, fun i h => ?_, fun _ => rfl⟩
  · rw [List.find?_cons_of_neg (by simp only [e z0]; decide), List.find?_cons_of_neg (by simp only [e z1]; decide), List.find?_cons_of_neg (by simp only [e z2]; decide), List.find?_cons_of_neg (by simp only [e z3]; decide)]
    rfl
  · rw [if_neg z0, if_neg z1, if_neg z2, if_neg z3] at h
    cases h
end SQ1
namespace SQ1
open PySem L2 SQ
abbrev bmV : List Value := [.type "ValueError", .type "Exception", .type "BaseException", .type "object"]
/-- all that one look at the written part tells -/
def chkA (K : PySem.W.Frag) (CE CT CN fI fJ fK CI C fIn fS fEq fRp fLn fA cR Pt dD : Addr) : Bool :=
  errOk K CE "index" bmV "ValueError.__new__" && ((PySem.W.typeIn K (.ref fI) == some (.type "function")) && ((PySem.W.typeIn K (.ref CE) == some (.type "type")) && (errOk K CT "value" bmV "ValueError.__new__" && ((PySem.W.typeIn K (.ref fJ) == some (.type "function")) && ((PySem.W.typeIn K (.ref CT) == some (.type "type")) && (errOk K CN "value" bmV "ValueError.__new__" && ((PySem.W.typeIn K (.ref fK) == some (.type "function")) && ((PySem.W.typeIn K (.ref CN) == some (.type "type")) && ((PySem.W.specialIn K (.builtin "object.__class__") "__get__" == some (some (.builtin "getset_descriptor.__get__"))) && ((PySem.W.takesIn K (.builtin "object.__class__") == some true) && ((PySem.W.exmOne K (.ref CE) (.ref CE) == some true) && ((PySem.W.exmOne K (.ref CN) (.ref CN) == some true) && ((PySem.W.kitOne K (.ref CN) (.ref CI) == some true) && ((PySem.W.kitOne K (.ref CN) (.type "ValueError") == some true) && (PySem.W.plainGet K C Str.empty && (PySem.W.hasDictIn K C && (PySem.W.plainOver K C && ((PySem.W.findIn K (.ref C) "__setattr__" == some (some (.builtin "object.__setattr__"))) && ((PySem.W.findIn K (.ref C) "arities" == some none) && ((PySem.W.findIn K (.ref C) "names" == some none) && ((PySem.W.findIn K (.ref C) "text" == some none) && (PySem.W.makesIn K C && (PySem.W.isFn K (.ref fIn) && (PySem.W.keepIn K (.ref C) && (PySem.W.isFn K (.ref fS) && (PySem.W.codeHdIn K cR Pt && ((K.lookup Pt).isNone && ((PySem.W.findIn K (.ref C) "__class__" == some (some (.builtin "object.__class__"))) && ((PySem.W.mroIn K C (.type "object") == some true) && ((PySem.W.kitOne K (.ref C) (.ref C) == some true) && ((PySem.W.kitOne K (.ref C) (.type "str") == some false) && ((PySem.W.kitOne K (.type "str") (.ref C) == some false) && ((PySem.W.subIn K (.ref C) (.type "object") == some true) && ((PySem.W.subIn K (.type "str") (.ref C) == some false) && ((PySem.W.findIn K (.ref C) "__ne__" == some (some (.builtin "object.__ne__"))) && (PySem.W.isFn K (.ref fEq) && (PySem.W.isFn K (.ref fRp) && (PySem.W.isFn K (.ref fLn) && ((PySem.W.findIn K (.ref C) "__bool__" == some none) && (PySem.W.isFn K (.ref fA) && (PySem.W.readsIn K C (.type "type") && ((PySem.W.specialIn K (.ref C) "__getattribute__" == some (some (.builtin "type.__getattribute__"))) && (!(dD == sysModules))))))))))))))))))))))))))))))))))))))))))))
theorem all_mk {l : PySem.W.OpenLaw} {w : World} {K : PySem.W.Frag} {h : Heap} {mg : Str → Option Value} {fa CE CI CT CN fI fJ fK C tC Pt cR fIn fS fEq fRp fLn fA fRd smp dD f_0 f_1 f_2 f_3 f_4 f_5 f_6 f_7 f_8 f_9 f_10 f_11 f_12 f_13 f_14 f_15 f_16 f_17 : Addr}
    {odC : Option Addr} {u1 u2 u3 u4 u5 : Tok} {nn : Nat} {slC : Array (Option Value)}
    {t0 t1 t2 t3 s0 s1 s2 s3 : Tok} {nd : Nat}
    {ocE dcE pmE cdE ctE : Value} {odE anE : Option Addr} {slE : Array (Option Value)}
    {ocT dcT pmT cdT ctT : Value} {odT anT : Option Addr} {slT : Array (Option Value)}
    {ocN dcN pmN cdN ctN : Value} {odN anN : Option Addr} {slN : Array (Option Value)}
    {oc_0 kV_0 dc_0 pm_0 cd_0 ct_0 : Value} {od_0 an_0 : Option Addr} {sl_0 : Array (Option Value)}
    {oc_1 kV_1 dc_1 pm_1 cd_1 ct_1 : Value} {od_1 an_1 : Option Addr} {sl_1 : Array (Option Value)}
    {oc_2 kV_2 dc_2 pm_2 cd_2 ct_2 : Value} {od_2 an_2 : Option Addr} {sl_2 : Array (Option Value)}
    {oc_3 kV_3 dc_3 pm_3 cd_3 ct_3 : Value} {od_3 an_3 : Option Addr} {sl_3 : Array (Option Value)}
    {oc_4 kV_4 dc_4 pm_4 cd_4 ct_4 : Value} {od_4 an_4 : Option Addr} {sl_4 : Array (Option Value)}
    {oc_5 kV_5 dc_5 pm_5 cd_5 ct_5 : Value} {od_5 an_5 : Option Addr} {sl_5 : Array (Option Value)}
    {oc_6 kV_6 dc_6 pm_6 cd_6 ct_6 : Value} {od_6 an_6 : Option Addr} {sl_6 : Array (Option Value)}
    {oc_7 kV_7 dc_7 pm_7 cd_7 ct_7 : Value} {od_7 an_7 : Option Addr} {sl_7 : Array (Option Value)}
    {oc_8 kV_8 dc_8 pm_8 cd_8 ct_8 : Value} {od_8 an_8 : Option Addr} {sl_8 : Array (Option Value)}
    {oc_9 kV_9 dc_9 pm_9 cd_9 ct_9 : Value} {od_9 an_9 : Option Addr} {sl_9 : Array (Option Value)}
    {oc_10 kV_10 dc_10 pm_10 cd_10 ct_10 : Value} {od_10 an_10 : Option Addr} {sl_10 : Array (Option Value)}
    {oc_11 kV_11 dc_11 pm_11 ct_11 : Value} {od_11 an_11 : Option Addr} {sl_11 : Array (Option Value)}
    {oc_12 kV_12 dc_12 pm_12 cd_12 ct_12 : Value} {od_12 an_12 : Option Addr} {sl_12 : Array (Option Value)}
    {oc_13 kV_13 dc_13 pm_13 cd_13 ct_13 : Value} {od_13 an_13 : Option Addr} {sl_13 : Array (Option Value)}
    {oc_14 kV_14 dc_14 pm_14 cd_14 ct_14 : Value} {od_14 an_14 : Option Addr} {sl_14 : Array (Option Value)}
    {oc_15 kV_15 dc_15 pm_15 cd_15 ct_15 : Value} {od_15 an_15 : Option Addr} {sl_15 : Array (Option Value)}
    {oc_16 kV_16 dc_16 pm_16 cd_16 ct_16 : Value} {od_16 an_16 : Option Addr} {sl_16 : Array (Option Value)}
    {oc_17 kV_17 dc_17 pm_17 cd_17 ct_17 : Value} {od_17 an_17 : Option Addr} {sl_17 : Array (Option Value)}
    {ocI_ kVI_ dcI_ pmI_ cdI_ ctI_ : Value} {odI_ anI_ : Option Addr} {slI_ : Array (Option Value)}
    {ocS_ kVS_ dcS_ pmS_ cdS_ ctS_ : Value} {odS_ anS_ : Option Addr} {slS_ : Array (Option Value)}
    {ocQ_ kVQ_ dcQ_ pmQ_ cdQ_ ctQ_ : Value} {odQ_ anQ_ : Option Addr} {slQ_ : Array (Option Value)}
    {ocP_ kVP_ dcP_ pmP_ cdP_ ctP_ : Value} {odP_ anP_ : Option Addr} {slP_ : Array (Option Value)}
    {ocL_ kVL_ dcL_ pmL_ cdL_ ctL_ : Value} {odL_ anL_ : Option Addr} {slL_ : Array (Option Value)}
    {ocA_ kVA_ dcA_ pmA_ cdA_ ctA_ : Value} {odA_ anA_ : Option Addr} {slA_ : Array (Option Value)}
    {rest : List Value}
    {ocR kVR dcR pmR cdR ctR : Value} {odR anR : Option Addr} {slR : Array (Option Value)}
    {v0 v1 v2 v3 : Tok}
    (X : K.In h) (G : h.Ns mainGlobals mg) (hfa : mg "law" = some (.ref fa)) (hT : h.get? Pt = some tab0)
    (nE : PySem.W.nsIn K mainGlobals "InvalidEntries" = some (some (.ref CE)))
    (nT : PySem.W.nsIn K mainGlobals "InvalidText" = some (some (.ref CT)))
    (nN : PySem.W.nsIn K mainGlobals "InvalidName" = some (some (.ref CN)))
    (nI : PySem.W.nsIn K mainGlobals "InputError" = some (some (.ref CI)))
    (nV : PySem.W.nsIn K mainGlobals "Vocabulary" = some (some (.ref C)))
    (nC : PySem.W.nsIn K mainGlobals "CORE_WORDS" = some (some (.ref tC)))
    (lC : K.lookup tC = some ⟨.type "tuple", odC, .seq #[.str "call" u1, .str "dip" u2, .str "curry" u3, .str "compose" u4, .str "choose" u5] nn, slC⟩)
    (nD : PySem.W.nsIn K mainGlobals "DIGITS" = some (some (.ref dD)))
    (lD : K.lookup dD = some ⟨.type "dict", none, .dict #[⟨PyData.keyHash w.params "0", .str "0" t0, .int 0 s0⟩, ⟨PyData.keyHash w.params "1", .str "1" t1, .int 1 s1⟩, ⟨PyData.keyHash w.params "2", .str "2" t2, .int 2 s2⟩, ⟨PyData.keyHash w.params "3", .str "3" t3, .int 3 s3⟩] nd, #[]⟩)
    (xE : PySem.W.findIn K (.ref CE) "__init__" = some (some (.ref fI)))
    (lE : K.lookup fI = some ⟨ocE, odE, .func (PySem.W.fnOf "__init__" "InvalidEntries.__init__" (iArgs "index" ⟨14, 17, 14, 21⟩ ⟨14, 23, 14, 28⟩) (iBody "index" ⟨15, 8, 15, 12⟩ ⟨15, 8, 15, 18⟩ ⟨15, 21, 15, 26⟩ ⟨15, 8, 15, 26⟩) (iScope "index") .none .none dcE pmE anE cdE ctE), slE⟩)
    (yE : PySem.W.codeIn K cdE "InvalidEntries.__init__" = true)
    (xT : PySem.W.findIn K (.ref CT) "__init__" = some (some (.ref fJ)))
    (lT : K.lookup fJ = some ⟨ocT, odT, .func (PySem.W.fnOf "__init__" "InvalidText.__init__" (iArgs "value" ⟨6, 17, 6, 21⟩ ⟨6, 23, 6, 28⟩) (iBody "value" ⟨7, 8, 7, 12⟩ ⟨7, 8, 7, 18⟩ ⟨7, 21, 7, 26⟩ ⟨7, 8, 7, 26⟩) (iScope "value") .none .none dcT pmT anT cdT ctT), slT⟩)
    (yT : PySem.W.codeIn K cdT "InvalidText.__init__" = true)
    (xN : PySem.W.findIn K (.ref CN) "__init__" = some (some (.ref fK)))
    (lN : K.lookup fK = some ⟨ocN, odN, .func (PySem.W.fnOf "__init__" "InvalidName.__init__" (iArgs "value" ⟨10, 17, 10, 21⟩ ⟨10, 23, 10, 28⟩) (iBody "value" ⟨11, 8, 11, 12⟩ ⟨11, 8, 11, 18⟩ ⟨11, 21, 11, 26⟩ ⟨11, 8, 11, 26⟩) (iScope "value") .none .none dcN pmN anN cdN ctN), slN⟩)
    (yN : PySem.W.codeIn K cdN "InvalidName.__init__" = true)
    (a_0 : PySem.W.nsIn K mainGlobals "is_plain_integer" = some (some (.ref f_0)))
    (l_0 : K.lookup f_0 = some ⟨oc_0, od_0, .func (PySem.W.fnOf "is_plain_integer" "is_plain_integer" (defArgs sPI) (defBody sPI) (defScope sPI) .none kV_0 dc_0 pm_0 an_0 cd_0 ct_0), sl_0⟩)
    (c_0 : PySem.W.codeIn K cd_0 "is_plain_integer" = true)
    (k_0 : PySem.W.keepIn K (.ref f_0) = true)
    (a_1 : PySem.W.nsIn K mainGlobals "is_name" = some (some (.ref f_1)))
    (l_1 : K.lookup f_1 = some ⟨oc_1, od_1, .func (PySem.W.fnOf "is_name" "is_name" (defArgs sNm) (defBody sNm) (defScope sNm) .none kV_1 dc_1 pm_1 an_1 cd_1 ct_1), sl_1⟩)
    (c_1 : PySem.W.codeIn K cd_1 "is_name" = true)
    (k_1 : PySem.W.keepIn K (.ref f_1) = true)
    (a_2 : PySem.W.nsIn K mainGlobals "is_free_name" = some (some (.ref f_2)))
    (l_2 : K.lookup f_2 = some ⟨oc_2, od_2, .func (PySem.W.fnOf "is_free_name" "is_free_name" (defArgs sFN) (defBody sFN) (defScope sFN) .none kV_2 dc_2 pm_2 an_2 cd_2 ct_2), sl_2⟩)
    (c_2 : PySem.W.codeIn K cd_2 "is_free_name" = true)
    (k_2 : PySem.W.keepIn K (.ref f_2) = true)
    (a_3 : PySem.W.nsIn K mainGlobals "is_arity" = some (some (.ref f_3)))
    (l_3 : K.lookup f_3 = some ⟨oc_3, od_3, .func (PySem.W.fnOf "is_arity" "is_arity" (defArgs sAr) (defBody sAr) (defScope sAr) .none kV_3 dc_3 pm_3 an_3 cd_3 ct_3), sl_3⟩)
    (c_3 : PySem.W.codeIn K cd_3 "is_arity" = true)
    (k_3 : PySem.W.keepIn K (.ref f_3) = true)
    (a_4 : PySem.W.nsIn K mainGlobals "is_entry" = some (some (.ref f_4)))
    (l_4 : K.lookup f_4 = some ⟨oc_4, od_4, .func (PySem.W.fnOf "is_entry" "is_entry" (defArgs sEn) (defBody sEn) (defScope sEn) .none kV_4 dc_4 pm_4 an_4 cd_4 ct_4), sl_4⟩)
    (c_4 : PySem.W.codeIn K cd_4 "is_entry" = true)
    (k_4 : PySem.W.keepIn K (.ref f_4) = true)
    (a_5 : PySem.W.nsIn K mainGlobals "check_entries" = some (some (.ref f_5)))
    (l_5 : K.lookup f_5 = some ⟨oc_5, od_5, .func (PySem.W.fnOf "check_entries" "check_entries" (defArgs sChk) (defBody sChk) (defScope sChk) .none kV_5 dc_5 pm_5 an_5 cd_5 ct_5), sl_5⟩)
    (c_5 : PySem.W.codeIn K cd_5 "check_entries" = true)
    (k_5 : PySem.W.keepIn K (.ref f_5) = true)
    (a_6 : PySem.W.nsIn K mainGlobals "entry_text" = some (some (.ref f_6)))
    (l_6 : K.lookup f_6 = some ⟨oc_6, od_6, .func (PySem.W.fnOf "entry_text" "entry_text" (defArgs sTx) (defBody sTx) (defScope sTx) .none kV_6 dc_6 pm_6 an_6 cd_6 ct_6), sl_6⟩)
    (c_6 : PySem.W.codeIn K cd_6 "entry_text" = true)
    (k_6 : PySem.W.keepIn K (.ref f_6) = true)
    (a_7 : PySem.W.nsIn K mainGlobals "_law_urn" = some (some (.ref f_7)))
    (l_7 : K.lookup f_7 = some ⟨oc_7, od_7, .func (PySem.W.fnOf "_law_urn" "_law_urn" (defArgs sUrn) (defBody sUrn) (defScope sUrn) .none kV_7 dc_7 pm_7 an_7 cd_7 ct_7), sl_7⟩)
    (c_7 : PySem.W.codeIn K cd_7 "_law_urn" = true)
    (k_7 : PySem.W.keepIn K (.ref f_7) = true)
    (a_8 : PySem.W.nsIn K mainGlobals "_law_lot" = some (some (.ref f_8)))
    (l_8 : K.lookup f_8 = some ⟨oc_8, od_8, .func (PySem.W.fnOf "_law_lot" "_law_lot" (defArgs sLot) (defBody sLot) (defScope sLot) .none kV_8 dc_8 pm_8 an_8 cd_8 ct_8), sl_8⟩)
    (c_8 : PySem.W.codeIn K cd_8 "_law_lot" = true)
    (k_8 : PySem.W.keepIn K (.ref f_8) = true)
    (a_9 : PySem.W.nsIn K mainGlobals "_law_one" = some (some (.ref f_9)))
    (l_9 : K.lookup f_9 = some ⟨oc_9, od_9, .func (PySem.W.fnOf "_law_one" "_law_one" (defArgs sOne) (defBody sOne) (defScope sOne) .none kV_9 dc_9 pm_9 an_9 cd_9 ct_9), sl_9⟩)
    (c_9 : PySem.W.codeIn K cd_9 "_law_one" = true)
    (k_9 : PySem.W.keepIn K (.ref f_9) = true)
    (a_10 : PySem.W.nsIn K mainGlobals "_law_had" = some (some (.ref f_10)))
    (l_10 : K.lookup f_10 = some ⟨oc_10, od_10, .func (PySem.W.fnOf "_law_had" "_law_had" (defArgs sHad) (defBody sHad) (defScope sHad) .none kV_10 dc_10 pm_10 an_10 cd_10 ct_10), sl_10⟩)
    (c_10 : PySem.W.codeIn K cd_10 "_law_had" = true)
    (k_10 : PySem.W.keepIn K (.ref f_10) = true)
    (a_11 : PySem.W.nsIn K mainGlobals "_law_right" = some (some (.ref f_11)))
    (l_11 : K.lookup f_11 = some ⟨oc_11, od_11, .func (PySem.W.fnOf "_law_right" "_law_right" (defArgs sRight) (defBody sRight) (defScope sRight) .none kV_11 dc_11 pm_11 an_11 (.ref cR) ct_11), sl_11⟩)
    (c_11 : PySem.W.codeIn K (.ref cR) "_law_right" = true)
    (k_11 : PySem.W.keepIn K (.ref f_11) = true)
    (a_12 : PySem.W.nsIn K mainGlobals "law" = some (some (.ref f_12)))
    (l_12 : K.lookup f_12 = some ⟨oc_12, od_12, .func (PySem.W.fnOf "law" "law" (defArgs sLaw) (defBody sLaw) (defScope sLaw) .none kV_12 dc_12 pm_12 an_12 cd_12 ct_12), sl_12⟩)
    (c_12 : PySem.W.codeIn K cd_12 "law" = true)
    (k_12 : PySem.W.keepIn K (.ref f_12) = true)
    (a_13 : PySem.W.nsIn K mainGlobals "split_entry" = some (some (.ref f_13)))
    (l_13 : K.lookup f_13 = some ⟨oc_13, od_13, .func (PySem.W.fnOf "split_entry" "split_entry" (defArgs sSE) (defBody sSE) (defScope sSE) .none kV_13 dc_13 pm_13 an_13 cd_13 ct_13), sl_13⟩)
    (c_13 : PySem.W.codeIn K cd_13 "split_entry" = true)
    (k_13 : PySem.W.keepIn K (.ref f_13) = true)
    (a_14 : PySem.W.nsIn K mainGlobals "split_entries" = some (some (.ref f_14)))
    (l_14 : K.lookup f_14 = some ⟨oc_14, od_14, .func (PySem.W.fnOf "split_entries" "split_entries" (defArgs sSS) (defBody sSS) (defScope sSS) .none kV_14 dc_14 pm_14 an_14 cd_14 ct_14), sl_14⟩)
    (c_14 : PySem.W.codeIn K cd_14 "split_entries" = true)
    (k_14 : PySem.W.keepIn K (.ref f_14) = true)
    (a_15 : PySem.W.nsIn K mainGlobals "_law_titles" = some (some (.ref f_15)))
    (l_15 : K.lookup f_15 = some ⟨oc_15, od_15, .func (PySem.W.fnOf "_law_titles" "_law_titles" (defArgs sTi) (defBody sTi) (defScope sTi) .none kV_15 dc_15 pm_15 an_15 cd_15 ct_15), sl_15⟩)
    (c_15 : PySem.W.codeIn K cd_15 "_law_titles" = true)
    (k_15 : PySem.W.keepIn K (.ref f_15) = true)
    (a_16 : PySem.W.nsIn K mainGlobals "_law_made" = some (some (.ref f_16)))
    (l_16 : K.lookup f_16 = some ⟨oc_16, od_16, .func (PySem.W.fnOf "_law_made" "_law_made" (defArgs sMd) (defBody sMd) (defScope sMd) .none kV_16 dc_16 pm_16 an_16 cd_16 ct_16), sl_16⟩)
    (c_16 : PySem.W.codeIn K cd_16 "_law_made" = true)
    (k_16 : PySem.W.keepIn K (.ref f_16) = true)
    (a_17 : PySem.W.nsIn K mainGlobals "_law_text" = some (some (.ref f_17)))
    (l_17 : K.lookup f_17 = some ⟨oc_17, od_17, .func (PySem.W.fnOf "_law_text" "_law_text" (defArgs sTxt) (defBody sTxt) (defScope sTxt) .none kV_17 dc_17 pm_17 an_17 cd_17 ct_17), sl_17⟩)
    (c_17 : PySem.W.codeIn K cd_17 "_law_text" = true)
    (k_17 : PySem.W.keepIn K (.ref f_17) = true)
    (mI : PySem.W.findIn K (.ref C) "__init__" = some (some (.ref fIn)))
    (lI_ : K.lookup fIn = some ⟨ocI_, odI_, .func (PySem.W.fnOf "__init__" "Vocabulary.__init__" (defArgs sIni) (defBody sIni) (defScope sIni) .none kVI_ dcI_ pmI_ anI_ cdI_ ctI_), slI_⟩)
    (cI_ : PySem.W.codeIn K cdI_ "Vocabulary.__init__" = true)
    (kI_ : PySem.W.keepIn K (.ref fIn) = true)
    (mS : PySem.W.findIn K (.ref C) "__str__" = some (some (.ref fS)))
    (lS_ : K.lookup fS = some ⟨ocS_, odS_, .func (PySem.W.fnOf "__str__" "Vocabulary.__str__" (defArgs sStr) (defBody sStr) (defScope sStr) .none kVS_ dcS_ pmS_ anS_ cdS_ ctS_), slS_⟩)
    (cS_ : PySem.W.codeIn K cdS_ "Vocabulary.__str__" = true)
    (kS_ : PySem.W.keepIn K (.ref fS) = true)
    (mQ : PySem.W.findIn K (.ref C) "__eq__" = some (some (.ref fEq)))
    (lQ_ : K.lookup fEq = some ⟨ocQ_, odQ_, .func (PySem.W.fnOf "__eq__" "Vocabulary.__eq__" (defArgs sEq) (defBody sEq) (defScope sEq) .none kVQ_ dcQ_ pmQ_ anQ_ cdQ_ ctQ_), slQ_⟩)
    (cQ_ : PySem.W.codeIn K cdQ_ "Vocabulary.__eq__" = true)
    (kQ_ : PySem.W.keepIn K (.ref fEq) = true)
    (mP : PySem.W.findIn K (.ref C) "__repr__" = some (some (.ref fRp)))
    (lP_ : K.lookup fRp = some ⟨ocP_, odP_, .func (PySem.W.fnOf "__repr__" "Vocabulary.__repr__" (defArgs sRp) (defBody sRp) (defScope sRp) .none kVP_ dcP_ pmP_ anP_ cdP_ ctP_), slP_⟩)
    (cP_ : PySem.W.codeIn K cdP_ "Vocabulary.__repr__" = true)
    (kP_ : PySem.W.keepIn K (.ref fRp) = true)
    (mL : PySem.W.findIn K (.ref C) "__len__" = some (some (.ref fLn)))
    (lL_ : K.lookup fLn = some ⟨ocL_, odL_, .func (PySem.W.fnOf "__len__" "Vocabulary.__len__" (defArgs sLen) (defBody sLen) (defScope sLen) .none kVL_ dcL_ pmL_ anL_ cdL_ ctL_), slL_⟩)
    (cL_ : PySem.W.codeIn K cdL_ "Vocabulary.__len__" = true)
    (kL_ : PySem.W.keepIn K (.ref fLn) = true)
    (mA : PySem.W.findIn K (.ref C) "arity" = some (some (.ref fA)))
    (lA_ : K.lookup fA = some ⟨ocA_, odA_, .func (PySem.W.fnOf "arity" "Vocabulary.arity" (defArgs sAri) (defBody sAri) (defScope sAri) .none kVA_ dcA_ pmA_ anA_ cdA_ ctA_), slA_⟩)
    (cA_ : PySem.W.codeIn K cdA_ "Vocabulary.arity" = true)
    (kA_ : PySem.W.keepIn K (.ref fA) = true)
    (mR : PySem.W.findCls K (.ref C) (.type "type") "read" = some (.get (.builtin "staticmethod.__get__") (.ref smp) .none (.ref C)))
    (rR : PySem.W.recIn K smp "staticmethod" = some (.ref fRd :: rest))
    (lR : K.lookup fRd = some ⟨ocR, odR, .func (PySem.W.fnOf "read" "Vocabulary.read" (defArgs sRd) (defBody sRd) (defScope sRd) .none kVR dcR pmR anR cdR ctR), slR⟩)
    (cR_ : PySem.W.codeIn K cdR "Vocabulary.read" = true)
    (kR_ : PySem.W.keepIn K (.ref fRd) = true)
    (z_int : PySem.W.nsIn K mainGlobals "int" = some none)
    (z_len : PySem.W.nsIn K mainGlobals "len" = some none)
    (z_abs : PySem.W.nsIn K mainGlobals "abs" = some none)
    (z_divmod : PySem.W.nsIn K mainGlobals "divmod" = some none)
    (z_max : PySem.W.nsIn K mainGlobals "max" = some none)
    (z_min : PySem.W.nsIn K mainGlobals "min" = some none)
    (z_range : PySem.W.nsIn K mainGlobals "range" = some none)
    (z_all : PySem.W.nsIn K mainGlobals "all" = some none)
    (z_isinstance : PySem.W.nsIn K mainGlobals "isinstance" = some none)
    (z_bool : PySem.W.nsIn K mainGlobals "bool" = some none)
    (z_str : PySem.W.nsIn K mainGlobals "str" = some none)
    (z_tuple : PySem.W.nsIn K mainGlobals "tuple" = some none)
    (z_set : PySem.W.nsIn K mainGlobals "set" = some none)
    (z_enumerate : PySem.W.nsIn K mainGlobals "enumerate" = some none)
    (z_sorted : PySem.W.nsIn K mainGlobals "sorted" = some none)
    (z_repr : PySem.W.nsIn K mainGlobals "repr" = some none)
    (z_ValueError : PySem.W.nsIn K mainGlobals "ValueError" = some none)
    (z_list : PySem.W.nsIn K mainGlobals "list" = some none)
    (w_0 : PySem.W.nsIn K mainGlobals "LETTERS" = some (some (.str "abcdefghijklmnopqrstuvwxyz" v0)))
    (w_1 : PySem.W.nsIn K mainGlobals "LONGEST_NAME" = some (some (.int 8 v1)))
    (w_2 : PySem.W.nsIn K mainGlobals "MOST_ARITY" = some (some (.int 3 v2)))
    (w_3 : PySem.W.nsIn K mainGlobals "MOST_ENTRIES" = some (some (.int 8 v3)))
    (hA : chkA K CE CT CN fI fJ fK CI C fIn fS fEq fRp fLn fA cR Pt dD = true) :
    AtG l w K 11 63 "_law_script" mg fa h := by
  have e := hfa.symm.trans (PySem.W.mg_of X G a_12)
  cases e
  unfold chkA at hA
  simp only [Bool.and_eq_true, beq_iff_eq, Bool.not_eq_true'] at hA
  obtain ⟨eoE, etE, ecE, eoT, etT, ecT, eoN, etN, ecN, gD, tK, xmE, xmN, k1, k2, pG, hDi, pO, sA, nAr, nNa, nTe, mkI, fnI, kpC, fnS, cH, lP, fCl, mO, kSelf, kStr, kStrC, sO, sS, fNe, fnQ, fnP, fnL, fBo, fnA, rdI, gA, nSy⟩ := hA
  have BL : Blt mg := ⟨(PySem.W.mg_none_of X G z_int), (PySem.W.mg_none_of X G z_len), (PySem.W.mg_none_of X G z_abs), (PySem.W.mg_none_of X G z_divmod), (PySem.W.mg_none_of X G z_max), (PySem.W.mg_none_of X G z_min), (PySem.W.mg_none_of X G z_range), (PySem.W.mg_none_of X G z_all)⟩
  have B : B2 mg := ⟨(PySem.W.mg_none_of X G z_isinstance), (PySem.W.mg_none_of X G z_int), (PySem.W.mg_none_of X G z_bool), (PySem.W.mg_none_of X G z_str), (PySem.W.mg_none_of X G z_tuple), (PySem.W.mg_none_of X G z_len), (PySem.W.mg_none_of X G z_all), ⟨_, (PySem.W.mg_of X G w_0)⟩, ⟨_, (PySem.W.mg_of X G w_1)⟩, ⟨_, (PySem.W.mg_of X G w_2)⟩⟩
  have BB : B3 mg := ⟨(PySem.W.mg_none_of X G z_set), (PySem.W.mg_none_of X G z_enumerate), ⟨_, (PySem.W.mg_of X G w_3)⟩⟩
  have B4' : B4 mg := ⟨(PySem.W.mg_none_of X G z_sorted)⟩
  have CW : Core K mg tC := ⟨PySem.W.mg_of X G nC, fun H => .inr ⟨_, _, _, lC, rfl, rfl, (by show 5 ≤ sizeLine; decide), .cons ⟨_, rfl⟩ (.cons ⟨_, rfl⟩ (.cons ⟨_, rfl⟩ (.cons ⟨_, rfl⟩ (.cons ⟨_, rfl⟩ .nil))))⟩⟩
  have DG : Dg K w mg dD _ _ := ⟨PySem.W.mg_of X G nD, ⟨lD, ⟨⟨_, _, rfl, rfl⟩, ⟨_, _, rfl, rfl⟩, ⟨_, _, rfl, rfl⟩, ⟨_, _, rfl, rfl⟩, trivial⟩, nSy⟩, look_of lD⟩
  have F_0 := fun_mk (st := sPI) l_0 c_0 k_0
  have b_0 := F_0.binds (ps := ["value"]) fun _ _ _ _ _ _ us hl => match us, hl with | [_], _ => rfl
  have F_1 := fun_mk (st := sNm) l_1 c_1 k_1
  have b_1 := F_1.binds (ps := ["value"]) fun _ _ _ _ _ _ us hl => match us, hl with | [_], _ => rfl
  have F_2 := fun_mk (st := sFN) l_2 c_2 k_2
  have b_2 := F_2.binds (ps := ["value"]) fun _ _ _ _ _ _ us hl => match us, hl with | [_], _ => rfl
  have F_3 := fun_mk (st := sAr) l_3 c_3 k_3
  have b_3 := F_3.binds (ps := ["value"]) fun _ _ _ _ _ _ us hl => match us, hl with | [_], _ => rfl
  have F_4 := fun_mk (st := sEn) l_4 c_4 k_4
  have b_4 := F_4.binds (ps := ["value"]) fun _ _ _ _ _ _ us hl => match us, hl with | [_], _ => rfl
  have F_5 := fun_mk (st := sChk) l_5 c_5 k_5
  have b_5 := F_5.binds (ps := ["entries"]) fun _ _ _ _ _ _ us hl => match us, hl with | [_], _ => rfl
  have F_6 := fun_mk (st := sTx) l_6 c_6 k_6
  have b_6 := F_6.binds (ps := ["name", "arity"]) fun _ _ _ _ _ _ us hl => match us, hl with | [_, _], _ => rfl
  have F_7 := fun_mk (st := sUrn) l_7 c_7 k_7
  have b_7 := F_7.binds (ps := ["_law_script", "_law_k"]) fun _ _ _ _ _ _ us hl => match us, hl with | [_, _], _ => rfl
  have F_8 := fun_mk (st := sLot) l_8 c_8 k_8
  have b_8 := F_8.binds (ps := ["_law_urn_here", "_law_many"]) fun _ _ _ _ _ _ us hl => match us, hl with | [_, _], _ => rfl
  have F_9 := fun_mk (st := sOne) l_9 c_9 k_9
  have b_9 := F_9.binds (ps := ["_law_urn_here", "_law_things"]) fun _ _ _ _ _ _ us hl => match us, hl with | [_, _], _ => rfl
  have F_10 := fun_mk (st := sHad) l_10 c_10 k_10
  have b_10 := F_10.binds (ps := ["_law_ask"]) fun _ _ _ _ _ _ us hl => match us, hl with | [_], _ => rfl
  have F_11 : FunC K "_law_right" "_law_right" sRight f_11 _ cR := ⟨⟨_, _, _, _, _, _, _, _, rfl, l_11, c_11⟩, k_11⟩
  have b_11 := F_11.f.binds (ps := ["_law_urn_here"]) fun _ _ _ _ _ _ us hl => match us, hl with | [_], _ => rfl
  have F_12 := fun_mk (st := sLaw) l_12 c_12 k_12
  have b_12 := F_12.binds (ps := ["_law_script"]) fun _ _ _ _ _ _ us hl => match us, hl with | [_], _ => rfl
  have F_13 := fun_mk (st := sSE) l_13 c_13 k_13
  have b_13 := F_13.binds (ps := ["text"]) fun _ _ _ _ _ _ us hl => match us, hl with | [_], _ => rfl
  have F_14 := fun_mk (st := sSS) l_14 c_14 k_14
  have b_14 := F_14.binds (ps := ["text"]) fun _ _ _ _ _ _ us hl => match us, hl with | [_], _ => rfl
  have F_15 := fun_mk (st := sTi) l_15 c_15 k_15
  have b_15 := F_15.binds (ps := ["_law_urn_here", "_law_many"]) fun _ _ _ _ _ _ us hl => match us, hl with | [_, _], _ => rfl
  have F_16 := fun_mk (st := sMd) l_16 c_16 k_16
  have b_16 := F_16.binds (ps := ["_law_entries_here"]) fun _ _ _ _ _ _ us hl => match us, hl with | [_], _ => rfl
  have F_17 := fun_mk (st := sTxt) l_17 c_17 k_17
  have b_17 := F_17.binds (ps := ["_law_entries_here"]) fun _ _ _ _ _ _ us hl => match us, hl with | [_], _ => rfl
  have FI := fun_mk (st := sIni) lI_ cI_ kI_
  have FS := fun_mk (st := sStr) lS_ cS_ kS_
  have bS := FS.binds (ps := ["self"]) fun _ _ _ _ _ _ us hl => match us, hl with | [_], _ => rfl
  have FQ := fun_mk (st := sEq) lQ_ cQ_ kQ_
  have bQ := FQ.binds (ps := ["self", "other"]) fun _ _ _ _ _ _ us hl => match us, hl with | [_, _], _ => rfl
  have FP := fun_mk (st := sRp) lP_ cP_ kP_
  have bP := FP.binds (ps := ["self"]) fun _ _ _ _ _ _ us hl => match us, hl with | [_], _ => rfl
  have FL := fun_mk (st := sLen) lL_ cL_ kL_
  have bL := FL.binds (ps := ["self"]) fun _ _ _ _ _ _ us hl => match us, hl with | [_], _ => rfl
  have FA := fun_mk (st := sAri) lA_ cA_ kA_
  have bA := FA.binds (ps := ["self", "name"]) fun _ _ _ _ _ _ us hl => match us, hl with | [_, _], _ => rfl
  have FRd := fun_mk (st := sRd) lR cR_ kR_
  have bRd := FRd.binds (ps := ["text"]) fun _ _ _ _ _ _ us hl => match us, hl with | [_], _ => rfl
  have D : D2 K mg _ _ _ _ _ _ _ _ _ _ := ⟨PySem.W.mg_of X G a_0, F_0, b_0, PySem.W.mg_of X G a_1, F_1, b_1, PySem.W.mg_of X G a_2, F_2, b_2, PySem.W.mg_of X G a_3, F_3, b_3, PySem.W.mg_of X G a_4, F_4, b_4⟩
  have I : I2 K mg _ _ _ _ := ⟨PySem.W.mg_of X G a_5, F_5, b_5, PySem.W.mg_of X G a_6, F_6, b_6⟩
  have S3' : S3 K mg _ _ _ _ := ⟨PySem.W.mg_of X G a_13, F_13, b_13, PySem.W.mg_of X G a_14, F_14, b_14⟩
  have Z : EC K mg CE fI := ⟨PySem.W.mg_of X G nE, ErrC.of eoE, ⟨xE, etE, _, _, _, _, _, _, _, _, _, _, _, _, _, _, _, lE, yE⟩, ecE⟩
  have ZT : TC K mg CT fJ := ⟨PySem.W.mg_of X G nT, ErrC.of eoT, ⟨xT, etT, _, _, _, _, _, _, _, _, _, _, _, _, _, _, _, lT, yT⟩, ecT⟩
  have ZN : NC K mg CN fK := ⟨PySem.W.mg_of X G nN, ErrC.of eoN, ⟨xN, etN, _, _, _, _, _, _, _, _, _, _, _, _, _, _, _, lN, yN⟩, ecN⟩
  have HF : HadF K mg CN CI := ⟨⟨gD, tK⟩, PySem.W.mg_of X G nI, PySem.W.mg_none_of X G z_ValueError, xmN, k1, k2⟩
  have VV : VC K mg C := ⟨PySem.W.mg_of X G nV, ⟨pG, hDi, pO, sA⟩, nAr, nNa, nTe⟩
  have MK : Mk K C fIn := ⟨mkI, mI, fnI, kpC⟩
  have SO : StrO K C fS := ⟨mS, fnS⟩
  have TI : IC K C := ⟨⟨pG, hDi, pO, sA⟩, fCl, gD, tK, mO, kSelf, kStr, kStrC⟩
  have CQ : CmpC K C fEq := ⟨sO, fNe, mQ, fnQ⟩
  have RC : RpC K C fRp := ⟨mP, fnP⟩
  have LC : LenC K C fLn := ⟨mL, fnL, fBo⟩
  have MA : Meth K C "arity" fA := ⟨mA, fnA, kA_⟩
  have SM : SMet K C (.type "type") "read" smp fRd := ⟨rdI, gA, mR, ⟨_, rR⟩, kR_⟩
  have DW : Drw K mg _ _ _ _ := ⟨PySem.W.mg_of X G a_8, F_8, b_8, PySem.W.mg_of X G a_9, F_9, b_9⟩
  have HD : HadD K mg _ _ := ⟨PySem.W.mg_of X G a_10, F_10, b_10⟩
  have hN : K.lookup Pt = none := Option.isNone_iff_eq_none.mp lP
  refine ⟨PySem.W.fnOf "law" "law" (defArgs sLaw) (defBody sLaw) (defScope sLaw) .none kV_12 dc_12 pm_12 an_12 cd_12 ct_12, [(cR, Pt)], spLawT K [(Pt, lamN)], fun p hp => ?_, fun s v => .of_eq rfl, fun H a ns hl _ hH hS => ⟨a, ns, rfl, hS, hl, fun p hp => ?_, fun _ => rfl⟩, fun base _ _ hTB => ?_⟩
  · rw [List.mem_singleton.mp hp]
    exact ⟨hT, hN, PySem.W.codeHd_of_K X cH⟩
  · rw [List.mem_singleton.mp hp]
    exact LamX.TabS.nil (hH (cR, Pt) (List.mem_singleton.mpr rfl))
  · have GS : FnR l.prog w K mg base CX0 1 fS (spStr C) := ((ok_str FS B VV).raw bS .nil).imp fun vs H Q E hs => by rw [List.append_nil]; exact hs
    have GE : FnR l.prog w K mg base CX0 1 fEq (spEqV C) := ((ok_eq FQ B VV TI).raw bQ .nil).imp fun vs H Q E hs => by rw [List.append_nil]; exact hs
    have GP : FnR l.prog w K mg base CX0 1 fRp (spRp C) := ((ok_rp FP VV).raw bP .nil).imp fun vs H Q E hs => by rw [List.append_nil]; exact hs
    have GN : FnR l.prog w K mg base CX0 1 fLn (spLen C) := ((ok_len FL B VV).raw bL .nil).imp fun vs H Q E hs => by rw [List.append_nil]; exact hs
    have GA := ok_ari (P := l.prog) (w := w) (base := base) FA B VV ZN
    have GI : FnR l.prog w K mg base (L2N.CX l.prog w) 5 fIn (spInit C CE) := ok_ini I D B CW Z BB B4' VV FI
    have GRf := ok_rd (P := l.prog) (w := w) (base := base) FRd S3' B DG Z xmE ZT VV MK GI
    have GR : FnR l.prog w K mg base (L2.CX l.prog w) 7 fRd (spRd K C CT) := (GRf.raw bRd .nil).imp fun vs H Q E hs => by rw [List.append_nil]; exact hs
    have GT := ok_txt (P := l.prog) (w := w) (base := base) F_17 B B4'
    have GM := ok_md F_16 B (PySem.W.mg_none_of X G z_list) VV MK GI SM GR (PySem.W.mg_of X G a_17) F_17.kp b_17 GT
    exact ok_lawT (j := 9) F_12 BL (PySem.W.mg_of X G a_7) F_7 b_7 (PySem.W.mg_of X G a_11) F_11.kp b_11 (ok_right F_11 ⟨BL, B, B4', PySem.W.mg_none_of X G z_repr, DW, HD, ZN, HF, VV, TI, SO, CQ, RC, LC, sS, MA, bA, fun s v u => .of_eq rfl, GA, GS, GE, GP, GN, hTB (cR, Pt) (List.mem_singleton.mpr rfl), ok_lot DW.FL BL, ok_one DW BL, PySem.W.mg_of X G a_15, F_15.kp, b_15, ok_ti F_15 DW BL, PySem.W.mg_of X G a_16, F_16.kp, b_16, GM, PySem.W.mg_of X G a_17, F_17.kp, b_17, GT⟩)
end SQ1
open PySem PySem.W PyProof.Rows
set_option maxRecDepth 100000 in
set_option maxHeartbeats 0 in
theorem PySem.Challenge.cw_stackquotes_k01_vocabularies_made_holds : PySem.Challenge.rw_stackquotes_k01_vocabularies_made.Holds := by
  w_on; o_law; k_head; (case hw => w_witness2)
  k_fill
  refine SQ.walkGT (l := PySem.Challenge.rw_stackquotes_k01_vocabularies_made) (n := 63) (k := 11) (x := "_law_script") rfl (by decide) rfl ⟨rfl, by decide, by decide⟩ (fun w h Y => PySem.W.km_in_of Y) ?F
  case F =>
    intro w mg fa h Y KX G hmg
    have TX := PySem.W.km_tabs_of Y
    refine' SQ1.all_mk (Pt := 256) KX G hmg (TX 256 (by decide)) ?nE ?nT ?nN ?nI ?nV ?nC ?lC ?nD ?lD ?xE ?lE ?yE ?xT ?lT ?yT ?xN ?lN ?yN ?a_0 ?l_0 ?c_0 ?k_0 ?a_1 ?l_1 ?c_1 ?k_1 ?a_2 ?l_2 ?c_2 ?k_2 ?a_3 ?l_3 ?c_3 ?k_3 ?a_4 ?l_4 ?c_4 ?k_4 ?a_5 ?l_5 ?c_5 ?k_5 ?a_6 ?l_6 ?c_6 ?k_6 ?a_7 ?l_7 ?c_7 ?k_7 ?a_8 ?l_8 ?c_8 ?k_8 ?a_9 ?l_9 ?c_9 ?k_9 ?a_10 ?l_10 ?c_10 ?k_10 ?a_11 ?l_11 ?c_11 ?k_11 ?a_12 ?l_12 ?c_12 ?k_12 ?a_13 ?l_13 ?c_13 ?k_13 ?a_14 ?l_14 ?c_14 ?k_14 ?a_15 ?l_15 ?c_15 ?k_15 ?a_16 ?l_16 ?c_16 ?k_16 ?a_17 ?l_17 ?c_17 ?k_17 ?mI ?lI_ ?cI_ ?kI_ ?mS ?lS_ ?cS_ ?kS_ ?mQ ?lQ_ ?cQ_ ?kQ_ ?mP ?lP_ ?cP_ ?kP_ ?mL ?lL_ ?cL_ ?kL_ ?mA ?lA_ ?cA_ ?kA_ ?mR ?rR ?lR ?cR_ ?kR_ ?z_int ?z_len ?z_abs ?z_divmod ?z_max ?z_min ?z_range ?z_all ?z_isinstance ?z_bool ?z_str ?z_tuple ?z_set ?z_enumerate ?z_sorted ?z_repr ?z_ValueError ?z_list ?w_0 ?w_1 ?w_2 ?w_3 ?hA
    (case nE => k_is)
    (case nT => k_is)
    (case nN => k_is)
    (case nI => k_is)
    (case nV => k_is)
    (case nC => k_is)
    (case lC => k_is)
    (case nD => k_is)
    (case lD => k_is)
    (case xE => k_is)
    (case lE => k_is)
    (case yE => k_is)
    (case xT => k_is)
    (case lT => k_is)
    (case yT => k_is)
    (case xN => k_is)
    (case lN => k_is)
    (case yN => k_is)
    (case a_0 => k_is)
    (case l_0 => k_is)
    (case c_0 => k_is)
    (case k_0 => k_is)
    (case a_1 => k_is)
    (case l_1 => k_is)
    (case c_1 => k_is)
    (case k_1 => k_is)
    (case a_2 => k_is)
    (case l_2 => k_is)
    (case c_2 => k_is)
    (case k_2 => k_is)
    (case a_3 => k_is)
    (case l_3 => k_is)
    (case c_3 => k_is)
    (case k_3 => k_is)
    (case a_4 => k_is)
    (case l_4 => k_is)
    (case c_4 => k_is)
    (case k_4 => k_is)
    (case a_5 => k_is)
    (case l_5 => k_is)
    (case c_5 => k_is)
    (case k_5 => k_is)
    (case a_6 => k_is)
    (case l_6 => k_is)
    (case c_6 => k_is)
    (case k_6 => k_is)
    (case a_7 => k_is)
    (case l_7 => k_is)
    (case c_7 => k_is)
    (case k_7 => k_is)
    (case a_8 => k_is)
    (case l_8 => k_is)
    (case c_8 => k_is)
    (case k_8 => k_is)
    (case a_9 => k_is)
    (case l_9 => k_is)
    (case c_9 => k_is)
    (case k_9 => k_is)
    (case a_10 => k_is)
    (case l_10 => k_is)
    (case c_10 => k_is)
    (case k_10 => k_is)
    (case a_11 => k_is)
    (case l_11 => k_is)
    (case c_11 => k_is)
    (case k_11 => k_is)
    (case a_12 => k_is)
    (case l_12 => k_is)
    (case c_12 => k_is)
    (case k_12 => k_is)
    (case a_13 => k_is)
    (case l_13 => k_is)
    (case c_13 => k_is)
    (case k_13 => k_is)
    (case a_14 => k_is)
    (case l_14 => k_is)
    (case c_14 => k_is)
    (case k_14 => k_is)
    (case a_15 => k_is)
    (case l_15 => k_is)
    (case c_15 => k_is)
    (case k_15 => k_is)
    (case a_16 => k_is)
    (case l_16 => k_is)
    (case c_16 => k_is)
    (case k_16 => k_is)
    (case a_17 => k_is)
    (case l_17 => k_is)
    (case c_17 => k_is)
    (case k_17 => k_is)
    (case mI => k_is)
    (case lI_ => k_is)
    (case cI_ => k_is)
    (case kI_ => k_is)
    (case mS => k_is)
    (case lS_ => k_is)
    (case cS_ => k_is)
    (case kS_ => k_is)
    (case mQ => k_is)
    (case lQ_ => k_is)
    (case cQ_ => k_is)
    (case kQ_ => k_is)
    (case mP => k_is)
    (case lP_ => k_is)
    (case cP_ => k_is)
    (case kP_ => k_is)
    (case mL => k_is)
    (case lL_ => k_is)
    (case cL_ => k_is)
    (case kL_ => k_is)
    (case mA => k_is)
    (case lA_ => k_is)
    (case cA_ => k_is)
    (case kA_ => k_is)
    (case mR => k_is)
    (case rR => k_is)
    (case lR => k_is)
    (case cR_ => k_is)
    (case kR_ => k_is)
    (case z_int => k_is)
    (case z_len => k_is)
    (case z_abs => k_is)
    (case z_divmod => k_is)
    (case z_max => k_is)
    (case z_min => k_is)
    (case z_range => k_is)
    (case z_all => k_is)
    (case z_isinstance => k_is)
    (case z_bool => k_is)
    (case z_str => k_is)
    (case z_tuple => k_is)
    (case z_set => k_is)
    (case z_enumerate => k_is)
    (case z_sorted => k_is)
    (case z_repr => k_is)
    (case z_ValueError => k_is)
    (case z_list => k_is)
    (case w_0 => k_is)
    (case w_1 => k_is)
    (case w_2 => k_is)
    (case w_3 => k_is)
    (case hA => kernel_rfl)
