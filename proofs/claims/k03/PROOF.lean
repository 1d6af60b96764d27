import PyProof.Rows.All
import Wide.All
import OpenK.AllK
import Wide.FinOn
import HandS.ForMost
import PyProof.ReprRoads
import KE.KExcInit
import KE.KIsAll
import HandS.ForExc
import HandS.ExcInit
import HandS.ExcIs
import KE.KExcIs
import HandS.ExcValue
import HandS.TryOnly
import HandS.RaiseFrom
import HandS.SuiteRaise
import HandS.WordsExc
import HandS.Star
import KE.GoesEnum
import KE.GoesMore
import PyProof.StrLawsChain
import PyProof.StrLawsTight
import PyProof.Rows.StrMeet
import HandS.ClsMeth
import HandS.Lambda
import HandS.EndBits
import HandS.SetFor
import HandS.SetTxt0
import PyProof.ListNew
import HandS.ReplaceDef
import HandS.ReplaceLit
import HandS.OwnEq
import KE.KCallOwn
import PyProof.InstEq
import PyProof.ReprNest
import HandS.IsInst
import HandS.Walk
import HandS.SetKeys
import HandS.FStr
import HandS.DictComp
import HandS.More
import HandS.RaiseMore
import PyProof.Rows.StrSplitAre
import HandS.Style
import PyProof.FitsReplace
import PyProof.StrLawsRepr
import PySem.Challenge.RW_stackquotes_k03_whole_vocabulary_texts
set_option Elab.async false
set_option linter.all false
set_option maxRecDepth 100000
set_option maxHeartbeats 4000000
/-! Promises of defs that ask for a repr: they hold where no repr is under way (no guard on the stack). -/
namespace SQ
open PySem PySem.Spec PyProof.Rows L2

/-- what a def keeps when it is called where nothing guards -/
structure FnG (P : Program) (w : World) (K : PySem.W.Frag) (mg : Str → Option Value)
    (base : Heap) (CX : CXT) (k : Nat) (f : Addr) (fd : FuncData) (ps : List Str) (sp : Sp) : Prop where
  len : ∀ vs H Q E, sp vs H Q E → vs.length = ps.length
  go : ∀ (A : Around), A.guards = some [] → ∀ (outer : List Env) (s : Shared) (H : Hp)
    (args : Args) (us : List Value) (vs : List V) (Q : VK) (E : XK), Room k A →
    Env0 P w K mg base A outer s H → BindsTo s fd args (ps.zip us) → Vals vs us →
    sp vs H Q E → codeAny (model P w) A (.call (.ref f) args) (CR CX outer P w H s Q E) s
theorem FnG.of {P : Program} {w : World} {K : PySem.W.Frag} {mg : Str → Option Value} {base : Heap} {CX : CXT} {k : Nat} {f : Addr}
    {fd : FuncData} {ps : List Str} {sp : Sp} (F : FnOk P w K mg base CX k f fd ps sp) : FnG P w K mg base CX k f fd ps sp :=
  ⟨F.len, fun A _ outer s H args us vs Q E => F.run A outer s H args us vs Q E⟩

theorem deeper_guards {A : Around} {e : Env} (h : A.guards = some []) : (A.deeper e).guards = some [] := by
  first
    | exact h
    | (unfold Around.deeper; exact h)
    | simpa [Around.deeper] using h

section
variable {P : Program} {w : World} {K : PySem.W.Frag} {mg : Str → Option Value} {base : Heap}
/-- a def of the text, by its body: nothing leaves it as an error -/
theorem okG {x qual : Str} {st : Stmt} {f : Addr} {fd : FuncData} {N ps : List Str} {k : Nat} {sp : Sp}
    (F : Fun K x qual st f fd) (S : FnScope N ps (defScope st))
    (len : ∀ vs H Q E, sp vs H Q E → vs.length = ps.length)
    (hb : ∀ (cdv : Value) (A : Around) (outer : List Env) (s : Shared) (H : Hp) (vs : List V) (Q : VK) (E : XK),
      (A.deeper (envOfC qual (defScope st) s.heap.objs.size f cdv)).guards = some [] →
      Room k (A.deeper (envOfC qual (defScope st) s.heap.objs.size f cdv)) → sp vs H Q E →
      ∃ t, PSs (cxOf CX0 P w K mg base N qual (defScope st) f cdv A outer s H E).nox (defBody st) t ∧
        t { nx := fun _ H' => Q .non H', rt := Q } (start N vs) H) :
    FnG P w K mg base CX0 (k + 1) f fd ps sp := by
  obtain ⟨oc, od, kV, doc, pm, an, cdv, ct, osl, rfl, lk, hcd⟩ := F.ex
  refine ⟨len, fun A hgd outer s H args us vs Q E hroom en bnd rel hsp => ?_⟩
  have nargs := len _ _ _ _ hsp
  have old : ∀ b o, base.get? b = some o → s.heap.get? b = some o := fun b o q => (en.bs b o q).1
  have kin := en.mod.kin.keeps old
  have nol := en.mod.nolimit.keeps old
  have kinds : ∀ y ∈ ps.zip us, (defScope st).names.lookup y.1 = some .local ∨
      ((defScope st).names.lookup y.1 = some .cell ∧
        ((cellsFrom (s.heap.objs.size + 1) (defScope st).names []).lookup y.1).isSome = true) := by
    rintro ⟨n, v⟩ hy
    rcases S.par n (List.of_mem_zip hy).1 with q | q
    · exact Or.inl q
    · exact Or.inr ⟨q, PySem.W.cellsFrom_some _ _ _ (Or.inl q)⟩
  refine codeAny_call_function hroom.depth (kin _ _ lk) rfl S.co S.gen rfl
    (PySem.W.codeRec_of kin hcd) (bnd _ _ _ _ ?_)
  refine wpAny_newFunctionEnv_cells S.kind kinds ?_
  intro env he s1 ic
  subst he
  refine ⟨nol.keeps ic.toInCall.keep, codeAny_func ?_⟩
  obtain ⟨t, ht, hq⟩ := hb cdv A outer s H vs Q E (deeper_guards hgd) (hroom.deeper _) hsp
  have inv := inv_start (CX := CX0) (E := E) S hroom.hd en nargs rel ic
  refine wpAny_mono (ht.nox.run [] s1 (start N vs) H _ inv hq) ?_ fun e s' hs => hs
  intro fl s' hs
  cases fl with
  | ret u =>
    obtain ⟨v, σ', H', J, rv, q⟩ := hs
    exact ⟨v, H', J.os, J.bare, J.base, J.hok, rv, q⟩
  | next =>
    obtain ⟨σ', H', J, q⟩ := hs
    exact ⟨V.non, H', J.os, J.bare, J.base, J.hok, rfl, q⟩
  | brk =>
    obtain ⟨_, _, _, q⟩ := hs
    exact q.elim
  | cont =>
    obtain ⟨_, _, _, q⟩ := hs
    exact q.elim
end

section
variable {X : Cx} {CX : CXT} {k : Nat} {f : Addr} {fd : FuncData} {ps : List Str} {sp : Sp} {E : XK}
  {x : Str} {p pos : Pos} {e : Expr} {es : List Expr} {t : TA}
/-- f(e, ..), f such a def -/
theorem pe_callG (F : FnG X.prog X.w X.K X.mg X.base CX k f fd ps sp) (hgd : X.A.guards = some []) (hr : Room k X.A)
    (hg : Gl X x) (hm : X.mg x = some (.ref f)) (hk : PySem.W.keepIn X.K (.ref f) = true) (hb : Binds X.K fd ps [])
    (hx : Passes CX X E) (ha : PA X (e :: es) t) (hdb : (x == ("__debug__" : Str)) = false := by decide)
    (he : starEach (e :: es) X.env = (false, eval e X.env) :: starEach es X.env := by rfl)
    (hpl : (backTo pos (starEach es X.env)).any (·.1) = false := by rfl) :
    PE X (.Call (.Name x p) (e :: es) [] pos) (tCall sp [] E t) := by
  constructor
  intro pins s σ H Q I h
  refine wpAny_Call_Name_kw (ld_glob I hg hm ?_ hdb)
  refine PySem.W.callWith_K (h₀ := X.base) I.ok.mod.kin hk (thn (ha.run pos pins s σ H _ I h) ?_) he hpl
  intro us s1 ⟨vs, H1, I1, r, q⟩
  refine ⟨I1.kIn, ?_⟩
  have r2 : Vals (vs ++ []) (us ++ []) := r.append .nil
  have hl : (us ++ []).length = ps.length := by
    rw [← r2.length]
    exact F.len _ _ _ _ q
  show wpAny _ _ (call (.ref f) us) _ _ _
  refine wpAny_call (codeAny_mono (F.go X.A hgd X.stack s1 H1 ⟨us, []⟩ (us ++ []) (vs ++ []) Q E hr I1.env0
    (hb s1 us I1.kIn hl) r2 q) ?_)
  intro r s' hq
  rcases r with er | (_ | _ | _ | u)
  · exact hx pins σ H1 s1 er s' I1 hq
  · exact hq.elim
  · exact hq.elim
  · exact hq.elim
  · exact I1.after hq
end

/-- the law's call, by such a promise -/
theorem lawG {P : Program} {w : World} {K : PySem.W.Frag} {mg mb : Str → Option Value} {CX : CXT} {k : Nat} {fa a : Addr}
    {fd : FuncData} {x : Str} {sp : Sp} {s₁ : Shared} {vs : List Value} {ns : List Int}
    (KX : K.In s₁.heap) (hns : s₁.heap.Ns mainGlobals mg) (hb : s₁.heap.Ns builtinsNs mb)
    (hbb : ∀ x : Str, x ≠ "__name__" → mb x = bootBuiltins x) (hlim : s₁.heap.NoLimit) (hg : s₁.gens = #[])
    (ha : s₁.heap.get? a = some { cls := .type "list", data := .seq vs.toArray }) (hi : IntsAre vs ns)
    (hl : ns.length ≤ sizeLine) (hr : Room k callerA)
    (F : ∀ base : Heap, K.In base → base.Ns mainGlobals mg → FnG P w K mg base CX k fa fd [x] sp)
    (hbind : ∀ (s : Shared) (u : Value), BindsTo s fd ⟨[u], []⟩ [(x, u)])
    (hsp : ∀ H : Hp, Only H → SqL K H a (ns.map V.int) → sp [.ref a] H (fun v _ => v = .bl true) fun _ _ _ => False)
    (hCX : ∀ H e s', CX [] H s₁ (fun _ _ _ => False) e s' → False) :
    codeAny (model P w) callerA (.call (.ref fa) ⟨[.ref a], []⟩)
      (fun r s' => r = .ok (.ret (.bool true)) ∧ OldK s₁.heap s'.heap ∧ s'.os = s₁.os ∧ AllBare s'.gens) s₁ := by
  have rv := vals_ints hi
  have key : ∀ H : Hp, Only H → SqL K H a (ns.map V.int) → HOk P w H s₁.heap → (∀ b, H b ≠ none → b = a) →
      (H a ≠ none → K.lookup a = none) →
      codeAny (model P w) callerA (.call (.ref fa) ⟨[.ref a], []⟩)
        (fun r s' => r = .ok (.ret (.bool true)) ∧ OldK s₁.heap s'.heap ∧ s'.os = s₁.os ∧ AllBare s'.gens) s₁ := by
    intro H hO hS hok hA hK
    have only : ∀ {b : Addr} {u : HO}, H b = some u → b = a := fun {b u} q => hA b (by rw [q]; exact fun z => nomatch z)
    have free : ∀ {b : Addr} {o : Obj} {es : Array DictEntry} {ep : Nat}, s₁.heap.get? b = some o → o.data = .dict es ep → H b = none := by
      intro b o es ep q d
      cases z : H b with
      | none => rfl
      | some u =>
        have e' := only z
        subst e'
        rw [ha] at q
        cases q
        cases (show Data.seq vs.toArray _ = Data.dict es ep from d)
    have nsB : ∀ {b : Addr} {m : Str → Option Value}, s₁.heap.Ns b m → (hidT s₁.heap H).Ns b m := by
      rintro b m ⟨o, es, ep, q, d, r⟩
      exact ⟨o, es, ep, hidT_get q (free q d), d, r⟩
    have kB : K.In (hidT s₁.heap H) := by
      intro b o q
      refine hidT_get (KX b o q) ?_
      cases z : H b with
      | none => rfl
      | some u =>
        have e' := only z
        subst e'
        rw [hK (by rw [z]; exact fun y => nomatch y)] at q
        cases q
    have md : Mod K mg (hidT s₁.heap H) := by
      refine ⟨kB, nsB hns, ⟨mb, nsB hb, hbb⟩, ?_⟩
      obtain ⟨mc, h1, h2⟩ := hlim
      exact ⟨mc, nsB h1, h2⟩
    have en : Env0 P w K mg (hidT s₁.heap H) callerA [] s₁ H := {
      frames := rfl
      mod := md
      bs := fun b o q => of_hidT q
      bsz := Nat.le_of_eq (hidT_size _ _)
      funs := trivial
      frf := fun b hb => absurd (show b ∈ ([] : List Addr) from hb) (by simp)
      hok := hok
      bare := .of_eq hg }
    refine codeAny_mono ((F _ kB (nsB hns)).go callerA rfl [] s₁ H ⟨[.ref a], []⟩ [.ref a] [.ref a] _ _ hr en
      (hbind s₁ (.ref a)) (.cons rfl .nil) (hsp H hO hS)) ?_
    intro r s' h
    rcases r with er | (_ | _ | _ | u)
    · exact (hCX H er s' h).elim
    · exact h.elim
    · exact h.elim
    · exact h.elim
    · obtain ⟨v, H', os, bare, un, hok', r', q⟩ := h
      have q' : v = .bl true := q
      subst q'
      obtain rfl : u = Value.bool true := r'
      refine ⟨rfl, OldK.of_keep ?_, os, bare⟩
      intro b o q
      cases z : H b with
      | none => exact un.keep b o q z (fun y => absurd (show b ∈ ([] : List Addr) from y) (by simp)) (by simp)
      | some u =>
        rcases hO b with y | ⟨ob, xs, y⟩
        · rw [z] at y
          cases y
        · obtain ⟨e1, _⟩ := hok b _ y
          obtain ⟨e2, _⟩ := hok' b _ (un.frzs b ob _ y)
          rw [q] at e1
          cases e1
          exact e2
  cases hk : K.lookup a with
  | some o =>
    have q := KX a o hk
    rw [ha] at q
    cases q
    refine key (fun _ => none) (fun _ => .inl rfl) (.inr ⟨_, vs.toArray, _, hk, rfl, rfl, rfl, ?_, by simpa using rv⟩) ?_ (fun b z => absurd rfl z) fun z => absurd rfl z
    · rw [List.size_toArray, hi.length]
      exact hl
    · intro b u z
      cases (show (none : Option HO) = some u from z)
  | none =>
    let o0 : Obj := { cls := .type "list", data := .seq vs.toArray }
    let H0 : Hp := upd (fun _ => none) a (.frz o0 (.lst (ns.map V.int)))
    have h0 : ∀ b u, H0 b = some u → b = a ∧ u = .frz o0 (.lst (ns.map V.int)) := by
      intro b u z
      by_cases hb : b = a
      · subst hb
        refine ⟨rfl, ?_⟩
        rw [show H0 b = _ from upd_same] at z
        exact (Option.some.inj z).symm
      · rw [show H0 b = _ from upd_ne hb] at z
        cases z
    refine key H0 (fun b => ?_) (.inl (.inr ⟨o0, upd_same⟩)) (fun b u z => ?_) (fun b z => ?_) fun _ => hk
    · by_cases hb : b = a
      · subst hb
        exact .inr ⟨_, _, upd_same⟩
      · exact .inl (upd_ne hb)
    · obtain ⟨rfl, rfl⟩ := h0 b u z
      exact ⟨ha, by rw [List.length_map]; exact hl, vs, _, rv, ha⟩
    · cases q : H0 b with
      | none => exact absurd q z
      | some u => exact (h0 b u q).1
/-- the goal that the head leaves -/
theorem walkG {l : PySem.W.OpenLaw} {n k : Nat} {q : Program} {loose : List Str} {XP : (Str → Option Value) → Heap → Prop}
    {YP : World → Heap → Prop} {d : DefRec} {K : Params → PySem.W.Frag} {CX : CXT} {sp : PySem.W.Frag → Sp} {x : Str}
    (hn : l.most = some n) (hn2 : n ≤ sizeLine) (hdf : d.params.defaults = []) (hr : Room k callerA)
    (hY : ∀ (w : World) (h : Heap), YP w h → (K w.params).In h)
    (F : ∀ (w : World) (mg : Str → Option Value) (fa : Addr) (h : Heap), (K w.params).In h → h.Ns mainGlobals mg →
      mg d.name = some (.ref fa) → ∃ fd : FuncData, (∀ (s : Shared) (u : Value), BindsTo s fd ⟨[u], []⟩ [(x, u)]) ∧
        ∀ base : Heap, (K w.params).In base → base.Ns mainGlobals mg →
          FnG l.prog w (K w.params) mg base CX k fa fd [x] (sp (K w.params)))
    (hsp : ∀ (K : PySem.W.Frag) (H : Hp) (a : Addr) (ns : List Int), ns.length ≤ n → Only H → SqL K H a (ns.map V.int) →
      sp K [.ref a] H (fun v _ => v = .bl true) fun _ _ _ => False)
    (hCX : ∀ (H : Hp) (s : Shared) (e : Value) (s' : Shared), CX [] H s (fun _ _ _ => False) e s' → False) :
    PySem.W.WalkO q loose XP YP l.row.toRowW d [] (fun f vs => PySem.call f vs) := by
  refine Att.attach_call hn hdf ?_
  intro w s₀ s₁ mg mb fa o pm cd doc a vs ns G Y ho hd hcd hmg hobj hints hlen hg
  have KX := hY w _ Y
  obtain ⟨fd, hb, hF⟩ := F w mg fa _ KX G.T.g hmg
  exact lawG KX G.T.g G.T.b G.T.builtins G.T.nolimit hg hobj hints (Nat.le_trans hlen hn2) hr hF hb
    (fun H hO hS => hsp _ H a ns hlen hO hS) fun H e s' => hCX H s₁ e s'
end SQ
/-! repr of a list of data. -/
namespace SQ
open PySem PySem.Spec PyProof.Rows L2

mutual
theorem dp_plain {K : PySem.W.Frag} {H : Hp} : ∀ (d : PyData) (v : V), Dp K H v d → d.hasDict = false
  | .none, _, _ => by simp only [PyData.hasDict]
  | .bool _, _, _ => by simp only [PyData.hasDict]
  | .int _, _, _ => by simp only [PyData.hasDict]
  | .str _, _, _ => by simp only [PyData.hasDict]
  | .list ds, _, h => by
    cases h with
    | lst _ ha =>
      simp only [PyData.hasDict]
      exact dpAll_plain ds _ ha
  | .tuple ds, _, h => by
    cases h with
    | tup _ ha =>
      simp only [PyData.hasDict]
      exact dpAll_plain ds _ ha
  | .dict _, _, h => nomatch h
theorem dpAll_plain {K : PySem.W.Frag} {H : Hp} : ∀ (ds : List PyData) (vs : List V), DpAll K H vs ds → PyData.hasDictAll ds = false
  | [], _, _ => by simp only [PyData.hasDictAll]
  | d :: ds, _, h => by
    cases h with
    | cons h1 h2 =>
      simp only [PyData.hasDictAll, dp_plain d _ h1, dpAll_plain ds _ h2, Bool.or_false]
end

/-- None, a bool, an int, a text, an empty dict -/
inductive Flat (H : Hp) : V → PyData → Prop
  | non : Flat H .non .none
  | bl (b : Bool) : Flat H (.bl b) (.bool b)
  | int (i : Int) : Flat H (.int i) (.int i)
  | str (x : Str) : Flat H (.str x) (.str x)
  | dic {a : Addr} (h : H a = some (.dK [])) : Flat H (.ref a) (.dict [])
inductive FlatAll (H : Hp) : List V → List PyData → Prop
  | nil : FlatAll H [] []
  | cons {v : V} {vs : List V} {d : PyData} {ds : List PyData} : Flat H v d → FlatAll H vs ds → FlatAll H (v :: vs) (d :: ds)

section
variable {X : Cx} {pins : List (Addr × Obj)} {σ : L2.St} {H : Hp} {s : Shared}
theorem flat_reads (I : Inv X pins σ H s) {d : PyData} {v : V} {u : Value} (h : Flat H v d) (r : RelV v u) :
    ∃ as, Reads s.heap u d as ∧ sysModules ∉ as := by
  cases h with
  | non =>
    obtain rfl : u = Value.none := r
    exact ⟨_, Reads.none, by simp⟩
  | bl b =>
    obtain rfl : u = Value.bool b := r
    exact ⟨_, Reads.bool b, by simp⟩
  | int i =>
    obtain ⟨t, rfl⟩ := r
    exact ⟨_, Reads.int i t, by simp⟩
  | str x =>
    obtain ⟨t, rfl⟩ := r
    exact ⟨_, Reads.str x t, by simp⟩
  | @dic a ha =>
    obtain rfl : u = Value.ref a := r
    obtain ⟨_, na, vs, kv, o, es, ep, h1, h2, h3, h4⟩ := (show ObjOk X.prog X.w H s.heap a (.dK []) from I.hok a _ ha)
    cases kv
    have he : es.toList = [] := by
      have h5 := h4.2.1
      generalize es.toList = l at h5
      cases h5
      rfl
    refine ⟨a :: [] ++ [], Reads.dict (kvs := []) h1 h2.1 h3 (by rw [he]; exact .nil) (by rw [he]; exact .nil), ?_⟩
    intro hm
    have e : sysModules = a := by simpa using hm
    rw [← e] at na
    exact absurd na (by decide)
theorem flatAll_reads (I : Inv X pins σ H s) : ∀ {ds : List PyData} {vs : List V} {us : List Value}, FlatAll H vs ds → Vals vs us →
    ∃ as, ReadsAll s.heap us ds as ∧ sysModules ∉ as
  | _, _, _, .nil, .nil => ⟨[], .nil, by simp⟩
  | _, _, _, .cons h hs, .cons r rs => by
    obtain ⟨as, a1, a2⟩ := flat_reads I h r
    obtain ⟨bs, b1, b2⟩ := flatAll_reads I hs rs
    exact ⟨_, .cons a1 b1, fun hm => (List.mem_append.mp hm).elim a2 b2⟩
end

/-- repr of a list, its items ds -/
def rReprL (K : PySem.W.Frag) : List V → Hp → VK → Prop := fun xs H Q => ∃ (a : Addr) (vs : List V) (ds : List PyData), xs = [.ref a] ∧ SqL K H a vs ∧
  (DpAll K H vs ds ∨ FlatAll H vs ds) ∧ (PyData.list ds).showable = true ∧ (PyData.list ds).depth ≤ 60 ∧ (PyData.list ds).shown.length ≤ sizeLine ∧ Q (.str (PyData.list ds).shown) H
theorem cr_reprL {X : Cx} (hg : X.A.guards = some []) (hu : X.A.units + 64 < cLine) : CallR X (.builtin "repr") (rReprL X.K) := by
  intro pins s σ H xs us Q I r h
  obtain ⟨a, vs, ds, rfl, hL, hd, hs, hdp, hz, q⟩ := h
  obtain ⟨its, rv, ⟨o, n, e, c, _, dt⟩, _⟩ := I.list hL
  rw [Vals.ref1 r]
  have fin : ∀ (h' : Heap) (u tk : Nat), (∀ b o, s.heap.get? b = some o → h'.get? b = some o) → EP X pins σ Q (.str (PyData.list ds).shown u) { s with heap := h', toks := tk } :=
    fun h' u tk hk => ⟨.str _, H, I.kept hk, ⟨u, rfl⟩, q⟩
  rcases hd with hd | hd
  · obtain ⟨as, rd⟩ := Dp.reads I (.list ds) (.ref a) (.ref a) (.lst hL hd) rfl
    exact repr_of_reads' (h₀ := s.heap) rd hs (PyData.noDict_hsm (dp_plain _ _ (Dp.lst hL hd))) hg (by omega) (fun _ _ z => z) fin hz
  · obtain ⟨as, h4, hno⟩ := flatAll_reads I hd rv
    have hz' : (listText (PyData.shownAll ds)).length ≤ sizeLine := by simpa only [PyData.shown] using hz
    have hs' : PyData.showableAll ds = true := by simpa [PyData.showable] using hs
    obtain ⟨bs, hb, hk⟩ := ReprAllK.of_readsAll (prog := X.prog) (w := X.w) h4 hs' (fun _ => hno) (fun t ht => Nat.le_trans (listText_mem_le ht) hz')
    have whole : Reads s.heap (.ref a) (.list ds) (a :: as) := .list (vs := its.toArray) e c dt (by simpa using h4)
    have hna : a ∉ bs := not_mem_of_deeper whole (by simp only [PyData.depth]; omega) hb
    refine call_repr_slot (by omega) ⟨o, e, c⟩ F.slot_list_repr.toG ?_
    simp only [PyData.depth] at hdp
    have fin' : ∀ (h' : Heap) (u tk : Nat), (∀ b o, s.heap.get? b = some o → h'.get? b = some o) →
        (∃ x t, Value.str (listText (PyData.shownAll ds)) u = .str x t ∧ EP X pins σ Q (.str (listText (PyData.shownAll ds)) u) { s with heap := h', toks := tk }) :=
      fun h' u tk z => ⟨_, _, rfl, by have := fin h' u tk z; simpa only [PyData.shown] using this⟩
    cases its with
    | nil =>
      cases h4
      simp only [PyData.shownAll, listText_nil] at fin'
      exact call_list_repr_empty ⟨o, e, c⟩ e dt (fin' s.heap _ _ fun _ _ z => z)
    | cons y l =>
      exact call_list_reprK (h₀ := s.heap) e c dt hna (by simpa using hk.length_eq) (fun i y e => hk.item i y (by simpa using e)) hg (fun b _ => Clear.nil b)
        (by show X.A.units + 1 + (PyData.depthAll ds + 1) < cLine; omega) (fun _ _ z => z) fin' hz'
end SQ
/-! Own exceptions over any of the built-in bases, made as values (by position, by keyword, without arguments), read, and asked for their class. -/
namespace SQ
open PySem PySem.Spec PyProof.Rows L2
open PySem.W (Looks)
section
variable {prog : Program} {w : World} {A : Around} {E : Value → Shared → Prop} {R : Result → Shared → Prop}
  {h : Heap} {g : Array GenState} {d : Drawn} {t : Nat} {os : OsState}
  {nm q : Str} {C N : Addr} {bs bm bmB : List Value} {hdct : Bool} {sn : List Str} {sub : List Value} {ab : Bool}
  {col : Option Bool} {dd : Option Addr} {k0 k1 k2 k3 k5 : Option Value} {B newId initId : String} {kw : List (Str × Value)}

theorem chk_new (FB : ExcBaseFacts B newId initId bmB) (hT : ∀ X : String, bm.contains (.type X) = bmB.contains (.type X))
    {rest : List Value} {Q : Unit → Shared → Prop}
    (hC : h.get? C = some (excClassObj nm q C N bs bm hdct sn sub ab col dd k0 k1 k2 k3 k5 newId))
    (hq : Q () ⟨h, g, d, t, os⟩) :
    wpAny (model prog w) A (checkBuiltinCall newId ⟨.ref C :: rest, kw⟩) Q E ⟨h, g, d, t, os⟩ := by
  have inB : (Value.ref C :: bm).contains (.type B) = true := by
    rw [List.contains_cons, hT, FB.hasB, Bool.or_true]
  have nostar := FB.noStar
  simp only [checkBuiltinCall, FB.newKind, FB.newSplit, FB.newRow]
  repeat (first
    | refine wpAny_loadPart_at hC ?_
    | (refine wpAny_isSubtype_exc hC ?_; rw [inB])
    | refine wpAny_staticBase_exc hC ?_
    | refine wpAny_madeBy_exc hC ?_
    | simp only [bne_self_eq_false, Bool.false_eq_true, if_false]
    | wp_step)
  exact hq
theorem run_new (FB : ExcBaseFacts B newId initId bmB) (hT : ∀ X : String, bm.contains (.type X) = bmB.contains (.type X))
    {rest : List Value} (hC : h.get? C = some (excClassObj nm q C N bs bm hdct sn sub ab col dd k0 k1 k2 k3 k5 newId))
    (hrest : rest.length ≤ sizeLine)
    (hq : R (.ok (.ret (.ref (h.objs.size + 1)))) ⟨(h.push (PySem.W.kdv_tup rest)).push (PySem.HandSPX.excO C h.objs.size), g, d, t, os⟩) :
    codeAny (model prog w) A (.builtin newId ⟨.ref C :: rest, kw⟩) R ⟨h, g, d, t, os⟩ := by
  have en := FB.ends
  have inB : (Value.ref C :: bm).contains (.type B) = true := by
    rw [List.contains_cons, hT, FB.hasB, Bool.or_true]
  have inA : (Value.ref C :: bm).contains (.type "AttributeError") = false := by
    rw [List.contains_cons, hT, FB.noAttr]
    rfl
  have inN : (Value.ref C :: bm).contains (.type "NameError") = false := by
    rw [List.contains_cons, hT, FB.noName]
    rfl
  refine codeAny_builtinAt FB.entry ?_
  unfold Builtin.«BaseException.__new__»
  refine PySem.wpAt_bind ?_
  show PySem.wpAt _ _ _ (stack >>= _) _ _ _
  refine PySem.wpAt_bind (PySem.wpAt_stack fun p below => PySem.wpAt_of_wpAny ?_)
  wp_walk
  refine PySem.wpAt_of_wpAny ?_
  rw [FB.owner]
  repeat (first
    | with_reducible refine wpAny_madeHere_exc FB.canon hC ?_
    | with_reducible refine wpAny_loadPart_at hC ?_
    | (with_reducible refine wpAny_isSubtype_exc hC ?_; first | rw [inB] | rw [inA] | rw [inN])
    | wp_step)
  show R _ _
  rw [Heap.size_push]
  exact hq
theorem run_tcall (FB : ExcBaseFacts B newId initId bmB) (hT : ∀ X : String, bm.contains (.type X) = bmB.contains (.type X))
    {rest : List Value} {fI : Addr} {Q : Fin → Shared → Prop}
    (hC : h.get? C = some (excClassObj nm q C N bs bm hdct sn sub ab col dd k0 k1 k2 k3 k5 newId))
    (hi : Looks (model prog w) h (typeLookup (.ref C) "__init__") (some (.ref fI)))
    (hb : ∀ self, Looks (model prog w) h (bindSpecial (.ref fI) self) (.ref fI, [self])) (hrest : rest.length ≤ sizeLine)
    (hq : codeAny (model prog w) A (.call (.ref fI) ⟨.ref (h.objs.size + 1) :: rest, kw⟩)
      (fun r s' => match r with
        | .ok (.ret v) => v = .none ∧ Q (.done (.ret (.ref (h.objs.size + 1)))) s'
        | .ok _ => False
        | .error e => E e s')
      ⟨(h.push (PySem.W.kdv_tup rest)).push (PySem.HandSPX.excO C h.objs.size), g, d, t, os⟩) :
    wpAny (model prog w) A (Builtin.«type.__call__» ⟨.ref C :: rest, kw⟩) Q E ⟨h, g, d, t, os⟩ := by
  repeat (first
    | with_reducible refine wpAny_loadPart_at hC ?_
    | with_reducible refine wpAny_madeBy_exc hC ?_
    | wp_step)
  refine codeAny_call_builtin_code (Code.quiet_builtin _ FB.quiet) (chk_new FB hT hC ?_)
  refine run_new FB hT hC hrest ?_
  show wpAny _ _ _ _ _ _
  have keep : ∀ b o, h.get? b = some o → ((h.push (PySem.W.kdv_tup rest)).push (PySem.HandSPX.excO C h.objs.size)).get? b = some o :=
    fun b o e => Heap.get?_push_of_some _ (Heap.get?_push_of_some _ e)
  have hC1 := keep _ _ hC
  have got : ((h.push (PySem.W.kdv_tup rest)).push (PySem.HandSPX.excO C h.objs.size)).get? (h.objs.size + 1) = some (PySem.HandSPX.excO C h.objs.size) := by heap_get
  have inC : (Value.ref C :: bm).contains (.ref C) = true := by simp
  have i1 := hi.keeps keep
  have b1 := (hb (.ref (h.objs.size + 1))).keeps keep
  unfold isInstance
  repeat (first
    | with_reducible refine wpAny_loadPart_at got ?_
    | (with_reducible refine wpAny_isSubtype_exc hC1 ?_; rw [inC])
    | wp_step)
  show wpAny _ _ (typeLookup (.ref C) _) _ _ _
  refine i1.at ?_
  refine wpAny_holding (wpAny_bind (b1.at ?_))
  refine wpAny_bind (wpAny_call (codeAny_mono hq fun r s' z => ?_))
  rcases r with e | (_ | _ | _ | v) <;> first | exact z | exact z.elim | skip
  obtain ⟨rfl, z⟩ := z
  first
    | exact wpAny_pure (wpAny_pure z)
    | (wp_walk; exact z)
theorem run_ccall (FB : ExcBaseFacts B newId initId bmB) (hT : ∀ X : String, bm.contains (.type X) = bmB.contains (.type X))
    {rest : List Value} {fI : Addr}
    (hC : h.get? C = some (excClassObj nm q C N bs bm hdct sn sub ab col dd k0 k1 k2 k3 k5 newId))
    (hi : Looks (model prog w) h (typeLookup (.ref C) "__init__") (some (.ref fI)))
    (hb : ∀ self, Looks (model prog w) h (bindSpecial (.ref fI) self) (.ref fI, [self])) (hrest : rest.length ≤ sizeLine)
    (hq : codeAny (model prog w) (A.under (.builtin "type.__call__" ⟨.ref C :: rest, kw⟩)) (.call (.ref fI) ⟨.ref (h.objs.size + 1) :: rest, kw⟩)
      (PySem.W.InitBack (h.objs.size + 1) R)
      ⟨(h.push (PySem.W.kdv_tup rest)).push (PySem.HandSPX.excO C h.objs.size), g, d, t, os⟩) :
    codeAny (model prog w) A (.call (.ref C) ⟨rest, kw⟩) R ⟨h, g, d, t, os⟩ := by
  have f1 := tc_lookup
  have f2 := tc_bind (.ref C)
  have hTy : (⟨h, g, d, t, os⟩ : Shared).TypeIs (.ref C) "type" := ⟨_, hC, rfl⟩
  refine codeAny_of_tree ?_
  show wpAny _ _ (callAny (.ref C) _) _ _ _
  repeat (any_goals (first | assumption | with_reducible refine wpAny_loadPart_at hC ?_ | wp_step))
  refine ⟨rfl, ?_⟩
  refine codeAny_call_builtin_at (Code.quiet_builtin _ (by decide +kernel)) entry_typeCall (wpAny_check_type_call_sub hC (run_tcall FB hT hC hi hb hrest ?_))
  refine codeAny_mono hq fun r s' z => ?_
  rcases r with e | (_ | _ | _ | v) <;> exact z
end
end SQ
namespace SQ
open PySem PySem.Spec PyProof.Rows L2

/-! ### what the written part says of an error's class -/
/-- the text of «def __init__(self, f): self.f = f» -/
def iArgs (f : Str) (p1 p2 : Pos) : Arguments := { posonlyargs := [], args := [{ arg := "self", annotation := none, pos := p1 }, { arg := f, annotation := none, pos := p2 }], vararg := none, kwonlyargs := [], kw_defaults := [], kwarg := none, defaults := [] }
def iBody (f : Str) (q1 q2 q3 q4 : Pos) : List Stmt := [.Assign [.Attribute (.Name "self" q1) f q2] (.Name f q3) q4]
def iScope (f : Str) : Scope := { kind := .function, names := [(PySem.Str.ofString "self", .local), (f, .local)], isGenerator := false, isCoroutine := false, more := [] }
/-- a built-in base: its name, its makers, its mro -/
structure BaseB (B newId initId : String) (bmB : List Value) : Prop where
  fb : ExcBaseFacts B newId initId bmB
  sf : StoreFacts B bmB "object.__setattr__" "object"
theorem bValue : BaseB "ValueError" "ValueError.__new__" "ValueError.__init__" [.type "ValueError", .type "Exception", .type "BaseException", .type "object"] := ⟨F.excBase_ValueError, F.store_ValueError⟩
theorem bType : BaseB "TypeError" "TypeError.__new__" "TypeError.__init__" [.type "TypeError", .type "Exception", .type "BaseException", .type "object"] := ⟨F.excBase_TypeError, F.store_TypeError⟩
theorem bLookup : BaseB "LookupError" "LookupError.__new__" "LookupError.__init__" [.type "LookupError", .type "Exception", .type "BaseException", .type "object"] := ⟨F.excBase_LookupError, F.store_LookupError⟩
theorem bArith : BaseB "ArithmeticError" "ArithmeticError.__new__" "ArithmeticError.__init__" [.type "ArithmeticError", .type "Exception", .type "BaseException", .type "object"] := ⟨F.excBase_ArithmeticError, F.store_ArithmeticError⟩

/-- the facts that one check finds (a class at C; its field f) -/
def errOk (K : PySem.W.Frag) (C : Addr) (f : Str) (bmB : List Value) (newId : String) : Bool :=
  PySem.W.excInitIn K C bmB newId && PySem.W.excOver K C bmB && PySem.W.hasDictIn K C && PySem.W.keepIn K (.ref C) &&
  (PySem.W.findIn K (.ref C) "__setattr__" == some (some (.builtin "object.__setattr__"))) &&
  (PySem.W.findIn K (.ref C) "__getattribute__" == some (some (.builtin "BaseException.__getattribute__"))) &&
  (PySem.W.findIn K (.ref C) "__getattr__" == some none) && (PySem.W.findIn K (.ref C) f == some none) &&
  (PySem.W.subIn K (.ref C) (.type "BaseException") == some true) && (PySem.W.clsIn K C).isSome &&
  (PySem.W.findIn K (.ref C) "__class__" == some (some (.builtin "object.__class__"))) && (PySem.W.mroIn K C (.type "object") == some true)
structure ErrC (K : PySem.W.Frag) (C : Addr) (f : Str) (bmB : List Value) (newId : String) : Prop where
  ini : PySem.W.excInitIn K C bmB newId = true
  ov : PySem.W.excOver K C bmB = true
  hd : PySem.W.hasDictIn K C = true
  kp : PySem.W.keepIn K (.ref C) = true
  sa : PySem.W.findIn K (.ref C) "__setattr__" = some (some (.builtin "object.__setattr__"))
  ga : PySem.W.findIn K (.ref C) "__getattribute__" = some (some (.builtin "BaseException.__getattribute__"))
  gg : PySem.W.findIn K (.ref C) "__getattr__" = some none
  no : PySem.W.findIn K (.ref C) f = some none
  ex : PySem.W.subIn K (.ref C) (.type "BaseException") = some true
  cl : (PySem.W.clsIn K C).isSome = true
  ca : PySem.W.findIn K (.ref C) "__class__" = some (some (.builtin "object.__class__"))
  ob : PySem.W.mroIn K C (.type "object") = some true
theorem ErrC.of {K : PySem.W.Frag} {C : Addr} {f : Str} {bmB : List Value} {newId : String} (h : errOk K C f bmB newId = true) : ErrC K C f bmB newId := by
  unfold errOk at h
  simp only [Bool.and_eq_true, beq_iff_eq] at h
  obtain ⟨⟨⟨⟨⟨⟨⟨⟨⟨⟨⟨h1, h2⟩, h3⟩, h4⟩, h5⟩, h6⟩, h7⟩, h8⟩, h9⟩, h10⟩, h11⟩, h12⟩ := h
  exact ⟨h1, h2, h3, h4, h5, h6, h7, h8, h9, h10, h11, h12⟩
/-- .. and of its __init__ -/
structure ErrI (K : PySem.W.Frag) (C fI : Addr) (f : Str) : Prop where
  at_ : PySem.W.findIn K (.ref C) "__init__" = some (some (.ref fI))
  ty : PySem.W.typeIn K (.ref fI) = some (.type "function")
  fn : ∃ (qual : Str) (oc : Value) (od : Option Addr) (doc pm : Value) (an : Option Addr) (cdv ct : Value) (osl : Array (Option Value)) (p1 p2 q1 q2 q3 q4 : Pos),
    K.lookup fI = some ⟨oc, od, .func (PySem.W.fnOf "__init__" qual (iArgs f p1 p2) (iBody f q1 q2 q3 q4) (iScope f) .none .none doc pm an cdv ct), osl⟩ ∧ PySem.W.codeIn K cdv qual = true
/-- the three fields -/
def Fld (f : Str) : Prop := f = "value" ∨ f = "index" ∨ f = "limit"

section
variable {prog : Program} {w : World} {A : Around} {E : Value → Shared → Prop} {R : Result → Shared → Prop} {hp : Heap} {g : Array GenState} {d : Drawn} {t : Nat} {os : OsState}
  {K : PySem.W.Frag} {B newId initId : String} {bmB : List Value} {C fI : Addr} {f : Str}
/-- self.f = v on an exception that has no dict yet -/
theorem store_first (SF : StoreFacts B bmB "object.__setattr__" "object") (T : ErrC K C f bmB newId) {x t0 : Addr} {tk : Tok} {v : Value} (X : K.In hp) (hx : hp.get? x = some (PySem.HandSPX.excO C t0))
    (hq : ∀ h' tk' dx, (∀ b o, b ≠ x → hp.get? b = some o → h'.get? b = some o) → hp.objs.size ≤ dx → dx ≠ x →
      h'.get? x = some { cls := .ref C, dict := some dx, data := .fields #[.ref t0, .none, .none, .none, .bool false, .none] } →
      h'.Ns1 dx (fun y => if y = f then some v else none) → R (.ok (.ret .none)) ⟨h', g, d, tk', os⟩) :
    codeAny (model prog w) A (.call (.builtin "object.__setattr__") ⟨[.ref x, .str f tk, v], []⟩) R ⟨hp, g, d, t, os⟩ := by
  have ht : PySem.W.takerIn K C f = some none := by
    unfold PySem.W.takerIn
    rw [T.no]
    rfl
  have ne : x ≠ hp.objs.size := Nat.ne_of_lt (Heap.lt_size hx)
  refine PySem.W.osa_openX (od := none) SF X ⟨hx, rfl, rfl, trivial⟩ T.ov ht fun b => ?_
  obtain ⟨cd, hc, hd'⟩ := PySem.W.any_some T.hd
  refine wpAny_bind (wpAny_pure (wpAny_bind (PySem.W.instanceDict_exc (c2 := .none) hx (PySem.W.looks_clsIn X hc) hd' ?_)))
  show wpAny _ _ (Builtin.ObjectAttr.storeInDict hp.objs.size (.str f tk) f v) _ _ _
  refine PySem.HandSPX.store_in_new ?_ ?_
  · exact ⟨_, #[], _, (Heap.get?_update_ne _ _ _ _ ne.symm).trans (Heap.get?_push_at rfl rfl), rfl, fun e he => absurd he (by simp), fun _ => rfl⟩
  · intro h' tk' hn' hs
    have hx1 : (hp.push { cls := .type "dict", data := .dict #[] }).get? x = some (PySem.HandSPX.excO C t0) := Heap.get?_push_of_some _ hx
    refine hq h' tk' hp.objs.size (fun b o hb ho => ?_) (Nat.le_refl _) ne.symm ?_ hn'
    · exact (hs.2 b (Nat.ne_of_lt (Heap.lt_size ho))).trans ((Heap.get?_update_ne _ _ _ _ hb).trans (Heap.get?_push_of_some _ ho))
    · exact (hs.2 x ne).trans (Heap.get?_update_self _ hx1 rfl)
end
/-- an error made: its object at e, its dict at dx, both new -/
structure Made (h h' : Heap) (e C dx : Addr) (f : Str) (v : Value) : Prop where
  keep : ∀ b o, h.get? b = some o → h'.get? b = some o
  new : h.objs.size ≤ e
  obj : ∃ t1 : Addr, h'.get? e = some ({ cls := .ref C, dict := some dx, data := .fields #[.ref t1, .none, .none, .none, .bool false, .none] } : Obj)
  dbig : h.objs.size ≤ dx
  dne : dx ≠ e
  ns : h'.Ns1 dx (fun y => if y = f then some v else none)
theorem ld_loc {M : Model} {s : Shared} {name : Str} {scope : Scope} {L a : Addr} {cd : Value} {m : Str → Option Value} {x : Str} {pos : Pos} {v : Value} {Q : Value → Shared → Prop} {A : Around} {E : Value → Shared → Prop} (hn : s.heap.Ns L m) (hv : m x = some v) (h : Q v s)
    (hk : scope.kind = .function := by rfl) (hl : (envOfC name scope L a cd).kindOf x = some .local := by rfl) (hd : (x == ("__debug__" : Str)) = false := by decide) :
    wpAny M A (eval (.Name x pos) (envOfC name scope L a cd)) Q E s := wpAny_Name (wpAny_loadName_local hk hl hn hv h) hd
section
variable {prog : Program} {w : World} {A : Around} {E : Value → Shared → Prop} {R : Result → Shared → Prop} {s : Shared}
  {K : PySem.W.Frag} {B newId initId : String} {bmB : List Value} {C fI : Addr} {f : Str}
/-- the run of __init__, the value coming by position or by keyword -/
theorem run_init (hf : Fld f) (SF : StoreFacts B bmB "object.__setattr__" "object") (T : ErrC K C f bmB newId) (J : ErrI K C fI f) {x t0 : Addr} {v : Value} {args : Args} (ha : args = ⟨[.ref x, v], []⟩ ∨ args = ⟨[.ref x], [(f, v)]⟩)
    (X : K.In s.heap) (hlim : s.heap.NoLimit) (hx : s.heap.get? x = some (PySem.HandSPX.excO C t0)) (hroom : A.depth < recursionLimit)
    (hq : ∀ h' tk dx, (∀ b o, b ≠ x → s.heap.get? b = some o → h'.get? b = some o) → s.heap.objs.size ≤ dx → dx ≠ x →
      h'.get? x = some { cls := .ref C, dict := some dx, data := .fields #[.ref t0, .none, .none, .none, .bool false, .none] } →
      h'.Ns1 dx (fun y => if y = f then some v else none) → R (.ok (.ret .none)) { s with heap := h', toks := tk }) :
    codeAny (model prog w) A (.call (.ref fI) args) R s := by
  obtain ⟨qual, oc, od, doc, pm, an, cdv, ct, osl, p1, p2, q1, q2, q3, q4, ho, hcd⟩ := J.fn
  have key : ∀ (bnd : BindsTo s (PySem.W.fnOf "__init__" qual (iArgs f p1 p2) (iBody f q1 q2 q3 q4) (iScope f) .none .none doc pm an cdv ct) args [("self", .ref x), (f, v)]), codeAny (model prog w) A (.call (.ref fI) args) R s := by
    intro bnd
    rcases hf with rfl | rfl | rfl
    all_goals
      refine Att.call_fn X hlim ho hcd hroom bnd (by first | rfl | decide | with_unfolding_all rfl) (fun s₁ IC => ?_) rfl rfl rfl
      obtain ⟨h₁, tk₁, rfl⟩ := IC.toInCall.same
      have k : ∀ b o, s.heap.get? b = some o → h₁.get? b = some o := IC.toInCall.keep
      have hn := IC.toInCall.ns
      have X₁ : K.In h₁ := X.keeps k
      have hx₁ := k _ _ hx
      show wpAny _ _ (execs _ _) _ _ _
      refine wpAny_execs_cons (plainObj_wpAny_Assign_Attribute ?_)
      refine ld_loc (v := v) hn (by first | rfl | with_unfolding_all rfl | kernel_rfl) (ld_loc (v := .ref x) hn (by first | rfl | with_unfolding_all rfl | kernel_rfl) ?_)
      refine PySem.W.set_plain X₁ (ox := PySem.HandSPX.excO C t0) (od := none) ⟨hx₁, rfl, rfl, trivial⟩ T.sa ?_
      refine store_first SF T X₁ hx₁ (fun h₃ tk₃ dx k₃ dn dne hx₃ hn₃ => ?_)
      show wpAny _ _ (execs _ _) _ _ _
      have z : s.heap.objs.size < h₁.objs.size := hn.lt
      exact wpAny_execs_nil (hq h₃ tk₃ dx (fun b o hb e => k₃ b o hb (k b o e)) (Nat.le_of_lt (Nat.lt_of_lt_of_le z dn)) dne hx₃ hn₃)
  refine key ?_
  rcases hf with rfl | rfl | rfl
  all_goals
    rcases ha with rfl | rfl
    · exact BindsTo.of_eq (by first | rfl | with_unfolding_all rfl | kernel_rfl)
    · exact BindsTo.of_eq (by first | rfl | with_unfolding_all rfl | kernel_rfl)
/-- C(v), C(f=v) -/
theorem run_made (hf : Fld f) (BB : BaseB B newId initId bmB) (T : ErrC K C f bmB newId) (J : ErrI K C fI f) {v : Value} {pos : List Value} {kw : List (Str × Value)} (ha : (pos = [v] ∧ kw = []) ∨ (pos = [] ∧ kw = [(f, v)]))
    (X : K.In s.heap) (hlim : s.heap.NoLimit) (hroom : A.depth + 1 < recursionLimit)
    (hq : ∀ h' tk e dx, Made s.heap h' e C dx f v → R (.ok (.ret (.ref e))) { s with heap := h', toks := tk }) :
    codeAny (model prog w) A (.call (.ref C) ⟨pos, kw⟩) R s := by
  obtain ⟨nm, N, qn, bs, bm, hdct, sn, sub, ab, col, dd, k0, k1, k2, k3, k5, hC, hT⟩ := PySem.W.excInit_of X T.ini
  obtain ⟨hp, g, dr, tk, os⟩ := s
  have k : ∀ b o, hp.get? b = some o → ((hp.push (PySem.W.kdv_tup pos)).push (PySem.HandSPX.excO C hp.objs.size)).get? b = some o := fun b o e => Heap.get?_push_of_some _ (Heap.get?_push_of_some _ e)
  have hget : ((hp.push (PySem.W.kdv_tup pos)).push (PySem.HandSPX.excO C hp.objs.size)).get? (hp.objs.size + 1) = some (PySem.HandSPX.excO C hp.objs.size) := by heap_get
  have hpos : pos.length ≤ sizeLine := by
    rcases ha with ⟨rfl, _⟩ | ⟨rfl, _⟩
    · show 1 ≤ sizeLine
      decide
    · show 0 ≤ sizeLine
      decide
  refine run_ccall BB.fb hT hC (PySem.W.looks_findIn X J.at_) (fun self => PySem.W.bind_fn X self J.ty) hpos ?_
  refine run_init (s := ⟨(hp.push (PySem.W.kdv_tup pos)).push (PySem.HandSPX.excO C hp.objs.size), g, dr, tk, os⟩) (v := v) hf BB.sf T J ?_ (X.keeps k) (hlim.keeps k) hget ?_ ?_
  · rcases ha with ⟨rfl, rfl⟩ | ⟨rfl, rfl⟩
    · exact .inl rfl
    · exact .inr rfl
  · rw [make_depth]
    exact hroom
  · intro h' tk' dx k' dn dne hx hns
    have old : ∀ b o, hp.get? b = some o → h'.get? b = some o := fun b o e => k' b o (Nat.ne_of_lt (Nat.lt_succ_of_lt (Heap.lt_size e))) (k b o e)
    have z : hp.objs.size + 1 + 1 ≤ dx := by
      have q := dn
      first
        | exact q
        | (simpa only [Heap.size_push] using q)
    exact ⟨rfl, hq h' tk' (hp.objs.size + 1) dx ⟨old, Nat.le_succ _, ⟨_, hx⟩, Nat.le_trans (Nat.le_trans (Nat.le_succ _) (Nat.le_succ _)) z, dne, hns⟩⟩
end
/-! ### the rules over the layer -/
section
variable {X : Cx} {pins : List (Addr × Obj)} {σ : L2.St} {H : Hp} {s : Shared}
/-- two new objects laid and tracked -/
theorem laid_two (I : Inv X pins σ H s) {h' : Heap} {a d : Addr} {o u : HO} {t' : Nat} (k : ∀ b z, s.heap.get? b = some z → h'.get? b = some z) (ha : s.heap.objs.size ≤ a) (hd : s.heap.objs.size ≤ d) (ne : d ≠ a)
    (oka : ObjOk X.prog X.w (upd (upd H d u) a o) h' a o) (okd : ObjOk X.prog X.w (upd (upd H d u) a o) h' d u) : Inv X pins σ (upd (upd H d u) a o) { s with heap := h', toks := t' } := by
  have na : H a = none := I.hok.fresh ha
  have nd : H d = none := I.hok.fresh hd
  have far : ∀ {b : Addr} {z : Obj}, s.heap.get? b = some z → b ≠ a ∧ b ≠ d := fun {b z} q =>
    ⟨Nat.ne_of_lt (Nat.lt_of_lt_of_le (Heap.lt_size q) ha), Nat.ne_of_lt (Nat.lt_of_lt_of_le (Heap.lt_size q) hd)⟩
  have same : ∀ {b : Addr} {z : HO}, H b = some z → upd (upd H d u) a o b = some z := fun {b z} q => by
    rw [upd_ne (ne_of_none q na), upd_ne (ne_of_none q nd)]
    exact q
  refine I.un (t' := t') ⟨fun b z q _ _ _ => k b z q, fun b z q _ _ _ => ⟨z.slots, k b z q⟩, fun b z q n _ => ?_, fun b z q _ => ⟨z, k b z q⟩, fun b xs q => same q, fun b z xs q => same q, fun b ps q => ⟨#[], by rw [same q]; simp⟩⟩ ?_
  · rw [upd_ne (far q).1, upd_ne (far q).2]
    exact n
  · intro b z q
    by_cases hb : b = a
    · subst hb
      rw [upd_same] at q
      cases q
      exact oka
    · rw [upd_ne hb] at q
      by_cases hb2 : b = d
      · subst hb2
        rw [upd_same] at q
        cases q
        exact okd
      · rw [upd_ne hb2] at q
        exact (I.hok b z q).stay (fun c y _ r => k c y r) (fun c r => same r) fun c xs r => same r
end
/-- at a: an error of the class at C whose field f holds v -/
def ErrAt (H : Hp) (a C : Addr) (f : Str) (v : V) : Prop := ∃ d, H a = some (exo a C (some d)) ∧ H d = some (exd d [(f, v)])
/-- at a: an error of the class at C, with a dict or without -/
def ErrIs (H : Hp) (a C : Addr) : Prop := ∃ d, H a = some (exo a C d)  ∧ ∀ x, d = some x → ∃ fs, H x = some (exd x fs)
theorem ErrAt.is {H : Hp} {a C : Addr} {f : Str} {v : V} (h : ErrAt H a C f v) : ErrIs H a C := by
  obtain ⟨d, h1, h2⟩ := h
  exact ⟨some d, h1, fun x e => by cases e; exact ⟨_, h2⟩⟩
theorem ErrAt.same {H H' : Hp} {a C : Addr} {f : Str} {v : V} (s : Same H H') (h : ErrAt H a C f v) : ErrAt H' a C f v := by
  obtain ⟨d, h1, h2⟩ := h
  exact ⟨d, s _ _ h1, s _ _ h2⟩
theorem ErrIs.same {H H' : Hp} {a C : Addr} (s : Same H H') (h : ErrIs H a C) : ErrIs H' a C := by
  obtain ⟨d, h1, h2⟩ := h
  refine ⟨d, s _ _ h1, fun x e => ?_⟩
  obtain ⟨fs, h3⟩ := h2 x e
  exact ⟨fs, s _ _ h3⟩
/-- C(e) and C(f=e): a new error -/
def tErr (C : Addr) (f : Str) (te : TE) : TE := fun σ H Q => te σ H fun v H1 => ∀ (a : Addr) (H' : Hp), Same H1 H' → H1 a = none → ErrAt H' a C f v → Q (.ref a) H'
/-- C() -/
def tErr0 (C : Addr) : TE := fun σ H Q => ∀ (a : Addr) (H' : Hp), Same H H' → H a = none → ErrIs H' a C → Q (.ref a) H'
section
variable {X : Cx} {B newId initId : String} {bmB : List Value} {C fI : Addr} {f x : Str} {e : Expr} {te : TE} {p pos kpos : Pos} {k : Nat}
theorem made_end {pins : List (Addr × Obj)} {σ : L2.St} {H : Hp} {s : Shared} {Q : VK} {v : V} {v' : Value} (I : Inv X pins σ H s) (rv : RelV v v') {h' : Heap} {tk : Nat} {a dx : Addr} (M : Made s.heap h' a C dx f v')
    (q : ∀ (a : Addr) (H' : Hp), Same H H' → H a = none → ErrAt H' a C f v → Q (.ref a) H') : EP X pins σ Q (.ref a) { s with heap := h', toks := tk } := by
  obtain ⟨t1, ho⟩ := M.obj
  have na : H a = none := I.hok.fresh M.new
  have nd : H dx = none := I.hok.fresh M.dbig
  have J : Inv X pins σ (upd (upd H dx (exd dx [(f, v)])) a (exo a C (some dx))) { s with heap := h', toks := tk } :=
    laid_two I M.keep M.new M.dbig M.dne (exo_ok ho) (exd_ok M.ns (relO_put (fs := []) rv fun g => True.intro))
  refine ⟨.ref a, _, J, rfl, q a _ (fun b o z => ?_) na ⟨dx, upd_same, ?_⟩⟩
  · rw [upd_ne (ne_of_none z na), upd_ne (ne_of_none z nd)]
    exact z
  · rw [upd_ne M.dne, upd_same]
theorem pe_err (hf : Fld f) (BB : BaseB B newId initId bmB) (T : ErrC X.K C f bmB newId) (J : ErrI X.K C fI f) (gC : X.mg x = some (.ref C)) (hr : Room k X.A) (hg : Gl X x) (he : PE X e te)
    (hdb : (x == ("__debug__" : Str)) = false := by decide) (hs : starEach [e] X.env = (false, eval e X.env) :: starEach [] X.env := by rfl) : PE X (.Call (.Name x p) [e] [] pos) (tErr C f te) := by
  constructor
  intro pins s σ H Q I h
  refine wpAny_Call_Name_kw (ld_glob I hg gC ?_ hdb)
  refine PySem.W.callWith_K (h₀ := X.base) I.ok.mod.kin T.kp ?_ hs (by rfl)
  rw [hs]
  show wpAny _ _ (spliced ((false, eval e X.env) :: backTo pos (starEach [] X.env))) _ _ s
  refine Calls.spliced_cons (thn (he.run pins s σ H _ I h) fun u s1 ⟨v, H1, I1, r1, q1⟩ => ?_)
  refine Calls.spliced_nil ⟨I1.kIn, ?_⟩
  show wpAny _ _ (call (.ref C) [u]) _ _ _
  exact wpAny_call (run_made (pos := [u]) (kw := []) hf BB T J (.inl ⟨rfl, rfl⟩) I1.kIn I1.nolimit (by have := hr.dp; omega) fun h' tk a dx M => made_end I1 r1 M q1)
theorem pe_errK (hf : Fld f) (BB : BaseB B newId initId bmB) (T : ErrC X.K C f bmB newId) (J : ErrI X.K C fI f) (gC : X.mg x = some (.ref C)) (hr : Room k X.A) (hg : Gl X x) (he : PE X e te)
    (hdb : (x == ("__debug__" : Str)) = false := by decide) : PE X (.Call (.Name x p) [] [⟨some f, e, kpos⟩] pos) (tErr C f te) := by
  constructor
  intro pins s σ H Q I h
  refine wpAny_Call_Name_kw (ld_glob I hg gC ?_ hdb)
  refine PySem.W.callWith_KW0 (h₀ := X.base) I.ok.mod.kin T.kp rfl ?_
  have hk : PK X [⟨some f, e, kpos⟩] (tCons te tNil) := pk_cons he pk_nil
  have h2 : tCons te tNil σ H (fun zs H1 => match zs with
      | [v] => ∀ (a : Addr) (H' : Hp), Same H1 H' → H1 a = none → ErrAt H' a C f v → Q (.ref a) H'
      | _ => False) := h
  refine thn (hk.run pos pins s σ H _ I h2) ?_
  intro us s1 ⟨zs, H1, I1, r1, q1⟩
  refine ⟨I1.kIn, ?_⟩
  cases r1 with
  | nil => exact q1.elim
  | cons rv rr =>
    cases rr with
    | cons _ _ => exact q1.elim
    | nil =>
      rename_i u
      show wpAny _ _ (call (.ref C) [] [(f, u)]) _ _ _
      exact wpAny_call (run_made (pos := []) (kw := [(f, u)]) hf BB T J (.inr ⟨rfl, rfl⟩) I1.kIn I1.nolimit (by have := hr.dp; omega) fun h' tk a dx M => made_end I1 rv M q1)
/-- the facts of a class without an __init__ of its own -/
theorem pe_err0 {bmB : List Value} (FB : ExcBaseFacts B newId initId bmB) (q : PySem.W.excIn X.K C bmB newId = true) (gC : X.mg x = some (.ref C)) (kC : PySem.W.keepIn X.K (.ref C) = true) (hg : Gl X x)
    (hdb : (x == ("__debug__" : Str)) = false := by decide) : PE X (.Call (.Name x p) [] [] pos) (tErr0 C) := by
  constructor
  intro pins s σ H Q I h
  refine wpAny_Call_Name_kw (ld_glob I hg gC ?_ hdb)
  refine PySem.W.callWith_K0 I.kIn kC ?_
  show wpAny _ _ (call (.ref C) []) _ _ _
  obtain ⟨bm, N, nm, qn, bs, hdct, sn, sub, ab, col, dd, k0, k1, k2, k3, k5, mN, hC, hN, hni, T⟩ := exc_obj I.kIn q
  refine wpAny_call_exc_subT FB T hC hN hni (fun h' a hm => ?_) (by show 0 ≤ sizeLine; decide)
  have hn : H a = none := I.hok.gone hm.new
  obtain ⟨t, ht, _, _⟩ := hm.there
  refine ⟨.ref a, upd H a (exo a C none), I.laidN hm.keeps hm.new hn (exo_ok (t1 := t) ht), rfl, h a _ (fun b o z => ?_) hn ⟨none, upd_same, fun x e => nomatch e⟩⟩
  rw [upd_ne (ne_of_none z hn)]
  exact z
/-- err.f -/
def tErrGet (C : Addr) (f : Str) (te : TE) : TE := fun σ H Q => te σ H fun x H1 => ∃ (a : Addr) (v : V), x = .ref a ∧ ErrAt H1 a C f v ∧ Q v H1
theorem pe_errGet (Cs : Addr → Prop) (T : ∀ C, Cs C → ∃ bmB newId, ErrC X.K C f bmB newId) (he : PE X e te) (hb : attributeBase e f X.env (eval e X.env) = eval e X.env) :
    PE X (.Attribute e f pos) (fun σ H Q => te σ H fun x H1 => ∃ (a C : Addr) (v : V), x = .ref a ∧ Cs C ∧ ErrAt H1 a C f v ∧ Q v H1) := by
  constructor
  intro pins s σ H Q I h
  refine attr_of hb (thn (he.run pins s σ H _ I h) ?_)
  intro u s1 ⟨x, H1, I1, rx, a, C, v, ex, hC, ⟨d, ha, hd⟩, q⟩
  subst ex
  obtain rfl : u = Value.ref a := rx
  obtain ⟨bmB, newId, T⟩ := T C hC
  obtain ⟨t1, ho⟩ := exo_at I1.hok ha
  obtain ⟨mA, hns, hr⟩ := exd_at I1.hok hd
  obtain ⟨od, hod, hl⟩ := lookIn_ns hns
  have l : List.lookup f [(f, v)] = some v := by simp [List.lookup]
  obtain ⟨u, hu, ru⟩ := RelO.some_of (v := v) (o := mA f) (by rw [← l]; exact hr f)
  have J : PySem.W.InstAt s1.heap a { cls := .ref C, dict := some d, data := .fields #[.ref t1, .none, .none, .none, .bool false, .none] } C (some od) := ⟨ho, rfl, rfl, hod⟩
  exact HandSPX.exc_get I1.kIn J T.ga T.gg T.ex (PySem.W.findObj_own T.hd T.no rfl (by rw [hl, hu])) (handed_of ru) ⟨v, H1, I1.tok _, ru, q⟩
end
/-! ### isinstance of an error -/
structure IsF (K : PySem.W.Frag) : Prop where
  gt : PySem.W.specialIn K (.builtin "object.__class__") "__get__" = some (some (.builtin "getset_descriptor.__get__"))
  tk : PySem.W.takesIn K (.builtin "object.__class__") = some true
/-- what isinstance asks of the class -/
structure IsC (K : PySem.W.Frag) (C : Addr) : Prop where
  ga : PySem.W.findIn K (.ref C) "__getattribute__" = some (some (.builtin "BaseException.__getattribute__"))
  gg : PySem.W.findIn K (.ref C) "__getattr__" = some none
  ex : PySem.W.subIn K (.ref C) (.type "BaseException") = some true
  cl : (PySem.W.clsIn K C).isSome = true
  ca : PySem.W.findIn K (.ref C) "__class__" = some (some (.builtin "object.__class__"))
  ob : PySem.W.mroIn K C (.type "object") = some true
theorem ErrC.isc {K : PySem.W.Frag} {C : Addr} {f : Str} {bmB : List Value} {newId : String} (T : ErrC K C f bmB newId) : IsC K C := ⟨T.ga, T.gg, T.ex, T.cl, T.ca, T.ob⟩
def isOk (K : PySem.W.Frag) (C : Addr) : Bool := (PySem.W.findIn K (.ref C) "__getattribute__" == some (some (.builtin "BaseException.__getattribute__"))) &&
  (PySem.W.findIn K (.ref C) "__getattr__" == some none) && (PySem.W.subIn K (.ref C) (.type "BaseException") == some true) && (PySem.W.clsIn K C).isSome &&
  (PySem.W.findIn K (.ref C) "__class__" == some (some (.builtin "object.__class__"))) && (PySem.W.mroIn K C (.type "object") == some true)
theorem IsC.of {K : PySem.W.Frag} {C : Addr} (h : isOk K C = true) : IsC K C := by
  unfold isOk at h
  simp only [Bool.and_eq_true, beq_iff_eq] at h
  obtain ⟨⟨⟨⟨⟨h1, h2⟩, h3⟩, h4⟩, h5⟩, h6⟩ := h
  exact ⟨h1, h2, h3, h4, h5, h6⟩
def rIsErr (K : PySem.W.Frag) : List V → Hp → VK → Prop := fun xs H Q => ∃ (a C : Addr) (c : V) (u : Value) (b : Bool), xs = [.ref a, c] ∧ ErrIs H a C ∧ IsC K C ∧ (∀ z, RelV c z → z = u) ∧ PySem.W.kitOne K (.ref C) u = some b ∧ Q (.bl b) H
theorem cr_isErr {X : Cx} (W : IsF X.K) : CallR X (.builtin "isinstance") (rIsErr X.K) := by
  intro pins s σ H xs us Q I r h
  obtain ⟨a, C, c, u, b, rfl, ⟨d, ha, hd⟩, T, hc, e, q⟩ := h
  obtain ⟨u1, u2, rfl, r1, r2⟩ := vals2 r
  obtain rfl : u1 = Value.ref a := r1
  have e2 := hc _ r2
  subst e2
  obtain ⟨t1, ho⟩ := exo_at I.hok ha
  have J : ∃ od, PySem.W.InstAt s.heap a { cls := .ref C, dict := d, data := .fields #[.ref t1, .none, .none, .none, .bool false, .none] } C od := by
    cases d with
    | none => exact ⟨none, ho, rfl, rfl, trivial⟩
    | some x =>
      obtain ⟨fs, hx⟩ := hd x rfl
      obtain ⟨mA, hns, _⟩ := exd_at I.hok hx
      obtain ⟨od, hod, _⟩ := lookIn_ns hns
      exact ⟨some od, ho, rfl, rfl, hod⟩
  obtain ⟨od, J⟩ := J
  exact PySem.W.kia_one (PySem.W.kitx_exc T.cl T.ga T.gg T.ex T.ca W.gt W.tk T.ob) I.kIn J e (fun z => nomatch z) fun tk => ⟨.bl b, H, I.tok tk, rfl, q⟩
end SQ
/-! Such errors raised, caught, read and asked in the suite. -/
namespace SQ
open PySem PySem.Spec PyProof.Rows L2
section
variable {X : Cx} {B newId initId : String} {bmB : List Value} {C fI : Addr} {f x : Str} {e : Expr} {te : TE} {p pos : Pos} {k : Nat}
/-- C(e), to be raised -/
theorem pmk_err (hf : Fld f) (BB : BaseB B newId initId bmB) (T : ErrC X.K C f bmB newId) (J : ErrI X.K C fI f) (ty : PySem.W.typeIn X.K (.ref C) = some (.type "type")) (gC : X.mg x = some (.ref C)) (hr : Room k X.A) (hg : Gl X x) (he : PE X e te)
    (hdb : (x == ("__debug__" : Str)) = false := by decide) (hs : starEach [e] X.env = (false, eval e X.env) :: starEach [] X.env := by rfl) :
    PMk X (.Call (.Name x p) [e] [] pos) (fun σ H Q => te σ H fun v H1 => ∀ d, H1 d = none → Q (.ref C) (some d) (upd H1 d (.xd [(f, v)]))) := by
  intro pins s σ H Q I h
  refine wpAny_Call_Name_kw (ld_glob I hg gC ?_ hdb)
  refine PySem.W.callWith_K (h₀ := X.base) I.ok.mod.kin T.kp ?_ hs (by rfl)
  rw [hs]
  show wpAny _ _ (spliced ((false, eval e X.env) :: backTo pos (starEach [] X.env))) _ _ s
  refine Calls.spliced_cons (thn (he.run pins s σ H _ I h) fun u s1 ⟨v, H1, I1, r1, q1⟩ => ?_)
  refine Calls.spliced_nil ⟨I1.kIn, ?_⟩
  show wpAny _ _ (call (.ref C) [u]) _ _ _
  have hlim := I1.nolimit
  obtain ⟨hp, g, dr, tk, os⟩ := s1
  refine wpAny_call (run_made (pos := [u]) (kw := []) hf BB T J (.inl ⟨rfl, rfl⟩) I1.kIn hlim (by have := hr.dp; omega) fun h' tk' a dx M => ?_)
  show MkP X pins σ Q (.ref a) ⟨h', g, dr, tk', os⟩
  obtain ⟨t1, ho⟩ := M.obj
  obtain ⟨G', g1, g2⟩ := restrict h' fun b => decide (b ≠ a)
  have gk : ∀ b, b ≠ a → G'.get? b = h'.get? b := fun b hb => g1 b (decide_eq_true hb)
  have ge : G'.get? a = none := g2 a (by simp)
  have old : ∀ b o, hp.get? b = some o → G'.get? b = some o := fun b o q =>
    (gk b (Nat.ne_of_lt (Nat.lt_of_lt_of_le (Heap.lt_size q) M.new))).trans (M.keep b o q)
  have ob : ObjOk X.prog X.w (upd H1 dx (.xd [(f, v)])) G' dx (.xd [(f, v)]) :=
    ⟨_, M.ns.at (fun o q => (gk dx M.dne).trans q), fun y => relO_put (fs := []) (mA := fun _ => none) r1 (fun g => True.intro) y⟩
  have J1 : Inv X pins σ (upd H1 dx (.xd [(f, v)])) ⟨G', g, dr, tk', os⟩ := I1.laid (t' := tk') old M.dbig ob
  refine ⟨a, _, _, ⟨G', g, dr, tk', os⟩, _, .ref C, some dx, rfl, J1, fun b o q => ?_, ge, ho, ⟨rfl, rfl⟩, rfl, rfl, ?_, rfl, I1.bare, raises_own T.ex ty, q1 dx (I1.hok.fresh M.dbig)⟩
  · by_cases hb : b = a
    · have q' : G'.get? b = some o := q
      rw [hb, ge] at q'
      cases q'
    · exact (gk b hb).symm.trans q
  · rw [upd_ne (Ne.symm M.dne)]
    exact I1.hok.fresh M.new
end
section
variable {X : Cx} {a : Addr} {oe : Obj} {cls : Value} {d : Option Addr} {pn : List (Addr × Obj)} {f : Str} {e : Expr} {te : TE} {pos : Pos}
/-- what is known of the error that a suite holds -/
def Held (K : PySem.W.Frag) (H : Hp) (cls : Value) (d : Option Addr) (C : Addr) (f : Str) (v : V) : Prop := cls = .ref C ∧ ∃ dd, d = some dd ∧ H dd = some (.xd [(f, v)])
theorem held_at {pins : List (Addr × Obj)} {σ : L2.St} {H : Hp} {s : Shared} {C : Addr} {v : V} (I : Inv (X.suite a ((a, oe) :: pn)) pins σ H s) (hz : Zc cls d oe) (hf : ∃ vs, oe.data = .fields vs) (h : Held X.K H cls d C f v) :
    ∃ (od : Obj) (u : Value), PySem.W.InstAt s.heap a oe C (some od) ∧ PySem.W.lookIn f od = some (some u) ∧ RelV v u := by
  obtain ⟨rfl, dd, rfl, hd⟩ := h
  obtain ⟨ha, _⟩ := I.pin (a, oe) (List.mem_append_left _ List.mem_cons_self)
  obtain ⟨vs, hv⟩ := hf
  have hx : ObjOk X.prog X.w H s.heap dd (.xd [(f, v)]) := I.hok dd _ hd
  obtain ⟨mA, hns, hr⟩ := hx
  obtain ⟨od, ho, hl⟩ := lookIn_ns hns
  have l : List.lookup f [(f, v)] = some v := by simp [List.lookup]
  obtain ⟨u, hu, ru⟩ := RelO.some_of (v := v) (o := mA f) (by rw [← l]; exact hr f)
  exact ⟨od, u, ⟨ha, hz.1, by unfold PySem.W.notCls; rw [hv] <;> rfl, by rw [hz.2]; exact ho⟩, by rw [hl, hu], ru⟩
/-- err.f, err the error that the suite holds -/
theorem pe_heldGet (hz : Zc cls d oe) (hf : ∃ vs, oe.data = .fields vs) (he : PE (X.suite a ((a, oe) :: pn)) e te) (hb : attributeBase e f X.env (eval e X.env) = eval e X.env := by rfl) :
    PE (X.suite a ((a, oe) :: pn)) (.Attribute e f pos) (fun σ H Q => te σ H fun y H1 => y = .ref a ∧ ∃ (C : Addr) (v : V) (bmB : List Value) (newId : String), Held X.K H1 cls d C f v ∧ ErrC X.K C f bmB newId ∧ Q v H1) := by
  constructor
  intro pins s σ H Q I h
  refine attr_of hb (thn (he.run pins s σ H _ I h) ?_)
  intro u s1 ⟨y, H1, I1, ry, ey, C, v, bmB, newId, hh, T, q⟩
  subst ey
  obtain rfl : u = Value.ref a := ry
  obtain ⟨od, u, J, hl, ru⟩ := held_at I1 hz hf hh
  exact HandSPX.exc_get I1.kIn J T.ga T.gg T.ex (PySem.W.findObj_own T.hd T.no rfl hl) (handed_of ru) ⟨v, H1, I1.tok _, ru, q⟩
/-- isinstance(err, c) -/
theorem cr_heldIs (W : IsF X.K) (hz : Zc cls d oe) (hf : ∃ vs, oe.data = .fields vs) : CallR (X.suite a ((a, oe) :: pn)) (.builtin "isinstance")
    (fun xs H Q => ∃ (c : V) (u : Value) (b : Bool) (C : Addr) (v : V) (f : Str), xs = [.ref a, c] ∧ Held X.K H cls d C f v ∧ IsC X.K C ∧ (∀ z, RelV c z → z = u) ∧ PySem.W.kitOne X.K (.ref C) u = some b ∧ Q (.bl b) H) := by
  intro pins s σ H xs us Q I r h
  obtain ⟨c, u, b, C, v, f, rfl, hh, T, hc, e, q⟩ := h
  obtain ⟨u1, u2, rfl, r1, r2⟩ := vals2 r
  obtain rfl : u1 = Value.ref a := r1
  have e2 := hc _ r2
  subst e2
  obtain ⟨od, _, J, _, _⟩ := held_at I hz hf hh
  exact PySem.W.kia_one (PySem.W.kitx_exc T.cl T.ga T.gg T.ex T.ca W.gt W.tk T.ob) I.kIn J e (fun z => nomatch z) fun tk => ⟨.bl b, H, I.tok tk, rfl, q⟩
end
end SQ
/-! Such errors made anywhere (also in an except suite); promises that say that the error has no context. -/
namespace SQ
open PySem PySem.Spec PyProof.Rows L2
section
variable {X : Cx} {B newId initId : String} {bmB : List Value} {C fI : Addr} {f x : Str} {e : Expr} {te : TE} {p pos : Pos} {k : Nat}
/-- C(e), to be raised -/
theorem pmk5_err (hf : Fld f) (BB : BaseB B newId initId bmB) (T : ErrC X.K C f bmB newId) (J : ErrI X.K C fI f) (ty : PySem.W.typeIn X.K (.ref C) = some (.type "type")) (gC : X.mg x = some (.ref C)) (hr : X.A.depth + 1 < recursionLimit) (hg : Gl X x) (he : PE X e te)
    (hdb : (x == ("__debug__" : Str)) = false := by decide) (hs : starEach [e] X.env = (false, eval e X.env) :: starEach [] X.env := by rfl) :
    L2H.PMk5 X (.Call (.Name x p) [e] [] pos) (fun σ H Q => te σ H fun v H1 => ∀ d, H1 d = none → Q (.ref C) (some d) (upd H1 d (.xd [(f, v)]))) := by
  intro pins s σ H Q I h
  refine wpAny_Call_Name_kw (ld_glob I hg gC ?_ hdb)
  refine PySem.W.callWith_K (h₀ := X.base) I.ok.mod.kin T.kp ?_ hs (by rfl)
  rw [hs]
  show wpAny _ _ (spliced ((false, eval e X.env) :: backTo pos (starEach [] X.env))) _ _ s
  refine Calls.spliced_cons (thn (he.run pins s σ H _ I h) fun u s1 ⟨v, H1, I1, r1, q1⟩ => ?_)
  refine Calls.spliced_nil ⟨I1.kIn, ?_⟩
  show wpAny _ _ (call (.ref C) [u]) _ _ _
  have hlim := I1.nolimit
  obtain ⟨hp, g, dr, tk, os⟩ := s1
  refine wpAny_call (run_made (pos := [u]) (kw := []) hf BB T J (.inl ⟨rfl, rfl⟩) I1.kIn hlim hr fun h' tk' a dx M => ?_)
  show L2N.MkP X pins σ Q (.ref a) ⟨h', g, dr, tk', os⟩ ∧ L2H.Six (.ref a) ⟨h', g, dr, tk', os⟩
  obtain ⟨t1, ho⟩ := M.obj
  obtain ⟨G', g1, g2⟩ := restrict h' fun b => decide (b ≠ a)
  have gk : ∀ b, b ≠ a → G'.get? b = h'.get? b := fun b hb => g1 b (decide_eq_true hb)
  have ge : G'.get? a = none := g2 a (by simp)
  have old : ∀ b o, hp.get? b = some o → G'.get? b = some o := fun b o q =>
    (gk b (Nat.ne_of_lt (Nat.lt_of_lt_of_le (Heap.lt_size q) M.new))).trans (M.keep b o q)
  have ob : ObjOk X.prog X.w (upd H1 dx (.xd [(f, v)])) G' dx (.xd [(f, v)]) :=
    ⟨_, M.ns.at (fun o q => (gk dx M.dne).trans q), fun y => relO_put (fs := []) (mA := fun _ => none) r1 (fun g => True.intro) y⟩
  have J1 : Inv X pins σ (upd H1 dx (.xd [(f, v)])) ⟨G', g, dr, tk', os⟩ := I1.laid (t' := tk') old M.dbig ob
  refine ⟨⟨a, _, _, ⟨G', g, dr, tk', os⟩, _, .ref C, some dx, rfl, J1, fun b o q => ?_, ge, ho, ⟨rfl, rfl, fun vs z => by cases z; rfl⟩, rfl, rfl, ?_, rfl, I1.bare, raises_own T.ex ty, q1 dx (I1.hok.fresh M.dbig)⟩, ?_⟩
  · by_cases hb : b = a
    · have q' : G'.get? b = some o := q
      rw [hb, ge] at q'
      cases q'
    · exact (gk b hb).symm.trans q
  · rw [upd_ne (Ne.symm M.dne)]
    exact I1.hok.fresh M.new
  · intro a' oe vs ea hg hd
    cases ea
    have hg' : h'.get? a = some oe := hg
    rw [ho] at hg'
    cases hg'
    cases hd
    show (4 : Nat) < 6
    decide
theorem pmk_of5 {t : L2.St → Hp → XK → Prop} (h : L2H.PMk5 X e t) : L2.PMk X e t := fun pins s σ H Q I q => thn (h pins s σ H Q I q) fun u s' ⟨⟨a, oe, vs, sI, H', cls, d, r0, J, k, hne, ha, hz, rest⟩, _⟩ =>
  ⟨a, oe, vs, sI, H', cls, d, r0, J, k, hne, ha, hz.zc, rest⟩
end
theorem cxN_to {P : Program} {w : World} {outer : List Env} {H : Hp} {s : Shared} {E : XK} {u : Value} {t : Shared} (c : L2N.CX P w outer H s E u t) : L2.CX P w outer H s E u t := by
  obtain ⟨a, B, H', cls, d, e, fl, rest⟩ := c
  exact ⟨a, B, H', cls, d, e, L2H.flyingZ_imp (fun _ z => z.zc) fl, rest⟩
theorem cxUpN {P : Program} {w : World} : StX.CXUp (L2N.CX P w) := by
  rintro outer s H s2 H2 E e t un kp ho ⟨a, B, H', cls, d, ea, fl, hok, ub, na, os, ag, he⟩
  have ub2 : UB (frs outer) H H' s.heap B t.heap := by
    constructor
    · exact fun b o q n hb => ub.keep b o (kp b o q) (un.free b o q n (fun z => nomatch z)) hb
    · exact fun b o q hb => ub.slot b o (kp b o q) hb
    · exact fun b o q n => ub.free b o (kp b o q) (un.free b o q n (fun z => nomatch z))
    · exact fun b o q hb => ub.there b o (kp b o q) hb
    · exact fun b xs q => ub.tups b xs (un.tups b xs q)
    · exact fun b o xs q => ub.frzs b o xs (un.frzs b o xs q)
    · intro b ps q
      obtain ⟨m1, e1⟩ := un.tbls b ps q
      obtain ⟨m2, e2⟩ := ub.tbls b _ e1
      refine ⟨m1 ++ m2, ?_⟩
      rw [e2, Array.append_assoc]
  exact ⟨a, B, H', cls, d, ea, fl, hok, ub2, na, os.trans ho, ag, he⟩
section
variable {P : Program} {w : World} {K : PySem.W.Frag} {mg : Str → Option Value} {base : Heap}
/-- a def that may raise, its error without context -/
theorem okN {x qual : Str} {st : Stmt} {f : Addr} {fd : FuncData} {N ps : List Str} {k : Nat} {sp : Sp} (F : Fun K x qual st f fd) (S : FnScope N ps (defScope st)) (len : ∀ vs H Q E, sp vs H Q E → vs.length = ps.length)
    (hb : ∀ (cdv : Value) (A : Around) (outer : List Env) (s : Shared) (H : Hp) (vs : List V) (Q : VK) (E : XK), Room k (A.deeper (envOfC qual (defScope st) s.heap.objs.size f cdv)) → sp vs H Q E →
      ∃ t, PSs (cxOf (L2N.CX P w) P w K mg base N qual (defScope st) f cdv A outer s H E) (defBody st) t ∧ t { nx := fun _ H' => Q .non H', rt := Q } (start N vs) H) : FnOk P w K mg base (L2N.CX P w) (k + 1) f fd ps sp := by
  obtain ⟨oc, od, kV, doc, pm, an, cdv, ct, osl, rfl, lk, hcd⟩ := F.ex
  exact fn_of lk hcd S len fun A outer s H vs Q E hr hsp => hb cdv A outer s H vs Q E hr hsp
/-- the context is forgotten -/
theorem fnR_ctx {k : Nat} {f : Addr} {sp : Sp} (F : FnR P w K mg base (L2N.CX P w) k f sp) : FnR P w K mg base (L2.CX P w) k f sp := by
  intro A outer s H us vs Q E hr e0 r hsp
  refine codeAny_mono (F A outer s H us vs Q E hr e0 r hsp) fun r s' h => ?_
  cases r with
  | error e => exact cxN_to h
  | ok fl =>
    cases fl <;> exact h
end
end SQ
/-! for i, x in enumerate(a tuple) -/
namespace SQ
open PySem PySem.Spec PyProof.Rows L2
def ItT (K : PySem.W.Frag) (a : Addr) : It :=
  ⟨fun i H => ∃ (xs : List V) (x : V), SqT K H a xs ∧ xs[i]? = some x,
    fun i H v H' => ∃ T x, v = .ref T ∧ H T = none ∧ H' = upd H T (.tup [.int (i : Nat), x]) ∧ ∀ xs, SqT K H a xs → xs[i]? = some x,
    fun i H => ∃ xs : List V, SqT K H a xs ∧ xs.length = i⟩
/-- the makings of enumerate(v) -/
theorem meets_enum1 {v : Value} {o : Obj} {G : Heap → Prop} (B : Begins v o G) :
    Meets (Builtin.«enumerate.__new__» ⟨[.type "enumerate", v], []⟩) (fun _ R s => G s.heap ∧
      R (.ok (.ret (.ref (s.heap.push o).objs.size))) { s with heap := (s.heap.push o).push ({ cls := .type "enumerate", data := .fields #[.none, .bool false, .ref s.heap.objs.size, rawInt 0, .none, .none] } : Obj) }) := by
  refine .of_wp fun prog w A R s h => ?_
  obtain ⟨hp, g, d, tk, os⟩ := s
  obtain ⟨hG, hR⟩ := h
  have isSub := sub_enumerate
  have it : ∀ {A' : Around} {E : Value → Shared → Prop} {Q : Value → Shared → Prop}, Q (.ref hp.objs.size) ⟨hp.push o, g, d, tk, os⟩ →
      wpAny (model prog w) A' (pyIter v) Q E ⟨hp, g, d, tk, os⟩ := fun q => B.iter prog w _ _ ⟨hp, g, d, tk, os⟩ _ hG q
  wp_walk using it
  refine wpAny_stack_any fun st => wpAny_pure ?_
  split
  · rename_i c _ _ _ _ _
    cases (c == Value.type "enumerate") <;>
    · wp_walk using it
      exact ⟨_, rfl, hR⟩
  · wp_walk using it
    exact ⟨_, rfl, hR⟩
section
variable {prog : Program} {w : World} {A : Around} {E : Value → Shared → Prop} {s : Shared}
theorem enum_of {v : Value} {o : Obj} {G : Heap → Prop} {Q : Value → Shared → Prop} (B : Begins v o G) (hG : G s.heap)
    (h : ∀ h', IsEnum h' (s.heap.objs.size + 1) s.heap.objs.size 0 .none → h'.get? s.heap.objs.size = some o →
      (∀ b u, s.heap.get? b = some u → h'.get? b = some u) → Q (.ref (s.heap.objs.size + 1)) { s with heap := h' }) :
    wpAny (model prog w) A (call (.type "enumerate") [v]) Q E s := by
  refine callType_new F.called_enumerate (by decide) (F.typeCall_enumerate_1 _) (F.newCall_enumerate_1 _) (fun obj => F.args_object_init_2 obj _)
    F.entry_enumerate_new (meets_enum1 B) ⟨hG, ?_⟩
  have hz : (s.heap.push o).objs.size = s.heap.objs.size + 1 := Heap.size_push ..
  show _ ∧ _
  rw [hz]
  have got := Heap.get?_push_size (s.heap.push o)
    (o := { cls := .type "enumerate", data := .fields #[.none, .bool false, .ref s.heap.objs.size, rawInt 0, .none, .none] }) rfl
  rw [hz] at got
  exact ⟨⟨_, got, rfl⟩, h _ got (Heap.get?_push_of_some _ (Heap.get?_push_size _ B.free)) fun b u x => Heap.get?_push_of_some _ (Heap.get?_push_of_some _ x)⟩
end
theorem tup_of {h : Heap} {a : Addr} {its : List Value} (p : IsTup h a its.toArray) : h.IsTuple a its.toArray := by
  obtain ⟨o, e, c, n, d⟩ := p
  exact ⟨o, e, c, n, d⟩
theorem turn_enumT {P : Program} {w : World} {K : PySem.W.Frag} {elts : List Expr} {kk : Nat} {tpos : Pos} (a e it : Addr) :
    Turn P w K (.Tuple elts kk tpos) (ItT K a) [e, it] e (fun i h => (∃ old, IsEnum h e it ((i : Nat) : Int) old) ∧ h.IsTupleIter it a i ∧ e ≠ it ∧ a ≠ it ∧ e ≠ a) where
  mem := by simp
  obj := fun i h ⟨⟨old, he⟩, ⟨o, ho, hc, hd⟩, _⟩ b hb => by
    rcases (show b = e ∨ b = it by simpa using hb) with z | z
    · rw [z]
      exact ⟨_, he, fun v q => nomatch q⟩
    · rw [z]
      exact ⟨o, ho, fun v q => by rw [hd] at q; cases q⟩
  keep := fun i h h' ⟨⟨old, he⟩, ⟨o, ho, r⟩, ne⟩ k => ⟨⟨old, k e (by simp) _ he⟩, ⟨o, k it (by simp) _ ho, r⟩, ne⟩
  item := by
    intro X hP hw hK hc i pins s σ H E I hf ⟨⟨old, he⟩, hit, ne1, ne2, ne3⟩ ⟨xs, x, hq, hx⟩
    subst hP hw hK
    obtain ⟨its, rv, p, hz⟩ := I.tuple hq
    obtain ⟨u, hu, ru⟩ := rv.get hx
    have hel : e < s.heap.objs.size := Heap.lt_size he
    have hil : it < s.heap.objs.size := by
      obtain ⟨_, q, _⟩ := hit
      exact Heap.lt_size q
    have hd : X.A.in1.handled = none := I.ok.hd hc
    have hlt : i < its.toArray.size := by
      have := (List.getElem?_eq_some_iff.mp hu).1
      simpa using this
    refine wpAny_pyNext_enum_itemD (Draws.tuple (prog := X.prog) (w := X.w) (A := X.A.in1) hd it a ne2 its.toArray) he ⟨hit, tup_of p⟩ hlt ne1 (by simp [ne1, ne3]) ?_
    intro u' h' tk hu' ho ⟨hit', _⟩ hT hsz hk
    have eu : u' = u := by
      have h1 : its[i]? = some u' := by simpa using hu'
      rw [hu] at h1
      exact (Option.some.inj h1).symm
    subst eu
    refine ⟨_, rfl, wpAny_letOwnedTupleGo_enum (s := { s with heap := h', toks := tk + 1 }) ho fun h'' he' sb => ?_⟩
    have hT2 : h''.get? s.heap.objs.size = some { cls := .type "tuple", data := .seq #[.int i tk, u'] } := (sb.2 _ (Nat.ne_of_gt hel)).trans hT
    have new : ObjOk X.prog X.w (upd H s.heap.objs.size (.tup [.int (i : Nat), x])) h'' s.heap.objs.size (.tup [.int (i : Nat), x]) :=
      ⟨by show 2 ≤ sizeLine; decide, [.int i tk, u'], .cons ⟨_, rfl⟩ (.cons ru .nil), ⟨_, hT2, rfl, _, rfl⟩⟩
    have I1 : Inv X pins σ (upd H s.heap.objs.size (.tup [.int (i : Nat), x])) { s with heap := h'', toks := tk + 1 } :=
      I.turnedNew (ch := [e, it]) (fun b ob hb q => (sb.2 b (fun z => hb (by simp [z]))).trans (hk b ob (fun z => hb (by simp [z])) (fun z => hb (by simp [z])) q)) hf (Nat.le_refl _) new
    refine ⟨.ref s.heap.objs.size, _, I1, rfl, ⟨_, x, rfl, I.hok.fresh (Nat.le_refl _), rfl, fun ys hy => by rw [I.tuple_inj hy hq]; exact hx⟩, ⟨⟨u', ?_⟩, ?_, ne1, ne2, ne3⟩, fun b hb => ?_⟩
    · rw [show ((i + 1 : Nat) : Int) = (i : Int) + 1 by omega]
      exact he'
    · obtain ⟨o, q, r⟩ := hit'
      exact ⟨o, (sb.2 it (Ne.symm ne1)).trans q, r⟩
    · have hb' : b < s.heap.objs.size := by
        rcases (show b = e ∨ b = it by simpa using hb) with z | z
        · rw [z]
          exact hel
        · rw [z]
          exact hil
      rw [upd_ne (Nat.ne_of_lt hb')]
      exact (hf b hb).1
  done := by
    intro X hP hw hK hc i pins s σ H E I hf ⟨⟨old, he⟩, hit, ne1, ne2, ne3⟩ ⟨xs, hq, hx⟩
    subst hP hw hK
    obtain ⟨its, rv, p, hz⟩ := I.tuple hq
    obtain ⟨f0, f1, f2, f3, f4, f5⟩ := hf it (by simp)
    have hl := rv.length
    have hd : X.A.in1.handled = none := I.ok.hd hc
    have hn : its.toArray.size = i := by
      rw [List.size_toArray]
      omega
    refine wpAny_pyNext_enum_endD (Draws.tuple (prog := X.prog) (w := X.w) (A := X.A.in1) hd it a ne2 its.toArray) he ?_ ?_
    · rw [hn]
      exact ⟨hit, tup_of p⟩
    · intro h' eb
      exact ⟨rfl, I.turned (t' := s.toks) (fun b o hb q => eb b o hb q) f0 f1 f3 f4 f5⟩
  self := fun A i s Q E ⟨⟨_, he⟩, _⟩ h => wpAny_pyIter_enum he h
def iEnumT (K : PySem.W.Frag) (ta : TA) : TI := fun σ H R => ta σ H fun vs H1 => ∃ a xs, vs = [.ref a] ∧ SqT K H1 a xs ∧ R (ItT K a) H1
theorem pi_enumT {X : Cx} {e : Expr} {ta : TA} {p pos tpos : Pos} {elts : List Expr} {kk : Nat} (hg : Gl X "enumerate") (hm : X.mg "enumerate" = none) (ha : PA X [e] ta)
    (hs : starEach [e] X.env = [(false, eval e X.env)] := by rfl) : PI X (.Tuple elts kk tpos) (.Call (.Name "enumerate" p) [e] [] pos) (iEnumT X.K ta) := by
  constructor
  intro pins s σ H R I h
  refine Call_ (ld_blt I hg hm boot_enumerate (PyProof.Rows.callWith_type1 (thn (ha.run pos pins s σ H _ I h) ?_) hs rfl))
  intro us s1 ⟨vs, H1, I1, r1, a, xs, ex, hq, q⟩
  subst ex
  cases r1 with
  | cons r rr =>
    cases rr
    cases r
    obtain ⟨its, rv, p', hz⟩ := I1.tuple hq
    have hal : a < s1.heap.objs.size := by
      obtain ⟨o, e', _⟩ := p'
      exact Heap.lt_size e'
    refine enum_of (begins_tuple a its.toArray) (tup_of p') fun h' he hit hk => wpAny_pyIter_enum he ?_
    have I2 : Inv X pins σ H1 { s1 with heap := h' } := I1.kept (t' := s1.toks) hk
    refine ⟨s1.heap.objs.size + 1, [s1.heap.objs.size + 1, s1.heap.objs.size], _, _, H1, rfl, I2, turn_enumT a (s1.heap.objs.size + 1) s1.heap.objs.size,
      ⟨⟨.none, he⟩, ⟨_, hit, rfl, rfl⟩, Nat.succ_ne_self _, Nat.ne_of_lt hal, Nat.ne_of_gt (Nat.lt_succ_of_lt hal)⟩, fun b hb => ?_, q⟩
    have hle : s1.heap.objs.size ≤ b := by
      rcases (show b = s1.heap.objs.size + 1 ∨ b = s1.heap.objs.size by simpa using hb) with z | z
      · rw [z]
        exact Nat.le_succ _
      · rw [z]
        exact Nat.le_refl _
    exact I1.fpOk hle (I1.hok.fresh hle)
end SQ
/-! Texts cut at a separator and put together again. -/
namespace SQ
open PySem L2
theorem str_ext {a b : Str} (h : a.cps.toList = b.cps.toList) : a = b := by
  obtain ⟨ca⟩ := a
  obtain ⟨cb⟩ := b
  have e : ca = cb := Array.toList_inj.mp h
  rw [e]
theorem str_app (a b : Str) : (a ++ b).cps.toList = a.cps.toList ++ b.cps.toList := by
  show (a.cps ++ b.cps).toList = _
  exact Array.toList_append
/-- signs put together -/
def jn (S : List Nat) : List (List Nat) → List Nat
  | [] => []
  | [x] => x
  | x :: y :: r => x ++ (S ++ jn S (y :: r))
theorem tl_join (sep : Str) : ∀ l : List Str, (Str.join sep l).cps.toList = jn sep.cps.toList (l.map fun x => x.cps.toList)
  | [] => rfl
  | [x] => rfl
  | x :: y :: r => by
    have h := tl_join sep (y :: r)
    show (x ++ sep ++ Str.join sep (y :: r)).cps.toList = _
    rw [str_app, str_app, h, List.append_assoc]
    rfl
theorem spl_free {c : Nat} {S : List Nat} : ∀ (p acc r : List Nat), c ∉ p → TL.spl (c :: S) 0 acc (p ++ r) = TL.spl (c :: S) 0 (acc ++ p) r
  | [], acc, r, _ => by rw [List.append_nil]; rfl
  | x :: p, acc, r, h => by
    have hx : x ≠ c := fun e => h (e ▸ List.mem_cons_self)
    have hp : c ∉ p := fun e => h (List.mem_cons_of_mem _ e)
    rw [List.cons_append, TL.spl_miss (TL.pre_of_head S (p ++ r) hx), spl_free p _ r hp, List.append_assoc]
    rfl
theorem spl_jn {c : Nat} {S : List Nat} : ∀ (ps : List (List Nat)) (p acc : List Nat), c ∉ p → (∀ x ∈ ps, c ∉ x) → TL.spl (c :: S) 0 acc (jn (c :: S) (p :: ps)) = (acc ++ p) :: ps
  | [], p, acc, h, _ => by
    have e := spl_free (S := S) p acc [] h
    rw [List.append_nil, TL.spl_nil] at e
    exact e
  | q :: ps, p, acc, h, hs => by
    have e := spl_free (S := S) p acc ((c :: S) ++ jn (c :: S) (q :: ps)) h
    show TL.spl (c :: S) 0 acc (p ++ ((c :: S) ++ jn (c :: S) (q :: ps))) = _
    have hp : TL.pre (c :: S) (c :: (S ++ jn (c :: S) (q :: ps))) = true := TL.pre_self (c :: S) _
    rw [e, List.cons_append, TL.spl_hit hp, TL.spl_pass]
    have e2 : (S ++ jn (c :: S) (q :: ps)).drop ((c :: S).length - 1) = jn (c :: S) (q :: ps) := by
      show (S ++ jn (c :: S) (q :: ps)).drop S.length = _
      exact List.drop_left
    rw [e2, spl_jn ps q [] (hs q List.mem_cons_self) fun x hx => hs x (List.mem_cons_of_mem _ hx)]
    rfl
theorem map_tl_inj : ∀ {a b : List Str}, a.map (fun x => x.cps.toList) = b.map (fun x => x.cps.toList) → a = b
  | [], [], _ => rfl
  | [], _ :: _, h => nomatch h
  | _ :: _, [], h => nomatch h
  | x :: a, y :: b, h => by
    rw [List.map_cons, List.map_cons, List.cons.injEq] at h
    rw [str_ext h.1, map_tl_inj h.2]
/-- cut where it was put together -/
theorem split_join {sep : Str} {c : Nat} {S : List Nat} (hs : sep.cps.toList = c :: S) (hk : sep.cps.all (· < 256) = true) {ps : List Str} (hn : ps ≠ []) (hf : ∀ p ∈ ps, c ∉ p.cps.toList) : Txt.split (Str.join sep ps) sep = ps := by
  refine map_tl_inj ?_
  have hy : TL.tl sep ≠ [] := by
    show sep.cps.toList ≠ []
    rw [hs]
    exact fun z => nomatch z
  have e := TL.split_spl (Str.join sep ps) sep hy (TL.kind_ok hk)
  refine e.trans ?_
  show TL.spl sep.cps.toList 0 [] (Str.join sep ps).cps.toList = _
  rw [tl_join, hs]
  cases ps with
  | nil => exact absurd rfl hn
  | cons p ps =>
    rw [List.map_cons, spl_jn _ _ _ (hf p List.mem_cons_self) (fun x hx => by
      obtain ⟨y, hy, rfl⟩ := List.mem_map.mp hx
      exact hf y (List.mem_cons_of_mem _ hy))]
    rfl
theorem join_split (x y : Str) : Str.join y (Txt.split x y) = x := StrLaws.join_split x y
theorem split_ne (x y : Str) : Txt.split x y ≠ [] := by
  have h := PyProof.Rows.split_pos x y
  intro e
  rw [e] at h
  exact absurd h (by decide)
end SQ
/-! Static methods, called by position and by keyword; instances made with a starred list or nothing. -/
namespace SQ
open PySem PySem.Spec PyProof.Rows L2
structure SMet (K : PySem.W.Frag) (C : Addr) (mc : Value) (m : Str) (p g : Addr) : Prop where
  rd : PySem.W.readsIn K C mc = true
  ga : PySem.W.specialIn K (.ref C) "__getattribute__" = some (some (.builtin "type.__getattribute__"))
  at_ : PySem.W.findCls K (.ref C) mc m = some (.get (.builtin "staticmethod.__get__") (.ref p) .none (.ref C))
  rc : ∃ rest, PySem.W.recIn K p "staticmethod" = some (.ref g :: rest)
  kp : PySem.W.keepIn K (.ref g) = true
section
variable {X : Cx} {CX : CXT} {k : Nat} {C p g : Addr} {mc : Value} {sp : Sp} {E : XK} {o e : Expr} {es : List Expr} {x m : Str} {pos apos kpos sp_ : Pos} {ta te : TE} {t : TA} {pl : Sem Bool}
theorem getsm_ok {pins : List (Addr × Obj)} {σ : L2.St} {H : Hp} {s : Shared} {A : Around} {E : Value → Shared → Prop} {Q : Value × List Value → Shared → Prop} (I : Inv X pins σ H s) (c : SMet X.K C mc m p g)
    (h : ∀ t, Inv X pins σ H t → Q (.ref g, []) t) : wpAny (model X.prog X.w) A (getMethod (.ref C) m pl) Q E s := by
  obtain ⟨rest, hp⟩ := c.rc
  refine PySem.W.method_cls I.kIn c.ga (PySem.W.cls_bind I.kIn c.rd c.at_ ?_)
  exact wpAny_call (PySem.W.sm_get (s := { s with toks := s.toks + 1 }) I.kIn hp (PySem.W.handed_on rfl (h _ (I.tok _))))
/-- C.m(e, ..) -/
theorem pe_smeth (he : PE X o ta) (c : SMet X.K C mc m p g) (F : FnR X.prog X.w X.K X.mg X.base CX k g sp) (hr : Room k X.A) (hx : Passes CX X E) (ha : PA X (e :: es) t)
    (hst : starEach (e :: es) X.env = (false, eval e X.env) :: starEach es X.env := by rfl) (hpl : (backTo pos (starEach es X.env)).any (·.1) = false := by rfl)
    (ht : eval (.Call (.Attribute o m apos) (e :: es) [] pos) X.env = (do
      let v ← eval o X.env
      standAt apos.atName
      let (fn, pre) ← holding [v] (getMethod v m pl)
      callWith pos fn pre (backTo pos (starEach (e :: es) X.env)) (backToKw pos (keywordEach [] X.env))) := by rfl) :
    PE X (.Call (.Attribute o m apos) (e :: es) [] pos) (fun σ H Q => ta σ H fun y H1 => y = .ref C ∧ t σ H1 fun vs H2 => sp vs H2 Q E) := by
  constructor
  intro pins s σ H Q I h
  refine PySem.W.methodCall_KW (pl := pl) (thn (he.run pins s σ H _ I h) fun u s1 ⟨y, H1, I1, ry, ey, q⟩ => ?_) ht
  subst ey
  obtain rfl : u = Value.ref C := ry
  refine getsm_ok I1 c fun s2 I2 => ?_
  refine PySem.W.callWith_K (h₀ := X.base) I2.ok.mod.kin c.kp (thn (ha.run pos pins s2 σ H1 _ I2 q) fun us s3 ⟨vs, H2, I3, rv, q2⟩ => ⟨I3.kIn, ?_⟩) hst hpl
  exact wpAny_call (run_fnR F hr hx I3 rv q2)
/-- C.m(f=e) -/
theorem pe_smethK {fd : FuncData} {f : Str} (he : PE X o ta) (c : SMet X.K C mc m p g) (F : FnOk X.prog X.w X.K X.mg X.base CX k g fd [f] sp) (hr : Room k X.A) (hb : ∀ (s : Shared) (u : Value), BindsTo s fd ⟨[], [(f, u)]⟩ [(f, u)]) (hx : Passes CX X E) (ha : PE X e te)
    (ht : eval (.Call (.Attribute o m apos) [] [⟨some f, e, kpos⟩] pos) X.env = (do
      let v ← eval o X.env
      standAt apos.atName
      let (fn, pre) ← holding [v] (getMethod v m pl)
      callWith pos fn pre (backTo pos (starEach [] X.env)) (backToKw pos (keywordEach [⟨some f, e, kpos⟩] X.env))) := by rfl) :
    PE X (.Call (.Attribute o m apos) [] [⟨some f, e, kpos⟩] pos) (fun σ H Q => ta σ H fun y H1 => y = .ref C ∧ te σ H1 fun v H2 => ∃ v', [v] = [v'] ∧ sp [v'] H2 Q E) := by
  constructor
  intro pins s σ H Q I h
  refine PySem.W.methodCall_KW (pl := pl) (thn (he.run pins s σ H _ I h) fun u s1 ⟨y, H1, I1, ry, ey, q⟩ => ?_) ht
  subst ey
  obtain rfl : u = Value.ref C := ry
  refine getsm_ok I1 c fun s2 I2 => ?_
  refine PySem.W.callWith_KW0 (h₀ := X.base) I2.ok.mod.kin c.kp rfl ?_
  have hk : PK X [⟨some f, e, kpos⟩] (tCons te tNil) := pk_cons ha pk_nil
  refine thn (hk.run pos pins s2 σ H1 (fun zs H2 => ∃ v, zs = [v] ∧ sp [v] H2 Q E) I2 ?_) ?_
  · exact q
  · intro us s3 ⟨zs, H2, I3, r1, v, ez, q2⟩
    subst ez
    refine ⟨I3.kIn, ?_⟩
    cases r1 with
    | cons rv rr =>
      cases rr
      rename_i u
      show wpAny _ _ (call (.ref g) [] [(f, u)]) _ _ _
      refine wpAny_call (codeAny_mono (F.run X.A X.stack s3 H2 ⟨[], [(f, u)]⟩ [u] [v] Q E hr I3.env0 (hb s3 u) (.cons rv .nil) q2) fun r s' hq => ?_)
      cases r with
      | error e => exact hx pins σ H2 s3 e s' I3 hq
      | ok fl => cases fl with
        | ret u => exact I3.after hq
        | next => exact False.elim hq
        | brk => exact False.elim hq
        | cont => exact False.elim hq
/-- the instance is made, what __init__ lets out being taken at these slots -/
theorem make_at {f : Addr} {pins : List (Addr × Obj)} {σ : L2.St} {H : Hp} {s : Shared} {Q : VK} {us : List Value} {vs : List V} (M : Mk X.K C f) (F : FnR X.prog X.w X.K X.mg X.base CX k f sp) (hr : Room (k + 1) X.A) (hx : PassesAt CX X σ E) (I : Inv X pins σ H s) (r : Vals vs us)
    (h : ∀ q dx, H q = none → H dx = none → dx ≠ q → sp (V.ref q :: vs) (upd (upd H dx (.own q)) q (.ins C dx [])) (fun v H2 => v = .non ∧ Q (.ref q) H2) E) :
    wpAny (model X.prog X.w) X.A (call (.ref C) us) (EP X pins σ Q) X.xe s := by
  have J := Inv.made (C := C) I
  have hsp := h (s.heap.objs.size + 1) s.heap.objs.size (I.hok.fresh (Nat.le_succ _)) (I.hok.fresh (Nat.le_refl _)) (fun z => Nat.succ_ne_self _ z.symm)
  have rs : Vals (V.ref (s.heap.objs.size + 1) :: vs) (Value.ref (s.heap.objs.size + 1) :: us) := .cons rfl r
  refine wpAny_call (make_map (f := f) I.kIn M.makes M.init (beq_iff_eq.mp M.fn) ?_)
  refine codeAny_mono (F _ X.stack _ _ _ _ _ E (hr.make C us []) (J.env0.make C us []) rs hsp) ?_
  intro r t ht
  rcases r with er | (_ | _ | _ | u)
  · exact hx pins _ _ er t J ht
  · exact ht.elim
  · exact ht.elim
  · exact ht.elim
  · obtain ⟨v, G, J2, rv, rfl, q2⟩ := J.after ht
    exact ⟨rv, V.ref (s.heap.objs.size + 1), G, J2, rfl, q2⟩
/-- C(*e) in a try -/
theorem pe_makeST {f : Addr} {E : L2.St → XK} (Kx : PySem.W.Frag) (hK : X.K = Kx) (M : Mk X.K C f) (F : FnR X.prog X.w X.K X.mg X.base CX k f sp) (hr : Room (k + 1) X.A) (hg : Gl X x) (hm : X.mg x = some (.ref C)) (hx : ∀ σ, PassesAt CX X σ (E σ)) (he : PE X e te) (hdb : (x == ("__debug__" : Str)) = false := by decide)
    (hst : starEach [.Starred e sp_] X.env = [(true, eval e X.env)] := by rfl) :
    PE X (.Call (.Name x apos) [.Starred e sp_] [] pos) (fun σ H Q => te σ H fun y H1 => ∃ a xs, y = V.ref a ∧ (SqT Kx H1 a xs ∨ SqL Kx H1 a xs) ∧ ∀ q dx, H1 q = none → H1 dx = none → dx ≠ q → sp (V.ref q :: xs) (upd (upd H1 dx (.own q)) q (.ins C dx [])) (fun v H2 => v = .non ∧ Q (.ref q) H2) (E σ)) := by
  subst hK
  constructor
  intro pins s σ H Q I h
  refine wpAny_Call_Name_kw (ld_glob I hg hm ?_ hdb)
  refine PySem.W.callWith_S (h₀ := X.base) I.ok.mod.kin M.kp (thn (he.run pins s σ H _ I h) fun v s1 ⟨y, H1, I1, ry, a, xs, ey, hxs, q⟩ => ?_) hst
  subst ey
  obtain rfl : v = Value.ref a := ry
  exact StX.star_any I1 hxs fun us s2 I2 rv => ⟨I2.kIn, make_at M F hr (hx σ) I2 rv q⟩
/-- C(*e), C() by a positional promise of __init__ -/
theorem pe_makeS {f : Addr} (M : Mk X.K C f) (F : FnR X.prog X.w X.K X.mg X.base CX k f sp) (hr : Room (k + 1) X.A) (hg : Gl X x) (hm : X.mg x = some (.ref C)) (hx : Passes CX X E) (he : PE X e te) (hdb : (x == ("__debug__" : Str)) = false := by decide)
    (hst : starEach [.Starred e sp_] X.env = [(true, eval e X.env)] := by rfl) :
    PE X (.Call (.Name x apos) [.Starred e sp_] [] pos) (fun σ H Q => te σ H fun y H1 => ∃ a xs, y = V.ref a ∧ (SqT X.K H1 a xs ∨ SqL X.K H1 a xs) ∧ ∀ q dx, H1 q = none → H1 dx = none → dx ≠ q → sp (V.ref q :: xs) (upd (upd H1 dx (.own q)) q (.ins C dx [])) (fun v H2 => v = .non ∧ Q (.ref q) H2) E) := by
  constructor
  intro pins s σ H Q I h
  refine wpAny_Call_Name_kw (ld_glob I hg hm ?_ hdb)
  refine PySem.W.callWith_S (h₀ := X.base) I.ok.mod.kin M.kp (thn (he.run pins s σ H _ I h) fun v s1 ⟨y, H1, I1, ry, a, xs, ey, hxs, q⟩ => ?_) hst
  subst ey
  obtain rfl : v = Value.ref a := ry
  exact StX.star_any I1 hxs fun us s2 I2 rv => ⟨I2.kIn, StX.run_makeR M F hr hx I2 rv q⟩
theorem pe_make0R {f : Addr} (M : Mk X.K C f) (F : FnR X.prog X.w X.K X.mg X.base CX k f sp) (hr : Room (k + 1) X.A) (hg : Gl X x) (hm : X.mg x = some (.ref C)) (hx : Passes CX X E) (hdb : (x == ("__debug__" : Str)) = false := by decide) :
    PE X (.Call (.Name x apos) [] [] pos) (fun σ H Q => ∀ q dx, H q = none → H dx = none → dx ≠ q → sp [V.ref q] (upd (upd H dx (.own q)) q (.ins C dx [])) (fun v H2 => v = .non ∧ Q (.ref q) H2) E) := by
  constructor
  intro pins s σ H Q I h
  refine wpAny_Call_Name_kw (ld_glob I hg hm ?_ hdb)
  refine PySem.W.callWith_K0 I.kIn M.kp ?_
  show wpAny _ _ (call (.ref C) []) _ _ _
  exact StX.run_makeR M F hr hx I .nil h
end
end SQ
/-! The law's end for promises as in SqG where code objects are made: their tables are tracked. -/
namespace SQ
open PySem PySem.Spec PyProof.Rows L2
abbrev tab0 : Obj := { cls := .none, data := .fields #[] }
abbrev lst0 (vs : List Value) : Obj := { cls := .type "list", data := .seq vs.toArray }
/-- what may be tracked at the law's call: the script, the tables -/
def Trk (a : Addr) (ts : List Addr) (H : Hp) : Prop := ∀ b u, H b = some u → (b = a ∧ ∃ o xs, u = .frz o (.lst xs)) ∨ (b ∈ ts ∧ u = .tbl #[])
section
variable {P : Program} {w : World} {K : PySem.W.Frag} {mg mb : Str → Option Value} {s : Shared} {a : Addr} {cs : List (Addr × Addr)} {vs : List Value} {H : Hp}
theorem trk_data (ha : s.heap.get? a = some (lst0 vs)) (hT : ∀ p ∈ cs, s.heap.get? p.2 = some tab0) (tr : Trk a (cs.map (·.2)) H) {b : Addr} {o : Obj} (q : s.heap.get? b = some o)
    (n1 : ∀ l n, o.data ≠ .seq l n) (n2 : o.data ≠ .fields #[]) : H b = none := by
  cases z : H b with
  | none => rfl
  | some u =>
    rcases tr b u z with ⟨rfl, _⟩ | ⟨hm, _⟩
    · rw [ha] at q
      cases q
      exact absurd rfl (n1 _ _)
    · obtain ⟨p, hp, rfl⟩ := List.mem_map.mp hm
      rw [hT p hp] at q
      cases q
      exact absurd rfl n2
theorem trk_ns (ha : s.heap.get? a = some (lst0 vs)) (hT : ∀ p ∈ cs, s.heap.get? p.2 = some tab0) (tr : Trk a (cs.map (·.2)) H) {b : Addr} {m : Str → Option Value} : s.heap.Ns b m → (hidT s.heap H).Ns b m := by
  rintro ⟨o, es, ep, q, d, r⟩
  refine ⟨o, es, ep, hidT_get q (trk_data ha hT tr q (fun l n z => ?_) fun z => ?_), d, r⟩ <;> (rw [d] at z; cases z)
theorem trk_in (KX : K.In s.heap) (nT : ∀ p ∈ cs, K.lookup p.2 = none) (nA : H a ≠ none → K.lookup a = none) (tr : Trk a (cs.map (·.2)) H) : K.In (hidT s.heap H) := by
  intro b o q
  refine hidT_get (KX b o q) ?_
  cases z : H b with
  | none => rfl
  | some u =>
    rcases tr b u z with ⟨rfl, _⟩ | ⟨hm, _⟩
    · rw [nA (by rw [z]; simp)] at q
      cases q
    · obtain ⟨p, hp, rfl⟩ := List.mem_map.mp hm
      rw [nT p hp] at q
      cases q
theorem trk_tab (hns : s.heap.Ns mainGlobals mg) (ha : s.heap.get? a = some (lst0 vs)) (hT : ∀ p ∈ cs, s.heap.get? p.2 = some tab0) (C : ∀ p ∈ cs, PySem.W.CodeHd s.heap p.1 p.2)
    (hbm : ∃ (bm : Addr) (ob : Obj), mg "__builtins__" = some (.ref bm) ∧ bm ≠ builtinsNs ∧ s.heap.get? bm = some ob ∧ ob.cls = .type "module" ∧ ob.dict = some builtinsNs ∧ ob.data = .plain)
    (tr : Trk a (cs.map (·.2)) H) : ∀ p ∈ cs, LamX.TabB (hidT s.heap H) mg p.1 p.2 := by
  intro p hp
  have tp := hT p hp
  have nm : mainGlobals ≠ p.2 := by
    intro z
    obtain ⟨o, es, ep, q, d, _⟩ := hns
    rw [z, tp] at q
    cases q
    cases d
  refine ⟨?_, ?_, nm⟩
  · obtain ⟨o, us, fi, t1, fl, t2, b, tx, t3, q, r1, r2, r3, rest⟩ := C p hp
    refine ⟨o, us, fi, t1, fl, t2, b, tx, t3, hidT_get q (trk_data ha hT tr q (fun l n z => ?_) fun z => ?_), r1, r2, r3, rest⟩
    · rw [r2] at z
      cases z
    · rw [r2] at z
      cases z
      simp at r3
  · obtain ⟨bm, ob, b1, b2, b3, b4, b5, b6⟩ := hbm
    refine ⟨bm, ob, b1, b2, ?_, ?_, hidT_get b3 (trk_data ha hT tr b3 (fun l n z => ?_) fun z => ?_), b4, b5, b6⟩
    · rintro rfl
      obtain ⟨o, es, ep, q, d, _⟩ := hns
      rw [q] at b3
      cases b3
      rw [d] at b6
      cases b6
    · rintro rfl
      rw [tp] at b3
      cases b3
      cases b6
    · rw [b6] at z
      cases z
    · rw [b6] at z
      cases z
end
/-- the law's call: such a promise, tables tracked -/
theorem lawGT {P : Program} {w : World} {K : PySem.W.Frag} {mg mb : Str → Option Value} {k : Nat} {fa a : Addr} {cs : List (Addr × Addr)}
    {fd : FuncData} {x : Str} {sp : Sp} {s : Shared} {vs : List Value} {ns : List Int}
    (KX : K.In s.heap) (hns : s.heap.Ns mainGlobals mg) (hb : s.heap.Ns builtinsNs mb) (hbb : ∀ y : Str, y ≠ "__name__" → mb y = bootBuiltins y) (hlim : s.heap.NoLimit) (hg : s.gens = #[])
    (hT : ∀ p ∈ cs, s.heap.get? p.2 = some tab0) (nT : ∀ p ∈ cs, K.lookup p.2 = none) (C : ∀ p ∈ cs, PySem.W.CodeHd s.heap p.1 p.2)
    (hbm : ∃ (bm : Addr) (ob : Obj), mg "__builtins__" = some (.ref bm) ∧ bm ≠ builtinsNs ∧ s.heap.get? bm = some ob ∧ ob.cls = .type "module" ∧ ob.dict = some builtinsNs ∧ ob.data = .plain)
    (ha : s.heap.get? a = some (lst0 vs)) (hi : IntsAre vs ns) (hl : ns.length ≤ sizeLine) (hr : Room k callerA)
    (F : ∀ base : Heap, K.In base → base.Ns mainGlobals mg → (∀ p ∈ cs, LamX.TabB base mg p.1 p.2) → FnG P w K mg base CX0 k fa fd [x] sp)
    (hbind : ∀ (t : Shared) (u : Value), BindsTo t fd ⟨[u], []⟩ [(x, u)])
    (hsp : ∀ G : Hp, (∀ p ∈ cs, G p.2 = some (.tbl #[])) → SqL K G a (ns.map V.int) → sp [.ref a] G (fun v _ => v = .bl true) E0) :
    codeAny (model P w) callerA (.call (.ref fa) ⟨[.ref a], []⟩) (fun r t => r = .ok (.ret (.bool true)) ∧ OldK s.heap t.heap ∧ t.os = s.os ∧ AllBare t.gens) s := by
  have rv := vals_ints hi
  have inT : ∀ p ∈ cs, p.2 ∈ cs.map (·.2) := fun p hp => List.mem_map.mpr ⟨p, hp, rfl⟩
  have aT : a ∉ cs.map (·.2) := by
    intro z
    obtain ⟨p, hp, e⟩ := List.mem_map.mp z
    have e' : p.2 = a := e
    have t := hT p hp
    rw [e', ha] at t
    have t' : (lst0 vs).data = tab0.data := congrArg Obj.data (Option.some.inj t)
    cases t'
  have go : ∀ H : Hp, (∀ p ∈ cs, H p.2 = some (.tbl #[])) → Trk a (cs.map (·.2)) H → SqL K H a (ns.map V.int) → HOk P w H s.heap → (H a ≠ none → K.lookup a = none) →
      codeAny (model P w) callerA (.call (.ref fa) ⟨[.ref a], []⟩) (fun r t => r = .ok (.ret (.bool true)) ∧ OldK s.heap t.heap ∧ t.os = s.os ∧ AllBare t.gens) s := by
    intro H hH tr hS hok nA
    have kB := trk_in KX nT nA tr
    have gB := trk_ns ha hT tr hns
    have md : Mod K mg (hidT s.heap H) := ⟨kB, gB, ⟨mb, trk_ns ha hT tr hb, hbb⟩, by
      obtain ⟨mc, h1, h2⟩ := hlim
      exact ⟨mc, trk_ns ha hT tr h1, h2⟩⟩
    have en : Env0 P w K mg (hidT s.heap H) callerA [] s H := {
      frames := rfl
      mod := md
      bs := fun b o q => of_hidT q
      bsz := Nat.le_of_eq (hidT_size _ _)
      funs := trivial
      frf := fun b z => nomatch (show b ∈ ([] : List Addr) from z)
      hok := hok
      bare := .of_eq hg }
    refine codeAny_mono ((F _ kB gB (trk_tab hns ha hT C hbm tr)).go callerA rfl [] s H ⟨[.ref a], []⟩ [.ref a] [.ref a] _ _ hr en (hbind s (.ref a)) (.cons rfl .nil) (hsp H hH hS)) ?_
    intro r t h
    rcases r with er | (_ | _ | _ | u)
    · exact (show False from h).elim
    · exact h.elim
    · exact h.elim
    · exact h.elim
    · obtain ⟨v, H', os, bare, un, hok', r', q⟩ := h
      have q' : v = .bl true := q
      subst q'
      obtain rfl : u = Value.bool true := r'
      have kept : ∀ b o, b ∉ cs.map (·.2) → s.heap.get? b = some o → t.heap.get? b = some o := by
        intro b o nb e
        cases z : H b with
        | none => exact un.keep b o e z (fun y => nomatch (show b ∈ ([] : List Addr) from y)) (fun y => nomatch y)
        | some u =>
          rcases tr b u z with ⟨_, ob, xs, rfl⟩ | ⟨hm, _⟩
          · obtain ⟨e1, _⟩ := hok b _ z
            obtain ⟨e2, _⟩ := hok' b _ (un.frzs b ob _ z)
            rw [e] at e1
            cases e1
            exact e2
          · exact absurd hm nb
      have grew : ∀ p ∈ cs, ∃ more : Array Value, t.heap.get? p.2 = some { cls := .none, data := .fields more } := by
        intro p hp
        obtain ⟨m, z⟩ := un.tbls p.2 #[] (hH p hp)
        exact ⟨_, hok' p.2 _ z⟩
      refine ⟨rfl, ⟨fun b o e => ?_, fun b o e => ?_⟩, os, bare⟩
      all_goals
        by_cases hm : b ∈ cs.map (·.2)
      · obtain ⟨p, hp, rfl⟩ := List.mem_map.mp hm
        obtain ⟨m, hm2⟩ := grew p hp
        rw [hT p hp] at e
        cases e
        refine .inr (.inl ⟨((C p hp).tab (hT p hp)).isCodeTable, rfl, #[], m, rfl, ?_⟩)
        rw [Array.empty_append]
        exact hm2
      · exact .inl (kept b o hm e)
      · obtain ⟨p, hp, rfl⟩ := List.mem_map.mp hm
        obtain ⟨m, hm2⟩ := grew p hp
        exact ⟨_, hm2⟩
      · exact ⟨o, kept b o hm e⟩
  let G0 : Hp := fun b => if b ∈ cs.map (·.2) then some (.tbl #[]) else none
  have gT : ∀ b, b ∈ cs.map (·.2) → G0 b = some (.tbl #[]) := fun b hm => if_pos hm
  have gN : ∀ b, b ∉ cs.map (·.2) → G0 b = none := fun b hm => if_neg hm
  have okT : ∀ (X : Hp) b, b ∈ cs.map (·.2) → ObjOk P w X s.heap b (.tbl #[]) := by
    intro X b hm
    obtain ⟨p, hp, rfl⟩ := List.mem_map.mp hm
    exact hT p hp
  cases hk : K.lookup a with
  | some o =>
    have q := KX a o hk
    rw [ha] at q
    cases q
    refine go G0 (fun p hp => gT _ (inT p hp)) (fun b u z => ?_) (.inr ⟨_, vs.toArray, _, hk, rfl, rfl, rfl, ?_, by simpa using rv⟩) (fun b u z => ?_) (fun z => absurd (gN a aT) z)
    · by_cases hm : b ∈ cs.map (·.2)
      · rw [gT b hm] at z
        exact .inr ⟨hm, (Option.some.inj z).symm⟩
      · rw [gN b hm] at z
        cases z
    · rw [List.size_toArray, hi.length]
      exact hl
    · by_cases hm : b ∈ cs.map (·.2)
      · rw [gT b hm] at z
        cases z
        exact okT _ b hm
      · rw [gN b hm] at z
        cases z
  | none =>
    have hu : ∀ b u, upd G0 a (.frz (lst0 vs) (.lst (ns.map V.int))) b = some u → (b = a ∧ u = .frz (lst0 vs) (.lst (ns.map V.int))) ∨ (b ∈ cs.map (·.2) ∧ u = .tbl #[]) := by
      intro b u z
      by_cases hb : b = a
      · subst hb
        rw [upd_same] at z
        exact .inl ⟨rfl, (Option.some.inj z).symm⟩
      · rw [upd_ne hb] at z
        by_cases hm : b ∈ cs.map (·.2)
        · rw [gT b hm] at z
          exact .inr ⟨hm, (Option.some.inj z).symm⟩
        · rw [gN b hm] at z
          cases z
    refine go (upd G0 a (.frz (lst0 vs) (.lst (ns.map V.int)))) (fun p hp => ?_) (fun b u z => ?_) (.inl (.inr ⟨lst0 vs, upd_same⟩)) (fun b u z => ?_) (fun _ => hk)
    · have ne : p.2 ≠ a := fun e => aT (by rw [← e]; exact inT p hp)
      rw [upd_ne ne]
      exact gT _ (inT p hp)
    · rcases hu b u z with ⟨e1, e2⟩ | e
      · exact .inl ⟨e1, _, _, e2⟩
      · exact .inr e
    · rcases hu b u z with ⟨rfl, rfl⟩ | ⟨hm, rfl⟩
      · exact ⟨ha, by rw [List.length_map]; exact hl, vs, _, rv, ha⟩
      · exact okT _ b hm
/-- what is to be known of the law at the head's heap -/
def AtG (l : PySem.W.OpenLaw) (w : World) (K : PySem.W.Frag) (k n : Nat) (x : Str) (mg : Str → Option Value) (fa : Addr) (h : Heap) : Prop :=
  ∃ (fd : FuncData) (cs : List (Addr × Addr)) (sp : Sp), (∀ p ∈ cs, h.get? p.2 = some tab0 ∧ K.lookup p.2 = none ∧ PySem.W.CodeHd h p.1 p.2) ∧ (∀ (s : Shared) (u : Value), BindsTo s fd ⟨[u], []⟩ [(x, u)]) ∧
    (∀ (H : Hp) (a : Addr) (ns : List Int), ns.length ≤ n → (∀ z ∈ ns, Builtin.Int.intBits z ≤ 1048576) → (∀ p ∈ cs, H p.2 = some (.tbl #[])) → SqL K H a (ns.map V.int) → sp [.ref a] H (fun v _ => v = .bl true) E0) ∧
    ∀ base : Heap, K.In base → base.Ns mainGlobals mg → (∀ p ∈ cs, LamX.TabB base mg p.1 p.2) → FnG l.prog w K mg base CX0 k fa fd [x] sp
theorem walkGT {l : PySem.W.OpenLaw} {n k : Nat} {q : Program} {loose : List Str} {XP : (Str → Option Value) → Heap → Prop} {YP : World → Heap → Prop} {d : DefRec} {K : Params → PySem.W.Frag} {x : Str}
    (hn : l.most = some n) (hn2 : n ≤ sizeLine) (hdf : d.params.defaults = []) (hr : Room k callerA) (hY : ∀ (w : World) (h : Heap), YP w h → (K w.params).In h)
    (F : ∀ (w : World) (mg : Str → Option Value) (fa : Addr) (h : Heap), YP w h → (K w.params).In h → h.Ns mainGlobals mg → mg d.name = some (.ref fa) → AtG l w (K w.params) k n x mg fa h) :
    PySem.W.WalkO q loose XP YP l.row.toRowW d [] (fun f vs => PySem.call f vs) := by
  refine Att.attach_callB hn hdf ?_
  intro w s0 s1 mg mb fa o pm cd doc a vs ns G Y ho hd hcd hmg hobj hints hlen hbits hg
  have KX := hY w _ Y
  obtain ⟨fd, cs, sp, hc, hb, hsp, hF⟩ := F w mg fa _ Y KX G.T.g hmg
  exact lawGT KX G.T.g G.T.b G.T.builtins G.T.nolimit hg (fun p hp => (hc p hp).1) (fun p hp => (hc p hp).2.1) (fun p hp => (hc p hp).2.2) G.T.bmain hobj hints (Nat.le_trans hlen hn2) hr hF hb
    (fun H hH hS => hsp H a ns hlen hbits hH hS)
end SQ
/-! Sets of texts: set(a list of texts), sorted(such a set). -/
namespace SQ
open PySem PySem.Spec PyProof.Rows L2
/-- the text that a member is -/
def txK (e : Int × Value) : Str := match e.2 with
  | .str x _ => x
  | _ => ""
def IsTx (e : Int × Value) : Prop := ∃ x t, e.2 = Value.str x t
/-- the table of such a set can be walked -/
structure TxW (w : World) (D : Froz.SD) (l : List Str) : Prop where
  tx : ∀ e ∈ D.1.toList, IsTx e
  pm : (D.1.toList.map txK).Perm l
  nd : l.Nodup
  ris : Ris D.2.2.place.toList
  led : w.params.followText "set-order" = true ∨ D.2.2.led = true
theorem txw_tail {w : World} {ep : Nat} {es1 : Array (Int × Value)} {t2 : SetTable} {wd : Bool} {l : List Str} (W : TxW w (es1, ep, t2) l) : TxW w (Froz.tailTx ep es1 t2 wd) l := by
  unfold Froz.tailTx
  by_cases c : (!wd && t2.tooFull) = true
  · rw [if_pos c]
    have p := relayAll_perm t2 es1 (SetTable.grown es1.size)
    exact ⟨fun e he => W.tx e (p.mem_iff.mp he), (p.map txK).trans W.pm, W.nd, relayAll_ris t2 es1 _, W.led.imp id fun z => (relayAll_led t2 es1 _).trans z⟩
  · rw [if_neg c]
    exact ⟨W.tx, W.pm, W.nd, W.ris, W.led⟩
theorem txw_add {w : World} {D : Froz.SD} {l : List Str} {k : Str} (u : Tok) (W : TxW w D l) (hk : k ∉ l) : TxW w (Froz.addTx (hashStr w k) (.str k u) D) (k :: l) := by
  obtain ⟨es, ep, t⟩ := D
  have p := layNew_perm t es (hashStr w k) (.str k u)
  have r := layNew_ris t es (hashStr w k) (.str k u) W.ris
  have d := layNew_led t es (hashStr w k) (.str k u)
  rw [Array.toList_push] at p
  have q := p.trans (List.perm_append_singleton (hashStr w k, Value.str k u) es.toList)
  refine txw_tail ⟨fun e he => ?_, (q.map txK).trans (W.pm.cons k), List.nodup_cons.mpr ⟨hk, W.nd⟩, ?_, ?_⟩
  · rcases List.mem_cons.mp (q.mem_iff.mp he) with z | z
    · exact ⟨k, u, by rw [z]⟩
    · exact W.tx e z
  · show Ris (if (layNew t es (hashStr w k) (.str k u)).2.1.plain = true then _ else _ : SetTable).place.toList
    split <;> exact r
  · refine W.led.imp id fun z => ?_
    show (if (layNew t es (hashStr w k) (.str k u)).2.1.plain = true then _ else _ : SetTable).led = true
    split <;> exact d.trans z
/-- the set of the texts l at a -/
def SetS (P : Program) (w : World) (h : Heap) (a : Addr) (l : List Str) : Prop := ∃ D, h.get? a = some (Froz.sObj "set" D) ∧ Froz.TxOk P w D l ∧ TxW w D l
theorem SetS.at {P : Program} {w : World} {h h' : Heap} {a : Addr} {l : List Str} (R : SetS P w h a l) (k : ∀ o, h.get? a = some o → h'.get? a = some o) : SetS P w h' a l := by
  obtain ⟨D, e, r⟩ := R
  exact ⟨D, k _ e, r⟩
/-- one more -/
def one_more (l : List Str) (k : Str) : List Str := if k ∈ l then l else k :: l
def uniq (xs : List Str) : List Str := xs.foldl one_more []
theorem fold_mem (k : Str) : ∀ (xs l : List Str), k ∈ xs.foldl one_more l ↔ k ∈ l ∨ k ∈ xs
  | [], l => by simp
  | x :: xs, l => by
    rw [List.foldl_cons, fold_mem k xs]
    unfold one_more
    by_cases h : x ∈ l
    · rw [if_pos h, List.mem_cons]
      constructor
      · exact fun z => z.elim .inl fun y => .inr (.inr y)
      · rintro (z | z | z)
        · exact .inl z
        · exact .inl (z ▸ h)
        · exact .inr z
    · rw [if_neg h, List.mem_cons, List.mem_cons]
      constructor
      · rintro ((z | z) | z)
        · exact .inr (.inl z)
        · exact .inl z
        · exact .inr (.inr z)
      · rintro (z | z | z)
        · exact .inl (.inr z)
        · exact .inl (.inl z)
        · exact .inr z
theorem uniq_mem {k : Str} {xs : List Str} : k ∈ uniq xs ↔ k ∈ xs := by
  unfold uniq
  rw [fold_mem]
  simp
theorem fold_nd : ∀ (xs l : List Str), l.Nodup → (xs.foldl one_more l).Nodup
  | [], l, h => h
  | x :: xs, l, h => by
    rw [List.foldl_cons]
    refine fold_nd xs _ ?_
    unfold one_more
    by_cases z : x ∈ l
    · rw [if_pos z]
      exact h
    · rw [if_neg z]
      exact List.nodup_cons.mpr ⟨z, h⟩
theorem uniq_nd (xs : List Str) : (uniq xs).Nodup := fold_nd xs [] List.nodup_nil
theorem fold_len : ∀ (xs l : List Str), (xs.foldl one_more l).length ≤ l.length + xs.length
  | [], l => by simp
  | x :: xs, l => by
    rw [List.foldl_cons]
    have h := fold_len xs (one_more l x)
    have h2 : (one_more l x).length ≤ l.length + 1 := by
      unfold one_more
      split
      · omega
      · simp
    rw [List.length_cons]
    omega
theorem uniq_len (xs : List Str) : (uniq xs).length ≤ xs.length := by
  have h := fold_len xs []
  simpa [uniq] using h
theorem uniq_take {xs : List Str} {i : Nat} {k : Str} (h : xs[i]? = some k) : uniq (xs.take (i + 1)) = one_more (uniq (xs.take i)) k := by
  unfold uniq
  rw [List.take_add_one, h, List.foldl_append]
  rfl
section
variable {P : Program} {w : World} {A : Around} {E : Value → Shared → Prop} {s : Shared} {a : Addr} {l : List Str}
theorem setS_there {k : Str} {u : Tok} {Q : Bool → Shared → Prop} (R : SetS P w s.heap a l) (hk : k ∈ l) (room : l.length < scanBound) (h : Q false s) : wpAny (model P w) A (setAddHashed a (.str k u) (hashStr w k)) Q E s := by
  obtain ⟨⟨es, ep, t⟩, ho, F, W⟩ := R
  have hd : (Froz.sObj "set" (es, ep, t)).data = .set es ep t := rfl
  have hel : ElemsOf (PySem.strKind P w) es.toList := F.el
  have hsz : es.size = l.length := F.sz
  obtain ⟨e0, m0, z0⟩ := (F.mem k).mp hk
  unfold setAddHashed setAddHashedIn
  refine wpAny_holding (wpAny_bind (wpAny_setState_of ho hd F.fit ?_))
  dsimp only
  rw [byScan_of rfl (by rw [hsz]; exact room) hel]
  simp only [↓reduceIte]
  unfold setAddByScan
  refine wpAny_bind (wpAny_bind (wpAny_rule (wpAny_bind (wpAny_setScan_of (knd := PySem.strKind P w) (k := k) (Froz.is_str k u) ho hd F.fit hel ?_))))
  cases hf : List.findIdx? (fun e => (PySem.strKind P w).is k e.2) es.toList with
  | none =>
    have c := List.findIdx?_eq_none_iff.mp hf e0 m0
    rw [z0] at c
    cases c
  | some j =>
    dsimp only
    exact wpAny_pure (wpAny_pure h)
theorem setS_add {k : Str} {u : Tok} {Q : Bool → Shared → Prop} (R : SetS P w s.heap a l) (room : l.length + 1 < scanBound)
    (h : ∀ b h', Heap.SameBut a s.heap h' → SetS P w h' a (one_more l k) → Q b { s with heap := h' }) : wpAny (model P w) A (setAddHashed a (.str k u) (hashStr w k)) Q E s := by
  unfold one_more at h
  by_cases hk : k ∈ l
  · rw [if_pos hk] at h
    exact setS_there R hk (by omega) (h false s.heap (Heap.SameBut.refl a s.heap) R)
  · rw [if_neg hk] at h
    obtain ⟨D, ho, F, W⟩ := R
    refine Froz.add_x ho F hk room (h true _ (Heap.SameBut.update ..) ⟨_, Froz.get_upd _ ho rfl, Froz.add_ok u F, txw_add u W hk⟩)
/-- the loop of the making -/
theorem fill_texts {I : Addr} {fp wr : List Addr} {G : Array GenState → Array GenState → Prop} {n : Nat} {Pv : Nat → Value → Prop} {St : Nat → Shared → Prop} {R : Result → Shared → Prop}
    (W : WalksS P w A.in1 I fp wr G n Pv St) (S : Addr) (hSf : S ∉ fp) (xs : List Str) (hn : n = xs.length) (hb : xs.length + 1 < scanBound) (hval : ∀ i v, Pv i v → ∃ k t, xs[i]? = some k ∧ v = .str k t) :
    ∀ (j i : Nat) (s : Shared), n - i = j → i ≤ n → St i s → SetS P w s.heap S (uniq (xs.take i)) →
      (∀ s', Moved (S :: wr) G s s' → SetS P w s'.heap S (uniq xs) → R (.ok (.ret .none)) s') →
      codeAny (model P w) A (.builtin "set.update.loop" ⟨[.ref S, .ref I], []⟩) R s := by
  have out : S ∉ wr := fun z => hSf (W.sub _ z)
  have sub : ∀ b ∈ wr, b ∈ S :: wr := fun b z => List.mem_cons_of_mem _ z
  intro j
  induction j with
  | zero =>
    intro i s ej hi st R0 k
    obtain rfl : i = n := by omega
    refine codeAny_builtin F.entry_set_update_loop ?_
    rw [Around.under_plainId F.plain_set_update_loop _]
    refine wpAny_bind (W.done s _ _ st fun s' mv => ?_)
    rw [List.take_of_length_le (by omega)] at R0
    exact wpAny_pure (k s' (mv.mono sub) (R0.at fun o e => mv.heap S o out e))
  | succ j ih =>
    intro i s ej hi st R0 k
    have lt : i < n := by omega
    refine codeAny_builtin F.entry_set_update_loop ?_
    rw [Around.under_plainId F.plain_set_update_loop _]
    refine wpAny_bind (W.item i s _ _ lt st fun v s' pv st' mv => ?_)
    obtain ⟨x, t, hx, rfl⟩ := hval i v pv
    have R1 : SetS P w s'.heap S (uniq (xs.take i)) := R0.at fun o e => mv.heap S o out e
    have ll := uniq_len (xs.take i)
    rw [List.length_take] at ll
    refine wpAny_bind (m := holding [Value.str x t] (setAdd S (.str x t))) (wpAny_holding ?_)
    unfold setAdd
    refine wpAny_holding (wpAny_bind ((PySem.strKind P w).pyHash (k := x) (Froz.is_str x t) ?_))
    refine setS_add (s := { s' with toks := s'.toks + 1 }) R1 (by omega) fun b h' sb R2 => ?_
    rw [← uniq_take hx] at R2
    refine wpAny_pure ⟨plainId_quiet F.plain_set_update_loop _, ih (i + 1) _ (by omega) lt (W.frame _ s' _ _ st' (Nat.le_succ _) fun c hc o e => ?_) R2 fun s2 mv2 R3 => k s2 (Moved.trans W.gtrans ((mv.mono sub).then_heap (Nat.le_succ _) fun c o hc e => ?_) mv2) R3⟩
    · exact (sb.2 c fun z => hSf (z ▸ hc)).trans e
    · exact (sb.2 c fun z => hc (z ▸ List.mem_cons_self)).trans e
abbrev newSet (w : World) : Obj := { cls := .type "set", dict := none, data := .set #[] 0 (.fresh 0 0 (!w.params.followText "set-order")) }
theorem setS_new {h : Heap} {xs : List Str} (e : h.get? a = some (newSet w)) : SetS P w h a (uniq (xs.take 0)) := by
  refine ⟨(#[], 0, .fresh 0 0 (!w.params.followText "set-order")), e, Froz.TxOk.nil rfl, fun e he => by simp at he, List.Perm.refl _, List.nodup_nil, List.Pairwise.nil, ?_⟩
  show _ ∨ (!w.params.followText "set-order") = true
  cases w.params.followText "set-order"
  · exact .inr rfl
  · exact .inl rfl
end
end SQ
namespace SQ
open PySem PySem.Spec PyProof.Rows L2
section
variable {P : Program} {w : World} {A : Around} {E : Value → Shared → Prop} {s : Shared}
theorem strs_at : ∀ {vs : List Value} {xs : List Str}, StrsAre vs xs → ∀ (i : Nat) (v : Value), vs[i]? = some v → ∃ k t, xs[i]? = some k ∧ v = .str k t
  | _, _, .nil, i, v, h => by simp at h
  | _, _, .cons x t hr, 0, v, h => by
    simp at h
    exact ⟨x, t, rfl, h.symm⟩
  | _, _, .cons x t hr, i + 1, v, h => by
    rw [List.getElem?_cons_succ] at h
    rw [List.getElem?_cons_succ]
    exact strs_at hr i v h
/-- set.__init__ over a list of texts -/
theorem init_texts {a l : Addr} {items : Array Value} {xs : List Str} {R : Value → Shared → Prop} (hh : A.handled = none) (ha : s.heap.get? a = some (newSet w)) (hl : s.heap.IsList l items) (hal : a ≠ l)
    (hx : StrsAre items.toList xs) (hb : xs.length + 1 < scanBound)
    (h : ∀ h' tk, SetS P w h' a (uniq xs) → (∀ b o, b ≠ a → s.heap.get? b = some o → h'.get? b = some o) → R .none { s with heap := h', toks := tk }) :
    codeAny (model P w) A (.call (.builtin "set.__init__") ⟨[.ref a, .ref l], []⟩) (wants R E) s := by
  have T : s.TypeIs (.ref a) "set" := ⟨_, ha, rfl⟩
  refine codeAny_call_builtin F.called_set.init.plain F.entry_set_init (check_set_init_1 T ?_)
  have len : items.size = xs.length := by
    rw [← Array.length_toList]
    exact StrsAre.length hx
  have il := hl
  obtain ⟨⟨lc, ld, ldt, lsl⟩, gl, rfl, ln, rfl⟩ := hl
  have n1 := F.sub_list_set
  have n2 := F.sub_list_frozenset
  have n3 : (Value.type "list" == Value.type "dict") = false := by decide
  unfold Builtin.«set.__init__» noKeywords Builtin.Frozenset.updateFrom
  generalize hPI : pyIter = PI
  wp_walk
  subst hPI
  refine wpAny_pyIter_list il (wpAny_bind (wpAny_runValue ?_))
  have h1 : A.in1.in1.handled = none := by simp [hh]
  have hal1 : a < s.heap.objs.size := Heap.lt_size ha
  have hll : l < s.heap.objs.size := Heap.lt_size gl
  refine fill_texts ((Walks.list h1 _ l (Nat.ne_of_lt hll) items).toS) a (by
    simp only [List.mem_cons, List.not_mem_nil, or_false, not_or]
    exact ⟨Nat.ne_of_lt hal1, hal⟩) xs len hb (fun i v z => strs_at hx i v (by rw [Array.getElem?_toList]; exact z)) (items.size - 0) 0 _ rfl (Nat.zero_le _)
    ⟨⟨_, Heap.get?_push_size _ rfl, rfl, rfl⟩, il.push _⟩ (setS_new (Heap.get?_push_of_some _ ha)) fun s' mv R1 => ?_
  obtain ⟨h', g', d', tk', os'⟩ := s'
  obtain rfl : g' = s.gens := mv.gens
  obtain rfl : d' = s.drawn := mv.drawn
  obtain rfl : os' = s.os := mv.os
  show wpAny _ _ _ _ _ _
  refine wpAny_pure (wpAny_pure (h h' tk' R1 fun b o hb0 e => ?_))
  refine mv.heap b o ?_ (Heap.get?_push_of_some _ e)
  simp only [List.mem_cons, List.not_mem_nil, or_false, not_or]
  exact ⟨hb0, Nat.ne_of_lt (Heap.lt_size e)⟩
end
end SQ
namespace SQ
open PySem PySem.Spec PyProof.Rows L2
section
variable {P : Program} {w : World} {A : Around} {E : Value → Shared → Prop} {s : Shared}
set_option maxHeartbeats 8000000 in
theorem call_setS {l : Addr} {items : Array Value} {xs : List Str} {Q : Value → Shared → Prop} (hh : A.handled = none) (hl : s.heap.IsList l items) (hx : StrsAre items.toList xs) (hb : xs.length + 1 < scanBound)
    (h : ∀ h' tk, SetS P w h' s.heap.objs.size (uniq xs) → (∀ b o, s.heap.get? b = some o → h'.get? b = some o) → Q (.ref s.heap.objs.size) { s with heap := h', toks := tk }) :
    wpAny (model P w) A (call (.type "set") [.ref l]) Q E s := by
  obtain ⟨c, tl, m1⟩ := F.called_set.mro
  have m2 := F.called_set.made
  have m3 := F.called_set.sub
  have m4 := F.called_set.notType
  have m5 := F.called_set.canCreate
  have m6 := F.typeCall_set_1 (.ref l)
  refine wpAny_call (codeAny_of_tree ?_)
  show wpAny _ _ (callAny (.type "set") _) _ _ _
  refine wpAny_pure ⟨Code.quiet_builtin _ (by decide +kernel), codeAny_builtin F.entry_type_call ?_⟩
  rw [Around.under_plain (weight_type_call_type "set" [.ref l] []) rfl]
  repeat (any_goals (first | assumption | wp_step))
  refine codeAny_mono (code_set_led1 (.ref l) (E := E) (Q₁ := fun o t => o = .ref s.heap.objs.size ∧ t = { s with heap := s.heap.push (newSet w) }) ⟨rfl, rfl⟩) fun r t hr => ?_
  rcases r with e | (_ | _ | _ | o)
  · exact hr
  · exact hr.elim
  · exact hr.elim
  · exact hr.elim
  obtain ⟨rfl, rfl⟩ := hr
  have got : (s.heap.push (newSet w)).get? s.heap.objs.size = some (newSet w) := Heap.get?_push_size _ rfl
  have T : Shared.TypeIs { s with heap := s.heap.push (newSet w) } (.ref s.heap.objs.size) "set" := ⟨_, got, rfl⟩
  have n1 := F.called_set.init.lookup
  have n2 := F.called_set.init.bind (.ref s.heap.objs.size)
  have ll : l < s.heap.objs.size := by
    obtain ⟨_, q, _⟩ := hl
    exact Heap.lt_size q
  repeat (any_goals (first | assumption | wp_step))
  refine codeAny_mono (init_texts (s := { s with heap := s.heap.push (newSet w) }) (E := E) (R := fun r t => r = .none ∧ ∃ h' tk, t = { s with heap := h', toks := tk } ∧ SetS P w h' s.heap.objs.size (uniq xs) ∧ ∀ b o, s.heap.get? b = some o → h'.get? b = some o)
    (by simp [hh]) got (hl.push _) (Nat.ne_of_gt ll) hx hb fun h' tk S1 kp => ⟨rfl, h', tk, rfl, S1, fun b o e => kp b o (Nat.ne_of_lt (Heap.lt_size e)) (Heap.get?_push_of_some _ e)⟩) fun r t hr => ?_
  rcases r with e | (_ | _ | _ | v)
  · exact hr
  · exact hr.elim
  · exact hr.elim
  · exact hr.elim
  obtain ⟨rfl, h', tk, rfl, S1, kp⟩ := hr
  repeat (any_goals (first | assumption | wp_step))
  exact h h' tk S1 kp
/-- sorted(such a set) -/
theorem sorted_setS {a : Addr} {l : List Str} {Q : Value → Shared → Prop} (R : SetS P w s.heap a l) (hh : A.handled = none) (h64 : l.length < 64)
    (h : ∀ s' p (out : Array Value) (c : Nat) (ys : List Str), (∀ b o, s.heap.get? b = some o → s'.heap.get? b = some o) → s'.gens = s.gens → s'.os = s.os → s.heap.objs.size ≤ p →
      s'.heap.get? p = some (seqObj "list" out c) → StrsAre out.toList ys → ys.Perm l → sortedS ys = true → Q (.ref p) s') :
    wpAny (model P w) A (call (.builtin "sorted") [.ref a]) Q E s := by
  obtain ⟨⟨es, ep, t⟩, ho, F, W⟩ := R
  have hb : es.size < scanBound := by
    have e : es.size = l.length := F.sz
    rw [e]
    exact Nat.lt_trans h64 (by decide)
  refine Calls.call_function_entry kind_sorted plain_sorted entry_sorted (args_sorted1 _) ?_
  unfold Builtin.«sorted»
  refine wpAny_bind (m := checkCount "sorted" 1 1 _) (wpAny_pure ?_)
  refine wpAny_bind (collect_set (A := A.in1) hh ⟨_, ho, rfl, rfl⟩ F.fit hb W.ris W.led fun s1 vs k1 hz g1 o1 pm => ?_)
  have key : ∀ v ∈ vs, ∃ x u, v = Value.str x u := fun v hv => by
    obtain ⟨e, he, q⟩ := List.mem_map.mp (pm.mem_iff.mp hv)
    obtain ⟨x, u, z⟩ := W.tx e he
    exact ⟨x, u, q ▸ z⟩
  have hS := strsAre_map vs key
  have pk : (vs.map strOf).Perm l := by
    have q := pm.map strOf
    rw [List.map_map] at q
    refine (q.trans (List.Perm.of_eq ?_)).trans W.pm
    refine List.map_congr_left fun e he => ?_
    obtain ⟨x, u, z⟩ := W.tx e he
    show strOf e.2 = txK e
    unfold txK
    rw [z]
    rfl
  have vl : vs.length = l.length := by
    have := pk.length_eq
    rwa [List.length_map] at this
  refine wpAny_bind (wpAny_newList ?_ (by rw [vl, sizeLine_eq]; omega))
  have gL : (s1.heap.push (seqObj "list" vs.toArray 0)).get? s1.heap.objs.size = some (seqObj "list" vs.toArray 0) := Heap.get?_push_size _ rfl
  refine wpAny_bind (wpAny_holding (wpAny_call_entry slot_list_sort ⟨_, gL, rfl⟩ entry_list_sort
    (list_sort_treeK strKind_oneLt gL hS.keysOf (fun v₁ v₂ rest e => keyKind_strs (by rw [← e]; exact hS)) (by rw [vl]; exact h64) fun st' hp hs => ⟨_, rfl, ?_⟩) (args_list_sort _)))
  obtain ⟨ys, y1, y2, y3⟩ := sorted_out_str hS hp hs
  obtain ⟨c, hc⟩ := sortedHeap_at (vs := vs) (out := (arrOf st').map (·.2)) gL
  refine wpAny_pure ⟨_, rfl, h _ s1.heap.objs.size _ c ys (fun b u e => ?_) g1 o1 hz hc y1 (y2.trans pk) y3⟩
  have lt := Heap.lt_size (k1 b u e)
  refine (sortedHeap_old (Nat.ne_of_lt lt) (by rw [size_push']; exact Nat.lt_succ_of_lt lt)).trans ?_
  exact Heap.get?_push_of_some _ (k1 b u e)
end
/-- the set in the layer's heap -/
def SetSO (P : Program) (w : World) (a : Addr) (l : List Str) : HO := .ext fun h => SetS P w h a l
section
variable {X : Cx}
def rSetS (K : PySem.W.Frag) (P : Program) (w : World) : List V → Hp → VK → Prop := fun vs H Q => ∃ (a : Addr) (xs : List Str), vs = [.ref a] ∧ SqL K H a (xs.map V.str) ∧ xs.length ≤ 1000 ∧ ∀ p, H p = none → Q (.ref p) (upd H p (SetSO P w p (uniq xs)))
theorem cr_setS (hc : X.calm = true) : CallR X (.type "set") (rSetS X.K X.prog X.w) := by
  intro pins s σ H vs us Q I r h
  obtain ⟨a, xs, rfl, hs, hl, q⟩ := h
  obtain ⟨its, rv, il, _⟩ := I.list hs
  rw [Vals.ref1 r]
  refine call_setS (I.ok.hd hc) il.isList (by simpa using rv.strs) (by unfold scanBound; omega) fun h' tk S1 kp => ?_
  have ob : ObjOk X.prog X.w (upd H s.heap.objs.size (SetSO X.prog X.w s.heap.objs.size (uniq xs))) h' s.heap.objs.size (SetSO X.prog X.w s.heap.objs.size (uniq xs)) := by
    obtain ⟨D, e, _⟩ := id S1
    exact ⟨S1, ⟨_, e⟩, fun h1 h2 p k => p.at k⟩
  exact ⟨.ref _, _, I.laid (t' := tk) kp (Nat.le_refl _) ob, rfl, q _ (I.hok.fresh (Nat.le_refl _))⟩
def rSortS (P : Program) (w : World) : List V → Hp → VK → Prop := fun vs H Q => ∃ (a : Addr) (l : List Str), vs = [.ref a] ∧ H a = some (SetSO P w a l) ∧ l.length < 64 ∧ ∀ (ys : List Str) (p : Addr), ys.Perm l → sortedS ys = true → H p = none → Q (.ref p) (upd H p (.lst (ys.map V.str)))
theorem cr_sortS (hc : X.calm = true) : CallR X (.builtin "sorted") (rSortS X.prog X.w) := by
  intro pins s σ H vs us Q I r h
  obtain ⟨a, l, rfl, ha, h64, q⟩ := h
  have R : SetS X.prog X.w s.heap a l := (I.hok a _ ha).1
  rw [Vals.ref1 r]
  refine sorted_setS R (I.ok.hd hc) h64 fun s' p out c ys k g o hp hg hy pm so => ?_
  have hlen : (ys.map V.str).length ≤ sizeLine := by
    rw [List.length_map, pm.length_eq, sizeLine_eq]
    omega
  have hn : H p = none := I.hok.fresh hp
  have J : Inv X pins σ (upd H p (.lst (ys.map V.str))) { s with heap := s'.heap, gens := s'.gens, drawn := s'.drawn, toks := s'.toks } :=
    I.call (ch := []) (Un.laid k hp hn) (I.hok.laid k hp ⟨hlen, out.toList, c, vals_of_strs hy, hg⟩) (by rw [g]; exact I.bare) (fun _ z => nomatch z)
  have e : s' = { s with heap := s'.heap, gens := s'.gens, drawn := s'.drawn, toks := s'.toks } := by
    cases s'
    cases s
    cases o
    rfl
  rw [e]
  exact ⟨.ref p, _, J, rfl, q ys p pm so hn⟩
end
end SQ
/-! Texts whose tokens are known to be late: constants, lists of them, an item of such a list, x.replace(y, such a text). -/
namespace SQ
open PySem PySem.Spec PyProof.Rows L2
/-- a text made no earlier than n -/
def Late (n : Nat) (v : Value) : Prop := ∃ z t, v = Value.str z t ∧ n ≤ t
/-- written texts -/
inductive Cts : List Expr → List Str → Prop
  | nil : Cts [] []
  | cons (x : Str) (k : Nat) (p : Pos) {es : List Expr} {xs : List Str} : Cts es xs → Cts (.Constant (.str x) k p :: es) (x :: xs)
theorem cts_run {M : Model} {A : Around} {E : Value → Shared → Prop} {env : Env} {pos : Pos} {n : Nat} : ∀ {es : List Expr} {xs : List Str}, Cts es xs → ∀ (s : Shared) (Q : List Value → Shared → Prop), n ≤ s.toks →
    (∀ vs k, Vals (xs.map V.str) vs → (∀ v ∈ vs, Late n v) → Q vs { s with toks := k }) → wpAny M A (spliced (backTo pos (starEach es env))) Q E s
  | _, _, .nil, s, Q, _, h => Calls.spliced_nil (h [] s.toks .nil (fun _ z => nomatch z))
  | _, _, .cons x k p c, s, Q, hn, h => by
    show wpAny _ _ (spliced ((false, eval (.Constant (.str x) k p) env) :: backTo pos (starEach _ env))) _ _ _
    refine Calls.spliced_cons (Calls.Constant_str ?_)
    refine cts_run c { s with toks := s.toks + 1 } _ (Nat.le_succ_of_le hn) fun vs j r l => ?_
    refine h (.str x s.toks :: vs) j (.cons ⟨_, rfl⟩ r) fun v hv => ?_
    rcases List.mem_cons.mp hv with rfl | hv
    · exact ⟨x, _, rfl, hn⟩
    · exact l v hv
abbrev lstO (vs : List Value) : Obj := { cls := .type "list", data := .seq vs.toArray }
/-- [..] of written texts, its object kept -/
theorem run_cts {X : Cx} {pins : List (Addr × Obj)} {σ : L2.St} {H : Hp} {s : Shared} {es : List Expr} {xs : List Str} {pos : Pos} {n : Nat} {Q : Value → Shared → Prop} {E : Value → Shared → Prop} (I : Inv X pins σ H s) (c : Cts es xs) (hl : xs.length ≤ sizeLine) (hn : n ≤ s.toks)
    (h : ∀ (p : Addr) (vs : List Value) (s' : Shared), H p = none → Inv X pins σ (upd H p (.frz (lstO vs) (.lst (xs.map V.str)))) s' → (∀ v ∈ vs, Late n v) → vs.length = xs.length → Q (.ref p) s') :
    wpAny (model X.prog X.w) X.A (eval (.List es pos) X.env) Q E s := by
  refine wpAny_List_spliced (cts_run c s _ hn fun vs k r l => ?_)
  have hlen : vs.length = xs.length := by
    have := r.length
    rw [List.length_map] at this
    exact this.symm
  refine ⟨by rw [hlen]; exact hl, ?_⟩
  have got : (s.heap.push (lstO vs)).get? s.heap.objs.size = some (lstO vs) := Heap.get?_push_size _ rfl
  have ob : ObjOk X.prog X.w (upd H s.heap.objs.size (.frz (lstO vs) (.lst (xs.map V.str)))) (s.heap.push (lstO vs)) s.heap.objs.size (.frz (lstO vs) (.lst (xs.map V.str))) :=
    ⟨got, by rw [List.length_map]; exact hl, vs, _, r, got⟩
  exact h _ vs _ (I.hok.fresh (Nat.le_refl _)) (I.laid (t' := k) (fun b o e => Heap.get?_push_of_some _ e) (Nat.le_refl _) ob) l hlen
end SQ
/-! != of instances whose class has its own == and no !=. -/
namespace SQ
open PySem PySem.Spec PyProof.Rows L2
open PySem.W (InstAt findIn isFn subIn)
theorem slot_one : Slot "object" "__ne__" "object.__ne__" :=
  .of (owner := "object") (n := "__ne__") (by rw [typeLookup_type, builtinLookup_eq_fast]; kernel_rfl) (by decide +kernel) (by decide +kernel) (by decide +kernel)
    (.inl (by decide +kernel)) (by rw [isSubtype_type]; kernel_rfl)
section
variable {prog : Program} {w : World} {A : Around} {E : Value → Shared → Prop} {s : Shared} {K : PySem.W.Frag} {x y C f : Addr} {ox oy : Obj} {od oe : Option Obj}
theorem ifBound_ne {M : Model} {b : Value} {Q : Option Value → Shared → Prop} (X : K.In s.heap) (I : InstAt s.heap x ox C od) (hs : findIn K (.ref C) "__ne__" = some (some (.builtin "object.__ne__")))
    (h : wpAny M A (call (.builtin "object.__ne__") [.ref x, b]) (fun v => Q (some v)) E s) : wpAny M A (callSpecialIfBound? (.ref x) "__ne__" [b]) Q E s := by
  simp only [callSpecialIfBound?, bindSpecialIfBound?]
  refine wpAny_holding (wpAny_bind (wpAny_bind (wpAny_bind (I.type.here ((PySem.W.looks_findIn X hs).here ?_)))))
  refine wpAny_bind (wpAny_askSetting (wpAny_ite ?_))
  have fin : wpAny M A (call (.builtin "object.__ne__") ([.ref x] ++ [b]) >>= fun v => pure (some v)) Q E s := wpAny_bind (wpAny_mono h (fun v s' z => wpAny_pure z) fun _ _ z => z)
  have bd : bindSpecial (.builtin "object.__ne__") (.ref x) = pure (.builtin "object.__ne__", [.ref x]) := slot_one.bind (.ref x)
  rw [bd]
  split
  · exact wpAny_bind (wpAny_pure (wpAny_pure (by exact fin)))
  · exact wpAny_tryCatch (wpAny_bind (wpAny_pure (wpAny_pure (by exact fin))))
theorem chk_ne {M : Model} {b : Value} {Q : Unit → Shared → Prop} (X : K.In s.heap) (I : InstAt s.heap x ox C od) (ho : subIn K (.ref C) (.type "object") = some true) (h : Q () s) :
    wpAny M A (checkBuiltinCall "object.__ne__" ⟨[.ref x, b], []⟩) Q E s := by
  have ha := PySem.F.cmpArgs_ne (.ref x) b
  simp only [checkBuiltinCall, PySem.F.cmpKind_ne, PySem.F.cmpSplit_ne]
  refine wpAny_bind ?_
  unfold isInstance
  refine wpAny_bind (I.type.here ((PySem.W.looks_subIn X ho).here ?_))
  simp only [Bool.not_true, Bool.false_eq_true, if_false]
  cases hsig : Manifest.signature? "object.__ne__" with
  | none => exact wpAny_pure h
  | some sig =>
    simp only [argsOk, hsig] at ha
    show wpAny M A (Bind.checkArgs "object.__ne__" sig ⟨[.ref x, b], []⟩) Q E _
    have h2 : Bind.checkArgs "object.__ne__" sig ⟨[.ref x, b], []⟩ = pure () := ha
    rw [h2]
    exact wpAny_pure h
def NeBack (Q : Value → Shared → Prop) (v : Value) (s' : Shared) : Prop := ∃ b, v = .bool b ∧ Q (.bool (!b)) s'
theorem call_ne {Q : Value → Shared → Prop} (X : K.In s.heap) (I : InstAt s.heap x ox C od) (hu : A.in1.units < cLine) (ho : subIn K (.ref C) (.type "object") = some true) (he : findIn K (.ref C) "__eq__" = some (some (.ref f))) (hf : isFn K (.ref f) = true)
    (h : wpAny (model prog w) A.in1 (call (.ref f) [.ref x, .ref y]) (NeBack Q) E s) : wpAny (model prog w) A (call (.builtin "object.__ne__") [.ref x, .ref y]) Q E s := by
  refine wpAny_call (codeAny_call_builtin slot_one.plain PySem.F.cmpEntry_ne (chk_ne X I ho ?_))
  unfold Builtin.«object.__ne__»
  refine wpAny_bind (m := slotArgs "__ne__" 1 _) (wpAny_pure ?_)
  refine wpAny_bind (wpAny_cRoomFor hu ?_)
  refine wpAny_bind (PySem.W.ifBound_K X I he hf (wpAny_mono h (fun v s' z => ?_) fun _ _ z => z))
  obtain ⟨b, rfl, q⟩ := z
  refine wpAny_bind (wpAny_truthy_bool ?_)
  exact wpAny_pure q
theorem rc_ne {Q : Value → Shared → Prop} (X : K.In s.heap) (I : InstAt s.heap x ox C od) (J : InstAt s.heap y oy C oe) (hu0 : A.units < cLine) (hu : A.in1.units < cLine) (ho : subIn K (.ref C) (.type "object") = some true)
    (hs : findIn K (.ref C) "__ne__" = some (some (.builtin "object.__ne__"))) (he : findIn K (.ref C) "__eq__" = some (some (.ref f))) (hf : isFn K (.ref f) = true)
    (h : wpAny (model prog w) A.in1 (call (.ref f) [.ref x, .ref y]) (NeBack Q) E s) : wpAny (model prog w) A (richCompare .NotEq (.ref x) (.ref y)) Q E s := by
  have one : wpAny (model prog w) A (tryCompare (.ref x) "__ne__" (.ref y)) (fun r s' => ∃ b, r = some (.bool b) ∧ Q (.bool b) s') E s := by
    unfold tryCompare
    have g := call_ne (prog := prog) (w := w) (A := A) (E := E) (Q := fun v s' => ∃ b, v = .bool b ∧ Q v s') X I hu ho he hf (wpAny_mono h (fun v s' z => by
      obtain ⟨b, rfl, q⟩ := z
      exact ⟨b, rfl, _, rfl, q⟩) fun _ _ z => z)
    refine wpAny_bind (ifBound_ne X I hs (wpAny_mono g (fun v s' z => ?_) fun _ _ z => z))
    obtain ⟨b, rfl, q⟩ := z
    exact wpAny_pure ⟨b, rfl, q⟩
  unfold richCompare
  simp only [oneThing_ref]
  refine wpAny_holding (wpAny_bind (wpAny_cRoomFor hu0 ?_))
  refine wpAny_bind (I.type.here (wpAny_bind (J.type.here ?_)))
  rw [show (Value.ref C != Value.ref C) = false from by simp]
  simp only [Bool.false_eq_true, if_false]
  refine wpAny_bind (wpAny_pure ?_)
  simp only [Bool.false_eq_true, if_false]
  refine wpAny_bind (wpAny_mono one (fun r s' z => ?_) fun _ _ z => z)
  obtain ⟨b, rfl, q⟩ := z
  exact wpAny_pure q
end
/-- how the class at C compares -/
structure CmpC (K : PySem.W.Frag) (C f : Addr) : Prop where
  ob : subIn K (.ref C) (.type "object") = some true
  ne : findIn K (.ref C) "__ne__" = some (some (.builtin "object.__ne__"))
  eq : findIn K (.ref C) "__eq__" = some (some (.ref f))
  fn : isFn K (.ref f) = true
theorem op_neOwn {X : Cx} {k : Nat} {f C : Addr} {sp : Sp} (F : FnR X.prog X.w X.K X.mg X.base CX0 k f sp) (hr : Room (k + 2) X.A) (T : CmpC X.K C f) :
    OpR X (compareOp .NotEq) (fun x y H Q => ∃ (a b dx dy : Addr) (fs gs : List (Str × V)), x = .ref a ∧ y = .ref b ∧ H a = some (.ins C dx fs) ∧ H b = some (.ins C dy gs) ∧ sp [.ref a, .ref b] H (fun v H' => ∃ r, v = .bl r ∧ Q (.bl (!r)) H') E0) := by
  intro pins s σ H x y v u Q I rx ry h
  obtain ⟨a, b, dx, dy, fs, gs, rfl, rfl, ha, hb, q⟩ := h
  obtain rfl : v = Value.ref a := rx
  obtain rfl : u = Value.ref b := ry
  obtain ⟨mA, O, _⟩ := ins_get I.hok ha
  obtain ⟨od, J, _⟩ := O.look
  obtain ⟨mB, O2, _⟩ := ins_get I.hok hb
  obtain ⟨oe, J2, _⟩ := O2.look
  have hr1 : Room (k + 1) X.A.in1 := Room.in1 hr
  refine rc_ne I.kIn J J2 hr.units0 hr1.units0 T.ob T.ne T.eq T.fn (wpAny_call (codeAny_mono (F X.A.in1 X.stack s H [.ref a, .ref b] [.ref a, .ref b] _ _ (hr1.mono (by omega)) I.env0.in1 (.cons rfl (.cons rfl .nil)) q) fun r s' hq => ?_))
  rcases r with er | (_ | _ | _ | z)
  · exact (show False from hq).elim
  · exact False.elim hq
  · exact False.elim hq
  · exact False.elim hq
  · obtain ⟨v, H', I', rv, r, rfl, q'⟩ := I.after hq
    obtain rfl : z = Value.bool r := rv
    exact ⟨r, rfl, .bl (!r), H', I', rfl, q'⟩
end SQ
/-! repr of an instance with its own __repr__, and of a list that holds one. -/
namespace SQ
open PySem PySem.Spec PyProof.Rows L2
open PySem.W (InstAt findIn isFn subIn)
open Builtin Builtin.List
section
variable {prog : Program} {w : World} {A : Around} {E : Value → Shared → Prop} {R : Result → Shared → Prop} {s : Shared} {K : PySem.W.Frag} {x C f : Addr} {ox : Obj} {od : Option Obj}
def SBack (Q : Str → Shared → Prop) (v : Value) (s' : Shared) : Prop := ∃ z t, v = .str z t ∧ Q z s'
theorem repr_own {Q : Str → Shared → Prop} {b : Nat} (hb : b ≤ sizeLine) (hu : A.units < cLine) (X : K.In s.heap) (I : InstAt s.heap x ox C od) (hs : findIn K (.ref C) "__repr__" = some (some (.ref f))) (hf : isFn K (.ref f) = true)
    (h : wpAny (model prog w) A (call (.ref f) [.ref x]) (SBack Q) E s) : wpAny (model prog w) A (pyReprUnder b (.ref x)) Q E s := by
  unfold pyReprUnder
  rw [if_neg (by omega)]
  refine wpAny_bind (m := pyReprObjUnder b (.ref x)) ?_
  unfold pyReprObjUnder pyReprObjBy
  refine wpAny_bind (wpAny_cRoomFor hu ?_)
  refine wpAny_bind (m := specialOf (.ref x) "__repr__") (wpAny_bind (I.type.here ((PySem.W.looks_findIn X hs).here ?_)))
  simp only [Option.isNone_some, Bool.false_eq_true, if_false]
  refine wpAny_bind (m := callSpecialIfBoundBy? _ (.ref x) "__repr__") ?_
  simp only [callSpecialIfBoundBy?, bindSpecialIfBound?]
  refine wpAny_holding (wpAny_bind (wpAny_bind (wpAny_bind (I.type.here ((PySem.W.looks_findIn X hs).here ?_)))))
  refine wpAny_bind (wpAny_askSetting (wpAny_ite ?_))
  have fin : wpAny (model prog w) A (call (.ref f) [.ref x] >>= fun v => pure (some v)) (fun a s' => wpAny (model prog w) A (match a with
        | some r => do
          let __do_lift ← isInstance r (Value.type "str")
          if __do_lift = true then pure r
            else do
              let __do_lift ← typeNameOf r
              raiseErrorMade "TypeError" (toString "__repr__ returned non-string (type " ++ toString __do_lift ++ toString ")")
        | none => unsupported "repr:special-get-raises") (fun r s2 => ∃ z t, r = .str z t ∧ Q z s2) E s') E s := by
    refine wpAny_bind (wpAny_mono h (fun v s' z => wpAny_pure ?_) fun _ _ z => z)
    obtain ⟨y, t, rfl, q⟩ := z
    refine wpAny_bind (wpAny_isInstance (T := "str") (b := true) (typeIs_str _ _ _) isSubtype_str_str ?_)
    exact wpAny_pure ⟨y, t, rfl, q⟩
  split
  · refine wpAny_bind ((PySem.W.bind_fn X _ (beq_iff_eq.mp hf)).here (wpAny_pure ?_))
    refine wpAny_mono fin (fun a s' z => wpAny_mono z (fun r s2 y => ?_) fun _ _ y => y) fun _ _ y => y
    obtain ⟨y, t, rfl, q⟩ := y
    exact wpAny_pure q
  · refine wpAny_tryCatch (wpAny_bind ((PySem.W.bind_fn X _ (beq_iff_eq.mp hf)).here (wpAny_pure ?_)))
    refine wpAny_mono fin (fun a s' z => wpAny_mono z (fun r s2 y => ?_) fun _ _ y => y) fun _ _ y => y
    obtain ⟨y, t, rfl, q⟩ := y
    exact wpAny_pure q
/-- one turn of the list's repr -/
theorem repr_turn {a P : Addr} {items : Array Value} {i sg : Nat} {oa : Obj} {na : Nat} {x : Value} (ha : s.heap.get? a = some oa) (hda : oa.data = .seq items na) (hx : items[i]? = some x)
    (h : wpAny (model prog w) (A.under (.builtin "list.__repr__.loop" ⟨[.ref a, rawInt i, .ref P, rawInt sg], []⟩)) (pyReprUnder (sg + 1) x) (fun t s' => t.length ≤ sizeLine ∧ ∃ (acc : List Value) (c : Nat), s'.heap.get? P = some { cls := .type "list", data := .seq acc.toArray c } ∧ acc.length ≤ sizeLine ∧
      codeAny (model prog w) A (.builtin "list.__repr__.loop" ⟨[.ref a, rawInt ((i + 1 : Nat) : Int), .ref P, rawInt ((sg + (t.length + 2) : Nat) : Int)], []⟩) R { s' with heap := s'.heap.update P (Obj.mapSeq (·.push (.str t s'.toks))), toks := s'.toks + 1 }) (fun e s' => R (.error e) s') s) :
    codeAny (model prog w) A (.builtin "list.__repr__.loop" ⟨[.ref a, rawInt i, .ref P, rawInt sg], []⟩) R s := by
  refine codeAny_builtin F.entry_list_repr_loop ?_
  show wpAny _ _ («list.__repr__.loop» ⟨[.ref a, .int i 0, .ref P, .int sg 0], []⟩) _ _ s
  rw [repr_loop_tree]
  refine wpAny_bind (wpAny_listItems ha hda ?_)
  have hsome : items[(i : Int).toNat]? = some x := by simpa using hx
  simp only [hsome]
  rw [Int.toNat_natCast]
  refine wpAny_bind (wpAny_holding (wpAny_mono h (fun t s' z => ?_) fun _ _ z => z))
  obtain ⟨hz, acc, c, hP, hl, hc⟩ := z
  refine wpAny_bind (wpAny_mkStr ?_ hz)
  refine wpAny_bind ?_
  show wpAny _ _ (updateSeq P _) _ _ _
  refine wpAny_updateSeq hP rfl (wpAny_pure ⟨F.quiet_list_repr_loop _, ?_⟩) (by rw [List.size_toArray]; exact hl)
  have e1 : ((i : Int) + 1) = ((i + 1 : Nat) : Int) := by omega
  rw [e1]
  exact hc
theorem repr_stop {a P : Addr} {items : Array Value} {i sg : Nat} {oa op : Obj} {na np : Nat} {done : List (Str × Tok)} (ha : s.heap.get? a = some oa) (hda : oa.data = .seq items na) (hx : items[i]? = none) (hp : s.heap.get? P = some op) (hdp : op.data = .seq (strValues done).toArray np)
    (hz : (listText (done.map (·.1))).length ≤ sizeLine) (h : R (.ok (.ret (.str (listText (done.map (·.1))) s.toks))) { s with toks := s.toks + 1 }) :
    codeAny (model prog w) A (.builtin "list.__repr__.loop" ⟨[.ref a, rawInt i, .ref P, rawInt sg], []⟩) R s := by
  refine codeAny_builtin F.entry_list_repr_loop ?_
  show wpAny _ _ («list.__repr__.loop» ⟨[.ref a, .int i 0, .ref P, .int sg 0], []⟩) _ _ s
  rw [repr_loop_tree]
  refine wpAny_bind (wpAny_listItems ha hda ?_)
  have hnone : items[(i : Int).toNat]? = none := by simpa using hx
  simp only [hnone]
  unfold reprEnd
  refine wpAny_bind (wpAny_listItems hp hdp ?_)
  rw [List.toList_toArray, repr_fold]
  refine wpAny_bind (wpAny_pure ?_)
  exact wpAny_bind (wpAny_mkStr (wpAny_pure h) hz)
end
end SQ
namespace SQ
open PySem PySem.Spec PyProof.Rows L2
open PySem.W (InstAt findIn isFn subIn)
open Builtin Builtin.List
abbrev lpC (args : Args) : Code := .builtin "list.__repr__.loop" args
theorem lp_depth (A : Around) (args : Args) : (A.under (lpC args)).depth ≤ A.depth + 1 := by
  first
    | exact Nat.le_refl _
    | exact Nat.le_succ _
    | (show A.depth + (lpC args).weight ≤ A.depth + 1; decide)
    | (simp [Around.under, Code.weight, Code.isCreation, Code.isGuard, Code.isCaller, Code.frames, Code.isFrame, guardIds])
theorem lp_frames (A : Around) (args : Args) : (A.under (lpC args)).frames = A.frames := by
  show pushEnvs (lpC args).envs A.frames = A.frames
  cases A.frames <;> rfl
theorem lp_room {k : Nat} {A : Around} (r : Room (k + 1) A) (args : Args) : Room k (A.under (lpC args)) := by
  have h1 := lp_depth A args
  have h2 := units_under_list_loop A args
  have h3 := r.dp
  have h4 := r.un
  exact ⟨r.hd, by omega, by rw [h2]; omega⟩
theorem lp_env {P : Program} {w : World} {K : PySem.W.Frag} {mg : Str → Option Value} {base : Heap} {A : Around} {outer : List Env} {s : Shared} {H : Hp} (e : Env0 P w K mg base A outer s H) (args : Args) : Env0 P w K mg base (A.under (lpC args)) outer s H :=
  ⟨(lp_frames A args).trans e.frames, e.mod, e.bs, e.bsz, e.funs, e.frf, e.hok, e.bare⟩
structure RpC (K : PySem.W.Frag) (C f : Addr) : Prop where
  rp : findIn K (.ref C) "__repr__" = some (some (.ref f))
  fn : isFn K (.ref f) = true
abbrev bT (b : Bool) : Str := if b = true then Str.ofString "True" else Str.ofString "False"
def rRepr3 (C : Addr) (sp : Sp) : List V → Hp → VK → Prop := fun xs H Q => ∃ (a o dx : Addr) (fs : List (Str × V)) (t z : Str) (b : Bool), xs = [.ref a] ∧ H a = some (.lst [.str t, .ref o, .bl b]) ∧ H o = some (.ins C dx fs) ∧
  (reprText t).length ≤ 1000 ∧ z.length ≤ 1000 ∧ (∀ H1, Same H H1 → sp [.ref o] H1 (fun v H2 => v = .str z ∧ Same H1 H2) E0) ∧ ∀ H', Same H H' → Q (.str (listText [reprText t, z, bT b])) H'
theorem same_refl (H : Hp) : Same H H := fun _ _ e => e
theorem cr_repr3 {X : Cx} {k : Nat} {f C : Addr} {sp : Sp} (F : FnR X.prog X.w X.K X.mg X.base CX0 k f sp) (hr : Room (k + 3) X.A) (hg : X.A.guards = some []) (T : RpC X.K C f) : CallR X (.builtin "repr") (rRepr3 C sp) := by
  intro pins s σ H xs us Q I r h
  obtain ⟨a, o, dx, fs, t, z, b, rfl, ha, ho, ht, hz, hsp, q⟩ := h
  rw [Vals.ref1 r]
  obtain ⟨_, its, n, rv, e⟩ := (show ObjOk X.prog X.w H s.heap a (.lst [.str t, .ref o, .bl b]) from I.hok a _ ha)
  obtain ⟨tk, rfl⟩ : ∃ tk, its = [.str t tk, .ref o, .bool b] := by
    cases rv with
    | cons r1 rv =>
      cases rv with
      | cons r2 rv =>
        cases rv with
        | cons r3 rv =>
          cases rv
          obtain ⟨tk, rfl⟩ := r1
          obtain rfl := (show _ = Value.ref o from r2)
          obtain rfl := (show _ = Value.bool b from r3)
          exact ⟨tk, rfl⟩
  have hu := hr.un
  have bl : (bT b).length ≤ 5 := by cases b <;> decide
  refine call_repr_slot (by omega) ⟨_, e, rfl⟩ PySem.F.slot_list_repr.toG ?_
  refine wpAny_call (codeAny_call_builtin PySem.F.slot_list_repr.plain PySem.F.entry_list_repr (PySem.F.slot_list_repr.check _ _ _ _ _ _ _ _ ⟨_, e, rfl⟩ (PySem.F.args_list_repr_1 _) ?_))
  refine wpAny_list_repr_head (b := 0) (g := []) hg (fun v rest kw hm => nomatch hm) e rfl ?_
  refine wpAny_bind (m := newList []) (wpAny_newObj_type ?_)
  refine wpAny_pure ⟨PySem.F.quiet_list_repr_loop _, ?_⟩
  have nP : H s.heap.objs.size = none := I.hok.fresh (Nat.le_refl _)
  have I1 : Inv X pins σ (upd H s.heap.objs.size (.lst [])) { s with heap := s.heap.push { cls := .type "list", data := .seq ([] : List Value).toArray } } :=
    I.laid (t' := s.toks) (fun c u y => Heap.get?_push_of_some _ y) (Nat.le_refl _) ⟨Nat.zero_le _, [], _, .nil, Heap.get?_push_size _ rfl⟩
  generalize hP : s.heap.objs.size = P at nP I1 ⊢
  generalize hs1 : ({ s with heap := s.heap.push { cls := .type "list", data := .seq ([] : List Value).toArray } } : Shared) = s1 at I1 ⊢
  have aP : a ≠ P := ne_of_none ha nP
  have oP : o ≠ P := ne_of_none ho nP
  have at_ : ∀ {G : Hp} {s' : Shared} {ys : List V}, Inv X pins σ G s' → G a = some (.lst [.str t, .ref o, .bl b]) → ∃ (tk' : Tok) (n' : Nat), s'.heap.get? a = some { cls := .type "list", data := .seq #[.str t tk', .ref o, .bool b] n' } := by
    intro G s' ys J hG
    obtain ⟨_, its, n, rv, e⟩ := (show ObjOk X.prog X.w G s'.heap a (.lst [.str t, .ref o, .bl b]) from J.hok a _ hG)
    cases rv with
    | cons r1 rv =>
      cases rv with
      | cons r2 rv =>
        cases rv with
        | cons r3 rv =>
          cases rv
          obtain ⟨tk, rfl⟩ := r1
          obtain rfl := (show _ = Value.ref o from r2)
          obtain rfl := (show _ = Value.bool b from r3)
          exact ⟨tk, _, e⟩
  have line : ∀ {m : Nat}, m ≤ 10000 → m ≤ sizeLine := fun h => Nat.le_trans h (by decide)
  -- the text
  have g1 : upd H P (.lst []) a = some (.lst [.str t, .ref o, .bl b]) := by rw [upd_ne aP]; exact ha
  obtain ⟨tk1, n1, e1⟩ := at_ (ys := []) I1 g1
  refine repr_turn (i := 0) (sg := 0) e1 rfl rfl ?_
  refine ReprIs.str t tk1 (line (by omega)) _ (line (by omega)) _ _ _ _ fun k1 => ⟨line (by omega), [], ?_⟩
  obtain ⟨_, acc1, c1, rv1, p1⟩ := (show ObjOk X.prog X.w (upd H P (.lst [])) s1.heap P (.lst []) from I1.hok P _ upd_same)
  cases rv1
  refine ⟨c1, p1, Nat.zero_le _, ?_⟩
  have I2 := Inv.lset (t' := k1 + 1) (its' := [.str (reprText t) k1]) (f := fun y => y.push (.str (reprText t) k1)) (I1.tok k1) upd_same p1 rfl (.cons ⟨_, rfl⟩ .nil : Vals [.str (reprText t)] _) (by show 1 ≤ sizeLine; decide)
  rw [upd_upd] at I2
  generalize hs2 : ({ ({ s1 with toks := k1 } : Shared) with heap := _, toks := k1 + 1 } : Shared) = s2 at I2
  clear hs2 hs1 e1 p1
  -- the instance
  have sm2 : Same H (upd H P (.lst [.str (reprText t)])) := fun c u y => by
    rw [upd_ne (ne_of_none y nP)]
    exact y
  obtain ⟨tk2, n2, e2⟩ := at_ (ys := []) I2 (sm2 _ _ ha)
  refine repr_turn (i := 1) (sg := 0 + ((reprText t).length + 2)) e2 rfl rfl ?_
  obtain ⟨mA, O, _⟩ := ins_get I2.hok (sm2 _ _ ho)
  obtain ⟨od, J, _⟩ := O.look
  have hr1 : Room (k + 2) X.A.in1 := Room.in1 hr
  have hr2 : Room (k + 1) (X.A.in1.under (lpC ⟨[.ref a, rawInt ((1 : Nat) : Int), .ref P, rawInt ((0 + ((reprText t).length + 2) : Nat) : Int)], []⟩)) := lp_room hr1 _
  refine repr_own (line (by omega)) hr2.units0 I2.kIn J T.rp T.fn (wpAny_call (codeAny_mono (F _ X.stack s2 _ [.ref o] [.ref o] _ _ (hr2.mono (by omega)) (lp_env I2.env0.in1 _) (.cons rfl .nil) (hsp _ sm2)) fun r s3 hq => ?_))
  rcases r with er | (_ | _ | _ | v)
  · exact (show False from hq).elim
  · exact False.elim hq
  · exact False.elim hq
  · exact False.elim hq
  obtain ⟨v', H3, I3, rv3, rfl, sm3⟩ := I2.after hq
  obtain ⟨tz, rfl⟩ := rv3
  refine ⟨z, tz, rfl, line (by omega), ?_⟩
  have hP3 : H3 P = some (.lst [.str (reprText t)]) := sm3 _ _ upd_same
  obtain ⟨_, acc3, c3, rv3, p3⟩ := (show ObjOk X.prog X.w H3 s3.heap P (.lst [.str (reprText t)]) from I3.hok P _ hP3)
  obtain ⟨k3, rfl⟩ : ∃ k3, acc3 = [.str (reprText t) k3] := by
    cases rv3 with
    | cons r1 rv =>
      cases rv
      obtain ⟨k3, rfl⟩ := r1
      exact ⟨k3, rfl⟩
  refine ⟨_, c3, p3, (by show 1 ≤ sizeLine; decide), ?_⟩
  have I4 := Inv.lset (t' := s3.toks + 1) (its' := [.str (reprText t) k3, .str z s3.toks]) (f := fun y => y.push (.str z s3.toks)) I3 hP3 p3 rfl (.cons ⟨_, rfl⟩ (.cons ⟨_, rfl⟩ .nil) : Vals [.str (reprText t), .str z] _) (by show 2 ≤ sizeLine; decide)
  generalize hs4 : ({ s3 with heap := _, toks := s3.toks + 1 } : Shared) = s4 at I4
  have sm4 : Same H (upd H3 P (.lst [.str (reprText t), .str z])) := fun c u y => by
    rw [upd_ne (ne_of_none y nP)]
    exact sm3 _ _ (sm2 _ _ y)
  clear hs4 p3 e2
  -- the bool
  obtain ⟨tk4, n4, e4⟩ := at_ (ys := []) I4 (sm4 _ _ ha)
  refine repr_turn (i := 2) e4 rfl rfl ?_
  refine ReprIs.bool b _ (line ?_) _ _ _ _ fun k5 => ⟨Nat.le_trans bl (by decide), ?_⟩
  · show _ + (bT b).length ≤ 10000
    omega
  obtain ⟨_, acc5, c5, rv5, p5⟩ := (show ObjOk X.prog X.w (upd H3 P (.lst [.str (reprText t), .str z])) s4.heap P (.lst [.str (reprText t), .str z]) from I4.hok P _ upd_same)
  obtain ⟨ka, kb, rfl⟩ : ∃ ka kb, acc5 = [.str (reprText t) ka, .str z kb] := by
    cases rv5 with
    | cons r1 rv =>
      cases rv with
      | cons r2 rv =>
        cases rv
        obtain ⟨ka, rfl⟩ := r1
        obtain ⟨kb, rfl⟩ := r2
        exact ⟨ka, kb, rfl⟩
  refine ⟨_, c5, p5, (by show 2 ≤ sizeLine; decide), ?_⟩
  have I6 := Inv.lset (t' := k5 + 1) (its' := [.str (reprText t) ka, .str z kb, .str (bT b) k5]) (f := fun y => y.push (.str (bT b) k5)) (I4.tok k5) upd_same p5 rfl (.cons ⟨_, rfl⟩ (.cons ⟨_, rfl⟩ (.cons ⟨_, rfl⟩ .nil)) : Vals [.str (reprText t), .str z, .str (bT b)] _) (by show 3 ≤ sizeLine; decide)
  rw [upd_upd] at I6
  have sm6 : Same H (upd H3 P (.lst [.str (reprText t), .str z, .str (bT b)])) := fun c u y => by
    rw [upd_ne (ne_of_none y nP)]
    exact sm3 _ _ (sm2 _ _ y)
  obtain ⟨tk6, n6, e6⟩ := at_ (ys := []) I6 (sm6 _ _ ha)
  obtain ⟨_, acc7, c7, rv7, p7⟩ := (show ObjOk X.prog X.w _ _ P (.lst [.str (reprText t), .str z, .str (bT b)]) from I6.hok P _ upd_same)
  obtain ⟨l7, el7, em7⟩ : ∃ l : List (Str × Tok), strValues l = acc7 ∧ l.map (·.1) = [reprText t, z, bT b] := by
    cases rv7 with
    | cons r1 rv =>
      cases rv with
      | cons r2 rv =>
        cases rv with
        | cons r3 rv =>
          cases rv
          obtain ⟨k1, rfl⟩ := r1
          obtain ⟨k2, rfl⟩ := r2
          obtain ⟨k3, rfl⟩ := r3
          exact ⟨[(reprText t, k1), (z, k2), (bT b, k3)], rfl, rfl⟩
  have hfin : (listText [reprText t, z, bT b]).length ≤ 10000 := by
    have h1 : (listText [reprText t, z, bT b]).length = (textFrom 0 "[" [reprText t, z, bT b]).length + 1 := by
      show (textFrom 0 "[" [reprText t, z, bT b] ++ "]").length = _
      rw [strLen_append]
      rfl
    have h2 : (textFrom 0 "[" [reprText t, z, bT b]).length = (textFrom 1 (("[" : Str) ++ (if (0 : Nat) > 0 then ", " else "" : String) ++ reprText t) [z, bT b]).length := rfl
    rw [textFrom_length_pos _ _ _ (Nat.succ_pos 0), strLen_append, strLen_append, piled_cons, piled_cons, piled_nil] at h2
    have h3 : ("[" : Str).length = 1 := rfl
    have h4 : (((if (0 : Nat) > 0 then ", " else "" : String) : Str)).length = 0 := rfl
    rw [h3, h4] at h2
    omega
  refine repr_stop (i := 3) (done := l7) e6 rfl rfl p7 (by rw [el7]) (by rw [em7]; exact line hfin) ?_
  rw [em7]
  exact ⟨_, _, rfl, .str _, _, I6.tok _, ⟨_, rfl⟩, q _ sm6⟩
end SQ
namespace SQ3
open PySem L2 SQ
/-! ### the law's frame: the urn, the draws, the law itself -/
def top (i : Nat) : Stmt := PySem.Challenge.pw_stackquotes_k03_whole_vocabulary_texts.main.body.getD i (.Pass ⟨0, 0, 0, 0⟩)
abbrev sUrn : Stmt := top 24
abbrev sLot : Stmt := top 25
abbrev sOne : Stmt := top 26
abbrev sRight : Stmt := top 31
abbrev sLaw : Stmt := top 32
/-- the built-ins' names are still theirs -/
structure Blt (mg : Str → Option Value) : Prop where
  int : mg "int" = none
  len : mg "len" = none
  abs : mg "abs" = none
  divmod : mg "divmod" = none
  max : mg "max" = none
  min : mg "min" = none
  range : mg "range" = none
  all : mg "all" = none
/-- all that stood stands, but at u -/
def But (u : Addr) (H H' : Hp) : Prop := ∀ b o, H b = some o → b ≠ u → H' b = some o
theorem But.refl {u : Addr} {H : Hp} : But u H H := fun _ _ e _ => e
theorem But.trans {u : Addr} {H H1 H2 : Hp} (a : But u H H1) (b : But u H1 H2) : But u H H2 := fun c o e n => b c o (a c o e n) n
theorem But.new {u p : Addr} {H H' : Hp} {o : HO} (a : But u H H') (h : H' p = none) : But u H (upd H' p o) := fun c x e n => by
  have e1 := a c x e n
  rw [upd_ne (ne_of_none e1 h)]
  exact e1
theorem But.put {u : Addr} {H H' : Hp} {o : HO} (a : But u H H') : But u H (upd H' u o) := fun c x e n => by
  rw [upd_ne n]
  exact a c x e n
theorem Same.but {u : Addr} {H H' : Hp} (a : Same H H') : But u H H' := fun c x e _ => a c x e
theorem same_new {p : Addr} {H H' : Hp} {o : HO} (a : Same H H') (h : H' p = none) : Same H (upd H' p o) := fun c x e => by
  have e1 := a c x e
  rw [upd_ne (ne_of_none e1 h)]
  exact e1
theorem keptT {σ : St} {H : Hp} {A B : Hp → Prop} (h : A H) : tYes σ H (fun b H3 => if b = true then A H3 else B H3) := by
  show (if true = true then A H else B H)
  rw [if_pos rfl]
  exact h
def urnAt (H : Hp) (u : Addr) : Prop := ∃ x y z : Int, H u = some (.lst [.int x, .int y, .int z])
def spUrn (K : PySem.W.Frag) : Sp := fun vs H Q _ => ∃ (a : Addr) (ns : List Int) (k : Nat), vs = [.ref a, .int k] ∧ SqL K H a (ns.map V.int) ∧ k ≤ 63 ∧
  ∀ (H' : Hp) (p : Addr), Same H H' → H p = none → urnAt H' p → Q (.ref p) H'
def spLot : Sp := fun vs H Q _ => ∃ (u : Addr) (m : Int), vs = [.ref u, .int m] ∧ urnAt H u ∧ 0 < m ∧ m < 1073741824 ∧
  ∀ (H' : Hp) (d : Int), 0 ≤ d → d < m → urnAt H' u → But u H H' → Q (.int d) H'
def spOne (K : PySem.W.Frag) : Sp := fun vs H Q _ => ∃ (u t : Addr) (xs : List V), vs = [.ref u, .ref t] ∧ urnAt H u ∧ u ≠ t ∧ H t = some (.lst xs) ∧ 0 < xs.length ∧ xs.length ≤ 1000 ∧
  ∀ (H' : Hp) (i : Nat) (x : V), xs[i]? = some x → urnAt H' u → But u H H' → Q x H'
def spRight : Sp := fun vs H Q _ => ∃ u : Addr, vs = [.ref u] ∧ urnAt H u ∧ ∀ H' : Hp, But u H H' → Q (.bl true) H'
def spLaw (K : PySem.W.Frag) : Sp := fun vs H Q _ => ∃ (a : Addr) (ns : List Int), vs = [.ref a] ∧ SqL K H a (ns.map V.int) ∧ ns.length ≤ 63 ∧ ∀ H', Q (.bl true) H'
section
variable {P : Program} {w : World} {K : PySem.W.Frag} {mg : Str → Option Value} {base : Heap}
theorem scU : FnScope ["_law_script", "_law_k", "_law_mixed", "_law_entry", "_law_own"] ["_law_script", "_law_k"] (defScope sUrn) := ⟨rfl, rfl, rfl, by decide +kernel, rfl, by decide +kernel, by decide +kernel⟩
theorem ok_urn {f : Addr} {fd : FuncData} (F : Fun K "_law_urn" "_law_urn" sUrn f fd) (B : Blt mg) : FnOk P w K mg base CX0 1 f fd ["_law_script", "_law_k"] (spUrn K) := by
  refine F.ok scU (fun vs H Q E h => ?_) (fun cdv A outer s H vs Q E hr h => ?_)
  · obtain ⟨a, ns, k, rfl, _⟩ := h
    rfl
  · obtain ⟨a, ns, k, rfl, hS, hk, q⟩ := h
    refine ⟨_, pss_cons (ps_set (i := 2) scU.nd rfl (.inl rfl) (pe_op op_add pe_int (pe_op op_mul pe_int (pv 1))))
      (pss_cons (ps_for PassesOwn.never rfl (pi_list (pe_slice sl_list (pv 0) po_none (po_some pe_int))) (pg_name (i := 3) scU.nd rfl (.inl rfl))
        (pss_one (ps_set (i := 2) scU.nd rfl (.inl rfl) (pe_op op_mod (pe_callTy call_int1 (by rfl) B.int (by decide +kernel)
          (pa_cons (pe_op op_add (pe_op op_mul (pv 2) pe_int) (pe_op op_mod (pe_callTy call_int1 (by rfl) B.int (by decide +kernel) (pa_cons (pv 3) pa_nil)) pe_int)) pa_nil)) pe_int))))
      (pss_cons (ps_set (i := 4) scU.nd rfl (.inl rfl) (pe_ifExp (pt_cmpR op_lt (pv 1) (pe_callB call_len_seq (by rfl) B.len PySem.boot_len (pa_cons (pv 0) pa_nil)) (nomark _))
        (pe_callTy call_int1 (by rfl) B.int (by decide +kernel) (pa_cons (pe_ix ix_list (pv 0) (pv 1) (fun _ _ => rfl)) pa_nil))
        (pe_op op_add (pe_op op_mul pe_int (pv 1)) pe_int)))
      (pss_one (ps_ret (pe_lst (pa_cons (pe_ifExp (PW.pt (pw_or (pt_cmpR op_lt (pv 4) pe_int (nomark _)) (pw_or1 (pt_cmpR op_ge (pv 4) (pe_op op_pow pe_int pe_int) (nomark _)))))
          (pe_callB call_abs (by rfl) B.abs (by decide +kernel) (pa_cons (pv 4) pa_nil)) pe_int)
        (pa_cons (pe_op op_mod (pe_callTy call_int1 (by rfl) B.int (by decide +kernel) (pa_cons (pe_op op_add (pe_op op_mul (pv 2) pe_int) (pe_op op_mod (pv 4) pe_int)) pa_nil)) pe_int)
        (pa_cons pe_int pa_nil)))))))), ?_⟩
    -- mixed
    refine ⟨_, rfl, _, _, rfl, rfl, .inl ⟨by decide, by decide⟩, _, _, rfl, rfl, ?_⟩
    -- the slice
    refine ⟨_, rfl, _, rfl, a, _, rfl, hS, fun p hp => ?_⟩
    have hp' : SqL K (upd H p (.lst (cutV (ns.map V.int) none (some 14)))) p (cutV (ns.map V.int) none (some 14)) := SqL.of upd_same
    have s1 : Same H (upd H p (.lst (cutV (ns.map V.int) none (some 14)))) := same_new (fun _ _ e => e) hp
    refine ⟨p, rfl, ⟨_, hp'⟩, for_list (K := K) (a := p) (xs := cutV (ns.map V.int) none (some 14))
      (fun i σ H2 => ∃ (m : Int) (v : Option V), σ = [some (.ref a), some (.int k), some (.int m), v, none] ∧ H2 = upd H p (.lst (cutV (ns.map V.int) none (some 14))))
      ⟨_, _, rfl, rfl⟩ (fun i σ H2 _ ⟨_, _, _, e2⟩ => by rw [e2]; exact hp') ?_ ?_⟩
    · rintro i y σ H2 hi ⟨m, v, rfl, rfl⟩
      obtain ⟨z, rfl⟩ : ∃ z, y = V.int z := by
        have hm : y ∈ ns.map V.int := List.mem_of_mem_drop (List.mem_of_mem_take (List.mem_of_getElem? hi))
        obtain ⟨z, _, e⟩ := List.mem_map.mp hm
        exact ⟨z, e.symm⟩
      refine ⟨_, rfl, _, _, rfl, rfl, .inr ⟨by decide, by decide⟩, _, rfl, .inl ⟨_, rfl, _, _, rfl, rfl, (by show (0 : Int) < 1999999973; decide), _, _, rfl, rfl, .inl ⟨_, rfl, _, _, rfl, rfl, (by show (0 : Int) < 1999999973; decide), ?_⟩⟩⟩
      exact ⟨_, _, rfl, rfl⟩
    · rintro σ H2 ⟨m, v, rfl, rfl⟩
      have hS2 := s1.seq hS
      -- own
      refine ⟨_, rfl, _, rfl, a, _, rfl, .inl hS2, _, _, rfl, rfl, _, rfl, ?_⟩
      refine ite2 (fun hlt => ?_) (fun _ => ?_)
      · have hlt' : (k : Int) < ((ns.map V.int).length : Int) := of_decide_eq_true hlt
        have hk2 : k < ns.length := by rw [List.length_map] at hlt'; omega
        refine ⟨_, rfl, _, rfl, a, _, _, _, rfl, rfl, hS2, atI_nat (by rw [List.getElem?_map, List.getElem?_eq_getElem hk2]; rfl), .inl ⟨_, rfl, ?_⟩⟩
        refine ⟨_, rfl, _, _, rfl, rfl, _, rfl, ?_⟩
        refine ite2 (fun _ => iteT ?_) (fun _ => ⟨_, rfl, _, _, rfl, rfl, ⟨by decide, by decide, by decide⟩, _, _, rfl, rfl, _, rfl, ite2 (fun _ => ?_) (fun _ => ?_)⟩)
        · refine ⟨_, rfl, _, rfl, ?_⟩
          exact ⟨_, rfl, _, _, rfl, rfl, .inr ⟨by decide, by decide⟩, _, rfl, _, _, rfl, rfl, (by show (0 : Int) < 1999999973; decide), _, _, rfl, rfl, .inl ⟨_, rfl, _, _, rfl, rfl, (by show (0 : Int) < 1999999973; decide),
            (by show 3 ≤ sizeLine; decide), fun p2 hp2 => q _ p2 (same_new s1 hp2) (s1.free hp2) ⟨_, _, _, upd_same⟩⟩⟩
        · refine ⟨_, rfl, _, rfl, ?_⟩
          exact ⟨_, rfl, _, _, rfl, rfl, .inr ⟨by decide, by decide⟩, _, rfl, _, _, rfl, rfl, (by show (0 : Int) < 1999999973; decide), _, _, rfl, rfl, .inl ⟨_, rfl, _, _, rfl, rfl, (by show (0 : Int) < 1999999973; decide),
            (by show 3 ≤ sizeLine; decide), fun p2 hp2 => q _ p2 (same_new s1 hp2) (s1.free hp2) ⟨_, _, _, upd_same⟩⟩⟩
        · exact ⟨_, rfl, _, _, rfl, rfl, .inr ⟨by decide, by decide⟩, _, rfl, _, _, rfl, rfl, (by show (0 : Int) < 1999999973; decide), _, _, rfl, rfl, .inl ⟨_, rfl, _, _, rfl, rfl, (by show (0 : Int) < 1999999973; decide),
            (by show 3 ≤ sizeLine; decide), fun p2 hp2 => q _ p2 (same_new s1 hp2) (s1.free hp2) ⟨_, _, _, upd_same⟩⟩⟩
      · refine ⟨_, rfl, _, _, rfl, rfl, .inl ⟨by decide, by decide⟩, _, _, rfl, rfl, ?_⟩
        refine ⟨_, rfl, _, _, rfl, rfl, _, rfl, ?_⟩
        refine ite2 (fun _ => iteT ?_) (fun _ => ⟨_, rfl, _, _, rfl, rfl, ⟨by decide, by decide, by decide⟩, _, _, rfl, rfl, _, rfl, ite2 (fun _ => ?_) (fun _ => ?_)⟩)
        · refine ⟨_, rfl, _, rfl, ?_⟩
          exact ⟨_, rfl, _, _, rfl, rfl, .inr ⟨by decide, by decide⟩, _, rfl, _, _, rfl, rfl, (by show (0 : Int) < 1999999973; decide), _, _, rfl, rfl, .inl ⟨_, rfl, _, _, rfl, rfl, (by show (0 : Int) < 1999999973; decide),
            (by show 3 ≤ sizeLine; decide), fun p2 hp2 => q _ p2 (same_new s1 hp2) (s1.free hp2) ⟨_, _, _, upd_same⟩⟩⟩
        · refine ⟨_, rfl, _, rfl, ?_⟩
          exact ⟨_, rfl, _, _, rfl, rfl, .inr ⟨by decide, by decide⟩, _, rfl, _, _, rfl, rfl, (by show (0 : Int) < 1999999973; decide), _, _, rfl, rfl, .inl ⟨_, rfl, _, _, rfl, rfl, (by show (0 : Int) < 1999999973; decide),
            (by show 3 ≤ sizeLine; decide), fun p2 hp2 => q _ p2 (same_new s1 hp2) (s1.free hp2) ⟨_, _, _, upd_same⟩⟩⟩
        · exact ⟨_, rfl, _, _, rfl, rfl, .inr ⟨by decide, by decide⟩, _, rfl, _, _, rfl, rfl, (by show (0 : Int) < 1999999973; decide), _, _, rfl, rfl, .inl ⟨_, rfl, _, _, rfl, rfl, (by show (0 : Int) < 1999999973; decide),
            (by show 3 ≤ sizeLine; decide), fun p2 hp2 => q _ p2 (same_new s1 hp2) (s1.free hp2) ⟨_, _, _, upd_same⟩⟩⟩
theorem scLo : FnScope ["_law_urn_here", "_law_many", "_law_digit"] ["_law_urn_here", "_law_many"] (defScope sLot) := ⟨rfl, rfl, rfl, by decide +kernel, rfl, by decide +kernel, by decide +kernel⟩
theorem ok_lot {f : Addr} {fd : FuncData} (F : Fun K "_law_lot" "_law_lot" sLot f fd) (B : Blt mg) : FnOk P w K mg base CX0 1 f fd ["_law_urn_here", "_law_many"] spLot := by
  refine F.ok scLo (fun vs H Q E h => ?_) (fun cdv A outer s H vs Q E hr h => ?_)
  · obtain ⟨u, m, rfl, _⟩ := h
    rfl
  · obtain ⟨u, m, rfl, ⟨x, y, z, hu⟩, m0, m1, q⟩ := h
    refine ⟨_, pss_cons (ps_if (pt_cmpR op_gt (pe_ix ix_list (pv 0) pe_int (fun _ _ => rfl)) pe_int (nomark _))
        (pss_cons (ps_asg (pe_callB call_divmod (by rfl) B.divmod (by decide +kernel) (pa_cons (pe_callTy call_int1 (by rfl) B.int (by decide +kernel) (pa_cons (pe_ix ix_list (pv 0) pe_int (fun _ _ => rfl)) pa_nil)) (pa_cons (pv 1) pa_nil)))
          (pg_tup rfl (pgs_cons (pg_sub (pv 0) pe_int set_list) (pgs_cons (pg_name (i := 2) scLo.nd rfl (.inl rfl)) pgs_nil))))
        (pss_one (ps_ret (pv 2)))) pss_nil)
      (pss_cons (ps_asg (pe_op op_add (pe_ix ix_list (pv 0) pe_int (fun _ _ => rfl)) pe_int) (pg_sub (pv 0) pe_int set_list))
      (pss_cons (ps_asg (pe_op op_mod (pe_callTy call_int1 (by rfl) B.int (by decide +kernel) (pa_cons (pe_op op_add (pe_op op_add (pe_op op_mul (pe_ix ix_list (pv 0) pe_int (fun _ _ => rfl)) pe_int)
          (pe_op op_mul (pe_op op_fdiv (pe_ix ix_list (pv 0) pe_int (fun _ _ => rfl)) pe_int) pe_int)) (pe_op op_mul pe_int (pe_ix ix_list (pv 0) pe_int (fun _ _ => rfl)))) pa_nil)) pe_int) (pg_sub (pv 0) pe_int set_list))
      (pss_one (ps_ret (pe_op op_mod (pe_callTy call_int1 (by rfl) B.int (by decide +kernel) (pa_cons (pe_op op_fdiv (pe_ix ix_list (pv 0) pe_int (fun _ _ => rfl)) pe_int) pa_nil)) (pv 1)))))), ?_⟩
    refine ⟨_, rfl, u, _, _, _, rfl, rfl, SqL.of hu, rfl, _, _, rfl, rfl, _, rfl, ?_⟩
    refine ite2 (fun _ => ?_) (fun _ => ?_)
    · refine ⟨_, rfl, u, _, _, _, rfl, rfl, SqL.of hu, rfl, .inl ⟨_, rfl, _, rfl, _, _, rfl, ⟨m0, m1⟩, fun p hp => ?_⟩⟩
      have hup : u ≠ p := ne_of_none hu hp
      refine ⟨p, _, rfl, SqT.of upd_same, rfl, _, _, rfl, ⟨_, rfl, u, _, _, 0, rfl, rfl, by rw [upd_ne hup]; exact hu, rfl, _, _, rfl, rfl, ?_⟩⟩
      refine ⟨_, rfl, q _ _ (Int.emod_nonneg _ (by omega)) (Int.emod_lt_of_pos _ m0) ⟨_, _, _, upd_same⟩ ((But.refl.new hp).put)⟩
    · refine ⟨_, rfl, u, _, _, _, rfl, rfl, SqL.of hu, rfl, _, _, rfl, rfl, _, rfl, u, _, _, 2, rfl, rfl, hu, rfl, ?_⟩
      have h1 : (upd H u (.lst ([V.int x, V.int y, V.int z].set 2 (V.int (z + 1))))) u = some (.lst [V.int x, V.int y, V.int (z + 1)]) := upd_same
      refine ⟨_, rfl, u, _, _, _, rfl, rfl, SqL.of h1, rfl, _, _, rfl, rfl, .inr ⟨by decide, by decide⟩,
        _, rfl, u, _, _, _, rfl, rfl, SqL.of h1, rfl, _, _, rfl, rfl, ⟨by decide, by decide⟩, _, _, rfl, rfl, .inr ⟨by decide, by decide⟩, _, _, rfl, rfl,
        _, rfl, u, _, _, _, rfl, rfl, SqL.of h1, rfl, _, _, rfl, rfl, .inl ⟨by decide, by decide⟩, _, _, rfl, rfl,
        .inl ⟨_, rfl, _, _, rfl, rfl, (by show (0 : Int) < 1999999973; decide), _, rfl, u, _, _, 1, rfl, rfl, h1, rfl, ?_⟩⟩
      refine ⟨_, rfl, u, _, _, _, rfl, rfl, SqL.of upd_same, rfl, _, _, rfl, rfl, ⟨by decide, by decide⟩, .inl ⟨_, rfl, _, rfl, _, _, rfl, rfl, m0, ?_⟩⟩
      exact q _ _ (Int.emod_nonneg _ (by omega)) (Int.emod_lt_of_pos _ m0) ⟨_, _, _, upd_same⟩ (But.refl.put.put)
theorem scO : FnScope ["_law_urn_here", "_law_things"] ["_law_urn_here", "_law_things"] (defScope sOne) := ⟨rfl, rfl, rfl, by decide +kernel, rfl, by decide +kernel, by decide +kernel⟩
/-- the draws stand where they stand -/
structure Drw (K : PySem.W.Frag) (mg : Str → Option Value) (fL fO : Addr) (fdL fdO : FuncData) : Prop where
  gL : mg "_law_lot" = some (.ref fL)
  FL : Fun K "_law_lot" "_law_lot" sLot fL fdL
  bL : Binds K fdL ["_law_urn_here", "_law_many"] []
  gO : mg "_law_one" = some (.ref fO)
  FO : Fun K "_law_one" "_law_one" sOne fO fdO
  bO : Binds K fdO ["_law_urn_here", "_law_things"] []
theorem ok_one {fL fO : Addr} {fdL fdO : FuncData} (D : Drw K mg fL fO fdL fdO) (B : Blt mg) : FnOk P w K mg base CX0 2 fO fdO ["_law_urn_here", "_law_things"] (spOne K) := by
  have GL : FnOk P w K mg base CX0 1 fL fdL ["_law_urn_here", "_law_many"] spLot := ok_lot D.FL B
  refine D.FO.ok scO (fun vs H Q E h => ?_) (fun cdv A outer s H vs Q E hr h => ?_)
  · obtain ⟨u, t, xs, rfl, _⟩ := h
    rfl
  · obtain ⟨u, t, xs, rfl, hu, nut, ht, x0, x1, q⟩ := h
    refine ⟨_, pss_one (ps_ret (pe_ix ix_list (pv 1) (pe_call GL hr rfl D.gL D.FL.kp D.bL .nil pass0 (pa_cons (pv 0) (pa_cons (pe_callB call_len_seq (by rfl) B.len PySem.boot_len (pa_cons (pv 1) pa_nil)) pa_nil))) (fun _ _ => rfl))), ?_⟩
    refine ⟨_, rfl, _, rfl, _, rfl, t, xs, rfl, .inl (SqL.of ht), u, _, rfl, hu, by omega, by omega, fun H1 d d0 d1 hu1 bt => ?_⟩
    have ht1 := bt t _ ht (Ne.symm nut)
    obtain ⟨i, rfl⟩ : ∃ i : Nat, d = i := ⟨d.toNat, by omega⟩
    have hi : i < xs.length := by omega
    have hx : xs[i]? = some xs[i] := List.getElem?_eq_getElem hi
    exact ⟨t, xs, _, _, rfl, rfl, SqL.of ht1, atI_nat hx, q H1 i _ hx hu1 bt⟩
theorem scLaw : FnScope ["_law_script", "_law_k"] ["_law_script"] (defScope sLaw) := ⟨rfl, rfl, rfl, by decide +kernel, rfl, by decide +kernel, by decide +kernel⟩
theorem ok_law {f fU fR : Addr} {fd fdU fdR : FuncData} {j : Nat} (F : Fun K "law" "law" sLaw f fd) (B : Blt mg) (gU : mg "_law_urn" = some (.ref fU)) (FU : Fun K "_law_urn" "_law_urn" sUrn fU fdU) (bU : Binds K fdU ["_law_script", "_law_k"] [])
    (gR : mg "_law_right" = some (.ref fR)) (kR : PySem.W.keepIn K (.ref fR) = true) (bR : Binds K fdR ["_law_urn_here"] []) (GR : FnG P w K mg base CX0 (j + 1) fR fdR ["_law_urn_here"] spRight) : FnG P w K mg base CX0 (j + 2) f fd ["_law_script"] (spLaw K) := by
  have GU : FnOk P w K mg base CX0 1 fU fdU ["_law_script", "_law_k"] (spUrn K) := ok_urn FU B
  refine okG F scLaw (fun vs H Q E h => ?_) (fun cdv A outer s H vs Q E hgd hr h => ?_)
  · obtain ⟨a, ns, rfl, _⟩ := h
    rfl
  · obtain ⟨a, ns, rfl, hS, hlen, q⟩ := h
    refine ⟨_, pss_one (ps_ret (pe_callB (cr_all rfl) (by rfl) B.all (by decide +kernel) (pa_cons (pe_lc (own := [("_law_k", 1)]) (g := gName 1) (tt := tYes) rfl scLaw.nd
      (pi_range1 (by rfl) B.range (pa_cons (pe_callB (call_max2 rfl) (by rfl) B.max (by decide +kernel) (pa_cons pe_int (pa_cons (pe_callB (call_min2 rfl) (by rfl) B.min (by decide +kernel)
        (pa_cons (pe_callB call_len_seq (by rfl) B.len PySem.boot_len (pa_cons (pv 0) pa_nil)) (pa_cons pe_int pa_nil))) pa_nil))) pa_nil))
      (blkOk_by (N := ["_law_script", "_law_k"]) (sc := defScope sLaw) (by decide +kernel)) (fun _ _ _ _ _ => pg_name (i := 1) scLaw.nd rfl (Or.inl rfl)) (fun _ _ _ _ _ => pts_nil)
      (fun _ _ _ _ _ => pe_callG GR hgd hr rfl gR kR bR pass0 (pa_cons (pe_call GU (hr.mono (by omega)) rfl gU FU.kp bU .nil pass0 (pa_cons (pv 0) (pa_cons (pv 1) pa_nil))) pa_nil))) pa_nil))), ?_⟩
    refine ⟨_, rfl, a, _, rfl, .inl hS, _, _, rfl, _, _, rfl, ?_⟩
    generalize hj : (if (if (6 : Int) < ((ns.map V.int).length : Int) then (6 : Int) else ((ns.map V.int).length : Int)) > 2 then (if (6 : Int) < ((ns.map V.int).length : Int) then (6 : Int) else ((ns.map V.int).length : Int)) else 2) = n
    have hn : 0 ≤ n ∧ n ≤ 6 := by
      rw [← hj]
      split <;> split <;> omega
    refine ⟨n, rfl, by omega, by omega, fun D hD => ?_⟩
    refine lc_range (lo := 0) (n := n.toNat) (fun i H2 => Same H H2 ∧ H2 D = some (.lst ((List.replicate i true).map V.bl))) ⟨same_new (fun _ _ e => e) hD, upd_same⟩ ?_ ?_
    · rintro i H2 hi ⟨s2, hD2⟩
      refine ⟨rfl, keptT ?_⟩
      refine ⟨_, rfl, _, rfl, a, ns, i, by rw [Int.zero_add]; rfl, s2.seq hS, by omega, fun H3 p s3 np hp => ?_⟩
      refine ⟨p, rfl, hp, fun H4 b4 => ?_⟩
      have hD4 : H4 D = some (.lst ((List.replicate i true).map V.bl)) := b4 D _ (s3 D _ hD2) (ne_of_none hD2 np)
      refine ⟨_, hD4, small1000 (by rw [List.length_map, List.length_replicate]; omega), fun b o e => ?_, ?_⟩
      · have hb : b ≠ D := ne_of_none e hD
        have e2 := s2 b o e
        rw [upd_ne hb]
        exact b4 b o (s3 b o e2) (ne_of_none e2 np)
      · rw [upd_same, List.replicate_succ', List.map_append]
        rfl
    · rintro H2 ⟨s2, hD2⟩
      refine ⟨D, _, rfl, SqL.of hD2, ?_⟩
      have e : (List.replicate n.toNat true).all id = true := by
        rw [List.all_eq_true]
        intro x hx
        exact (List.eq_of_mem_replicate hx)
      rw [e]
      exact q H2
end
end SQ3
namespace SQ3
open PySem L2 SQ
/-- all stands but what is at u, and the tables -/
def ButT (u : Addr) (H H' : Hp) : Prop := ∀ b o, H b = some o → b ≠ u → (∀ ps, o ≠ .tbl ps) → H' b = some o
theorem ButT.of {u : Addr} {H H' : Hp} (a : But u H H') : ButT u H H' := fun b o e n _ => a b o e n
theorem ButT.ofN {u : Addr} {H H' : Hp} (a : LamX.ExtN H H') : ButT u H H' := fun b o e _ t => a b o e t
theorem ButT.trans {u : Addr} {H H1 H2 : Hp} (a : ButT u H H1) (b : ButT u H1 H2) : ButT u H H2 := fun c o e n t => b c o (a c o e n t) n t
theorem ext_new {p : Addr} {H H' : Hp} {o : HO} (a : LamX.ExtN H H') (h : H' p = none) : LamX.ExtN H (upd H' p o) := fun c x e t => by
  have e1 := a c x e t
  rw [upd_ne (ne_of_none e1 h)]
  exact e1
theorem ext_seq {K : PySem.W.Frag} {H H' : Hp} {a : Addr} {xs : List V} (e : LamX.ExtN H H') (h : SqL K H a xs) : SqL K H' a xs := by
  rcases h with (h | ⟨o, h⟩) | h
  · exact .inl (.inl (e _ _ h (fun ps z => nomatch z)))
  · exact .inl (.inr ⟨o, e _ _ h (fun ps z => nomatch z)⟩)
  · exact .inr h
abbrev TL := List (Addr × Str)
def spRightT (T : TL) : Sp := fun vs H Q _ => ∃ u : Addr, vs = [.ref u] ∧ urnAt H u ∧ LamX.Tabs T H ∧ ∀ H' : Hp, ButT u H H' → LamX.Tabs T H' → Q (.bl true) H'
def spLawT (K : PySem.W.Frag) (T : TL) : Sp := fun vs H Q _ => ∃ (a : Addr) (ns : List Int), vs = [.ref a] ∧ SqL K H a (ns.map V.int) ∧ ns.length ≤ 63 ∧ LamX.Tabs T H ∧ ∀ H', Q (.bl true) H'
theorem tabs_put {T : TL} {H : Hp} {D : Addr} {xs ys : List V} (t : LamX.Tabs T H) (hD : H D = some (.lst xs)) : LamX.Tabs T (upd H D (.lst ys)) := by
  intro p hp
  obtain ⟨ps, h1, h2, h3⟩ := t p hp
  refine ⟨ps, ?_, h2, fun pos cv hc => ?_⟩
  · rw [upd_ne (ne_of h1 hD (by intro z; cases z))]
    exact h1
  · obtain ⟨c, e1, e2⟩ := h3 pos cv hc
    refine ⟨c, e1, ?_⟩
    rw [upd_ne (ne_of e2 hD (by intro z; unfold LamX.CodeO at z; cases z))]
    exact e2
section
variable {P : Program} {w : World} {K : PySem.W.Frag} {mg : Str → Option Value} {base : Heap}
theorem ok_lawT {T : TL} {f fU fR : Addr} {fd fdU fdR : FuncData} {j : Nat} (F : Fun K "law" "law" sLaw f fd) (B : Blt mg) (gU : mg "_law_urn" = some (.ref fU)) (FU : Fun K "_law_urn" "_law_urn" sUrn fU fdU) (bU : Binds K fdU ["_law_script", "_law_k"] [])
    (gR : mg "_law_right" = some (.ref fR)) (kR : PySem.W.keepIn K (.ref fR) = true) (bR : Binds K fdR ["_law_urn_here"] []) (GR : FnG P w K mg base CX0 (j + 1) fR fdR ["_law_urn_here"] (spRightT T)) : FnG P w K mg base CX0 (j + 2) f fd ["_law_script"] (spLawT K T) := by
  have GU : FnOk P w K mg base CX0 1 fU fdU ["_law_script", "_law_k"] (spUrn K) := ok_urn FU B
  refine okG F scLaw (fun vs H Q E h => ?_) (fun cdv A outer s H vs Q E hgd hr h => ?_)
  · obtain ⟨a, ns, rfl, _⟩ := h
    rfl
  · obtain ⟨a, ns, rfl, hS, hlen, hT, q⟩ := h
    refine ⟨_, pss_one (ps_ret (pe_callB (cr_all rfl) (by rfl) B.all (by decide +kernel) (pa_cons (pe_lc (own := [("_law_k", 1)]) (g := gName 1) (tt := tYes) rfl scLaw.nd
      (pi_range1 (by rfl) B.range (pa_cons (pe_callB (call_max2 rfl) (by rfl) B.max (by decide +kernel) (pa_cons pe_int (pa_cons (pe_callB (call_min2 rfl) (by rfl) B.min (by decide +kernel)
        (pa_cons (pe_callB call_len_seq (by rfl) B.len PySem.boot_len (pa_cons (pv 0) pa_nil)) (pa_cons pe_int pa_nil))) pa_nil))) pa_nil))
      (blkOk_by (N := ["_law_script", "_law_k"]) (sc := defScope sLaw) (by decide +kernel)) (fun _ _ _ _ _ => pg_name (i := 1) scLaw.nd rfl (Or.inl rfl)) (fun _ _ _ _ _ => pts_nil)
      (fun _ _ _ _ _ => pe_callG GR hgd hr rfl gR kR bR pass0 (pa_cons (pe_call GU (hr.mono (by omega)) rfl gU FU.kp bU .nil pass0 (pa_cons (pv 0) (pa_cons (pv 1) pa_nil))) pa_nil))) pa_nil))), ?_⟩
    refine ⟨_, rfl, a, _, rfl, .inl hS, _, _, rfl, _, _, rfl, ?_⟩
    generalize hj : (if (if (6 : Int) < ((ns.map V.int).length : Int) then (6 : Int) else ((ns.map V.int).length : Int)) > 2 then (if (6 : Int) < ((ns.map V.int).length : Int) then (6 : Int) else ((ns.map V.int).length : Int)) else 2) = n
    have hn : 0 ≤ n ∧ n ≤ 6 := by
      rw [← hj]
      split <;> split <;> omega
    refine ⟨n, rfl, by omega, by omega, fun D hD => ?_⟩
    refine lc_range (lo := 0) (n := n.toNat) (fun i H2 => LamX.ExtN H H2 ∧ LamX.Tabs T H2 ∧ H2 D = some (.lst ((List.replicate i true).map V.bl))) ⟨ext_new (LamX.ExtN.refl H) hD, hT.ext (same_new (fun _ _ e => e) hD), upd_same⟩ ?_ ?_
    · rintro i H2 hi ⟨s2, t2, hD2⟩
      refine ⟨rfl, keptT ?_⟩
      refine ⟨_, rfl, _, rfl, a, ns, i, by rw [Int.zero_add]; rfl, ext_seq s2 hS, by omega, fun H3 p s3 np hp => ?_⟩
      refine ⟨p, rfl, hp, t2.ext s3, fun H4 b4 t4 => ?_⟩
      have hD4 : H4 D = some (.lst ((List.replicate i true).map V.bl)) := b4 D _ (s3 D _ hD2) (ne_of_none hD2 np) (fun ps z => nomatch z)
      refine ⟨_, hD4, small1000 (by rw [List.length_map, List.length_replicate]; omega), fun b o e t => ?_, tabs_put t4 hD4, ?_⟩
      · have hb : b ≠ D := ne_of_none e hD
        have e2 := s2 b o e t
        rw [upd_ne hb]
        exact b4 b o (s3 b o e2) (ne_of_none e2 np) t
      · rw [upd_same, List.replicate_succ', List.map_append]
        rfl
    · rintro H2 ⟨s2, t2, hD2⟩
      refine ⟨D, _, rfl, SqL.of hD2, ?_⟩
      have e : (List.replicate n.toNat true).all id = true := by
        rw [List.all_eq_true]
        intro x hx
        exact (List.eq_of_mem_replicate hx)
      rw [e]
      exact q H2
end
end SQ3
namespace SQ3
open PySem L2 SQ
abbrev sPI : Stmt := top 9
abbrev sNm : Stmt := top 10
abbrev sFN : Stmt := top 11
abbrev sAr : Stmt := top 16
abbrev sEn : Stmt := top 17
/-- the kinds of values that come here -/
inductive Kd (H : Hp) : V → String → Prop
  | non : Kd H .non "NoneType"
  | bl (b : Bool) : Kd H (.bl b) "bool"
  | int (i : Int) : Kd H (.int i) "int"
  | str (x : Str) (h : x.length ≤ 1000) : Kd H (.str x) "str"
  | lst {a : Addr} {xs : List V} (e : H a = some (.lst xs)) : Kd H (.ref a) "list"
  | tup {a : Addr} {xs : List V} (e : H a = some (.tup xs)) : Kd H (.ref a) "tuple"
  | dic {a : Addr} {kvs : List (Key × V)} (e : H a = some (.dK kvs)) : Kd H (.ref a) "dict"
theorem Kd.ty {K : PySem.W.Frag} {H : Hp} {v : V} {t : String} (k : Kd H v t) : TyX K H v (.type t) := by
  cases k with
  | non => exact .base .non
  | bl b => exact .base (.bl b)
  | int i => exact .base (.int i)
  | str x h => exact .base (.str x)
  | lst e => exact .base (.lst e)
  | tup e => exact .base (.tup e)
  | dic e => exact .base (.dK e)
theorem Kd.same {H H' : Hp} {v : V} {t : String} (s : Same H H') (k : Kd H v t) : Kd H' v t := by
  cases k with
  | non => exact .non
  | bl b => exact .bl b
  | int i => exact .int i
  | str x h => exact .str x h
  | lst e => exact .lst (s _ _ e)
  | tup e => exact .tup (s _ _ e)
  | dic e => exact .dic (s _ _ e)
/-- isinstance(x, n) -/
theorem isi_ok {K : PySem.W.Frag} {H : Hp} {v : V} {t n : String} {b : Bool} {Q : VK} (k : Kd H v t) (h : kitB t n = some b) (q : Q (.bl b) H) : rIsi K [v, .ty n] H Q := ⟨v, .ty n, .type t, .type n, b, rfl, .ty n, k.ty, kit_ty h, q⟩
def isInt : V → Bool
  | .int _ => true
  | _ => false
def letters : List Nat := [97, 98, 99, 100, 101, 102, 103, 104, 105, 106, 107, 108, 109, 110, 111, 112, 113, 114, 115, 116, 117, 118, 119, 120, 121, 122]
def nameOk (n : Str) : Bool := decide (1 ≤ (n.length : Int)) && decide ((n.length : Int) ≤ 8) && n.cps.toList.all fun c => decide (c ∈ letters)
def isNm : V → Bool
  | .str n => nameOk n
  | _ => false
def cores : List Str := ["call", "dip", "curry", "compose", "choose"]
def isFree : V → Bool
  | .str n => nameOk n && !decide (n ∈ cores)
  | _ => false
def isAr : V → Bool
  | .int i => decide (0 ≤ i) && decide (i ≤ 3)
  | _ => false
structure B2 (mg : Str → Option Value) : Prop where
  isi : mg "isinstance" = none
  int : mg "int" = none
  bool : mg "bool" = none
  str : mg "str" = none
  tuple : mg "tuple" = none
  len : mg "len" = none
  all : mg "all" = none
  lets : ∃ t, mg "LETTERS" = some (.str "abcdefghijklmnopqrstuvwxyz" t)
  longest : ∃ t, mg "LONGEST_NAME" = some (.int 8 t)
  ar : ∃ t, mg "MOST_ARITY" = some (.int 3 t)
section
variable {P : Program} {w : World} {K : PySem.W.Frag} {mg : Str → Option Value} {base : Heap}
def spV (f : V → Bool) : Sp := fun vs H Q _ => ∃ (v : V) (t : String), vs = [v] ∧ Kd H v t ∧ ∀ H', Same H H' → Q (.bl (f v)) H'
theorem scPI : FnScope ["value"] ["value"] (defScope sPI) := ⟨rfl, rfl, rfl, by decide +kernel, rfl, by decide +kernel, by decide +kernel⟩
theorem ok_pi {f : Addr} {fd : FuncData} (F : Fun K "is_plain_integer" "is_plain_integer" sPI f fd) (B : B2 mg) : FnOk P w K mg base CX0 1 f fd ["value"] (spV isInt) := by
  refine F.ok scPI (fun vs H Q E h => ?_) (fun cdv A outer s H vs Q E hr h => ?_)
  · obtain ⟨v, t, rfl, _⟩ := h
    rfl
  · obtain ⟨v, t, rfl, k, q⟩ := h
    have q0 := q H (fun _ _ e => e)
    refine ⟨_, pss_one (ps_ret (pe_and (pe_callB call_isi (by rfl) B.isi (by decide +kernel) (pa_cons (pv 0) (pa_cons (pe_bltn (v := .ty "int") (by rfl) B.int (by decide +kernel) rfl) pa_nil)))
      (pe_one (pe_not (pe_callB call_isi (by rfl) B.isi (by decide +kernel) (pa_cons (pv 0) (pa_cons (pe_bltn (v := .ty "bool") (by rfl) B.bool (by decide +kernel) rfl) pa_nil))))))), ?_⟩
    refine ⟨_, rfl, ?_⟩
    cases k with
    | non => exact ⟨_, _, _, _, false, rfl, .ty "int", Kd.non.ty, kit_ty (by decide +kernel), _, rfl, iteF q0⟩
    | bl b => exact ⟨_, _, _, _, true, rfl, .ty "int", (Kd.bl b).ty, kit_ty (by decide +kernel), _, rfl, iteT ⟨_, rfl, _, _, _, _, true, rfl, .ty "bool", (Kd.bl b).ty, kit_ty (by decide +kernel), _, rfl, q0⟩⟩
    | int i => exact ⟨_, _, _, _, true, rfl, .ty "int", (Kd.int i).ty, kit_ty (by decide +kernel), _, rfl, iteT ⟨_, rfl, _, _, _, _, false, rfl, .ty "bool", (Kd.int i).ty, kit_ty (by decide +kernel), _, rfl, q0⟩⟩
    | str x hx => exact ⟨_, _, _, _, false, rfl, .ty "int", (Kd.str x hx).ty, kit_ty (by decide +kernel), _, rfl, iteF q0⟩
    | lst e => exact ⟨_, _, _, _, false, rfl, .ty "int", (Kd.lst e).ty, kit_ty (by decide +kernel), _, rfl, iteF q0⟩
    | tup e => exact ⟨_, _, _, _, false, rfl, .ty "int", (Kd.tup e).ty, kit_ty (by decide +kernel), _, rfl, iteF q0⟩
    | dic e => exact ⟨_, _, _, _, false, rfl, .ty "int", (Kd.dic e).ty, kit_ty (by decide +kernel), _, rfl, iteF q0⟩
theorem scNm : FnScope ["value", "letter"] ["value"] (defScope sNm) := ⟨rfl, rfl, rfl, by decide +kernel, rfl, by decide +kernel, by decide +kernel⟩
theorem ok_nm {f : Addr} {fd : FuncData} (F : Fun K "is_name" "is_name" sNm f fd) (B : B2 mg) : FnOk P w K mg base CX0 1 f fd ["value"] (spV isNm) := by
  obtain ⟨t1, hlet⟩ := B.lets
  obtain ⟨t2, hlon⟩ := B.longest
  refine F.ok scNm (fun vs H Q E h => ?_) (fun cdv A outer s H vs Q E hr h => ?_)
  · obtain ⟨v, t, rfl, _⟩ := h
    rfl
  · obtain ⟨v, t, rfl, k, q⟩ := h
    have q0 := q H (fun _ _ e => e)
    refine ⟨_, pss_cons (ps_if (PW.pt (pw_or (pt_not (pt_val (pe_callB call_isi (by rfl) B.isi (by decide +kernel) (pa_cons (pv 0) (pa_cons (pe_bltn (v := .ty "str") (by rfl) B.str (by decide +kernel) rfl) pa_nil)))))
        (pw_or1 (pt_not (pt_chain op_le op_le pe_int (pe_callB call_len_str (by rfl) B.len PySem.boot_len (pa_cons (pv 0) pa_nil)) (pe_glob (v := .int 8) rfl hlon ⟨_, rfl⟩))))))
        (pss_one (ps_ret pe_bl)) pss_nil)
      (pss_one (ps_ret (pe_callB (cr_all rfl) (by rfl) B.all (by decide +kernel) (pa_cons (pe_lc (own := [("letter", 1)]) (g := gName 1) (tt := tYes) rfl scNm.nd (pi_str (pv 0)) (blkOk_by (N := ["value", "letter"]) (sc := defScope sNm) (by decide +kernel))
        (fun _ _ _ _ _ => pg_name (i := 1) scNm.nd rfl (Or.inl rfl)) (fun _ _ _ _ _ => pts_nil) (fun _ _ _ _ _ => pe_cmpR op_in_sign (pv 1) (pe_glob (v := .str "abcdefghijklmnopqrstuvwxyz") rfl hlet ⟨_, rfl⟩) rfl)) pa_nil)))), ?_⟩
    refine ⟨_, rfl, ?_⟩
    cases k with
    | non => exact ⟨_, _, _, _, false, rfl, .ty "str", Kd.non.ty, kit_ty (by decide +kernel), _, rfl, iteT (iteT q0)⟩
    | bl b => exact ⟨_, _, _, _, false, rfl, .ty "str", (Kd.bl b).ty, kit_ty (by decide +kernel), _, rfl, iteT (iteT q0)⟩
    | int i => exact ⟨_, _, _, _, false, rfl, .ty "str", (Kd.int i).ty, kit_ty (by decide +kernel), _, rfl, iteT (iteT q0)⟩
    | lst e => exact ⟨_, _, _, _, false, rfl, .ty "str", (Kd.lst e).ty, kit_ty (by decide +kernel), _, rfl, iteT (iteT q0)⟩
    | tup e => exact ⟨_, _, _, _, false, rfl, .ty "str", (Kd.tup e).ty, kit_ty (by decide +kernel), _, rfl, iteT (iteT q0)⟩
    | dic e => exact ⟨_, _, _, _, false, rfl, .ty "str", (Kd.dic e).ty, kit_ty (by decide +kernel), _, rfl, iteT (iteT q0)⟩
    | str x hx =>
      refine ⟨_, _, _, _, true, rfl, .ty "str", (Kd.str x hx).ty, kit_ty (by decide +kernel), _, rfl, iteF ?_⟩
      have hx' : x.length ≤ sizeLine := Nat.le_of_lt (small1000 hx)
      refine ⟨_, rfl, x, rfl, hx', _, _, rfl, rfl, _, rfl, ?_⟩
      refine ite2 (fun h1 => ⟨_, _, rfl, rfl, _, rfl, ?_⟩) (fun h1 => ⟨_, rfl, iteT ?_⟩)
      · by_cases h8 : (x.length : Int) ≤ 8
        · rw [decide_eq_true h8]
          refine iteF ?_
          have hq : isNm (.str x) = x.cps.toList.all fun c => decide (c ∈ letters) := by
            show (decide (1 ≤ (x.length : Int)) && decide ((x.length : Int) ≤ 8) && x.cps.toList.all fun c => decide (c ∈ letters)) = _
            rw [h1, decide_eq_true h8]
            rfl
          rw [hq] at q
          refine ⟨_, rfl, x, rfl, fun D hD => ?_⟩
          refine lc_it (walk_str (z := x)) (fun i H2 => H2 = upd H D (.lst (((x.cps.toList.take i).map fun c => decide (c ∈ letters)).map V.bl))) rfl (fun _ _ _ _ => trivial) ?_ ?_
          · rintro i v H2 H3 hi rfl ⟨rfl, c, hc, rfl⟩
            refine ⟨rfl, keptT ⟨_, rfl, c, _, rfl, rfl, _, upd_same, small1000 ?_, ?_⟩⟩
            · have hz : x.cps.toList.length ≤ 1000 := hx
              rw [List.length_map, List.length_map, List.length_take]
              exact Nat.le_trans (Nat.min_le_right _ _) hz
            · have e1 : (("abcdefghijklmnopqrstuvwxyz" : Str).cps.toList) = letters := by decide +kernel
              have e2 : x.cps.toList.take (i + 1) = x.cps.toList.take i ++ [c] := by
                rw [List.take_add_one]
                have : x.cps.toList[i]? = some c := by simpa using hc
                rw [this]
                rfl
              rw [upd_upd, e1, e2, List.map_append, List.map_append]
              rfl
          · rintro H2 rfl
            refine ⟨D, _, rfl, SqL.of upd_same, ?_⟩
            have e3 : ((x.cps.toList.take x.cps.size).map fun c => decide (c ∈ letters)).all id = x.cps.toList.all fun c => decide (c ∈ letters) := by
              rw [List.all_map, show x.cps.size = x.cps.toList.length from rfl, List.take_length]
              rfl
            rw [e3]
            exact q _ (same_new (fun _ _ e => e) hD)
        · rw [decide_eq_false h8]
          refine iteT ?_
          have hq : isNm (.str x) = false := by
            show (decide (1 ≤ (x.length : Int)) && decide ((x.length : Int) ≤ 8) && x.cps.toList.all fun c => decide (c ∈ letters)) = _
            rw [decide_eq_false h8, Bool.and_false]
            rfl
          rw [hq] at q0
          exact q0
      · have h1' : decide (1 ≤ (x.length : Int)) = false := Bool.eq_false_iff.mpr h1
        have hq : isNm (.str x) = false := by
          show (decide (1 ≤ (x.length : Int)) && decide ((x.length : Int) ≤ 8) && x.cps.toList.all fun c => decide (c ∈ letters)) = _
          rw [h1']
          rfl
        rw [hq] at q0
        exact q0
/-- where the helpers stand -/
structure D2 (K : PySem.W.Frag) (mg : Str → Option Value) (fP fN fF fA fE : Addr) (dP dN dF dA dE : FuncData) : Prop where
  gP : mg "is_plain_integer" = some (.ref fP)
  FP : Fun K "is_plain_integer" "is_plain_integer" sPI fP dP
  bP : Binds K dP ["value"] []
  gN : mg "is_name" = some (.ref fN)
  FN : Fun K "is_name" "is_name" sNm fN dN
  bN : Binds K dN ["value"] []
  gF : mg "is_free_name" = some (.ref fF)
  FF : Fun K "is_free_name" "is_free_name" sFN fF dF
  bF : Binds K dF ["value"] []
  gA : mg "is_arity" = some (.ref fA)
  FA : Fun K "is_arity" "is_arity" sAr fA dA
  bA : Binds K dA ["value"] []
  gE : mg "is_entry" = some (.ref fE)
  FE : Fun K "is_entry" "is_entry" sEn fE dE
  bE : Binds K dE ["value"] []
/-- CORE_WORDS -/
structure Core (K : PySem.W.Frag) (mg : Str → Option Value) (tC : Addr) : Prop where
  g : mg "CORE_WORDS" = some (.ref tC)
  at_ : ∀ H : Hp, SqT K H tC (cores.map V.str)
theorem inV_strs (x : Str) : ∀ l : List Str, inV (.str x) (l.map V.str) = decide (x ∈ l)
  | [] => rfl
  | y :: l => by
    have ih := inV_strs x l
    unfold inV at ih ⊢
    rw [List.map_cons, List.any_cons, ih]
    by_cases h : y = x
    · subst h
      simp [eqV]
    · have h' : ¬ x = y := fun e => h e.symm
      simp [eqV, h, h']
theorem inV_cores {x : Str} : inV (.str x) (cores.map V.str) = decide (x ∈ cores) := inV_strs x cores
variable {fP fN fF fA fE tC : Addr} {dP dN dF dA dE : FuncData}
theorem scFN : FnScope ["value"] ["value"] (defScope sFN) := ⟨rfl, rfl, rfl, by decide +kernel, rfl, by decide +kernel, by decide +kernel⟩
theorem ok_fn (D : D2 K mg fP fN fF fA fE dP dN dF dA dE) (B : B2 mg) (C : Core K mg tC) : FnOk P w K mg base CX0 2 fF dF ["value"] (spV isFree) := by
  have GN : FnOk P w K mg base CX0 1 fN dN ["value"] (spV isNm) := ok_nm D.FN B
  refine D.FF.ok scFN (fun vs H Q E h => ?_) (fun cdv A outer s H vs Q E hr h => ?_)
  · obtain ⟨v, t, rfl, _⟩ := h
    rfl
  · obtain ⟨v, t, rfl, k, q⟩ := h
    refine ⟨_, pss_one (ps_ret (pe_and (pe_call GN hr rfl D.gN D.FN.kp D.bN .nil pass0 (pa_cons (pv 0) pa_nil)) (pe_one (pe_cmpR op_notIn_seq (pv 0) (pe_glob (v := .ref tC) rfl C.g rfl) (by rfl))))), ?_⟩
    refine ⟨_, rfl, v, t, rfl, k, fun H1 s1 => ⟨_, rfl, ?_⟩⟩
    have q1 := q H1 s1
    cases k with
    | str x hx =>
      cases hn : nameOk x with
      | false =>
        have e : isFree (.str x) = false := by
          show (nameOk x && !decide (x ∈ cores)) = false
          rw [hn]
          rfl
        rw [e] at q1
        rw [show isNm (.str x) = false from hn]
        exact iteF q1
      | true =>
        rw [show isNm (.str x) = true from hn]
        refine iteT ⟨_, rfl, tC, _, rfl, .inr (C.at_ H1), rfl, ?_, ?_⟩
        · decide
        · have e : (!inV (.str x) (cores.map V.str)) = isFree (.str x) := by
            show _ = (nameOk x && !decide (x ∈ cores))
            rw [hn, Bool.true_and]
            rw [inV_cores]
          show Q (.bl (!inV (.str x) (cores.map V.str))) H1
          rw [e]
          exact q1
    | non => exact iteF q1
    | bl b => exact iteF q1
    | int i => exact iteF q1
    | lst e => exact iteF q1
    | tup e => exact iteF q1
    | dic e => exact iteF q1
theorem scAr : FnScope ["value"] ["value"] (defScope sAr) := ⟨rfl, rfl, rfl, by decide +kernel, rfl, by decide +kernel, by decide +kernel⟩
theorem ok_ar (D : D2 K mg fP fN fF fA fE dP dN dF dA dE) (B : B2 mg) : FnOk P w K mg base CX0 2 fA dA ["value"] (spV isAr) := by
  have GP : FnOk P w K mg base CX0 1 fP dP ["value"] (spV isInt) := ok_pi D.FP B
  obtain ⟨t3, har⟩ := B.ar
  refine D.FA.ok scAr (fun vs H Q E h => ?_) (fun cdv A outer s H vs Q E hr h => ?_)
  · obtain ⟨v, t, rfl, _⟩ := h
    rfl
  · obtain ⟨v, t, rfl, k, q⟩ := h
    refine ⟨_, pss_one (ps_ret (pe_and (pe_call GP hr rfl D.gP D.FP.kp D.bP .nil pass0 (pa_cons (pv 0) pa_nil)) (pe_one (pe_chain op_le op_le pe_int (pv 0) (pe_glob (v := .int 3) rfl har ⟨_, rfl⟩))))), ?_⟩
    refine ⟨_, rfl, v, t, rfl, k, fun H1 s1 => ⟨_, rfl, ?_⟩⟩
    have q1 := q H1 s1
    cases k with
    | int i =>
      refine iteT ⟨_, rfl, _, _, rfl, rfl, _, rfl, ite2 (fun h0 => ⟨_, _, rfl, rfl, ?_⟩) (fun h0 => ?_)⟩
      · have e : decide (i ≤ 3) = isAr (.int i) := by
          show _ = (decide (0 ≤ i) && decide (i ≤ 3))
          rw [h0, Bool.true_and]
        show Q (.bl (decide (i ≤ 3))) H1
        rw [e]
        exact q1
      · have e : isAr (.int i) = false := by
          show (decide (0 ≤ i) && decide (i ≤ 3)) = false
          rw [Bool.eq_false_iff.mpr h0]
          rfl
        rw [e] at q1
        exact q1
    | str x hx => exact iteF q1
    | non => exact iteF q1
    | bl b => exact iteF q1
    | lst e => exact iteF q1
    | tup e => exact iteF q1
    | dic e => exact iteF q1
end
end SQ3
namespace SQ3
open PySem L2 SQ
/-- what is_entry makes of a value -/
inductive Ent (H : Hp) : V → Option (Str × Int × Int) → Prop
  | no {v : V} {t : String} (k : Kd H v t) (ht : (t == "tuple") = false) : Ent H v none
  | len {a : Addr} {xs : List V} (e : H a = some (.tup xs)) (h : ((xs.length : Int) == 3) = false) : Ent H (.ref a) none
  | bad {a : Addr} {x y z : V} {tx ty tz : String} (e : H a = some (.tup [x, y, z])) (kx : Kd H x tx) (ky : Kd H y ty) (kz : Kd H z tz) (h : (isFree x && (isAr y && isAr z)) = false) : Ent H (.ref a) none
  | good {a : Addr} {n : Str} {i j : Int} (e : H a = some (.tup [.str n, .int i, .int j])) (hn : n.length ≤ 1000) (h : (isFree (.str n) && (isAr (.int i) && isAr (.int j))) = true) : Ent H (.ref a) (some (n, i, j))
theorem Ent.same {H H' : Hp} {v : V} {o : Option (Str × Int × Int)} (s : Same H H') (k : Ent H v o) : Ent H' v o := by
  cases k with
  | no k ht => exact .no (k.same s) ht
  | len e h => exact .len (s _ _ e) h
  | bad e kx ky kz h => exact .bad (s _ _ e) (kx.same s) (ky.same s) (kz.same s) h
  | good e hn h => exact .good (s _ _ e) hn h
section
variable {P : Program} {w : World} {K : PySem.W.Frag} {mg : Str → Option Value} {base : Heap} {fP fN fF fA fE tC : Addr} {dP dN dF dA dE : FuncData}
def spEn : Sp := fun vs H Q _ => ∃ (v : V) (o : Option (Str × Int × Int)), vs = [v] ∧ Ent H v o ∧ ∀ H', Same H H' → Q (.bl o.isSome) H'
theorem scEn : FnScope ["value", "name", "inputs", "outputs"] ["value"] (defScope sEn) := ⟨rfl, rfl, rfl, by decide +kernel, rfl, by decide +kernel, by decide +kernel⟩
theorem st {H H1 H2 : Hp} (a : Same H H1) (b : Same H1 H2) : Same H H2 := fun x o e => b x o (a x o e)
theorem ok_en (D : D2 K mg fP fN fF fA fE dP dN dF dA dE) (B : B2 mg) (C : Core K mg tC) : FnOk P w K mg base CX0 3 fE dE ["value"] spEn := by
  have GF : FnOk P w K mg base CX0 2 fF dF ["value"] (spV isFree) := ok_fn D B C
  have GA : FnOk P w K mg base CX0 2 fA dA ["value"] (spV isAr) := ok_ar D B
  refine D.FE.ok scEn (fun vs H Q E h => ?_) (fun cdv A outer s H vs Q E hr h => ?_)
  · obtain ⟨v, o, rfl, _⟩ := h
    rfl
  · obtain ⟨v, o, rfl, k, q⟩ := h
    refine ⟨_, pss_cons (ps_if (PW.pt (pw_or (pt_not (pt_val (pe_callB call_isi (by rfl) B.isi (by decide +kernel) (pa_cons (pv 0) (pa_cons (pe_bltn (v := .ty "tuple") (by rfl) B.tuple (by decide +kernel) rfl) pa_nil)))))
        (pw_or1 (pt_cmpR op_ne (pe_callB call_len_seq (by rfl) B.len PySem.boot_len (pa_cons (pv 0) pa_nil)) pe_int (nomark _))))) (pss_one (ps_ret pe_bl)) pss_nil)
      (pss_cons (ps_asg (pv 0) (pg_tup rfl (pgs_cons (pg_name (i := 1) scEn.nd rfl (.inl rfl)) (pgs_cons (pg_name (i := 2) scEn.nd rfl (.inl rfl)) (pgs_cons (pg_name (i := 3) scEn.nd rfl (.inl rfl)) pgs_nil)))))
      (pss_one (ps_ret (pe_and (pe_call GF hr rfl D.gF D.FF.kp D.bF .nil pass0 (pa_cons (pv 1) pa_nil)) (pe_and (pe_call GA hr rfl D.gA D.FA.kp D.bA .nil pass0 (pa_cons (pv 2) pa_nil))
        (pe_one (pe_call GA hr rfl D.gA D.FA.kp D.bA .nil pass0 (pa_cons (pv 3) pa_nil)))))))), ?_⟩
    refine ⟨_, rfl, ?_⟩
    have q0 := q H (fun _ _ e => e)
    cases k with
    | no k ht =>
      have fin : ∀ t, (t == "tuple") = false → Kd H v t → kitB t "tuple" = some false := by
        intro t h k
        cases k
        · decide +kernel
        · decide +kernel
        · decide +kernel
        · decide +kernel
        · decide +kernel
        · exact absurd h (by decide)
        · decide +kernel
      exact ⟨_, _, _, _, false, rfl, .ty "tuple", k.ty, kit_ty (fin _ ht k), _, rfl, iteT (iteT q0)⟩
    | @len a xs e h =>
      refine ⟨_, _, _, _, true, rfl, .ty "tuple", (Kd.tup e).ty, kit_ty (by decide +kernel), _, rfl, iteF ?_⟩
      refine ⟨_, rfl, a, xs, rfl, .inr (SqT.of e), rfl, _, rfl, ?_⟩
      have ne : ¬ (V.int (xs.length : Int) = V.int 3) := fun z => by
        have z' : (xs.length : Int) = 3 := V.int.inj z
        rw [z'] at h
        exact absurd h (by decide)
      rw [decide_eq_false ne]
      exact iteT q0
    | @bad a x y z tx ty tz e kx ky kz h =>
      refine ⟨_, _, _, _, true, rfl, .ty "tuple", (Kd.tup e).ty, kit_ty (by decide +kernel), _, rfl, iteF ?_⟩
      refine ⟨_, rfl, a, _, rfl, .inr (SqT.of e), rfl, _, rfl, iteNS rfl ?_⟩
      refine ⟨_, rfl, a, _, rfl, SqT.of e, rfl, _, _, rfl, _, _, rfl, _, _, rfl, rfl, ?_⟩
      refine ⟨_, rfl, x, tx, rfl, kx, fun H1 s1 => ⟨_, rfl, ?_⟩⟩
      cases hx : isFree x with
      | false => exact iteF (q H1 s1)
      | true =>
        rw [hx, Bool.true_and] at h
        refine iteT ⟨_, rfl, y, ty, rfl, ky.same s1, fun H2 s2 => ⟨_, rfl, ?_⟩⟩
        cases hy : isAr y with
        | false => exact iteF (q H2 (st s1 s2))
        | true =>
          rw [hy, Bool.true_and] at h
          refine iteT ⟨_, rfl, z, tz, rfl, (kz.same s1).same s2, fun H3 s3 => ?_⟩
          rw [h]
          exact q H3 (st s1 (st s2 s3))
    | @good a n i j e hn h =>
      refine ⟨_, _, _, _, true, rfl, .ty "tuple", (Kd.tup e).ty, kit_ty (by decide +kernel), _, rfl, iteF ?_⟩
      refine ⟨_, rfl, a, _, rfl, .inr (SqT.of e), rfl, _, rfl, iteNS rfl ?_⟩
      refine ⟨_, rfl, a, _, rfl, SqT.of e, rfl, _, _, rfl, _, _, rfl, _, _, rfl, rfl, ?_⟩
      rw [Bool.and_eq_true, Bool.and_eq_true] at h
      obtain ⟨h1, h2, h3⟩ := h
      refine ⟨_, rfl, .str n, _, rfl, .str n hn, fun H1 s1 => ⟨_, rfl, ?_⟩⟩
      rw [h1]
      refine iteT ⟨_, rfl, .int i, _, rfl, .int i, fun H2 s2 => ⟨_, rfl, ?_⟩⟩
      rw [h2]
      refine iteT ⟨_, rfl, .int j, _, rfl, .int j, fun H3 s3 => ?_⟩
      rw [h3]
      exact q H3 (st s1 (st s2 s3))
end
end SQ3
namespace SQ3
open PySem L2 SQ
abbrev sChk : Stmt := top 18
theorem dp_of {k : Nat} {A : Around} (hr : Room k A) : A.depth + 1 < recursionLimit := by
  have := hr.dp
  omega
abbrev En := Option (Str × Int × Int)
abbrev Ents (H : Hp) (xs : List V) (os : List En) : Prop := Paired (Ent H) xs os
theorem Ents.same {H H' : Hp} {xs : List V} {os : List En} (s : Same H H') (h : Ents H xs os) : Ents H' xs os := Paired.mapP h fun a b e => e.same s
/-- the first place that is refused, what stands ahead of i having the names seen -/
def firstBad (seen : List Str) (i : Nat) : List En → Option Nat
  | [] => none
  | none :: _ => some i
  | some (n, _, _) :: os => if n ∈ seen then some i else firstBad (n :: seen) (i + 1) os
/-- what the error's index holds, if there is one -/
def verdict (os : List En) : Option V := if 8 < os.length then some .non else (firstBad [] 0 os).map fun i => .int (i : Nat)
/-- the error's class as the top has made it -/
structure EC (K : PySem.W.Frag) (mg : Str → Option Value) (CE fI : Addr) : Prop where
  g : mg "InvalidEntries" = some (.ref CE)
  T : ErrC K CE "index" [.type "ValueError", .type "Exception", .type "BaseException", .type "object"] "ValueError.__new__"
  J : ErrI K CE fI "index"
  ty : PySem.W.typeIn K (.ref CE) = some (.type "type")
structure B3 (mg : Str → Option Value) : Prop where
  set : mg "set" = none
  enumerate : mg "enumerate" = none
  most : ∃ t, mg "MOST_ENTRIES" = some (.int 8 t)
def spChk (CE : Addr) : Sp := fun vs H Q E => ∃ (t : Addr) (xs : List V) (os : List En), vs = [.ref t] ∧ H t = some (.tup xs) ∧ Ents H xs os ∧ xs.length ≤ 2000 ∧
  (∀ idx, verdict os = some idx → ∀ (d : Addr) (H' : Hp), Same H H' → H' d = some (.xd [("index", idx)]) → E (.ref CE) (some d) H') ∧ (verdict os = none → ∀ H', Same H H' → Q .non H')
section
variable {P : Program} {w : World} {K : PySem.W.Frag} {mg : Str → Option Value} {base : Heap} {fP fN fF fA fE tC CE fI : Addr} {dP dN dF dA dE : FuncData}
theorem scCk : FnScope ["entries", "taken", "place", "entry"] ["entries"] (defScope sChk) := ⟨rfl, rfl, rfl, by decide +kernel, rfl, by decide +kernel, by decide +kernel⟩
theorem walk_enumT {a : Addr} {xs : List V} : Walk (ItT K a) xs.length (fun H => SqT K H a xs) (YPair (fun i => some (.int (i : Nat))) (fun i => xs[i]?)) := by
  refine ⟨fun i _ hi q => ⟨xs, xs[i], q, by simp [hi]⟩, fun _ q => ⟨xs, q, rfl⟩, fun i H v H' _ q y => ?_⟩
  obtain ⟨T, x, h1, h2, h3, h4⟩ := y
  exact ⟨T, .int (i : Nat), x, h1, h2, h3, rfl, h4 xs q⟩
theorem Ents.get {H : Hp} : ∀ {xs : List V} {os : List En} {i : Nat} {x : V}, Ents H xs os → xs[i]? = some x → ∃ o, os[i]? = some o ∧ Ent H x o
  | _, _, _, _, .nil, e => by simp at e
  | _, _, 0, x, .cons r t, e => by
    cases e
    exact ⟨_, rfl, r⟩
  | _, _, i + 1, x, .cons r t, e => Ents.get (i := i) (x := x) t e
theorem drop_at {α : Type} : ∀ {l : List α} {i : Nat} {x : α}, l[i]? = some x → l.drop i = x :: l.drop (i + 1)
  | [], i, x, h => by simp at h
  | a :: l, 0, x, h => by
    cases h
    rfl
  | a :: l, i + 1, x, h => drop_at (l := l) (i := i) h
theorem ok_chk {f : Addr} {fd : FuncData} (F : Fun K "check_entries" "check_entries" sChk f fd) (D : D2 K mg fP fN fF fA fE dP dN dF dA dE) (B : B2 mg) (C : Core K mg tC) (Z : EC K mg CE fI) (BB : B3 mg) : FnOk P w K mg base (L2N.CX P w) 4 f fd ["entries"] (spChk CE) := by
  have GE : FnOk P w K mg base CX0 3 fE dE ["value"] spEn := ok_en D B C
  obtain ⟨tM, hM⟩ := BB.most
  refine okN F scCk (fun vs H Q E h => ?_) (fun cdv A outer s H vs Q E hr h => ?_)
  · obtain ⟨t, xs, os, rfl, _⟩ := h
    rfl
  · obtain ⟨t, xs, os, rfl, ht, he, hlen, kE, kQ⟩ := h
    have hl : xs.length = os.length := Paired.length he
    refine ⟨_, pss_cons (ps_if (pt_cmpR op_gt (pe_callB call_len_seq (by rfl) B.len PySem.boot_len (pa_cons (pv 0) pa_nil)) (pe_glob (v := .int 8) rfl hM ⟨_, rfl⟩) (nomark _))
        (pss_one (L2N.ps_raise rfl (L2N.takes_of rfl rfl rfl rfl) (L2H.PMk5.pmk (pmk5_err (.inr (.inl rfl)) bValue Z.T Z.J Z.ty Z.g (dp_of hr) rfl pe_non)))) pss_nil)
      (pss_cons (ps_set (i := 1) scCk.nd rfl (.inl rfl) (pe_callTy0 cr_set0K (by rfl) BB.set (by decide +kernel)))
      (pss_one (ps_for (passes_of rfl) rfl (pi_enumT (by rfl) BB.enumerate (pa_cons (pv 0) pa_nil)) (pg_tup rfl (pgs_cons (pg_name (i := 2) scCk.nd rfl (.inl rfl)) (pgs_cons (pg_name (i := 3) scCk.nd rfl (.inl rfl)) pgs_nil)))
        (pss_cons (ps_if (PW.pt (pw_or (pt_not (pt_val (pe_call GE hr rfl D.gE D.FE.kp D.bE .nil pass0 (pa_cons (pv 3) pa_nil)))) (pw_or1 (pt_cmpR or_sinK (pe_ix ix_tup (pv 3) pe_int (fun _ _ => rfl)) (pv 1) (by rfl)))))
          (pss_one (L2N.ps_raise rfl (L2N.takes_of rfl rfl rfl rfl) (L2H.PMk5.pmk (pmk5_err (.inr (.inl rfl)) bValue Z.T Z.J Z.ty Z.g (dp_of hr) rfl (pv 2))))) pss_nil)
        (pss_one (ps_expr (pe_saddK (pv 1) (pa_cons (pe_ix ix_tup (pv 3) pe_int (fun _ _ => rfl)) pa_nil)))))))), ?_⟩
    refine ⟨_, rfl, t, xs, rfl, .inr (SqT.of ht), _, _, rfl, rfl, _, rfl, ?_⟩
    by_cases h8 : (8 : Int) < (xs.length : Int)
    · rw [decide_eq_true h8]
      refine iteT fun d nd => ?_
      exact kE .non (by unfold verdict; rw [if_pos (by omega)]) d _ (same_new (fun _ _ e => e) nd) upd_same
    · rw [decide_eq_false h8]
      refine iteF ⟨rfl, fun p np => ?_⟩
      have sP : Same H (upd H p (SetK P w p (fun _ => false) 0)) := same_new (fun _ _ e => e) np
      have hv : verdict os = (firstBad [] 0 os).map fun i => .int (i : Nat) := by
        unfold verdict
        rw [if_neg (by omega)]
      refine ⟨_, rfl, t, xs, rfl, SqT.of (sP _ _ ht), for_it walk_enumT (fun i σ H2 => ∃ (S : Key → Bool) (n : Nat) (seen : List Str) (v2 v3 : Option V), σ = [some (.ref t), some (.ref p), v2, v3] ∧ Same H H2 ∧ H2 p = some (SetK P w p S n) ∧ n ≤ i ∧
          (∀ k : Str, S (Sum.inr k) = decide (k ∈ seen)) ∧ firstBad [] 0 os = firstBad seen i (os.drop i))
        ⟨_, 0, [], none, none, rfl, sP, upd_same, Nat.le_refl _, fun k => by simp, rfl⟩ (fun i σ H2 _ ⟨_, _, _, _, _, _, s2, _⟩ => SqT.of (s2 _ _ ht)) ?_ ?_⟩
      · rintro i v σ H2 H3 hi ⟨S, n, seen, v2, v3, rfl, s2, hp2, hn, hS, hF⟩ ⟨T, x, y, rfl, nT, rfl, e1, e2⟩
        cases e1
        obtain ⟨o, ho, en⟩ := Ents.get he e2
        have s3 : Same H2 (upd H2 T (.tup [.int (i : Nat), y])) := same_new (fun _ _ e => e) nT
        have hT : upd H2 T (.tup [.int (i : Nat), y]) T = some (.tup [.int (i : Nat), y]) := upd_same
        have hp3 := s3 _ _ hp2
        rw [drop_at ho] at hF
        generalize hG : upd H2 T (HO.tup [V.int (i : Nat), y]) = G at hT hp3 s3 ⊢
        have s23 : Same H G := st s2 s3
        refine ⟨T, _, rfl, SqT.of hT, rfl, _, _, rfl, _, _, rfl, rfl, ?_⟩
        refine ⟨_, rfl, y, o, rfl, en.same s23, fun G1 sg => ⟨_, rfl, ?_⟩⟩
        have s4 : Same H G1 := st s23 sg
        have hp4 := sg _ _ hp3
        cases o with
        | none =>
          refine iteT (iteT ⟨_, rfl, fun d nd => ?_⟩)
          refine kE (.int (i : Nat)) ?_ d _ (same_new s4 nd) upd_same
          rw [hv, hF]
          rfl
        | some o3 =>
          obtain ⟨nm, a1, a2⟩ := o3
          refine iteF ?_
          have en4 := en.same s4
          cases en4 with
          | @good ea _ _ _ eE hnm hok =>
            refine ⟨_, rfl, ea, _, _, _, rfl, rfl, SqT.of eE, rfl, _, rfl, Sum.inr nm, p, S, n, rfl, rfl, hp4, _, rfl, ?_⟩
            show (if S (Sum.inr nm) = true then _ else _)
            rw [hS nm]
            by_cases hm : nm ∈ seen
            · rw [decide_eq_true hm]
              refine iteT ⟨_, rfl, fun d nd => ?_⟩
              refine kE (.int (i : Nat)) ?_ d _ (same_new s4 nd) upd_same
              rw [hv, hF]
              show (if nm ∈ seen then some i else _).map _ = _
              rw [if_pos hm]
              rfl
            · rw [decide_eq_false hm]
              refine iteF ?_
              refine ⟨_, rfl, ⟨p, S, n, rfl, hp4⟩, _, rfl, ea, _, _, _, rfl, rfl, SqT.of eE, rfl, p, Sum.inr nm, S, n, rfl, rfl, hp4, ?_, ?_⟩
              · show n + 1 < 4096
                omega
              · refine ⟨_, _, nm :: seen, _, _, rfl, ?_, upd_same, ?_, ?_, ?_⟩
                · intro b ob e
                  rw [upd_ne (ne_of_none e np)]
                  exact s4 _ _ e
                · split <;> omega
                · intro k
                  show (S (Sum.inr k) || decide ((Sum.inr k : Key) = Sum.inr nm)) = decide (k ∈ nm :: seen)
                  rw [hS k, key_rr]
                  by_cases hk : k = nm
                  · subst hk
                    simp
                  · simp [hk]
                · rw [hF]
                  show (if nm ∈ seen then some i else firstBad (nm :: seen) (i + 1) (os.drop (i + 1))) = _
                  rw [if_neg hm]
      · rintro σ H2 ⟨S, n, seen, v2, v3, rfl, s2, hp2, hn, hS, hF⟩
        refine kQ ?_ H2 s2
        rw [hv, hF, hl, List.drop_length]
        rfl
end
end SQ3
namespace SQ3
open PySem L2 SQ
abbrev sTx : Stmt := top 19
abbrev sIni : Stmt := inClass (top 22) 0
def etext (n : Str) (i j : Int) : Str := Str.empty ++ n ++ " " ++ (toString i) ++ " " ++ (toString j)
def spTx : Sp := fun vs H Q _ => ∃ (n : Str) (t : Addr) (i j : Int), vs = [.str n, .ref t] ∧ H t = some (.tup [.int i, .int j]) ∧ n.length ≤ 1000 ∧ 0 ≤ i ∧ i ≤ 3 ∧ 0 ≤ j ∧ j ≤ 3 ∧ Q (.str (etext n i j)) H
section
variable {P : Program} {w : World} {K : PySem.W.Frag} {mg : Str → Option Value} {base : Heap} {fP fN fF fA fE tC CE fI : Addr} {dP dN dF dA dE : FuncData}
theorem scTx : FnScope ["name", "arity", "inputs", "outputs"] ["name", "arity"] (defScope sTx) := ⟨rfl, rfl, rfl, by decide +kernel, rfl, by decide +kernel, by decide +kernel⟩
theorem four {i : Int} (h0 : 0 ≤ i) (h1 : i ≤ 3) : i = 0 ∨ i = 1 ∨ i = 2 ∨ i = 3 := by omega
theorem small_log {i : Int} (h0 : 0 ≤ i) (h1 : i ≤ 3) : i.natAbs.log2 < 1920 := by
  rcases four h0 h1 with rfl | rfl | rfl | rfl <;> decide
theorem len_num {i : Int} (h0 : 0 ≤ i) (h1 : i ≤ 3) : ((toString i : String) : Str).length = 1 := by
  rcases four h0 h1 with rfl | rfl | rfl | rfl <;> decide +kernel
theorem len_app (a b : Str) : (a ++ b).length = a.length + b.length := by
  show (a.cps ++ b.cps).size = a.cps.size + b.cps.size
  exact Array.size_append
theorem ok_tx {f : Addr} {fd : FuncData} (F : Fun K "entry_text" "entry_text" sTx f fd) : FnOk P w K mg base CX0 1 f fd ["name", "arity"] spTx := by
  refine F.ok scTx (fun vs H Q E h => ?_) (fun cdv A outer s H vs Q E hr h => ?_)
  · obtain ⟨n, t, i, j, rfl, _⟩ := h
    rfl
  · obtain ⟨n, t, i, j, rfl, ht, hn, i0, i3, j0, j3, q⟩ := h
    refine ⟨_, pss_cons (ps_asg (pv 1) (pg_tup rfl (pgs_cons (pg_name (i := 2) scTx.nd rfl (.inl rfl)) (pgs_cons (pg_name (i := 3) scTx.nd rfl (.inl rfl)) pgs_nil))))
      (pss_one (ps_ret (pe_joined (.cons (pe_fmt (pv 0)) (.cons pe_str (.cons (pe_fmt (pv 2)) (.cons pe_str (.cons (pe_fmt (pv 3)) .nil)))))))), ?_⟩
    have line : ∀ {k : Nat}, k ≤ 2000 → k ≤ sizeLine := fun h => Nat.le_trans h (by decide)
    have l0 : (Str.empty).length = 0 := rfl
    have l1 : ((" " : String) : Str).length = 1 := by decide +kernel
    have li := len_num i0 i3
    have lj := len_num j0 j3
    refine ⟨_, rfl, t, _, rfl, SqT.of ht, rfl, _, _, rfl, _, _, rfl, rfl, ?_⟩
    refine ⟨_, rfl, .inl ⟨n, rfl, line (by omega), n, rfl, line (by rw [len_app]; omega), _, rfl, line (by rw [len_app, len_app]; omega), _, rfl, .inr ⟨i, rfl, small_log i0 i3, _, rfl, line (by rw [len_app, len_app, len_app, li]; omega), _, rfl, line (by rw [len_app, len_app, len_app, len_app, li]; omega), _, rfl,
      .inr ⟨j, rfl, small_log j0 j3, _, rfl, line (by rw [len_app, len_app, len_app, len_app, len_app, li, lj]; omega), q⟩⟩⟩⟩
end
end SQ3
namespace SQ3
open PySem L2 SQ
abbrev G3 := Str × Int × Int
def gnames (gs : List G3) : List Str := gs.map (·.1)
/-- nothing is refused: all are entries, the names differ -/
theorem none_bad : ∀ (os : List En) (seen : List Str) (i : Nat), firstBad seen i os = none → ∃ gs : List G3, os = gs.map some ∧ (gnames gs).Nodup ∧ ∀ n ∈ gnames gs, n ∉ seen
  | [], _, _, _ => ⟨[], rfl, List.nodup_nil, fun n h => nomatch h⟩
  | none :: _, _, _, h => nomatch h
  | some (n, a, b) :: os, seen, i, h => by
    have h' : (if n ∈ seen then some i else firstBad (n :: seen) (i + 1) os) = none := h
    by_cases hm : n ∈ seen
    · rw [if_pos hm] at h'
      cases h'
    · rw [if_neg hm] at h'
      obtain ⟨gs, e, nd, ns⟩ := none_bad os (n :: seen) (i + 1) h'
      refine ⟨(n, a, b) :: gs, by rw [e]; rfl, ?_, ?_⟩
      · refine List.nodup_cons.mpr ⟨fun hn => ns n hn List.mem_cons_self, nd⟩
      · intro m hm2
        rcases List.mem_cons.mp hm2 with e2 | e2
        · rw [e2]
          exact hm
        · exact fun z => ns m e2 (List.mem_cons_of_mem _ z)
theorem verdict_none {os : List En} (h : verdict os = none) : ∃ gs : List G3, os = gs.map some ∧ (gnames gs).Nodup ∧ gs.length ≤ 8 := by
  unfold verdict at h
  by_cases h8 : 8 < os.length
  · rw [if_pos h8] at h
    cases h
  · rw [if_neg h8, Option.map_eq_none_iff] at h
    obtain ⟨gs, e, nd, _⟩ := none_bad os [] 0 h
    refine ⟨gs, e, nd, ?_⟩
    rw [e, List.length_map] at h8
    omega
/-- the numbers of a name -/
def arOf (gs : List G3) (n : Str) : Int × Int := ((gs.find? fun g => decide (g.1 = n)).map (·.2)).getD (0, 0)
def vtext (gs : List G3) (ys : List Str) : Str := Txt.join ", " (ys.map fun n => etext n (arOf gs n).1 (arOf gs n).2)
/-- the dict of the numbers -/
def Kvs (H : Hp) (kvs : List (Key × V)) (gs : List G3) : Prop := Paired (fun kv g => kv.1 = Sum.inr g.1 ∧ ∃ t, kv.2 = .ref t ∧ H t = some (.tup [.int g.2.1, .int g.2.2])) kvs gs
theorem Kvs.same {H H' : Hp} {kvs : List (Key × V)} {gs : List G3} (s : Same H H') (h : Kvs H kvs gs) : Kvs H' kvs gs := Paired.mapP h fun a b e => ⟨e.1, let ⟨t, h1, h2⟩ := e.2; ⟨t, h1, s _ _ h2⟩⟩
theorem Kvs.names {H : Hp} : ∀ {kvs : List (Key × V)} {gs : List G3}, Kvs H kvs gs → kvs.map (·.1) = (gnames gs).map Sum.inr
  | _, _, .nil => rfl
  | _, _, .cons r t => by
    exact congr (congrArg List.cons r.1) (Kvs.names t)
theorem Kvs.no {H : Hp} {n : Str} : ∀ {kvs : List (Key × V)} {gs : List G3}, Kvs H kvs gs → n ∉ gnames gs → valV kvs (Sum.inr n) = none
  | _, _, .nil, _ => rfl
  | _, _, .cons (a := kv) (b := g) r t, hn => by
    have h1 : ¬ kv.1 = Sum.inr n := fun z => hn (by rw [r.1] at z; rw [← Sum.inr.inj z]; exact List.mem_cons_self)
    rw [valV_neg h1]
    exact Kvs.no t fun z => hn (List.mem_cons_of_mem _ z)
theorem Kvs.at {H : Hp} {n : Str} : ∀ {kvs : List (Key × V)} {gs : List G3}, Kvs H kvs gs → n ∈ gnames gs → ∃ t, valV kvs (Sum.inr n) = some (.ref t) ∧ H t = some (.tup [.int (arOf gs n).1, .int (arOf gs n).2])
  | _, _, .nil, h => nomatch h
  | _, _, .cons (a := kv) (b := g) (l₂ := gs) r t, hn => by
    by_cases h1 : g.1 = n
    · obtain ⟨t0, e1, e2⟩ := r.2
      refine ⟨t0, ?_, ?_⟩
      · rw [valV_pos (by rw [r.1, h1]), e1]
      · unfold arOf
        rw [List.find?_cons_of_pos (by simpa using h1)]
        exact e2
    · have h2 : ¬ kv.1 = Sum.inr n := fun z => h1 (by rw [r.1] at z; exact Sum.inr.inj z)
      have hn' : n ∈ gnames gs := by
        rcases List.mem_cons.mp hn with z | z
        · exact absurd z.symm h1
        · exact z
      obtain ⟨t0, e1, e2⟩ := Kvs.at t hn'
      refine ⟨t0, ?_, ?_⟩
      · rw [valV_neg h2]
        exact e1
      · unfold arOf at e2 ⊢
        rw [List.find?_cons_of_neg (by simpa using h1)]
        exact e2
theorem Kvs.snoc {H : Hp} : ∀ {kvs : List (Key × V)} {gs : List G3} {kv : Key × V} {g : G3}, Kvs H kvs gs → (kv.1 = Sum.inr g.1 ∧ ∃ t, kv.2 = .ref t ∧ H t = some (.tup [.int g.2.1, .int g.2.2])) → Kvs H (kvs ++ [kv]) (gs ++ [g])
  | _, _, _, _, .nil, h => .cons h .nil
  | _, _, _, _, .cons r t, h => .cons r (Kvs.snoc t h)
end SQ3
namespace SQ3
open PySem L2 SQ
/-- the class of the vocabularies -/
structure VC (K : PySem.W.Frag) (mg : Str → Option Value) (C : Addr) : Prop where
  g : mg "Vocabulary" = some (.ref C)
  cl : Cls K C
  nA : NoAttr K C "arities"
  nN : NoAttr K C "names"
  nT : NoAttr K C "text"
structure B4 (mg : Str → Option Value) : Prop where
  sorted : mg "sorted" = none
def flds (dA tN : Addr) (z : Str) : List (Str × V) := putF "text" (.str z) (putF "names" (.ref tN) (putF "arities" (.ref dA) []))
/-- what __init__ promises, once the entries lie in a tuple -/
def spIni0 (C CE : Addr) : Sp := fun vs H Q E => ∃ (x dx t : Addr) (xs : List V) (os : List En), vs = [.ref x, .ref t] ∧ H x = some (.ins C dx []) ∧ H t = some (.tup xs) ∧ Ents H xs os ∧ xs.length ≤ 2000 ∧
  (∀ idx, verdict os = some idx → ∀ (d : Addr) (H' : Hp), Same H H' → H' d = some (.xd [("index", idx)]) → E (.ref CE) (some d) H') ∧
  (verdict os = none → ∀ gs : List G3, os = gs.map some → ∀ (H' : Hp) (dA tN : Addr) (ys : List Str), ys.Perm (gnames gs) → PyProof.Rows.sortedS ys = true → But x H H' → (∃ dx', H' x = some (.ins C dx' (flds dA tN (vtext gs ys)))) → Q .non H')
section
variable {P : Program} {w : World} {K : PySem.W.Frag} {mg : Str → Option Value} {base : Heap} {fP fN fF fA fE tC CE fI C fC fX : Addr} {dP dN dF dA dE dC dX : FuncData}
theorem scIni : FnScope ["self", "entries", "arities", "name", "inputs", "outputs"] ((["self"] : List Str) ++ (["entries"] : List Str)) (defScope sIni) := ⟨rfl, rfl, rfl, by decide +kernel, rfl, by decide +kernel, by decide +kernel⟩
structure I2 (K : PySem.W.Frag) (mg : Str → Option Value) (fC fX : Addr) (dC dX : FuncData) : Prop where
  gC : mg "check_entries" = some (.ref fC)
  FC : Fun K "check_entries" "check_entries" sChk fC dC
  bC : Binds K dC ["entries"] []
  gX : mg "entry_text" = some (.ref fX)
  FX : Fun K "entry_text" "entry_text" sTx fX dX
  bX : Binds K dX ["name", "arity"] []
theorem nodup_take {α : Type} : ∀ {l : List α} {i : Nat} {x : α}, l.Nodup → l[i]? = some x → x ∉ l.take i
  | [], i, x, _, h => by simp at h
  | a :: l, 0, x, _, h => by simp
  | a :: l, i + 1, x, nd, h => by
    have h' : l[i]? = some x := h
    obtain ⟨n1, n2⟩ := List.nodup_cons.mp nd
    rw [List.take_succ_cons]
    intro hm
    rcases List.mem_cons.mp hm with e | e
    · exact n1 (e ▸ List.mem_of_getElem? h')
    · exact nodup_take n2 h' e
theorem take_more {α : Type} {l : List α} {i : Nat} {x : α} (h : l[i]? = some x) : l.take (i + 1) = l.take i ++ [x] := by
  rw [List.take_add_one, h]
  rfl
theorem ents_good {H : Hp} : ∀ {xs : List V} {gs : List G3}, Ents H xs (gs.map some) → ∀ g ∈ gs, (isFree (.str g.1) && (isAr (.int g.2.1) && isAr (.int g.2.2))) = true
  | _, [], _, g, h => nomatch h
  | _, g0 :: gs, .cons r t, g, h => by
    rcases List.mem_cons.mp h with e | e
    · subst e
      cases r with
      | good _ _ hq => exact hq
    · exact ents_good t g e
theorem ar_mem {gs : List G3} {n : Str} (h : n ∈ gnames gs) : ∃ g ∈ gs, g.1 = n ∧ arOf gs n = g.2 := by
  unfold arOf
  cases hf : gs.find? (fun g => decide (g.1 = n)) with
  | none =>
    obtain ⟨g, hg, e⟩ := List.mem_map.mp h
    have := List.find?_eq_none.mp hf g hg
    exact absurd (by simpa using e) (by simpa using this)
  | some g => exact ⟨g, List.mem_of_find?_eq_some hf, by simpa using List.find?_some hf, rfl⟩
theorem ar_ok {i : Int} (h : isAr (.int i) = true) : 0 ≤ i ∧ i ≤ 3 := by
  have h' : (decide (0 ≤ i) && decide (i ≤ 3)) = true := h
  rw [Bool.and_eq_true] at h'
  exact ⟨of_decide_eq_true h'.1, of_decide_eq_true h'.2⟩
theorem free_len {n : Str} (h : isFree (.str n) = true) : n.length ≤ 8 := by
  have h' : (nameOk n && !decide (n ∈ cores)) = true := h
  rw [Bool.and_eq_true] at h'
  have h2 := h'.1
  unfold nameOk at h2
  rw [Bool.and_eq_true, Bool.and_eq_true] at h2
  have := of_decide_eq_true h2.1.2
  omega
/-- what is known of a name's numbers -/
theorem good_at {H : Hp} {xs : List V} {gs : List G3} {n : Str} (he : Ents H xs (gs.map some)) (h : n ∈ gnames gs) : n.length ≤ 8 ∧ (0 ≤ (arOf gs n).1 ∧ (arOf gs n).1 ≤ 3) ∧ 0 ≤ (arOf gs n).2 ∧ (arOf gs n).2 ≤ 3 := by
  obtain ⟨g, hg, rfl, e⟩ := ar_mem h
  have hh := ents_good he g hg
  rw [Bool.and_eq_true, Bool.and_eq_true] at hh
  rw [e]
  exact ⟨free_len hh.1, ar_ok hh.2.1, ar_ok hh.2.2⟩
theorem etext_len {n : Str} {i j : Int} (hn : n.length ≤ 8) (i0 : 0 ≤ i) (i3 : i ≤ 3) (j0 : 0 ≤ j) (j3 : j ≤ 3) : (etext n i j).length ≤ 12 := by
  unfold etext
  have l0 : (Str.empty).length = 0 := rfl
  have l1 : ((" " : String) : Str).length = 1 := by decide +kernel
  rw [len_app, len_app, len_app, len_app, len_app, len_num i0 i3, len_num j0 j3, l1, l0]
  omega
theorem sum_le {α : Type} (f : α → Nat) (b : Nat) : ∀ l : List α, (∀ x ∈ l, f x ≤ b) → (l.map f).sum ≤ l.length * b
  | [], _ => by simp
  | x :: l, h => by
    have h1 := h x List.mem_cons_self
    have h2 := sum_le f b l fun y hy => h y (List.mem_cons_of_mem _ hy)
    rw [List.map_cons, List.sum_cons, List.length_cons, Nat.add_mul]
    omega
theorem keptD {σ : St} {H : Hp} {A B : Hp → Prop} (h : A H) : tYes σ H (fun b H3 => if b = true then A H3 else B H3) := keptT h
theorem body_ini (I : I2 K mg fC fX dC dX) (D : D2 K mg fP fN fF fA fE dP dN dF dA dE) (B : B2 mg) (CW : Core K mg tC) (Z : EC K mg CE fI) (BB : B3 mg) (B4' : B4 mg) (VV : VC K mg C) {f : Addr} (cdv : Value) (A : Around) (outer : List Env) (s : Shared) (H : Hp) (vs : List V) (Q : VK) (E : XK)
    (hr : Room 4 (A.deeper (PyProof.Rows.envOfC "Vocabulary.__init__" (defScope sIni) s.heap.objs.size f cdv))) (h : spIni0 C CE vs H Q E) :
    ∃ t, PSs (cxOf (L2N.CX P w) P w K mg base ["self", "entries", "arities", "name", "inputs", "outputs"] "Vocabulary.__init__" (defScope sIni) f cdv A outer s H E) (defBody sIni) t ∧ t { nx := fun _ H' => Q .non H', rt := Q } (start ["self", "entries", "arities", "name", "inputs", "outputs"] vs) H := by
  have GC : FnOk P w K mg base (L2N.CX P w) 4 fC dC ["entries"] (spChk CE) := ok_chk I.FC D B CW Z BB
  have GX : FnOk P w K mg base CX0 1 fX dX ["name", "arity"] spTx := ok_tx I.FX
  obtain ⟨x, dx, t, xs, os, rfl, hx, ht, he, hlen, kE, kQ⟩ := h
  have hu := hu_of hr
  refine ⟨_, pss_cons (ps_expr (pe_call GC hr rfl I.gC I.FC.kp I.bC .nil (L2N.passes_call (L2N.takes_of rfl rfl rfl rfl) (fun _ _ _ _ h => h)) (pa_cons (pv 1) pa_nil)))
    (pss_cons (ps_set (i := 2) scIni.nd rfl (.inr rfl) (pe_dc (own := [("name", 3), ("inputs", 4), ("outputs", 5)]) (g := gTup K 3 (gCons (gName 3) (gCons (gName 4) (gCons (gName 5) gNil)))) (tt := tYes) rfl scIni.nd (pi_tup (pv 1)) (blkOk_by (N := ["self", "entries", "arities", "name", "inputs", "outputs"]) (sc := defScope sIni) (by decide +kernel))
      (fun _ _ _ _ _ => pg_tup rfl (pgs_cons (pg_name (i := 3) scIni.nd rfl (.inl rfl)) (pgs_cons (pg_name (i := 4) scIni.nd rfl (.inl rfl)) (pgs_cons (pg_name (i := 5) scIni.nd rfl (.inl rfl)) pgs_nil)))) (fun _ _ _ _ _ => pts_nil) (fun _ _ _ _ _ => pv 3) (fun _ _ _ _ _ => pe_tup (pa_cons (pv 4) (pa_cons (pv 5) pa_nil)))))
    (pss_cons (ps_fld (pv 0) (pv 2) rfl)
    (pss_cons (ps_fld (pv 0) (pe_callTy call_tuple_of (by rfl) B.tuple (by decide +kernel) (pa_cons (pe_callB (call_sortedD rfl) (by rfl) B4'.sorted (by decide +kernel) (pa_cons (pv 2) pa_nil)) pa_nil)) rfl)
    (pss_one (ps_fld (pv 0) (pe_join pe_str (pe_lc (own := [("name", 3)]) (g := gName 3) (tt := tYes) rfl scIni.nd (pi_tup (pe_fld (pv 0) rfl)) (blkOk_by (N := ["self", "entries", "arities", "name", "inputs", "outputs"]) (sc := defScope sIni) (by decide +kernel))
      (fun _ _ _ _ _ => pg_name (i := 3) scIni.nd rfl (.inl rfl)) (fun _ _ _ _ _ => pts_nil) (fun _ _ _ _ _ => pe_call GX (hr.mono (by decide)) rfl I.gX I.FX.kp I.bX .nil pass0 (pa_cons (pv 3) (pa_cons (pe_dget hu (pv 2) (pv 3) (fun _ _ => rfl)) pa_nil))))) rfl))))), ?_⟩
  refine ⟨_, rfl, t, xs, os, rfl, ht, he, hlen, kE, fun hv H1 s1 => ?_⟩
  obtain ⟨gs, rfl, nd, h8⟩ := verdict_none hv
  have hl : xs.length = gs.length := by
    have := Paired.length he
    rw [List.length_map] at this
    exact this
  -- arities = {..}
  refine ⟨_, rfl, t, rfl, ⟨_, SqT.of (s1 _ _ ht)⟩, fun D hD => ?_⟩
  refine dc_tup (K := K) (a := t) (xs := xs) (fun i H2 => ∃ kvs, H2 D = some (.dK kvs) ∧ Kvs H2 kvs (gs.take i) ∧ Same H1 H2) ⟨[], upd_same, .nil, same_new (fun _ _ e => e) hD⟩ (fun i H2 _ ⟨_, _, _, s2⟩ => SqT.of (s2 _ _ (s1 _ _ ht))) ?_ ?_
  · rintro i v H2 hi ⟨kvs, hD2, hk, s2⟩
    obtain ⟨o, ho, en⟩ := Ents.get he hi
    rw [List.getElem?_map] at ho
    cases hg : gs[i]? with
    | none =>
      rw [hg] at ho
      cases ho
    | some g =>
      rw [hg] at ho
      cases ho
      obtain ⟨n, a1, a2⟩ := g
      cases en with
      | @good ea _ _ _ eE hnm hok =>
        have eE2 := s2 _ _ (s1 _ _ eE)
        refine ⟨ea, _, rfl, SqT.of eE2, rfl, _, _, rfl, _, _, rfl, _, _, rfl, rfl, rfl, keptD ?_⟩
        refine ⟨_, rfl, _, rfl, _, rfl, (by show 2 ≤ sizeLine; decide), fun T nT => ?_⟩
        have hDT : D ≠ T := ne_of_none hD2 nT
        have hno : n ∉ gnames (gs.take i) := by
          have e1 : gnames (gs.take i) = (gnames gs).take i := by
            unfold gnames
            rw [List.map_take]
          rw [e1]
          exact nodup_take nd (by unfold gnames; rw [List.getElem?_map, hg]; rfl)
        have hl2 : kvs.length = (gs.take i).length := Paired.length hk
        refine ⟨kvs, Sum.inr n, rfl, by rw [upd_ne hDT]; exact hD2, small1000 (by rw [hl2, List.length_take]; omega), ?_⟩
        refine ⟨_, upd_same, ?_, ?_⟩
        · rw [putK_new _ (hk.no hno), take_more hg]
          have s3 : Same H2 (upd H2 T (.tup [.int a1, .int a2])) := same_new (fun _ _ e => e) nT
          have kk : Kvs (upd H2 T (.tup [.int a1, .int a2])) (kvs ++ [(Sum.inr n, .ref T)]) (gs.take i ++ [(n, a1, a2)]) := (hk.same s3).snoc ⟨rfl, T, rfl, upd_same⟩
          refine Paired.mapP kk fun kv g ⟨h1, t0, h2, h3⟩ => ⟨h1, t0, h2, ?_⟩
          rw [upd_ne (ne_of h3 (show upd H2 T (.tup [.int a1, .int a2]) D = some (.dK kvs) by rw [upd_ne hDT]; exact hD2) (by intro z; cases z))]
          exact h3
        · intro b ob e
          rw [upd_ne (ne_of_none e hD), upd_ne (ne_of_none (s2 _ _ e) nT)]
          exact s2 _ _ e
  · rintro H2 ⟨kvs, hD2, hk, s2⟩
    rw [hl, List.take_length] at hk
    have hx2 : H2 x = some (.ins C dx []) := s2 _ _ (s1 _ _ hx)
    have sH2 : Same H H2 := st s1 s2
    -- self.arities = arities
    refine ⟨_, rfl, _, rfl, x, C, dx, [], rfl, hx2, VV.cl, VV.nA, (by show 0 < 1000; decide), ?_⟩
    have hxD : x ≠ D := ne_of hx2 hD2 (by intro z; cases z)
    generalize hG3 : upd H2 x (HO.ins C dx (putF "arities" (.ref D) [])) = H3
    have b3 : But x H2 H3 := by rw [← hG3]; exact But.refl.put
    have hx3 : H3 x = some (.ins C dx (putF "arities" (.ref D) [])) := by rw [← hG3]; exact upd_same
    have hD3 : H3 D = some (.dK kvs) := b3 _ _ hD2 (Ne.symm hxD)
    have hk3 : Kvs H3 kvs gs := Paired.mapP hk fun kv g ⟨h1, t0, h2, h3⟩ => ⟨h1, t0, h2, b3 _ _ h3 (ne_of h3 hx2 (by intro z; cases z))⟩
    have hln : (gnames gs).length ≤ 8 := by
      unfold gnames
      rw [List.length_map]
      exact h8
    -- self.names = tuple(sorted(arities))
    refine ⟨_, rfl, D, kvs, gnames gs, rfl, .inl hD3, hk3.names, (by omega), fun ys p hperm hsort np => ⟨p, ys.map V.str, rfl, .inl ⟨SqL.of upd_same, fun l nl => ?_⟩⟩⟩
    have s4 : Same H3 (upd (upd H3 p (.lst (ys.map V.str))) l (.tup (ys.map V.str))) := same_new (same_new (fun _ _ e => e) np) nl
    generalize hG4 : upd (upd H3 p (HO.lst (ys.map V.str))) l (HO.tup (ys.map V.str)) = H4 at s4
    have hl4 : H4 l = some (.tup (ys.map V.str)) := by rw [← hG4]; exact upd_same
    have hx4 := s4 _ _ hx3
    refine ⟨_, rfl, x, C, dx, _, rfl, hx4, VV.cl, VV.nN, (by show 1 < 1000; decide), ?_⟩
    generalize hG5 : upd H4 x (HO.ins C dx (putF "names" (.ref l) (putF "arities" (.ref D) []))) = H5
    have b5 : But x H4 H5 := by rw [← hG5]; exact But.refl.put
    have hx5 : H5 x = some (.ins C dx (putF "names" (.ref l) (putF "arities" (.ref D) []))) := by rw [← hG5]; exact upd_same
    have hl5 : H5 l = some (.tup (ys.map V.str)) := b5 _ _ hl4 (ne_of hl4 hx4 (by intro z; cases z))
    have hD5 : H5 D = some (.dK kvs) := b5 _ _ (s4 _ _ hD3) (Ne.symm hxD)
    have hk5 : Kvs H5 kvs gs := Paired.mapP (hk3.same s4) fun kv g ⟨h1, t0, h2, h3⟩ => ⟨h1, t0, h2, b5 _ _ h3 (ne_of h3 hx4 (by intro z; cases z))⟩
    have bt : But x H H5 := ((Same.but sH2).trans b3).trans ((Same.but s4).trans b5)
    have mem : ∀ n ∈ ys, n ∈ gnames gs := fun n hn => hperm.mem_iff.mp hn
    have hly : ys.length ≤ 8 := by
      rw [hperm.length_eq]
      exact hln
    -- self.text = ', '.join(..)
    refine ⟨⟨_, rfl⟩, _, rfl, x, C, dx, _, _, rfl, hx5, VV.cl, VV.nN, rfl, l, rfl, ⟨_, SqT.of hl5⟩, fun D2 hD2' => ?_⟩
    refine lc_tup (K := K) (a := l) (xs := ys.map V.str) (fun i H6 => H6 = upd H5 D2 (.lst (((ys.take i).map fun n => etext n (arOf gs n).1 (arOf gs n).2).map V.str))) rfl (fun i H6 _ e => by rw [e]; exact SqT.of (by rw [upd_ne (ne_of_none hl5 hD2')]; exact hl5)) ?_ ?_
    · rintro i v H6 hi rfl
      rw [List.getElem?_map] at hi
      cases hy : ys[i]? with
      | none =>
        rw [hy] at hi
        cases hi
      | some n =>
        rw [hy] at hi
        cases hi
        have hn := mem n (List.mem_of_getElem? hy)
        obtain ⟨g1, ⟨g2, g3⟩, g4, g5⟩ := good_at he hn
        obtain ⟨t0, v1, v2⟩ := hk5.at hn
        refine ⟨rfl, keptT ⟨_, rfl, _, rfl, _, rfl, D, .ref t0, rfl, ?_, n, t0, _, _, rfl, ?_, by omega, g2, g3, g4, g5, _, upd_same, small1000 ?_, ?_⟩⟩
        · rw [← v1]
          exact DGet.k (k := Sum.inr n) (by rw [upd_ne (ne_of_none hD5 hD2')]; exact hD5)
        · rw [upd_ne (ne_of_none v2 hD2')]
          exact v2
        · rw [List.length_map, List.length_map, List.length_take]
          omega
        · rw [upd_upd, take_more hy, List.map_append, List.map_append]
          rfl
    · rintro H6 rfl
      rw [List.length_map, List.take_length]
      refine ⟨_, D2, _, rfl, rfl, .inl (SqL.of upd_same), ?_, ?_⟩
      · rw [List.map_map, List.length_map]
        have := sum_le ((fun z : Str => z.length) ∘ fun n => etext n (arOf gs n).1 (arOf gs n).2) 12 ys (fun n hn => by
          obtain ⟨g1, ⟨g2, g3⟩, g4, g5⟩ := good_at he (mem n hn)
          exact etext_len g1 g2 g3 g4 g5)
        have l2 : (", " : Str).length = 2 := by decide +kernel
        rw [l2]
        omega
      · have hx6 : upd H5 D2 (.lst ((ys.map fun n => etext n (arOf gs n).1 (arOf gs n).2).map V.str)) x = some (.ins C dx (putF "names" (.ref l) (putF "arities" (.ref D) []))) := by
          rw [upd_ne (ne_of_none hx5 hD2')]
          exact hx5
        refine ⟨_, rfl, x, C, dx, _, rfl, hx6, VV.cl, VV.nT, (by show 2 < 1000; decide), ?_⟩
        exact kQ hv gs rfl _ D l ys hperm hsort ((bt.new hD2').put) ⟨dx, upd_same⟩
end
end SQ3
namespace SQ3
open PySem L2 SQ
abbrev sStr : Stmt := inClass (top 22) 5
def spInit (C CE : Addr) : Sp := fun vs H Q E => ∃ ws rest, vs = ws ++ rest ∧ ws.length = (["self"] : List Str).length ∧ rest.length ≤ sizeLine ∧ ∀ p, H p = Option.none → spIni0 C CE (ws ++ [V.ref p]) (upd H p (.tup rest)) Q E
def spStr (C : Addr) : Sp := fun vs H Q _ => ∃ (x dx dA tN : Addr) (z : Str), vs = [.ref x] ∧ H x = some (.ins C dx (flds dA tN z)) ∧ Q (.str z) H
section
variable {P : Program} {w : World} {K : PySem.W.Frag} {mg : Str → Option Value} {base : Heap} {fP fN fF fA fE tC CE fI C fC fX : Addr} {dP dN dF dA dE dC dX : FuncData}
theorem ok_ini (I : I2 K mg fC fX dC dX) (D : D2 K mg fP fN fF fA fE dP dN dF dA dE) (B : B2 mg) (CW : Core K mg tC) (Z : EC K mg CE fI) (BB : B3 mg) (B4' : B4 mg) (VV : VC K mg C) {f : Addr} {fd : FuncData} (F : Fun K "__init__" "Vocabulary.__init__" sIni f fd) :
    FnR P w K mg base (L2N.CX P w) 5 f (spInit C CE) := by
  obtain ⟨oc, od, kV, doc, pm, an, cdv, ct, osl, rfl, lk, hcd⟩ := F.ex
  exact StX.fn_star (ps := ["self"]) (pv := "entries") lk hcd scIni cxUpN (StX.bind_star1 (B := fun vs => bindArgs (PySem.W.fnOf "__init__" "Vocabulary.__init__" (defArgs sIni) (defBody sIni) (defScope sIni) .none kV doc pm an cdv ct) ⟨vs, []⟩) (fun a => rfl) (fun a r rs => rfl)) (fun A outer s H vs Q E hr h => body_ini I D B CW Z BB B4' VV cdv A outer s H vs Q E hr h)
theorem scStr : FnScope ["self"] ["self"] (defScope sStr) := ⟨rfl, rfl, rfl, by decide +kernel, rfl, by decide +kernel, by decide +kernel⟩
theorem ok_str {f : Addr} {fd : FuncData} (F : Fun K "__str__" "Vocabulary.__str__" sStr f fd) (B : B2 mg) (VV : VC K mg C) : FnOk P w K mg base CX0 1 f fd ["self"] (spStr C) := by
  refine F.ok scStr (fun vs H Q E h => ?_) (fun cdv A outer s H vs Q E hr h => ?_)
  · obtain ⟨x, dx, dA, tN, z, rfl, _⟩ := h
    rfl
  · obtain ⟨x, dx, dA, tN, z, rfl, hx, q⟩ := h
    refine ⟨_, pss_one (ps_ret (pe_callTy SkE.call_str_str (by rfl) B.str (by decide +kernel) (pa_cons (pe_fld (pv 0) rfl) pa_nil))), ?_⟩
    exact ⟨_, rfl, x, C, dx, _, _, rfl, hx, VV.cl, VV.nT, rfl, z, rfl, q⟩
end
end SQ3
namespace SQ
open PySem PySem.Spec PyProof.Rows L2
section
variable {X : Cx} {k : Nat} {f C : Addr} {fd : FuncData} {ps : List Str} {sp : Sp}
/-- str(o), o an instance whose class has __str__ -/
theorem cr_strOwn (F : FnR X.prog X.w X.K X.mg X.base CX0 k f sp) (hr : Room (k + 2) X.A) (hs : PySem.W.findIn X.K (.ref C) "__str__" = some (some (.ref f))) (hf : PySem.W.isFn X.K (.ref f) = true) :
    CallR X (.type "str") (fun xs H Q => ∃ (x dx : Addr) (fs : List (Str × V)), xs = [.ref x] ∧ H x = some (.ins C dx fs) ∧ sp [.ref x] H (fun v H' => ∃ z, v = .str z ∧ Q v H') E0) := by
  intro pins s σ H xs us Q I r h
  obtain ⟨x, dx, fs, rfl, hx, q⟩ := h
  obtain ⟨u, rfl, r1⟩ := vals1 r
  obtain rfl : u = Value.ref x := r1
  obtain ⟨mA, O, _⟩ := ins_get I.hok hx
  obtain ⟨od, J, _⟩ := O.look
  have hr2 : Room k X.A.in1.in1 := Room.in1 (Room.in1 hr)
  refine PySem.W.kso_call hr2.units0 I.kIn J hs hf (wpAny_call (codeAny_mono (F X.A.in1.in1 X.stack s H [.ref x] [.ref x] _ _ hr2 I.env0.in1.in1 (.cons rfl .nil) q) fun r s' hq => ?_))
  cases r with
  | error e => exact (show False from hq).elim
  | ok fl =>
    cases fl with
    | next => exact False.elim hq
    | brk => exact False.elim hq
    | cont => exact False.elim hq
    | ret u =>
      obtain ⟨v, H', I', rv, z, rfl, q'⟩ := I.after hq
      obtain ⟨t, rfl⟩ := rv
      exact ⟨.str z, H', I', ⟨t, rfl⟩, q'⟩
end
end SQ
namespace SQ3
open PySem L2 SQ
/-! ### sorted texts are unique -/
theorem rising_pw : ∀ (l : List Str) (p : Str), PyProof.Rows.risingS p l = true → (p :: l).Pairwise fun a b => a.cps.toList ≤ b.cps.toList
  | [], p, _ => List.pairwise_singleton _ _
  | x :: l, p, h => by
    have h' : (!Spec.ltCps x.cps.toList p.cps.toList && PyProof.Rows.risingS x l) = true := h
    rw [Bool.and_eq_true, PyProof.Rows.ltCps_eq] at h'
    have h1 : p.cps.toList ≤ x.cps.toList := by
      have := h'.1
      simp only [Bool.not_eq_true', decide_eq_false_iff_not] at this
      exact List.not_lt.mp this
    have h2 := rising_pw l x h'.2
    refine List.pairwise_cons.mpr ⟨fun y hy => ?_, h2⟩
    rcases List.mem_cons.mp hy with rfl | hy
    · exact h1
    · exact List.le_trans h1 ((List.pairwise_cons.mp h2).1 y hy)
theorem sorted_pw {l : List Str} (h : PyProof.Rows.sortedS l = true) : l.Pairwise fun a b => a.cps.toList ≤ b.cps.toList := by
  cases l with
  | nil => exact List.Pairwise.nil
  | cons x l => exact rising_pw l x h
theorem sorted_one {l m : List Str} (hl : PyProof.Rows.sortedS l = true) (hm : PyProof.Rows.sortedS m = true) (p : l.Perm m) : l = m := by
  refine List.Perm.eq_of_pairwise (fun a b _ _ h1 h2 => ?_) (sorted_pw hl) (sorted_pw hm) p
  have e := List.le_antisymm h1 h2
  obtain ⟨ca⟩ := a
  obtain ⟨cb⟩ := b
  have e' : ca = cb := Array.toList_inj.mp e
  rw [e']
/-! ### what is kept of data -/
structure Keep (H H' : Hp) : Prop where
  tup : ∀ a xs, H a = some (.tup xs) → H' a = some (.tup xs)
  lst : ∀ a xs, H a = some (.lst xs) → ∃ ys, H' a = some (.lst ys)
  dK : ∀ a kvs, H a = some (.dK kvs) → H' a = some (.dK kvs)
theorem Keep.same {H H' : Hp} (s : Same H H') : Keep H H' := ⟨fun a _ e => s a _ e, fun a xs e => ⟨xs, s a _ e⟩, fun a _ e => s a _ e⟩
theorem Keep.ext {H H' : Hp} (s : LamX.ExtN H H') : Keep H H' := ⟨fun a _ e => s a _ e (fun _ z => nomatch z), fun a xs e => ⟨xs, s a _ e (fun _ z => nomatch z)⟩, fun a _ e => s a _ e (fun _ z => nomatch z)⟩
theorem Keep.but {u : Addr} {H H' : Hp} (b : But u H H') (hu : urnAt H u) (hu' : urnAt H' u) : Keep H H' := by
  obtain ⟨x, y, z, e0⟩ := hu
  obtain ⟨x', y', z', e1⟩ := hu'
  refine ⟨fun a xs e => b a _ e ?_, fun a xs e => ?_, fun a kvs e => b a _ e ?_⟩
  · exact ne_of e e0 (by intro z; cases z)
  · by_cases h : a = u
    · subst h
      exact ⟨_, e1⟩
    · exact ⟨xs, b a _ e h⟩
  · exact ne_of e e0 (by intro z; cases z)
theorem Keep.trans {H H1 H2 : Hp} (a : Keep H H1) (b : Keep H1 H2) : Keep H H2 := ⟨fun x xs e => b.tup _ _ (a.tup _ _ e), fun x xs e => let ⟨_, e1⟩ := a.lst _ _ e; b.lst _ _ e1, fun x k e => b.dK _ _ (a.dK _ _ e)⟩
theorem Kd.keep {H H' : Hp} {v : V} {t : String} (s : Keep H H') (k : Kd H v t) : Kd H' v t := by
  cases k with
  | non => exact .non
  | bl b => exact .bl b
  | int i => exact .int i
  | str x h => exact .str x h
  | lst e =>
    obtain ⟨ys, e1⟩ := s.lst _ _ e
    exact .lst e1
  | tup e => exact .tup (s.tup _ _ e)
  | dic e => exact .dic (s.dK _ _ e)
theorem Ent.keep {H H' : Hp} {v : V} {o : En} (s : Keep H H') (k : Ent H v o) : Ent H' v o := by
  cases k with
  | no k ht => exact .no (k.keep s) ht
  | len e h => exact .len (s.tup _ _ e) h
  | bad e kx ky kz h => exact .bad (s.tup _ _ e) (kx.keep s) (ky.keep s) (kz.keep s) h
  | good e hn h => exact .good (s.tup _ _ e) hn h
end SQ3
namespace SQ3
open PySem L2 SQ
abbrev sSE : Stmt := top 20
abbrev sSS : Stmt := top 21
/-! ### what a text says -/
def digOf (a : Str) : Option Int := if a = "0" then some 0 else if a = "1" then some 1 else if a = "2" then some 2 else if a = "3" then some 3 else none
def rawOf : List Str → Option (Str × Int × Int)
  | [n, a, b] => (digOf a).bind fun i => (digOf b).map fun j => (n, i, j)
  | _ => none
def goodRaw : Option (Str × Int × Int) → En
  | some (n, i, j) => if isFree (.str n) = true then some (n, i, j) else none
  | none => none
def entryOf (p : Str) : En := goodRaw (rawOf (Txt.split p " "))
def partsOf (x : Str) : List Str := if x = "" then [] else Txt.split x ", "
def ensOf (x : Str) : List En := (partsOf x).map entryOf
theorem dig_ar {a : Str} {i : Int} (h : digOf a = some i) : 0 ≤ i ∧ i ≤ 3 ∧ a = (toString i : String) := by
  unfold digOf at h
  split at h
  · cases h
    rename_i e
    exact ⟨by decide, by decide, e⟩
  split at h
  · cases h
    rename_i e
    exact ⟨by decide, by decide, e⟩
  split at h
  · cases h
    rename_i e
    exact ⟨by decide, by decide, e⟩
  split at h
  · cases h
    rename_i e
    exact ⟨by decide, by decide, e⟩
  · cases h
theorem ar_dig {i : Int} (h0 : 0 ≤ i) (h1 : i ≤ 3) : digOf ((toString i : String) : Str) = some i := by
  rcases four h0 h1 with rfl | rfl | rfl | rfl <;> decide +kernel
theorem isAr_of {i : Int} (h0 : 0 ≤ i) (h1 : i ≤ 3) : isAr (.int i) = true := by
  show (decide (0 ≤ i) && decide (i ≤ 3)) = true
  rw [decide_eq_true h0, decide_eq_true h1]
  rfl
theorem raw_ok {p n : Str} {i j : Int} (h : rawOf (Txt.split p " ") = some (n, i, j)) : Txt.split p " " = [n, ((toString i : String) : Str), ((toString j : String) : Str)] ∧ (0 ≤ i ∧ i ≤ 3) ∧ 0 ≤ j ∧ j ≤ 3 := by
  generalize hs : Txt.split p " " = l at h
  match l, h with
  | [n', a, b], h =>
    have h' : ((digOf a).bind fun i => (digOf b).map fun j => (n', i, j)) = some (n, i, j) := h
    cases ha : digOf a with
    | none =>
      rw [ha] at h'
      cases h'
    | some i' =>
      cases hb : digOf b with
      | none =>
        rw [ha, hb] at h'
        cases h'
      | some j' =>
        rw [ha, hb] at h'
        cases h'
        obtain ⟨a1, a2, a3⟩ := dig_ar ha
        obtain ⟨b1, b2, b3⟩ := dig_ar hb
        exact ⟨by rw [a3, b3], ⟨a1, a2⟩, b1, b2⟩
  | [], h => cases h
  | [_], h => cases h
  | [_, _], h => cases h
  | _ :: _ :: _ :: _ :: _, h => cases h
/-- the values that split_entry hands out -/
def RawAt (H : Hp) (v : V) : Option (Str × Int × Int) → Prop
  | none => v = .non
  | some (n, i, j) => ∃ a, v = .ref a ∧ H a = some (.tup [.str n, .int i, .int j])
theorem raw_ent {H : Hp} {v : V} {p : Str} (hp : p.length ≤ 1000) (r : RawAt H v (rawOf (Txt.split p " "))) : Ent H v (entryOf p) := by
  unfold entryOf
  cases hq : rawOf (Txt.split p " ") with
  | none =>
    rw [hq] at r
    have r' : v = .non := r
    subst r'
    exact .no .non (by decide)
  | some g =>
    obtain ⟨n, i, j⟩ := g
    rw [hq] at r
    obtain ⟨a, rfl, ha⟩ := r
    obtain ⟨hs, ⟨i0, i3⟩, j0, j3⟩ := raw_ok hq
    have hn : n.length ≤ 1000 := Nat.le_trans (PyProof.Rows.part_short (x := p) (y := " ") (by rw [hs]; exact List.mem_cons_self)) hp
    show Ent H (.ref a) (if isFree (.str n) = true then some (n, i, j) else none)
    by_cases hf : isFree (.str n) = true
    · rw [if_pos hf]
      exact .good ha hn (by rw [hf, isAr_of i0 i3, isAr_of j0 j3]; rfl)
    · rw [if_neg hf]
      exact .bad ha (.str n hn) (.int i) (.int j) (by rw [Bool.eq_false_iff.mpr hf]; rfl)
/-- DIGITS -/
structure Dg (K : PySem.W.Frag) (w : World) (mg : Str → Option Value) (dD : Addr) (es : Array DictEntry) (nn : Nat) : Prop where
  g : mg "DIGITS" = some (.ref dD)
  D : KDict K w dD es nn
  look : ∀ z : Str, ∃ r : Option Value, PySem.W.nsIn K dD z = some r ∧ (∀ i, digOf z = some i → ∃ t, r = some (.int i t)) ∧ (digOf z = none → r = none)
section
variable {P : Program} {w : World} {K : PySem.W.Frag} {mg : Str → Option Value} {base : Heap} {dD fSE : Addr} {es : Array DictEntry} {nn : Nat} {dSE : FuncData}
theorem Dg.some {z : Str} {r : Option Value} (h1 : ∀ i, digOf z = some i → ∃ t, r = some (.int i t)) (h2 : digOf z = none → r = none) : r.isSome = (digOf z).isSome := by
  cases h : digOf z with
  | none =>
    rw [h2 h]
    rfl
  | some i =>
    obtain ⟨t, rfl⟩ := h1 i h
    rfl
def spSE : Sp := fun vs H Q _ => ∃ p : Str, vs = [.str p] ∧ p.length ≤ 1000 ∧ ∀ v H', Same H H' → RawAt H' v (rawOf (Txt.split p " ")) → Q v H'
theorem scSE : FnScope ["text", "fields", "name", "inputs", "outputs"] ["text"] (defScope sSE) := ⟨rfl, rfl, rfl, by decide +kernel, rfl, by decide +kernel, by decide +kernel⟩
theorem ok_se {f : Addr} {fd : FuncData} (F : Fun K "split_entry" "split_entry" sSE f fd) (B : B2 mg) (D : Dg K w mg dD es nn) : FnOk P w K mg base CX0 1 f fd ["text"] spSE := by
  refine F.ok scSE (fun vs H Q E h => ?_) (fun cdv A outer s H vs Q E hr h => ?_)
  · obtain ⟨p, rfl, _⟩ := h
    rfl
  · obtain ⟨p, rfl, hp, q⟩ := h
    refine ⟨_, pss_cons (ps_set (i := 1) scSE.nd rfl (.inl rfl) (pe_split (pv 0) pe_str))
      (pss_cons (ps_if (pt_cmpR op_ne (pe_callB call_len_seq (by rfl) B.len PySem.boot_len (pa_cons (pv 1) pa_nil)) pe_int (nomark _)) (pss_one (ps_ret pe_non)) pss_nil)
      (pss_cons (ps_asg (pv 1) (pg_lst rfl (pgs_cons (pg_name (i := 2) scSE.nd rfl (.inl rfl)) (pgs_cons (pg_name (i := 3) scSE.nd rfl (.inl rfl)) (pgs_cons (pg_name (i := 4) scSE.nd rfl (.inl rfl)) pgs_nil)))))
      (pss_cons (ps_if (PW.pt (pw_or (pt_cmpR (op_notIn_kd D.D) (pv 3) (pe_glob (v := .ref dD) rfl D.g rfl) (by rfl)) (pw_or1 (pt_cmpR (op_notIn_kd D.D) (pv 4) (pe_glob (v := .ref dD) rfl D.g rfl) (by rfl))))) (pss_one (ps_ret pe_non)) pss_nil)
      (pss_one (ps_ret (pe_tup (pa_cons (pv 2) (pa_cons (pe_ix ix_kdict (pe_glob (v := .ref dD) rfl D.g rfl) (pv 3) (fun _ _ => rfl)) (pa_cons (pe_ix ix_kdict (pe_glob (v := .ref dD) rfl D.g rfl) (pv 4) (fun _ _ => rfl)) pa_nil))))))))), ?_⟩
    refine ⟨_, rfl, ⟨_, rfl⟩, _, _, rfl, rfl, (by decide +kernel), Nat.le_trans (Nat.add_le_add_right hp 2) (by decide), fun l nl => ?_⟩
    have s1 : Same H (upd H l (.lst ((Txt.split p " ").map V.str))) := same_new (fun _ _ e => e) nl
    have h1 : upd H l (.lst ((Txt.split p " ").map V.str)) l = some (.lst ((Txt.split p " ").map V.str)) := upd_same
    generalize upd H l (.lst ((Txt.split p " ").map V.str)) = H1 at s1 h1 ⊢
    refine ⟨_, rfl, l, _, rfl, .inl (SqL.of h1), rfl, _, rfl, ?_⟩
    rw [List.length_map]
    have q1 := fun v => q v H1 s1
    generalize hs : Txt.split p " " = fs at q q1 h1 ⊢
    by_cases h3 : fs.length = 3
    · have e3 : ¬ ¬ V.int (fs.length : Int) = V.int 3 := fun z => z (by rw [h3]; rfl)
      obtain ⟨n, a, b, rfl⟩ : ∃ n a b, fs = [n, a, b] := by
        match fs, h3 with
        | [n, a, b], _ => exact ⟨n, a, b, rfl⟩
      refine iteNS rfl ?_
      refine ⟨_, rfl, l, _, rfl, SqL.of h1, rfl, _, _, rfl, _, _, rfl, _, _, rfl, rfl, ?_⟩
      obtain ⟨ra, ea, a1, a2⟩ := D.look a
      obtain ⟨rb, eb, b1, b2⟩ := D.look b
      refine ⟨_, rfl, a, ra, rfl, rfl, ea, _, rfl, ?_⟩
      rw [Dg.some a1 a2]
      cases ha : digOf a with
      | none =>
        refine iteT (iteT (q1 .non ?_))
        show RawAt H1 .non ((digOf a).bind fun i => (digOf b).map fun j => (n, i, j))
        rw [ha]
        exact rfl
      | some i =>
        refine iteF ⟨_, rfl, b, rb, rfl, rfl, eb, _, rfl, ?_⟩
        rw [Dg.some b1 b2]
        cases hb : digOf b with
        | none =>
          refine iteT (q1 .non ?_)
          show RawAt H1 .non ((digOf a).bind fun i => (digOf b).map fun j => (n, i, j))
          rw [ha, hb]
          exact rfl
        | some j =>
          obtain ⟨ta, rfl⟩ := a1 i ha
          obtain ⟨tb, rfl⟩ := b1 j hb
          refine iteF ⟨_, rfl, _, rfl, dD, a, .int i, rfl, rfl, ⟨es, nn, _, D.D.at_, D.D.lit, ea, ⟨ta, rfl⟩⟩, _, rfl, dD, b, .int j, rfl, rfl, ⟨es, nn, _, D.D.at_, D.D.lit, eb, ⟨tb, rfl⟩⟩, (by show 3 ≤ sizeLine; decide), fun t nt => ?_⟩
          refine q _ _ (same_new s1 nt) ?_
          show RawAt _ _ ((digOf a).bind fun i => (digOf b).map fun j => (n, i, j))
          rw [ha, hb]
          exact ⟨t, rfl, upd_same⟩
    · have ne : ¬ V.int (fs.length : Int) = V.int 3 := fun z => h3 (by have := V.int.inj z; omega)
      rw [decide_eq_false ne]
      refine iteT (q1 .non ?_)
      have e : rawOf fs = none := by
        match fs, h3 with
        | [], _ => rfl
        | [_], _ => rfl
        | [_, _], _ => rfl
        | [_, _, _], h => exact absurd rfl h
        | _ :: _ :: _ :: _ :: _, _ => rfl
      rw [e]
      exact rfl
end
end SQ3
namespace SQ3
open PySem L2 SQ
abbrev sRd : Stmt := inClass (top 22) 1
section
variable {P : Program} {w : World} {K : PySem.W.Frag} {mg : Str → Option Value} {base : Heap} {dD fSE : Addr} {es : Array DictEntry} {nn : Nat} {dSE : FuncData}
structure S3 (K : PySem.W.Frag) (mg : Str → Option Value) (fSE fSS : Addr) (dSE dSS : FuncData) : Prop where
  gE : mg "split_entry" = some (.ref fSE)
  FE : Fun K "split_entry" "split_entry" sSE fSE dSE
  bE : Binds K dSE ["text"] []
  gS : mg "split_entries" = some (.ref fSS)
  FS : Fun K "split_entries" "split_entries" sSS fSS dSS
  bS : Binds K dSS ["text"] []
def spSS : Sp := fun vs H Q _ => ∃ x : Str, vs = [.str x] ∧ x.length ≤ 1000 ∧ ∀ (l : Addr) (ws : List V) (H' : Hp), Same H H' → H' l = some (.lst ws) → Ents H' ws (ensOf x) → Q (.ref l) H'
theorem scSS : FnScope ["text", "part"] ["text"] (defScope sSS) := ⟨rfl, rfl, rfl, by decide +kernel, rfl, by decide +kernel, by decide +kernel⟩
theorem ents_snoc {H : Hp} {xs : List V} {os : List En} {v : V} {o : En} (h : Ents H xs os) (e : Ent H v o) : Ents H (xs ++ [v]) (os ++ [o]) := Paired.snoc h e
theorem ok_ss {fSS : Addr} {dSS : FuncData} (S : S3 K mg fSE fSS dSE dSS) (B : B2 mg) (D : Dg K w mg dD es nn) : FnOk P w K mg base CX0 2 fSS dSS ["text"] spSS := by
  have GE : FnOk P w K mg base CX0 1 fSE dSE ["text"] spSE := ok_se S.FE B D
  refine S.FS.ok scSS (fun vs H Q E h => ?_) (fun cdv A outer s H vs Q E hr h => ?_)
  · obtain ⟨x, rfl, _⟩ := h
    rfl
  · obtain ⟨x, rfl, hx, q⟩ := h
    refine ⟨_, pss_cons (ps_if (pt_cmpR op_eq (pv 0) pe_str (nomark _)) (pss_one (ps_ret (pe_lst pa_nil))) pss_nil)
      (pss_one (ps_ret (pe_lc (own := [("part", 1)]) (g := gName 1) (tt := tYes) rfl scSS.nd (pi_list (pe_split (pv 0) pe_str)) (blkOk_by (N := ["text", "part"]) (sc := defScope sSS) (by decide +kernel)) (fun _ _ _ _ _ => pg_name (i := 1) scSS.nd rfl (.inl rfl)) (fun _ _ _ _ _ => pts_nil)
        (fun _ _ _ _ _ => pe_call GE hr rfl S.gE S.FE.kp S.bE .nil pass0 (pa_cons (pv 1) pa_nil))))), ?_⟩
    refine ⟨_, rfl, rfl, _, rfl, ?_⟩
    by_cases h0 : x = ""
    · subst h0
      refine iteT ⟨by show 0 ≤ sizeLine; decide, fun l nl => ?_⟩
      exact q l [] _ (same_new (fun _ _ e => e) nl) upd_same .nil
    · have ne : ¬ V.str x = V.str "" := fun z => h0 (V.str.inj z)
      rw [decide_eq_false ne]
      refine iteF ?_
      have hp : ensOf x = (Txt.split x ", ").map entryOf := by
        unfold ensOf partsOf
        rw [if_neg h0]
      rw [hp] at q
      refine ⟨_, rfl, ⟨_, rfl⟩, _, _, rfl, rfl, (by decide +kernel), Nat.le_trans (Nat.add_le_add_right hx 2) (by decide), fun l nl => ?_⟩
      have s1 : Same H (upd H l (.lst ((Txt.split x ", ").map V.str))) := same_new (fun _ _ e => e) nl
      have h1 : upd H l (.lst ((Txt.split x ", ").map V.str)) l = some (.lst ((Txt.split x ", ").map V.str)) := upd_same
      generalize upd H l (.lst ((Txt.split x ", ").map V.str)) = H1 at s1 h1 ⊢
      have hsh : ∀ p ∈ Txt.split x ", ", p.length ≤ 1000 := fun p hp => Nat.le_trans (PyProof.Rows.part_short hp) hx
      have hll : (Txt.split x ", ").length ≤ 1002 := Nat.le_trans (PyProof.Rows.split_le x ", ") (by omega)
      generalize Txt.split x ", " = ps at q h1 hsh hll ⊢
      refine ⟨l, rfl, ⟨_, SqL.of h1⟩, fun Dd hD => ?_⟩
      refine lc_list (K := K) (a := l) (xs := ps.map V.str) (fun i H2 => ∃ ws, H2 Dd = some (.lst ws) ∧ Ents H2 ws ((ps.take i).map entryOf) ∧ Same H1 H2) ⟨[], upd_same, .nil, same_new (fun _ _ e => e) hD⟩ (fun i H2 _ ⟨_, _, _, s2⟩ => SqL.of (s2 _ _ h1)) ?_ ?_
      · rintro i v H2 hi ⟨ws, hD2, en, s2⟩
        rw [List.getElem?_map] at hi
        cases hg : ps[i]? with
        | none =>
          rw [hg] at hi
          cases hi
        | some p =>
          rw [hg] at hi
          cases hi
          have hpl := hsh p (List.mem_of_getElem? hg)
          refine ⟨rfl, keptT ⟨_, rfl, p, rfl, hpl, fun v H3 s3 ra => ?_⟩⟩
          have hD3 := s3 _ _ hD2
          have hl := Paired.length en
          have el := raw_ent hpl ra
          have lb : ws.length ≤ 1002 := by
            rw [hl, List.length_map, List.length_take]
            omega
          refine ⟨ws, hD3, Nat.lt_of_le_of_lt lb (by decide), ws ++ [v], upd_same, ?_, ?_⟩
          · rw [take_more hg, List.map_append]
            have e4 := ents_snoc (en.same s3) el
            refine Paired.mapP e4 fun y o ey => ?_
            refine ey.keep ⟨fun a xs e => ?_, fun a xs e => ?_, fun a kvs e => ?_⟩
            · rw [upd_ne (ne_of e hD3 (by intro z; cases z))]
              exact e
            · by_cases ha : a = Dd
              · subst ha
                exact ⟨_, upd_same⟩
              · exact ⟨xs, by rw [upd_ne ha]; exact e⟩
            · rw [upd_ne (ne_of e hD3 (by intro z; cases z))]
              exact e
          · intro b o e
            rw [upd_ne (ne_of_none e hD)]
            exact s3 _ _ (s2 _ _ e)
      · rintro H2 ⟨ws, hD2, en, s2⟩
        rw [List.length_map, List.take_length] at en
        exact q Dd ws H2 (st s1 s2) hD2 en
end
end SQ3
namespace SQ3
open PySem L2 SQ
def nameOf (p : Str) : Str := (Txt.split p " ").headD ""
def namesOf (x : Str) : List Str := (partsOf x).map nameOf
/-- whether a text is that of a vocabulary -/
def goodText (x : Str) : Bool := decide ((partsOf x).length ≤ 8) && ((partsOf x).all fun p => (entryOf p).isSome) && decide (namesOf x).Nodup && PyProof.Rows.sortedS (namesOf x)
theorem etext_join (n : Str) (i j : Int) : etext n i j = Str.join " " [n, ((toString i : String) : Str), ((toString j : String) : Str)] := by
  apply str_ext
  rw [tl_join]
  unfold etext
  simp only [str_app, List.map_cons, List.map_nil, jn, List.append_assoc]
  rfl
theorem free_letters {n : Str} (h : isFree (.str n) = true) : ∀ c ∈ n.cps.toList, c ∈ letters := by
  have h' : (nameOk n && !decide (n ∈ cores)) = true := h
  rw [Bool.and_eq_true] at h'
  have h2 := h'.1
  unfold nameOk at h2
  rw [Bool.and_eq_true] at h2
  intro c hc
  exact of_decide_eq_true (List.all_eq_true.mp h2.2 c hc)
theorem num_signs {i : Int} (h0 : 0 ≤ i) (h1 : i ≤ 3) : ∀ c ∈ (((toString i : String) : Str)).cps.toList, c ∈ [48, 49, 50, 51] := by
  rcases four h0 h1 with rfl | rfl | rfl | rfl <;> decide +kernel
theorem letters_32 : 32 ∉ letters := by decide
theorem letters_44 : 44 ∉ letters := by decide
/-- the fields of an entry's text -/
theorem split_etext {n : Str} {i j : Int} (hf : isFree (.str n) = true) (i0 : 0 ≤ i) (i3 : i ≤ 3) (j0 : 0 ≤ j) (j3 : j ≤ 3) : Txt.split (etext n i j) " " = [n, ((toString i : String) : Str), ((toString j : String) : Str)] := by
  rw [etext_join]
  refine split_join (c := 32) (S := []) (by decide +kernel) (by decide +kernel) (fun z => nomatch z) ?_
  intro p hp
  simp only [List.mem_cons, List.not_mem_nil, or_false] at hp
  rcases hp with rfl | rfl | rfl
  · exact fun z => letters_32 (free_letters hf 32 z)
  · exact fun z => absurd (num_signs i0 i3 32 z) (by decide)
  · exact fun z => absurd (num_signs j0 j3 32 z) (by decide)
theorem etext_44 {n : Str} {i j : Int} (hf : isFree (.str n) = true) (i0 : 0 ≤ i) (i3 : i ≤ 3) (j0 : 0 ≤ j) (j3 : j ≤ 3) : 44 ∉ (etext n i j).cps.toList := by
  rw [etext_join, tl_join]
  intro z
  have z' : 44 ∈ n.cps.toList ++ ([32] ++ ((((toString i : String) : Str)).cps.toList ++ ([32] ++ (((toString j : String) : Str)).cps.toList))) := z
  simp only [List.mem_append] at z'
  rcases z' with z | z | z | z | z
  · exact letters_44 (free_letters hf 44 z)
  · exact absurd z (by decide)
  · exact absurd (num_signs i0 i3 44 z) (by decide)
  · exact absurd z (by decide)
  · exact absurd (num_signs j0 j3 44 z) (by decide)
/-- an entry and its text -/
theorem entry_ok {p n : Str} {i j : Int} (h : entryOf p = some (n, i, j)) : p = etext n i j ∧ isFree (.str n) = true ∧ (0 ≤ i ∧ i ≤ 3) ∧ (0 ≤ j ∧ j ≤ 3) ∧ nameOf p = n := by
  unfold entryOf at h
  cases hr : rawOf (Txt.split p " ") with
  | none =>
    rw [hr] at h
    cases h
  | some g =>
    obtain ⟨n', i', j'⟩ := g
    rw [hr] at h
    have h' : (if isFree (.str n') = true then some (n', i', j') else none) = some (n, i, j) := h
    by_cases hf : isFree (.str n') = true
    · rw [if_pos hf] at h'
      cases h'
      obtain ⟨hs, hi, hj⟩ := raw_ok hr
      refine ⟨?_, hf, hi, hj, ?_⟩
      · rw [etext_join, ← hs, join_split]
      · unfold nameOf
        rw [hs]
        rfl
    · rw [if_neg hf] at h'
      cases h'
theorem entry_of {n : Str} {i j : Int} (hf : isFree (.str n) = true) (i0 : 0 ≤ i) (i3 : i ≤ 3) (j0 : 0 ≤ j) (j3 : j ≤ 3) : entryOf (etext n i j) = some (n, i, j) := by
  unfold entryOf
  rw [split_etext hf i0 i3 j0 j3]
  show goodRaw ((digOf _).bind fun i => (digOf _).map fun j => (n, i, j)) = _
  rw [ar_dig i0 i3, ar_dig j0 j3]
  show (if isFree (.str n) = true then some (n, i, j) else none) = _
  rw [if_pos hf]
/-! ### parts and entries -/
theorem parts_some : ∀ {ps : List Str}, (ps.all fun p => (entryOf p).isSome) = true → ∃ gs : List G3, ps.map entryOf = gs.map some ∧ gnames gs = ps.map nameOf ∧ ps = gs.map fun g => etext g.1 g.2.1 g.2.2
  | [], _ => ⟨[], rfl, rfl, rfl⟩
  | p :: ps, h => by
    rw [List.all_cons, Bool.and_eq_true] at h
    obtain ⟨gs, e1, e2, e3⟩ := parts_some h.2
    obtain ⟨⟨n, i, j⟩, e⟩ := Option.isSome_iff_exists.mp h.1
    obtain ⟨k1, _, _, _, k5⟩ := entry_ok e
    refine ⟨(n, i, j) :: gs, ?_, ?_, ?_⟩
    · rw [List.map_cons, e, e1]
      rfl
    · show n :: gnames gs = nameOf p :: ps.map nameOf
      rw [k5, e2]
    · show p :: ps = etext n i j :: _
      rw [← k1, ← e3]
theorem some_parts : ∀ {ps : List Str} {gs : List G3}, ps.map entryOf = gs.map some → (ps.all fun p => (entryOf p).isSome) = true
  | [], _, _ => rfl
  | p :: ps, [], h => nomatch h
  | p :: ps, g :: gs, h => by
    rw [List.map_cons, List.map_cons, List.cons.injEq] at h
    rw [List.all_cons, h.1, some_parts h.2]
    rfl
theorem bad_none : ∀ (gs : List G3) (seen : List Str) (i : Nat), (gnames gs).Nodup → (∀ n ∈ gnames gs, n ∉ seen) → firstBad seen i (gs.map some) = none
  | [], _, _, _, _ => rfl
  | (n, a, b) :: gs, seen, i, nd, h => by
    obtain ⟨n1, n2⟩ := List.nodup_cons.mp nd
    show (if n ∈ seen then some i else firstBad (n :: seen) (i + 1) (gs.map some)) = none
    rw [if_neg (h n List.mem_cons_self)]
    refine bad_none gs (n :: seen) (i + 1) n2 fun m hm => ?_
    intro z
    rcases List.mem_cons.mp z with e | e
    · exact n1 (e ▸ hm)
    · exact h m (List.mem_cons_of_mem _ hm) e
theorem none_verdict {gs : List G3} (nd : (gnames gs).Nodup) (h8 : gs.length ≤ 8) : verdict (gs.map some) = none := by
  unfold verdict
  rw [if_neg (by rw [List.length_map]; omega), bad_none gs [] 0 nd (fun n _ z => nomatch z)]
  rfl
theorem ar_self : ∀ {gs : List G3}, (gnames gs).Nodup → ∀ g ∈ gs, arOf gs g.1 = g.2
  | [], _, g, h => nomatch h
  | g0 :: gs, nd, g, h => by
    obtain ⟨n1, n2⟩ := List.nodup_cons.mp nd
    unfold arOf
    rcases List.mem_cons.mp h with rfl | h
    · rw [List.find?_cons_of_pos (by simp)]
      rfl
    · have ne : ¬ g0.1 = g.1 := fun z => n1 (List.mem_map.mpr ⟨g, h, z.symm⟩)
      rw [List.find?_cons_of_neg (by simpa using ne)]
      exact ar_self n2 g h
theorem text_self {gs : List G3} (nd : (gnames gs).Nodup) : vtext gs (gnames gs) = Str.join ", " (gs.map fun g => etext g.1 g.2.1 g.2.2) := by
  show Builtin.Str.glued ", " _ = _
  rw [StrLaws.glued_eq_join]
  congr 1
  unfold gnames
  rw [List.map_map]
  refine List.map_congr_left fun g hg => ?_
  show etext g.1 (arOf gs g.1).1 (arOf gs g.1).2 = _
  rw [ar_self nd g hg]
theorem read_good {x : Str} (h : goodText x = true) : ∃ gs : List G3, ensOf x = gs.map some ∧ verdict (gs.map some) = none ∧ ∀ ys : List Str, ys.Perm (gnames gs) → PyProof.Rows.sortedS ys = true → vtext gs ys = x := by
  unfold goodText at h
  rw [Bool.and_eq_true, Bool.and_eq_true, Bool.and_eq_true] at h
  obtain ⟨⟨⟨h8, ha⟩, hn⟩, hs⟩ := h
  obtain ⟨gs, e1, e2, e3⟩ := parts_some ha
  have nd : (gnames gs).Nodup := by
    rw [e2]
    exact of_decide_eq_true hn
  have hl : gs.length ≤ 8 := by
    have := of_decide_eq_true h8
    rw [e3, List.length_map] at this
    exact this
  refine ⟨gs, e1, none_verdict nd hl, fun ys hp hy => ?_⟩
  have e : ys = gnames gs := sorted_one hy (by rw [e2]; exact hs) hp
  rw [e, text_self nd, ← e3]
  by_cases h0 : x = ""
  · unfold partsOf
    rw [if_pos h0, h0]
    rfl
  · unfold partsOf
    rw [if_neg h0, join_split]
theorem read_bad {x : Str} (h : goodText x = false) {gs : List G3} (eg : ensOf x = gs.map some) (hv : verdict (gs.map some) = none) {ys : List Str} (hp : ys.Perm (gnames gs)) (hy : PyProof.Rows.sortedS ys = true) : vtext gs ys ≠ x := by
  intro ex
  have ha : ((partsOf x).all fun p => (entryOf p).isSome) = true := some_parts eg
  obtain ⟨gs', e1, e2, e3⟩ := parts_some ha
  have eg' : gs' = gs := by
    have z : gs'.map some = gs.map some := e1.symm.trans eg
    exact List.map_inj_right (fun a b hab => Option.some.inj hab) |>.mp z
  subst eg'
  obtain ⟨gs2, z2, nd, h8⟩ := verdict_none hv
  have eg2 : gs' = gs2 := List.map_inj_right (fun a b hab => Option.some.inj hab) |>.mp z2
  subst eg2
  have hl : (partsOf x).length ≤ 8 := by
    rw [e3, List.length_map]
    exact h8
  have good : ∀ g ∈ gs', isFree (.str g.1) = true ∧ (0 ≤ g.2.1 ∧ g.2.1 ≤ 3) ∧ 0 ≤ g.2.2 ∧ g.2.2 ≤ 3 := by
    intro g hg
    have hm : some g ∈ (partsOf x).map entryOf := by
      have e1' : (partsOf x).map entryOf = gs'.map some := e1
      rw [e1']
      exact List.mem_map.mpr ⟨g, hg, rfl⟩
    obtain ⟨p, _, hpe⟩ := List.mem_map.mp hm
    obtain ⟨_, k2, k3, k4, _⟩ := entry_ok hpe
    exact ⟨k2, k3, k4⟩
  have hsorted : PyProof.Rows.sortedS (gnames gs') = true := by
    by_cases h0 : x = ""
    · have ep : partsOf x = [] := by
        unfold partsOf
        rw [if_pos h0]
      rw [e2, ep]
      rfl
    · have gy : ∀ n ∈ ys, isFree (.str n) = true ∧ (0 ≤ (arOf gs' n).1 ∧ (arOf gs' n).1 ≤ 3) ∧ 0 ≤ (arOf gs' n).2 ∧ (arOf gs' n).2 ≤ 3 := by
        intro n hn
        obtain ⟨g, hg, e, ea⟩ := ar_mem (hp.mem_iff.mp hn)
        rw [ea, ← e]
        exact good g hg
      have ep : partsOf x = Txt.split x ", " := by
        unfold partsOf
        rw [if_neg h0]
      have ne : ys ≠ [] := by
        intro z
        rw [z] at ex
        exact h0 (by rw [← ex]; rfl)
      have ex' : Str.join ", " (ys.map fun n => etext n (arOf gs' n).1 (arOf gs' n).2) = x := by
        rw [← ex]
        show _ = Builtin.Str.glued ", " _
        rw [StrLaws.glued_eq_join]
      have sp : Txt.split x ", " = ys.map fun n => etext n (arOf gs' n).1 (arOf gs' n).2 := by
        rw [← ex']
        refine split_join (c := 44) (S := [32]) (by decide +kernel) (by decide +kernel) (fun z => ne (List.map_eq_nil_iff.mp z)) ?_
        intro p hp
        obtain ⟨n, hn, rfl⟩ := List.mem_map.mp hp
        obtain ⟨k1, ⟨k2, k3⟩, k4, k5⟩ := gy n hn
        exact etext_44 k1 k2 k3 k4 k5
      have en : gnames gs' = ys := by
        rw [e2, ep, sp, List.map_map]
        have z : ∀ n ∈ ys, (nameOf ∘ fun n => etext n (arOf gs' n).1 (arOf gs' n).2) n = n := by
          intro n hn
          obtain ⟨k1, ⟨k2, k3⟩, k4, k5⟩ := gy n hn
          show nameOf (etext n _ _) = n
          unfold nameOf
          rw [split_etext k1 k2 k3 k4 k5]
          rfl
        rw [List.map_congr_left z, List.map_id']
      rw [en]
      exact hy
  unfold goodText at h
  have nd' : (namesOf x).Nodup := by
    show ((partsOf x).map nameOf).Nodup
    rw [← e2]
    exact nd
  have hs' : PyProof.Rows.sortedS (namesOf x) = true := by
    show PyProof.Rows.sortedS ((partsOf x).map nameOf) = true
    rw [← e2]
    exact hsorted
  rw [decide_eq_true hl, ha, decide_eq_true nd', hs'] at h
  cases h
end SQ3
namespace SQ3
open PySem L2 SQ
/-- InvalidText as the top has made it -/
structure TC (K : PySem.W.Frag) (mg : Str → Option Value) (CT fJ : Addr) : Prop where
  g : mg "InvalidText" = some (.ref CT)
  T : ErrC K CT "value" [.type "ValueError", .type "Exception", .type "BaseException", .type "object"] "ValueError.__new__"
  J : ErrI K CT fJ "value"
  ty : PySem.W.typeIn K (.ref CT) = some (.type "type")
def spRd (K : PySem.W.Frag) (C CT : Addr) : Sp := fun vs H Q E => ∃ v : V, vs = [v] ∧ ((∃ t, TyX K H v t ∧ PySem.W.kitOne K t (.type "str") = some false ∧ ∀ d H', Same H H' → H' d = some (.xd [("value", v)]) → E (.ref CT) (some d) H') ∨
  (∃ x : Str, v = .str x ∧ x.length ≤ 1000 ∧ (goodText x = true → ∀ (o dx dA tN : Addr) (H' : Hp), Same H H' → H' o = some (.ins C dx (flds dA tN x)) → Q (.ref o) H') ∧ (goodText x = false → ∀ d H', Same H H' → H' d = some (.xd [("value", v)]) → E (.ref CT) (some d) H')))
theorem new_ins {C x dx : Addr} {H : Hp} (nx : H x = none) (ndx : H dx = none) (ne : dx ≠ x) : Same H (upd (upd H dx (.own x)) x (.ins C dx [])) := same_new (same_new (fun _ _ e => e) ndx) (by rw [upd_ne (Ne.symm ne)]; exact nx)
/-- Vocabulary(..), refused or not -/
theorem init_any {C CE : Addr} {H2 : Hp} {vs : List V} {os : List En} {E : XK} {R : Hp → Prop} {x dx : Addr} (nx : H2 x = none) (ndx : H2 dx = none) (ne : dx ≠ x) (hes : Ents H2 vs os) (hl : vs.length ≤ 2000)
    (kE : ∀ idx, verdict os = some idx → ∀ d H', Same H2 H' → H' d = some (.xd [("index", idx)]) → E (.ref CE) (some d) H')
    (kQ : verdict os = none → ∀ gs : List G3, os = gs.map some → ∀ (H' : Hp) (ys : List Str) (dx dA tN : Addr), ys.Perm (gnames gs) → PyProof.Rows.sortedS ys = true → Same H2 H' → H' x = some (.ins C dx (flds dA tN (vtext gs ys))) → R H') :
    spInit C CE (V.ref x :: vs) (upd (upd H2 dx (.own x)) x (.ins C dx [])) (fun v H' => v = .non ∧ R H') E := by
  have s1 : Same H2 (upd (upd H2 dx (.own x)) x (.ins C dx [])) := new_ins nx ndx ne
  refine ⟨[.ref x], vs, rfl, rfl, Nat.le_trans hl (by decide), fun p hp => ?_⟩
  have s2 : Same (upd (upd H2 dx (.own x)) x (.ins C dx [])) (upd (upd (upd H2 dx (.own x)) x (.ins C dx [])) p (.tup vs)) := same_new (fun _ _ e => e) hp
  refine ⟨x, dx, p, vs, os, rfl, s2 _ _ upd_same, upd_same, hes.same (st s1 s2), hl, fun idx h' d H' s' hd => kE idx h' d H' (st s1 (st s2 s')) hd, fun hv gs eg H' dA tN ys hp' hs' bt hx => ?_⟩
  obtain ⟨dx', hx⟩ := hx
  exact ⟨rfl, kQ hv gs eg H' ys dx' dA tN hp' hs' (fun b o e => bt b o (s2 _ _ (s1 _ _ e)) (ne_of_none e nx)) hx⟩
section
variable {P : Program} {w : World} {K : PySem.W.Frag} {mg : Str → Option Value} {base : Heap} {dD fSE fSS C CE CT fI fJ fIn : Addr} {es : Array DictEntry} {nn : Nat} {dSE dSS : FuncData}
theorem scRd : FnScope ["text", "entries", "vocabulary"] ["text"] (defScope sRd) := ⟨rfl, rfl, rfl, by decide +kernel, rfl, by decide +kernel, by decide +kernel⟩
theorem ok_rd {f : Addr} {fd : FuncData} (F : Fun K "read" "Vocabulary.read" sRd f fd) (S : S3 K mg fSE fSS dSE dSS) (B : B2 mg) (D : Dg K w mg dD es nn) (Z : EC K mg CE fI) (ex : PySem.W.exmOne K (.ref CE) (.ref CE) = some true) (ZT : TC K mg CT fJ) (VV : VC K mg C) (MK : Mk K C fIn)
    (GI : FnR P w K mg base (L2N.CX P w) 5 fIn (spInit C CE)) : FnOk P w K mg base (L2.CX P w) 7 f fd ["text"] (spRd K C CT) := by
  have GS : FnOk P w K mg base CX0 2 fSS dSS ["text"] spSS := ok_ss S B D
  refine F.okX scRd (fun vs H Q E h => ?_) (fun cdv A outer s H vs Q E hr h => ?_)
  · obtain ⟨v, rfl, _⟩ := h
    rfl
  · obtain ⟨v, rfl, h⟩ := h
    have hdp := dp_of hr
    refine ⟨_, pss_cons (ps_if (pt_not (pt_val (pe_callB call_isi (by rfl) B.isi (by decide +kernel) (pa_cons (pv 0) (pa_cons (pe_bltn (v := .ty "str") (by rfl) B.str (by decide +kernel) rfl) pa_nil)))))
        (pss_one (ps_raise rfl (takes_of rfl rfl rfl rfl) (pmk_of5 (pmk5_err (.inl rfl) bValue ZT.T ZT.J ZT.ty ZT.g (dp_of hr) rfl (pv 0))))) pss_nil)
      (pss_cons (ps_set (i := 1) scRd.nd rfl (.inl rfl) (pe_call GS (hr.mono (by decide)) rfl S.gS S.FS.kp S.bS .nil pass0 (pa_cons (pv 0) pa_nil)))
      (pss_cons (L2H.ps_try_onlyX (c := .ref CE) rfl rfl ⟨rfl, by decide, .inl Z.g⟩ (fun hd => PassesOwnAt.leaving) (takes_of rfl rfl rfl rfl)
          (by intro W pn xe tkN tkP po; exact pss_one (ps_set (i := 2) scRd.nd rfl (.inl rfl) (pe_makeST K rfl MK GI hr rfl VV.g (fun σ => L2N.passAt tkN σ) (pv 1))))
          (by intro a oe cls d pn hz hf tk hot; exact pss_one (L2H.ps_raiseHN hot tk (pmk5_err (.inl rfl) bValue ZT.T ZT.J ZT.ty ZT.g hdp rfl (pv 0)))))
      (pss_cons (ps_if (pt_cmpR op_ne (pe_fld (pv 2) rfl) (pv 0) (nomark _)) (pss_one (ps_raise rfl (takes_of rfl rfl rfl rfl) (pmk_of5 (pmk5_err (.inl rfl) bValue ZT.T ZT.J ZT.ty ZT.g (dp_of hr) rfl (pv 0))))) pss_nil)
      (pss_one (ps_ret (pv 2)))))), ?_⟩
    rcases h with ⟨t, ty, ki, kE⟩ | ⟨x, rfl, hx, kG, kB⟩
    · refine ⟨_, rfl, v, .ty "str", t, .type "str", false, rfl, .ty "str", ty, ki, _, rfl, iteT ⟨_, rfl, fun d nd => ?_⟩⟩
      exact kE d _ (same_new (fun _ _ e => e) nd) upd_same
    · refine ⟨_, rfl, .str x, .ty "str", .type "str", .type "str", true, rfl, .ty "str", .base (.str x), kit_ty (by decide +kernel), _, rfl, iteF ?_⟩
      refine ⟨_, rfl, x, rfl, hx, fun l ws H1 s1 hl en => ?_⟩
      have hlen : ws.length ≤ 2000 := by
        have := Paired.length en
        unfold ensOf partsOf at this
        rw [this, List.length_map]
        split
        · exact Nat.zero_le _
        · exact Nat.le_trans (PyProof.Rows.split_le x ", ") (by omega)
      refine ⟨_, rfl, l, ws, rfl, .inr (SqL.of hl), fun o dx no ndx ne => init_any no ndx ne en hlen ?_ ?_⟩
      · intro idx hv d H' s' hd
        refine ⟨true, ex, fun _ a ha => ⟨_, rfl, fun d2 nd2 => ?_⟩, fun z => nomatch z⟩
        refine kB ?_ d2 _ (same_new (st s1 s') nd2) upd_same
        cases hg : goodText x with
        | false => rfl
        | true =>
          obtain ⟨gs, e1, e2, _⟩ := read_good hg
          rw [e1, e2] at hv
          cases hv
      · intro hv gs eg H' ys dx' dA tN hp hs s' ho
        rw [eg] at hv
        refine ⟨_, rfl, o, C, dx', _, _, rfl, ho, VV.cl, VV.nT, rfl, _, rfl, rfl, _, rfl, ?_⟩
        by_cases he : vtext gs ys = x
        · have hg : goodText x = true := by
            cases hg : goodText x with
            | true => rfl
            | false => exact absurd he (read_bad hg eg hv hp hs)
          refine iteNS (by rw [he]) ⟨_, rfl, ?_⟩
          rw [he] at ho
          exact kG hg o dx' dA tN H' (st s1 s') ho
        · have hg : goodText x = false := by
            cases hg : goodText x with
            | false => rfl
            | true =>
              obtain ⟨gs2, e1, _, e3⟩ := read_good hg
              have z : gs2 = gs := List.map_inj_right (fun a b hab => Option.some.inj hab) |>.mp (e1.symm.trans eg)
              subst z
              exact absurd (e3 ys hp hs) he
          have nv : ¬ V.str (vtext gs ys) = V.str x := fun z => he (V.str.inj z)
          rw [decide_eq_false nv]
          refine iteT ⟨_, rfl, fun d nd => ?_⟩
          exact kB hg d _ (same_new (st s1 s') nd) upd_same
end
end SQ3
namespace SQ3
open PySem L2 SQ
abbrev sHad : Stmt := top 27
theorem takes_len {X : Cx} {W : WX} (t : Takes X W) : Takes X (fun c d σ H => σ.length = X.N.length → W c d σ H) := fun u s' ⟨a, B, sI, pins, σ, H, cls, d, e, I, nb, up, sky, na, os, ag, w⟩ =>
  t u s' ⟨a, B, sI, pins, σ, H, cls, d, e, I, nb, up, sky, na, os, ag, w I.len⟩
theorem pe_wk {X : Cx} {e : Expr} {t : TE} (h : PE X e t) : PE X e (fun σ H Q => ∃ R : VK, (∀ v H', R v H' → Q v H') ∧ t σ H R) := ⟨fun pins s σ H Q I ⟨R, hR, ht⟩ =>
  thn (h.run pins s σ H R I ht) fun u s1 ⟨v, H1, I1, r, q⟩ => ⟨v, H1, I1, r, hR v H1 q⟩⟩
/-- what _law_had makes of the lambda's reading -/
def THad (CE : Addr) : (XK → Hp → VK → Prop) → Hp → VK → Prop := fun tl H Q =>
  tl (fun cls d H' => ∃ (dd : Addr) (idx : V), cls = .ref CE ∧ d = some dd ∧ H' dd = some (.xd [("value", idx)]) ∧ ∀ p, H' p = none → Q (.ref p) (upd H' p (.lst [.str "InvalidText", idx, .bl true]))) H
    (fun v H' => ∀ p, H' p = none → Q (.ref p) (upd H' p (.lst [.str "given", v])))
structure HadF (K : PySem.W.Frag) (mg : Str → Option Value) (CE CI : Addr) : Prop where
  isf : IsF K
  gI : mg "InputError" = some (.ref CI)
  gV : mg "ValueError" = none
  ex : PySem.W.exmOne K (.ref CE) (.ref CE) = some true
  k1 : PySem.W.kitOne K (.ref CE) (.ref CI) = some true
  k2 : PySem.W.kitOne K (.ref CE) (.type "ValueError") = some true
abbrev nHad : List Str := ["_law_ask", "_law_given", "e"]
theorem scHad : FnScope nHad ["_law_ask"] (defScope sHad) := ⟨rfl, rfl, rfl, by decide +kernel, rfl, by decide +kernel, by decide +kernel⟩
theorem had_gives {X : Cx} {g CE CI fI : Addr} {cdg : Value} {q : Str} (B : B2 X.mg) (Z : TC X.K X.mg CE fI) (F : HadF X.K X.mg CE CI) : LamX.GivesTo X nHad "_law_had" (defScope sHad) g cdg (defBody sHad) "_law_ask" q (THad CE) := by
  intro f c' s H Q tl act hc h
  refine ⟨_, pss_cons (ps_try_as (X := (cxOf C8.CX0 X.prog X.w X.K X.mg X.base nHad "_law_had" (defScope sHad) g cdg X.A X.stack s H C8.E0).nox) (c := .ref CE) (i := 2)
      (tb := fun W D σ H => ∃ Ech : XK, (∀ cls d σ' H', Ech cls d H' → σ'.length = 3 → W cls d σ' H') ∧ σ[0]? = some (some (.ref f)) ∧ H c' = some (LamX.CodeO c' q) ∧ ∃ R : VK, (∀ v H', R v H' → D.nx (σ.set 1 (some v)) H') ∧ tl Ech H R)
      (Wout := fun _ _ _ _ => False)
      rfl rfl scHad.nd rfl rfl ⟨rfl, by decide, .inl Z.g⟩ LamX.takes0 (fun W pn xe tk _ => ?_)
      (fun a oe cls d pn hz hf => pss_one (ps_ret (pe_lst (pa_cons pe_str (pa_cons (pe_heldGet hz hf (pv 2)) (pa_cons (pe_and (pe_callB (cr_heldIs F.isf hz hf) (by rfl) B.isi (by decide +kernel) (pa_cons (pv 2) (pa_cons (pe_glob (v := .ref CI) rfl F.gI rfl) pa_nil)))
        (pe_one (pe_callB (cr_heldIs F.isf hz hf) (by rfl) B.isi (by decide +kernel) (pa_cons (pv 2) (pa_cons (pe_bltn (v := .ty "ValueError") (by rfl) F.gV (by decide +kernel) rfl) pa_nil))))) pa_nil)))))))
    (pss_one (ps_ret (pe_lst (pa_cons pe_str (pa_cons (pv 1) pa_nil))))), ?_⟩
  · refine ⟨fun pins s' σ H' D I h' => ?_⟩
    obtain ⟨Ech, hW, h1, h2, R, hR, h3⟩ := h'
    exact (pss_one (ps_set (i := 1) scHad.nd rfl (.inl rfl) (pe_wk (act _ pn xe Ech _ _ (takes_len tk) (fun cls d σ' H' e hl => hW cls d σ' H' e hl))))).run pins s' σ H' D I ⟨R, hR, h1, h2, h3⟩
  · refine ⟨_, ?_, rfl, hc, _, ?_, h⟩
    rotate_left
    · intro v H' k
      exact ⟨_, rfl, (by show 2 ≤ sizeLine; decide), fun p hp => k p hp⟩
    rintro cls d σ' H' ⟨dd, idx, rfl, rfl, hd, k⟩ hl
    refine ⟨true, F.ex, fun _ a ha => ?_, fun z => nomatch z⟩
    have h2 : (σ'.set 2 (some (V.ref a)))[2]? = some (some (V.ref a)) := by
      rw [List.getElem?_set_self (by omega)]
    refine ⟨_, h2, rfl, CE, idx, _, _, ⟨rfl, dd, rfl, hd⟩, Z.T, _, h2, _, _, true, CE, idx, "value", rfl, ⟨rfl, dd, rfl, hd⟩, Z.T.isc, fun z e => ?_, F.k1, _, rfl, iteT ?_⟩
    · exact e
    · refine ⟨_, h2, _, _, true, CE, idx, "value", rfl, ⟨rfl, dd, rfl, hd⟩, Z.T.isc, fun z e => e, F.k2, ?_, fun p hp => ?_⟩
      · show 3 ≤ sizeLine
        decide
      · exact k p hp
end SQ3
namespace SQ3
open PySem L2 SQ
abbrev sPart : Stmt := top 28
abbrev sText : Stmt := top 29
abbrev sChg : Stmt := top 30
structure B5 (mg : Str → Option Value) : Prop where
  any : mg "any" = none
  sorted : mg "sorted" = none
  set : mg "set" = none
  max : mg "max" = none
  range : mg "range" = none
  repr : mg "repr" = none
theorem any_not : ∀ (l : List Nat), (l.map fun c => !decide (c ∈ letters)).any id = !(l.all fun c => decide (c ∈ letters))
  | [] => rfl
  | c :: l => by
    have ih := any_not l
    rw [List.map_cons, List.any_cons, List.all_cons, ih]
    cases decide (c ∈ letters) <;> rfl
def digs : List Str := ["0", "1", "2", "3"]
theorem dig_in (a : Str) : (digOf a).isSome = decide (a ∈ digs) := by
  unfold digOf
  split
  · rename_i e
    subst e
    rfl
  split
  · rename_i e
    subst e
    rfl
  split
  · rename_i e
    subst e
    rfl
  split
  · rename_i e
    subst e
    rfl
  · rename_i e0 e1 e2 e3
    have : a ∉ digs := by
      intro h
      simp only [digs, List.mem_cons, List.not_mem_nil, or_false] at h
      rcases h with h | h | h | h
      · exact e0 h
      · exact e1 h
      · exact e2 h
      · exact e3 h
    rw [decide_eq_false this]
    rfl
def partOk (fs : List Str) : Bool := match fs with
  | [n, a, b] => isFree (.str n) && (decide (a ∈ digs) && decide (b ∈ digs))
  | _ => false
theorem part_entry (p : Str) : (entryOf p).isSome = partOk (Txt.split p " ") := by
  unfold entryOf
  generalize Txt.split p " " = fs
  match fs with
  | [] => rfl
  | [_] => rfl
  | [_, _] => rfl
  | _ :: _ :: _ :: _ :: _ => rfl
  | [n, a, b] =>
    show (goodRaw ((digOf a).bind fun i => (digOf b).map fun j => (n, i, j))).isSome = (isFree (.str n) && (decide (a ∈ digs) && decide (b ∈ digs)))
    rw [← dig_in a, ← dig_in b]
    cases digOf a with
    | none =>
      rw [show (none : Option Int).isSome = false from rfl, Bool.false_and, Bool.and_false]
      rfl
    | some i =>
      cases digOf b with
      | none =>
        rw [show (none : Option Int).isSome = false from rfl, Bool.and_false, Bool.and_false]
        rfl
      | some j =>
        show (if isFree (.str n) = true then some (n, i, j) else none).isSome = _
        cases isFree (.str n) <;> rfl
section
variable {P : Program} {w : World} {K : PySem.W.Frag} {mg : Str → Option Value} {base : Heap}
def spPart : Sp := fun vs H Q _ => ∃ p : Str, vs = [.str p] ∧ p.length ≤ 1000 ∧ ∀ H', Same H H' → Q (.bl (entryOf p).isSome) H'
theorem scPart : FnScope ["_law_part", "_law_things", "_law_letter"] ["_law_part"] (defScope sPart) := ⟨rfl, rfl, rfl, by decide +kernel, rfl, by decide +kernel, by decide +kernel⟩
theorem ok_part {f : Addr} {fd : FuncData} (F : Fun K "_law_is_part" "_law_is_part" sPart f fd) (B : B2 mg) (B' : B5 mg) : FnOk P w K mg base CX0 1 f fd ["_law_part"] spPart := by
  refine F.ok scPart (fun vs H Q E h => ?_) (fun cdv A outer s H vs Q E hr h => ?_)
  · obtain ⟨p, rfl, _⟩ := h
    rfl
  · obtain ⟨p, rfl, hp, q⟩ := h
    refine ⟨_, pss_cons (ps_set (i := 1) scPart.nd rfl (.inl rfl) (pe_split (pv 0) pe_str))
      (pss_cons (ps_if (PW.pt (pw_or (pt_cmpR op_ne (pe_callB call_len_seq (by rfl) B.len PySem.boot_len (pa_cons (pv 1) pa_nil)) pe_int (nomark _))
        (pw_or (pt_not (pt_chain op_le op_le pe_int (pe_callB call_len_str (by rfl) B.len PySem.boot_len (pa_cons (pe_ix ix_list (pv 1) pe_int (fun _ _ => rfl)) pa_nil)) pe_int))
        (pw_or1 (pt_cmpR op_in_seq (pe_ix ix_list (pv 1) pe_int (fun _ _ => rfl)) (pe_lst (pa_cons pe_str (pa_cons pe_str (pa_cons pe_str (pa_cons pe_str (pa_cons pe_str pa_nil)))))) (by rfl))))))
        (pss_one (ps_ret pe_bl)) pss_nil)
      (pss_cons (ps_if (pt_val (pe_callB (cr_any rfl) (by rfl) B'.any (by decide +kernel) (pa_cons (pe_lc (own := [("_law_letter", 2)]) (g := gName 2) (tt := tYes) rfl scPart.nd (pi_str (pe_ix ix_list (pv 1) pe_int (fun _ _ => rfl))) (blkOk_by (N := ["_law_part", "_law_things", "_law_letter"]) (sc := defScope sPart) (by decide +kernel))
        (fun _ _ _ _ _ => pg_name (i := 2) scPart.nd rfl (.inl rfl)) (fun _ _ _ _ _ => pts_nil) (fun _ _ _ _ _ => pe_cmpR op_notIn_sign (pv 2) pe_str (by rfl))) pa_nil)))
        (pss_one (ps_ret pe_bl)) pss_nil)
      (pss_one (ps_ret (pe_and (pe_cmpR op_in_seq (pe_ix ix_list (pv 1) pe_int (fun _ _ => rfl)) (pe_lst (pa_cons pe_str (pa_cons pe_str (pa_cons pe_str (pa_cons pe_str pa_nil))))) (by rfl))
        (pe_one (pe_cmpR op_in_seq (pe_ix ix_list (pv 1) pe_int (fun _ _ => rfl)) (pe_lst (pa_cons pe_str (pa_cons pe_str (pa_cons pe_str (pa_cons pe_str pa_nil))))) (by rfl)))))))), ?_⟩
    rw [part_entry] at q
    refine ⟨_, rfl, ⟨_, rfl⟩, _, _, rfl, rfl, (by decide +kernel), Nat.le_trans (Nat.add_le_add_right hp 2) (by decide), fun l nl => ?_⟩
    have s1 : Same H (upd H l (.lst ((Txt.split p " ").map V.str))) := same_new (fun _ _ e => e) nl
    have h1 : upd H l (.lst ((Txt.split p " ").map V.str)) l = some (.lst ((Txt.split p " ").map V.str)) := upd_same
    generalize upd H l (.lst ((Txt.split p " ").map V.str)) = H1 at s1 h1 ⊢
    have hsh : ∀ x ∈ Txt.split p " ", x.length ≤ 1000 := fun x hx => Nat.le_trans (PyProof.Rows.part_short hx) hp
    refine ⟨_, rfl, l, _, rfl, .inl (SqL.of h1), rfl, _, rfl, ?_⟩
    rw [List.length_map]
    generalize Txt.split p " " = fs at q h1 hsh ⊢
    by_cases h3 : fs.length = 3
    · obtain ⟨n, a, b, rfl⟩ : ∃ n a b, fs = [n, a, b] := by
        match fs, h3 with
        | [n, a, b], _ => exact ⟨n, a, b, rfl⟩
      have hn : n.length ≤ sizeLine := Nat.le_of_lt (small1000 (hsh n List.mem_cons_self))
      refine iteNS rfl ?_
      refine ⟨_, rfl, l, _, _, _, rfl, rfl, SqL.of h1, rfl, n, rfl, hn, ?_⟩
      have hfr : isFree (.str n) = (decide (1 ≤ (n.length : Int)) && decide ((n.length : Int) ≤ 8) && (n.cps.toList.all fun c => decide (c ∈ letters)) && !decide (n ∈ cores)) := rfl
      have q0 : isFree (.str n) = false → Q (.bl false) H1 := fun e => by
        have e2 : partOk [n, a, b] = false := by
          show (isFree (.str n) && _) = false
          rw [e]
          rfl
        rw [e2] at q
        exact q H1 s1
      refine ⟨_, _, rfl, rfl, _, rfl, ?_⟩
      refine ite2 (fun hlo => ⟨_, _, rfl, rfl, _, rfl, ?_⟩) (fun hlo => ⟨_, rfl, iteT ?_⟩)
      · by_cases h8 : (n.length : Int) ≤ 8
        · rw [decide_eq_true h8]
          refine iteF ?_
          refine ⟨_, rfl, l, _, _, _, rfl, rfl, SqL.of h1, rfl, (by show 5 ≤ sizeLine; decide), fun k nk => ?_⟩
          have s2 : Same H1 (upd H1 k (.lst [.str "call", .str "dip", .str "curry", .str "compose", .str "choose"])) := same_new (fun _ _ e => e) nk
          have h2 : upd H1 k (.lst [.str "call", .str "dip", .str "curry", .str "compose", .str "choose"]) k = some (.lst [.str "call", .str "dip", .str "curry", .str "compose", .str "choose"]) := upd_same
          have h1' := s2 _ _ h1
          have s12 : Same H (upd H1 k (.lst [.str "call", .str "dip", .str "curry", .str "compose", .str "choose"])) := st s1 s2
          have q0' : isFree (.str n) = false → Q (.bl false) (upd H1 k (.lst [.str "call", .str "dip", .str "curry", .str "compose", .str "choose"])) := fun e => by
            have e2 : partOk [n, a, b] = false := by
              show (isFree (.str n) && _) = false
              rw [e]
              rfl
            rw [e2] at q
            exact q _ s12
          generalize upd H1 k (.lst [.str "call", .str "dip", .str "curry", .str "compose", .str "choose"]) = H2 at s2 h2 s12 h1' q0' ⊢
          refine ⟨k, cores.map V.str, rfl, .inl (SqL.of h2), rfl, rfl, _, rfl, ?_⟩
          show if inV (.str n) (cores.map V.str) = true then _ else _
          rw [inV_cores]
          by_cases hc : n ∈ cores
          · rw [decide_eq_true hc]
            refine iteT (q0' ?_)
            rw [hfr, decide_eq_true hc, Bool.not_true, Bool.and_false]
          · rw [decide_eq_false hc]
            refine iteF ?_
            refine ⟨_, rfl, l, _, _, _, rfl, rfl, SqL.of h1', rfl, n, rfl, fun D hD => ?_⟩
            refine lc_it (walk_str (z := n)) (fun i H3 => H3 = upd H2 D (.lst (((n.cps.toList.take i).map fun c => !decide (c ∈ letters)).map V.bl))) rfl (fun _ _ _ _ => trivial) ?_ ?_
            · rintro i v H3 H4 hi rfl ⟨rfl, c, hc', rfl⟩
              refine ⟨rfl, keptT ⟨_, rfl, c, _, rfl, rfl, _, upd_same, small1000 ?_, ?_⟩⟩
              · have hz : n.cps.toList.length ≤ 1000 := hsh n List.mem_cons_self
                rw [List.length_map, List.length_map, List.length_take]
                exact Nat.le_trans (Nat.min_le_right _ _) hz
              · have e1 : (("abcdefghijklmnopqrstuvwxyz" : Str).cps.toList) = letters := by decide +kernel
                have e2 : n.cps.toList.take (i + 1) = n.cps.toList.take i ++ [c] := by
                  rw [List.take_add_one]
                  have : n.cps.toList[i]? = some c := by simpa using hc'
                  rw [this]
                  rfl
                rw [upd_upd, e1, e2, List.map_append, List.map_append]
                rfl
            · rintro H3 rfl
              refine ⟨D, _, rfl, SqL.of upd_same, ?_⟩
              have e3 : ((n.cps.toList.take n.cps.size).map fun c => !decide (c ∈ letters)).any id = !(n.cps.toList.all fun c => decide (c ∈ letters)) := by
                rw [show n.cps.size = n.cps.toList.length from rfl, List.take_length, any_not]
              rw [e3]
              have s3 : Same H2 (upd H2 D (.lst (((n.cps.toList.take n.cps.size).map fun c => !decide (c ∈ letters)).map V.bl))) := same_new (fun _ _ e => e) hD
              generalize upd H2 D (.lst (((n.cps.toList.take n.cps.size).map fun c => !decide (c ∈ letters)).map V.bl)) = H5 at s3 ⊢
              have h5 := s3 _ _ h1'
              refine ⟨_, rfl, ?_⟩
              cases hal : n.cps.toList.all fun c => decide (c ∈ letters) with
              | false =>
                refine iteT ?_
                have e2 : partOk [n, a, b] = false := by
                  show (isFree (.str n) && _) = false
                  rw [hfr, hal, Bool.and_false, Bool.false_and]
                  rfl
                rw [e2] at q
                exact q _ (st s12 s3)
              | true =>
                refine iteF ?_
                have e4 : isFree (.str n) = true := by
                  rw [hfr, hal, decide_eq_false hc, hlo, decide_eq_true h8]
                  rfl
                have e5 : partOk [n, a, b] = (decide (a ∈ digs) && decide (b ∈ digs)) := by
                  show (isFree (.str n) && _) = _
                  rw [e4, Bool.true_and]
                rw [e5] at q
                refine ⟨_, rfl, l, _, _, _, rfl, rfl, SqL.of h5, rfl, (by show 4 ≤ sizeLine; decide), fun k2 nk2 => ?_⟩
                have s6 : Same H5 (upd H5 k2 (.lst [.str "0", .str "1", .str "2", .str "3"])) := same_new (fun _ _ e => e) nk2
                have h6 := s6 _ _ h5
                have h62 : upd H5 k2 (.lst [.str "0", .str "1", .str "2", .str "3"]) k2 = some (.lst [.str "0", .str "1", .str "2", .str "3"]) := upd_same
                generalize upd H5 k2 (.lst [.str "0", .str "1", .str "2", .str "3"]) = H6 at s6 h6 h62 ⊢
                refine ⟨k2, digs.map V.str, rfl, .inl (SqL.of h62), rfl, rfl, _, rfl, ?_⟩
                show if inV (.str a) (digs.map V.str) = true then _ else _
                rw [inV_strs]
                by_cases ha : a ∈ digs
                · rw [decide_eq_true ha] at q ⊢
                  refine iteT ⟨_, rfl, l, _, _, _, rfl, rfl, SqL.of h6, rfl, (by show 4 ≤ sizeLine; decide), fun k3 nk3 => ?_⟩
                  have s7 : Same H6 (upd H6 k3 (.lst [.str "0", .str "1", .str "2", .str "3"])) := same_new (fun _ _ e => e) nk3
                  refine ⟨k3, digs.map V.str, rfl, .inl (SqL.of upd_same), rfl, rfl, ?_⟩
                  show Q (.bl (inV (.str b) (digs.map V.str))) _
                  rw [inV_strs]
                  exact q _ (st s12 (st s3 (st s6 s7)))
                · rw [decide_eq_false ha] at q ⊢
                  exact iteF (q _ (st s12 (st s3 s6)))
        · rw [decide_eq_false h8]
          refine iteT (iteT (q0 ?_))
          rw [hfr, decide_eq_false h8, Bool.and_false, Bool.false_and, Bool.false_and]
      · refine iteT (q0 ?_)
        rw [hfr, Bool.eq_false_iff.mpr hlo, Bool.false_and, Bool.false_and, Bool.false_and]
    · have ne : ¬ V.int (fs.length : Int) = V.int 3 := fun z => h3 (by have := V.int.inj z; omega)
      rw [decide_eq_false ne]
      refine iteT (iteT ?_)
      have e : partOk fs = false := by
        match fs, h3 with
        | [], _ => rfl
        | [_], _ => rfl
        | [_, _], _ => rfl
        | [_, _, _], h => exact absurd rfl h
        | _ :: _ :: _ :: _ :: _, _ => rfl
      rw [e] at q
      exact q H1 s1
end
end SQ3
namespace SQ
open PySem PySem.Spec PyProof.Rows L2
/-- a def of the text, its code object at c -/
structure FunC (K : PySem.W.Frag) (x qual : Str) (st : Stmt) (f : Addr) (fd : FuncData) (c : Addr) : Prop where
  ex : ∃ (oc : Value) (od : Option Addr) (kV doc pm : Value) (an : Option Addr) (ct : Value) (osl : Array (Option Value)),
    fd = PySem.W.fnOf x qual (defArgs st) (defBody st) (defScope st) .none kV doc pm an (.ref c) ct ∧ K.lookup f = some ⟨oc, od, .func fd, osl⟩ ∧ PySem.W.codeIn K (.ref c) qual = true
  kp : PySem.W.keepIn K (.ref f) = true
theorem FunC.f {K : PySem.W.Frag} {x qual : Str} {st : Stmt} {f : Addr} {fd : FuncData} {c : Addr} (F : FunC K x qual st f fd c) : Fun K x qual st f fd := by
  obtain ⟨oc, od, kV, doc, pm, an, ct, osl, e, l, q⟩ := F.ex
  exact ⟨⟨oc, od, kV, doc, pm, an, .ref c, ct, osl, e, l, q⟩, F.kp⟩
section
variable {P : Program} {w : World} {K : PySem.W.Frag} {mg : Str → Option Value} {base : Heap}
/-- okG where the code object is known -/
theorem okGc {x qual : Str} {st : Stmt} {f c : Addr} {fd : FuncData} {N ps : List Str} {k : Nat} {sp : Sp}
    (F : FunC K x qual st f fd c) (S : FnScope N ps (defScope st))
    (len : ∀ vs H Q E, sp vs H Q E → vs.length = ps.length)
    (hb : ∀ (A : Around) (outer : List Env) (s : Shared) (H : Hp) (vs : List V) (Q : VK) (E : XK),
      (A.deeper (envOfC qual (defScope st) s.heap.objs.size f (.ref c))).guards = some [] →
      Room k (A.deeper (envOfC qual (defScope st) s.heap.objs.size f (.ref c))) → sp vs H Q E →
      ∃ t, PSs (cxOf CX0 P w K mg base N qual (defScope st) f (.ref c) A outer s H E).nox (defBody st) t ∧
        t { nx := fun _ H' => Q .non H', rt := Q } (start N vs) H) :
    FnG P w K mg base CX0 (k + 1) f fd ps sp := by
  obtain ⟨oc, od, kV, doc, pm, an, ct, osl, rfl, lk, hcd⟩ := F.ex
  refine ⟨len, fun A hgd outer s H args us vs Q E hroom en bnd rel hsp => ?_⟩
  have nargs := len _ _ _ _ hsp
  have old : ∀ b o, base.get? b = some o → s.heap.get? b = some o := fun b o q => (en.bs b o q).1
  have kin := en.mod.kin.keeps old
  have nol := en.mod.nolimit.keeps old
  have kinds : ∀ y ∈ ps.zip us, (defScope st).names.lookup y.1 = some .local ∨
      ((defScope st).names.lookup y.1 = some .cell ∧
        ((cellsFrom (s.heap.objs.size + 1) (defScope st).names []).lookup y.1).isSome = true) := by
    rintro ⟨n, v⟩ hy
    rcases S.par n (List.of_mem_zip hy).1 with q | q
    · exact Or.inl q
    · exact Or.inr ⟨q, PySem.W.cellsFrom_some _ _ _ (Or.inl q)⟩
  refine codeAny_call_function hroom.depth (kin _ _ lk) rfl S.co S.gen rfl
    (PySem.W.codeRec_of kin hcd) (bnd _ _ _ _ ?_)
  refine wpAny_newFunctionEnv_cells S.kind kinds ?_
  intro env he s1 ic
  subst he
  refine ⟨nol.keeps ic.toInCall.keep, codeAny_func ?_⟩
  obtain ⟨t, ht, hq⟩ := hb A outer s H vs Q E (deeper_guards hgd) (hroom.deeper _) hsp
  have inv := inv_start (CX := CX0) (E := E) S hroom.hd en nargs rel ic
  refine wpAny_mono (ht.nox.run [] s1 (start N vs) H _ inv hq) ?_ fun e s' hs => hs
  intro fl s' hs
  cases fl with
  | ret u =>
    obtain ⟨v, σ', H', J, rv, q⟩ := hs
    exact ⟨v, H', J.os, J.bare, J.base, J.hok, rv, q⟩
  | next =>
    obtain ⟨σ', H', J, q⟩ := hs
    exact ⟨V.non, H', J.os, J.bare, J.base, J.hok, rfl, q⟩
  | brk =>
    obtain ⟨_, _, _, q⟩ := hs
    exact q.elim
  | cont =>
    obtain ⟨_, _, _, q⟩ := hs
    exact q.elim
end
end SQ
namespace SQ3
open PySem L2 SQ
abbrev nR : List Str := ["_law_urn_here", "_law_turn", "_law_drawn", "_law_again", "_law_titles", "_law_line", "_law_bent", "_law_due", "_law_odd", "_law_k", "_law_title"]
theorem scR : FnScope nR ["_law_urn_here"] (defScope sRight) := ⟨rfl, rfl, rfl, by decide +kernel, rfl, by decide +kernel, by decide +kernel⟩
structure HadD (K : PySem.W.Frag) (mg : Str → Option Value) (fH : Addr) (dH : FuncData) : Prop where
  g : mg "_law_had" = some (.ref fH)
  F : Fun K "_law_had" "_law_had" sHad fH dH
  b : Binds K dH ["_law_ask"] []
theorem pe_had {X : Cx} {T : TL} {fH CE CI fI c Pt : Addr} {dH : FuncData} {k : Nat} {params : Arguments} {body : Expr} {scope : Scope} {t : XK → TE} {p lpos pos : Pos} (HD : HadD X.K X.mg fH dH) (B : B2 X.mg) (Z : TC X.K X.mg CE fI) (HF : HadF X.K X.mg CE CI) (TB : LamX.TabB X.base X.mg c Pt) (hcode : X.env.code = .ref c)
    (hmT : (Pt, X.env.qual ++ "<lambda>") ∈ T) (huT : ∀ p ∈ T, p.1 = Pt → p.2 = X.env.qual ++ "<lambda>") (hr : Room (k + 2) X.A) (L : LamX.LamS X.env.scope scope) (hdef : defaultsOf params X.env = ([], []))
    (hbind : ∀ (q : Str) (cl : List (Str × Addr)) (pm cv ctv : Value), bindArgs (PySem.W.kla_fn "<lambda>" q params body scope cl pm cv ctv) ⟨[], []⟩ = pure [])
    (hbody : ∀ (A : Around) (outer : List Env) (s : Shared) (H : Hp) (E : XK) (f c' : Addr), Room k (A.deeper (LamX.lamEnv X scope s.heap.objs.size f c')) → PE (LamX.lamCx X A outer s H E scope f c') body (t E)) (hg : Gl X "_law_had" := by rfl) :
    PE X (.Call (.Name "_law_had" p) [.Lambda params body scope lpos] [] pos) (LamX.tLam T (THad CE) t) := by
  obtain ⟨oc, od, kV, doc, pm, an, cdv, ct, osl, rfl, lk, hcd⟩ := HD.F.ex
  exact LamX.pe_lamcall (Ng := nHad) (a := "_law_ask") hg HD.g HD.F.kp lk hcd HD.b scHad rfl (.inl rfl) (had_gives B Z HF) TB hcode hmT huT hr L hdef hbind hbody
structure StrO (K : PySem.W.Frag) (C fS : Addr) : Prop where
  f : PySem.W.findIn K (.ref C) "__str__" = some (some (.ref fS))
  fn : PySem.W.isFn K (.ref fS) = true
theorem rd_set {te : TE} {i : Nat} {rest : TS} {D : Ends} {σ : St} {H : Hp} (h : te σ H fun v H1 => rest D (σ.set i (some v)) H1) : tSeq (tAsg te (gName i)) rest D σ H := h
theorem rd_tgt {te : TE} {g : TG} {rest : TS} {D : Ends} {σ : St} {H : Hp} (h : te σ H fun v H1 => g v σ H1 (rest D)) : tSeq (tAsg te g) rest D σ H := h
theorem rd_if {c : TT} {t u : TS} {rest : TS} {D : Ends} {σ : St} {H : Hp} (h : c σ H fun b H1 => if b = true then t { D with nx := rest D } σ H1 else u { D with nx := rest D } σ H1) : tSeq (tIfS c t u) rest D σ H := h
theorem rd_call2 {sp : Sp} {E : XK} {t1 t2 : TE} {σ : St} {H : Hp} {Q : VK} (h : t1 σ H fun x H1 => t2 σ H1 fun y H2 => sp [x, y] H2 Q E) : tCall sp [] E (tCons t1 (tCons t2 tNil)) σ H Q := h
theorem tabs_but {T : TL} {u : Addr} {H H' : Hp} (t : LamX.Tabs T H) (hu : urnAt H u) (b : But u H H') : LamX.Tabs T H' := by
  obtain ⟨x, y, z, e0⟩ := hu
  intro p hp
  obtain ⟨ps, h1, h2, h3⟩ := t p hp
  refine ⟨ps, b _ _ h1 (ne_of h1 e0 (by intro z; cases z)), h2, fun pos cv hc => ?_⟩
  obtain ⟨c, e1, e2⟩ := h3 pos cv hc
  exact ⟨c, e1, b _ _ e2 (ne_of e2 e0 (by intro z; unfold LamX.CodeO at z; cases z))⟩
theorem urn_same {u : Addr} {H H' : Hp} (s : Same H H') (h : urnAt H u) : urnAt H' u := by
  obtain ⟨x, y, z, e⟩ := h
  exact ⟨x, y, z, s _ _ e⟩
theorem urn_ne {u p : Addr} {H : Hp} (h : urnAt H u) (n : H p = none) : u ≠ p := by
  obtain ⟨x, y, z, e⟩ := h
  exact ne_of_none e n
theorem rd_ex {te : TE} {rest : TS} {D : Ends} {σ : St} {H : Hp} (h : te σ H fun _ H1 => rest D σ H1) : tSeq (tDrop te) rest D σ H := h
abbrev lamN : Str := ("_law_right" : Str) ++ ".<locals>." ++ "<lambda>"
end SQ3
namespace SQ3
open PySem L2 SQ
/-! ### lists of texts, compared -/
def okS (x : Str) : Prop := ∀ c ∈ x.cps.toList, c < 1114112
theorem strOk_of {x : Str} (h : okS x) : PyData.strOk x = true := by
  unfold PyData.strOk
  rw [← Array.all_toList, List.all_eq_true]
  intro c hc
  exact decide_eq_true (h c hc)
theorem dp_strs {K : PySem.W.Frag} {H : Hp} : ∀ l : List Str, DpAll K H (l.map V.str) (l.map PyData.str)
  | [] => .nil
  | x :: l => .cons (.str x) (dp_strs l)
theorem lay_strs : ∀ {l : List Str}, (∀ x ∈ l, okS x) → PyData.canLayAll0 (l.map PyData.str) = true
  | [], _ => by simp only [List.map_nil, PyData.canLayAll0]
  | x :: l, h => by
    rw [List.map_cons]
    simp only [PyData.canLayAll0, PyData.canLay0]
    rw [strOk_of (h x List.mem_cons_self), lay_strs fun y hy => h y (List.mem_cons_of_mem _ hy)]
    rfl
theorem depth_strs : ∀ l : List Str, PyData.depthAll (l.map PyData.str) = 0
  | [] => by simp only [List.map_nil, PyData.depthAll]
  | x :: l => by
    rw [List.map_cons]
    simp only [PyData.depthAll, PyData.depth, depth_strs l]
    rfl
theorem shaped_strs {l : List Str} (h : ∀ x ∈ l, okS x) : SeqAt.shaped (.list (l.map PyData.str)) = true := by
  unfold SeqAt.shaped
  simp only [PyData.canLay0, PyData.depth, depth_strs, lay_strs h]
  rfl
theorem eqv_strs : ∀ a b : List Str, PyData.eqvAll (a.map PyData.str) (b.map PyData.str) = decide (a = b)
  | [], [] => by simp [PyData.eqvAll]
  | [], _ :: _ => by simp [PyData.eqvAll]
  | _ :: _, [] => by simp [PyData.eqvAll]
  | x :: a, y :: b => by
    rw [List.map_cons, List.map_cons]
    simp only [PyData.eqvAll, PyData.eqv, eqv_strs a b]
    by_cases h1 : x = y
    · subst h1
      by_cases h2 : a = b
      · subst h2
        simp
      · simp [h2]
    · simp [h1]
theorem free_ok {n : Str} (h : isFree (.str n) = true) : okS n := by
  intro c hc
  have hm := free_letters h c hc
  unfold letters at hm
  have : ∀ c ∈ ([97, 98, 99, 100, 101, 102, 103, 104, 105, 106, 107, 108, 109, 110, 111, 112, 113, 114, 115, 116, 117, 118, 119, 120, 121, 122] : List Nat), c < 1114112 := by decide
  exact this c hm
/-! ### a list that is the sorted one of its members -/
theorem uniq_perm {l : List Str} (h : l.Nodup) : (uniq l).Perm l := by
  refine (List.perm_ext_iff_of_nodup (uniq_nd l) h).mpr fun k => uniq_mem
theorem is_sorted {l ys : List Str} (hp : ys.Perm (uniq l)) (hs : PyProof.Rows.sortedS ys = true) : decide (l = ys) = (decide l.Nodup && PyProof.Rows.sortedS l) := by
  by_cases e : l = ys
  · have nd : l.Nodup := by
      rw [e]
      exact hp.nodup_iff.mpr (uniq_nd l)
    have hs' : PyProof.Rows.sortedS l = true := by rw [e]; exact hs
    rw [decide_eq_true e, decide_eq_true nd, hs']
    rfl
  · rw [decide_eq_false e]
    by_cases nd : l.Nodup
    · rw [decide_eq_true nd, Bool.true_and]
      cases h : PyProof.Rows.sortedS l with
      | false => rfl
      | true => exact absurd (sorted_one h hs ((uniq_perm nd).symm.trans hp.symm)) e
    · rw [decide_eq_false nd]
      rfl
theorem ixK {X : Cx} {K : PySem.W.Frag} (h : X.K = K) : IxR X (rIxL K) := by
  subst h
  exact ix_list
section
variable {P : Program} {w : World} {K : PySem.W.Frag} {mg : Str → Option Value} {base : Heap} {fP fT : Addr} {dP dT : FuncData}
structure P3 (K : PySem.W.Frag) (mg : Str → Option Value) (fP fT : Addr) (dP dT : FuncData) : Prop where
  gP : mg "_law_is_part" = some (.ref fP)
  FP : Fun K "_law_is_part" "_law_is_part" sPart fP dP
  bP : Binds K dP ["_law_part"] []
  gT : mg "_law_is_text" = some (.ref fT)
  FT : Fun K "_law_is_text" "_law_is_text" sText fT dT
  bT : Binds K dT ["_law_line"] []
def spText : Sp := fun vs H Q _ => ∃ x : Str, vs = [.str x] ∧ x.length ≤ 1000 ∧ ∀ H', Same H H' → Q (.bl (goodText x)) H'
abbrev nT : List Str := ["_law_line", "_law_parts", "_law_part", "_law_titles"]
theorem scT : FnScope nT ["_law_line"] (defScope sText) := ⟨rfl, rfl, rfl, by decide +kernel, rfl, by decide +kernel, by decide +kernel⟩
theorem ok_text (D : P3 K mg fP fT dP dT) (B : B2 mg) (B' : B5 mg) : FnOk P w K mg base CX0 2 fT dT ["_law_line"] spText := by
  have GP : FnOk P w K mg base CX0 1 fP dP ["_law_part"] spPart := ok_part D.FP B B'
  refine D.FT.ok scT (fun vs H Q E h => ?_) (fun cdv A outer s H vs Q E hr h => ?_)
  · obtain ⟨x, rfl, _⟩ := h
    rfl
  · obtain ⟨x, rfl, hx, q⟩ := h
    refine ⟨_, pss_cons (ps_set (i := 1) scT.nd rfl (.inl rfl) (pe_ifExp (pt_cmpR op_ne (pv 0) pe_str (nomark _)) (pe_split (pv 0) pe_str) (pe_lst pa_nil)))
      (pss_cons (ps_if (PW.pt (pw_or (pt_cmpR op_gt (pe_callB call_len_seq (by rfl) B.len PySem.boot_len (pa_cons (pv 1) pa_nil)) pe_int (nomark _))
        (pw_or1 (pt_not (pt_val (pe_callB (cr_all rfl) (by rfl) B.all (by decide +kernel) (pa_cons (pe_lc (own := [("_law_part", 2)]) (g := gName 2) (tt := tYes) rfl scT.nd (pi_list (pv 1)) (blkOk_by (N := nT) (sc := defScope sText) (by decide +kernel))
          (fun _ _ _ _ _ => pg_name (i := 2) scT.nd rfl (.inl rfl)) (fun _ _ _ _ _ => pts_nil) (fun _ _ _ _ _ => pe_call GP hr rfl D.gP D.FP.kp D.bP .nil pass0 (pa_cons (pv 2) pa_nil))) pa_nil)))))))
        (pss_one (ps_ret pe_bl)) pss_nil)
      (pss_cons (ps_setLc (i := 3) (own := [("_law_part", 2)]) (g := gName 2) (tt := tYes) rfl scT.nd rfl rfl (sw_true rfl rfl rfl rfl) (pi_list (pv 1)) (blkOk_by (N := nT) (sc := defScope sText) (by decide +kernel))
          (fun _ _ _ _ _ => pg_name (i := 2) scT.nd rfl (.inl rfl)) (fun _ _ _ _ _ => pts_nil) (fun _ _ _ _ _ => pe_ix (ixK (K := K) rfl) (pe_split (pv 2) pe_str) pe_int (fun _ _ => rfl)))
      (pss_one (ps_ret (pe_cmpR (op_eqD hr.units) (pv 3) (pe_callB (cr_sortS rfl) (by rfl) B'.sorted (by decide +kernel) (pa_cons (pe_callTy (cr_setS rfl) (by rfl) B'.set (by decide +kernel) (pa_cons (pv 3) pa_nil)) pa_nil)) rfl))))), ?_⟩
    refine rd_set ?_
    generalize hR : (tSeq (tIfS _ _ _) (tSeq (tAsg _ _) (tRet _)) : TS) = R
    have go : ∀ (l : Addr) (H1 : Hp), Same H H1 → H1 l = some (.lst ((partsOf x).map V.str)) → (∀ p ∈ partsOf x, p.length ≤ 1000) → R { nx := fun _ H' => Q .non H', rt := Q } [some (.str x), some (.ref l), none, none] H1 := by
      intro l H1 s1 h1 hsh
      rw [← hR]
      refine rd_if ?_
      have gq : goodText x = (decide ((partsOf x).length ≤ 8) && ((partsOf x).all fun p => (entryOf p).isSome) && (decide ((partsOf x).map nameOf).Nodup && PyProof.Rows.sortedS ((partsOf x).map nameOf))) := by
        unfold goodText namesOf
        rw [Bool.and_assoc]
      rw [gq] at q
      generalize partsOf x = ps at q h1 hsh ⊢
      refine ⟨_, rfl, l, _, rfl, .inl (SqL.of h1), _, _, rfl, rfl, _, rfl, ?_⟩
      rw [List.length_map]
      by_cases h8 : ps.length ≤ 8
      · have n8 : ¬ (8 : Int) < (ps.length : Int) := by omega
        rw [decide_eq_false n8]
        refine iteF ⟨_, rfl, ⟨l, rfl, ⟨_, SqL.of h1⟩, fun D hD => ?_⟩⟩
        refine lc_list (K := K) (a := l) (xs := ps.map V.str) (fun i H2 => Same H1 H2 ∧ H2 D = some (.lst (((ps.take i).map fun p => (entryOf p).isSome).map V.bl))) ⟨same_new (fun _ _ e => e) hD, upd_same⟩ (fun i H2 _ ⟨s2, _⟩ => SqL.of (s2 _ _ h1)) ?_ ?_
        · rintro i v H2 hi ⟨s2, hD2⟩
          rw [List.getElem?_map] at hi
          cases hg : ps[i]? with
          | none =>
            rw [hg] at hi
            cases hi
          | some p =>
            rw [hg] at hi
            cases hi
            refine ⟨rfl, keptT ⟨_, rfl, p, rfl, hsh p (List.mem_of_getElem? hg), fun H3 s3 => ?_⟩⟩
            refine ⟨_, s3 _ _ hD2, small1000 ?_, fun b o e => ?_, ?_⟩
            · rw [List.length_map, List.length_map, List.length_take]
              omega
            · rw [upd_ne (ne_of_none e hD)]
              exact s3 _ _ (s2 _ _ e)
            · rw [upd_same, take_more hg, List.map_append, List.map_append]
              rfl
        · rintro H2 ⟨s2, hD2⟩
          rw [List.length_map, List.take_length] at hD2
          refine ⟨D, _, rfl, SqL.of hD2, _, rfl, ?_⟩
          have ea : (ps.map fun p => (entryOf p).isSome).all id = ps.all fun p => (entryOf p).isSome := by
            rw [List.all_map]
            rfl
          rw [ea]
          have h2 := s2 _ _ h1
          have s12 : Same H H2 := st s1 s2
          cases ha : ps.all fun p => (entryOf p).isSome with
          | false =>
            rw [ha, Bool.and_false, Bool.false_and] at q
            exact iteT (q H2 s12)
          | true =>
            rw [ha, decide_eq_true h8, Bool.true_and, Bool.true_and] at q
            refine iteF ?_
            refine ⟨_, rfl, ⟨l, rfl, ⟨_, SqL.of h2⟩, fun D2 hD2' => ?_⟩⟩
            refine lc_list (K := K) (a := l) (xs := ps.map V.str) (fun i H3 => Same H2 H3 ∧ H3 D2 = some (.lst (((ps.take i).map nameOf).map V.str))) ⟨same_new (fun _ _ e => e) hD2', upd_same⟩ (fun i H3 _ ⟨s3, _⟩ => SqL.of (s3 _ _ h2)) ?_ ?_
            · rintro i v H3 hi ⟨s3, hD3⟩
              rw [List.getElem?_map] at hi
              cases hg : ps[i]? with
              | none =>
                rw [hg] at hi
                cases hi
              | some p =>
                rw [hg] at hi
                cases hi
                have hpl := hsh p (List.mem_of_getElem? hg)
                refine ⟨rfl, keptT ⟨_, rfl, ⟨_, rfl⟩, _, _, rfl, rfl, (by decide +kernel), Nat.le_trans (Nat.add_le_add_right hpl 2) (by decide), fun k nk => ?_⟩⟩
                have hk : upd H3 k (.lst ((Txt.split p " ").map V.str)) k = some (.lst ((Txt.split p " ").map V.str)) := upd_same
                have s4 : Same H3 (upd H3 k (.lst ((Txt.split p " ").map V.str))) := same_new (fun _ _ e => e) nk
                generalize upd H3 k (.lst ((Txt.split p " ").map V.str)) = H4 at hk s4 ⊢
                have hat : atI ((Txt.split p " ").map V.str) 0 = some (.str (nameOf p)) := by
                  unfold nameOf
                  have hne := split_ne p " "
                  cases hsp : Txt.split p " " with
                  | nil => exact absurd hsp hne
                  | cons y ys => exact atI_nat (j := 0) (xs := (y :: ys).map V.str) (v := .str y) rfl
                refine ⟨k, _, _, _, rfl, rfl, SqL.of hk, hat, _, s4 _ _ hD3, small1000 ?_, fun b o e => ?_, ?_⟩
                · rw [List.length_map, List.length_map, List.length_take]
                  omega
                · rw [upd_ne (ne_of_none e hD2')]
                  exact s4 _ _ (s3 _ _ e)
                · rw [upd_same, take_more hg, List.map_append, List.map_append]
                  rfl
            · rintro H3 ⟨s3, hD3⟩
              rw [List.length_map, List.take_length] at hD3
              have hl8 : (ps.map nameOf).length ≤ 8 := by rw [List.length_map]; exact h8
              refine ⟨_, rfl, _, rfl, D2, _, rfl, SqL.of hD3, by omega, fun p1 n1 => ?_⟩
              have s4 : Same H3 (upd H3 p1 (SetSO P w p1 (uniq (ps.map nameOf)))) := same_new (fun _ _ e => e) n1
              have h4 : upd H3 p1 (SetSO P w p1 (uniq (ps.map nameOf))) p1 = some (SetSO P w p1 (uniq (ps.map nameOf))) := upd_same
              refine ⟨p1, _, rfl, h4, ?_, fun ys p2 hp hs n2 => ?_⟩
              · have := uniq_len (ps.map nameOf)
                omega
              · have s5 : Same (upd H3 p1 (SetSO P w p1 (uniq (ps.map nameOf)))) (upd (upd H3 p1 (SetSO P w p1 (uniq (ps.map nameOf)))) p2 (.lst (ys.map V.str))) := same_new (fun _ _ e => e) n2
                have okN : ∀ z ∈ ps.map nameOf, okS z := by
                  intro z hz
                  obtain ⟨p, hp1, rfl⟩ := List.mem_map.mp hz
                  have hsome := List.all_eq_true.mp ha p hp1
                  obtain ⟨⟨n, i, j⟩, e⟩ := Option.isSome_iff_exists.mp hsome
                  obtain ⟨_, k2, _, _, k5⟩ := entry_ok e
                  rw [k5]
                  exact free_ok k2
                have okY : ∀ z ∈ ys, okS z := fun z hz => okN z (uniq_mem.mp (hp.mem_iff.mp hz))
                refine ⟨_, _, .lst (SqL.of (s5 _ _ (s4 _ _ hD3))) (dp_strs _), .lst (SqL.of upd_same) (dp_strs ys), shaped_strs okN, shaped_strs okY, ?_⟩
                have ee : PyData.eqv (.list ((ps.map nameOf).map PyData.str)) (.list (ys.map PyData.str)) = (decide (ps.map nameOf).Nodup && PyProof.Rows.sortedS (ps.map nameOf)) := by
                  simp only [PyData.eqv]
                  rw [eqv_strs, is_sorted hp hs]
                rw [ee]
                exact q _ (st s12 (st s3 (st s4 s5)))
      · have n8 : (8 : Int) < (ps.length : Int) := by omega
        rw [decide_eq_true n8]
        rw [decide_eq_false h8, Bool.false_and, Bool.false_and] at q
        exact iteT (iteT (q H1 s1))
    clear hR
    refine ⟨_, rfl, rfl, _, rfl, ?_⟩
    by_cases h0 : x = ""
    · subst h0
      refine iteNS rfl ⟨(by show 0 ≤ sizeLine; decide), fun l nl => ?_⟩
      exact go l _ (same_new (fun _ _ e => e) nl) upd_same (fun p hp => nomatch hp)
    · have ne : ¬ V.str x = V.str "" := fun z => h0 (V.str.inj z)
      rw [decide_eq_false ne]
      refine iteT ⟨_, rfl, ⟨_, rfl⟩, _, _, rfl, rfl, (by decide +kernel), Nat.le_trans (Nat.add_le_add_right hx 2) (by decide), fun l nl => ?_⟩
      have ep : partsOf x = Txt.split x ", " := by
        unfold partsOf
        rw [if_neg h0]
      rw [ep] at go
      exact go l _ (same_new (fun _ _ e => e) nl) upd_same (fun p hp => Nat.le_trans (PyProof.Rows.part_short hp) hx)
end
end SQ3
namespace SQ3
open PySem L2 SQ PyProof.Rows
section
variable {P : Program} {w : World} {K : PySem.W.Frag} {mg : Str → Option Value} {base : Heap} {fL fO : Addr} {fdL fdO : FuncData}
/-- _law_one of a kept list: the very item -/
theorem one_exact (D : Drw K mg fL fO fdL fdO) (B : Blt mg) {A : Around} {outer : List Env} {s : Shared} {H : Hp} {u t : Addr} {vs : List Value} {xs : List Str} {Q : VK} {E : XK} (hroom : Room 2 A) (en : Env0 P w K mg base A outer s H)
    (bnd : BindsTo s fdO ⟨[.ref u, .ref t], []⟩ ((["_law_urn_here", "_law_things"] : List Str).zip [.ref u, .ref t])) (hu : urnAt H u) (ht : H t = some (.frz (lstO vs) (.lst (xs.map V.str)))) (hl : vs.length = xs.length) (h0 : 0 < xs.length) (h1 : xs.length ≤ 1000)
    (q : ∀ (H' : Hp) (x : Str), x ∈ xs → urnAt H' u → But u H H' → Q (.str x) H') :
    codeAny (model P w) A (.call (.ref fO) ⟨[.ref u, .ref t], []⟩) (fun r s' => CR CX0 outer P w H s Q E r s' ∧ ∀ v, r = .ok (.ret v) → v ∈ vs) s := by
  have GL : FnOk P w K mg base CX0 1 fL fdL ["_law_urn_here", "_law_many"] spLot := ok_lot D.FL B
  obtain ⟨oc, od, kV, doc, pm, an, cdv, ct, osl, rfl, lk, hcd⟩ := D.FO.ex
  have old : ∀ b o, base.get? b = some o → s.heap.get? b = some o := fun b o q => (en.bs b o q).1
  have kin := en.mod.kin.keeps old
  have nol := en.mod.nolimit.keeps old
  have kinds : ∀ y ∈ (["_law_urn_here", "_law_things"] : List Str).zip [Value.ref u, .ref t], (defScope sOne).names.lookup y.1 = some .local ∨
      ((defScope sOne).names.lookup y.1 = some .cell ∧ ((cellsFrom (s.heap.objs.size + 1) (defScope sOne).names []).lookup y.1).isSome = true) := by
    rintro ⟨n, v⟩ hy
    rcases scO.par n (List.of_mem_zip hy).1 with q | q
    · exact Or.inl q
    · exact Or.inr ⟨q, PySem.W.cellsFrom_some _ _ _ (Or.inl q)⟩
  refine codeAny_call_function hroom.depth (kin _ _ lk) rfl scO.co scO.gen rfl (PySem.W.codeRec_of kin hcd) (bnd _ _ _ _ ?_)
  refine wpAny_newFunctionEnv_cells scO.kind kinds ?_
  intro env he s1 ic
  subst he
  refine ⟨nol.keeps ic.toInCall.keep, codeAny_func ?_⟩
  have hr2 := hroom.deeper (envOfC "_law_one" (defScope sOne) s.heap.objs.size fO cdv)
  have inv := inv_start (CX := CX0) (E := E) scO hroom.hd en (vs := [.ref u, .ref t]) rfl (.cons rfl (.cons rfl .nil)) ic
  have hbd : ∃ p1 p2 p3 p4 p5 p6 p7 p8 p9, defBody sOne = [.Return (some (.Subscript (.Name "_law_things" p1) (.Call (.Name "_law_lot" p2) [.Name "_law_urn_here" p3, .Call (.Name "len" p4) [.Name "_law_things" p5] [] p6] [] p7) p8)) p9] := ⟨_, _, _, _, _, _, _, _, _, rfl⟩
  let X := (cxOf CX0 P w K mg base ["_law_urn_here", "_law_things"] "_law_one" (defScope sOne) fO cdv A outer s H E).nox
  have key : wpAny (model P w) X.A (execs (defBody sOne) X.env) (fun fl s' => ∃ v, fl = .ret v ∧ v ∈ vs ∧ ∃ x H', x ∈ xs ∧ RelV (.str x) v ∧ Inv X [] (start ["_law_urn_here", "_law_things"] [.ref u, .ref t]) H' s' ∧ urnAt H' u ∧ But u H H') X.xe s1 := by
    obtain ⟨p1, p2, p3, p4, p5, p6, p7, p8, p9, hbd⟩ := hbd
    rw [hbd]
    have e1 : PE X (.Name "_law_things" p1) (tVar 1) := pv 1
    have e2 : PE X (.Call (.Name "_law_lot" p2) [.Name "_law_urn_here" p3, .Call (.Name "len" p4) [.Name "_law_things" p5] [] p6] [] p7) _ :=
      pe_call (X := X) GL hr2 rfl D.gL D.FL.kp D.bL .nil pass0 (pa_cons (pv 0) (pa_cons (pe_callB call_len_seq (by rfl) B.len PySem.boot_len (pa_cons (pv 1) pa_nil)) pa_nil))
    refine wpAny_execs_cons (wpAny_Return_some (Subscript_ (binT (X := X) (R := fun x y H2 => x = .ref t ∧ ∃ d : Int, y = .int d ∧ 0 ≤ d ∧ d < xs.length ∧ urnAt H2 u ∧ But u H H2) e1 e2 (inv.wish _) ?_ ?_)))
    · refine ⟨_, rfl, _, rfl, _, rfl, t, _, rfl, .inl (.inl (.inr ⟨_, ht⟩)), u, _, rfl, hu, ?_, ?_, fun H2 d d0 d1 hu2 bt => ⟨rfl, d, rfl, d0, ?_, hu2, bt⟩⟩
      · rw [List.length_map]
        omega
      · rw [List.length_map]
        omega
      · rw [List.length_map] at d1
        exact d1
    · rintro v uu s2 x y H2 I2 rx ry ⟨rfl, d, rfl, d0, d1, hu2, bt⟩
      obtain rfl : v = Value.ref t := rx
      obtain ⟨tk, rfl⟩ := ry
      have ht2 : H2 t = some (.frz (lstO vs) (.lst (xs.map V.str))) := bt t _ ht (by
        obtain ⟨a, b, c, e⟩ := hu
        exact ne_of ht e (by intro z; cases z))
      obtain ⟨g2, _, us, n2, r2, g3⟩ := I2.hok t _ ht2
      have eus : us.toArray = vs.toArray := by
        have e := g3
        rw [g2] at e
        have e' := congrArg Obj.data (Option.some.inj e)
        first
          | exact (Data.seq.inj e').1.symm
          | (injection e' with e1 e2; exact e1.symm)
      have eus' : us = vs := by
        have := congrArg Array.toList eus
        simpa using this
      subst eus'
      have hi : d.toNat < us.length := by omega
      have hx : d.toNat < xs.length := by omega
      have e1 : us.toArray[d.toNat]? = some us[d.toNat] := by
        rw [List.getElem?_toArray]
        exact List.getElem?_eq_getElem hi
      obtain ⟨v', ev, rv⟩ := r2.get (i := d.toNat) (x := .str xs[d.toNat]) (by rw [List.getElem?_map, List.getElem?_eq_getElem hx]; rfl)
      have ev' : v' = us[d.toNat] := by
        rw [List.getElem?_eq_getElem hi] at ev
        exact (Option.some.inj ev).symm
      subst ev'
      refine item_listR (items := us.toArray) ⟨_, g2, rfl, _, rfl⟩ d0 (by have := sizeLine_eq; omega) e1 ?_ rfl
      exact ⟨_, rfl, List.getElem_mem hi, xs[d.toNat], H2, List.getElem_mem hx, rv, I2, hu2, bt⟩
  refine wpAny_mono key ?_ fun e s' hs => False.elim hs
  rintro fl s' ⟨v, rfl, hv, x, H', hx, rv, J, hu2, bt⟩
  have J := J.unwish
  refine ⟨⟨.str x, H', J.os, J.bare, J.base, J.hok, rv, q H' x hx hu2 bt⟩, fun v' z => ?_⟩
  cases z
  exact hv
end
end SQ3
namespace SQ3
open PySem PySem.Spec L2 SQ PyProof.Rows
/-- line.replace(y, _law_one(urn, [..])) -/
def tRO (y : Str) (xs : List Str) : TE := fun σ H Q => ∃ x u, σ[1]? = some (some (.str x)) ∧ σ[0]? = some (some (.ref u)) ∧ urnAt H u ∧ x.length ≤ 200 ∧ ∀ (H' : Hp) (z : Str), z ∈ xs → urnAt H' u → But u H H' → Q (.str (Txt.replace x y z)) H'
theorem pet_replOne {X : Cx} {fL fO : Addr} {fdL fdO : FuncData} (D : Drw X.K X.mg fL fO fdL fdO) (B : Blt X.mg) (hr : Room 2 X.A) {y nl nu : Str} {xs : List Str} {es : List Expr} {j : Nat} {p1 p2 p3 lp cp c0 apos pos : Pos} (c : Cts es xs) (h0 : 0 < xs.length) (hl : xs.length ≤ 1000)
    (hz : ∀ z ∈ xs, z.length ≤ 100) (hy : ∀ z ∈ xs, (y == z) = false) (e1 : PE X (.Name nl p1) (tVar 1)) (e0 : PE X (.Name nu p3) (tVar 0)) (hg : Gl X "_law_one")
    (hs2 : starEach [.Name nu p3, .List es lp] X.env = (false, eval (.Name nu p3) X.env) :: starEach [.List es lp] X.env := by rfl) (hs3 : starEach [.List es lp] X.env = [(false, eval (.List es lp) X.env)] := by rfl)
    (hst : starEach [.Constant (.str y) j c0, .Call (.Name "_law_one" p2) [.Name nu p3, .List es lp] [] cp] X.env = [(false, eval (.Constant (.str y) j c0) X.env), (false, eval (.Call (.Name "_law_one" p2) [.Name nu p3, .List es lp] [] cp) X.env)] := by rfl)
    (hbase : attributeBase (.Name nl p1) "replace" X.env (eval (.Name nl p1) X.env) = eval (.Name nl p1) X.env := by rfl) (hline : (apos.endLine == pos.line) = true := by rfl) :
    PET X (.Call (.Attribute (.Name nl p1) "replace" apos) [.Constant (.str y) j c0, .Call (.Name "_law_one" p2) [.Name nu p3, .List es lp] [] cp] [] pos) (tRO y xs) := by
  intro pins s σ H Q tk0 I h
  obtain ⟨x, u, s1e, s0e, hu, hx, q⟩ := h
  refine PySem.Call_method2 hbase hst hline (wpAny_mono (PySem.wpAny_toks (e1.run pins s σ H (fun v H1 => v = .str x ∧ H1 = H) I ⟨_, s1e, rfl, rfl⟩)) (fun v s1 q1 => ?_) fun _ _ z => z.2)
  obtain ⟨hk, v', H1, I1, r1, rfl, rfl⟩ := q1
  obtain ⟨tx, rfl⟩ := r1
  refine ⟨"str", _, PySem.F.plainAttrs_str, PySem.F.slot_str_replace, PySem.F.type_str_replace, typeIs_str _ _ _, (fun _ e => nomatch e), Calls.callWith_builtin rfl (Calls.evalArgs_plain (Calls.spliced_cons ?_))⟩
  refine Calls.Constant_str (Calls.spliced_cons ?_)
  have I2 : Inv X pins σ H1 { s1 with toks := s1.toks + 1 } := I1.tok _
  refine wpAny_Call_Name_kw (ld_glob I2 hg D.gO ?_ (by decide))
  refine PySem.W.callWith_K (h₀ := X.base) I2.ok.mod.kin D.FO.kp ?_ hs2 (by rw [hs3]; rfl)
  rw [hs2]
  show wpAny _ _ (spliced ((false, eval (.Name nu p3) X.env) :: backTo cp (starEach [.List es lp] X.env))) _ _ _
  refine Calls.spliced_cons (wpAny_mono (PySem.wpAny_toks (e0.run pins _ σ H1 (fun v H2 => v = .ref u ∧ H2 = H1) I2 ⟨_, s0e, rfl, rfl⟩)) (fun w3 s3 q3 => ?_) fun _ _ z => z.2)
  obtain ⟨hk3, v3, H3, I3, r3, rfl, rfl⟩ := q3
  obtain rfl : w3 = Value.ref u := r3
  rw [hs3]
  show wpAny _ _ (spliced ((false, eval (.List es lp) X.env) :: backTo cp [])) _ _ _
  refine Calls.spliced_cons (run_cts (n := s1.toks + 1) I3 c (Nat.le_of_lt (small1000 hl)) hk3 fun p vs s4 np I4 late hlen => ?_)
  refine Calls.spliced_nil ⟨I4.kIn, ?_⟩
  show wpAny _ _ (call (.ref fO) [.ref u, .ref p]) _ _ _
  have hu4 : urnAt (upd H3 p (.frz (lstO vs) (.lst (xs.map V.str)))) u := by
    obtain ⟨a, b, c, e⟩ := hu
    exact ⟨a, b, c, by rw [upd_ne (ne_of_none e np)]; exact e⟩
  have hb4 : But u H3 (upd H3 p (.frz (lstO vs) (.lst (xs.map V.str)))) := But.refl.new np
  refine wpAny_call (codeAny_mono (one_exact (E := E0) (Q := fun v H' => ∃ z, v = .str z ∧ z ∈ xs ∧ urnAt H' u ∧ But u H3 H') D B hr I4.env0 (D.bO s4 [.ref u, .ref p] I4.kIn rfl) hu4 upd_same hlen h0 hl fun H' z hz hu' b' => ⟨z, rfl, hz, hu', hb4.trans b'⟩) fun r s5 ⟨hq, hex⟩ => ?_)
  rcases r with er | (_ | _ | _ | v)
  · exact False.elim hq
  · exact False.elim hq
  · exact False.elim hq
  · exact False.elim hq
  · obtain ⟨v5, H5, I5, r5, z, rfl, hz5, hu5, b5⟩ := I4.after hq
    obtain ⟨t5, rfl⟩ := r5
    obtain ⟨z', t', ez, ht'⟩ := late _ (hex _ rfl)
    cases ez
    refine Calls.spliced_nil ?_
    have nz : ¬ s1.toks ≤ 0 := by omega
    have hb : x.length + (x.length + 1) * z.length ≤ 16777216 := by
      have h1 := hz z hz5
      have h2 : (x.length + 1) * z.length ≤ 201 * 100 := Nat.mul_le_mul (by omega) h1
      omega
    exact PySem.SC.replace (fun z => nz (by rw [show s1.toks = 0 from z]; exact Nat.le_refl 0)) (fun z => by rw [z] at ht'; exact absurd ht' (Nat.not_succ_le_zero _)) (fun z => by rw [← z] at ht'; exact absurd ht' (Nat.not_succ_le_self _)) (hy z hz5) hb fun t' k => ⟨.str (Txt.replace x y z), H5, I5.tok k, ⟨t', rfl⟩, q H5 z hz5 hu5 b5⟩
end SQ3
namespace SQ3
open PySem L2 SQ
/-! ### what the changes make of a text -/
theorem mem_jn {S : List Nat} {c : Nat} : ∀ {ps : List (List Nat)} {p : List Nat}, p ∈ ps → c ∈ p → c ∈ jn S ps
  | [], p, h, _ => nomatch h
  | [x], p, h, hc => by
    rw [List.mem_singleton.mp h] at hc
    exact hc
  | x :: y :: r, p, h, hc => by
    show c ∈ x ++ (S ++ jn S (y :: r))
    rcases List.mem_cons.mp h with rfl | h
    · exact List.mem_append_left _ hc
    · exact List.mem_append_right _ (List.mem_append_right _ (mem_jn h hc))
theorem jn_mem {S : List Nat} {c : Nat} : ∀ {ps : List (List Nat)}, c ∈ jn S ps → c ∈ S ∨ ∃ p ∈ ps, c ∈ p
  | [], h => nomatch h
  | [x], h => .inr ⟨x, List.mem_singleton.mpr rfl, h⟩
  | x :: y :: r, h => by
    have h' : c ∈ x ++ (S ++ jn S (y :: r)) := h
    rcases List.mem_append.mp h' with h | h
    · exact .inr ⟨x, List.mem_cons_self, h⟩
    rcases List.mem_append.mp h with h | h
    · exact .inl h
    rcases jn_mem h with h | ⟨p, hp, h⟩
    · exact .inl h
    · exact .inr ⟨p, List.mem_cons_of_mem _ hp, h⟩
theorem ok_join {sep : Str} {ps : List Str} (h0 : okS sep) (h : ∀ p ∈ ps, okS p) : okS (Str.join sep ps) := by
  intro c hc
  rw [tl_join] at hc
  rcases jn_mem hc with hc | ⟨p, hp, hc⟩
  · exact h0 c hc
  · obtain ⟨q, hq, rfl⟩ := List.mem_map.mp hp
    exact h q hq c hc
theorem join_ok {sep : Str} {ps : List Str} (h : okS (Str.join sep ps)) : ∀ p ∈ ps, okS p := by
  intro p hp c hc
  refine h c ?_
  rw [tl_join]
  exact mem_jn (List.mem_map.mpr ⟨p, hp, rfl⟩) hc
theorem ok_split {x y : Str} (h : okS x) : ∀ p ∈ Txt.split x y, okS p := join_ok (sep := y) (by rw [join_split]; exact h)
theorem ok_app {a b : Str} (ha : okS a) (hb : okS b) : okS (a ++ b) := by
  intro c hc
  rw [str_app] at hc
  rcases List.mem_append.mp hc with h | h
  · exact ha c h
  · exact hb c h
theorem ok_cut {x : Str} (lo hi : Option Int) (h : okS x) : okS (cutS x lo hi) := by
  intro c hc
  unfold cutS at hc
  exact h c (List.mem_of_mem_drop (List.mem_of_mem_take (by simpa using hc)))
def tot (n : Nat) (ps : List Str) : Nat := (ps.map (·.length)).sum + ps.length * n
theorem tot_split (x y : Str) : tot y.length (Txt.split x y) ≤ x.length + y.length := by
  have h := PySem.size_glued y (Txt.split x y)
  rw [StrLaws.glued_eq_join, join_split] at h
  have hn : 0 < (Txt.split x y).length := List.length_pos_iff.mpr (split_ne x y)
  unfold tot
  have : (Txt.split x y).length * y.length = ((Txt.split x y).length - 1) * y.length + y.length := by
    obtain ⟨k, hk⟩ : ∃ k, (Txt.split x y).length = k + 1 := ⟨(Txt.split x y).length - 1, by omega⟩
    rw [hk, Nat.add_sub_cancel, Nat.add_mul, Nat.one_mul]
  omega
theorem join_tot (sep : Str) (ps : List Str) : (Str.join sep ps).length ≤ tot sep.length ps := StrLaws.join_length_le sep ps
theorem tot_rev (n : Nat) (ps : List Str) : tot n ps.reverse = tot n ps := by
  unfold tot
  rw [List.map_reverse, List.sum_reverse, List.length_reverse]
theorem sum_take (l : List Nat) (k : Nat) : (l.take k).sum ≤ l.sum := by
  have h := congrArg List.sum (List.take_append_drop k l)
  rw [List.sum_append] at h
  omega
theorem tot_take (n k : Nat) (ps : List Str) : tot n (ps.take k) ≤ tot n ps := by
  unfold tot
  rw [List.map_take]
  have h1 := sum_take (ps.map (·.length)) k
  have h2 : (ps.take k).length ≤ ps.length := by
    rw [List.length_take]
    omega
  have h3 := Nat.mul_le_mul_right n h2
  omega
theorem repl_or (x y z : Str) : Txt.replace x y z = x ∨ ∃ ps, Txt.replace x y z = Str.join z ps ∧ Str.join y ps = x ∧ ps.length ≤ x.length + 2 := by
  unfold Txt.replace
  split
  · exact .inl rfl
  · refine .inr ⟨_, StrLaws.glued_eq_join _ _, ?_, ?_⟩
    · rw [← StrLaws.glued_eq_join, StrLaws.glued_between_self]
    · rw [PySem.length_partsBetween]
      have := StrLaws.occ_length_le x y 0 x.length (x.length + 1)
      omega
theorem ok_repl {x y z : Str} (hx : okS x) (hz : okS z) : okS (Txt.replace x y z) := by
  rcases repl_or x y z with e | ⟨ps, e, h, _⟩
  · rw [e]
    exact hx
  · rw [e]
    exact ok_join hz (join_ok (sep := y) (by rw [h]; exact hx))
theorem len_repl {x y z : Str} (hz : z.length ≤ 3) (hx : x.length ≤ 200) : (Txt.replace x y z).length ≤ 1000 := by
  rcases repl_or x y z with e | ⟨ps, e, h, hl⟩
  · rw [e]
    omega
  · rw [e]
    have h1 := join_tot z ps
    have h2 := PySem.size_glued y ps
    rw [StrLaws.glued_eq_join, h] at h2
    unfold tot at h1
    have h3 : ps.length * z.length ≤ 202 * 3 := Nat.mul_le_mul (by omega) hz
    omega
end SQ3
namespace SQ3
open PySem L2 SQ CwR
abbrev nC : List Str := ["_law_urn_here", "_law_line", "_law_way", "_law_at", "_law_sign"]
theorem scC : FnScope nC ["_law_urn_here", "_law_line"] (defScope sChg) := ⟨rfl, rfl, rfl, by decide +kernel, rfl, by decide +kernel, by decide +kernel⟩
def spChg : Sp := fun vs H Q _ => ∃ (u : Addr) (x : Str), vs = [.ref u, .str x] ∧ urnAt H u ∧ x.length ≤ 200 ∧ okS x ∧ ∀ (H' : Hp) (z : Str), okS z → z.length ≤ 1000 → urnAt H' u → But u H H' → Q (.str z) H'
theorem rd_par {i j : Nat} {ta : TA} {rest : TS} {D : Ends} {σ : St} {H : Hp} (h : ta σ H fun vs H1 => ∃ v w, vs = [v, w] ∧ rest D ((σ.set i (some v)).set j (some w)) H1) : tSeq (tPar i j ta) rest D σ H := h
theorem rd_nx {u : TS} {D : Ends} {σ : St} {H : Hp} (h : u D σ H) : tNext { D with nx := u D } σ H := h
section
variable {P : Program} {w : World} {K : PySem.W.Frag} {mg : Str → Option Value} {base : Heap} {fL fO : Addr} {fdL fdO : FuncData}
structure CD (K : PySem.W.Frag) (mg : Str → Option Value) (fC : Addr) (dC : FuncData) : Prop where
  g : mg "_law_changed" = some (.ref fC)
  F : Fun K "_law_changed" "_law_changed" sChg fC dC
  b : Binds K dC ["_law_urn_here", "_law_line"] []
theorem ok_chg {f : Addr} {fd : FuncData} (F : Fun K "_law_changed" "_law_changed" sChg f fd) (D : Drw K mg fL fO fdL fdO) (BL : Blt mg) (B : B2 mg) (B' : B5 mg) : FnOk P w K mg base CX0 3 f fd ["_law_urn_here", "_law_line"] spChg := by
  have GL : FnOk P w K mg base CX0 1 fL fdL ["_law_urn_here", "_law_many"] spLot := ok_lot D.FL BL
  have GO : FnOk P w K mg base CX0 2 fO fdO ["_law_urn_here", "_law_things"] (spOne K) := ok_one D BL
  obtain ⟨oc, od, kV, doc, pm, an, cdv, ct, osl, rfl, lk, hcd⟩ := F.ex
  refine fn_ofT lk hcd scC (by decide +kernel) (by decide) (fun vs H Q E h => ?_) (fun A outer s H vs Q E hr h => ?_)
  · obtain ⟨u, x, rfl, _⟩ := h
    rfl
  · obtain ⟨u, x, rfl, hu, hx, ok, q⟩ := h
    refine ⟨_, psst_cons (PST.of (ps_par (i := 2) (j := 3) rfl scC.nd rfl rfl (by decide) rfl rfl (pa_cons (pe_call GL (hr.mono (by decide)) rfl D.gL D.FL.kp D.bL .nil pass0 (pa_cons (pv 0) (pa_cons pe_int pa_nil))) (pa_cons (pe_call GL (hr.mono (by decide)) rfl D.gL D.FL.kp D.bL .nil pass0 (pa_cons (pv 0) (pa_cons (pe_callB (call_max2 rfl) (by rfl) BL.max (by decide +kernel) (pa_cons pe_int (pa_cons (pe_callB call_len_str (by rfl) B.len PySem.boot_len (pa_cons (pv 1) pa_nil)) pa_nil))) pa_nil))) pa_nil)) rfl))
      (psst_cons (PST.of (ps_set (i := 4) scC.nd rfl (.inl rfl) (pe_call GO hr rfl D.gO D.FO.kp D.bO .nil pass0 (pa_cons (pv 0) (pa_cons (pe_lst (pa_cons pe_str (pa_cons pe_str (pa_cons pe_str (pa_cons pe_str (pa_cons pe_str (pa_cons pe_str (pa_cons pe_str (pa_cons pe_str (pa_cons pe_str (pa_cons pe_str pa_nil))))))))))) pa_nil)))))
      (psst_cons (PST.of (ps_if (pt_cmpR op_eq (pv 2) pe_int (nomark _)) (pss_one (ps_ret (pe_op op_add_str (pe_slice sl_str (pv 1) po_none (po_some (pv 3))) (pe_slice sl_str (pv 1) (po_some (pe_op op_add (pv 3) pe_int)) po_none)))) pss_nil))
      (psst_cons (PST.of (ps_if (pt_cmpR op_lt (pv 2) pe_int (nomark _)) (pss_one (ps_ret (pe_op op_add_str (pe_op op_add_str (pe_slice sl_str (pv 1) po_none (po_some (pv 3))) (pv 4)) (pe_slice sl_str (pv 1) (po_some (pe_op op_add (pv 3) (pe_callTy call_int1 (by rfl) B.int (by decide +kernel) (pa_cons (pe_cmpR op_eq (pv 2) pe_int rfl) pa_nil)))) po_none)))) pss_nil))
      (psst_cons (PST.of (ps_if (pt_cmpR op_eq (pv 2) pe_int (nomark _)) (pss_one (ps_ret (pe_join pe_str (pe_revL (pe_split (pv 1) pe_str))))) pss_nil))
      (psst_cons (PST.of (ps_if (pt_cmpR op_eq (pv 2) pe_int (nomark _)) (pss_one (ps_ret (pe_op op_add_str (pv 1) (pe_call GO hr rfl D.gO D.FO.kp D.bO .nil pass0 (pa_cons (pv 0) (pa_cons (pe_lst (pa_cons pe_str (pa_cons pe_str (pa_cons pe_str (pa_cons pe_str (pa_cons pe_str (pa_cons pe_str pa_nil))))))) pa_nil)))))) pss_nil))
      (psst_cons (pst_if (pt_cmpR op_eq (pv 2) pe_int (nomark _)) (psst_one (pst_ret (pet_replOne D BL hr (.cons _ _ _ (.cons _ _ _ (.cons _ _ _ (.cons _ _ _ .nil)))) (by decide) (by decide) (by decide +kernel) (by decide +kernel) (pv 1) (pv 0) rfl))) psst_nil)
      (psst_cons (pst_if (pt_cmpR op_eq (pv 2) pe_int (nomark _)) (psst_one (pst_ret (pet_replOne D BL hr (.cons _ _ _ (.cons _ _ _ (.cons _ _ _ (.cons _ _ _ (.cons _ _ _ (.cons _ _ _ .nil)))))) (by decide) (by decide) (by decide +kernel) (by decide +kernel) (pv 1) (pv 0) rfl))) psst_nil)
      (psst_one (PST.of (ps_ret (pe_join pe_str (pe_slice sl_list (pe_split (pv 1) pe_str) po_none (po_some (pe_un un_neg pe_int)))))))))))))), ?_⟩
    have line : ∀ {n : Nat}, n ≤ 1000 → n ≤ sizeLine := fun h => Nat.le_of_lt (small1000 h)
    refine rd_par ?_
    refine ⟨_, rfl, u, 8, rfl, hu, by decide, by decide, fun H1 way w0 w8 hu1 b1 => ?_⟩
    refine ⟨_, rfl, _, rfl, x, rfl, line (by omega), _, _, rfl, u, _, rfl, hu1, ?_, ?_, fun H2 at_ a0 a1 hu2 b2 => ⟨_, _, rfl, ?_⟩⟩
    · split <;> omega
    · split <;> omega
    refine rd_set ?_
    refine ⟨_, rfl, (by show 10 ≤ sizeLine; decide), fun p np => ?_⟩
    have bp := fun xs => But.new (o := .lst xs) (b1.trans b2) np
    refine ⟨u, p, _, rfl, ?_, urn_ne hu2 np, upd_same, (by show 0 < 10; decide), (by show 10 ≤ 1000; decide), fun H3 i3 sg e3 hu3 b3 => ?_⟩
    · obtain ⟨a, b, c, e⟩ := hu2
      exact ⟨a, b, c, by rw [upd_ne (ne_of_none e np)]; exact e⟩
    have bt3 : But u H H3 := (bp _).trans b3
    obtain ⟨g, rfl, og, lg⟩ : ∃ g, sg = .str g ∧ okS g ∧ g.length ≤ 10 := by
      have hm := List.mem_of_getElem? e3
      simp only [List.mem_cons, List.not_mem_nil, or_false] at hm
      rcases hm with rfl | rfl | rfl | rfl | rfl | rfl | rfl | rfl | rfl | rfl <;> exact ⟨_, rfl, by unfold okS; decide +kernel, by decide +kernel⟩
    clear b3 e3 bp
    have q3 := fun (H' : Hp) (z : Str) (o : okS z) (l : z.length ≤ 1000) (hu' : urnAt H' u) (b : But u H3 H') => q H' z o l hu' (bt3.trans b)
    have cl := fun lo hi => cutS_length x lo hi
    have eqd : ∀ k : Int, decide (V.int way = V.int k) = decide (way = k) := fun k => by
      by_cases h : way = k
      · rw [h, decide_eq_true rfl, decide_eq_true rfl]
      · rw [decide_eq_false h, decide_eq_false (fun z => h (V.int.inj z))]
    refine rd_if ⟨_, rfl, rfl, _, rfl, ?_⟩
    rw [eqd]
    refine ite2 (fun _ => ?_) (fun _ => ?_)
    · refine ⟨_, rfl, _, rfl, _, rfl, x, rfl, line (by omega), _, rfl, _, rfl, _, _, rfl, rfl, _, rfl, x, rfl, line (by omega), _, _, rfl, rfl, ?_, ?_⟩
      · have h1 := cl none (some at_)
        have h2 := cl (some (at_ + 1)) none
        exact line (by omega)
      · refine q3 _ _ (ok_app (ok_cut _ _ ok) (ok_cut _ _ ok)) ?_ hu3 But.refl
        rw [len_app]
        have h1 := cl none (some at_)
        have h2 := cl (some (at_ + 1)) none
        omega
    refine rd_nx (rd_if ⟨_, rfl, _, _, rfl, rfl, _, rfl, ?_⟩)
    refine ite2 (fun _ => ?_) (fun _ => ?_)
    · refine ⟨_, rfl, _, rfl, _, rfl, x, rfl, line (by omega), _, rfl, _, _, rfl, rfl, ?_, ?_⟩
      · have h1 := cl none (some at_)
        exact line (by omega)
      refine ⟨_, rfl, _, rfl, _, rfl, rfl, .inr ⟨_, rfl, _, _, rfl, rfl, _, rfl, x, rfl, line (by omega), _, _, rfl, rfl, ?_, ?_⟩⟩
      · rw [len_app]
        have h1 := cl none (some at_)
        have h2 := fun k => cl (some (at_ + k)) none
        refine line ?_
        have h3 := h2 (if decide (V.int way = V.int 2) = true then 1 else 0)
        omega
      · refine q3 _ _ (ok_app (ok_app (ok_cut _ _ ok) og) (ok_cut _ _ ok)) ?_ hu3 But.refl
        rw [len_app, len_app]
        have h1 := cl none (some at_)
        have h3 := cl (some (at_ + (if decide (V.int way = V.int 2) = true then 1 else 0))) none
        omega
    refine rd_nx (rd_if ⟨_, rfl, rfl, _, rfl, ?_⟩)
    rw [eqd]
    refine ite2 (fun _ => ?_) (fun _ => ?_)
    · refine ⟨⟨_, rfl⟩, _, rfl, ⟨_, rfl⟩, _, _, rfl, rfl, (by decide +kernel), line (by omega), fun p2 np2 => ⟨p2, _, rfl, SqL.of upd_same, fun p3 np3 => ?_⟩⟩
      have hts := tot_split x ", "
      have ht2 : (", " : Str).length = 2 := rfl
      rw [ht2] at hts
      rw [← List.map_reverse]
      have htr : tot 2 (Txt.split x ", ").reverse ≤ 202 := by
        rw [tot_rev]
        omega
      refine ⟨_, p3, (Txt.split x ", ").reverse, rfl, rfl, .inl (SqL.of upd_same), ?_, ?_⟩
      · unfold tot at htr
        rw [ht2]
        omega
      · show Q (.str (Builtin.Str.glued ", " (Txt.split x ", ").reverse)) _
        rw [StrLaws.glued_eq_join]
        have hjl := join_tot ", " (Txt.split x ", ").reverse
        rw [ht2] at hjl
        have s3 := same_new (o := .lst ((Txt.split x ", ").reverse.map V.str)) (same_new (o := .lst ((Txt.split x ", ").map V.str)) (fun _ _ e => e : Same H3 H3) np2) np3
        refine q3 _ _ (ok_join (by unfold okS; decide +kernel) fun p hp => ok_split ok p (List.mem_reverse.mp hp)) (by omega) (urn_same s3 hu3) (Same.but s3)
    refine rd_nx (rd_if ⟨_, rfl, rfl, _, rfl, ?_⟩)
    rw [eqd]
    refine ite2 (fun _ => ?_) (fun _ => ?_)
    · refine ⟨_, rfl, _, rfl, (by show 6 ≤ sizeLine; decide), fun p2 np2 => ?_⟩
      have s4 := fun xs => same_new (o := .lst xs) (fun _ _ e => e : Same H3 H3) np2
      refine ⟨u, p2, _, rfl, urn_same (s4 _) hu3, urn_ne hu3 np2, upd_same, (by show 0 < 6; decide), (by show 6 ≤ 1000; decide), fun H4 i4 sg4 e4 hu4 b4 => ?_⟩
      obtain ⟨g4, rfl, og4, lg4⟩ : ∃ g, sg4 = .str g ∧ okS g ∧ g.length ≤ 20 := by
        have hm := List.mem_of_getElem? e4
        simp only [List.mem_cons, List.not_mem_nil, or_false] at hm
        rcases hm with rfl | rfl | rfl | rfl | rfl | rfl <;> exact ⟨_, rfl, by unfold okS; decide +kernel, by decide +kernel⟩
      refine ⟨x, g4, rfl, rfl, line (by omega), q3 _ _ (ok_app ok og4) (by rw [len_app]; omega) hu4 ((Same.but (s4 _)).trans b4)⟩
    refine rd_nx (rd_if ⟨_, rfl, rfl, _, rfl, ?_⟩)
    rw [eqd]
    refine ite2 (fun _ => ?_) (fun _ => ?_)
    · refine ⟨x, u, rfl, rfl, hu3, hx, fun H4 z hz hu4 b4 => ?_⟩
      have hz' : okS z ∧ z.length ≤ 3 := by
        simp only [List.mem_cons, List.not_mem_nil, or_false] at hz
        rcases hz with rfl | rfl | rfl | rfl <;> exact ⟨by unfold okS; decide +kernel, by decide +kernel⟩
      exact q3 _ _ (ok_repl ok hz'.1) (len_repl hz'.2 hx) hu4 b4
    refine rd_nx (rd_if ⟨_, rfl, rfl, _, rfl, ?_⟩)
    rw [eqd]
    refine ite2 (fun _ => ?_) (fun _ => ?_)
    · refine ⟨x, u, rfl, rfl, hu3, hx, fun H4 z hz hu4 b4 => ?_⟩
      have hz' : okS z ∧ z.length ≤ 3 := by
        simp only [List.mem_cons, List.not_mem_nil, or_false] at hz
        rcases hz with rfl | rfl | rfl | rfl | rfl | rfl <;> exact ⟨by unfold okS; decide +kernel, by decide +kernel⟩
      exact q3 _ _ (ok_repl ok hz'.1) (len_repl hz'.2 hx) hu4 b4
    refine rd_nx ?_
    refine ⟨⟨_, rfl⟩, _, rfl, ⟨_, rfl⟩, _, _, rfl, rfl, (by decide +kernel), line (by omega), fun p2 np2 => ⟨_, rfl, _, rfl, p2, _, rfl, SqL.of upd_same, fun p3 np3 => ?_⟩⟩
    obtain ⟨k, hk⟩ : ∃ k, cutV ((Txt.split x ", ").map V.str) none (some (-1)) = ((Txt.split x ", ").take k).map V.str := by
      refine ⟨HT.sIx ((Txt.split x ", ").map V.str).length ((Txt.split x ", ").map V.str).length (some (-1)) - HT.sIx ((Txt.split x ", ").map V.str).length 0 none, ?_⟩
      unfold cutV
      have e0 : ∀ m, HT.sIx m 0 none = 0 := fun m => rfl
      rw [e0, List.drop_zero, List.map_take]
    rw [hk]
    have hts := tot_split x ", "
    have ht2 : (", " : Str).length = 2 := rfl
    rw [ht2] at hts
    have htr : tot 2 ((Txt.split x ", ").take k) ≤ 202 := by
      have := tot_take 2 k (Txt.split x ", ")
      omega
    refine ⟨_, p3, (Txt.split x ", ").take k, rfl, rfl, .inl (SqL.of upd_same), ?_, ?_⟩
    · unfold tot at htr
      rw [ht2]
      omega
    · show Q (.str (Builtin.Str.glued ", " ((Txt.split x ", ").take k))) _
      rw [StrLaws.glued_eq_join]
      have hjl := join_tot ", " ((Txt.split x ", ").take k)
      rw [ht2] at hjl
      have s3 := same_new (o := .lst (((Txt.split x ", ").take k).map V.str)) (same_new (o := .lst ((Txt.split x ", ").map V.str)) (fun _ _ e => e : Same H3 H3) np2) np3
      refine q3 _ _ (ok_join (by unfold okS; decide +kernel) fun p hp => ok_split ok p (List.mem_of_mem_take hp)) (by omega) (urn_same s3 hu3) (Same.but s3)
end
end SQ3
namespace SQ3
open PySem L2 SQ
abbrev sEq : Stmt := inClass (top 22) 3
abbrev sRp : Stmt := inClass (top 22) 6
structure IC (K : PySem.W.Frag) (C : Addr) : Prop where
  cl : Cls K C
  ha : PySem.W.findIn K (.ref C) "__class__" = some (some (.builtin "object.__class__"))
  hn : PySem.W.specialIn K (.builtin "object.__class__") "__get__" = some (some (.builtin "getset_descriptor.__get__"))
  htk : PySem.W.takesIn K (.builtin "object.__class__") = some true
  hm : PySem.W.mroIn K C (.type "object") = some true
  self : PySem.W.kitOne K (.ref C) (.ref C) = some true
  str : PySem.W.kitOne K (.ref C) (.type "str") = some false
theorem IC.ty {K : PySem.W.Frag} {C a dx : Addr} {H : Hp} {fs : List (Str × V)} (T : IC K C) (e : H a = some (.ins C dx fs)) : TyX K H (.ref a) (.ref C) := .base (.ins e T.cl T.ha T.hn T.htk T.hm)
section
variable {P : Program} {w : World} {K : PySem.W.Frag} {mg : Str → Option Value} {base : Heap} {C : Addr}
def spEqV (C : Addr) : Sp := fun vs H Q _ => ∃ (a b dx dy dA dB tN tM : Addr) (x y : Str), vs = [.ref a, .ref b] ∧ H a = some (.ins C dx (flds dA tN x)) ∧ H b = some (.ins C dy (flds dB tM y)) ∧ Q (.bl (decide (x = y))) H
theorem scEq : FnScope ["self", "other"] ["self", "other"] (defScope sEq) := ⟨rfl, rfl, rfl, by decide +kernel, rfl, by decide +kernel, by decide +kernel⟩
theorem ok_eq {f : Addr} {fd : FuncData} (F : Fun K "__eq__" "Vocabulary.__eq__" sEq f fd) (B : B2 mg) (VV : VC K mg C) (T : IC K C) : FnOk P w K mg base CX0 1 f fd ["self", "other"] (spEqV C) := by
  refine F.ok scEq (fun vs H Q E h => ?_) (fun cdv A outer s H vs Q E hr h => ?_)
  · obtain ⟨a, b, dx, dy, dA, dB, tN, tM, x, y, rfl, _⟩ := h
    rfl
  · obtain ⟨a, b, dx, dy, dA, dB, tN, tM, x, y, rfl, ha, hb, q⟩ := h
    refine ⟨_, pss_one (ps_ret (pe_and (pe_callB call_isi (by rfl) B.isi (by decide +kernel) (pa_cons (pv 1) (pa_cons (pe_glob (v := .ref C) rfl VV.g rfl) pa_nil)))
      (pe_one (pe_cmpR op_eq (pe_fld (pv 0) rfl) (pe_fld (pv 1) rfl) (by rfl))))), ?_⟩
    refine ⟨_, rfl, _, _, _, _, true, rfl, .own C, T.ty hb, T.self, _, rfl, iteT ?_⟩
    refine ⟨_, rfl, a, C, dx, _, _, rfl, ha, VV.cl, VV.nT, rfl, _, rfl, b, C, dy, _, _, rfl, hb, VV.cl, VV.nT, rfl, rfl, ?_⟩
    have e : decide (V.str x = V.str y) = decide (x = y) := by
      by_cases h : x = y
      · subst h
        rw [decide_eq_true rfl, decide_eq_true rfl]
      · rw [decide_eq_false h, decide_eq_false (fun z => h (V.str.inj z))]
    rw [e]
    exact q
def spRp (C : Addr) : Sp := fun vs H Q _ => ∃ (a dx dA tN : Addr) (x : Str), vs = [.ref a] ∧ H a = some (.ins C dx (flds dA tN x)) ∧ x.length ≤ 1000 ∧ Q (.str (Str.empty ++ "Vocabulary(" ++ x ++ ")")) H
theorem scRp : FnScope ["self"] ["self"] (defScope sRp) := ⟨rfl, rfl, rfl, by decide +kernel, rfl, by decide +kernel, by decide +kernel⟩
theorem ok_rp {f : Addr} {fd : FuncData} (F : Fun K "__repr__" "Vocabulary.__repr__" sRp f fd) (VV : VC K mg C) : FnOk P w K mg base CX0 1 f fd ["self"] (spRp C) := by
  refine F.ok scRp (fun vs H Q E h => ?_) (fun cdv A outer s H vs Q E hr h => ?_)
  · obtain ⟨a, dx, dA, tN, x, rfl, _⟩ := h
    rfl
  · obtain ⟨a, dx, dA, tN, x, rfl, ha, hx, q⟩ := h
    refine ⟨_, pss_one (ps_ret (pe_joined (.cons pe_str (.cons (pe_fmt (pe_fld (pv 0) rfl)) (.cons pe_str .nil))))), ?_⟩
    have l1 : (Str.empty ++ ("Vocabulary(" : Str)).length = 11 := by decide
    have l2 : (")" : Str).length = 1 := rfl
    have line : ∀ {n : Nat}, n ≤ 2000 → n ≤ sizeLine := fun h => Nat.le_trans h (by decide)
    refine ⟨_, rfl, by rw [l1]; exact line (by decide), _, rfl, a, C, dx, _, _, rfl, ha, VV.cl, VV.nT, rfl, ?_⟩
    refine .inl ⟨x, rfl, line (by omega), _, rfl, ?_, _, rfl, ?_, q⟩
    · rw [len_app, l1]
      exact line (by omega)
    · rw [len_app, len_app, l1, l2]
      exact line (by omega)
def spOneS : Sp := fun vs H Q _ => ∃ (u : Addr) (z : Str), vs = [.ref u, .str z] ∧ urnAt H u ∧ 0 < z.length ∧ z.length ≤ 1000 ∧
  ∀ (H' : Hp) (c : Nat), c ∈ z.cps.toList → urnAt H' u → But u H H' → Q (.str ⟨#[c]⟩) H'
theorem ok_oneS {fL fO : Addr} {fdL fdO : FuncData} (D : Drw K mg fL fO fdL fdO) (B : Blt mg) : FnOk P w K mg base CX0 2 fO fdO ["_law_urn_here", "_law_things"] spOneS := by
  have GL : FnOk P w K mg base CX0 1 fL fdL ["_law_urn_here", "_law_many"] spLot := ok_lot D.FL B
  refine D.FO.ok scO (fun vs H Q E h => ?_) (fun cdv A outer s H vs Q E hr h => ?_)
  · obtain ⟨u, z, rfl, _⟩ := h
    rfl
  · obtain ⟨u, z, rfl, hu, z0, z1, q⟩ := h
    refine ⟨_, pss_one (ps_ret (pe_ix ix_str (pv 1) (pe_call GL hr rfl D.gL D.FL.kp D.bL .nil pass0 (pa_cons (pv 0) (pa_cons (pe_callB call_len_str (by rfl) B.len PySem.boot_len (pa_cons (pv 1) pa_nil)) pa_nil))) (fun _ _ => rfl))), ?_⟩
    have hl : z.length ≤ sizeLine := Nat.le_of_lt (small1000 z1)
    refine ⟨_, rfl, _, rfl, _, rfl, z, rfl, hl, u, _, rfl, hu, by omega, by omega, fun H1 d d0 d1 hu1 bt => ?_⟩
    obtain ⟨i, rfl⟩ : ∃ i : Nat, d = i := ⟨d.toNat, by omega⟩
    have hi : i < z.cps.toList.length := by
      have : (z.cps.toList.length : Int) = z.length := by simp [Str.length]
      omega
    have hx : z.cps.toList[i]? = some z.cps.toList[i] := List.getElem?_eq_getElem hi
    exact ⟨z, _, _, rfl, rfl, hl, atI_nat hx, q H1 _ (List.getElem_mem hi) hu1 bt⟩
end
end SQ3
namespace SQ3
open PySem L2 SQ
/-! ### the lines that the law makes -/
def abcz : List Nat := [97, 98, 99, 122]
structure Tit (x : Str) : Prop where
  lo : 1 ≤ x.length
  hi : x.length ≤ 8
  sg : ∀ c ∈ x.cps.toList, c ∈ abcz
theorem tit_name {x : Str} (t : Tit x) : nameOk x = true := by
  unfold nameOk
  have h1 := t.lo
  have h2 := t.hi
  rw [decide_eq_true (by omega), decide_eq_true (by omega), Bool.true_and, Bool.true_and, List.all_eq_true]
  intro c hc
  have hm := t.sg c hc
  have : ∀ c ∈ abcz, c ∈ letters := by decide
  exact decide_eq_true (this c hm)
theorem tit_core {x : Str} (t : Tit x) : x ∉ cores := by
  intro h
  have : ∀ y ∈ cores, ¬ ∀ c ∈ y.cps.toList, c ∈ abcz := by decide +kernel
  exact this x h t.sg
theorem tit_free {x : Str} (t : Tit x) : isFree (.str x) = true := by
  show (nameOk x && !decide (x ∈ cores)) = true
  rw [tit_name t, decide_eq_false (tit_core t)]
  rfl
/-- an entry's text as the law writes it -/
def ltext (g : G3) : Str := g.1 ++ " " ++ ((toString g.2.1 : String) : Str) ++ " " ++ ((toString g.2.2 : String) : Str)
theorem ltext_e (g : G3) : ltext g = etext g.1 g.2.1 g.2.2 := by
  apply str_ext
  unfold ltext etext
  simp only [str_app, List.append_assoc]
  rfl
structure GoodG (gs : List G3) : Prop where
  tit : ∀ g ∈ gs, Tit g.1
  ar : ∀ g ∈ gs, (0 ≤ g.2.1 ∧ g.2.1 ≤ 3) ∧ 0 ≤ g.2.2 ∧ g.2.2 ≤ 3
  nd : (gnames gs).Nodup
  so : PyProof.Rows.sortedS (gnames gs) = true
  few : gs.length ≤ 8
def lineOf (gs : List G3) : Str := Str.join ", " (gs.map ltext)
theorem ltext_len {g : G3} (t : Tit g.1) (a : (0 ≤ g.2.1 ∧ g.2.1 ≤ 3) ∧ 0 ≤ g.2.2 ∧ g.2.2 ≤ 3) : (ltext g).length ≤ 12 := by
  unfold ltext
  have h1 := len_num a.1.1 a.1.2
  have h2 := len_num a.2.1 a.2.2
  have h3 : (" " : Str).length = 1 := rfl
  have h4 := t.hi
  rw [len_app, len_app, len_app, len_app, h1, h2, h3]
  omega
theorem sums_le {k : Nat} : ∀ {l : List Nat}, (∀ x ∈ l, x ≤ k) → l.sum ≤ l.length * k
  | [], _ => by simp
  | x :: l, h => by
    have h1 := sums_le (l := l) fun y hy => h y (List.mem_cons_of_mem _ hy)
    have h2 := h x List.mem_cons_self
    rw [List.sum_cons, List.length_cons, Nat.add_mul, Nat.one_mul]
    omega
theorem line_len {gs : List G3} (G : GoodG gs) : (lineOf gs).length ≤ 200 := by
  have h1 := join_tot ", " (gs.map ltext)
  unfold tot at h1
  have h2 : (((gs.map ltext).map (·.length))).sum ≤ ((gs.map ltext).map (·.length)).length * 12 := sums_le fun x hx => by
    obtain ⟨y, hy, rfl⟩ := List.mem_map.mp hx
    obtain ⟨g, hg, rfl⟩ := List.mem_map.mp hy
    exact ltext_len (G.tit g hg) (G.ar g hg)
  rw [List.length_map, List.length_map] at h2
  rw [List.length_map] at h1
  have h3 : (", " : Str).length = 2 := rfl
  rw [h3] at h1
  have h4 := G.few
  unfold lineOf
  omega
theorem ltext_ok {g : G3} (t : Tit g.1) (a : (0 ≤ g.2.1 ∧ g.2.1 ≤ 3) ∧ 0 ≤ g.2.2 ∧ g.2.2 ≤ 3) : okS (ltext g) := by
  have num : ∀ {i : Int}, 0 ≤ i → i ≤ 3 → okS ((toString i : String) : Str) := fun h0 h1 c hc => by
    have hm := num_signs h0 h1 c hc
    have : ∀ c ∈ ([48, 49, 50, 51] : List Nat), c < 1114112 := by decide
    exact this c hm
  have sp : okS (" " : Str) := by
    unfold okS
    decide +kernel
  exact ok_app (ok_app (ok_app (ok_app (free_ok (tit_free t)) sp) (num a.1.1 a.1.2)) sp) (num a.2.1 a.2.2)
theorem line_ok {gs : List G3} (G : GoodG gs) : okS (lineOf gs) := by
  refine ok_join (by unfold okS; decide +kernel) fun p hp => ?_
  obtain ⟨g, hg, rfl⟩ := List.mem_map.mp hp
  exact ltext_ok (G.tit g hg) (G.ar g hg)
theorem line_parts {gs : List G3} (G : GoodG gs) : partsOf (lineOf gs) = gs.map ltext := by
  cases gs with
  | nil => rfl
  | cons g gs =>
    have ne : lineOf (g :: gs) ≠ "" := by
      intro z
      have hm : (32 : Nat) ∈ (lineOf (g :: gs)).cps.toList := by
        unfold lineOf
        rw [tl_join]
        refine mem_jn (p := (ltext g).cps.toList) (List.mem_map.mpr ⟨ltext g, List.mem_map.mpr ⟨g, List.mem_cons_self, rfl⟩, rfl⟩) ?_
        unfold ltext
        simp only [str_app]
        exact List.mem_append_left _ (List.mem_append_left _ (List.mem_append_left _ (List.mem_append_right _ (by decide))))
      rw [z] at hm
      exact absurd hm (by decide)
    unfold partsOf
    rw [if_neg ne]
    unfold lineOf
    refine split_join (c := 44) (S := [32]) (by decide +kernel) (by decide +kernel) (by simp) fun p hp => ?_
    obtain ⟨h, hh, rfl⟩ := List.mem_map.mp hp
    obtain ⟨⟨a1, a2⟩, a3, a4⟩ := G.ar h hh
    rw [ltext_e]
    exact etext_44 (tit_free (G.tit h hh)) a1 a2 a3 a4
theorem line_good {gs : List G3} (G : GoodG gs) : goodText (lineOf gs) = true := by
  have en : ∀ g ∈ gs, entryOf (ltext g) = some g ∧ nameOf (ltext g) = g.1 := fun g hg => by
    obtain ⟨⟨a1, a2⟩, a3, a4⟩ := G.ar g hg
    rw [ltext_e]
    have e := entry_of (tit_free (G.tit g hg)) a1 a2 a3 a4
    exact ⟨e, (entry_ok e).2.2.2.2⟩
  have names : namesOf (lineOf gs) = gnames gs := by
    unfold namesOf gnames
    rw [line_parts G, List.map_map]
    exact List.map_congr_left fun g hg => (en g hg).2
  unfold goodText
  rw [names, line_parts G, List.length_map, decide_eq_true G.few, decide_eq_true G.nd, G.so]
  have ha : ((gs.map ltext).all fun p => (entryOf p).isSome) = true := by
    rw [List.all_eq_true]
    intro p hp
    obtain ⟨g, hg, rfl⟩ := List.mem_map.mp hp
    rw [(en g hg).1]
    rfl
  rw [ha]
  rfl
end SQ3
namespace SQ3
open PySem L2 SQ
theorem callR_or {X : Cx} {f : Value} {r1 r2 : List V → Hp → VK → Prop} (h1 : CallR X f r1) (h2 : CallR X f r2) : CallR X f (fun xs H Q => r1 xs H Q ∨ r2 xs H Q) := fun pins s σ H xs us Q I r h => h.elim (h1 pins s σ H xs us Q I r) (h2 pins s σ H xs us Q I r)
theorem passX {X : Cx} : Passes (L2.CX X.prog X.w) X E0 := fun _ _ _ _ _ _ _ ⟨_, _, _, _, _, _, _, _, _, _, _, _, h⟩ => (show False from h).elim
theorem passN {X : Cx} : Passes (L2N.CX X.prog X.w) X E0 := fun _ _ _ _ _ _ _ ⟨_, _, _, _, _, _, _, _, _, _, _, _, h⟩ => (show False from h).elim
def forB : Stmt → List Stmt
  | .For _ _ b _ _ => b
  | _ => []
def nth (l : List Stmt) (i : Nat) : Stmt := l.getD i (.Pass ⟨0, 0, 0, 0⟩)
abbrev rTurn : List Stmt := forB (nth (defBody sRight) 0)
abbrev Xr (P : Program) (w : World) (K : PySem.W.Frag) (mg : Str → Option Value) (base : Heap) (fR c : Addr) (A : Around) (outer : List Env) (s : Shared) (H : Hp) (E : XK) : Cx := (cxOf CX0 P w K mg base nR "_law_right" (defScope sRight) fR (.ref c) A outer s H E).nox
/-- what the law's one turn leans on -/
structure All (P : Program) (w : World) (K : PySem.W.Frag) (mg : Str → Option Value) (base : Heap) (fL fO fH fC fP fT fRd fS fEq fRp fIn CT CI CE fJ C c Pt smp : Addr) (mc : Value) (fdL fdO dH dC dP dT dRd : FuncData) : Prop where
  BL : Blt mg
  B : B2 mg
  B' : B5 mg
  DW : Drw K mg fL fO fdL fdO
  HD : HadD K mg fH dH
  Z : TC K mg CT fJ
  HF : HadF K mg CT CI
  VV : VC K mg C
  T : IC K C
  MK : Mk K C fIn
  CC : CD K mg fC dC
  P3' : P3 K mg fP fT dP dT
  SM : SMet K C mc "read" smp fRd
  SO : StrO K C fS
  CQ : CmpC K C fEq
  RC : RpC K C fRp
  hbK : ∀ (s : Shared) (u : Value), BindsTo s dRd ⟨[], [("text", u)]⟩ [("text", u)]
  GI : FnR P w K mg base (L2N.CX P w) 5 fIn (spInit C CE)
  GRf : FnOk P w K mg base (L2.CX P w) 7 fRd dRd ["text"] (spRd K C CT)
  GR : FnR P w K mg base (L2.CX P w) 7 fRd (spRd K C CT)
  GS : FnR P w K mg base CX0 1 fS (spStr C)
  GE : FnR P w K mg base CX0 1 fEq (spEqV C)
  GP : FnR P w K mg base CX0 1 fRp (spRp C)
  TB : LamX.TabB base mg c Pt
  GL : FnOk P w K mg base CX0 1 fL fdL ["_law_urn_here", "_law_many"] spLot
  GO : FnOk P w K mg base CX0 2 fO fdO ["_law_urn_here", "_law_things"] (spOne K)
  GOS : FnOk P w K mg base CX0 2 fO fdO ["_law_urn_here", "_law_things"] spOneS
  GC : FnOk P w K mg base CX0 3 fC dC ["_law_urn_here", "_law_line"] spChg
  GT : FnOk P w K mg base CX0 2 fT dT ["_law_line"] spText
end SQ3
namespace SQ3
open PySem L2 SQ
def Fresh (H0 : Hp) (D : Addr) : Prop := ∀ o, H0 D = some o → ∃ ps, o = .tbl ps
structure St3 (T : TL) (u : Addr) (H0 H : Hp) : Prop where
  but : ButT u H0 H
  tab : LamX.Tabs T H
  urn : urnAt H u
section
variable {T : TL} {u : Addr} {H0 H H' : Hp}
theorem St3.same (S : St3 T u H0 H) (s : Same H H') : St3 T u H0 H' := ⟨fun b o e n t => s _ _ (S.but b o e n t), S.tab.ext s, urn_same s S.urn⟩
theorem St3.butu (S : St3 T u H0 H) (b : But u H H') (hu : urnAt H' u) : St3 T u H0 H' := ⟨S.but.trans (ButT.of b), tabs_but S.tab S.urn b, hu⟩
theorem St3.ext (S : St3 T u H0 H) (x : LamX.ExtN H H') (t : LamX.Tabs T H') : St3 T u H0 H' := by
  refine ⟨S.but.trans (ButT.ofN x), t, ?_⟩
  obtain ⟨a, b, c, e⟩ := S.urn
  exact ⟨a, b, c, x _ _ e (fun _ z => nomatch z)⟩
theorem St3.put {D : Addr} {xs ys : List V} (S : St3 T u H0 H) (hD : H D = some (.lst xs)) (n0 : Fresh H0 D) (ne : D ≠ u) : St3 T u H0 (upd H D (.lst ys)) := by
  refine ⟨fun b o e n t => ?_, tabs_put S.tab hD, ?_⟩
  · have hb : b ≠ D := fun z => by
      obtain ⟨ps, h⟩ := n0 o (z ▸ e)
      exact t ps h
    rw [upd_ne hb]
    exact S.but b o e n t
  · obtain ⟨a, b, c, e⟩ := S.urn
    exact ⟨a, b, c, by rw [upd_ne (Ne.symm ne)]; exact e⟩
theorem St3.new {D : Addr} (S : St3 T u H0 H) (n : H D = none) : Fresh H0 D := by
  intro o e
  have ne : D ≠ u := (urn_ne S.urn n).symm
  cases o with
  | tbl ps => exact ⟨ps, rfl⟩
  | _ =>
    have := S.but D _ e ne (fun ps z => nomatch z)
    rw [n] at this
    cases this
end
end SQ3
namespace SQ3
open PySem L2 SQ
section
variable {P : Program} {w : World} {K : PySem.W.Frag} {mg : Str → Option Value} {base : Heap} {fR fL fO fH fC fP fT fRd fS fEq fRp fIn CT CI CE fJ C c Pt smp : Addr} {mc : Value} {fdL fdO dH dC dP dT dRd : FuncData} {A : Around} {outer : List Env} {s : Shared} {H : Hp} {E : XK}
variable {T : TL} {u : Addr} {H0 : Hp}
theorem jn_one : ∀ cs : List Nat, jn [] (cs.map fun c => [c]) = cs
  | [] => rfl
  | [c] => rfl
  | c :: d :: cs => by
    have h := jn_one (d :: cs)
    show [c] ++ ([] ++ jn [] ((d :: cs).map fun c => [c])) = _
    rw [h]
    rfl
theorem join_signs (cs : List Nat) : (Txt.join "" (cs.map fun c => (⟨#[c]⟩ : Str))).cps.toList = cs := by
  show (Builtin.Str.glued "" _).cps.toList = cs
  rw [StrLaws.glued_eq_join, tl_join, List.map_map]
  exact jn_one cs
theorem sum_ones (cs : List Nat) : ((cs.map fun c => (⟨#[c]⟩ : Str)).map (·.length)).sum = cs.length := by
  induction cs with
  | nil => rfl
  | cons c cs ih =>
    rw [List.map_cons, List.map_cons, List.sum_cons, ih, List.length_cons]
    show 1 + cs.length = cs.length + 1
    omega
theorem r_1 (a : All P w K mg base fL fO fH fC fP fT fRd fS fEq fRp fIn CT CI CE fJ C c Pt smp mc fdL fdO dH dC dP dT dRd) (hr : Room 9 (Xr P w K mg base fR c A outer s H E).A) : ∃ t, PS (Xr P w K mg base fR c A outer s H E) (nth rTurn 1) t ∧ ∀ (D : Ends) (G : Hp) (d : Addr) (a1 a3 a4 a5 a6 a7 a8 : Option V), St3 T u H0 G → G d = some (.lst []) → Fresh H0 d → d ≠ u →
    (∀ (a3' : Option V) (G' : Hp) (xs : List Str), St3 T u H0 G' → G' d = some (.lst (xs.map V.str)) → xs.length ≤ 8 → (∀ x ∈ xs, Tit x) → D.nx [some (.ref u), a1, some (.ref d), a3', a4, a5, a6, a7, a8, none, none] G') →
    t D [some (.ref u), a1, some (.ref d), a3, a4, a5, a6, a7, a8, none, none] G := by
  refine ⟨_, ps_for PassesOwn.never rfl (pi_range1 (by rfl) a.BL.range (pa_cons (pe_call a.GL (hr.mono (by decide)) rfl a.DW.gL a.DW.FL.kp a.DW.bL .nil pass0 (pa_cons (pv 0) (pa_cons pe_int pa_nil))) pa_nil)) (pg_name (i := 3) scR.nd rfl (.inl rfl))
          (pss_one (ps_expr (pe_bm PySem.F.plainAttrs_list PySem.F.slot_list_append PySem.F.type_list_append mt_append (pv 2) (pa_cons (pe_join pe_str (pe_lc (own := [("_law_k", 9)]) (g := gName 9) (tt := tYes) rfl scR.nd (pi_range1 (by rfl) a.BL.range (pa_cons (pe_op op_add pe_int (pe_call a.GL (hr.mono (by decide)) rfl a.DW.gL a.DW.FL.kp a.DW.bL .nil pass0 (pa_cons (pv 0) (pa_cons pe_int pa_nil)))) pa_nil))
            (blkOk_by (N := nR) (sc := defScope sRight) (by decide +kernel)) (fun _ _ _ _ _ => pg_name (i := 9) scR.nd rfl (.inl rfl)) (fun _ _ _ _ _ => pts_nil) (fun _ _ _ _ _ => pe_call a.GOS (hr.mono (by decide)) rfl a.DW.gO a.DW.FO.kp a.DW.bO .nil pass0 (pa_cons (pv 0) (pa_cons pe_str pa_nil))))) pa_nil)))), fun D G d a1 a3 a4 a5 a6 a7 a8 S hd fd du q => ?_⟩
  refine ⟨_, rfl, u, 9, rfl, S.urn, by decide, by decide, fun G1 m m0 m9 hu1 b1 => ⟨m, rfl, by omega, by omega, ?_⟩⟩
  have S1 := S.butu b1 hu1
  have hd1 : G1 d = some (.lst []) := b1 _ _ hd du
  refine for_range (lo := 0) (n := m.toNat) (fun i σ G2 => ∃ (a3' : Option V) (xs : List Str), σ = [some (.ref u), a1, some (.ref d), a3', a4, a5, a6, a7, a8, none, none] ∧ St3 T u H0 G2 ∧ G2 d = some (.lst (xs.map V.str)) ∧ xs.length = i ∧ ∀ x ∈ xs, Tit x) ⟨a3, [], rfl, S1, hd1, rfl, fun _ z => nomatch z⟩ ?_ ?_
  · rintro i σ G2 hi ⟨a3', xs, rfl, S2, hd2, hl, hx⟩
    show _
    refine ⟨_, rfl, ?_⟩
    have hu2 := S2.urn
    refine ⟨.inl ⟨rfl, _, SqL.of hd2⟩, ⟨_, rfl⟩, ?_⟩
    refine ⟨_, rfl, u, 8, rfl, hu2, by decide, by decide, fun G3 k k0 k8 hu3 b3 => ⟨_, _, rfl, rfl, _, rfl, by omega, by omega, fun D2 hD2 => ?_⟩⟩
    have S3 := S2.butu b3 hu3
    have hd3 : G3 d = some (.lst (xs.map V.str)) := b3 _ _ hd2 du
    have f2 : Fresh H0 D2 := S3.new hD2
    have D2u : D2 ≠ u := (urn_ne hu3 hD2).symm
    have D2d : D2 ≠ d := (ne_of_none hd3 hD2).symm
    have S3' : St3 T u H0 (upd G3 D2 (.lst [])) := S3.same (same_new (fun _ _ e => e) hD2)
    refine lc_range (lo := 0) (n := (1 + k).toNat) (fun j G4 => St3 T u H0 G4 ∧ G4 d = some (.lst (xs.map V.str)) ∧ ∃ cs : List Nat, G4 D2 = some (.lst ((cs.map fun c => (⟨#[c]⟩ : Str)).map V.str)) ∧ cs.length = j ∧ ∀ c ∈ cs, c ∈ abcz) ⟨S3', by rw [upd_ne (Ne.symm D2d)]; exact hd3, [], upd_same, rfl, fun _ z => nomatch z⟩ ?_ ?_
    · rintro j G4 hj ⟨S4, hd4, cs, hD4, lc, hcs⟩
      refine ⟨rfl, keptT ⟨_, rfl, u, "abcz", rfl, S4.urn, by decide, by decide, fun G5 z hz hu5 b5 => ?_⟩⟩
      have S5 := S4.butu b5 hu5
      have hD5 : G5 D2 = some (.lst ((cs.map fun c => (⟨#[c]⟩ : Str)).map V.str)) := b5 _ _ hD4 D2u
      refine ⟨_, hD5, small1000 (by rw [List.length_map, List.length_map]; omega), S5.put hD5 f2 D2u, by rw [upd_ne (Ne.symm D2d)]; exact b5 _ _ hd4 du, cs ++ [z], ?_, by rw [List.length_append, lc]; rfl, fun c hc => ?_⟩
      · rw [upd_same, List.map_append, List.map_append]
        rfl
      · rcases List.mem_append.mp hc with h | h
        · exact hcs c h
        · rw [List.mem_singleton.mp h]
          have e : (("abcz" : Str).cps.toList) = abcz := by decide
          rw [← e]
          exact hz
    · rintro G4 ⟨S4, hd4, cs, hD4, lc, hcs⟩
      refine ⟨_, D2, cs.map fun c => (⟨#[c]⟩ : Str), rfl, rfl, .inl (SqL.of hD4), ?_, ?_⟩
      · rw [sum_ones]
        show cs.length + (cs.map _).length * 0 ≤ _
        omega
      · refine ⟨d, _, _, rfl, rfl, hd4, small1000 (by rw [List.length_map]; omega), ?_⟩
        refine ⟨_, xs ++ [Txt.join "" (cs.map fun c => (⟨#[c]⟩ : Str))], rfl, S4.put hd4 fd du, ?_, ?_, fun x hx' => ?_⟩
        · rw [upd_same, List.map_append]
          rfl
        · rw [List.length_append, hl]
          rfl
        · rcases List.mem_append.mp hx' with h | h
          · exact hx x h
          · rw [List.mem_singleton.mp h]
            have e := join_signs cs
            have el : (Txt.join "" (cs.map fun c => (⟨#[c]⟩ : Str))).length = cs.length := by
              have := congrArg List.length e
              simpa [Str.length] using this
            exact ⟨by rw [el]; omega, by rw [el]; omega, by rw [e]; exact hcs⟩
  · rintro σ G2 ⟨a3', xs, rfl, S2, hd2, hl, hx⟩
    exact q a3' G2 xs S2 hd2 (by omega) hx
end
end SQ3
namespace SQ3
open PySem L2 SQ
section
variable {P : Program} {w : World} {K : PySem.W.Frag} {mg : Str → Option Value} {base : Heap} {fR fL fO fH fC fP fT fRd fS fEq fRp fIn CT CI CE fJ C c Pt smp : Addr} {mc : Value} {fdL fdO dH dC dP dT dRd : FuncData} {A : Around} {outer : List Env} {s : Shared} {H : Hp} {E : XK}
variable {T : TL} {u : Addr} {H0 : Hp}
theorem r_2 (a : All P w K mg base fL fO fH fC fP fT fRd fS fEq fRp fIn CT CI CE fJ C c Pt smp mc fdL fdO dH dC dP dT dRd) (hr : Room 9 (Xr P w K mg base fR c A outer s H E).A) : ∃ t, PS (Xr P w K mg base fR c A outer s H E) (nth rTurn 2) t ∧ ∀ (D : Ends) (G : Hp) (d : Addr) (xs : List Str) (a1 a3 a4 a5 a6 a7 a8 : Option V), St3 T u H0 G → G d = some (.lst (xs.map V.str)) → xs.length ≤ 8 →
    (∀ (G' : Hp) (l : Addr) (ys : List Str), St3 T u H0 G' → G' l = some (.lst (ys.map V.str)) → ys.Perm (uniq xs) → PyProof.Rows.sortedS ys = true → D.nx [some (.ref u), a1, some (.ref d), a3, some (.ref l), a5, a6, a7, a8, none, none] G') →
    t D [some (.ref u), a1, some (.ref d), a3, a4, a5, a6, a7, a8, none, none] G := by
  refine ⟨_, ps_set (i := 4) scR.nd rfl (.inl rfl) (pe_callB (cr_sortS rfl) (by rfl) a.B'.sorted (by decide +kernel) (pa_cons (pe_callTy (cr_setS rfl) (by rfl) a.B'.set (by decide +kernel) (pa_cons (pv 2) pa_nil)) pa_nil)), fun D G d xs a1 a3 a4 a5 a6 a7 a8 S hd hl q => ?_⟩
  refine ⟨_, rfl, d, xs, rfl, SqL.of hd, by omega, fun p np => ⟨p, uniq xs, rfl, upd_same, ?_, fun ys l hp hs nl => ?_⟩⟩
  · have := uniq_len xs
    omega
  · have s1 : Same G (upd G p (SetSO P w p (uniq xs))) := same_new (fun _ _ e => e) np
    exact q _ l ys ((S.same s1).same (same_new (fun _ _ e => e) nl)) upd_same hp hs
end
end SQ3
namespace SQ3
open PySem L2 SQ
section
variable {P : Program} {w : World} {K : PySem.W.Frag} {mg : Str → Option Value} {base : Heap} {fR fL fO fH fC fP fT fRd fS fEq fRp fIn CT CI CE fJ C c Pt smp : Addr} {mc : Value} {fdL fdO dH dC dP dT dRd : FuncData} {A : Around} {outer : List Env} {s : Shared} {H : Hp} {E : XK}
variable {T : TL} {u : Addr} {H0 : Hp}
theorem r_3 (a : All P w K mg base fL fO fH fC fP fT fRd fS fEq fRp fIn CT CI CE fJ C c Pt smp mc fdL fdO dH dC dP dT dRd) (hr : Room 9 (Xr P w K mg base fR c A outer s H E).A) : ∃ t, PS (Xr P w K mg base fR c A outer s H E) (nth rTurn 3) t ∧ ∀ (D : Ends) (G : Hp) (l : Addr) (ys : List Str) (a1 a2 a3 a5 a6 a7 a8 : Option V), St3 T u H0 G → G l = some (.lst (ys.map V.str)) → (∀ y ∈ ys, Tit y) → ys.Nodup → PyProof.Rows.sortedS ys = true → ys.length ≤ 8 →
    (∀ (G' : Hp) (gs : List G3), St3 T u H0 G' → GoodG gs → D.nx [some (.ref u), a1, a2, a3, some (.ref l), some (.str (lineOf gs)), a6, a7, a8, none, none] G') →
    t D [some (.ref u), a1, a2, a3, some (.ref l), a5, a6, a7, a8, none, none] G := by
  refine ⟨_, ps_set (i := 5) scR.nd rfl (.inl rfl) (pe_join pe_str (pe_lc (own := [("_law_title", 10)]) (g := gName 10) (tt := tYes) rfl scR.nd (pi_list (pv 4)) (blkOk_by (N := nR) (sc := defScope sRight) (by decide +kernel)) (fun _ _ _ _ _ => pg_name (i := 10) scR.nd rfl (.inl rfl)) (fun _ _ _ _ _ => pts_nil)
          (fun _ _ _ _ _ => pe_op op_add_str (pe_op op_add_str (pe_op op_add_str (pe_op op_add_str (pv 10) pe_str) (pe_callTy call_str_int (by rfl) a.B.str (by decide +kernel) (pa_cons (pe_call a.GL (hr.mono (by decide)) rfl a.DW.gL a.DW.FL.kp a.DW.bL .nil pass0 (pa_cons (pv 0) (pa_cons pe_int pa_nil))) pa_nil))) pe_str)
            (pe_callTy call_str_int (by rfl) a.B.str (by decide +kernel) (pa_cons (pe_call a.GL (hr.mono (by decide)) rfl a.DW.gL a.DW.FL.kp a.DW.bL .nil pass0 (pa_cons (pv 0) (pa_cons pe_int pa_nil))) pa_nil))))), fun D G l ys a1 a2 a3 a5 a6 a7 a8 S hl ht nd so h8 q => ?_⟩
  have lu : l ≠ u := by
    obtain ⟨x, y, z, e⟩ := S.urn
    intro e2
    subst e2
    rw [hl] at e
    have e3 := HO.lst.inj (Option.some.inj e)
    cases ys with
    | nil => cases e3
    | cons y ys => cases e3
  refine ⟨⟨_, rfl⟩, _, rfl, ⟨l, rfl, ⟨_, SqL.of hl⟩, fun D2 hD2 => ?_⟩⟩
  have f2 : Fresh H0 D2 := S.new hD2
  have D2u : D2 ≠ u := (urn_ne S.urn hD2).symm
  have D2l : D2 ≠ l := (ne_of_none hl hD2).symm
  refine lc_list (K := K) (a := l) (xs := ys.map V.str) (fun i G2 => St3 T u H0 G2 ∧ G2 l = some (.lst (ys.map V.str)) ∧ ∃ gs : List G3, G2 D2 = some (.lst ((gs.map ltext).map V.str)) ∧ gnames gs = ys.take i ∧ ∀ g ∈ gs, (0 ≤ g.2.1 ∧ g.2.1 ≤ 3) ∧ 0 ≤ g.2.2 ∧ g.2.2 ≤ 3)
    ⟨S.same (same_new (fun _ _ e => e) hD2), by rw [upd_ne (Ne.symm D2l)]; exact hl, [], upd_same, rfl, fun _ z => nomatch z⟩ (fun i G2 _ h => SqL.of h.2.1) ?_ ?_
  · rintro i v G2 hi ⟨S2, hl2, gs, hD, hn, har⟩
    rw [List.getElem?_map] at hi
    cases hg : ys[i]? with
    | none =>
      rw [hg] at hi
      cases hi
    | some y =>
      rw [hg] at hi
      cases hi
      have ty := ht y (List.mem_of_getElem? hg)
      have t8 := ty.hi
      have l1 : (" " : Str).length = 1 := rfl
      have line : ∀ {n : Nat}, n ≤ 1000 → n ≤ sizeLine := fun h => Nat.le_of_lt (small1000 h)
      refine ⟨rfl, keptT ⟨_, rfl, _, _, rfl, rfl, line (by rw [l1]; omega), _, rfl, u, 4, rfl, S2.urn, by decide, by decide, fun G3' m m0 m4 hu3 b3 => ?_⟩⟩
      have S3 := S2.butu b3 hu3
      have lm := len_num m0 (by omega : m ≤ 3)
      refine ⟨m, rfl, small_log m0 (by omega), _, _, rfl, rfl, line (by rw [len_app, l1, lm]; omega), _, _, rfl, rfl, line (by rw [len_app, len_app, l1, lm]; omega), _, rfl, u, 4, rfl, S3.urn, by decide, by decide, fun G4 n n0 n4 hu4 b4 => ?_⟩
      have S4 := S3.butu b4 hu4
      have ln := len_num n0 (by omega : n ≤ 3)
      refine ⟨n, rfl, small_log n0 (by omega), _, _, rfl, rfl, line (by rw [len_app, len_app, len_app, l1, lm, ln]; omega), ?_⟩
      have hD4 : G4 D2 = some (.lst ((gs.map ltext).map V.str)) := b4 _ _ (b3 _ _ hD D2u) D2u
      refine ⟨_, hD4, small1000 ?_, S4.put hD4 f2 D2u, by rw [upd_ne (Ne.symm D2l)]; exact b4 _ _ (b3 _ _ hl2 lu) lu, gs ++ [(y, m, n)], ?_, ?_, fun g hg' => ?_⟩
      · have e := congrArg List.length hn
        unfold gnames at e
        rw [List.length_map, List.length_take] at e
        rw [List.length_map, List.length_map]
        omega
      · rw [upd_same, List.map_append, List.map_append]
        rfl
      · rw [take_more hg, ← hn]
        unfold gnames
        rw [List.map_append]
        rfl
      · rcases List.mem_append.mp hg' with h | h
        · exact har g h
        · rw [List.mem_singleton.mp h]
          exact ⟨⟨m0, by show m ≤ 3; omega⟩, n0, by show n ≤ 3; omega⟩
  · rintro G2 ⟨S2, hl2, gs, hD, hn, har⟩
    rw [List.length_map, List.take_length] at hn
    have few : gs.length ≤ 8 := by
      have e := congrArg List.length hn
      unfold gnames at e
      rw [List.length_map] at e
      omega
    have GG : GoodG gs := ⟨fun g hg => ht g.1 (by rw [← hn]; exact List.mem_map.mpr ⟨g, hg, rfl⟩), har, by rw [hn]; exact nd, by rw [hn]; exact so, few⟩
    refine ⟨_, D2, gs.map ltext, rfl, rfl, .inl (SqL.of hD), ?_, ?_⟩
    · have h2 : ((gs.map ltext).map (·.length)).sum ≤ ((gs.map ltext).map (·.length)).length * 12 := sums_le fun x hx => by
        obtain ⟨y, hy, rfl⟩ := List.mem_map.mp hx
        obtain ⟨g, hg, rfl⟩ := List.mem_map.mp hy
        exact ltext_len (GG.tit g hg) (GG.ar g hg)
      rw [List.length_map, List.length_map] at h2
      rw [List.length_map]
      have h3 : (", " : Str).length = 2 := rfl
      rw [h3]
      omega
    · have e : Txt.join ", " (gs.map ltext) = lineOf gs := by
        show Builtin.Str.glued ", " _ = _
        rw [StrLaws.glued_eq_join]
        rfl
      have q' := q G2 gs S2 GG
      rw [← e] at q'
      exact q'
end
end SQ3
namespace SQ3
open PySem L2 SQ
section
variable {P : Program} {w : World} {K : PySem.W.Frag} {mg : Str → Option Value} {base : Heap} {fR fL fO fH fC fP fT fRd fS fEq fRp fIn CT CI CE fJ C c Pt smp : Addr} {mc : Value} {fdL fdO dH dC dP dT dRd : FuncData} {A : Around} {outer : List Env} {s : Shared} {H : Hp} {E : XK}
variable {T : TL} {u : Addr} {H0 : Hp}
theorem r_4 (a : All P w K mg base fL fO fH fC fP fT fRd fS fEq fRp fIn CT CI CE fJ C c Pt smp mc fdL fdO dH dC dP dT dRd) (hr : Room 9 (Xr P w K mg base fR c A outer s H E).A) : ∃ t, PS (Xr P w K mg base fR c A outer s H E) (nth rTurn 4) t ∧ ∀ (D : Ends) (G : Hp) (x : Str) (a1 a2 a3 a4 a6 a7 a8 : Option V), St3 T u H0 G → goodText x = true → x.length ≤ 1000 →
    (∀ (G' : Hp), St3 T u H0 G' → D.nx [some (.ref u), a1, a2, a3, a4, some (.str x), a6, a7, a8, none, none] G') →
    t D [some (.ref u), a1, a2, a3, a4, some (.str x), a6, a7, a8, none, none] G := by
  refine ⟨_, ps_if (PW.pt (pw_or (pt_cmpR op_ne (pe_callTy (cr_strOwn a.GS (hr.mono (by decide)) a.SO.f a.SO.fn) (by rfl) a.B.str (by decide +kernel) (pa_cons (pe_smeth (pe_glob (v := .ref C) rfl a.VV.g rfl) a.SM a.GR (hr.mono (by decide)) passX (pa_cons (pv 5) pa_nil)) pa_nil)) (pv 5) (nomark _))
            (pw_or1 (pt_cmpR (op_neOwn a.GE (hr.mono (by decide)) a.CQ) (pe_smethK (pe_glob (v := .ref C) rfl a.VV.g rfl) a.SM a.GRf (hr.mono (by decide)) a.hbK passX (pv 5)) (pe_smeth (pe_glob (v := .ref C) rfl a.VV.g rfl) a.SM a.GR (hr.mono (by decide)) passX (pa_cons (pv 5) pa_nil)) (nomark _)))))
          (pss_one (ps_ret pe_bl)) pss_nil, fun D G x a1 a2 a3 a4 a6 a7 a8 S hg hx q => ?_⟩
  have no : goodText x = false → False := fun z => by
    rw [hg] at z
    cases z
  refine ⟨rfl, _, rfl, .str x, rfl, .inr ⟨x, rfl, hx, fun _ o dx dA tN G1 s1 ho => ?_, fun z => (no z).elim⟩⟩
  refine ⟨o, dx, _, rfl, ho, o, dx, dA, tN, x, rfl, ho, x, rfl, _, rfl, rfl, _, rfl, iteNS rfl ?_⟩
  refine ⟨rfl, _, rfl, _, rfl, .str x, rfl, .inr ⟨x, rfl, hx, fun _ o2 dx2 dA2 tN2 G2 s2 ho2 => ?_, fun z => (no z).elim⟩⟩
  refine ⟨rfl, _, rfl, .str x, rfl, .inr ⟨x, rfl, hx, fun _ o3 dx3 dA3 tN3 G3 s3 ho3 => ?_, fun z => (no z).elim⟩⟩
  refine ⟨o2, o3, dx2, dx3, _, _, rfl, rfl, s3 _ _ ho2, ho3, o2, o3, dx2, dx3, dA2, dA3, tN2, tN3, x, x, rfl, s3 _ _ ho2, ho3, _, rfl, _, rfl, ?_⟩
  rw [decide_eq_true rfl]
  exact iteF (q G3 (((S.same s1).same s2).same s3))
end
end SQ3
namespace SQ3
open PySem L2 SQ
section
variable {P : Program} {w : World} {K : PySem.W.Frag} {mg : Str → Option Value} {base : Heap} {fR fL fO fH fC fP fT fRd fS fEq fRp fIn CT CI CE fJ C c Pt smp : Addr} {mc : Value} {fdL fdO dH dC dP dT dRd : FuncData} {A : Around} {outer : List Env} {s : Shared} {H : Hp} {E : XK}
variable {u : Addr} {H0 : Hp}
theorem ne_same {d : PyData} (h : PyData.eqv d d = true) : (!PyData.eqv d d) = false := by
  rw [h]
  rfl
theorem r_5 (a : All P w K mg base fL fO fH fC fP fT fRd fS fEq fRp fIn CT CI CE fJ C c Pt smp mc fdL fdO dH dC dP dT dRd) (hr : Room 9 (Xr P w K mg base fR c A outer s H E).A) : ∃ t, PS (Xr P w K mg base fR c A outer s H E) (nth rTurn 5) t ∧ ∀ (D : Ends) (G : Hp) (x : Str) (a1 a2 a3 a4 a6 a7 a8 : Option V), St3 [(Pt, lamN)] u H0 G → okS x → x.length ≤ 200 →
    (∀ (a3' a6' a7' : Option V) (G' : Hp), St3 [(Pt, lamN)] u H0 G' → D.nx [some (.ref u), a1, a2, a3', a4, some (.str x), a6', a7', a8, none, none] G') →
    t D [some (.ref u), a1, a2, a3, a4, some (.str x), a6, a7, a8, none, none] G := by
  have hmT : (Pt, lamN) ∈ [(Pt, lamN)] := List.mem_singleton.mpr rfl
  have huT : ∀ p ∈ [(Pt, lamN)], p.1 = Pt → p.2 = lamN := fun p hp _ => by
    rw [List.mem_singleton.mp hp]
  have h3 : PS (Xr P w K mg base fR c A outer s H E) (nth (forB (nth rTurn 5)) 2) _ := ps_if (pt_cmpR (op_neD hr.units) (pe_had a.HD a.B a.Z a.HF a.TB rfl hmT huT hr (LamX.lamS_by (sc := defScope sRight) (by decide +kernel)) rfl (fun _ _ _ _ _ => rfl)
              (fun A outer s H E f c' hr => pe_callTy (cr_strOwn a.GS (hr.mono (by decide)) a.SO.f a.SO.fn) (by rfl) a.B.str (by decide +kernel) (pa_cons (pe_smeth (pe_glob (v := .ref C) rfl a.VV.g rfl) a.SM a.GR hr (passes_call (takes_of rfl rfl rfl rfl) (fun _ _ _ _ h => h)) (pa_cons (pv 6) pa_nil)) pa_nil))) (pv 7) (nomark _))
            (pss_one (ps_ret pe_bl)) pss_nil
  refine ⟨_, ps_for PassesOwn.never rfl (pi_range1 (by rfl) a.BL.range (pa_cons pe_int pa_nil)) (pg_name (i := 3) scR.nd rfl (.inl rfl))
          (pss_cons (ps_set (i := 6) scR.nd rfl (.inr rfl) (pe_call a.GC (hr.mono (by decide)) rfl a.CC.g a.CC.F.kp a.CC.b .nil pass0 (pa_cons (pv 0) (pa_cons (pv 5) pa_nil))))
          (pss_cons (ps_set (i := 7) scR.nd rfl (.inl rfl) (pe_ifExp (pt_val (pe_call a.GT (hr.mono (by decide)) rfl a.P3'.gT a.P3'.FT.kp a.P3'.bT .nil pass0 (pa_cons (pv 6) pa_nil))) (pe_lst (pa_cons pe_str (pa_cons (pv 6) pa_nil))) (pe_lst (pa_cons pe_str (pa_cons (pv 6) (pa_cons pe_bl pa_nil))))))
          (pss_one h3))), fun D G x a1 a2 a3 a4 a6 a7 a8 S ok hx q => ?_⟩
  refine ⟨_, rfl, by decide, by decide, ?_⟩
  refine for_range (lo := 0) (n := 7) (fun i σ G2 => ∃ (a3' a6' a7' : Option V), σ = [some (.ref u), a1, a2, a3', a4, some (.str x), a6', a7', a8, none, none] ∧ St3 [(Pt, lamN)] u H0 G2) ⟨a3, a6, a7, rfl, S⟩ ?_ ?_
  · rintro i σ G2 hi ⟨a3', a6', a7', rfl, S2⟩
    refine rd_set ?_
    refine ⟨_, rfl, _, rfl, u, x, rfl, S2.urn, hx, ok, fun G3 z oz lz hu3 b3 => ?_⟩
    have S3 := S2.butu b3 hu3
    refine rd_set ?_
    refine ⟨_, rfl, z, rfl, lz, fun G4 s4 => ⟨_, rfl, ?_⟩⟩
    have S4 := S3.same s4
    cases hg : goodText z with
    | true =>
      refine iteT ⟨_, rfl, (by show 2 ≤ sizeLine; decide), fun p np => ?_⟩
      have s5 : Same G4 (upd G4 p (.lst [.str "given", .str z])) := same_new (fun _ _ e => e) np
      have h5 : upd G4 p (.lst [.str "given", .str z]) p = some (.lst [.str "given", .str z]) := upd_same
      generalize upd G4 p (.lst [.str "given", .str z]) = G5 at s5 h5 ⊢
      have S5 := S4.same s5
      refine ⟨S5.tab, fun G6 x6 t6 => ?_⟩
      have S6 := S5.ext x6 t6
      refine ⟨rfl, _, rfl, .str z, rfl, .inr ⟨z, rfl, lz, fun _ o dx dA tN G7 s7 ho => ?_, fun hb => ?_⟩⟩
      · refine ⟨o, dx, _, rfl, ho, o, dx, dA, tN, z, rfl, ho, z, rfl, fun p8 n8 => ?_⟩
        have s8 : Same G7 (upd G7 p8 (.lst [.str "given", .str z])) := same_new (fun _ _ e => e) n8
        have hsh : SeqAt.shaped (.list (([("given" : Str), z]).map PyData.str)) = true := shaped_strs fun y hy => by
          rcases List.mem_cons.mp hy with rfl | hy
          · unfold okS
            decide +kernel
          · rw [List.mem_singleton.mp hy]
            exact oz
        have heq : PyData.eqv (.list (([("given" : Str), z]).map PyData.str)) (.list (([("given" : Str), z]).map PyData.str)) = true := by
          simp only [PyData.eqv]
          rw [eqv_strs, decide_eq_true rfl]
        refine ⟨_, rfl, _, _, .lst (SqL.of upd_same) (dp_strs [("given" : Str), z]), .lst (SqL.of (s8 _ _ (s7 _ _ (x6 _ _ h5 (fun _ z => nomatch z))))) (dp_strs [("given" : Str), z]), hsh, hsh, _, rfl, ?_⟩
        rw [ne_same heq]
        exact iteF ⟨_, _, _, rfl, (S6.same s7).same s8⟩
      · rw [hg] at hb
        cases hb
    | false =>
      refine iteF ⟨_, rfl, (by show 3 ≤ sizeLine; decide), fun p np => ?_⟩
      have s5 : Same G4 (upd G4 p (.lst [.str "InvalidText", .str z, .bl true])) := same_new (fun _ _ e => e) np
      have h5 : upd G4 p (.lst [.str "InvalidText", .str z, .bl true]) p = some (.lst [.str "InvalidText", .str z, .bl true]) := upd_same
      generalize upd G4 p (.lst [.str "InvalidText", .str z, .bl true]) = G5 at s5 h5 ⊢
      have S5 := S4.same s5
      refine ⟨S5.tab, fun G6 x6 t6 => ?_⟩
      have S6 := S5.ext x6 t6
      refine ⟨rfl, _, rfl, .str z, rfl, .inr ⟨z, rfl, lz, fun hb => ?_, fun _ dd G7 s7 hd => ⟨dd, .str z, rfl, rfl, hd, fun p8 n8 => ?_⟩⟩⟩
      · rw [hg] at hb
        cases hb
      · have s8 : Same G7 (upd G7 p8 (.lst [.str "InvalidText", .str z, .bl true])) := same_new (fun _ _ e => e) n8
        have dpz : ∀ G : Hp, DpAll K G [.str "InvalidText", .str z, .bl true] [.str "InvalidText", .str z, .bool true] := fun G => .cons (.str _) (.cons (.str _) (.cons (.bl true) .nil))
        have hsh : SeqAt.shaped (.list [.str "InvalidText", .str z, .bool true]) = true := by
          unfold SeqAt.shaped
          simp only [PyData.canLay0, PyData.canLayAll0, PyData.depth, PyData.depthAll, strOk_of oz]
          have e1 : PyData.strOk ("InvalidText" : Str) = true := by decide +kernel
          rw [e1]
          rfl
        have heq : PyData.eqv (.list [.str "InvalidText", .str z, .bool true]) (.list [.str "InvalidText", .str z, .bool true]) = true := by
          simp [PyData.eqv, PyData.eqvAll]
        refine ⟨_, rfl, _, _, .lst (SqL.of upd_same) (dpz _), .lst (SqL.of (s8 _ _ (s7 _ _ (x6 _ _ h5 (fun _ z => nomatch z))))) (dpz _), hsh, hsh, _, rfl, ?_⟩
        rw [ne_same heq]
        exact iteF ⟨_, _, _, rfl, (S6.same s7).same s8⟩
  · rintro σ G2 ⟨a3', a6', a7', rfl, S2⟩
    exact q a3' a6' a7' G2 S2
end
end SQ3
namespace SQ3
open PySem L2 SQ
section
variable {P : Program} {w : World} {K : PySem.W.Frag} {mg : Str → Option Value} {base : Heap} {fR fL fO fH fC fP fT fRd fS fEq fRp fIn CT CI CE fJ C c Pt smp : Addr} {mc : Value} {fdL fdO dH dC dP dT dRd : FuncData} {A : Around} {outer : List Env} {s : Shared} {H : Hp} {E : XK}
variable {T : TL} {u : Addr} {H0 : Hp}
/-- what is no text of a vocabulary -/
inductive Odd (K : PySem.W.Frag) (C : Addr) (x : Str) (G : Hp) : V → Prop
  | non : Odd K C x G .non
  | int : Odd K C x G (.int 5)
  | tup {p : Addr} (h : G p = some (.tup [.str "t", .int 1, .int 1])) : Odd K C x G (.ref p)
  | lst {p : Addr} (h : G p = some (.lst [.str x])) : Odd K C x G (.ref p)
  | bl : Odd K C x G (.bl true)
  | str {z : Str} (h : z ∈ [(" " : Str), ",", "t 1", "t 1 1,"]) : Odd K C x G (.str z)
  | dic {p : Addr} (h : G p = some (.dK [])) : Odd K C x G (.ref p)
  | ins {o dx dA tN : Addr} (h : G o = some (.ins C dx (flds dA tN ""))) : Odd K C x G (.ref o)
theorem Odd.but {u p : Addr} {G G' : Hp} {x : Str} {v : V} (hu : urnAt G u) (b : But u G G') (o : Odd K C x G v) : Odd K C x G' v := by
  obtain ⟨e1, e2, e3, eu⟩ := hu
  cases o with
  | non => exact .non
  | int => exact .int
  | tup h => exact .tup (b _ _ h (ne_of h eu (by intro z; cases z)))
  | lst h => exact .lst (b _ _ h (ne_of h eu (by intro z; cases z)))
  | bl => exact .bl
  | str h => exact .str h
  | dic h => exact .dic (b _ _ h (ne_of h eu (by intro z; cases z)))
  | ins h => exact .ins (b _ _ h (ne_of h eu (by intro z; cases z)))
theorem Odd.same {G G' : Hp} {x : Str} {v : V} (s : Same G G') (o : Odd K C x G v) : Odd K C x G' v := by
  cases o with
  | non => exact .non
  | int => exact .int
  | tup h => exact .tup (s _ _ h)
  | lst h => exact .lst (s _ _ h)
  | bl => exact .bl
  | str h => exact .str h
  | dic h => exact .dic (s _ _ h)
  | ins h => exact .ins (s _ _ h)
theorem Odd.ext {G G' : Hp} {x : Str} {v : V} (s : LamX.ExtN G G') (o : Odd K C x G v) : Odd K C x G' v := by
  cases o with
  | non => exact .non
  | int => exact .int
  | tup h => exact .tup (s _ _ h (fun _ z => nomatch z))
  | lst h => exact .lst (s _ _ h (fun _ z => nomatch z))
  | bl => exact .bl
  | str h => exact .str h
  | dic h => exact .dic (s _ _ h (fun _ z => nomatch z))
  | ins h => exact .ins (s _ _ h (fun _ z => nomatch z))
theorem r_6 (a : All P w K mg base fL fO fH fC fP fT fRd fS fEq fRp fIn CT CI CE fJ C c Pt smp mc fdL fdO dH dC dP dT dRd) (hr : Room 9 (Xr P w K mg base fR c A outer s H E).A) : ∃ t, PS (Xr P w K mg base fR c A outer s H E) (nth (defBody sRight) 1) t ∧ ∀ (D : Ends) (G : Hp) (x : Str) (a1 a2 a3 a4 a6 a7 a8 : Option V), St3 T u H0 G →
    (∀ (v : V) (G' : Hp), St3 T u H0 G' → Odd K C x G' v → D.nx [some (.ref u), a1, a2, a3, a4, some (.str x), a6, a7, some v, none, none] G') →
    t D [some (.ref u), a1, a2, a3, a4, some (.str x), a6, a7, a8, none, none] G := by
  refine ⟨_, ps_set (i := 8) scR.nd rfl (.inr rfl) (pe_call a.GO (hr.mono (by decide)) rfl a.DW.gO a.DW.FO.kp a.DW.bO .nil pass0 (pa_cons (pv 0) (pa_cons (pe_lst (pa_cons pe_non (pa_cons pe_int (pa_cons (pe_tup (pa_cons pe_str (pa_cons pe_int (pa_cons pe_int pa_nil)))) (pa_cons (pe_lst (pa_cons (pv 5) pa_nil)) (pa_cons pe_bl (pa_cons pe_str (pa_cons pe_str (pa_cons pe_str (pa_cons pe_str (pa_cons pe_dnewK (pa_cons (pe_make0R a.MK a.GI (hr.mono (by decide)) rfl a.VV.g passN) pa_nil)))))))))))) pa_nil))), fun D G x a1 a2 a3 a4 a6 a7 a8 S q => ?_⟩
  refine ⟨_, rfl, (by show 3 ≤ sizeLine; decide), fun p1 n1 => ⟨_, rfl, (by show 1 ≤ sizeLine; decide), fun p2 n2 => fun p3 n3 => ?_⟩⟩
  have s1 : Same G (upd G p1 (.tup [.str "t", .int 1, .int 1])) := same_new (fun _ _ e => e) n1
  have h1 : upd G p1 (.tup [.str "t", .int 1, .int 1]) p1 = some (.tup [.str "t", .int 1, .int 1]) := upd_same
  generalize upd G p1 (.tup [.str "t", .int 1, .int 1]) = G1 at s1 h1 n2 n3 ⊢
  have s2 : Same G1 (upd G1 p2 (.lst [.str x])) := same_new (fun _ _ e => e) n2
  have h2 : upd G1 p2 (.lst [.str x]) p2 = some (.lst [.str x]) := upd_same
  generalize upd G1 p2 (.lst [.str x]) = G2 at s2 h2 n3 ⊢
  have s3 : Same G2 (upd G2 p3 (.dK [])) := same_new (fun _ _ e => e) n3
  have h3 : upd G2 p3 (.dK []) p3 = some (.dK []) := upd_same
  generalize upd G2 p3 (.dK []) = G3 at s3 h3 ⊢
  intro o dx no ndx ne
  refine init_any (os := []) no ndx ne .nil (Nat.zero_le _) (fun idx z => nomatch z) fun _ gs eg G4 ys dx' dA tN hp hs s4 ho => ?_
  have egs : gs = [] := by
    cases gs with
    | nil => rfl
    | cons g gs => cases eg
  subst egs
  have eys : ys = [] := List.Perm.eq_nil hp
  subst eys
  have ho' : G4 o = some (.ins C dx' (flds dA tN "")) := ho
  refine ⟨(by show 11 ≤ sizeLine; decide), fun p5 n5 => ?_⟩
  have s5 := fun xs => same_new (o := .lst xs) (fun _ _ e => e : Same G4 G4) n5
  have S4 : St3 T u H0 G4 := (((S.same s1).same s2).same s3).same s4
  have S5 := S4.same (s5 [.non, .int 5, .ref p1, .ref p2, .bl true, .str " ", .str ",", .str "t 1", .str "t 1 1,", .ref p3, .ref o])
  refine ⟨u, p5, _, rfl, S5.urn, urn_ne S4.urn n5, upd_same, (by show 0 < 11; decide), (by show 11 ≤ 1000; decide), fun G6 i v ev hu6 b6 => ?_⟩
  refine q v G6 (S5.butu b6 hu6) ?_
  have hm := List.mem_of_getElem? ev
  refine Odd.but (p := p5) S5.urn b6 ?_
  refine Odd.same (s5 _) ?_
  simp only [List.mem_cons, List.not_mem_nil, or_false] at hm
  rcases hm with rfl | rfl | rfl | rfl | rfl | rfl | rfl | rfl | rfl | rfl | rfl
  · exact .non
  · exact .int
  · exact .tup (s4 _ _ (s3 _ _ (s2 _ _ h1)))
  · exact .lst (s4 _ _ (s3 _ _ h2))
  · exact .bl
  · exact .str (by simp)
  · exact .str (by simp)
  · exact .str (by simp)
  · exact .str (by simp)
  · exact .dic (s4 _ _ h3)
  · exact .ins ho'
end
end SQ3
namespace SQ3
open PySem L2 SQ
section
variable {P : Program} {w : World} {K : PySem.W.Frag} {mg : Str → Option Value} {base : Heap} {fR fL fO fH fC fP fT fRd fS fEq fRp fIn CT CI CE fJ C c Pt smp : Addr} {mc : Value} {fdL fdO dH dC dP dT dRd : FuncData} {A : Around} {outer : List Env} {s : Shared} {H : Hp} {E : XK}
variable {u : Addr} {H0 : Hp}
theorem lt_one (t : Str) : (listText [t]).length = t.length + 2 := by
  show (textFrom 0 "[" [t] ++ "]").length = _
  show (("[" : Str) ++ (if (0 : Nat) > 0 then ", " else "" : String) ++ t ++ ("]" : Str)).length = _
  rw [len_app, len_app, len_app]
  show 1 + 0 + t.length + 1 = _
  omega
theorem lt_three (t1 t2 t3 : Str) : (listText [t1, t2, t3]).length = t1.length + t2.length + t3.length + 6 := by
  show (("[" : Str) ++ (if (0 : Nat) > 0 then ", " else "" : String) ++ t1 ++ (if (1 : Nat) > 0 then ", " else "" : String) ++ t2 ++ (if (2 : Nat) > 0 then ", " else "" : String) ++ t3 ++ ("]" : Str)).length = _
  simp only [len_app]
  show 1 + 0 + t1.length + 2 + t2.length + 2 + t3.length + 1 = _
  omega
theorem bad_strs : ∀ z ∈ [(" " : Str), ",", "t 1", "t 1 1,"], goodText z = false ∧ z.length ≤ 1000 := by decide +kernel
theorem read_odd {G : Hp} {x : Str} {v : V} {Q : VK} {E : XK} (T : IC K C) (o : Odd K C x G v) (h : ∀ d G', Same G G' → G' d = some (.xd [("value", v)]) → E (.ref CT) (some d) G') : spRd K C CT [v] G Q E := by
  refine ⟨v, rfl, ?_⟩
  cases o with
  | non => exact .inl ⟨_, .base .non, kit_ty (by decide +kernel), h⟩
  | int => exact .inl ⟨_, .base (.int 5), kit_ty (by decide +kernel), h⟩
  | tup e => exact .inl ⟨_, .base (.tup e), kit_ty (by decide +kernel), h⟩
  | lst e => exact .inl ⟨_, .base (.lst e), kit_ty (by decide +kernel), h⟩
  | bl => exact .inl ⟨_, .base (.bl true), kit_ty (by decide +kernel), h⟩
  | dic e => exact .inl ⟨_, .base (.dK e), kit_ty (by decide +kernel), h⟩
  | ins e => exact .inl ⟨_, T.ty e, T.str, h⟩
  | @str z hz =>
    obtain ⟨hb, hl⟩ := bad_strs z hz
    exact .inr ⟨z, rfl, hl, ⟨fun hg => (by rw [hb] at hg; cases hg), fun _ => h⟩⟩
theorem repr_two {G : Hp} {x : Str} {v : V} (ok : okS x) (hx : x.length ≤ 200) (o : Odd K C x G v) : ∃ text, ∀ (G1 : Hp) (p : Addr), Same G G1 → G1 p = some (.lst [.str "InvalidText", v, .bl true]) → ∀ Q : VK, (∀ G', Same G1 G' → Q (.str text) G') → (rReprL K [.ref p] G1 Q ∨ rRepr3 C (spRp C) [.ref p] G1 Q) := by
  have sm : ∀ {d : PyData}, (PyData.list [.str "InvalidText", d, .bool true]).shown.length ≤ 5000 → (PyData.list [.str "InvalidText", d, .bool true]).shown.length ≤ sizeLine := fun h => Nat.le_trans h (by decide)
  cases o with
  | non => exact ⟨_, fun G1 p s hp Q q => .inl ⟨p, _, [.str "InvalidText", .none, .bool true], rfl, SqL.of hp, .inl (.cons (.str _) (.cons .non (.cons (.bl true) .nil))), by decide +kernel, by decide +kernel, sm (by decide +kernel), q G1 (same_refl _)⟩⟩
  | int => exact ⟨_, fun G1 p s hp Q q => .inl ⟨p, _, [.str "InvalidText", .int 5, .bool true], rfl, SqL.of hp, .inl (.cons (.str _) (.cons (.int 5) (.cons (.bl true) .nil))), by decide +kernel, by decide +kernel, sm (by decide +kernel), q G1 (same_refl _)⟩⟩
  | bl => exact ⟨_, fun G1 p s hp Q q => .inl ⟨p, _, [.str "InvalidText", .bool true, .bool true], rfl, SqL.of hp, .inl (.cons (.str _) (.cons (.bl true) (.cons (.bl true) .nil))), by decide +kernel, by decide +kernel, sm (by decide +kernel), q G1 (same_refl _)⟩⟩
  | tup e => exact ⟨_, fun G1 p s hp Q q => .inl ⟨p, _, [.str "InvalidText", .tuple [.str "t", .int 1, .int 1], .bool true], rfl, SqL.of hp, .inl (.cons (.str _) (.cons (.tup (SqT.of (s _ _ e)) (.cons (.str _) (.cons (.int 1) (.cons (.int 1) .nil)))) (.cons (.bl true) .nil))), by decide +kernel, by decide +kernel, sm (by decide +kernel), q G1 (same_refl _)⟩⟩
  | dic e => exact ⟨_, fun G1 p s hp Q q => .inl ⟨p, _, [.str "InvalidText", .dict [], .bool true], rfl, SqL.of hp, .inr (.cons (.str _) (.cons (.dic (s _ _ e)) (.cons (.bl true) .nil))), by decide +kernel, by decide +kernel, sm (by decide +kernel), q G1 (same_refl _)⟩⟩
  | @str z hz =>
    refine ⟨_, fun G1 p s hp Q q => .inl ⟨p, _, [.str "InvalidText", .str z, .bool true], rfl, SqL.of hp, .inl (.cons (.str _) (.cons (.str z) (.cons (.bl true) .nil))), ?_, ?_, sm ?_, q G1 (same_refl _)⟩⟩
    · simp [PyData.showable, PyData.showableAll]
    · simp [PyData.depth, PyData.depthAll]
    · have : ∀ z ∈ [(" " : Str), ",", "t 1", "t 1 1,"], (PyData.list [.str "InvalidText", .str z, .bool true]).shown.length ≤ 5000 := by decide +kernel
      exact this z hz
  | lst e =>
    refine ⟨_, fun G1 p s hp Q q => .inl ⟨p, _, [.str "InvalidText", .list [.str x], .bool true], rfl, SqL.of hp, .inl (.cons (.str _) (.cons (.lst (SqL.of (s _ _ e)) (.cons (.str x) .nil)) (.cons (.bl true) .nil))), ?_, ?_, sm ?_, q G1 (same_refl _)⟩⟩
    · simp [PyData.showable, PyData.showableAll]
    · simp [PyData.depth, PyData.depthAll]
    · simp only [PyData.shown, PyData.shownAll]
      rw [lt_three, lt_one]
      have h1 := StrLaws.reprText_len x (fun c hc => Nat.lt_trans (ok c hc) (by decide))
      have h2 : (reprText ("InvalidText" : Str)).length ≤ 20 := by decide +kernel
      have h3 : ((if true = true then "True" else "False" : String) : Str).length ≤ 5 := by decide +kernel
      first
        | omega
        | (simp only [if_true] at *; omega)
  | @ins o dx dA tN e =>
    refine ⟨_, fun G1 p s hp Q q => .inr ⟨p, o, dx, _, "InvalidText", Str.empty ++ "Vocabulary(" ++ "" ++ ")", true, rfl, hp, s _ _ e, by decide +kernel, by decide +kernel, fun H1 s1 => ⟨o, dx, dA, tN, "", rfl, s1 _ _ (s _ _ e), by decide, rfl, same_refl _⟩, q⟩⟩
theorem r_7 (a : All P w K mg base fL fO fH fC fP fT fRd fS fEq fRp fIn CT CI CE fJ C c Pt smp mc fdL fdO dH dC dP dT dRd) (hr : Room 9 (Xr P w K mg base fR c A outer s H E).A) (hgd : (Xr P w K mg base fR c A outer s H E).A.guards = some []) : ∃ t, PS (Xr P w K mg base fR c A outer s H E) (nth (defBody sRight) 2) t ∧ ∀ (D : Ends) (G : Hp) (x : Str) (v : V) (a1 a2 a3 a4 a6 a7 : Option V), St3 [(Pt, lamN)] u H0 G → Odd K C x G v → okS x → x.length ≤ 200 →
    (∀ G', St3 [(Pt, lamN)] u H0 G' → D.rt (.bl true) G') →
    t D [some (.ref u), a1, a2, a3, a4, some (.str x), a6, a7, some v, none, none] G := by
  have hmT : (Pt, lamN) ∈ [(Pt, lamN)] := List.mem_singleton.mpr rfl
  have huT : ∀ p ∈ [(Pt, lamN)], p.1 = Pt → p.2 = lamN := fun p hp _ => by
    rw [List.mem_singleton.mp hp]
  refine ⟨_, ps_ret (pe_cmpR op_eq (pe_callB (callR_or (cr_reprL hgd hr.units) (cr_repr3 a.GP (hr.mono (by decide)) hgd a.RC)) (by rfl) a.B'.repr (by decide +kernel) (pa_cons (pe_had a.HD a.B a.Z a.HF a.TB rfl hmT huT hr (LamX.lamS_by (sc := defScope sRight) (by decide +kernel)) rfl (fun _ _ _ _ _ => rfl)
              (fun A outer s H E f c' hr => pe_smeth (pe_glob (v := .ref C) rfl a.VV.g rfl) a.SM a.GR hr (passes_call (takes_of rfl rfl rfl rfl) (fun _ _ _ _ h => h)) (pa_cons (pv 8) pa_nil))) pa_nil))
          (pe_callB (callR_or (cr_reprL hgd hr.units) (cr_repr3 a.GP (hr.mono (by decide)) hgd a.RC)) (by rfl) a.B'.repr (by decide +kernel) (pa_cons (pe_lst (pa_cons pe_str (pa_cons (pv 8) (pa_cons pe_bl pa_nil)))) pa_nil)) rfl), fun D G x v a1 a2 a3 a4 a6 a7 S o ok hx q => ?_⟩
  obtain ⟨text, rt⟩ := repr_two ok hx o
  refine ⟨S.tab, fun G1 x1 t1 => ?_⟩
  have S1 := S.ext x1 t1
  obtain ⟨text, rt⟩ := repr_two ok hx (o.ext x1)
  refine ⟨rfl, _, rfl, ?_⟩
  dsimp only [tNil]
  refine read_odd a.T (o.ext x1) fun d G2 s2 hd => ?_
  refine ⟨d, v, rfl, rfl, hd, fun p np => ?_⟩
  have s3 : Same G2 (upd G2 p (.lst [.str "InvalidText", v, .bl true])) := same_new (fun _ _ e => e) np
  refine rt _ p (st s2 s3) upd_same _ fun G4 s4 => ?_
  refine ⟨_, rfl, (by show 3 ≤ sizeLine; decide), fun p5 n5 => ?_⟩
  have s5 : Same G4 (upd G4 p5 (.lst [.str "InvalidText", v, .bl true])) := same_new (fun _ _ e => e) n5
  refine rt _ p5 (st s2 (st s3 (st s4 s5))) upd_same _ fun G6 s6 => ?_
  refine ⟨rfl, ?_⟩
  rw [decide_eq_true rfl]
  exact q G6 (S1.same (st s2 (st s3 (st s4 (st s5 s6)))))
end
end SQ3
namespace SQ3
open PySem L2 SQ
theorem rd_seq {t u : TS} {D : Ends} {σ : St} {H : Hp} (h : t { D with nx := u D } σ H) : tSeq t u D σ H := h
section
variable {P : Program} {w : World} {K : PySem.W.Frag} {mg : Str → Option Value} {base : Heap} {fR fL fO fH fC fP fT fRd fS fEq fRp fIn CT CI CE fJ C c Pt smp : Addr} {mc : Value} {fdR fdL fdO dH dC dP dT dRd : FuncData}
theorem ok_right (F : FunC K "_law_right" "_law_right" sRight fR fdR c) (a : All P w K mg base fL fO fH fC fP fT fRd fS fEq fRp fIn CT CI CE fJ C c Pt smp mc fdL fdO dH dC dP dT dRd) : FnG P w K mg base CX0 10 fR fdR ["_law_urn_here"] (spRightT [(Pt, lamN)]) := by
  refine okGc F scR (fun vs H Q E h => ?_) (fun A outer s H vs Q E hgd hr h => ?_)
  · obtain ⟨u, rfl, _⟩ := h
    rfl
  · obtain ⟨u, rfl, hu, hT, q⟩ := h
    obtain ⟨t1, p1, k1⟩ := r_1 (fR := fR) (outer := outer) (s := s) (H := H) (E := E) (T := [(Pt, lamN)]) (u := u) (H0 := H) a hr
    obtain ⟨t2, p2, k2⟩ := r_2 (fR := fR) (outer := outer) (s := s) (H := H) (E := E) (T := [(Pt, lamN)]) (u := u) (H0 := H) a hr
    obtain ⟨t3, p3, k3⟩ := r_3 (fR := fR) (outer := outer) (s := s) (H := H) (E := E) (T := [(Pt, lamN)]) (u := u) (H0 := H) a hr
    obtain ⟨t4, p4, k4⟩ := r_4 (fR := fR) (outer := outer) (s := s) (H := H) (E := E) (T := [(Pt, lamN)]) (u := u) (H0 := H) a hr
    obtain ⟨t5, p5, k5⟩ := r_5 (fR := fR) (outer := outer) (s := s) (H := H) (E := E) (u := u) (H0 := H) a hr
    obtain ⟨t6, p6, k6⟩ := r_6 (fR := fR) (outer := outer) (s := s) (H := H) (E := E) (T := [(Pt, lamN)]) (u := u) (H0 := H) a hr
    obtain ⟨t7, p7, k7⟩ := r_7 (fR := fR) (outer := outer) (s := s) (H := H) (E := E) (u := u) (H0 := H) a hr hgd
    refine ⟨_, pss_cons (ps_for PassesOwn.never rfl (pi_range1 (by rfl) a.BL.range (pa_cons pe_int pa_nil)) (pg_name (i := 1) scR.nd rfl (.inl rfl))
      (pss_cons (ps_set (i := 2) scR.nd rfl (.inl rfl) (pe_lst pa_nil)) (pss_cons p1 (pss_cons p2 (pss_cons p3 (pss_cons p4 (pss_one p5))))))) (pss_cons p6 (pss_one p7)), ?_⟩
    have S0 : St3 [(Pt, lamN)] u H H := ⟨fun b o e _ _ => e, hT, hu⟩
    refine rd_seq ?_
    refine ⟨_, rfl, by decide, by decide, ?_⟩
    refine for_range (lo := 0) (n := 4) (fun i σ G => ∃ (a1 a2 a3 a4 a5 a6 a7 : Option V), σ = [some (.ref u), a1, a2, a3, a4, a5, a6, a7, none, none, none] ∧ St3 [(Pt, lamN)] u H G ∧ (0 < i → ∃ x, a5 = some (.str x) ∧ okS x ∧ x.length ≤ 200)) ⟨_, _, _, _, _, _, _, rfl, S0, fun z => absurd z (Nat.lt_irrefl 0)⟩ ?_ ?_
    · rintro i σ G hi ⟨a1, a2, a3, a4, a5, a6, a7, rfl, S, _⟩
      refine rd_set ?_
      refine ⟨(by show 0 ≤ sizeLine; decide), fun d nd => ?_⟩
      have fd : Fresh H d := S.new nd
      have du : d ≠ u := (urn_ne S.urn nd).symm
      have S1 : St3 [(Pt, lamN)] u H (upd G d (.lst [])) := S.same (same_new (fun _ _ e => e) nd)
      refine rd_seq (k1 _ _ d _ _ _ _ _ _ _ S1 upd_same fd du fun a3' G2 xs S2 h2 hl hx => ?_)
      refine rd_seq (k2 _ _ d xs _ _ _ _ _ _ _ S2 h2 hl fun G3 l ys S3 h3 hp hs => ?_)
      have nd' : ys.Nodup := hp.nodup_iff.mpr (uniq_nd xs)
      have l8 : ys.length ≤ 8 := by
        have := uniq_len xs
        rw [hp.length_eq]
        omega
      refine rd_seq (k3 _ _ l ys _ _ _ _ _ _ _ S3 h3 (fun y hy => hx y (uniq_mem.mp (hp.mem_iff.mp hy))) nd' hs l8 fun G4 gs S4 GG => ?_)
      have lg := line_good GG
      have ll := line_len GG
      have lo := line_ok GG
      refine rd_seq (k4 _ _ (lineOf gs) _ _ _ _ _ _ _ S4 lg (by omega) fun G5 S5 => ?_)
      refine k5 _ _ (lineOf gs) _ _ _ _ _ _ _ S5 lo ll fun b3 b6 b7 G6 S6 => ?_
      exact ⟨_, _, _, _, _, _, _, rfl, S6, fun _ => ⟨_, rfl, lo, ll⟩⟩
    · rintro σ G ⟨a1, a2, a3, a4, a5, a6, a7, rfl, S, hx⟩
      obtain ⟨x, rfl, ok, hl⟩ := hx (by decide)
      refine rd_seq (k6 _ _ x _ _ _ _ _ _ _ S fun v G2 S2 o => ?_)
      exact k7 _ _ x v _ _ _ _ _ _ S2 o ok hl fun G3 S3 => q G3 S3.but S3.tab
end
end SQ3
namespace SQ3
open PySem L2 SQ
theorem isStr_ne {x z : Str} {t : Tok} (h : z ≠ x) : (Value.str x t).isStr z = false := by
  rw [PySem.W.isStr_of]
  show (x == z) = false
  exact beq_eq_false_iff_ne.mpr (Ne.symm h)
theorem isStr_eq {x : Str} {t : Tok} : (Value.str x t).isStr x = true := by
  rw [PySem.W.isStr_of]
  show (x == x) = true
  exact beq_self_eq_true x
theorem look_of {K : PySem.W.Frag} {dD : Addr} {h0 h1 h2 h3 : Int} {t0 t1 t2 t3 s0 s1 s2 s3 : Tok} {nn : Nat}
    (lD : K.lookup dD = some ⟨.type "dict", none, .dict #[⟨h0, .str "0" t0, .int 0 s0⟩, ⟨h1, .str "1" t1, .int 1 s1⟩, ⟨h2, .str "2" t2, .int 2 s2⟩, ⟨h3, .str "3" t3, .int 3 s3⟩] nn, #[]⟩) :
    ∀ z : Str, ∃ r : Option Value, PySem.W.nsIn K dD z = some r ∧ (∀ i, digOf z = some i → ∃ t, r = some (.int i t)) ∧ (digOf z = none → r = none) := by
  intro z
  unfold PySem.W.nsIn
  rw [lD]
  dsimp only
  have e : ∀ {x : Str} {t : Tok}, z ≠ x → (Value.str x t).isStr z = false := fun h => isStr_ne h
  unfold digOf
  by_cases z0 : z = "0"
  · subst z0
    refine ⟨some (.int 0 s0), ?_, fun i h => ?_, fun h => ?_⟩
    · rw [List.find?_cons_of_pos (by simp only [isStr_eq])]
    · rw [if_pos rfl] at h
      cases h
      exact ⟨_, rfl⟩
    · rw [if_pos rfl] at h
      cases h
  by_cases z1 : z = "1"
  · subst z1
    refine ⟨some (.int 1 s1), ?_, fun i h => ?_, fun h => ?_⟩
    · rw [List.find?_cons_of_neg (by simp only [e z0]; decide), List.find?_cons_of_pos (by simp only [isStr_eq])]
    · rw [if_neg z0, if_pos rfl] at h
      cases h
      exact ⟨_, rfl⟩
    · rw [if_neg z0, if_pos rfl] at h
      cases h
  by_cases z2 : z = "2"
  · subst z2
    refine ⟨some (.int 2 s2), ?_, fun i h => ?_, fun h => ?_⟩
    · rw [List.find?_cons_of_neg (by simp only [e z0]; decide), List.find?_cons_of_neg (by simp only [e z1]; decide), List.find?_cons_of_pos (by simp only [isStr_eq])]
    · rw [if_neg z0, if_neg z1, if_pos rfl] at h
      cases h
      exact ⟨_, rfl⟩
    · rw [if_neg z0, if_neg z1, if_pos rfl] at h
      cases h
  by_cases z3 : z = "3"
  · subst z3
    refine ⟨some (.int 3 s3), ?_, fun i h => ?_, fun h => ?_⟩
    · rw [List.find?_cons_of_neg (by simp only [e z0]; decide), List.find?_cons_of_neg (by simp only [e z1]; decide), List.find?_cons_of_neg (by simp only [e z2]; decide), List.find?_cons_of_pos (by simp only [isStr_eq])]
    · rw [if_neg z0, if_neg z1, if_neg z2, if_pos rfl] at h
      cases h
      exact ⟨_, rfl⟩
    · rw [if_neg z0, if_neg z1, if_neg z2, if_pos rfl] at h
      cases h
  refine ⟨none, ?_, fun i h => ?_, fun _ => rfl⟩
  · rw [List.find?_cons_of_neg (by simp only [e z0]; decide), List.find?_cons_of_neg (by simp only [e z1]; decide), List.find?_cons_of_neg (by simp only [e z2]; decide), List.find?_cons_of_neg (by simp only [e z3]; decide)]
    rfl
  · rw [if_neg z0, if_neg z1, if_neg z2, if_neg z3] at h
    cases h
end SQ3
namespace SQ3
open PySem L2 SQ
abbrev bmV : List Value := [.type "ValueError", .type "Exception", .type "BaseException", .type "object"]
/-- all that one look at the written part tells -/
def chkA (K : PySem.W.Frag) (CE CT fI fJ CI C fIn fS fEq fRp cR Pt dD : Addr) : Bool :=
  errOk K CE "index" bmV "ValueError.__new__" && ((PySem.W.typeIn K (.ref fI) == some (.type "function")) && ((PySem.W.typeIn K (.ref CE) == some (.type "type")) && (errOk K CT "value" bmV "ValueError.__new__" && ((PySem.W.typeIn K (.ref fJ) == some (.type "function")) && ((PySem.W.typeIn K (.ref CT) == some (.type "type")) && ((PySem.W.specialIn K (.builtin "object.__class__") "__get__" == some (some (.builtin "getset_descriptor.__get__"))) && ((PySem.W.takesIn K (.builtin "object.__class__") == some true) && ((PySem.W.exmOne K (.ref CE) (.ref CE) == some true) && ((PySem.W.exmOne K (.ref CT) (.ref CT) == some true) && ((PySem.W.kitOne K (.ref CT) (.ref CI) == some true) && ((PySem.W.kitOne K (.ref CT) (.type "ValueError") == some true) && (PySem.W.plainGet K C Str.empty && (PySem.W.hasDictIn K C && (PySem.W.plainOver K C && ((PySem.W.findIn K (.ref C) "__setattr__" == some (some (.builtin "object.__setattr__"))) && ((PySem.W.findIn K (.ref C) "arities" == some none) && ((PySem.W.findIn K (.ref C) "names" == some none) && ((PySem.W.findIn K (.ref C) "text" == some none) && (PySem.W.makesIn K C && (PySem.W.isFn K (.ref fIn) && (PySem.W.keepIn K (.ref C) && (PySem.W.isFn K (.ref fS) && (PySem.W.codeHdIn K cR Pt && ((K.lookup Pt).isNone && ((PySem.W.findIn K (.ref C) "__class__" == some (some (.builtin "object.__class__"))) && ((PySem.W.mroIn K C (.type "object") == some true) && ((PySem.W.kitOne K (.ref C) (.ref C) == some true) && ((PySem.W.kitOne K (.ref C) (.type "str") == some false) && ((PySem.W.subIn K (.ref C) (.type "object") == some true) && ((PySem.W.findIn K (.ref C) "__ne__" == some (some (.builtin "object.__ne__"))) && (PySem.W.isFn K (.ref fEq) && (PySem.W.isFn K (.ref fRp) && (PySem.W.readsIn K C (.type "type") && ((PySem.W.specialIn K (.ref C) "__getattribute__" == some (some (.builtin "type.__getattribute__"))) && (!(dD == sysModules))))))))))))))))))))))))))))))))))))
theorem all_mk {l : PySem.W.OpenLaw} {w : World} {K : PySem.W.Frag} {h : Heap} {mg : Str → Option Value} {fa CE CI CT fI fJ C tC Pt cR fIn fS fEq fRp fRd smp dD f_0 f_1 f_2 f_3 f_4 f_5 f_6 f_7 f_8 f_9 f_10 f_11 f_12 f_13 f_14 f_15 f_16 f_17 : Addr}
    {odC : Option Addr} {u1 u2 u3 u4 u5 : Tok} {nn : Nat} {slC : Array (Option Value)}
    {t0 t1 t2 t3 s0 s1 s2 s3 : Tok} {nd : Nat}
    {ocE dcE pmE cdE ctE : Value} {odE anE : Option Addr} {slE : Array (Option Value)}
    {ocT dcT pmT cdT ctT : Value} {odT anT : Option Addr} {slT : Array (Option Value)}
    {oc_0 kV_0 dc_0 pm_0 cd_0 ct_0 : Value} {od_0 an_0 : Option Addr} {sl_0 : Array (Option Value)}
    {oc_1 kV_1 dc_1 pm_1 cd_1 ct_1 : Value} {od_1 an_1 : Option Addr} {sl_1 : Array (Option Value)}
    {oc_2 kV_2 dc_2 pm_2 cd_2 ct_2 : Value} {od_2 an_2 : Option Addr} {sl_2 : Array (Option Value)}
    {oc_3 kV_3 dc_3 pm_3 cd_3 ct_3 : Value} {od_3 an_3 : Option Addr} {sl_3 : Array (Option Value)}
    {oc_4 kV_4 dc_4 pm_4 cd_4 ct_4 : Value} {od_4 an_4 : Option Addr} {sl_4 : Array (Option Value)}
    {oc_5 kV_5 dc_5 pm_5 cd_5 ct_5 : Value} {od_5 an_5 : Option Addr} {sl_5 : Array (Option Value)}
    {oc_6 kV_6 dc_6 pm_6 cd_6 ct_6 : Value} {od_6 an_6 : Option Addr} {sl_6 : Array (Option Value)}
    {oc_7 kV_7 dc_7 pm_7 cd_7 ct_7 : Value} {od_7 an_7 : Option Addr} {sl_7 : Array (Option Value)}
    {oc_8 kV_8 dc_8 pm_8 cd_8 ct_8 : Value} {od_8 an_8 : Option Addr} {sl_8 : Array (Option Value)}
    {oc_9 kV_9 dc_9 pm_9 cd_9 ct_9 : Value} {od_9 an_9 : Option Addr} {sl_9 : Array (Option Value)}
    {oc_10 kV_10 dc_10 pm_10 cd_10 ct_10 : Value} {od_10 an_10 : Option Addr} {sl_10 : Array (Option Value)}
    {oc_11 kV_11 dc_11 pm_11 ct_11 : Value} {od_11 an_11 : Option Addr} {sl_11 : Array (Option Value)}
    {oc_12 kV_12 dc_12 pm_12 cd_12 ct_12 : Value} {od_12 an_12 : Option Addr} {sl_12 : Array (Option Value)}
    {oc_13 kV_13 dc_13 pm_13 cd_13 ct_13 : Value} {od_13 an_13 : Option Addr} {sl_13 : Array (Option Value)}
    {oc_14 kV_14 dc_14 pm_14 cd_14 ct_14 : Value} {od_14 an_14 : Option Addr} {sl_14 : Array (Option Value)}
    {oc_15 kV_15 dc_15 pm_15 cd_15 ct_15 : Value} {od_15 an_15 : Option Addr} {sl_15 : Array (Option Value)}
    {oc_16 kV_16 dc_16 pm_16 cd_16 ct_16 : Value} {od_16 an_16 : Option Addr} {sl_16 : Array (Option Value)}
    {oc_17 kV_17 dc_17 pm_17 cd_17 ct_17 : Value} {od_17 an_17 : Option Addr} {sl_17 : Array (Option Value)}
    {ocI kVI dcI pmI cdI ctI : Value} {odI anI : Option Addr} {slI : Array (Option Value)}
    {ocS kVS dcS pmS cdS ctS : Value} {odS anS : Option Addr} {slS : Array (Option Value)}
    {ocQ kVQ dcQ pmQ cdQ ctQ : Value} {odQ anQ : Option Addr} {slQ : Array (Option Value)}
    {ocP kVP dcP pmP cdP ctP : Value} {odP anP : Option Addr} {slP : Array (Option Value)}
    {rest : List Value}
    {ocR kVR dcR pmR cdR ctR : Value} {odR anR : Option Addr} {slR : Array (Option Value)}
    {v0 v1 v2 v3 : Tok}
    (X : K.In h) (G : h.Ns mainGlobals mg) (hfa : mg "law" = some (.ref fa)) (hT : h.get? Pt = some tab0)
    (nE : PySem.W.nsIn K mainGlobals "InvalidEntries" = some (some (.ref CE)))
    (nT : PySem.W.nsIn K mainGlobals "InvalidText" = some (some (.ref CT)))
    (nI : PySem.W.nsIn K mainGlobals "InputError" = some (some (.ref CI)))
    (nV : PySem.W.nsIn K mainGlobals "Vocabulary" = some (some (.ref C)))
    (nC : PySem.W.nsIn K mainGlobals "CORE_WORDS" = some (some (.ref tC)))
    (lC : K.lookup tC = some ⟨.type "tuple", odC, .seq #[.str "call" u1, .str "dip" u2, .str "curry" u3, .str "compose" u4, .str "choose" u5] nn, slC⟩)
    (nD : PySem.W.nsIn K mainGlobals "DIGITS" = some (some (.ref dD)))
    (lD : K.lookup dD = some ⟨.type "dict", none, .dict #[⟨PyData.keyHash w.params "0", .str "0" t0, .int 0 s0⟩, ⟨PyData.keyHash w.params "1", .str "1" t1, .int 1 s1⟩, ⟨PyData.keyHash w.params "2", .str "2" t2, .int 2 s2⟩, ⟨PyData.keyHash w.params "3", .str "3" t3, .int 3 s3⟩] nd, #[]⟩)
    (xE : PySem.W.findIn K (.ref CE) "__init__" = some (some (.ref fI)))
    (lE : K.lookup fI = some ⟨ocE, odE, .func (PySem.W.fnOf "__init__" "InvalidEntries.__init__" (iArgs "index" ⟨14, 17, 14, 21⟩ ⟨14, 23, 14, 28⟩) (iBody "index" ⟨15, 8, 15, 12⟩ ⟨15, 8, 15, 18⟩ ⟨15, 21, 15, 26⟩ ⟨15, 8, 15, 26⟩) (iScope "index") .none .none dcE pmE anE cdE ctE), slE⟩)
    (yE : PySem.W.codeIn K cdE "InvalidEntries.__init__" = true)
    (xT : PySem.W.findIn K (.ref CT) "__init__" = some (some (.ref fJ)))
    (lT : K.lookup fJ = some ⟨ocT, odT, .func (PySem.W.fnOf "__init__" "InvalidText.__init__" (iArgs "value" ⟨6, 17, 6, 21⟩ ⟨6, 23, 6, 28⟩) (iBody "value" ⟨7, 8, 7, 12⟩ ⟨7, 8, 7, 18⟩ ⟨7, 21, 7, 26⟩ ⟨7, 8, 7, 26⟩) (iScope "value") .none .none dcT pmT anT cdT ctT), slT⟩)
    (yT : PySem.W.codeIn K cdT "InvalidText.__init__" = true)
    (a_0 : PySem.W.nsIn K mainGlobals "is_plain_integer" = some (some (.ref f_0)))
    (l_0 : K.lookup f_0 = some ⟨oc_0, od_0, .func (PySem.W.fnOf "is_plain_integer" "is_plain_integer" (defArgs sPI) (defBody sPI) (defScope sPI) .none kV_0 dc_0 pm_0 an_0 cd_0 ct_0), sl_0⟩)
    (c_0 : PySem.W.codeIn K cd_0 "is_plain_integer" = true)
    (k_0 : PySem.W.keepIn K (.ref f_0) = true)
    (a_1 : PySem.W.nsIn K mainGlobals "is_name" = some (some (.ref f_1)))
    (l_1 : K.lookup f_1 = some ⟨oc_1, od_1, .func (PySem.W.fnOf "is_name" "is_name" (defArgs sNm) (defBody sNm) (defScope sNm) .none kV_1 dc_1 pm_1 an_1 cd_1 ct_1), sl_1⟩)
    (c_1 : PySem.W.codeIn K cd_1 "is_name" = true)
    (k_1 : PySem.W.keepIn K (.ref f_1) = true)
    (a_2 : PySem.W.nsIn K mainGlobals "is_free_name" = some (some (.ref f_2)))
    (l_2 : K.lookup f_2 = some ⟨oc_2, od_2, .func (PySem.W.fnOf "is_free_name" "is_free_name" (defArgs sFN) (defBody sFN) (defScope sFN) .none kV_2 dc_2 pm_2 an_2 cd_2 ct_2), sl_2⟩)
    (c_2 : PySem.W.codeIn K cd_2 "is_free_name" = true)
    (k_2 : PySem.W.keepIn K (.ref f_2) = true)
    (a_3 : PySem.W.nsIn K mainGlobals "is_arity" = some (some (.ref f_3)))
    (l_3 : K.lookup f_3 = some ⟨oc_3, od_3, .func (PySem.W.fnOf "is_arity" "is_arity" (defArgs sAr) (defBody sAr) (defScope sAr) .none kV_3 dc_3 pm_3 an_3 cd_3 ct_3), sl_3⟩)
    (c_3 : PySem.W.codeIn K cd_3 "is_arity" = true)
    (k_3 : PySem.W.keepIn K (.ref f_3) = true)
    (a_4 : PySem.W.nsIn K mainGlobals "is_entry" = some (some (.ref f_4)))
    (l_4 : K.lookup f_4 = some ⟨oc_4, od_4, .func (PySem.W.fnOf "is_entry" "is_entry" (defArgs sEn) (defBody sEn) (defScope sEn) .none kV_4 dc_4 pm_4 an_4 cd_4 ct_4), sl_4⟩)
    (c_4 : PySem.W.codeIn K cd_4 "is_entry" = true)
    (k_4 : PySem.W.keepIn K (.ref f_4) = true)
    (a_5 : PySem.W.nsIn K mainGlobals "check_entries" = some (some (.ref f_5)))
    (l_5 : K.lookup f_5 = some ⟨oc_5, od_5, .func (PySem.W.fnOf "check_entries" "check_entries" (defArgs sChk) (defBody sChk) (defScope sChk) .none kV_5 dc_5 pm_5 an_5 cd_5 ct_5), sl_5⟩)
    (c_5 : PySem.W.codeIn K cd_5 "check_entries" = true)
    (k_5 : PySem.W.keepIn K (.ref f_5) = true)
    (a_6 : PySem.W.nsIn K mainGlobals "entry_text" = some (some (.ref f_6)))
    (l_6 : K.lookup f_6 = some ⟨oc_6, od_6, .func (PySem.W.fnOf "entry_text" "entry_text" (defArgs sTx) (defBody sTx) (defScope sTx) .none kV_6 dc_6 pm_6 an_6 cd_6 ct_6), sl_6⟩)
    (c_6 : PySem.W.codeIn K cd_6 "entry_text" = true)
    (k_6 : PySem.W.keepIn K (.ref f_6) = true)
    (a_7 : PySem.W.nsIn K mainGlobals "_law_urn" = some (some (.ref f_7)))
    (l_7 : K.lookup f_7 = some ⟨oc_7, od_7, .func (PySem.W.fnOf "_law_urn" "_law_urn" (defArgs sUrn) (defBody sUrn) (defScope sUrn) .none kV_7 dc_7 pm_7 an_7 cd_7 ct_7), sl_7⟩)
    (c_7 : PySem.W.codeIn K cd_7 "_law_urn" = true)
    (k_7 : PySem.W.keepIn K (.ref f_7) = true)
    (a_8 : PySem.W.nsIn K mainGlobals "_law_lot" = some (some (.ref f_8)))
    (l_8 : K.lookup f_8 = some ⟨oc_8, od_8, .func (PySem.W.fnOf "_law_lot" "_law_lot" (defArgs sLot) (defBody sLot) (defScope sLot) .none kV_8 dc_8 pm_8 an_8 cd_8 ct_8), sl_8⟩)
    (c_8 : PySem.W.codeIn K cd_8 "_law_lot" = true)
    (k_8 : PySem.W.keepIn K (.ref f_8) = true)
    (a_9 : PySem.W.nsIn K mainGlobals "_law_one" = some (some (.ref f_9)))
    (l_9 : K.lookup f_9 = some ⟨oc_9, od_9, .func (PySem.W.fnOf "_law_one" "_law_one" (defArgs sOne) (defBody sOne) (defScope sOne) .none kV_9 dc_9 pm_9 an_9 cd_9 ct_9), sl_9⟩)
    (c_9 : PySem.W.codeIn K cd_9 "_law_one" = true)
    (k_9 : PySem.W.keepIn K (.ref f_9) = true)
    (a_10 : PySem.W.nsIn K mainGlobals "_law_had" = some (some (.ref f_10)))
    (l_10 : K.lookup f_10 = some ⟨oc_10, od_10, .func (PySem.W.fnOf "_law_had" "_law_had" (defArgs sHad) (defBody sHad) (defScope sHad) .none kV_10 dc_10 pm_10 an_10 cd_10 ct_10), sl_10⟩)
    (c_10 : PySem.W.codeIn K cd_10 "_law_had" = true)
    (k_10 : PySem.W.keepIn K (.ref f_10) = true)
    (a_11 : PySem.W.nsIn K mainGlobals "_law_right" = some (some (.ref f_11)))
    (l_11 : K.lookup f_11 = some ⟨oc_11, od_11, .func (PySem.W.fnOf "_law_right" "_law_right" (defArgs sRight) (defBody sRight) (defScope sRight) .none kV_11 dc_11 pm_11 an_11 (.ref cR) ct_11), sl_11⟩)
    (c_11 : PySem.W.codeIn K (.ref cR) "_law_right" = true)
    (k_11 : PySem.W.keepIn K (.ref f_11) = true)
    (a_12 : PySem.W.nsIn K mainGlobals "law" = some (some (.ref f_12)))
    (l_12 : K.lookup f_12 = some ⟨oc_12, od_12, .func (PySem.W.fnOf "law" "law" (defArgs sLaw) (defBody sLaw) (defScope sLaw) .none kV_12 dc_12 pm_12 an_12 cd_12 ct_12), sl_12⟩)
    (c_12 : PySem.W.codeIn K cd_12 "law" = true)
    (k_12 : PySem.W.keepIn K (.ref f_12) = true)
    (a_13 : PySem.W.nsIn K mainGlobals "split_entry" = some (some (.ref f_13)))
    (l_13 : K.lookup f_13 = some ⟨oc_13, od_13, .func (PySem.W.fnOf "split_entry" "split_entry" (defArgs sSE) (defBody sSE) (defScope sSE) .none kV_13 dc_13 pm_13 an_13 cd_13 ct_13), sl_13⟩)
    (c_13 : PySem.W.codeIn K cd_13 "split_entry" = true)
    (k_13 : PySem.W.keepIn K (.ref f_13) = true)
    (a_14 : PySem.W.nsIn K mainGlobals "split_entries" = some (some (.ref f_14)))
    (l_14 : K.lookup f_14 = some ⟨oc_14, od_14, .func (PySem.W.fnOf "split_entries" "split_entries" (defArgs sSS) (defBody sSS) (defScope sSS) .none kV_14 dc_14 pm_14 an_14 cd_14 ct_14), sl_14⟩)
    (c_14 : PySem.W.codeIn K cd_14 "split_entries" = true)
    (k_14 : PySem.W.keepIn K (.ref f_14) = true)
    (a_15 : PySem.W.nsIn K mainGlobals "_law_is_part" = some (some (.ref f_15)))
    (l_15 : K.lookup f_15 = some ⟨oc_15, od_15, .func (PySem.W.fnOf "_law_is_part" "_law_is_part" (defArgs sPart) (defBody sPart) (defScope sPart) .none kV_15 dc_15 pm_15 an_15 cd_15 ct_15), sl_15⟩)
    (c_15 : PySem.W.codeIn K cd_15 "_law_is_part" = true)
    (k_15 : PySem.W.keepIn K (.ref f_15) = true)
    (a_16 : PySem.W.nsIn K mainGlobals "_law_is_text" = some (some (.ref f_16)))
    (l_16 : K.lookup f_16 = some ⟨oc_16, od_16, .func (PySem.W.fnOf "_law_is_text" "_law_is_text" (defArgs sText) (defBody sText) (defScope sText) .none kV_16 dc_16 pm_16 an_16 cd_16 ct_16), sl_16⟩)
    (c_16 : PySem.W.codeIn K cd_16 "_law_is_text" = true)
    (k_16 : PySem.W.keepIn K (.ref f_16) = true)
    (a_17 : PySem.W.nsIn K mainGlobals "_law_changed" = some (some (.ref f_17)))
    (l_17 : K.lookup f_17 = some ⟨oc_17, od_17, .func (PySem.W.fnOf "_law_changed" "_law_changed" (defArgs sChg) (defBody sChg) (defScope sChg) .none kV_17 dc_17 pm_17 an_17 cd_17 ct_17), sl_17⟩)
    (c_17 : PySem.W.codeIn K cd_17 "_law_changed" = true)
    (k_17 : PySem.W.keepIn K (.ref f_17) = true)
    (mI : PySem.W.findIn K (.ref C) "__init__" = some (some (.ref fIn)))
    (lI : K.lookup fIn = some ⟨ocI, odI, .func (PySem.W.fnOf "__init__" "Vocabulary.__init__" (defArgs sIni) (defBody sIni) (defScope sIni) .none kVI dcI pmI anI cdI ctI), slI⟩)
    (cI : PySem.W.codeIn K cdI "Vocabulary.__init__" = true)
    (kI : PySem.W.keepIn K (.ref fIn) = true)
    (mS : PySem.W.findIn K (.ref C) "__str__" = some (some (.ref fS)))
    (lS : K.lookup fS = some ⟨ocS, odS, .func (PySem.W.fnOf "__str__" "Vocabulary.__str__" (defArgs sStr) (defBody sStr) (defScope sStr) .none kVS dcS pmS anS cdS ctS), slS⟩)
    (cS : PySem.W.codeIn K cdS "Vocabulary.__str__" = true)
    (kS : PySem.W.keepIn K (.ref fS) = true)
    (mQ : PySem.W.findIn K (.ref C) "__eq__" = some (some (.ref fEq)))
    (lQ : K.lookup fEq = some ⟨ocQ, odQ, .func (PySem.W.fnOf "__eq__" "Vocabulary.__eq__" (defArgs sEq) (defBody sEq) (defScope sEq) .none kVQ dcQ pmQ anQ cdQ ctQ), slQ⟩)
    (cQ : PySem.W.codeIn K cdQ "Vocabulary.__eq__" = true)
    (kQ : PySem.W.keepIn K (.ref fEq) = true)
    (mP : PySem.W.findIn K (.ref C) "__repr__" = some (some (.ref fRp)))
    (lP : K.lookup fRp = some ⟨ocP, odP, .func (PySem.W.fnOf "__repr__" "Vocabulary.__repr__" (defArgs sRp) (defBody sRp) (defScope sRp) .none kVP dcP pmP anP cdP ctP), slP⟩)
    (cP : PySem.W.codeIn K cdP "Vocabulary.__repr__" = true)
    (kP : PySem.W.keepIn K (.ref fRp) = true)
    (mR : PySem.W.findCls K (.ref C) (.type "type") "read" = some (.get (.builtin "staticmethod.__get__") (.ref smp) .none (.ref C)))
    (rR : PySem.W.recIn K smp "staticmethod" = some (.ref fRd :: rest))
    (lR : K.lookup fRd = some ⟨ocR, odR, .func (PySem.W.fnOf "read" "Vocabulary.read" (defArgs sRd) (defBody sRd) (defScope sRd) .none kVR dcR pmR anR cdR ctR), slR⟩)
    (cR_ : PySem.W.codeIn K cdR "Vocabulary.read" = true)
    (kR_ : PySem.W.keepIn K (.ref fRd) = true)
    (z_int : PySem.W.nsIn K mainGlobals "int" = some none)
    (z_len : PySem.W.nsIn K mainGlobals "len" = some none)
    (z_abs : PySem.W.nsIn K mainGlobals "abs" = some none)
    (z_divmod : PySem.W.nsIn K mainGlobals "divmod" = some none)
    (z_max : PySem.W.nsIn K mainGlobals "max" = some none)
    (z_min : PySem.W.nsIn K mainGlobals "min" = some none)
    (z_range : PySem.W.nsIn K mainGlobals "range" = some none)
    (z_all : PySem.W.nsIn K mainGlobals "all" = some none)
    (z_any : PySem.W.nsIn K mainGlobals "any" = some none)
    (z_isinstance : PySem.W.nsIn K mainGlobals "isinstance" = some none)
    (z_bool : PySem.W.nsIn K mainGlobals "bool" = some none)
    (z_str : PySem.W.nsIn K mainGlobals "str" = some none)
    (z_tuple : PySem.W.nsIn K mainGlobals "tuple" = some none)
    (z_set : PySem.W.nsIn K mainGlobals "set" = some none)
    (z_enumerate : PySem.W.nsIn K mainGlobals "enumerate" = some none)
    (z_sorted : PySem.W.nsIn K mainGlobals "sorted" = some none)
    (z_repr : PySem.W.nsIn K mainGlobals "repr" = some none)
    (z_ValueError : PySem.W.nsIn K mainGlobals "ValueError" = some none)
    (w_0 : PySem.W.nsIn K mainGlobals "LETTERS" = some (some (.str "abcdefghijklmnopqrstuvwxyz" v0)))
    (w_1 : PySem.W.nsIn K mainGlobals "LONGEST_NAME" = some (some (.int 8 v1)))
    (w_2 : PySem.W.nsIn K mainGlobals "MOST_ARITY" = some (some (.int 3 v2)))
    (w_3 : PySem.W.nsIn K mainGlobals "MOST_ENTRIES" = some (some (.int 8 v3)))
    (hA : chkA K CE CT fI fJ CI C fIn fS fEq fRp cR Pt dD = true) :
    AtG l w K 11 63 "_law_script" mg fa h := by
  have e := hfa.symm.trans (PySem.W.mg_of X G a_12)
  cases e
  unfold chkA at hA
  simp only [Bool.and_eq_true, beq_iff_eq, Bool.not_eq_true'] at hA
  obtain ⟨e1, e2, e3, e4, e5, e6, e7, e8, e9, e10, e11, e12, e13, e14, e15, e16, e17, e18, e19, e20, e21, e22, e23, e24, e25, e26, e27, e28, e29, e30, e31, e32, e33, e34, e35, e36⟩ := hA
  have BL : Blt mg := ⟨(PySem.W.mg_none_of X G z_int), (PySem.W.mg_none_of X G z_len), (PySem.W.mg_none_of X G z_abs), (PySem.W.mg_none_of X G z_divmod), (PySem.W.mg_none_of X G z_max), (PySem.W.mg_none_of X G z_min), (PySem.W.mg_none_of X G z_range), (PySem.W.mg_none_of X G z_all)⟩
  have B : B2 mg := ⟨(PySem.W.mg_none_of X G z_isinstance), (PySem.W.mg_none_of X G z_int), (PySem.W.mg_none_of X G z_bool), (PySem.W.mg_none_of X G z_str), (PySem.W.mg_none_of X G z_tuple), (PySem.W.mg_none_of X G z_len), (PySem.W.mg_none_of X G z_all), ⟨_, (PySem.W.mg_of X G w_0)⟩, ⟨_, (PySem.W.mg_of X G w_1)⟩, ⟨_, (PySem.W.mg_of X G w_2)⟩⟩
  have BB : B3 mg := ⟨(PySem.W.mg_none_of X G z_set), (PySem.W.mg_none_of X G z_enumerate), ⟨_, (PySem.W.mg_of X G w_3)⟩⟩
  have B4' : B4 mg := ⟨(PySem.W.mg_none_of X G z_sorted)⟩
  have B5' : B5 mg := ⟨(PySem.W.mg_none_of X G z_any), (PySem.W.mg_none_of X G z_sorted), (PySem.W.mg_none_of X G z_set), (PySem.W.mg_none_of X G z_max), (PySem.W.mg_none_of X G z_range), (PySem.W.mg_none_of X G z_repr)⟩
  have CW : Core K mg tC := ⟨PySem.W.mg_of X G nC, fun H => .inr ⟨_, _, _, lC, rfl, rfl, (by show 5 ≤ sizeLine; decide), .cons ⟨_, rfl⟩ (.cons ⟨_, rfl⟩ (.cons ⟨_, rfl⟩ (.cons ⟨_, rfl⟩ (.cons ⟨_, rfl⟩ .nil))))⟩⟩
  have DG : Dg K w mg dD _ _ := ⟨PySem.W.mg_of X G nD, ⟨lD, ⟨⟨_, _, rfl, rfl⟩, ⟨_, _, rfl, rfl⟩, ⟨_, _, rfl, rfl⟩, ⟨_, _, rfl, rfl⟩, trivial⟩, e36⟩, look_of lD⟩
  have F_0 := fun_mk (st := sPI) l_0 c_0 k_0
  have b_0 := F_0.binds (ps := ["value"]) fun _ _ _ _ _ _ us hl => match us, hl with | [_], _ => rfl
  have F_1 := fun_mk (st := sNm) l_1 c_1 k_1
  have b_1 := F_1.binds (ps := ["value"]) fun _ _ _ _ _ _ us hl => match us, hl with | [_], _ => rfl
  have F_2 := fun_mk (st := sFN) l_2 c_2 k_2
  have b_2 := F_2.binds (ps := ["value"]) fun _ _ _ _ _ _ us hl => match us, hl with | [_], _ => rfl
  have F_3 := fun_mk (st := sAr) l_3 c_3 k_3
  have b_3 := F_3.binds (ps := ["value"]) fun _ _ _ _ _ _ us hl => match us, hl with | [_], _ => rfl
  have F_4 := fun_mk (st := sEn) l_4 c_4 k_4
  have b_4 := F_4.binds (ps := ["value"]) fun _ _ _ _ _ _ us hl => match us, hl with | [_], _ => rfl
  have F_5 := fun_mk (st := sChk) l_5 c_5 k_5
  have b_5 := F_5.binds (ps := ["entries"]) fun _ _ _ _ _ _ us hl => match us, hl with | [_], _ => rfl
  have F_6 := fun_mk (st := sTx) l_6 c_6 k_6
  have b_6 := F_6.binds (ps := ["name", "arity"]) fun _ _ _ _ _ _ us hl => match us, hl with | [_, _], _ => rfl
  have F_7 := fun_mk (st := sUrn) l_7 c_7 k_7
  have b_7 := F_7.binds (ps := ["_law_script", "_law_k"]) fun _ _ _ _ _ _ us hl => match us, hl with | [_, _], _ => rfl
  have F_8 := fun_mk (st := sLot) l_8 c_8 k_8
  have b_8 := F_8.binds (ps := ["_law_urn_here", "_law_many"]) fun _ _ _ _ _ _ us hl => match us, hl with | [_, _], _ => rfl
  have F_9 := fun_mk (st := sOne) l_9 c_9 k_9
  have b_9 := F_9.binds (ps := ["_law_urn_here", "_law_things"]) fun _ _ _ _ _ _ us hl => match us, hl with | [_, _], _ => rfl
  have F_10 := fun_mk (st := sHad) l_10 c_10 k_10
  have b_10 := F_10.binds (ps := ["_law_ask"]) fun _ _ _ _ _ _ us hl => match us, hl with | [_], _ => rfl
  have F_11 : FunC K "_law_right" "_law_right" sRight f_11 _ cR := ⟨⟨_, _, _, _, _, _, _, _, rfl, l_11, c_11⟩, k_11⟩
  have b_11 := F_11.f.binds (ps := ["_law_urn_here"]) fun _ _ _ _ _ _ us hl => match us, hl with | [_], _ => rfl
  have F_12 := fun_mk (st := sLaw) l_12 c_12 k_12
  have b_12 := F_12.binds (ps := ["_law_script"]) fun _ _ _ _ _ _ us hl => match us, hl with | [_], _ => rfl
  have F_13 := fun_mk (st := sSE) l_13 c_13 k_13
  have b_13 := F_13.binds (ps := ["text"]) fun _ _ _ _ _ _ us hl => match us, hl with | [_], _ => rfl
  have F_14 := fun_mk (st := sSS) l_14 c_14 k_14
  have b_14 := F_14.binds (ps := ["text"]) fun _ _ _ _ _ _ us hl => match us, hl with | [_], _ => rfl
  have F_15 := fun_mk (st := sPart) l_15 c_15 k_15
  have b_15 := F_15.binds (ps := ["_law_part"]) fun _ _ _ _ _ _ us hl => match us, hl with | [_], _ => rfl
  have F_16 := fun_mk (st := sText) l_16 c_16 k_16
  have b_16 := F_16.binds (ps := ["_law_line"]) fun _ _ _ _ _ _ us hl => match us, hl with | [_], _ => rfl
  have F_17 := fun_mk (st := sChg) l_17 c_17 k_17
  have b_17 := F_17.binds (ps := ["_law_urn_here", "_law_line"]) fun _ _ _ _ _ _ us hl => match us, hl with | [_, _], _ => rfl
  have FI := fun_mk (st := sIni) lI cI kI
  have FS := fun_mk (st := sStr) lS cS kS
  have bS := FS.binds (ps := ["self"]) fun _ _ _ _ _ _ us hl => match us, hl with | [_], _ => rfl
  have FQ := fun_mk (st := sEq) lQ cQ kQ
  have bQ := FQ.binds (ps := ["self", "other"]) fun _ _ _ _ _ _ us hl => match us, hl with | [_, _], _ => rfl
  have FP := fun_mk (st := sRp) lP cP kP
  have bP := FP.binds (ps := ["self"]) fun _ _ _ _ _ _ us hl => match us, hl with | [_], _ => rfl
  have FRd := fun_mk (st := sRd) lR cR_ kR_
  have bRd := FRd.binds (ps := ["text"]) fun _ _ _ _ _ _ us hl => match us, hl with | [_], _ => rfl
  have D : D2 K mg _ _ _ _ _ _ _ _ _ _ := ⟨PySem.W.mg_of X G a_0, F_0, b_0, PySem.W.mg_of X G a_1, F_1, b_1, PySem.W.mg_of X G a_2, F_2, b_2, PySem.W.mg_of X G a_3, F_3, b_3, PySem.W.mg_of X G a_4, F_4, b_4⟩
  have I : I2 K mg _ _ _ _ := ⟨PySem.W.mg_of X G a_5, F_5, b_5, PySem.W.mg_of X G a_6, F_6, b_6⟩
  have S3' : S3 K mg _ _ _ _ := ⟨PySem.W.mg_of X G a_13, F_13, b_13, PySem.W.mg_of X G a_14, F_14, b_14⟩
  have P3' : P3 K mg _ _ _ _ := ⟨PySem.W.mg_of X G a_15, F_15, b_15, PySem.W.mg_of X G a_16, F_16, b_16⟩
  have CC : CD K mg _ _ := ⟨PySem.W.mg_of X G a_17, F_17, b_17⟩
  have Z : EC K mg CE fI := ⟨PySem.W.mg_of X G nE, ErrC.of e1, ⟨xE, e2, _, _, _, _, _, _, _, _, _, _, _, _, _, _, _, lE, yE⟩, e3⟩
  have ZT : TC K mg CT fJ := ⟨PySem.W.mg_of X G nT, ErrC.of e4, ⟨xT, e5, _, _, _, _, _, _, _, _, _, _, _, _, _, _, _, lT, yT⟩, e6⟩
  have HF : HadF K mg CT CI := ⟨⟨e7, e8⟩, PySem.W.mg_of X G nI, PySem.W.mg_none_of X G z_ValueError, e10, e11, e12⟩
  have VV : VC K mg C := ⟨PySem.W.mg_of X G nV, ⟨e13, e14, e15, e16⟩, e17, e18, e19⟩
  have MK : Mk K C fIn := ⟨e20, mI, e21, e22⟩
  have SO : StrO K C fS := ⟨mS, e23⟩
  have TI : IC K C := ⟨⟨e13, e14, e15, e16⟩, e26, e7, e8, e27, e28, e29⟩
  have CQ : CmpC K C fEq := ⟨e30, e31, mQ, e32⟩
  have RC : RpC K C fRp := ⟨mP, e33⟩
  have SM : SMet K C (.type "type") "read" smp fRd := ⟨e34, e35, mR, ⟨_, rR⟩, kR_⟩
  have DW : Drw K mg _ _ _ _ := ⟨PySem.W.mg_of X G a_8, F_8, b_8, PySem.W.mg_of X G a_9, F_9, b_9⟩
  have HD : HadD K mg _ _ := ⟨PySem.W.mg_of X G a_10, F_10, b_10⟩
  have hN : K.lookup Pt = none := Option.isNone_iff_eq_none.mp e25
  refine ⟨PySem.W.fnOf "law" "law" (defArgs sLaw) (defBody sLaw) (defScope sLaw) .none kV_12 dc_12 pm_12 an_12 cd_12 ct_12, [(cR, Pt)], spLawT K [(Pt, lamN)], fun p hp => ?_, fun s v => .of_eq rfl, fun H a ns hl _ hH hS => ⟨a, ns, rfl, hS, hl, fun p hp => ?_, fun _ => rfl⟩, fun base _ _ hTB => ?_⟩
  · rw [List.mem_singleton.mp hp]
    exact ⟨hT, hN, PySem.W.codeHd_of_K X e24⟩
  · rw [List.mem_singleton.mp hp]
    exact LamX.TabS.nil (hH (cR, Pt) (List.mem_singleton.mpr rfl))
  · have GS : FnR l.prog w K mg base CX0 1 fS (spStr C) := ((ok_str FS B VV).raw bS .nil).imp fun vs H Q E hs => by rw [List.append_nil]; exact hs
    have GE : FnR l.prog w K mg base CX0 1 fEq (spEqV C) := ((ok_eq FQ B VV TI).raw bQ .nil).imp fun vs H Q E hs => by rw [List.append_nil]; exact hs
    have GP : FnR l.prog w K mg base CX0 1 fRp (spRp C) := ((ok_rp FP VV).raw bP .nil).imp fun vs H Q E hs => by rw [List.append_nil]; exact hs
    have GI : FnR l.prog w K mg base (L2N.CX l.prog w) 5 fIn (spInit C CE) := ok_ini I D B CW Z BB B4' VV FI
    have GRf := ok_rd (P := l.prog) (w := w) (base := base) FRd S3' B DG Z e9 ZT VV MK GI
    have GR : FnR l.prog w K mg base (L2.CX l.prog w) 7 fRd (spRd K C CT) := (GRf.raw bRd .nil).imp fun vs H Q E hs => by rw [List.append_nil]; exact hs
    exact ok_lawT (j := 9) F_12 BL (PySem.W.mg_of X G a_7) F_7 b_7 (PySem.W.mg_of X G a_11) F_11.kp b_11 (ok_right F_11 ⟨BL, B, B5', DW, HD, ZT, HF, VV, TI, MK, CC, P3', SM, SO, CQ, RC, fun s u => .of_eq rfl, GI, GRf, GR, GS, GE, GP, hTB (cR, Pt) (List.mem_singleton.mpr rfl), ok_lot DW.FL BL, ok_one DW BL, ok_oneS DW BL, ok_chg CC.F DW BL B B5', ok_text P3' B B5'⟩)
end SQ3
open PySem PySem.W PyProof.Rows
set_option maxRecDepth 100000 in
set_option maxHeartbeats 0 in
theorem PySem.Challenge.cw_stackquotes_k03_whole_vocabulary_texts_holds : PySem.Challenge.rw_stackquotes_k03_whole_vocabulary_texts.Holds := by
  w_on; o_law; k_head; (case hw => w_witness2)
  k_fill
  refine SQ.walkGT (l := PySem.Challenge.rw_stackquotes_k03_whole_vocabulary_texts) (n := 63) (k := 11) (x := "_law_script") rfl (by decide) rfl ⟨rfl, by decide, by decide⟩ (fun w h Y => PySem.W.km_in_of Y) ?F
  case F =>
    intro w mg fa h Y KX G hmg
    have TX := PySem.W.km_tabs_of Y
    refine' SQ3.all_mk (Pt := 256) KX G hmg (TX 256 (by decide)) ?nE ?nT ?nI ?nV ?nC ?lC ?nD ?lD ?xE ?lE ?yE ?xT ?lT ?yT ?a_0 ?l_0 ?c_0 ?k_0 ?a_1 ?l_1 ?c_1 ?k_1 ?a_2 ?l_2 ?c_2 ?k_2 ?a_3 ?l_3 ?c_3 ?k_3 ?a_4 ?l_4 ?c_4 ?k_4 ?a_5 ?l_5 ?c_5 ?k_5 ?a_6 ?l_6 ?c_6 ?k_6 ?a_7 ?l_7 ?c_7 ?k_7 ?a_8 ?l_8 ?c_8 ?k_8 ?a_9 ?l_9 ?c_9 ?k_9 ?a_10 ?l_10 ?c_10 ?k_10 ?a_11 ?l_11 ?c_11 ?k_11 ?a_12 ?l_12 ?c_12 ?k_12 ?a_13 ?l_13 ?c_13 ?k_13 ?a_14 ?l_14 ?c_14 ?k_14 ?a_15 ?l_15 ?c_15 ?k_15 ?a_16 ?l_16 ?c_16 ?k_16 ?a_17 ?l_17 ?c_17 ?k_17 ?mI ?lI ?cI ?kI ?mS ?lS ?cS ?kS ?mQ ?lQ ?cQ ?kQ ?mP ?lP ?cP ?kP ?mR ?rR ?lR ?cR_ ?kR_ ?z_int ?z_len ?z_abs ?z_divmod ?z_max ?z_min ?z_range ?z_all ?z_any ?z_isinstance ?z_bool ?z_str ?z_tuple ?z_set ?z_enumerate ?z_sorted ?z_repr ?z_ValueError ?w_0 ?w_1 ?w_2 ?w_3 ?hA
    (case nE => k_is)
    (case nT => k_is)
    (case nI => k_is)
    (case nV => k_is)
    (case nC => k_is)
    (case lC => k_is)
    (case nD => k_is)
    (case lD => k_is)
    (case xE => k_is)
    (case lE => k_is)
    (case yE => k_is)
    (case xT => k_is)
    (case lT => k_is)
    (case yT => k_is)
    (case a_0 => k_is)
    (case l_0 => k_is)
    (case c_0 => k_is)
    (case k_0 => k_is)
    (case a_1 => k_is)
    (case l_1 => k_is)
    (case c_1 => k_is)
    (case k_1 => k_is)
    (case a_2 => k_is)
    (case l_2 => k_is)
    (case c_2 => k_is)
    (case k_2 => k_is)
    (case a_3 => k_is)
    (case l_3 => k_is)
    (case c_3 => k_is)
    (case k_3 => k_is)
    (case a_4 => k_is)
    (case l_4 => k_is)
    (case c_4 => k_is)
    (case k_4 => k_is)
    (case a_5 => k_is)
    (case l_5 => k_is)
    (case c_5 => k_is)
    (case k_5 => k_is)
    (case a_6 => k_is)
    (case l_6 => k_is)
    (case c_6 => k_is)
    (case k_6 => k_is)
    (case a_7 => k_is)
    (case l_7 => k_is)
    (case c_7 => k_is)
    (case k_7 => k_is)
    (case a_8 => k_is)
    (case l_8 => k_is)
    (case c_8 => k_is)
    (case k_8 => k_is)
    (case a_9 => k_is)
    (case l_9 => k_is)
    (case c_9 => k_is)
    (case k_9 => k_is)
    (case a_10 => k_is)
    (case l_10 => k_is)
    (case c_10 => k_is)
    (case k_10 => k_is)
    (case a_11 => k_is)
    (case l_11 => k_is)
    (case c_11 => k_is)
    (case k_11 => k_is)
    (case a_12 => k_is)
    (case l_12 => k_is)
    (case c_12 => k_is)
    (case k_12 => k_is)
    (case a_13 => k_is)
    (case l_13 => k_is)
    (case c_13 => k_is)
    (case k_13 => k_is)
    (case a_14 => k_is)
    (case l_14 => k_is)
    (case c_14 => k_is)
    (case k_14 => k_is)
    (case a_15 => k_is)
    (case l_15 => k_is)
    (case c_15 => k_is)
    (case k_15 => k_is)
    (case a_16 => k_is)
    (case l_16 => k_is)
    (case c_16 => k_is)
    (case k_16 => k_is)
    (case a_17 => k_is)
    (case l_17 => k_is)
    (case c_17 => k_is)
    (case k_17 => k_is)
    (case mI => k_is)
    (case lI => k_is)
    (case cI => k_is)
    (case kI => k_is)
    (case mS => k_is)
    (case lS => k_is)
    (case cS => k_is)
    (case kS => k_is)
    (case mQ => k_is)
    (case lQ => k_is)
    (case cQ => k_is)
    (case kQ => k_is)
    (case mP => k_is)
    (case lP => k_is)
    (case cP => k_is)
    (case kP => k_is)
    (case mR => k_is)
    (case rR => k_is)
    (case lR => k_is)
    (case cR_ => k_is)
    (case kR_ => k_is)
    (case z_int => k_is)
    (case z_len => k_is)
    (case z_abs => k_is)
    (case z_divmod => k_is)
    (case z_max => k_is)
    (case z_min => k_is)
    (case z_range => k_is)
    (case z_all => k_is)
    (case z_any => k_is)
    (case z_isinstance => k_is)
    (case z_bool => k_is)
    (case z_str => k_is)
    (case z_tuple => k_is)
    (case z_set => k_is)
    (case z_enumerate => k_is)
    (case z_sorted => k_is)
    (case z_repr => k_is)
    (case z_ValueError => k_is)
    (case w_0 => k_is)
    (case w_1 => k_is)
    (case w_2 => k_is)
    (case w_3 => k_is)
    (case hA => kernel_rfl)
