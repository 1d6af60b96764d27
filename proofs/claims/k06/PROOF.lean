import PyProof.Rows.All
import Wide.All
import OpenK.AllK
import Wide.FinOn
import HandS.ForMost
import PyProof.ReprRoads
import HandS.IsInst
import HandS.Walk
import KE.KExcInit
import KE.KIsAll
import HandS.ForExc
import HandS.ExcInit
import HandS.ExcIs
import KE.KExcIs
import HandS.ExcValue
import HandS.TryOnly
import HandS.RaiseFrom
import HandS.SuiteRaise
import HandS.WordsExc
import HandS.Star
import KE.GoesEnum
import KE.GoesMore
import HandS.SetKeys
import HandS.FStr
import HandS.DictComp
import HandS.More
import HandS.RaiseMore
import KE.KCallOwn
import HandS.Lambda
import HandS.EndBits
import PyProof.StrLawsChain
import PyProof.StrLawsTight
import PyProof.Rows.StrMeet
import HandS.ClsMeth
import HandS.OwnEq
import PyProof.InstEq
import PyProof.ReprNest
import PyProof.ReprDict
import HandS.SetFor
import HandS.TupAny
import PyProof.SeqRoads2
import HandS.Sort
import HandS.SortOrd
import HandS.SortRule
import PyProof.Rows.SortKeyStr
import PyProof.StrOps
import PyProof.Conv_bool
import HandS.Flow
import HandS.Text
import PySem.Challenge.RW_stackquotes_k06_places_and_joins_refused
set_option Elab.async false
set_option linter.all false
set_option maxRecDepth 100000
set_option maxHeartbeats 4000000
/-! Promises of defs that ask for a repr: they hold where no repr is under way (no guard on the stack). -/
namespace SQ
open PySem PySem.Spec PyProof.Rows L2

/-- what a def keeps when it is called where nothing guards -/
structure FnG (P : Program) (w : World) (K : PySem.W.Frag) (mg : Str → Option Value)
    (base : Heap) (CX : CXT) (k : Nat) (f : Addr) (fd : FuncData) (ps : List Str) (sp : Sp) : Prop where
  len : ∀ vs H Q E, sp vs H Q E → vs.length = ps.length
  go : ∀ (A : Around), A.guards = some [] → ∀ (outer : List Env) (s : Shared) (H : Hp)
    (args : Args) (us : List Value) (vs : List V) (Q : VK) (E : XK), Room k A →
    Env0 P w K mg base A outer s H → BindsTo s fd args (ps.zip us) → Vals vs us →
    sp vs H Q E → codeAny (model P w) A (.call (.ref f) args) (CR CX outer P w H s Q E) s
theorem FnG.of {P : Program} {w : World} {K : PySem.W.Frag} {mg : Str → Option Value} {base : Heap} {CX : CXT} {k : Nat} {f : Addr}
    {fd : FuncData} {ps : List Str} {sp : Sp} (F : FnOk P w K mg base CX k f fd ps sp) : FnG P w K mg base CX k f fd ps sp :=
  ⟨F.len, fun A _ outer s H args us vs Q E => F.run A outer s H args us vs Q E⟩

theorem deeper_guards {A : Around} {e : Env} (h : A.guards = some []) : (A.deeper e).guards = some [] := by
  first
    | exact h
    | (unfold Around.deeper; exact h)
    | simpa [Around.deeper] using h

section
variable {P : Program} {w : World} {K : PySem.W.Frag} {mg : Str → Option Value} {base : Heap}
/-- a def of the text, by its body: nothing leaves it as an error -/
theorem okG {x qual : Str} {st : Stmt} {f : Addr} {fd : FuncData} {N ps : List Str} {k : Nat} {sp : Sp}
    (F : Fun K x qual st f fd) (S : FnScope N ps (defScope st))
    (len : ∀ vs H Q E, sp vs H Q E → vs.length = ps.length)
    (hb : ∀ (cdv : Value) (A : Around) (outer : List Env) (s : Shared) (H : Hp) (vs : List V) (Q : VK) (E : XK),
      (A.deeper (envOfC qual (defScope st) s.heap.objs.size f cdv)).guards = some [] →
      Room k (A.deeper (envOfC qual (defScope st) s.heap.objs.size f cdv)) → sp vs H Q E →
      ∃ t, PSs (cxOf CX0 P w K mg base N qual (defScope st) f cdv A outer s H E).nox (defBody st) t ∧
        t { nx := fun _ H' => Q .non H', rt := Q } (start N vs) H) :
    FnG P w K mg base CX0 (k + 1) f fd ps sp := by
  obtain ⟨oc, od, kV, doc, pm, an, cdv, ct, osl, rfl, lk, hcd⟩ := F.ex
  refine ⟨len, fun A hgd outer s H args us vs Q E hroom en bnd rel hsp => ?_⟩
  have nargs := len _ _ _ _ hsp
  have old : ∀ b o, base.get? b = some o → s.heap.get? b = some o := fun b o q => (en.bs b o q).1
  have kin := en.mod.kin.keeps old
  have nol := en.mod.nolimit.keeps old
  have kinds : ∀ y ∈ ps.zip us, (defScope st).names.lookup y.1 = some .local ∨
      ((defScope st).names.lookup y.1 = some .cell ∧
        ((cellsFrom (s.heap.objs.size + 1) (defScope st).names []).lookup y.1).isSome = true) := by
    rintro ⟨n, v⟩ hy
    rcases S.par n (List.of_mem_zip hy).1 with q | q
    · exact Or.inl q
    · exact Or.inr ⟨q, PySem.W.cellsFrom_some _ _ _ (Or.inl q)⟩
  refine codeAny_call_function hroom.depth (kin _ _ lk) rfl S.co S.gen rfl
    (PySem.W.codeRec_of kin hcd) (bnd _ _ _ _ ?_)
  refine wpAny_newFunctionEnv_cells S.kind kinds ?_
  intro env he s1 ic
  subst he
  refine ⟨nol.keeps ic.toInCall.keep, codeAny_func ?_⟩
  obtain ⟨t, ht, hq⟩ := hb cdv A outer s H vs Q E (deeper_guards hgd) (hroom.deeper _) hsp
  have inv := inv_start (CX := CX0) (E := E) S hroom.hd en nargs rel ic
  refine wpAny_mono (ht.nox.run [] s1 (start N vs) H _ inv hq) ?_ fun e s' hs => hs
  intro fl s' hs
  cases fl with
  | ret u =>
    obtain ⟨v, σ', H', J, rv, q⟩ := hs
    exact ⟨v, H', J.os, J.bare, J.base, J.hok, rv, q⟩
  | next =>
    obtain ⟨σ', H', J, q⟩ := hs
    exact ⟨V.non, H', J.os, J.bare, J.base, J.hok, rfl, q⟩
  | brk =>
    obtain ⟨_, _, _, q⟩ := hs
    exact q.elim
  | cont =>
    obtain ⟨_, _, _, q⟩ := hs
    exact q.elim
end

section
variable {X : Cx} {CX : CXT} {k : Nat} {f : Addr} {fd : FuncData} {ps : List Str} {sp : Sp} {E : XK}
  {x : Str} {p pos : Pos} {e : Expr} {es : List Expr} {t : TA}
/-- f(e, ..), f such a def -/
theorem pe_callG (F : FnG X.prog X.w X.K X.mg X.base CX k f fd ps sp) (hgd : X.A.guards = some []) (hr : Room k X.A)
    (hg : Gl X x) (hm : X.mg x = some (.ref f)) (hk : PySem.W.keepIn X.K (.ref f) = true) (hb : Binds X.K fd ps [])
    (hx : Passes CX X E) (ha : PA X (e :: es) t) (hdb : (x == ("__debug__" : Str)) = false := by decide)
    (he : starEach (e :: es) X.env = (false, eval e X.env) :: starEach es X.env := by rfl)
    (hpl : (backTo pos (starEach es X.env)).any (·.1) = false := by rfl) :
    PE X (.Call (.Name x p) (e :: es) [] pos) (tCall sp [] E t) := by
  constructor
  intro pins s σ H Q I h
  refine wpAny_Call_Name_kw (ld_glob I hg hm ?_ hdb)
  refine PySem.W.callWith_K (h₀ := X.base) I.ok.mod.kin hk (thn (ha.run pos pins s σ H _ I h) ?_) he hpl
  intro us s1 ⟨vs, H1, I1, r, q⟩
  refine ⟨I1.kIn, ?_⟩
  have r2 : Vals (vs ++ []) (us ++ []) := r.append .nil
  have hl : (us ++ []).length = ps.length := by
    rw [← r2.length]
    exact F.len _ _ _ _ q
  show wpAny _ _ (call (.ref f) us) _ _ _
  refine wpAny_call (codeAny_mono (F.go X.A hgd X.stack s1 H1 ⟨us, []⟩ (us ++ []) (vs ++ []) Q E hr I1.env0
    (hb s1 us I1.kIn hl) r2 q) ?_)
  intro r s' hq
  rcases r with er | (_ | _ | _ | u)
  · exact hx pins σ H1 s1 er s' I1 hq
  · exact hq.elim
  · exact hq.elim
  · exact hq.elim
  · exact I1.after hq
end

/-- the law's call, by such a promise -/
theorem lawG {P : Program} {w : World} {K : PySem.W.Frag} {mg mb : Str → Option Value} {CX : CXT} {k : Nat} {fa a : Addr}
    {fd : FuncData} {x : Str} {sp : Sp} {s₁ : Shared} {vs : List Value} {ns : List Int}
    (KX : K.In s₁.heap) (hns : s₁.heap.Ns mainGlobals mg) (hb : s₁.heap.Ns builtinsNs mb)
    (hbb : ∀ x : Str, x ≠ "__name__" → mb x = bootBuiltins x) (hlim : s₁.heap.NoLimit) (hg : s₁.gens = #[])
    (ha : s₁.heap.get? a = some { cls := .type "list", data := .seq vs.toArray }) (hi : IntsAre vs ns)
    (hl : ns.length ≤ sizeLine) (hr : Room k callerA)
    (F : ∀ base : Heap, K.In base → base.Ns mainGlobals mg → FnG P w K mg base CX k fa fd [x] sp)
    (hbind : ∀ (s : Shared) (u : Value), BindsTo s fd ⟨[u], []⟩ [(x, u)])
    (hsp : ∀ H : Hp, Only H → SqL K H a (ns.map V.int) → sp [.ref a] H (fun v _ => v = .bl true) fun _ _ _ => False)
    (hCX : ∀ H e s', CX [] H s₁ (fun _ _ _ => False) e s' → False) :
    codeAny (model P w) callerA (.call (.ref fa) ⟨[.ref a], []⟩)
      (fun r s' => r = .ok (.ret (.bool true)) ∧ OldK s₁.heap s'.heap ∧ s'.os = s₁.os ∧ AllBare s'.gens) s₁ := by
  have rv := vals_ints hi
  have key : ∀ H : Hp, Only H → SqL K H a (ns.map V.int) → HOk P w H s₁.heap → (∀ b, H b ≠ none → b = a) →
      (H a ≠ none → K.lookup a = none) →
      codeAny (model P w) callerA (.call (.ref fa) ⟨[.ref a], []⟩)
        (fun r s' => r = .ok (.ret (.bool true)) ∧ OldK s₁.heap s'.heap ∧ s'.os = s₁.os ∧ AllBare s'.gens) s₁ := by
    intro H hO hS hok hA hK
    have only : ∀ {b : Addr} {u : HO}, H b = some u → b = a := fun {b u} q => hA b (by rw [q]; exact fun z => nomatch z)
    have free : ∀ {b : Addr} {o : Obj} {es : Array DictEntry} {ep : Nat}, s₁.heap.get? b = some o → o.data = .dict es ep → H b = none := by
      intro b o es ep q d
      cases z : H b with
      | none => rfl
      | some u =>
        have e' := only z
        subst e'
        rw [ha] at q
        cases q
        cases (show Data.seq vs.toArray _ = Data.dict es ep from d)
    have nsB : ∀ {b : Addr} {m : Str → Option Value}, s₁.heap.Ns b m → (hidT s₁.heap H).Ns b m := by
      rintro b m ⟨o, es, ep, q, d, r⟩
      exact ⟨o, es, ep, hidT_get q (free q d), d, r⟩
    have kB : K.In (hidT s₁.heap H) := by
      intro b o q
      refine hidT_get (KX b o q) ?_
      cases z : H b with
      | none => rfl
      | some u =>
        have e' := only z
        subst e'
        rw [hK (by rw [z]; exact fun y => nomatch y)] at q
        cases q
    have md : Mod K mg (hidT s₁.heap H) := by
      refine ⟨kB, nsB hns, ⟨mb, nsB hb, hbb⟩, ?_⟩
      obtain ⟨mc, h1, h2⟩ := hlim
      exact ⟨mc, nsB h1, h2⟩
    have en : Env0 P w K mg (hidT s₁.heap H) callerA [] s₁ H := {
      frames := rfl
      mod := md
      bs := fun b o q => of_hidT q
      bsz := Nat.le_of_eq (hidT_size _ _)
      funs := trivial
      frf := fun b hb => absurd (show b ∈ ([] : List Addr) from hb) (by simp)
      hok := hok
      bare := .of_eq hg }
    refine codeAny_mono ((F _ kB (nsB hns)).go callerA rfl [] s₁ H ⟨[.ref a], []⟩ [.ref a] [.ref a] _ _ hr en
      (hbind s₁ (.ref a)) (.cons rfl .nil) (hsp H hO hS)) ?_
    intro r s' h
    rcases r with er | (_ | _ | _ | u)
    · exact (hCX H er s' h).elim
    · exact h.elim
    · exact h.elim
    · exact h.elim
    · obtain ⟨v, H', os, bare, un, hok', r', q⟩ := h
      have q' : v = .bl true := q
      subst q'
      obtain rfl : u = Value.bool true := r'
      refine ⟨rfl, OldK.of_keep ?_, os, bare⟩
      intro b o q
      cases z : H b with
      | none => exact un.keep b o q z (fun y => absurd (show b ∈ ([] : List Addr) from y) (by simp)) (by simp)
      | some u =>
        rcases hO b with y | ⟨ob, xs, y⟩
        · rw [z] at y
          cases y
        · obtain ⟨e1, _⟩ := hok b _ y
          obtain ⟨e2, _⟩ := hok' b _ (un.frzs b ob _ y)
          rw [q] at e1
          cases e1
          exact e2
  cases hk : K.lookup a with
  | some o =>
    have q := KX a o hk
    rw [ha] at q
    cases q
    refine key (fun _ => none) (fun _ => .inl rfl) (.inr ⟨_, vs.toArray, _, hk, rfl, rfl, rfl, ?_, by simpa using rv⟩) ?_ (fun b z => absurd rfl z) fun z => absurd rfl z
    · rw [List.size_toArray, hi.length]
      exact hl
    · intro b u z
      cases (show (none : Option HO) = some u from z)
  | none =>
    let o0 : Obj := { cls := .type "list", data := .seq vs.toArray }
    let H0 : Hp := upd (fun _ => none) a (.frz o0 (.lst (ns.map V.int)))
    have h0 : ∀ b u, H0 b = some u → b = a ∧ u = .frz o0 (.lst (ns.map V.int)) := by
      intro b u z
      by_cases hb : b = a
      · subst hb
        refine ⟨rfl, ?_⟩
        rw [show H0 b = _ from upd_same] at z
        exact (Option.some.inj z).symm
      · rw [show H0 b = _ from upd_ne hb] at z
        cases z
    refine key H0 (fun b => ?_) (.inl (.inr ⟨o0, upd_same⟩)) (fun b u z => ?_) (fun b z => ?_) fun _ => hk
    · by_cases hb : b = a
      · subst hb
        exact .inr ⟨_, _, upd_same⟩
      · exact .inl (upd_ne hb)
    · obtain ⟨rfl, rfl⟩ := h0 b u z
      exact ⟨ha, by rw [List.length_map]; exact hl, vs, _, rv, ha⟩
    · cases q : H0 b with
      | none => exact absurd q z
      | some u => exact (h0 b u q).1
/-- the goal that the head leaves -/
theorem walkG {l : PySem.W.OpenLaw} {n k : Nat} {q : Program} {loose : List Str} {XP : (Str → Option Value) → Heap → Prop}
    {YP : World → Heap → Prop} {d : DefRec} {K : Params → PySem.W.Frag} {CX : CXT} {sp : PySem.W.Frag → Sp} {x : Str}
    (hn : l.most = some n) (hn2 : n ≤ sizeLine) (hdf : d.params.defaults = []) (hr : Room k callerA)
    (hY : ∀ (w : World) (h : Heap), YP w h → (K w.params).In h)
    (F : ∀ (w : World) (mg : Str → Option Value) (fa : Addr) (h : Heap), (K w.params).In h → h.Ns mainGlobals mg →
      mg d.name = some (.ref fa) → ∃ fd : FuncData, (∀ (s : Shared) (u : Value), BindsTo s fd ⟨[u], []⟩ [(x, u)]) ∧
        ∀ base : Heap, (K w.params).In base → base.Ns mainGlobals mg →
          FnG l.prog w (K w.params) mg base CX k fa fd [x] (sp (K w.params)))
    (hsp : ∀ (K : PySem.W.Frag) (H : Hp) (a : Addr) (ns : List Int), ns.length ≤ n → Only H → SqL K H a (ns.map V.int) →
      sp K [.ref a] H (fun v _ => v = .bl true) fun _ _ _ => False)
    (hCX : ∀ (H : Hp) (s : Shared) (e : Value) (s' : Shared), CX [] H s (fun _ _ _ => False) e s' → False) :
    PySem.W.WalkO q loose XP YP l.row.toRowW d [] (fun f vs => PySem.call f vs) := by
  refine Att.attach_call hn hdf ?_
  intro w s₀ s₁ mg mb fa o pm cd doc a vs ns G Y ho hd hcd hmg hobj hints hlen hg
  have KX := hY w _ Y
  obtain ⟨fd, hb, hF⟩ := F w mg fa _ KX G.T.g hmg
  exact lawG KX G.T.g G.T.b G.T.builtins G.T.nolimit hg hobj hints (Nat.le_trans hlen hn2) hr hF hb
    (fun H hO hS => hsp _ H a ns hlen hO hS) fun H e s' => hCX H s₁ e s'
end SQ
/-! repr of a list of data. -/
namespace SQ
open PySem PySem.Spec PyProof.Rows L2

mutual
theorem dp_plain {K : PySem.W.Frag} {H : Hp} : ∀ (d : PyData) (v : V), Dp K H v d → d.hasDict = false
  | .none, _, _ => by simp only [PyData.hasDict]
  | .bool _, _, _ => by simp only [PyData.hasDict]
  | .int _, _, _ => by simp only [PyData.hasDict]
  | .str _, _, _ => by simp only [PyData.hasDict]
  | .list ds, _, h => by
    cases h with
    | lst _ ha =>
      simp only [PyData.hasDict]
      exact dpAll_plain ds _ ha
  | .tuple ds, _, h => by
    cases h with
    | tup _ ha =>
      simp only [PyData.hasDict]
      exact dpAll_plain ds _ ha
  | .dict _, _, h => nomatch h
theorem dpAll_plain {K : PySem.W.Frag} {H : Hp} : ∀ (ds : List PyData) (vs : List V), DpAll K H vs ds → PyData.hasDictAll ds = false
  | [], _, _ => by simp only [PyData.hasDictAll]
  | d :: ds, _, h => by
    cases h with
    | cons h1 h2 =>
      simp only [PyData.hasDictAll, dp_plain d _ h1, dpAll_plain ds _ h2, Bool.or_false]
end

/-- None, a bool, an int, a text, an empty dict -/
inductive Flat (H : Hp) : V → PyData → Prop
  | non : Flat H .non .none
  | bl (b : Bool) : Flat H (.bl b) (.bool b)
  | int (i : Int) : Flat H (.int i) (.int i)
  | str (x : Str) : Flat H (.str x) (.str x)
  | dic {a : Addr} (h : H a = some (.dK [])) : Flat H (.ref a) (.dict [])
inductive FlatAll (H : Hp) : List V → List PyData → Prop
  | nil : FlatAll H [] []
  | cons {v : V} {vs : List V} {d : PyData} {ds : List PyData} : Flat H v d → FlatAll H vs ds → FlatAll H (v :: vs) (d :: ds)

section
variable {X : Cx} {pins : List (Addr × Obj)} {σ : L2.St} {H : Hp} {s : Shared}
theorem flat_reads (I : Inv X pins σ H s) {d : PyData} {v : V} {u : Value} (h : Flat H v d) (r : RelV v u) :
    ∃ as, Reads s.heap u d as ∧ sysModules ∉ as := by
  cases h with
  | non =>
    obtain rfl : u = Value.none := r
    exact ⟨_, Reads.none, by simp⟩
  | bl b =>
    obtain rfl : u = Value.bool b := r
    exact ⟨_, Reads.bool b, by simp⟩
  | int i =>
    obtain ⟨t, rfl⟩ := r
    exact ⟨_, Reads.int i t, by simp⟩
  | str x =>
    obtain ⟨t, rfl⟩ := r
    exact ⟨_, Reads.str x t, by simp⟩
  | @dic a ha =>
    obtain rfl : u = Value.ref a := r
    obtain ⟨_, na, vs, kv, o, es, ep, h1, h2, h3, h4⟩ := (show ObjOk X.prog X.w H s.heap a (.dK []) from I.hok a _ ha)
    cases kv
    have he : es.toList = [] := by
      have h5 := h4.2.1
      generalize es.toList = l at h5
      cases h5
      rfl
    refine ⟨a :: [] ++ [], Reads.dict (kvs := []) h1 h2.1 h3 (by rw [he]; exact .nil) (by rw [he]; exact .nil), ?_⟩
    intro hm
    have e : sysModules = a := by simpa using hm
    rw [← e] at na
    exact absurd na (by decide)
theorem flatAll_reads (I : Inv X pins σ H s) : ∀ {ds : List PyData} {vs : List V} {us : List Value}, FlatAll H vs ds → Vals vs us →
    ∃ as, ReadsAll s.heap us ds as ∧ sysModules ∉ as
  | _, _, _, .nil, .nil => ⟨[], .nil, by simp⟩
  | _, _, _, .cons h hs, .cons r rs => by
    obtain ⟨as, a1, a2⟩ := flat_reads I h r
    obtain ⟨bs, b1, b2⟩ := flatAll_reads I hs rs
    exact ⟨_, .cons a1 b1, fun hm => (List.mem_append.mp hm).elim a2 b2⟩
end

/-- repr of a list, its items ds -/
def rReprL (K : PySem.W.Frag) : List V → Hp → VK → Prop := fun xs H Q => ∃ (a : Addr) (vs : List V) (ds : List PyData), xs = [.ref a] ∧ SqL K H a vs ∧
  (DpAll K H vs ds ∨ FlatAll H vs ds) ∧ (PyData.list ds).showable = true ∧ (PyData.list ds).depth ≤ 60 ∧ (PyData.list ds).shown.length ≤ sizeLine ∧ Q (.str (PyData.list ds).shown) H
theorem cr_reprL {X : Cx} (hg : X.A.guards = some []) (hu : X.A.units + 64 < cLine) : CallR X (.builtin "repr") (rReprL X.K) := by
  intro pins s σ H xs us Q I r h
  obtain ⟨a, vs, ds, rfl, hL, hd, hs, hdp, hz, q⟩ := h
  obtain ⟨its, rv, ⟨o, n, e, c, _, dt⟩, _⟩ := I.list hL
  rw [Vals.ref1 r]
  have fin : ∀ (h' : Heap) (u tk : Nat), (∀ b o, s.heap.get? b = some o → h'.get? b = some o) → EP X pins σ Q (.str (PyData.list ds).shown u) { s with heap := h', toks := tk } :=
    fun h' u tk hk => ⟨.str _, H, I.kept hk, ⟨u, rfl⟩, q⟩
  rcases hd with hd | hd
  · obtain ⟨as, rd⟩ := Dp.reads I (.list ds) (.ref a) (.ref a) (.lst hL hd) rfl
    exact repr_of_reads' (h₀ := s.heap) rd hs (PyData.noDict_hsm (dp_plain _ _ (Dp.lst hL hd))) hg (by omega) (fun _ _ z => z) fin hz
  · obtain ⟨as, h4, hno⟩ := flatAll_reads I hd rv
    have hz' : (listText (PyData.shownAll ds)).length ≤ sizeLine := by simpa only [PyData.shown] using hz
    have hs' : PyData.showableAll ds = true := by simpa [PyData.showable] using hs
    obtain ⟨bs, hb, hk⟩ := ReprAllK.of_readsAll (prog := X.prog) (w := X.w) h4 hs' (fun _ => hno) (fun t ht => Nat.le_trans (listText_mem_le ht) hz')
    have whole : Reads s.heap (.ref a) (.list ds) (a :: as) := .list (vs := its.toArray) e c dt (by simpa using h4)
    have hna : a ∉ bs := not_mem_of_deeper whole (by simp only [PyData.depth]; omega) hb
    refine call_repr_slot (by omega) ⟨o, e, c⟩ F.slot_list_repr.toG ?_
    simp only [PyData.depth] at hdp
    have fin' : ∀ (h' : Heap) (u tk : Nat), (∀ b o, s.heap.get? b = some o → h'.get? b = some o) →
        (∃ x t, Value.str (listText (PyData.shownAll ds)) u = .str x t ∧ EP X pins σ Q (.str (listText (PyData.shownAll ds)) u) { s with heap := h', toks := tk }) :=
      fun h' u tk z => ⟨_, _, rfl, by have := fin h' u tk z; simpa only [PyData.shown] using this⟩
    cases its with
    | nil =>
      cases h4
      simp only [PyData.shownAll, listText_nil] at fin'
      exact call_list_repr_empty ⟨o, e, c⟩ e dt (fin' s.heap _ _ fun _ _ z => z)
    | cons y l =>
      exact call_list_reprK (h₀ := s.heap) e c dt hna (by simpa using hk.length_eq) (fun i y e => hk.item i y (by simpa using e)) hg (fun b _ => Clear.nil b)
        (by show X.A.units + 1 + (PyData.depthAll ds + 1) < cLine; omega) (fun _ _ z => z) fin' hz'
end SQ
namespace SQ6
open PySem L2 SQ
/-! ### the law's frame: the urn, the draws, the law itself -/
def top (i : Nat) : Stmt := PySem.Challenge.pw_stackquotes_k06_places_and_joins_refused.main.body.getD i (.Pass ⟨0, 0, 0, 0⟩)
abbrev sUrn : Stmt := top 61
abbrev sLot : Stmt := top 62
abbrev sOne : Stmt := top 63
abbrev sRight : Stmt := top 65
abbrev sLaw : Stmt := top 66
/-- the built-ins' names are still theirs -/
structure Blt (mg : Str → Option Value) : Prop where
  int : mg "int" = none
  len : mg "len" = none
  abs : mg "abs" = none
  divmod : mg "divmod" = none
  max : mg "max" = none
  min : mg "min" = none
  range : mg "range" = none
  all : mg "all" = none
/-- all that stood stands, but at u -/
def But (u : Addr) (H H' : Hp) : Prop := ∀ b o, H b = some o → b ≠ u → H' b = some o
theorem But.refl {u : Addr} {H : Hp} : But u H H := fun _ _ e _ => e
theorem But.trans {u : Addr} {H H1 H2 : Hp} (a : But u H H1) (b : But u H1 H2) : But u H H2 := fun c o e n => b c o (a c o e n) n
theorem But.new {u p : Addr} {H H' : Hp} {o : HO} (a : But u H H') (h : H' p = none) : But u H (upd H' p o) := fun c x e n => by
  have e1 := a c x e n
  rw [upd_ne (ne_of_none e1 h)]
  exact e1
theorem But.put {u : Addr} {H H' : Hp} {o : HO} (a : But u H H') : But u H (upd H' u o) := fun c x e n => by
  rw [upd_ne n]
  exact a c x e n
theorem Same.but {u : Addr} {H H' : Hp} (a : Same H H') : But u H H' := fun c x e _ => a c x e
theorem same_new {p : Addr} {H H' : Hp} {o : HO} (a : Same H H') (h : H' p = none) : Same H (upd H' p o) := fun c x e => by
  have e1 := a c x e
  rw [upd_ne (ne_of_none e1 h)]
  exact e1
theorem keptT {σ : St} {H : Hp} {A B : Hp → Prop} (h : A H) : tYes σ H (fun b H3 => if b = true then A H3 else B H3) := by
  show (if true = true then A H else B H)
  rw [if_pos rfl]
  exact h
def urnAt (H : Hp) (u : Addr) : Prop := ∃ x y z : Int, H u = some (.lst [.int x, .int y, .int z])
def spUrn (K : PySem.W.Frag) : Sp := fun vs H Q _ => ∃ (a : Addr) (ns : List Int) (k : Nat), vs = [.ref a, .int k] ∧ SqL K H a (ns.map V.int) ∧ k ≤ 63 ∧
  ∀ (H' : Hp) (p : Addr), Same H H' → H p = none → urnAt H' p → Q (.ref p) H'
def spLot : Sp := fun vs H Q _ => ∃ (u : Addr) (m : Int), vs = [.ref u, .int m] ∧ urnAt H u ∧ 0 < m ∧ m < 1073741824 ∧
  ∀ (H' : Hp) (d : Int), 0 ≤ d → d < m → urnAt H' u → But u H H' → Q (.int d) H'
def spOne (K : PySem.W.Frag) : Sp := fun vs H Q _ => ∃ (u t : Addr) (xs : List V), vs = [.ref u, .ref t] ∧ urnAt H u ∧ u ≠ t ∧ H t = some (.lst xs) ∧ 0 < xs.length ∧ xs.length ≤ 1000 ∧
  ∀ (H' : Hp) (i : Nat) (x : V), xs[i]? = some x → urnAt H' u → But u H H' → Q x H'
def spRight : Sp := fun vs H Q _ => ∃ u : Addr, vs = [.ref u] ∧ urnAt H u ∧ ∀ H' : Hp, But u H H' → Q (.bl true) H'
def spLaw (K : PySem.W.Frag) : Sp := fun vs H Q _ => ∃ (a : Addr) (ns : List Int), vs = [.ref a] ∧ SqL K H a (ns.map V.int) ∧ ns.length ≤ 63 ∧ ∀ H', Q (.bl true) H'
section
variable {P : Program} {w : World} {K : PySem.W.Frag} {mg : Str → Option Value} {base : Heap}
theorem scU : FnScope ["_law_script", "_law_k", "_law_mixed", "_law_entry", "_law_own"] ["_law_script", "_law_k"] (defScope sUrn) := ⟨rfl, rfl, rfl, by decide +kernel, rfl, by decide +kernel, by decide +kernel⟩
theorem ok_urn {f : Addr} {fd : FuncData} (F : Fun K "_law_urn" "_law_urn" sUrn f fd) (B : Blt mg) : FnOk P w K mg base CX0 1 f fd ["_law_script", "_law_k"] (spUrn K) := by
  refine F.ok scU (fun vs H Q E h => ?_) (fun cdv A outer s H vs Q E hr h => ?_)
  · obtain ⟨a, ns, k, rfl, _⟩ := h
    rfl
  · obtain ⟨a, ns, k, rfl, hS, hk, q⟩ := h
    refine ⟨_, pss_cons (ps_set (i := 2) scU.nd rfl (.inl rfl) (pe_op op_add pe_int (pe_op op_mul pe_int (pv 1))))
      (pss_cons (ps_for PassesOwn.never rfl (pi_list (pe_slice sl_list (pv 0) po_none (po_some pe_int))) (pg_name (i := 3) scU.nd rfl (.inl rfl))
        (pss_one (ps_set (i := 2) scU.nd rfl (.inl rfl) (pe_op op_mod (pe_callTy call_int1 (by rfl) B.int (by decide +kernel)
          (pa_cons (pe_op op_add (pe_op op_mul (pv 2) pe_int) (pe_op op_mod (pe_callTy call_int1 (by rfl) B.int (by decide +kernel) (pa_cons (pv 3) pa_nil)) pe_int)) pa_nil)) pe_int))))
      (pss_cons (ps_set (i := 4) scU.nd rfl (.inl rfl) (pe_ifExp (pt_cmpR op_lt (pv 1) (pe_callB call_len_seq (by rfl) B.len PySem.boot_len (pa_cons (pv 0) pa_nil)) (nomark _))
        (pe_callTy call_int1 (by rfl) B.int (by decide +kernel) (pa_cons (pe_ix ix_list (pv 0) (pv 1) (fun _ _ => rfl)) pa_nil))
        (pe_op op_add (pe_op op_mul pe_int (pv 1)) pe_int)))
      (pss_one (ps_ret (pe_lst (pa_cons (pe_ifExp (PW.pt (pw_or (pt_cmpR op_lt (pv 4) pe_int (nomark _)) (pw_or1 (pt_cmpR op_ge (pv 4) (pe_op op_pow pe_int pe_int) (nomark _)))))
          (pe_callB call_abs (by rfl) B.abs (by decide +kernel) (pa_cons (pv 4) pa_nil)) pe_int)
        (pa_cons (pe_op op_mod (pe_callTy call_int1 (by rfl) B.int (by decide +kernel) (pa_cons (pe_op op_add (pe_op op_mul (pv 2) pe_int) (pe_op op_mod (pv 4) pe_int)) pa_nil)) pe_int)
        (pa_cons pe_int pa_nil)))))))), ?_⟩
    -- mixed
    refine ⟨_, rfl, _, _, rfl, rfl, .inl ⟨by decide, by decide⟩, _, _, rfl, rfl, ?_⟩
    -- the slice
    refine ⟨_, rfl, _, rfl, a, _, rfl, hS, fun p hp => ?_⟩
    have hp' : SqL K (upd H p (.lst (cutV (ns.map V.int) none (some 14)))) p (cutV (ns.map V.int) none (some 14)) := SqL.of upd_same
    have s1 : Same H (upd H p (.lst (cutV (ns.map V.int) none (some 14)))) := same_new (fun _ _ e => e) hp
    refine ⟨p, rfl, ⟨_, hp'⟩, for_list (K := K) (a := p) (xs := cutV (ns.map V.int) none (some 14))
      (fun i σ H2 => ∃ (m : Int) (v : Option V), σ = [some (.ref a), some (.int k), some (.int m), v, none] ∧ H2 = upd H p (.lst (cutV (ns.map V.int) none (some 14))))
      ⟨_, _, rfl, rfl⟩ (fun i σ H2 _ ⟨_, _, _, e2⟩ => by rw [e2]; exact hp') ?_ ?_⟩
    · rintro i y σ H2 hi ⟨m, v, rfl, rfl⟩
      obtain ⟨z, rfl⟩ : ∃ z, y = V.int z := by
        have hm : y ∈ ns.map V.int := List.mem_of_mem_drop (List.mem_of_mem_take (List.mem_of_getElem? hi))
        obtain ⟨z, _, e⟩ := List.mem_map.mp hm
        exact ⟨z, e.symm⟩
      refine ⟨_, rfl, _, _, rfl, rfl, .inr ⟨by decide, by decide⟩, _, rfl, .inl ⟨_, rfl, _, _, rfl, rfl, (by show (0 : Int) < 1999999973; decide), _, _, rfl, rfl, .inl ⟨_, rfl, _, _, rfl, rfl, (by show (0 : Int) < 1999999973; decide), ?_⟩⟩⟩
      exact ⟨_, _, rfl, rfl⟩
    · rintro σ H2 ⟨m, v, rfl, rfl⟩
      have hS2 := s1.seq hS
      -- own
      refine ⟨_, rfl, _, rfl, a, _, rfl, .inl hS2, _, _, rfl, rfl, _, rfl, ?_⟩
      refine ite2 (fun hlt => ?_) (fun _ => ?_)
      · have hlt' : (k : Int) < ((ns.map V.int).length : Int) := of_decide_eq_true hlt
        have hk2 : k < ns.length := by rw [List.length_map] at hlt'; omega
        refine ⟨_, rfl, _, rfl, a, _, _, _, rfl, rfl, hS2, atI_nat (by rw [List.getElem?_map, List.getElem?_eq_getElem hk2]; rfl), .inl ⟨_, rfl, ?_⟩⟩
        refine ⟨_, rfl, _, _, rfl, rfl, _, rfl, ?_⟩
        refine ite2 (fun _ => iteT ?_) (fun _ => ⟨_, rfl, _, _, rfl, rfl, ⟨by decide, by decide, by decide⟩, _, _, rfl, rfl, _, rfl, ite2 (fun _ => ?_) (fun _ => ?_)⟩)
        · refine ⟨_, rfl, _, rfl, ?_⟩
          exact ⟨_, rfl, _, _, rfl, rfl, .inr ⟨by decide, by decide⟩, _, rfl, _, _, rfl, rfl, (by show (0 : Int) < 1999999973; decide), _, _, rfl, rfl, .inl ⟨_, rfl, _, _, rfl, rfl, (by show (0 : Int) < 1999999973; decide),
            (by show 3 ≤ sizeLine; decide), fun p2 hp2 => q _ p2 (same_new s1 hp2) (s1.free hp2) ⟨_, _, _, upd_same⟩⟩⟩
        · refine ⟨_, rfl, _, rfl, ?_⟩
          exact ⟨_, rfl, _, _, rfl, rfl, .inr ⟨by decide, by decide⟩, _, rfl, _, _, rfl, rfl, (by show (0 : Int) < 1999999973; decide), _, _, rfl, rfl, .inl ⟨_, rfl, _, _, rfl, rfl, (by show (0 : Int) < 1999999973; decide),
            (by show 3 ≤ sizeLine; decide), fun p2 hp2 => q _ p2 (same_new s1 hp2) (s1.free hp2) ⟨_, _, _, upd_same⟩⟩⟩
        · exact ⟨_, rfl, _, _, rfl, rfl, .inr ⟨by decide, by decide⟩, _, rfl, _, _, rfl, rfl, (by show (0 : Int) < 1999999973; decide), _, _, rfl, rfl, .inl ⟨_, rfl, _, _, rfl, rfl, (by show (0 : Int) < 1999999973; decide),
            (by show 3 ≤ sizeLine; decide), fun p2 hp2 => q _ p2 (same_new s1 hp2) (s1.free hp2) ⟨_, _, _, upd_same⟩⟩⟩
      · refine ⟨_, rfl, _, _, rfl, rfl, .inl ⟨by decide, by decide⟩, _, _, rfl, rfl, ?_⟩
        refine ⟨_, rfl, _, _, rfl, rfl, _, rfl, ?_⟩
        refine ite2 (fun _ => iteT ?_) (fun _ => ⟨_, rfl, _, _, rfl, rfl, ⟨by decide, by decide, by decide⟩, _, _, rfl, rfl, _, rfl, ite2 (fun _ => ?_) (fun _ => ?_)⟩)
        · refine ⟨_, rfl, _, rfl, ?_⟩
          exact ⟨_, rfl, _, _, rfl, rfl, .inr ⟨by decide, by decide⟩, _, rfl, _, _, rfl, rfl, (by show (0 : Int) < 1999999973; decide), _, _, rfl, rfl, .inl ⟨_, rfl, _, _, rfl, rfl, (by show (0 : Int) < 1999999973; decide),
            (by show 3 ≤ sizeLine; decide), fun p2 hp2 => q _ p2 (same_new s1 hp2) (s1.free hp2) ⟨_, _, _, upd_same⟩⟩⟩
        · refine ⟨_, rfl, _, rfl, ?_⟩
          exact ⟨_, rfl, _, _, rfl, rfl, .inr ⟨by decide, by decide⟩, _, rfl, _, _, rfl, rfl, (by show (0 : Int) < 1999999973; decide), _, _, rfl, rfl, .inl ⟨_, rfl, _, _, rfl, rfl, (by show (0 : Int) < 1999999973; decide),
            (by show 3 ≤ sizeLine; decide), fun p2 hp2 => q _ p2 (same_new s1 hp2) (s1.free hp2) ⟨_, _, _, upd_same⟩⟩⟩
        · exact ⟨_, rfl, _, _, rfl, rfl, .inr ⟨by decide, by decide⟩, _, rfl, _, _, rfl, rfl, (by show (0 : Int) < 1999999973; decide), _, _, rfl, rfl, .inl ⟨_, rfl, _, _, rfl, rfl, (by show (0 : Int) < 1999999973; decide),
            (by show 3 ≤ sizeLine; decide), fun p2 hp2 => q _ p2 (same_new s1 hp2) (s1.free hp2) ⟨_, _, _, upd_same⟩⟩⟩
theorem scLo : FnScope ["_law_urn_here", "_law_many", "_law_digit"] ["_law_urn_here", "_law_many"] (defScope sLot) := ⟨rfl, rfl, rfl, by decide +kernel, rfl, by decide +kernel, by decide +kernel⟩
theorem ok_lot {f : Addr} {fd : FuncData} (F : Fun K "_law_lot" "_law_lot" sLot f fd) (B : Blt mg) : FnOk P w K mg base CX0 1 f fd ["_law_urn_here", "_law_many"] spLot := by
  refine F.ok scLo (fun vs H Q E h => ?_) (fun cdv A outer s H vs Q E hr h => ?_)
  · obtain ⟨u, m, rfl, _⟩ := h
    rfl
  · obtain ⟨u, m, rfl, ⟨x, y, z, hu⟩, m0, m1, q⟩ := h
    refine ⟨_, pss_cons (ps_if (pt_cmpR op_gt (pe_ix ix_list (pv 0) pe_int (fun _ _ => rfl)) pe_int (nomark _))
        (pss_cons (ps_asg (pe_callB call_divmod (by rfl) B.divmod (by decide +kernel) (pa_cons (pe_callTy call_int1 (by rfl) B.int (by decide +kernel) (pa_cons (pe_ix ix_list (pv 0) pe_int (fun _ _ => rfl)) pa_nil)) (pa_cons (pv 1) pa_nil)))
          (pg_tup rfl (pgs_cons (pg_sub (pv 0) pe_int set_list) (pgs_cons (pg_name (i := 2) scLo.nd rfl (.inl rfl)) pgs_nil))))
        (pss_one (ps_ret (pv 2)))) pss_nil)
      (pss_cons (ps_asg (pe_op op_add (pe_ix ix_list (pv 0) pe_int (fun _ _ => rfl)) pe_int) (pg_sub (pv 0) pe_int set_list))
      (pss_cons (ps_asg (pe_op op_mod (pe_callTy call_int1 (by rfl) B.int (by decide +kernel) (pa_cons (pe_op op_add (pe_op op_add (pe_op op_mul (pe_ix ix_list (pv 0) pe_int (fun _ _ => rfl)) pe_int)
          (pe_op op_mul (pe_op op_fdiv (pe_ix ix_list (pv 0) pe_int (fun _ _ => rfl)) pe_int) pe_int)) (pe_op op_mul pe_int (pe_ix ix_list (pv 0) pe_int (fun _ _ => rfl)))) pa_nil)) pe_int) (pg_sub (pv 0) pe_int set_list))
      (pss_one (ps_ret (pe_op op_mod (pe_callTy call_int1 (by rfl) B.int (by decide +kernel) (pa_cons (pe_op op_fdiv (pe_ix ix_list (pv 0) pe_int (fun _ _ => rfl)) pe_int) pa_nil)) (pv 1)))))), ?_⟩
    refine ⟨_, rfl, u, _, _, _, rfl, rfl, SqL.of hu, rfl, _, _, rfl, rfl, _, rfl, ?_⟩
    refine ite2 (fun _ => ?_) (fun _ => ?_)
    · refine ⟨_, rfl, u, _, _, _, rfl, rfl, SqL.of hu, rfl, .inl ⟨_, rfl, _, rfl, _, _, rfl, ⟨m0, m1⟩, fun p hp => ?_⟩⟩
      have hup : u ≠ p := ne_of_none hu hp
      refine ⟨p, _, rfl, SqT.of upd_same, rfl, _, _, rfl, ⟨_, rfl, u, _, _, 0, rfl, rfl, by rw [upd_ne hup]; exact hu, rfl, _, _, rfl, rfl, ?_⟩⟩
      refine ⟨_, rfl, q _ _ (Int.emod_nonneg _ (by omega)) (Int.emod_lt_of_pos _ m0) ⟨_, _, _, upd_same⟩ ((But.refl.new hp).put)⟩
    · refine ⟨_, rfl, u, _, _, _, rfl, rfl, SqL.of hu, rfl, _, _, rfl, rfl, _, rfl, u, _, _, 2, rfl, rfl, hu, rfl, ?_⟩
      have h1 : (upd H u (.lst ([V.int x, V.int y, V.int z].set 2 (V.int (z + 1))))) u = some (.lst [V.int x, V.int y, V.int (z + 1)]) := upd_same
      refine ⟨_, rfl, u, _, _, _, rfl, rfl, SqL.of h1, rfl, _, _, rfl, rfl, .inr ⟨by decide, by decide⟩,
        _, rfl, u, _, _, _, rfl, rfl, SqL.of h1, rfl, _, _, rfl, rfl, ⟨by decide, by decide⟩, _, _, rfl, rfl, .inr ⟨by decide, by decide⟩, _, _, rfl, rfl,
        _, rfl, u, _, _, _, rfl, rfl, SqL.of h1, rfl, _, _, rfl, rfl, .inl ⟨by decide, by decide⟩, _, _, rfl, rfl,
        .inl ⟨_, rfl, _, _, rfl, rfl, (by show (0 : Int) < 1999999973; decide), _, rfl, u, _, _, 1, rfl, rfl, h1, rfl, ?_⟩⟩
      refine ⟨_, rfl, u, _, _, _, rfl, rfl, SqL.of upd_same, rfl, _, _, rfl, rfl, ⟨by decide, by decide⟩, .inl ⟨_, rfl, _, rfl, _, _, rfl, rfl, m0, ?_⟩⟩
      exact q _ _ (Int.emod_nonneg _ (by omega)) (Int.emod_lt_of_pos _ m0) ⟨_, _, _, upd_same⟩ (But.refl.put.put)
theorem scO : FnScope ["_law_urn_here", "_law_things"] ["_law_urn_here", "_law_things"] (defScope sOne) := ⟨rfl, rfl, rfl, by decide +kernel, rfl, by decide +kernel, by decide +kernel⟩
/-- the draws stand where they stand -/
structure Drw (K : PySem.W.Frag) (mg : Str → Option Value) (fL fO : Addr) (fdL fdO : FuncData) : Prop where
  gL : mg "_law_lot" = some (.ref fL)
  FL : Fun K "_law_lot" "_law_lot" sLot fL fdL
  bL : Binds K fdL ["_law_urn_here", "_law_many"] []
  gO : mg "_law_one" = some (.ref fO)
  FO : Fun K "_law_one" "_law_one" sOne fO fdO
  bO : Binds K fdO ["_law_urn_here", "_law_things"] []
theorem ok_one {fL fO : Addr} {fdL fdO : FuncData} (D : Drw K mg fL fO fdL fdO) (B : Blt mg) : FnOk P w K mg base CX0 2 fO fdO ["_law_urn_here", "_law_things"] (spOne K) := by
  have GL : FnOk P w K mg base CX0 1 fL fdL ["_law_urn_here", "_law_many"] spLot := ok_lot D.FL B
  refine D.FO.ok scO (fun vs H Q E h => ?_) (fun cdv A outer s H vs Q E hr h => ?_)
  · obtain ⟨u, t, xs, rfl, _⟩ := h
    rfl
  · obtain ⟨u, t, xs, rfl, hu, nut, ht, x0, x1, q⟩ := h
    refine ⟨_, pss_one (ps_ret (pe_ix ix_list (pv 1) (pe_call GL hr rfl D.gL D.FL.kp D.bL .nil pass0 (pa_cons (pv 0) (pa_cons (pe_callB call_len_seq (by rfl) B.len PySem.boot_len (pa_cons (pv 1) pa_nil)) pa_nil))) (fun _ _ => rfl))), ?_⟩
    refine ⟨_, rfl, _, rfl, _, rfl, t, xs, rfl, .inl (SqL.of ht), u, _, rfl, hu, by omega, by omega, fun H1 d d0 d1 hu1 bt => ?_⟩
    have ht1 := bt t _ ht (Ne.symm nut)
    obtain ⟨i, rfl⟩ : ∃ i : Nat, d = i := ⟨d.toNat, by omega⟩
    have hi : i < xs.length := by omega
    have hx : xs[i]? = some xs[i] := List.getElem?_eq_getElem hi
    exact ⟨t, xs, _, _, rfl, rfl, SqL.of ht1, atI_nat hx, q H1 i _ hx hu1 bt⟩
theorem scLaw : FnScope ["_law_script", "_law_k"] ["_law_script"] (defScope sLaw) := ⟨rfl, rfl, rfl, by decide +kernel, rfl, by decide +kernel, by decide +kernel⟩
theorem ok_law {f fU fR : Addr} {fd fdU fdR : FuncData} {j : Nat} (F : Fun K "law" "law" sLaw f fd) (B : Blt mg) (gU : mg "_law_urn" = some (.ref fU)) (FU : Fun K "_law_urn" "_law_urn" sUrn fU fdU) (bU : Binds K fdU ["_law_script", "_law_k"] [])
    (gR : mg "_law_right" = some (.ref fR)) (kR : PySem.W.keepIn K (.ref fR) = true) (bR : Binds K fdR ["_law_urn_here"] []) (GR : FnG P w K mg base CX0 (j + 1) fR fdR ["_law_urn_here"] spRight) : FnG P w K mg base CX0 (j + 2) f fd ["_law_script"] (spLaw K) := by
  have GU : FnOk P w K mg base CX0 1 fU fdU ["_law_script", "_law_k"] (spUrn K) := ok_urn FU B
  refine okG F scLaw (fun vs H Q E h => ?_) (fun cdv A outer s H vs Q E hgd hr h => ?_)
  · obtain ⟨a, ns, rfl, _⟩ := h
    rfl
  · obtain ⟨a, ns, rfl, hS, hlen, q⟩ := h
    refine ⟨_, pss_one (ps_ret (pe_callB (cr_all rfl) (by rfl) B.all (by decide +kernel) (pa_cons (pe_lc (own := [("_law_k", 1)]) (g := gName 1) (tt := tYes) rfl scLaw.nd
      (pi_range1 (by rfl) B.range (pa_cons (pe_callB (call_max2 rfl) (by rfl) B.max (by decide +kernel) (pa_cons pe_int (pa_cons (pe_callB (call_min2 rfl) (by rfl) B.min (by decide +kernel)
        (pa_cons (pe_callB call_len_seq (by rfl) B.len PySem.boot_len (pa_cons (pv 0) pa_nil)) (pa_cons pe_int pa_nil))) pa_nil))) pa_nil))
      (blkOk_by (N := ["_law_script", "_law_k"]) (sc := defScope sLaw) (by decide +kernel)) (fun _ _ _ _ _ => pg_name (i := 1) scLaw.nd rfl (Or.inl rfl)) (fun _ _ _ _ _ => pts_nil)
      (fun _ _ _ _ _ => pe_callG GR hgd hr rfl gR kR bR pass0 (pa_cons (pe_call GU (hr.mono (by omega)) rfl gU FU.kp bU .nil pass0 (pa_cons (pv 0) (pa_cons (pv 1) pa_nil))) pa_nil))) pa_nil))), ?_⟩
    refine ⟨_, rfl, a, _, rfl, .inl hS, _, _, rfl, _, _, rfl, ?_⟩
    generalize hj : (if (if (6 : Int) < ((ns.map V.int).length : Int) then (6 : Int) else ((ns.map V.int).length : Int)) > 2 then (if (6 : Int) < ((ns.map V.int).length : Int) then (6 : Int) else ((ns.map V.int).length : Int)) else 2) = n
    have hn : 0 ≤ n ∧ n ≤ 6 := by
      rw [← hj]
      split <;> split <;> omega
    refine ⟨n, rfl, by omega, by omega, fun D hD => ?_⟩
    refine lc_range (lo := 0) (n := n.toNat) (fun i H2 => Same H H2 ∧ H2 D = some (.lst ((List.replicate i true).map V.bl))) ⟨same_new (fun _ _ e => e) hD, upd_same⟩ ?_ ?_
    · rintro i H2 hi ⟨s2, hD2⟩
      refine ⟨rfl, keptT ?_⟩
      refine ⟨_, rfl, _, rfl, a, ns, i, by rw [Int.zero_add]; rfl, s2.seq hS, by omega, fun H3 p s3 np hp => ?_⟩
      refine ⟨p, rfl, hp, fun H4 b4 => ?_⟩
      have hD4 : H4 D = some (.lst ((List.replicate i true).map V.bl)) := b4 D _ (s3 D _ hD2) (ne_of_none hD2 np)
      refine ⟨_, hD4, small1000 (by rw [List.length_map, List.length_replicate]; omega), fun b o e => ?_, ?_⟩
      · have hb : b ≠ D := ne_of_none e hD
        have e2 := s2 b o e
        rw [upd_ne hb]
        exact b4 b o (s3 b o e2) (ne_of_none e2 np)
      · rw [upd_same, List.replicate_succ', List.map_append]
        rfl
    · rintro H2 ⟨s2, hD2⟩
      refine ⟨D, _, rfl, SqL.of hD2, ?_⟩
      have e : (List.replicate n.toNat true).all id = true := by
        rw [List.all_eq_true]
        intro x hx
        exact (List.eq_of_mem_replicate hx)
      rw [e]
      exact q H2
end
end SQ6
namespace SQ6
open PySem L2 SQ
abbrev sPI : Stmt := top 17
abbrev sNm : Stmt := top 18
abbrev sFN : Stmt := top 19
abbrev sAr : Stmt := top 26
abbrev sEn : Stmt := top 27
/-- the kinds of values that come here -/
inductive Kd (H : Hp) : V → String → Prop
  | non : Kd H .non "NoneType"
  | bl (b : Bool) : Kd H (.bl b) "bool"
  | int (i : Int) : Kd H (.int i) "int"
  | str (x : Str) (h : x.length ≤ 1000) : Kd H (.str x) "str"
  | lst {a : Addr} {xs : List V} (e : H a = some (.lst xs)) : Kd H (.ref a) "list"
  | tup {a : Addr} {xs : List V} (e : H a = some (.tup xs)) : Kd H (.ref a) "tuple"
  | dic {a : Addr} {kvs : List (Key × V)} (e : H a = some (.dK kvs)) : Kd H (.ref a) "dict"
theorem Kd.ty {K : PySem.W.Frag} {H : Hp} {v : V} {t : String} (k : Kd H v t) : TyX K H v (.type t) := by
  cases k with
  | non => exact .base .non
  | bl b => exact .base (.bl b)
  | int i => exact .base (.int i)
  | str x h => exact .base (.str x)
  | lst e => exact .base (.lst e)
  | tup e => exact .base (.tup e)
  | dic e => exact .base (.dK e)
theorem Kd.same {H H' : Hp} {v : V} {t : String} (s : Same H H') (k : Kd H v t) : Kd H' v t := by
  cases k with
  | non => exact .non
  | bl b => exact .bl b
  | int i => exact .int i
  | str x h => exact .str x h
  | lst e => exact .lst (s _ _ e)
  | tup e => exact .tup (s _ _ e)
  | dic e => exact .dic (s _ _ e)
/-- isinstance(x, n) -/
theorem isi_ok {K : PySem.W.Frag} {H : Hp} {v : V} {t n : String} {b : Bool} {Q : VK} (k : Kd H v t) (h : kitB t n = some b) (q : Q (.bl b) H) : rIsi K [v, .ty n] H Q := ⟨v, .ty n, .type t, .type n, b, rfl, .ty n, k.ty, kit_ty h, q⟩
def isInt : V → Bool
  | .int _ => true
  | _ => false
def letters : List Nat := [97, 98, 99, 100, 101, 102, 103, 104, 105, 106, 107, 108, 109, 110, 111, 112, 113, 114, 115, 116, 117, 118, 119, 120, 121, 122]
def nameOk (n : Str) : Bool := decide (1 ≤ (n.length : Int)) && decide ((n.length : Int) ≤ 8) && n.cps.toList.all fun c => decide (c ∈ letters)
def isNm : V → Bool
  | .str n => nameOk n
  | _ => false
def cores : List Str := ["call", "dip", "curry", "compose", "choose"]
def isFree : V → Bool
  | .str n => nameOk n && !decide (n ∈ cores)
  | _ => false
def isAr : V → Bool
  | .int i => decide (0 ≤ i) && decide (i ≤ 3)
  | _ => false
structure B2 (mg : Str → Option Value) : Prop where
  isi : mg "isinstance" = none
  int : mg "int" = none
  bool : mg "bool" = none
  str : mg "str" = none
  tuple : mg "tuple" = none
  len : mg "len" = none
  all : mg "all" = none
  lets : ∃ t, mg "LETTERS" = some (.str "abcdefghijklmnopqrstuvwxyz" t)
  longest : ∃ t, mg "LONGEST_NAME" = some (.int 8 t)
  ar : ∃ t, mg "MOST_ARITY" = some (.int 3 t)
section
variable {P : Program} {w : World} {K : PySem.W.Frag} {mg : Str → Option Value} {base : Heap}
def spV (f : V → Bool) : Sp := fun vs H Q _ => ∃ (v : V) (t : String), vs = [v] ∧ Kd H v t ∧ ∀ H', Same H H' → Q (.bl (f v)) H'
theorem scPI : FnScope ["value"] ["value"] (defScope sPI) := ⟨rfl, rfl, rfl, by decide +kernel, rfl, by decide +kernel, by decide +kernel⟩
theorem ok_pi {f : Addr} {fd : FuncData} (F : Fun K "is_plain_integer" "is_plain_integer" sPI f fd) (B : B2 mg) : FnOk P w K mg base CX0 1 f fd ["value"] (spV isInt) := by
  refine F.ok scPI (fun vs H Q E h => ?_) (fun cdv A outer s H vs Q E hr h => ?_)
  · obtain ⟨v, t, rfl, _⟩ := h
    rfl
  · obtain ⟨v, t, rfl, k, q⟩ := h
    have q0 := q H (fun _ _ e => e)
    refine ⟨_, pss_one (ps_ret (pe_and (pe_callB call_isi (by rfl) B.isi (by decide +kernel) (pa_cons (pv 0) (pa_cons (pe_bltn (v := .ty "int") (by rfl) B.int (by decide +kernel) rfl) pa_nil)))
      (pe_one (pe_not (pe_callB call_isi (by rfl) B.isi (by decide +kernel) (pa_cons (pv 0) (pa_cons (pe_bltn (v := .ty "bool") (by rfl) B.bool (by decide +kernel) rfl) pa_nil))))))), ?_⟩
    refine ⟨_, rfl, ?_⟩
    cases k with
    | non => exact ⟨_, _, _, _, false, rfl, .ty "int", Kd.non.ty, kit_ty (by decide +kernel), _, rfl, iteF q0⟩
    | bl b => exact ⟨_, _, _, _, true, rfl, .ty "int", (Kd.bl b).ty, kit_ty (by decide +kernel), _, rfl, iteT ⟨_, rfl, _, _, _, _, true, rfl, .ty "bool", (Kd.bl b).ty, kit_ty (by decide +kernel), _, rfl, q0⟩⟩
    | int i => exact ⟨_, _, _, _, true, rfl, .ty "int", (Kd.int i).ty, kit_ty (by decide +kernel), _, rfl, iteT ⟨_, rfl, _, _, _, _, false, rfl, .ty "bool", (Kd.int i).ty, kit_ty (by decide +kernel), _, rfl, q0⟩⟩
    | str x hx => exact ⟨_, _, _, _, false, rfl, .ty "int", (Kd.str x hx).ty, kit_ty (by decide +kernel), _, rfl, iteF q0⟩
    | lst e => exact ⟨_, _, _, _, false, rfl, .ty "int", (Kd.lst e).ty, kit_ty (by decide +kernel), _, rfl, iteF q0⟩
    | tup e => exact ⟨_, _, _, _, false, rfl, .ty "int", (Kd.tup e).ty, kit_ty (by decide +kernel), _, rfl, iteF q0⟩
    | dic e => exact ⟨_, _, _, _, false, rfl, .ty "int", (Kd.dic e).ty, kit_ty (by decide +kernel), _, rfl, iteF q0⟩
theorem scNm : FnScope ["value", "letter"] ["value"] (defScope sNm) := ⟨rfl, rfl, rfl, by decide +kernel, rfl, by decide +kernel, by decide +kernel⟩
theorem ok_nm {f : Addr} {fd : FuncData} (F : Fun K "is_name" "is_name" sNm f fd) (B : B2 mg) : FnOk P w K mg base CX0 1 f fd ["value"] (spV isNm) := by
  obtain ⟨t1, hlet⟩ := B.lets
  obtain ⟨t2, hlon⟩ := B.longest
  refine F.ok scNm (fun vs H Q E h => ?_) (fun cdv A outer s H vs Q E hr h => ?_)
  · obtain ⟨v, t, rfl, _⟩ := h
    rfl
  · obtain ⟨v, t, rfl, k, q⟩ := h
    have q0 := q H (fun _ _ e => e)
    refine ⟨_, pss_cons (ps_if (PW.pt (pw_or (pt_not (pt_val (pe_callB call_isi (by rfl) B.isi (by decide +kernel) (pa_cons (pv 0) (pa_cons (pe_bltn (v := .ty "str") (by rfl) B.str (by decide +kernel) rfl) pa_nil)))))
        (pw_or1 (pt_not (pt_chain op_le op_le pe_int (pe_callB call_len_str (by rfl) B.len PySem.boot_len (pa_cons (pv 0) pa_nil)) (pe_glob (v := .int 8) rfl hlon ⟨_, rfl⟩))))))
        (pss_one (ps_ret pe_bl)) pss_nil)
      (pss_one (ps_ret (pe_callB (cr_all rfl) (by rfl) B.all (by decide +kernel) (pa_cons (pe_lc (own := [("letter", 1)]) (g := gName 1) (tt := tYes) rfl scNm.nd (pi_str (pv 0)) (blkOk_by (N := ["value", "letter"]) (sc := defScope sNm) (by decide +kernel))
        (fun _ _ _ _ _ => pg_name (i := 1) scNm.nd rfl (Or.inl rfl)) (fun _ _ _ _ _ => pts_nil) (fun _ _ _ _ _ => pe_cmpR op_in_sign (pv 1) (pe_glob (v := .str "abcdefghijklmnopqrstuvwxyz") rfl hlet ⟨_, rfl⟩) rfl)) pa_nil)))), ?_⟩
    refine ⟨_, rfl, ?_⟩
    cases k with
    | non => exact ⟨_, _, _, _, false, rfl, .ty "str", Kd.non.ty, kit_ty (by decide +kernel), _, rfl, iteT (iteT q0)⟩
    | bl b => exact ⟨_, _, _, _, false, rfl, .ty "str", (Kd.bl b).ty, kit_ty (by decide +kernel), _, rfl, iteT (iteT q0)⟩
    | int i => exact ⟨_, _, _, _, false, rfl, .ty "str", (Kd.int i).ty, kit_ty (by decide +kernel), _, rfl, iteT (iteT q0)⟩
    | lst e => exact ⟨_, _, _, _, false, rfl, .ty "str", (Kd.lst e).ty, kit_ty (by decide +kernel), _, rfl, iteT (iteT q0)⟩
    | tup e => exact ⟨_, _, _, _, false, rfl, .ty "str", (Kd.tup e).ty, kit_ty (by decide +kernel), _, rfl, iteT (iteT q0)⟩
    | dic e => exact ⟨_, _, _, _, false, rfl, .ty "str", (Kd.dic e).ty, kit_ty (by decide +kernel), _, rfl, iteT (iteT q0)⟩
    | str x hx =>
      refine ⟨_, _, _, _, true, rfl, .ty "str", (Kd.str x hx).ty, kit_ty (by decide +kernel), _, rfl, iteF ?_⟩
      have hx' : x.length ≤ sizeLine := Nat.le_of_lt (small1000 hx)
      refine ⟨_, rfl, x, rfl, hx', _, _, rfl, rfl, _, rfl, ?_⟩
      refine ite2 (fun h1 => ⟨_, _, rfl, rfl, _, rfl, ?_⟩) (fun h1 => ⟨_, rfl, iteT ?_⟩)
      · by_cases h8 : (x.length : Int) ≤ 8
        · rw [decide_eq_true h8]
          refine iteF ?_
          have hq : isNm (.str x) = x.cps.toList.all fun c => decide (c ∈ letters) := by
            show (decide (1 ≤ (x.length : Int)) && decide ((x.length : Int) ≤ 8) && x.cps.toList.all fun c => decide (c ∈ letters)) = _
            rw [h1, decide_eq_true h8]
            rfl
          rw [hq] at q
          refine ⟨_, rfl, x, rfl, fun D hD => ?_⟩
          refine lc_it (walk_str (z := x)) (fun i H2 => H2 = upd H D (.lst (((x.cps.toList.take i).map fun c => decide (c ∈ letters)).map V.bl))) rfl (fun _ _ _ _ => trivial) ?_ ?_
          · rintro i v H2 H3 hi rfl ⟨rfl, c, hc, rfl⟩
            refine ⟨rfl, keptT ⟨_, rfl, c, _, rfl, rfl, _, upd_same, small1000 ?_, ?_⟩⟩
            · have hz : x.cps.toList.length ≤ 1000 := hx
              rw [List.length_map, List.length_map, List.length_take]
              exact Nat.le_trans (Nat.min_le_right _ _) hz
            · have e1 : (("abcdefghijklmnopqrstuvwxyz" : Str).cps.toList) = letters := by decide +kernel
              have e2 : x.cps.toList.take (i + 1) = x.cps.toList.take i ++ [c] := by
                rw [List.take_add_one]
                have : x.cps.toList[i]? = some c := by simpa using hc
                rw [this]
                rfl
              rw [upd_upd, e1, e2, List.map_append, List.map_append]
              rfl
          · rintro H2 rfl
            refine ⟨D, _, rfl, SqL.of upd_same, ?_⟩
            have e3 : ((x.cps.toList.take x.cps.size).map fun c => decide (c ∈ letters)).all id = x.cps.toList.all fun c => decide (c ∈ letters) := by
              rw [List.all_map, show x.cps.size = x.cps.toList.length from rfl, List.take_length]
              rfl
            rw [e3]
            exact q _ (same_new (fun _ _ e => e) hD)
        · rw [decide_eq_false h8]
          refine iteT ?_
          have hq : isNm (.str x) = false := by
            show (decide (1 ≤ (x.length : Int)) && decide ((x.length : Int) ≤ 8) && x.cps.toList.all fun c => decide (c ∈ letters)) = _
            rw [decide_eq_false h8, Bool.and_false]
            rfl
          rw [hq] at q0
          exact q0
      · have h1' : decide (1 ≤ (x.length : Int)) = false := Bool.eq_false_iff.mpr h1
        have hq : isNm (.str x) = false := by
          show (decide (1 ≤ (x.length : Int)) && decide ((x.length : Int) ≤ 8) && x.cps.toList.all fun c => decide (c ∈ letters)) = _
          rw [h1']
          rfl
        rw [hq] at q0
        exact q0
/-- where the helpers stand -/
structure D2 (K : PySem.W.Frag) (mg : Str → Option Value) (fP fN fF fA fE : Addr) (dP dN dF dA dE : FuncData) : Prop where
  gP : mg "is_plain_integer" = some (.ref fP)
  FP : Fun K "is_plain_integer" "is_plain_integer" sPI fP dP
  bP : Binds K dP ["value"] []
  gN : mg "is_name" = some (.ref fN)
  FN : Fun K "is_name" "is_name" sNm fN dN
  bN : Binds K dN ["value"] []
  gF : mg "is_free_name" = some (.ref fF)
  FF : Fun K "is_free_name" "is_free_name" sFN fF dF
  bF : Binds K dF ["value"] []
  gA : mg "is_arity" = some (.ref fA)
  FA : Fun K "is_arity" "is_arity" sAr fA dA
  bA : Binds K dA ["value"] []
  gE : mg "is_entry" = some (.ref fE)
  FE : Fun K "is_entry" "is_entry" sEn fE dE
  bE : Binds K dE ["value"] []
/-- CORE_WORDS -/
structure Core (K : PySem.W.Frag) (mg : Str → Option Value) (tC : Addr) : Prop where
  g : mg "CORE_WORDS" = some (.ref tC)
  at_ : ∀ H : Hp, SqT K H tC (cores.map V.str)
theorem inV_strs (x : Str) : ∀ l : List Str, inV (.str x) (l.map V.str) = decide (x ∈ l)
  | [] => rfl
  | y :: l => by
    have ih := inV_strs x l
    unfold inV at ih ⊢
    rw [List.map_cons, List.any_cons, ih]
    by_cases h : y = x
    · subst h
      simp [eqV]
    · have h' : ¬ x = y := fun e => h e.symm
      simp [eqV, h, h']
theorem inV_cores {x : Str} : inV (.str x) (cores.map V.str) = decide (x ∈ cores) := inV_strs x cores
variable {fP fN fF fA fE tC : Addr} {dP dN dF dA dE : FuncData}
theorem scFN : FnScope ["value"] ["value"] (defScope sFN) := ⟨rfl, rfl, rfl, by decide +kernel, rfl, by decide +kernel, by decide +kernel⟩
theorem ok_fn (D : D2 K mg fP fN fF fA fE dP dN dF dA dE) (B : B2 mg) (C : Core K mg tC) : FnOk P w K mg base CX0 2 fF dF ["value"] (spV isFree) := by
  have GN : FnOk P w K mg base CX0 1 fN dN ["value"] (spV isNm) := ok_nm D.FN B
  refine D.FF.ok scFN (fun vs H Q E h => ?_) (fun cdv A outer s H vs Q E hr h => ?_)
  · obtain ⟨v, t, rfl, _⟩ := h
    rfl
  · obtain ⟨v, t, rfl, k, q⟩ := h
    refine ⟨_, pss_one (ps_ret (pe_and (pe_call GN hr rfl D.gN D.FN.kp D.bN .nil pass0 (pa_cons (pv 0) pa_nil)) (pe_one (pe_cmpR op_notIn_seq (pv 0) (pe_glob (v := .ref tC) rfl C.g rfl) (by rfl))))), ?_⟩
    refine ⟨_, rfl, v, t, rfl, k, fun H1 s1 => ⟨_, rfl, ?_⟩⟩
    have q1 := q H1 s1
    cases k with
    | str x hx =>
      cases hn : nameOk x with
      | false =>
        have e : isFree (.str x) = false := by
          show (nameOk x && !decide (x ∈ cores)) = false
          rw [hn]
          rfl
        rw [e] at q1
        rw [show isNm (.str x) = false from hn]
        exact iteF q1
      | true =>
        rw [show isNm (.str x) = true from hn]
        refine iteT ⟨_, rfl, tC, _, rfl, .inr (C.at_ H1), rfl, ?_, ?_⟩
        · decide
        · have e : (!inV (.str x) (cores.map V.str)) = isFree (.str x) := by
            show _ = (nameOk x && !decide (x ∈ cores))
            rw [hn, Bool.true_and]
            rw [inV_cores]
          show Q (.bl (!inV (.str x) (cores.map V.str))) H1
          rw [e]
          exact q1
    | non => exact iteF q1
    | bl b => exact iteF q1
    | int i => exact iteF q1
    | lst e => exact iteF q1
    | tup e => exact iteF q1
    | dic e => exact iteF q1
theorem scAr : FnScope ["value"] ["value"] (defScope sAr) := ⟨rfl, rfl, rfl, by decide +kernel, rfl, by decide +kernel, by decide +kernel⟩
theorem ok_ar (D : D2 K mg fP fN fF fA fE dP dN dF dA dE) (B : B2 mg) : FnOk P w K mg base CX0 2 fA dA ["value"] (spV isAr) := by
  have GP : FnOk P w K mg base CX0 1 fP dP ["value"] (spV isInt) := ok_pi D.FP B
  obtain ⟨t3, har⟩ := B.ar
  refine D.FA.ok scAr (fun vs H Q E h => ?_) (fun cdv A outer s H vs Q E hr h => ?_)
  · obtain ⟨v, t, rfl, _⟩ := h
    rfl
  · obtain ⟨v, t, rfl, k, q⟩ := h
    refine ⟨_, pss_one (ps_ret (pe_and (pe_call GP hr rfl D.gP D.FP.kp D.bP .nil pass0 (pa_cons (pv 0) pa_nil)) (pe_one (pe_chain op_le op_le pe_int (pv 0) (pe_glob (v := .int 3) rfl har ⟨_, rfl⟩))))), ?_⟩
    refine ⟨_, rfl, v, t, rfl, k, fun H1 s1 => ⟨_, rfl, ?_⟩⟩
    have q1 := q H1 s1
    cases k with
    | int i =>
      refine iteT ⟨_, rfl, _, _, rfl, rfl, _, rfl, ite2 (fun h0 => ⟨_, _, rfl, rfl, ?_⟩) (fun h0 => ?_)⟩
      · have e : decide (i ≤ 3) = isAr (.int i) := by
          show _ = (decide (0 ≤ i) && decide (i ≤ 3))
          rw [h0, Bool.true_and]
        show Q (.bl (decide (i ≤ 3))) H1
        rw [e]
        exact q1
      · have e : isAr (.int i) = false := by
          show (decide (0 ≤ i) && decide (i ≤ 3)) = false
          rw [Bool.eq_false_iff.mpr h0]
          rfl
        rw [e] at q1
        exact q1
    | str x hx => exact iteF q1
    | non => exact iteF q1
    | bl b => exact iteF q1
    | lst e => exact iteF q1
    | tup e => exact iteF q1
    | dic e => exact iteF q1
end
end SQ6
namespace SQ6
open PySem L2 SQ
/-- what is_entry makes of a value -/
inductive Ent (H : Hp) : V → Option (Str × Int × Int) → Prop
  | no {v : V} {t : String} (k : Kd H v t) (ht : (t == "tuple") = false) : Ent H v none
  | len {a : Addr} {xs : List V} (e : H a = some (.tup xs)) (h : ((xs.length : Int) == 3) = false) : Ent H (.ref a) none
  | bad {a : Addr} {x y z : V} {tx ty tz : String} (e : H a = some (.tup [x, y, z])) (kx : Kd H x tx) (ky : Kd H y ty) (kz : Kd H z tz) (h : (isFree x && (isAr y && isAr z)) = false) : Ent H (.ref a) none
  | good {a : Addr} {n : Str} {i j : Int} (e : H a = some (.tup [.str n, .int i, .int j])) (hn : n.length ≤ 1000) (h : (isFree (.str n) && (isAr (.int i) && isAr (.int j))) = true) : Ent H (.ref a) (some (n, i, j))
theorem Ent.same {H H' : Hp} {v : V} {o : Option (Str × Int × Int)} (s : Same H H') (k : Ent H v o) : Ent H' v o := by
  cases k with
  | no k ht => exact .no (k.same s) ht
  | len e h => exact .len (s _ _ e) h
  | bad e kx ky kz h => exact .bad (s _ _ e) (kx.same s) (ky.same s) (kz.same s) h
  | good e hn h => exact .good (s _ _ e) hn h
section
variable {P : Program} {w : World} {K : PySem.W.Frag} {mg : Str → Option Value} {base : Heap} {fP fN fF fA fE tC : Addr} {dP dN dF dA dE : FuncData}
def spEn : Sp := fun vs H Q _ => ∃ (v : V) (o : Option (Str × Int × Int)), vs = [v] ∧ Ent H v o ∧ ∀ H', Same H H' → Q (.bl o.isSome) H'
theorem scEn : FnScope ["value", "name", "inputs", "outputs"] ["value"] (defScope sEn) := ⟨rfl, rfl, rfl, by decide +kernel, rfl, by decide +kernel, by decide +kernel⟩
theorem st {H H1 H2 : Hp} (a : Same H H1) (b : Same H1 H2) : Same H H2 := fun x o e => b x o (a x o e)
theorem ok_en (D : D2 K mg fP fN fF fA fE dP dN dF dA dE) (B : B2 mg) (C : Core K mg tC) : FnOk P w K mg base CX0 3 fE dE ["value"] spEn := by
  have GF : FnOk P w K mg base CX0 2 fF dF ["value"] (spV isFree) := ok_fn D B C
  have GA : FnOk P w K mg base CX0 2 fA dA ["value"] (spV isAr) := ok_ar D B
  refine D.FE.ok scEn (fun vs H Q E h => ?_) (fun cdv A outer s H vs Q E hr h => ?_)
  · obtain ⟨v, o, rfl, _⟩ := h
    rfl
  · obtain ⟨v, o, rfl, k, q⟩ := h
    refine ⟨_, pss_cons (ps_if (PW.pt (pw_or (pt_not (pt_val (pe_callB call_isi (by rfl) B.isi (by decide +kernel) (pa_cons (pv 0) (pa_cons (pe_bltn (v := .ty "tuple") (by rfl) B.tuple (by decide +kernel) rfl) pa_nil)))))
        (pw_or1 (pt_cmpR op_ne (pe_callB call_len_seq (by rfl) B.len PySem.boot_len (pa_cons (pv 0) pa_nil)) pe_int (nomark _))))) (pss_one (ps_ret pe_bl)) pss_nil)
      (pss_cons (ps_asg (pv 0) (pg_tup rfl (pgs_cons (pg_name (i := 1) scEn.nd rfl (.inl rfl)) (pgs_cons (pg_name (i := 2) scEn.nd rfl (.inl rfl)) (pgs_cons (pg_name (i := 3) scEn.nd rfl (.inl rfl)) pgs_nil)))))
      (pss_one (ps_ret (pe_and (pe_call GF hr rfl D.gF D.FF.kp D.bF .nil pass0 (pa_cons (pv 1) pa_nil)) (pe_and (pe_call GA hr rfl D.gA D.FA.kp D.bA .nil pass0 (pa_cons (pv 2) pa_nil))
        (pe_one (pe_call GA hr rfl D.gA D.FA.kp D.bA .nil pass0 (pa_cons (pv 3) pa_nil)))))))), ?_⟩
    refine ⟨_, rfl, ?_⟩
    have q0 := q H (fun _ _ e => e)
    cases k with
    | no k ht =>
      have fin : ∀ t, (t == "tuple") = false → Kd H v t → kitB t "tuple" = some false := by
        intro t h k
        cases k
        · decide +kernel
        · decide +kernel
        · decide +kernel
        · decide +kernel
        · decide +kernel
        · exact absurd h (by decide)
        · decide +kernel
      exact ⟨_, _, _, _, false, rfl, .ty "tuple", k.ty, kit_ty (fin _ ht k), _, rfl, iteT (iteT q0)⟩
    | @len a xs e h =>
      refine ⟨_, _, _, _, true, rfl, .ty "tuple", (Kd.tup e).ty, kit_ty (by decide +kernel), _, rfl, iteF ?_⟩
      refine ⟨_, rfl, a, xs, rfl, .inr (SqT.of e), rfl, _, rfl, ?_⟩
      have ne : ¬ (V.int (xs.length : Int) = V.int 3) := fun z => by
        have z' : (xs.length : Int) = 3 := V.int.inj z
        rw [z'] at h
        exact absurd h (by decide)
      rw [decide_eq_false ne]
      exact iteT q0
    | @bad a x y z tx ty tz e kx ky kz h =>
      refine ⟨_, _, _, _, true, rfl, .ty "tuple", (Kd.tup e).ty, kit_ty (by decide +kernel), _, rfl, iteF ?_⟩
      refine ⟨_, rfl, a, _, rfl, .inr (SqT.of e), rfl, _, rfl, iteNS rfl ?_⟩
      refine ⟨_, rfl, a, _, rfl, SqT.of e, rfl, _, _, rfl, _, _, rfl, _, _, rfl, rfl, ?_⟩
      refine ⟨_, rfl, x, tx, rfl, kx, fun H1 s1 => ⟨_, rfl, ?_⟩⟩
      cases hx : isFree x with
      | false => exact iteF (q H1 s1)
      | true =>
        rw [hx, Bool.true_and] at h
        refine iteT ⟨_, rfl, y, ty, rfl, ky.same s1, fun H2 s2 => ⟨_, rfl, ?_⟩⟩
        cases hy : isAr y with
        | false => exact iteF (q H2 (st s1 s2))
        | true =>
          rw [hy, Bool.true_and] at h
          refine iteT ⟨_, rfl, z, tz, rfl, (kz.same s1).same s2, fun H3 s3 => ?_⟩
          rw [h]
          exact q H3 (st s1 (st s2 s3))
    | @good a n i j e hn h =>
      refine ⟨_, _, _, _, true, rfl, .ty "tuple", (Kd.tup e).ty, kit_ty (by decide +kernel), _, rfl, iteF ?_⟩
      refine ⟨_, rfl, a, _, rfl, .inr (SqT.of e), rfl, _, rfl, iteNS rfl ?_⟩
      refine ⟨_, rfl, a, _, rfl, SqT.of e, rfl, _, _, rfl, _, _, rfl, _, _, rfl, rfl, ?_⟩
      rw [Bool.and_eq_true, Bool.and_eq_true] at h
      obtain ⟨h1, h2, h3⟩ := h
      refine ⟨_, rfl, .str n, _, rfl, .str n hn, fun H1 s1 => ⟨_, rfl, ?_⟩⟩
      rw [h1]
      refine iteT ⟨_, rfl, .int i, _, rfl, .int i, fun H2 s2 => ⟨_, rfl, ?_⟩⟩
      rw [h2]
      refine iteT ⟨_, rfl, .int j, _, rfl, .int j, fun H3 s3 => ?_⟩
      rw [h3]
      exact q H3 (st s1 (st s2 s3))
end
end SQ6
/-! Own exceptions over any of the built-in bases, made as values (by position, by keyword, without arguments), read, and asked for their class. -/
namespace SQ
open PySem PySem.Spec PyProof.Rows L2
open PySem.W (Looks)
section
variable {prog : Program} {w : World} {A : Around} {E : Value → Shared → Prop} {R : Result → Shared → Prop}
  {h : Heap} {g : Array GenState} {d : Drawn} {t : Nat} {os : OsState}
  {nm q : Str} {C N : Addr} {bs bm bmB : List Value} {hdct : Bool} {sn : List Str} {sub : List Value} {ab : Bool}
  {col : Option Bool} {dd : Option Addr} {k0 k1 k2 k3 k5 : Option Value} {B newId initId : String} {kw : List (Str × Value)}

theorem chk_new (FB : ExcBaseFacts B newId initId bmB) (hT : ∀ X : String, bm.contains (.type X) = bmB.contains (.type X))
    {rest : List Value} {Q : Unit → Shared → Prop}
    (hC : h.get? C = some (excClassObj nm q C N bs bm hdct sn sub ab col dd k0 k1 k2 k3 k5 newId))
    (hq : Q () ⟨h, g, d, t, os⟩) :
    wpAny (model prog w) A (checkBuiltinCall newId ⟨.ref C :: rest, kw⟩) Q E ⟨h, g, d, t, os⟩ := by
  have inB : (Value.ref C :: bm).contains (.type B) = true := by
    rw [List.contains_cons, hT, FB.hasB, Bool.or_true]
  have nostar := FB.noStar
  simp only [checkBuiltinCall, FB.newKind, FB.newSplit, FB.newRow]
  repeat (first
    | refine wpAny_loadPart_at hC ?_
    | (refine wpAny_isSubtype_exc hC ?_; rw [inB])
    | refine wpAny_staticBase_exc hC ?_
    | refine wpAny_madeBy_exc hC ?_
    | simp only [bne_self_eq_false, Bool.false_eq_true, if_false]
    | wp_step)
  exact hq
theorem run_new (FB : ExcBaseFacts B newId initId bmB) (hT : ∀ X : String, bm.contains (.type X) = bmB.contains (.type X))
    {rest : List Value} (hC : h.get? C = some (excClassObj nm q C N bs bm hdct sn sub ab col dd k0 k1 k2 k3 k5 newId))
    (hrest : rest.length ≤ sizeLine)
    (hq : R (.ok (.ret (.ref (h.objs.size + 1)))) ⟨(h.push (PySem.W.kdv_tup rest)).push (PySem.HandSPX.excO C h.objs.size), g, d, t, os⟩) :
    codeAny (model prog w) A (.builtin newId ⟨.ref C :: rest, kw⟩) R ⟨h, g, d, t, os⟩ := by
  have en := FB.ends
  have inB : (Value.ref C :: bm).contains (.type B) = true := by
    rw [List.contains_cons, hT, FB.hasB, Bool.or_true]
  have inA : (Value.ref C :: bm).contains (.type "AttributeError") = false := by
    rw [List.contains_cons, hT, FB.noAttr]
    rfl
  have inN : (Value.ref C :: bm).contains (.type "NameError") = false := by
    rw [List.contains_cons, hT, FB.noName]
    rfl
  refine codeAny_builtinAt FB.entry ?_
  unfold Builtin.«BaseException.__new__»
  refine PySem.wpAt_bind ?_
  show PySem.wpAt _ _ _ (stack >>= _) _ _ _
  refine PySem.wpAt_bind (PySem.wpAt_stack fun p below => PySem.wpAt_of_wpAny ?_)
  wp_walk
  refine PySem.wpAt_of_wpAny ?_
  rw [FB.owner]
  repeat (first
    | with_reducible refine wpAny_madeHere_exc FB.canon hC ?_
    | with_reducible refine wpAny_loadPart_at hC ?_
    | (with_reducible refine wpAny_isSubtype_exc hC ?_; first | rw [inB] | rw [inA] | rw [inN])
    | wp_step)
  show R _ _
  rw [Heap.size_push]
  exact hq
theorem run_tcall (FB : ExcBaseFacts B newId initId bmB) (hT : ∀ X : String, bm.contains (.type X) = bmB.contains (.type X))
    {rest : List Value} {fI : Addr} {Q : Fin → Shared → Prop}
    (hC : h.get? C = some (excClassObj nm q C N bs bm hdct sn sub ab col dd k0 k1 k2 k3 k5 newId))
    (hi : Looks (model prog w) h (typeLookup (.ref C) "__init__") (some (.ref fI)))
    (hb : ∀ self, Looks (model prog w) h (bindSpecial (.ref fI) self) (.ref fI, [self])) (hrest : rest.length ≤ sizeLine)
    (hq : codeAny (model prog w) A (.call (.ref fI) ⟨.ref (h.objs.size + 1) :: rest, kw⟩)
      (fun r s' => match r with
        | .ok (.ret v) => v = .none ∧ Q (.done (.ret (.ref (h.objs.size + 1)))) s'
        | .ok _ => False
        | .error e => E e s')
      ⟨(h.push (PySem.W.kdv_tup rest)).push (PySem.HandSPX.excO C h.objs.size), g, d, t, os⟩) :
    wpAny (model prog w) A (Builtin.«type.__call__» ⟨.ref C :: rest, kw⟩) Q E ⟨h, g, d, t, os⟩ := by
  repeat (first
    | with_reducible refine wpAny_loadPart_at hC ?_
    | with_reducible refine wpAny_madeBy_exc hC ?_
    | wp_step)
  refine codeAny_call_builtin_code (Code.quiet_builtin _ FB.quiet) (chk_new FB hT hC ?_)
  refine run_new FB hT hC hrest ?_
  show wpAny _ _ _ _ _ _
  have keep : ∀ b o, h.get? b = some o → ((h.push (PySem.W.kdv_tup rest)).push (PySem.HandSPX.excO C h.objs.size)).get? b = some o :=
    fun b o e => Heap.get?_push_of_some _ (Heap.get?_push_of_some _ e)
  have hC1 := keep _ _ hC
  have got : ((h.push (PySem.W.kdv_tup rest)).push (PySem.HandSPX.excO C h.objs.size)).get? (h.objs.size + 1) = some (PySem.HandSPX.excO C h.objs.size) := by heap_get
  have inC : (Value.ref C :: bm).contains (.ref C) = true := by simp
  have i1 := hi.keeps keep
  have b1 := (hb (.ref (h.objs.size + 1))).keeps keep
  unfold isInstance
  repeat (first
    | with_reducible refine wpAny_loadPart_at got ?_
    | (with_reducible refine wpAny_isSubtype_exc hC1 ?_; rw [inC])
    | wp_step)
  show wpAny _ _ (typeLookup (.ref C) _) _ _ _
  refine i1.at ?_
  refine wpAny_holding (wpAny_bind (b1.at ?_))
  refine wpAny_bind (wpAny_call (codeAny_mono hq fun r s' z => ?_))
  rcases r with e | (_ | _ | _ | v) <;> first | exact z | exact z.elim | skip
  obtain ⟨rfl, z⟩ := z
  first
    | exact wpAny_pure (wpAny_pure z)
    | (wp_walk; exact z)
theorem run_ccall (FB : ExcBaseFacts B newId initId bmB) (hT : ∀ X : String, bm.contains (.type X) = bmB.contains (.type X))
    {rest : List Value} {fI : Addr}
    (hC : h.get? C = some (excClassObj nm q C N bs bm hdct sn sub ab col dd k0 k1 k2 k3 k5 newId))
    (hi : Looks (model prog w) h (typeLookup (.ref C) "__init__") (some (.ref fI)))
    (hb : ∀ self, Looks (model prog w) h (bindSpecial (.ref fI) self) (.ref fI, [self])) (hrest : rest.length ≤ sizeLine)
    (hq : codeAny (model prog w) (A.under (.builtin "type.__call__" ⟨.ref C :: rest, kw⟩)) (.call (.ref fI) ⟨.ref (h.objs.size + 1) :: rest, kw⟩)
      (PySem.W.InitBack (h.objs.size + 1) R)
      ⟨(h.push (PySem.W.kdv_tup rest)).push (PySem.HandSPX.excO C h.objs.size), g, d, t, os⟩) :
    codeAny (model prog w) A (.call (.ref C) ⟨rest, kw⟩) R ⟨h, g, d, t, os⟩ := by
  have f1 := tc_lookup
  have f2 := tc_bind (.ref C)
  have hTy : (⟨h, g, d, t, os⟩ : Shared).TypeIs (.ref C) "type" := ⟨_, hC, rfl⟩
  refine codeAny_of_tree ?_
  show wpAny _ _ (callAny (.ref C) _) _ _ _
  repeat (any_goals (first | assumption | with_reducible refine wpAny_loadPart_at hC ?_ | wp_step))
  refine ⟨rfl, ?_⟩
  refine codeAny_call_builtin_at (Code.quiet_builtin _ (by decide +kernel)) entry_typeCall (wpAny_check_type_call_sub hC (run_tcall FB hT hC hi hb hrest ?_))
  refine codeAny_mono hq fun r s' z => ?_
  rcases r with e | (_ | _ | _ | v) <;> exact z
end
end SQ
namespace SQ
open PySem PySem.Spec PyProof.Rows L2

/-! ### what the written part says of an error's class -/
/-- the text of «def __init__(self, f): self.f = f» -/
def iArgs (f : Str) (p1 p2 : Pos) : Arguments := { posonlyargs := [], args := [{ arg := "self", annotation := none, pos := p1 }, { arg := f, annotation := none, pos := p2 }], vararg := none, kwonlyargs := [], kw_defaults := [], kwarg := none, defaults := [] }
def iBody (f : Str) (q1 q2 q3 q4 : Pos) : List Stmt := [.Assign [.Attribute (.Name "self" q1) f q2] (.Name f q3) q4]
def iScope (f : Str) : Scope := { kind := .function, names := [(PySem.Str.ofString "self", .local), (f, .local)], isGenerator := false, isCoroutine := false, more := [] }
/-- a built-in base: its name, its makers, its mro -/
structure BaseB (B newId initId : String) (bmB : List Value) : Prop where
  fb : ExcBaseFacts B newId initId bmB
  sf : StoreFacts B bmB "object.__setattr__" "object"
theorem bValue : BaseB "ValueError" "ValueError.__new__" "ValueError.__init__" [.type "ValueError", .type "Exception", .type "BaseException", .type "object"] := ⟨F.excBase_ValueError, F.store_ValueError⟩
theorem bType : BaseB "TypeError" "TypeError.__new__" "TypeError.__init__" [.type "TypeError", .type "Exception", .type "BaseException", .type "object"] := ⟨F.excBase_TypeError, F.store_TypeError⟩
theorem bLookup : BaseB "LookupError" "LookupError.__new__" "LookupError.__init__" [.type "LookupError", .type "Exception", .type "BaseException", .type "object"] := ⟨F.excBase_LookupError, F.store_LookupError⟩
theorem bArith : BaseB "ArithmeticError" "ArithmeticError.__new__" "ArithmeticError.__init__" [.type "ArithmeticError", .type "Exception", .type "BaseException", .type "object"] := ⟨F.excBase_ArithmeticError, F.store_ArithmeticError⟩

/-- the facts that one check finds (a class at C; its field f) -/
def errOk (K : PySem.W.Frag) (C : Addr) (f : Str) (bmB : List Value) (newId : String) : Bool :=
  PySem.W.excInitIn K C bmB newId && PySem.W.excOver K C bmB && PySem.W.hasDictIn K C && PySem.W.keepIn K (.ref C) &&
  (PySem.W.findIn K (.ref C) "__setattr__" == some (some (.builtin "object.__setattr__"))) &&
  (PySem.W.findIn K (.ref C) "__getattribute__" == some (some (.builtin "BaseException.__getattribute__"))) &&
  (PySem.W.findIn K (.ref C) "__getattr__" == some none) && (PySem.W.findIn K (.ref C) f == some none) &&
  (PySem.W.subIn K (.ref C) (.type "BaseException") == some true) && (PySem.W.clsIn K C).isSome &&
  (PySem.W.findIn K (.ref C) "__class__" == some (some (.builtin "object.__class__"))) && (PySem.W.mroIn K C (.type "object") == some true)
structure ErrC (K : PySem.W.Frag) (C : Addr) (f : Str) (bmB : List Value) (newId : String) : Prop where
  ini : PySem.W.excInitIn K C bmB newId = true
  ov : PySem.W.excOver K C bmB = true
  hd : PySem.W.hasDictIn K C = true
  kp : PySem.W.keepIn K (.ref C) = true
  sa : PySem.W.findIn K (.ref C) "__setattr__" = some (some (.builtin "object.__setattr__"))
  ga : PySem.W.findIn K (.ref C) "__getattribute__" = some (some (.builtin "BaseException.__getattribute__"))
  gg : PySem.W.findIn K (.ref C) "__getattr__" = some none
  no : PySem.W.findIn K (.ref C) f = some none
  ex : PySem.W.subIn K (.ref C) (.type "BaseException") = some true
  cl : (PySem.W.clsIn K C).isSome = true
  ca : PySem.W.findIn K (.ref C) "__class__" = some (some (.builtin "object.__class__"))
  ob : PySem.W.mroIn K C (.type "object") = some true
theorem ErrC.of {K : PySem.W.Frag} {C : Addr} {f : Str} {bmB : List Value} {newId : String} (h : errOk K C f bmB newId = true) : ErrC K C f bmB newId := by
  unfold errOk at h
  simp only [Bool.and_eq_true, beq_iff_eq] at h
  obtain ⟨⟨⟨⟨⟨⟨⟨⟨⟨⟨⟨h1, h2⟩, h3⟩, h4⟩, h5⟩, h6⟩, h7⟩, h8⟩, h9⟩, h10⟩, h11⟩, h12⟩ := h
  exact ⟨h1, h2, h3, h4, h5, h6, h7, h8, h9, h10, h11, h12⟩
/-- .. and of its __init__ -/
structure ErrI (K : PySem.W.Frag) (C fI : Addr) (f : Str) : Prop where
  at_ : PySem.W.findIn K (.ref C) "__init__" = some (some (.ref fI))
  ty : PySem.W.typeIn K (.ref fI) = some (.type "function")
  fn : ∃ (qual : Str) (oc : Value) (od : Option Addr) (doc pm : Value) (an : Option Addr) (cdv ct : Value) (osl : Array (Option Value)) (p1 p2 q1 q2 q3 q4 : Pos),
    K.lookup fI = some ⟨oc, od, .func (PySem.W.fnOf "__init__" qual (iArgs f p1 p2) (iBody f q1 q2 q3 q4) (iScope f) .none .none doc pm an cdv ct), osl⟩ ∧ PySem.W.codeIn K cdv qual = true
/-- the three fields -/
def Fld (f : Str) : Prop := f = "value" ∨ f = "index" ∨ f = "limit"

section
variable {prog : Program} {w : World} {A : Around} {E : Value → Shared → Prop} {R : Result → Shared → Prop} {hp : Heap} {g : Array GenState} {d : Drawn} {t : Nat} {os : OsState}
  {K : PySem.W.Frag} {B newId initId : String} {bmB : List Value} {C fI : Addr} {f : Str}
/-- self.f = v on an exception that has no dict yet -/
theorem store_first (SF : StoreFacts B bmB "object.__setattr__" "object") (T : ErrC K C f bmB newId) {x t0 : Addr} {tk : Tok} {v : Value} (X : K.In hp) (hx : hp.get? x = some (PySem.HandSPX.excO C t0))
    (hq : ∀ h' tk' dx, (∀ b o, b ≠ x → hp.get? b = some o → h'.get? b = some o) → hp.objs.size ≤ dx → dx ≠ x →
      h'.get? x = some { cls := .ref C, dict := some dx, data := .fields #[.ref t0, .none, .none, .none, .bool false, .none] } →
      h'.Ns1 dx (fun y => if y = f then some v else none) → R (.ok (.ret .none)) ⟨h', g, d, tk', os⟩) :
    codeAny (model prog w) A (.call (.builtin "object.__setattr__") ⟨[.ref x, .str f tk, v], []⟩) R ⟨hp, g, d, t, os⟩ := by
  have ht : PySem.W.takerIn K C f = some none := by
    unfold PySem.W.takerIn
    rw [T.no]
    rfl
  have ne : x ≠ hp.objs.size := Nat.ne_of_lt (Heap.lt_size hx)
  refine PySem.W.osa_openX (od := none) SF X ⟨hx, rfl, rfl, trivial⟩ T.ov ht fun b => ?_
  obtain ⟨cd, hc, hd'⟩ := PySem.W.any_some T.hd
  refine wpAny_bind (wpAny_pure (wpAny_bind (PySem.W.instanceDict_exc (c2 := .none) hx (PySem.W.looks_clsIn X hc) hd' ?_)))
  show wpAny _ _ (Builtin.ObjectAttr.storeInDict hp.objs.size (.str f tk) f v) _ _ _
  refine PySem.HandSPX.store_in_new ?_ ?_
  · exact ⟨_, #[], _, (Heap.get?_update_ne _ _ _ _ ne.symm).trans (Heap.get?_push_at rfl rfl), rfl, fun e he => absurd he (by simp), fun _ => rfl⟩
  · intro h' tk' hn' hs
    have hx1 : (hp.push { cls := .type "dict", data := .dict #[] }).get? x = some (PySem.HandSPX.excO C t0) := Heap.get?_push_of_some _ hx
    refine hq h' tk' hp.objs.size (fun b o hb ho => ?_) (Nat.le_refl _) ne.symm ?_ hn'
    · exact (hs.2 b (Nat.ne_of_lt (Heap.lt_size ho))).trans ((Heap.get?_update_ne _ _ _ _ hb).trans (Heap.get?_push_of_some _ ho))
    · exact (hs.2 x ne).trans (Heap.get?_update_self _ hx1 rfl)
end
/-- an error made: its object at e, its dict at dx, both new -/
structure Made (h h' : Heap) (e C dx : Addr) (f : Str) (v : Value) : Prop where
  keep : ∀ b o, h.get? b = some o → h'.get? b = some o
  new : h.objs.size ≤ e
  obj : ∃ t1 : Addr, h'.get? e = some ({ cls := .ref C, dict := some dx, data := .fields #[.ref t1, .none, .none, .none, .bool false, .none] } : Obj)
  dbig : h.objs.size ≤ dx
  dne : dx ≠ e
  ns : h'.Ns1 dx (fun y => if y = f then some v else none)
theorem ld_loc {M : Model} {s : Shared} {name : Str} {scope : Scope} {L a : Addr} {cd : Value} {m : Str → Option Value} {x : Str} {pos : Pos} {v : Value} {Q : Value → Shared → Prop} {A : Around} {E : Value → Shared → Prop} (hn : s.heap.Ns L m) (hv : m x = some v) (h : Q v s)
    (hk : scope.kind = .function := by rfl) (hl : (envOfC name scope L a cd).kindOf x = some .local := by rfl) (hd : (x == ("__debug__" : Str)) = false := by decide) :
    wpAny M A (eval (.Name x pos) (envOfC name scope L a cd)) Q E s := wpAny_Name (wpAny_loadName_local hk hl hn hv h) hd
section
variable {prog : Program} {w : World} {A : Around} {E : Value → Shared → Prop} {R : Result → Shared → Prop} {s : Shared}
  {K : PySem.W.Frag} {B newId initId : String} {bmB : List Value} {C fI : Addr} {f : Str}
/-- the run of __init__, the value coming by position or by keyword -/
theorem run_init (hf : Fld f) (SF : StoreFacts B bmB "object.__setattr__" "object") (T : ErrC K C f bmB newId) (J : ErrI K C fI f) {x t0 : Addr} {v : Value} {args : Args} (ha : args = ⟨[.ref x, v], []⟩ ∨ args = ⟨[.ref x], [(f, v)]⟩)
    (X : K.In s.heap) (hlim : s.heap.NoLimit) (hx : s.heap.get? x = some (PySem.HandSPX.excO C t0)) (hroom : A.depth < recursionLimit)
    (hq : ∀ h' tk dx, (∀ b o, b ≠ x → s.heap.get? b = some o → h'.get? b = some o) → s.heap.objs.size ≤ dx → dx ≠ x →
      h'.get? x = some { cls := .ref C, dict := some dx, data := .fields #[.ref t0, .none, .none, .none, .bool false, .none] } →
      h'.Ns1 dx (fun y => if y = f then some v else none) → R (.ok (.ret .none)) { s with heap := h', toks := tk }) :
    codeAny (model prog w) A (.call (.ref fI) args) R s := by
  obtain ⟨qual, oc, od, doc, pm, an, cdv, ct, osl, p1, p2, q1, q2, q3, q4, ho, hcd⟩ := J.fn
  have key : ∀ (bnd : BindsTo s (PySem.W.fnOf "__init__" qual (iArgs f p1 p2) (iBody f q1 q2 q3 q4) (iScope f) .none .none doc pm an cdv ct) args [("self", .ref x), (f, v)]), codeAny (model prog w) A (.call (.ref fI) args) R s := by
    intro bnd
    rcases hf with rfl | rfl | rfl
    all_goals
      refine Att.call_fn X hlim ho hcd hroom bnd (by first | rfl | decide | with_unfolding_all rfl) (fun s₁ IC => ?_) rfl rfl rfl
      obtain ⟨h₁, tk₁, rfl⟩ := IC.toInCall.same
      have k : ∀ b o, s.heap.get? b = some o → h₁.get? b = some o := IC.toInCall.keep
      have hn := IC.toInCall.ns
      have X₁ : K.In h₁ := X.keeps k
      have hx₁ := k _ _ hx
      show wpAny _ _ (execs _ _) _ _ _
      refine wpAny_execs_cons (plainObj_wpAny_Assign_Attribute ?_)
      refine ld_loc (v := v) hn (by first | rfl | with_unfolding_all rfl | kernel_rfl) (ld_loc (v := .ref x) hn (by first | rfl | with_unfolding_all rfl | kernel_rfl) ?_)
      refine PySem.W.set_plain X₁ (ox := PySem.HandSPX.excO C t0) (od := none) ⟨hx₁, rfl, rfl, trivial⟩ T.sa ?_
      refine store_first SF T X₁ hx₁ (fun h₃ tk₃ dx k₃ dn dne hx₃ hn₃ => ?_)
      show wpAny _ _ (execs _ _) _ _ _
      have z : s.heap.objs.size < h₁.objs.size := hn.lt
      exact wpAny_execs_nil (hq h₃ tk₃ dx (fun b o hb e => k₃ b o hb (k b o e)) (Nat.le_of_lt (Nat.lt_of_lt_of_le z dn)) dne hx₃ hn₃)
  refine key ?_
  rcases hf with rfl | rfl | rfl
  all_goals
    rcases ha with rfl | rfl
    · exact BindsTo.of_eq (by first | rfl | with_unfolding_all rfl | kernel_rfl)
    · exact BindsTo.of_eq (by first | rfl | with_unfolding_all rfl | kernel_rfl)
/-- C(v), C(f=v) -/
theorem run_made (hf : Fld f) (BB : BaseB B newId initId bmB) (T : ErrC K C f bmB newId) (J : ErrI K C fI f) {v : Value} {pos : List Value} {kw : List (Str × Value)} (ha : (pos = [v] ∧ kw = []) ∨ (pos = [] ∧ kw = [(f, v)]))
    (X : K.In s.heap) (hlim : s.heap.NoLimit) (hroom : A.depth + 1 < recursionLimit)
    (hq : ∀ h' tk e dx, Made s.heap h' e C dx f v → R (.ok (.ret (.ref e))) { s with heap := h', toks := tk }) :
    codeAny (model prog w) A (.call (.ref C) ⟨pos, kw⟩) R s := by
  obtain ⟨nm, N, qn, bs, bm, hdct, sn, sub, ab, col, dd, k0, k1, k2, k3, k5, hC, hT⟩ := PySem.W.excInit_of X T.ini
  obtain ⟨hp, g, dr, tk, os⟩ := s
  have k : ∀ b o, hp.get? b = some o → ((hp.push (PySem.W.kdv_tup pos)).push (PySem.HandSPX.excO C hp.objs.size)).get? b = some o := fun b o e => Heap.get?_push_of_some _ (Heap.get?_push_of_some _ e)
  have hget : ((hp.push (PySem.W.kdv_tup pos)).push (PySem.HandSPX.excO C hp.objs.size)).get? (hp.objs.size + 1) = some (PySem.HandSPX.excO C hp.objs.size) := by heap_get
  have hpos : pos.length ≤ sizeLine := by
    rcases ha with ⟨rfl, _⟩ | ⟨rfl, _⟩
    · show 1 ≤ sizeLine
      decide
    · show 0 ≤ sizeLine
      decide
  refine run_ccall BB.fb hT hC (PySem.W.looks_findIn X J.at_) (fun self => PySem.W.bind_fn X self J.ty) hpos ?_
  refine run_init (s := ⟨(hp.push (PySem.W.kdv_tup pos)).push (PySem.HandSPX.excO C hp.objs.size), g, dr, tk, os⟩) (v := v) hf BB.sf T J ?_ (X.keeps k) (hlim.keeps k) hget ?_ ?_
  · rcases ha with ⟨rfl, rfl⟩ | ⟨rfl, rfl⟩
    · exact .inl rfl
    · exact .inr rfl
  · rw [make_depth]
    exact hroom
  · intro h' tk' dx k' dn dne hx hns
    have old : ∀ b o, hp.get? b = some o → h'.get? b = some o := fun b o e => k' b o (Nat.ne_of_lt (Nat.lt_succ_of_lt (Heap.lt_size e))) (k b o e)
    have z : hp.objs.size + 1 + 1 ≤ dx := by
      have q := dn
      first
        | exact q
        | (simpa only [Heap.size_push] using q)
    exact ⟨rfl, hq h' tk' (hp.objs.size + 1) dx ⟨old, Nat.le_succ _, ⟨_, hx⟩, Nat.le_trans (Nat.le_trans (Nat.le_succ _) (Nat.le_succ _)) z, dne, hns⟩⟩
end
/-! ### the rules over the layer -/
section
variable {X : Cx} {pins : List (Addr × Obj)} {σ : L2.St} {H : Hp} {s : Shared}
/-- two new objects laid and tracked -/
theorem laid_two (I : Inv X pins σ H s) {h' : Heap} {a d : Addr} {o u : HO} {t' : Nat} (k : ∀ b z, s.heap.get? b = some z → h'.get? b = some z) (ha : s.heap.objs.size ≤ a) (hd : s.heap.objs.size ≤ d) (ne : d ≠ a)
    (oka : ObjOk X.prog X.w (upd (upd H d u) a o) h' a o) (okd : ObjOk X.prog X.w (upd (upd H d u) a o) h' d u) : Inv X pins σ (upd (upd H d u) a o) { s with heap := h', toks := t' } := by
  have na : H a = none := I.hok.fresh ha
  have nd : H d = none := I.hok.fresh hd
  have far : ∀ {b : Addr} {z : Obj}, s.heap.get? b = some z → b ≠ a ∧ b ≠ d := fun {b z} q =>
    ⟨Nat.ne_of_lt (Nat.lt_of_lt_of_le (Heap.lt_size q) ha), Nat.ne_of_lt (Nat.lt_of_lt_of_le (Heap.lt_size q) hd)⟩
  have same : ∀ {b : Addr} {z : HO}, H b = some z → upd (upd H d u) a o b = some z := fun {b z} q => by
    rw [upd_ne (ne_of_none q na), upd_ne (ne_of_none q nd)]
    exact q
  refine I.un (t' := t') ⟨fun b z q _ _ _ => k b z q, fun b z q _ _ _ => ⟨z.slots, k b z q⟩, fun b z q n _ => ?_, fun b z q _ => ⟨z, k b z q⟩, fun b xs q => same q, fun b z xs q => same q, fun b ps q => ⟨#[], by rw [same q]; simp⟩⟩ ?_
  · rw [upd_ne (far q).1, upd_ne (far q).2]
    exact n
  · intro b z q
    by_cases hb : b = a
    · subst hb
      rw [upd_same] at q
      cases q
      exact oka
    · rw [upd_ne hb] at q
      by_cases hb2 : b = d
      · subst hb2
        rw [upd_same] at q
        cases q
        exact okd
      · rw [upd_ne hb2] at q
        exact (I.hok b z q).stay (fun c y _ r => k c y r) (fun c r => same r) fun c xs r => same r
end
/-- at a: an error of the class at C whose field f holds v -/
def ErrAt (H : Hp) (a C : Addr) (f : Str) (v : V) : Prop := ∃ d, H a = some (exo a C (some d)) ∧ H d = some (exd d [(f, v)])
/-- at a: an error of the class at C, with a dict or without -/
def ErrIs (H : Hp) (a C : Addr) : Prop := ∃ d, H a = some (exo a C d)  ∧ ∀ x, d = some x → ∃ fs, H x = some (exd x fs)
theorem ErrAt.is {H : Hp} {a C : Addr} {f : Str} {v : V} (h : ErrAt H a C f v) : ErrIs H a C := by
  obtain ⟨d, h1, h2⟩ := h
  exact ⟨some d, h1, fun x e => by cases e; exact ⟨_, h2⟩⟩
theorem ErrAt.same {H H' : Hp} {a C : Addr} {f : Str} {v : V} (s : Same H H') (h : ErrAt H a C f v) : ErrAt H' a C f v := by
  obtain ⟨d, h1, h2⟩ := h
  exact ⟨d, s _ _ h1, s _ _ h2⟩
theorem ErrIs.same {H H' : Hp} {a C : Addr} (s : Same H H') (h : ErrIs H a C) : ErrIs H' a C := by
  obtain ⟨d, h1, h2⟩ := h
  refine ⟨d, s _ _ h1, fun x e => ?_⟩
  obtain ⟨fs, h3⟩ := h2 x e
  exact ⟨fs, s _ _ h3⟩
/-- C(e) and C(f=e): a new error -/
def tErr (C : Addr) (f : Str) (te : TE) : TE := fun σ H Q => te σ H fun v H1 => ∀ (a : Addr) (H' : Hp), Same H1 H' → H1 a = none → ErrAt H' a C f v → Q (.ref a) H'
/-- C() -/
def tErr0 (C : Addr) : TE := fun σ H Q => ∀ (a : Addr) (H' : Hp), Same H H' → H a = none → ErrIs H' a C → Q (.ref a) H'
section
variable {X : Cx} {B newId initId : String} {bmB : List Value} {C fI : Addr} {f x : Str} {e : Expr} {te : TE} {p pos kpos : Pos} {k : Nat}
theorem made_end {pins : List (Addr × Obj)} {σ : L2.St} {H : Hp} {s : Shared} {Q : VK} {v : V} {v' : Value} (I : Inv X pins σ H s) (rv : RelV v v') {h' : Heap} {tk : Nat} {a dx : Addr} (M : Made s.heap h' a C dx f v')
    (q : ∀ (a : Addr) (H' : Hp), Same H H' → H a = none → ErrAt H' a C f v → Q (.ref a) H') : EP X pins σ Q (.ref a) { s with heap := h', toks := tk } := by
  obtain ⟨t1, ho⟩ := M.obj
  have na : H a = none := I.hok.fresh M.new
  have nd : H dx = none := I.hok.fresh M.dbig
  have J : Inv X pins σ (upd (upd H dx (exd dx [(f, v)])) a (exo a C (some dx))) { s with heap := h', toks := tk } :=
    laid_two I M.keep M.new M.dbig M.dne (exo_ok ho) (exd_ok M.ns (relO_put (fs := []) rv fun g => True.intro))
  refine ⟨.ref a, _, J, rfl, q a _ (fun b o z => ?_) na ⟨dx, upd_same, ?_⟩⟩
  · rw [upd_ne (ne_of_none z na), upd_ne (ne_of_none z nd)]
    exact z
  · rw [upd_ne M.dne, upd_same]
theorem pe_err (hf : Fld f) (BB : BaseB B newId initId bmB) (T : ErrC X.K C f bmB newId) (J : ErrI X.K C fI f) (gC : X.mg x = some (.ref C)) (hr : Room k X.A) (hg : Gl X x) (he : PE X e te)
    (hdb : (x == ("__debug__" : Str)) = false := by decide) (hs : starEach [e] X.env = (false, eval e X.env) :: starEach [] X.env := by rfl) : PE X (.Call (.Name x p) [e] [] pos) (tErr C f te) := by
  constructor
  intro pins s σ H Q I h
  refine wpAny_Call_Name_kw (ld_glob I hg gC ?_ hdb)
  refine PySem.W.callWith_K (h₀ := X.base) I.ok.mod.kin T.kp ?_ hs (by rfl)
  rw [hs]
  show wpAny _ _ (spliced ((false, eval e X.env) :: backTo pos (starEach [] X.env))) _ _ s
  refine Calls.spliced_cons (thn (he.run pins s σ H _ I h) fun u s1 ⟨v, H1, I1, r1, q1⟩ => ?_)
  refine Calls.spliced_nil ⟨I1.kIn, ?_⟩
  show wpAny _ _ (call (.ref C) [u]) _ _ _
  exact wpAny_call (run_made (pos := [u]) (kw := []) hf BB T J (.inl ⟨rfl, rfl⟩) I1.kIn I1.nolimit (by have := hr.dp; omega) fun h' tk a dx M => made_end I1 r1 M q1)
theorem pe_errK (hf : Fld f) (BB : BaseB B newId initId bmB) (T : ErrC X.K C f bmB newId) (J : ErrI X.K C fI f) (gC : X.mg x = some (.ref C)) (hr : Room k X.A) (hg : Gl X x) (he : PE X e te)
    (hdb : (x == ("__debug__" : Str)) = false := by decide) : PE X (.Call (.Name x p) [] [⟨some f, e, kpos⟩] pos) (tErr C f te) := by
  constructor
  intro pins s σ H Q I h
  refine wpAny_Call_Name_kw (ld_glob I hg gC ?_ hdb)
  refine PySem.W.callWith_KW0 (h₀ := X.base) I.ok.mod.kin T.kp rfl ?_
  have hk : PK X [⟨some f, e, kpos⟩] (tCons te tNil) := pk_cons he pk_nil
  have h2 : tCons te tNil σ H (fun zs H1 => match zs with
      | [v] => ∀ (a : Addr) (H' : Hp), Same H1 H' → H1 a = none → ErrAt H' a C f v → Q (.ref a) H'
      | _ => False) := h
  refine thn (hk.run pos pins s σ H _ I h2) ?_
  intro us s1 ⟨zs, H1, I1, r1, q1⟩
  refine ⟨I1.kIn, ?_⟩
  cases r1 with
  | nil => exact q1.elim
  | cons rv rr =>
    cases rr with
    | cons _ _ => exact q1.elim
    | nil =>
      rename_i u
      show wpAny _ _ (call (.ref C) [] [(f, u)]) _ _ _
      exact wpAny_call (run_made (pos := []) (kw := [(f, u)]) hf BB T J (.inr ⟨rfl, rfl⟩) I1.kIn I1.nolimit (by have := hr.dp; omega) fun h' tk a dx M => made_end I1 rv M q1)
/-- the facts of a class without an __init__ of its own -/
theorem pe_err0 {bmB : List Value} (FB : ExcBaseFacts B newId initId bmB) (q : PySem.W.excIn X.K C bmB newId = true) (gC : X.mg x = some (.ref C)) (kC : PySem.W.keepIn X.K (.ref C) = true) (hg : Gl X x)
    (hdb : (x == ("__debug__" : Str)) = false := by decide) : PE X (.Call (.Name x p) [] [] pos) (tErr0 C) := by
  constructor
  intro pins s σ H Q I h
  refine wpAny_Call_Name_kw (ld_glob I hg gC ?_ hdb)
  refine PySem.W.callWith_K0 I.kIn kC ?_
  show wpAny _ _ (call (.ref C) []) _ _ _
  obtain ⟨bm, N, nm, qn, bs, hdct, sn, sub, ab, col, dd, k0, k1, k2, k3, k5, mN, hC, hN, hni, T⟩ := exc_obj I.kIn q
  refine wpAny_call_exc_subT FB T hC hN hni (fun h' a hm => ?_) (by show 0 ≤ sizeLine; decide)
  have hn : H a = none := I.hok.gone hm.new
  obtain ⟨t, ht, _, _⟩ := hm.there
  refine ⟨.ref a, upd H a (exo a C none), I.laidN hm.keeps hm.new hn (exo_ok (t1 := t) ht), rfl, h a _ (fun b o z => ?_) hn ⟨none, upd_same, fun x e => nomatch e⟩⟩
  rw [upd_ne (ne_of_none z hn)]
  exact z
/-- err.f -/
def tErrGet (C : Addr) (f : Str) (te : TE) : TE := fun σ H Q => te σ H fun x H1 => ∃ (a : Addr) (v : V), x = .ref a ∧ ErrAt H1 a C f v ∧ Q v H1
theorem pe_errGet (Cs : Addr → Prop) (T : ∀ C, Cs C → ∃ bmB newId, ErrC X.K C f bmB newId) (he : PE X e te) (hb : attributeBase e f X.env (eval e X.env) = eval e X.env) :
    PE X (.Attribute e f pos) (fun σ H Q => te σ H fun x H1 => ∃ (a C : Addr) (v : V), x = .ref a ∧ Cs C ∧ ErrAt H1 a C f v ∧ Q v H1) := by
  constructor
  intro pins s σ H Q I h
  refine attr_of hb (thn (he.run pins s σ H _ I h) ?_)
  intro u s1 ⟨x, H1, I1, rx, a, C, v, ex, hC, ⟨d, ha, hd⟩, q⟩
  subst ex
  obtain rfl : u = Value.ref a := rx
  obtain ⟨bmB, newId, T⟩ := T C hC
  obtain ⟨t1, ho⟩ := exo_at I1.hok ha
  obtain ⟨mA, hns, hr⟩ := exd_at I1.hok hd
  obtain ⟨od, hod, hl⟩ := lookIn_ns hns
  have l : List.lookup f [(f, v)] = some v := by simp [List.lookup]
  obtain ⟨u, hu, ru⟩ := RelO.some_of (v := v) (o := mA f) (by rw [← l]; exact hr f)
  have J : PySem.W.InstAt s1.heap a { cls := .ref C, dict := some d, data := .fields #[.ref t1, .none, .none, .none, .bool false, .none] } C (some od) := ⟨ho, rfl, rfl, hod⟩
  exact HandSPX.exc_get I1.kIn J T.ga T.gg T.ex (PySem.W.findObj_own T.hd T.no rfl (by rw [hl, hu])) (handed_of ru) ⟨v, H1, I1.tok _, ru, q⟩
end
/-! ### isinstance of an error -/
structure IsF (K : PySem.W.Frag) : Prop where
  gt : PySem.W.specialIn K (.builtin "object.__class__") "__get__" = some (some (.builtin "getset_descriptor.__get__"))
  tk : PySem.W.takesIn K (.builtin "object.__class__") = some true
/-- what isinstance asks of the class -/
structure IsC (K : PySem.W.Frag) (C : Addr) : Prop where
  ga : PySem.W.findIn K (.ref C) "__getattribute__" = some (some (.builtin "BaseException.__getattribute__"))
  gg : PySem.W.findIn K (.ref C) "__getattr__" = some none
  ex : PySem.W.subIn K (.ref C) (.type "BaseException") = some true
  cl : (PySem.W.clsIn K C).isSome = true
  ca : PySem.W.findIn K (.ref C) "__class__" = some (some (.builtin "object.__class__"))
  ob : PySem.W.mroIn K C (.type "object") = some true
theorem ErrC.isc {K : PySem.W.Frag} {C : Addr} {f : Str} {bmB : List Value} {newId : String} (T : ErrC K C f bmB newId) : IsC K C := ⟨T.ga, T.gg, T.ex, T.cl, T.ca, T.ob⟩
def isOk (K : PySem.W.Frag) (C : Addr) : Bool := (PySem.W.findIn K (.ref C) "__getattribute__" == some (some (.builtin "BaseException.__getattribute__"))) &&
  (PySem.W.findIn K (.ref C) "__getattr__" == some none) && (PySem.W.subIn K (.ref C) (.type "BaseException") == some true) && (PySem.W.clsIn K C).isSome &&
  (PySem.W.findIn K (.ref C) "__class__" == some (some (.builtin "object.__class__"))) && (PySem.W.mroIn K C (.type "object") == some true)
theorem IsC.of {K : PySem.W.Frag} {C : Addr} (h : isOk K C = true) : IsC K C := by
  unfold isOk at h
  simp only [Bool.and_eq_true, beq_iff_eq] at h
  obtain ⟨⟨⟨⟨⟨h1, h2⟩, h3⟩, h4⟩, h5⟩, h6⟩ := h
  exact ⟨h1, h2, h3, h4, h5, h6⟩
def rIsErr (K : PySem.W.Frag) : List V → Hp → VK → Prop := fun xs H Q => ∃ (a C : Addr) (c : V) (u : Value) (b : Bool), xs = [.ref a, c] ∧ ErrIs H a C ∧ IsC K C ∧ (∀ z, RelV c z → z = u) ∧ PySem.W.kitOne K (.ref C) u = some b ∧ Q (.bl b) H
theorem cr_isErr {X : Cx} (W : IsF X.K) : CallR X (.builtin "isinstance") (rIsErr X.K) := by
  intro pins s σ H xs us Q I r h
  obtain ⟨a, C, c, u, b, rfl, ⟨d, ha, hd⟩, T, hc, e, q⟩ := h
  obtain ⟨u1, u2, rfl, r1, r2⟩ := vals2 r
  obtain rfl : u1 = Value.ref a := r1
  have e2 := hc _ r2
  subst e2
  obtain ⟨t1, ho⟩ := exo_at I.hok ha
  have J : ∃ od, PySem.W.InstAt s.heap a { cls := .ref C, dict := d, data := .fields #[.ref t1, .none, .none, .none, .bool false, .none] } C od := by
    cases d with
    | none => exact ⟨none, ho, rfl, rfl, trivial⟩
    | some x =>
      obtain ⟨fs, hx⟩ := hd x rfl
      obtain ⟨mA, hns, _⟩ := exd_at I.hok hx
      obtain ⟨od, hod, _⟩ := lookIn_ns hns
      exact ⟨some od, ho, rfl, rfl, hod⟩
  obtain ⟨od, J⟩ := J
  exact PySem.W.kia_one (PySem.W.kitx_exc T.cl T.ga T.gg T.ex T.ca W.gt W.tk T.ob) I.kIn J e (fun z => nomatch z) fun tk => ⟨.bl b, H, I.tok tk, rfl, q⟩
end SQ
/-! Such errors raised, caught, read and asked in the suite. -/
namespace SQ
open PySem PySem.Spec PyProof.Rows L2
section
variable {X : Cx} {B newId initId : String} {bmB : List Value} {C fI : Addr} {f x : Str} {e : Expr} {te : TE} {p pos : Pos} {k : Nat}
/-- C(e), to be raised -/
theorem pmk_err (hf : Fld f) (BB : BaseB B newId initId bmB) (T : ErrC X.K C f bmB newId) (J : ErrI X.K C fI f) (ty : PySem.W.typeIn X.K (.ref C) = some (.type "type")) (gC : X.mg x = some (.ref C)) (hr : Room k X.A) (hg : Gl X x) (he : PE X e te)
    (hdb : (x == ("__debug__" : Str)) = false := by decide) (hs : starEach [e] X.env = (false, eval e X.env) :: starEach [] X.env := by rfl) :
    PMk X (.Call (.Name x p) [e] [] pos) (fun σ H Q => te σ H fun v H1 => ∀ d, H1 d = none → Q (.ref C) (some d) (upd H1 d (.xd [(f, v)]))) := by
  intro pins s σ H Q I h
  refine wpAny_Call_Name_kw (ld_glob I hg gC ?_ hdb)
  refine PySem.W.callWith_K (h₀ := X.base) I.ok.mod.kin T.kp ?_ hs (by rfl)
  rw [hs]
  show wpAny _ _ (spliced ((false, eval e X.env) :: backTo pos (starEach [] X.env))) _ _ s
  refine Calls.spliced_cons (thn (he.run pins s σ H _ I h) fun u s1 ⟨v, H1, I1, r1, q1⟩ => ?_)
  refine Calls.spliced_nil ⟨I1.kIn, ?_⟩
  show wpAny _ _ (call (.ref C) [u]) _ _ _
  have hlim := I1.nolimit
  obtain ⟨hp, g, dr, tk, os⟩ := s1
  refine wpAny_call (run_made (pos := [u]) (kw := []) hf BB T J (.inl ⟨rfl, rfl⟩) I1.kIn hlim (by have := hr.dp; omega) fun h' tk' a dx M => ?_)
  show MkP X pins σ Q (.ref a) ⟨h', g, dr, tk', os⟩
  obtain ⟨t1, ho⟩ := M.obj
  obtain ⟨G', g1, g2⟩ := restrict h' fun b => decide (b ≠ a)
  have gk : ∀ b, b ≠ a → G'.get? b = h'.get? b := fun b hb => g1 b (decide_eq_true hb)
  have ge : G'.get? a = none := g2 a (by simp)
  have old : ∀ b o, hp.get? b = some o → G'.get? b = some o := fun b o q =>
    (gk b (Nat.ne_of_lt (Nat.lt_of_lt_of_le (Heap.lt_size q) M.new))).trans (M.keep b o q)
  have ob : ObjOk X.prog X.w (upd H1 dx (.xd [(f, v)])) G' dx (.xd [(f, v)]) :=
    ⟨_, M.ns.at (fun o q => (gk dx M.dne).trans q), fun y => relO_put (fs := []) (mA := fun _ => none) r1 (fun g => True.intro) y⟩
  have J1 : Inv X pins σ (upd H1 dx (.xd [(f, v)])) ⟨G', g, dr, tk', os⟩ := I1.laid (t' := tk') old M.dbig ob
  refine ⟨a, _, _, ⟨G', g, dr, tk', os⟩, _, .ref C, some dx, rfl, J1, fun b o q => ?_, ge, ho, ⟨rfl, rfl⟩, rfl, rfl, ?_, rfl, I1.bare, raises_own T.ex ty, q1 dx (I1.hok.fresh M.dbig)⟩
  · by_cases hb : b = a
    · have q' : G'.get? b = some o := q
      rw [hb, ge] at q'
      cases q'
    · exact (gk b hb).symm.trans q
  · rw [upd_ne (Ne.symm M.dne)]
    exact I1.hok.fresh M.new
end
section
variable {X : Cx} {a : Addr} {oe : Obj} {cls : Value} {d : Option Addr} {pn : List (Addr × Obj)} {f : Str} {e : Expr} {te : TE} {pos : Pos}
/-- what is known of the error that a suite holds -/
def Held (K : PySem.W.Frag) (H : Hp) (cls : Value) (d : Option Addr) (C : Addr) (f : Str) (v : V) : Prop := cls = .ref C ∧ ∃ dd, d = some dd ∧ H dd = some (.xd [(f, v)])
theorem held_at {pins : List (Addr × Obj)} {σ : L2.St} {H : Hp} {s : Shared} {C : Addr} {v : V} (I : Inv (X.suite a ((a, oe) :: pn)) pins σ H s) (hz : Zc cls d oe) (hf : ∃ vs, oe.data = .fields vs) (h : Held X.K H cls d C f v) :
    ∃ (od : Obj) (u : Value), PySem.W.InstAt s.heap a oe C (some od) ∧ PySem.W.lookIn f od = some (some u) ∧ RelV v u := by
  obtain ⟨rfl, dd, rfl, hd⟩ := h
  obtain ⟨ha, _⟩ := I.pin (a, oe) (List.mem_append_left _ List.mem_cons_self)
  obtain ⟨vs, hv⟩ := hf
  have hx : ObjOk X.prog X.w H s.heap dd (.xd [(f, v)]) := I.hok dd _ hd
  obtain ⟨mA, hns, hr⟩ := hx
  obtain ⟨od, ho, hl⟩ := lookIn_ns hns
  have l : List.lookup f [(f, v)] = some v := by simp [List.lookup]
  obtain ⟨u, hu, ru⟩ := RelO.some_of (v := v) (o := mA f) (by rw [← l]; exact hr f)
  exact ⟨od, u, ⟨ha, hz.1, by unfold PySem.W.notCls; rw [hv] <;> rfl, by rw [hz.2]; exact ho⟩, by rw [hl, hu], ru⟩
/-- err.f, err the error that the suite holds -/
theorem pe_heldGet (hz : Zc cls d oe) (hf : ∃ vs, oe.data = .fields vs) (he : PE (X.suite a ((a, oe) :: pn)) e te) (hb : attributeBase e f X.env (eval e X.env) = eval e X.env := by rfl) :
    PE (X.suite a ((a, oe) :: pn)) (.Attribute e f pos) (fun σ H Q => te σ H fun y H1 => y = .ref a ∧ ∃ (C : Addr) (v : V) (bmB : List Value) (newId : String), Held X.K H1 cls d C f v ∧ ErrC X.K C f bmB newId ∧ Q v H1) := by
  constructor
  intro pins s σ H Q I h
  refine attr_of hb (thn (he.run pins s σ H _ I h) ?_)
  intro u s1 ⟨y, H1, I1, ry, ey, C, v, bmB, newId, hh, T, q⟩
  subst ey
  obtain rfl : u = Value.ref a := ry
  obtain ⟨od, u, J, hl, ru⟩ := held_at I1 hz hf hh
  exact HandSPX.exc_get I1.kIn J T.ga T.gg T.ex (PySem.W.findObj_own T.hd T.no rfl hl) (handed_of ru) ⟨v, H1, I1.tok _, ru, q⟩
/-- isinstance(err, c) -/
theorem cr_heldIs (W : IsF X.K) (hz : Zc cls d oe) (hf : ∃ vs, oe.data = .fields vs) : CallR (X.suite a ((a, oe) :: pn)) (.builtin "isinstance")
    (fun xs H Q => ∃ (c : V) (u : Value) (b : Bool) (C : Addr) (v : V) (f : Str), xs = [.ref a, c] ∧ Held X.K H cls d C f v ∧ IsC X.K C ∧ (∀ z, RelV c z → z = u) ∧ PySem.W.kitOne X.K (.ref C) u = some b ∧ Q (.bl b) H) := by
  intro pins s σ H xs us Q I r h
  obtain ⟨c, u, b, C, v, f, rfl, hh, T, hc, e, q⟩ := h
  obtain ⟨u1, u2, rfl, r1, r2⟩ := vals2 r
  obtain rfl : u1 = Value.ref a := r1
  have e2 := hc _ r2
  subst e2
  obtain ⟨od, _, J, _, _⟩ := held_at I hz hf hh
  exact PySem.W.kia_one (PySem.W.kitx_exc T.cl T.ga T.gg T.ex T.ca W.gt W.tk T.ob) I.kIn J e (fun z => nomatch z) fun tk => ⟨.bl b, H, I.tok tk, rfl, q⟩
end
end SQ
/-! Such errors made anywhere (also in an except suite); promises that say that the error has no context. -/
namespace SQ
open PySem PySem.Spec PyProof.Rows L2
section
variable {X : Cx} {B newId initId : String} {bmB : List Value} {C fI : Addr} {f x : Str} {e : Expr} {te : TE} {p pos : Pos} {k : Nat}
/-- C(e), to be raised -/
theorem pmk5_err (hf : Fld f) (BB : BaseB B newId initId bmB) (T : ErrC X.K C f bmB newId) (J : ErrI X.K C fI f) (ty : PySem.W.typeIn X.K (.ref C) = some (.type "type")) (gC : X.mg x = some (.ref C)) (hr : X.A.depth + 1 < recursionLimit) (hg : Gl X x) (he : PE X e te)
    (hdb : (x == ("__debug__" : Str)) = false := by decide) (hs : starEach [e] X.env = (false, eval e X.env) :: starEach [] X.env := by rfl) :
    L2H.PMk5 X (.Call (.Name x p) [e] [] pos) (fun σ H Q => te σ H fun v H1 => ∀ d, H1 d = none → Q (.ref C) (some d) (upd H1 d (.xd [(f, v)]))) := by
  intro pins s σ H Q I h
  refine wpAny_Call_Name_kw (ld_glob I hg gC ?_ hdb)
  refine PySem.W.callWith_K (h₀ := X.base) I.ok.mod.kin T.kp ?_ hs (by rfl)
  rw [hs]
  show wpAny _ _ (spliced ((false, eval e X.env) :: backTo pos (starEach [] X.env))) _ _ s
  refine Calls.spliced_cons (thn (he.run pins s σ H _ I h) fun u s1 ⟨v, H1, I1, r1, q1⟩ => ?_)
  refine Calls.spliced_nil ⟨I1.kIn, ?_⟩
  show wpAny _ _ (call (.ref C) [u]) _ _ _
  have hlim := I1.nolimit
  obtain ⟨hp, g, dr, tk, os⟩ := s1
  refine wpAny_call (run_made (pos := [u]) (kw := []) hf BB T J (.inl ⟨rfl, rfl⟩) I1.kIn hlim hr fun h' tk' a dx M => ?_)
  show L2N.MkP X pins σ Q (.ref a) ⟨h', g, dr, tk', os⟩ ∧ L2H.Six (.ref a) ⟨h', g, dr, tk', os⟩
  obtain ⟨t1, ho⟩ := M.obj
  obtain ⟨G', g1, g2⟩ := restrict h' fun b => decide (b ≠ a)
  have gk : ∀ b, b ≠ a → G'.get? b = h'.get? b := fun b hb => g1 b (decide_eq_true hb)
  have ge : G'.get? a = none := g2 a (by simp)
  have old : ∀ b o, hp.get? b = some o → G'.get? b = some o := fun b o q =>
    (gk b (Nat.ne_of_lt (Nat.lt_of_lt_of_le (Heap.lt_size q) M.new))).trans (M.keep b o q)
  have ob : ObjOk X.prog X.w (upd H1 dx (.xd [(f, v)])) G' dx (.xd [(f, v)]) :=
    ⟨_, M.ns.at (fun o q => (gk dx M.dne).trans q), fun y => relO_put (fs := []) (mA := fun _ => none) r1 (fun g => True.intro) y⟩
  have J1 : Inv X pins σ (upd H1 dx (.xd [(f, v)])) ⟨G', g, dr, tk', os⟩ := I1.laid (t' := tk') old M.dbig ob
  refine ⟨⟨a, _, _, ⟨G', g, dr, tk', os⟩, _, .ref C, some dx, rfl, J1, fun b o q => ?_, ge, ho, ⟨rfl, rfl, fun vs z => by cases z; rfl⟩, rfl, rfl, ?_, rfl, I1.bare, raises_own T.ex ty, q1 dx (I1.hok.fresh M.dbig)⟩, ?_⟩
  · by_cases hb : b = a
    · have q' : G'.get? b = some o := q
      rw [hb, ge] at q'
      cases q'
    · exact (gk b hb).symm.trans q
  · rw [upd_ne (Ne.symm M.dne)]
    exact I1.hok.fresh M.new
  · intro a' oe vs ea hg hd
    cases ea
    have hg' : h'.get? a = some oe := hg
    rw [ho] at hg'
    cases hg'
    cases hd
    show (4 : Nat) < 6
    decide
theorem pmk_of5 {t : L2.St → Hp → XK → Prop} (h : L2H.PMk5 X e t) : L2.PMk X e t := fun pins s σ H Q I q => thn (h pins s σ H Q I q) fun u s' ⟨⟨a, oe, vs, sI, H', cls, d, r0, J, k, hne, ha, hz, rest⟩, _⟩ =>
  ⟨a, oe, vs, sI, H', cls, d, r0, J, k, hne, ha, hz.zc, rest⟩
end
theorem cxN_to {P : Program} {w : World} {outer : List Env} {H : Hp} {s : Shared} {E : XK} {u : Value} {t : Shared} (c : L2N.CX P w outer H s E u t) : L2.CX P w outer H s E u t := by
  obtain ⟨a, B, H', cls, d, e, fl, rest⟩ := c
  exact ⟨a, B, H', cls, d, e, L2H.flyingZ_imp (fun _ z => z.zc) fl, rest⟩
theorem cxUpN {P : Program} {w : World} : StX.CXUp (L2N.CX P w) := by
  rintro outer s H s2 H2 E e t un kp ho ⟨a, B, H', cls, d, ea, fl, hok, ub, na, os, ag, he⟩
  have ub2 : UB (frs outer) H H' s.heap B t.heap := by
    constructor
    · exact fun b o q n hb => ub.keep b o (kp b o q) (un.free b o q n (fun z => nomatch z)) hb
    · exact fun b o q hb => ub.slot b o (kp b o q) hb
    · exact fun b o q n => ub.free b o (kp b o q) (un.free b o q n (fun z => nomatch z))
    · exact fun b o q hb => ub.there b o (kp b o q) hb
    · exact fun b xs q => ub.tups b xs (un.tups b xs q)
    · exact fun b o xs q => ub.frzs b o xs (un.frzs b o xs q)
    · intro b ps q
      obtain ⟨m1, e1⟩ := un.tbls b ps q
      obtain ⟨m2, e2⟩ := ub.tbls b _ e1
      refine ⟨m1 ++ m2, ?_⟩
      rw [e2, Array.append_assoc]
  exact ⟨a, B, H', cls, d, ea, fl, hok, ub2, na, os.trans ho, ag, he⟩
section
variable {P : Program} {w : World} {K : PySem.W.Frag} {mg : Str → Option Value} {base : Heap}
/-- a def that may raise, its error without context -/
theorem okN {x qual : Str} {st : Stmt} {f : Addr} {fd : FuncData} {N ps : List Str} {k : Nat} {sp : Sp} (F : Fun K x qual st f fd) (S : FnScope N ps (defScope st)) (len : ∀ vs H Q E, sp vs H Q E → vs.length = ps.length)
    (hb : ∀ (cdv : Value) (A : Around) (outer : List Env) (s : Shared) (H : Hp) (vs : List V) (Q : VK) (E : XK), Room k (A.deeper (envOfC qual (defScope st) s.heap.objs.size f cdv)) → sp vs H Q E →
      ∃ t, PSs (cxOf (L2N.CX P w) P w K mg base N qual (defScope st) f cdv A outer s H E) (defBody st) t ∧ t { nx := fun _ H' => Q .non H', rt := Q } (start N vs) H) : FnOk P w K mg base (L2N.CX P w) (k + 1) f fd ps sp := by
  obtain ⟨oc, od, kV, doc, pm, an, cdv, ct, osl, rfl, lk, hcd⟩ := F.ex
  exact fn_of lk hcd S len fun A outer s H vs Q E hr hsp => hb cdv A outer s H vs Q E hr hsp
/-- the context is forgotten -/
theorem fnR_ctx {k : Nat} {f : Addr} {sp : Sp} (F : FnR P w K mg base (L2N.CX P w) k f sp) : FnR P w K mg base (L2.CX P w) k f sp := by
  intro A outer s H us vs Q E hr e0 r hsp
  refine codeAny_mono (F A outer s H us vs Q E hr e0 r hsp) fun r s' h => ?_
  cases r with
  | error e => exact cxN_to h
  | ok fl =>
    cases fl <;> exact h
end
end SQ
/-! for i, x in enumerate(a tuple) -/
namespace SQ
open PySem PySem.Spec PyProof.Rows L2
def ItT (K : PySem.W.Frag) (a : Addr) : It :=
  ⟨fun i H => ∃ (xs : List V) (x : V), SqT K H a xs ∧ xs[i]? = some x,
    fun i H v H' => ∃ T x, v = .ref T ∧ H T = none ∧ H' = upd H T (.tup [.int (i : Nat), x]) ∧ ∀ xs, SqT K H a xs → xs[i]? = some x,
    fun i H => ∃ xs : List V, SqT K H a xs ∧ xs.length = i⟩
/-- the makings of enumerate(v) -/
theorem meets_enum1 {v : Value} {o : Obj} {G : Heap → Prop} (B : Begins v o G) :
    Meets (Builtin.«enumerate.__new__» ⟨[.type "enumerate", v], []⟩) (fun _ R s => G s.heap ∧
      R (.ok (.ret (.ref (s.heap.push o).objs.size))) { s with heap := (s.heap.push o).push ({ cls := .type "enumerate", data := .fields #[.none, .bool false, .ref s.heap.objs.size, rawInt 0, .none, .none] } : Obj) }) := by
  refine .of_wp fun prog w A R s h => ?_
  obtain ⟨hp, g, d, tk, os⟩ := s
  obtain ⟨hG, hR⟩ := h
  have isSub := sub_enumerate
  have it : ∀ {A' : Around} {E : Value → Shared → Prop} {Q : Value → Shared → Prop}, Q (.ref hp.objs.size) ⟨hp.push o, g, d, tk, os⟩ →
      wpAny (model prog w) A' (pyIter v) Q E ⟨hp, g, d, tk, os⟩ := fun q => B.iter prog w _ _ ⟨hp, g, d, tk, os⟩ _ hG q
  wp_walk using it
  refine wpAny_stack_any fun st => wpAny_pure ?_
  split
  · rename_i c _ _ _ _ _
    cases (c == Value.type "enumerate") <;>
    · wp_walk using it
      exact ⟨_, rfl, hR⟩
  · wp_walk using it
    exact ⟨_, rfl, hR⟩
section
variable {prog : Program} {w : World} {A : Around} {E : Value → Shared → Prop} {s : Shared}
theorem enum_of {v : Value} {o : Obj} {G : Heap → Prop} {Q : Value → Shared → Prop} (B : Begins v o G) (hG : G s.heap)
    (h : ∀ h', IsEnum h' (s.heap.objs.size + 1) s.heap.objs.size 0 .none → h'.get? s.heap.objs.size = some o →
      (∀ b u, s.heap.get? b = some u → h'.get? b = some u) → Q (.ref (s.heap.objs.size + 1)) { s with heap := h' }) :
    wpAny (model prog w) A (call (.type "enumerate") [v]) Q E s := by
  refine callType_new F.called_enumerate (by decide) (F.typeCall_enumerate_1 _) (F.newCall_enumerate_1 _) (fun obj => F.args_object_init_2 obj _)
    F.entry_enumerate_new (meets_enum1 B) ⟨hG, ?_⟩
  have hz : (s.heap.push o).objs.size = s.heap.objs.size + 1 := Heap.size_push ..
  show _ ∧ _
  rw [hz]
  have got := Heap.get?_push_size (s.heap.push o)
    (o := { cls := .type "enumerate", data := .fields #[.none, .bool false, .ref s.heap.objs.size, rawInt 0, .none, .none] }) rfl
  rw [hz] at got
  exact ⟨⟨_, got, rfl⟩, h _ got (Heap.get?_push_of_some _ (Heap.get?_push_size _ B.free)) fun b u x => Heap.get?_push_of_some _ (Heap.get?_push_of_some _ x)⟩
end
theorem tup_of {h : Heap} {a : Addr} {its : List Value} (p : IsTup h a its.toArray) : h.IsTuple a its.toArray := by
  obtain ⟨o, e, c, n, d⟩ := p
  exact ⟨o, e, c, n, d⟩
theorem turn_enumT {P : Program} {w : World} {K : PySem.W.Frag} {elts : List Expr} {kk : Nat} {tpos : Pos} (a e it : Addr) :
    Turn P w K (.Tuple elts kk tpos) (ItT K a) [e, it] e (fun i h => (∃ old, IsEnum h e it ((i : Nat) : Int) old) ∧ h.IsTupleIter it a i ∧ e ≠ it ∧ a ≠ it ∧ e ≠ a) where
  mem := by simp
  obj := fun i h ⟨⟨old, he⟩, ⟨o, ho, hc, hd⟩, _⟩ b hb => by
    rcases (show b = e ∨ b = it by simpa using hb) with z | z
    · rw [z]
      exact ⟨_, he, fun v q => nomatch q⟩
    · rw [z]
      exact ⟨o, ho, fun v q => by rw [hd] at q; cases q⟩
  keep := fun i h h' ⟨⟨old, he⟩, ⟨o, ho, r⟩, ne⟩ k => ⟨⟨old, k e (by simp) _ he⟩, ⟨o, k it (by simp) _ ho, r⟩, ne⟩
  item := by
    intro X hP hw hK hc i pins s σ H E I hf ⟨⟨old, he⟩, hit, ne1, ne2, ne3⟩ ⟨xs, x, hq, hx⟩
    subst hP hw hK
    obtain ⟨its, rv, p, hz⟩ := I.tuple hq
    obtain ⟨u, hu, ru⟩ := rv.get hx
    have hel : e < s.heap.objs.size := Heap.lt_size he
    have hil : it < s.heap.objs.size := by
      obtain ⟨_, q, _⟩ := hit
      exact Heap.lt_size q
    have hd : X.A.in1.handled = none := I.ok.hd hc
    have hlt : i < its.toArray.size := by
      have := (List.getElem?_eq_some_iff.mp hu).1
      simpa using this
    refine wpAny_pyNext_enum_itemD (Draws.tuple (prog := X.prog) (w := X.w) (A := X.A.in1) hd it a ne2 its.toArray) he ⟨hit, tup_of p⟩ hlt ne1 (by simp [ne1, ne3]) ?_
    intro u' h' tk hu' ho ⟨hit', _⟩ hT hsz hk
    have eu : u' = u := by
      have h1 : its[i]? = some u' := by simpa using hu'
      rw [hu] at h1
      exact (Option.some.inj h1).symm
    subst eu
    refine ⟨_, rfl, wpAny_letOwnedTupleGo_enum (s := { s with heap := h', toks := tk + 1 }) ho fun h'' he' sb => ?_⟩
    have hT2 : h''.get? s.heap.objs.size = some { cls := .type "tuple", data := .seq #[.int i tk, u'] } := (sb.2 _ (Nat.ne_of_gt hel)).trans hT
    have new : ObjOk X.prog X.w (upd H s.heap.objs.size (.tup [.int (i : Nat), x])) h'' s.heap.objs.size (.tup [.int (i : Nat), x]) :=
      ⟨by show 2 ≤ sizeLine; decide, [.int i tk, u'], .cons ⟨_, rfl⟩ (.cons ru .nil), ⟨_, hT2, rfl, _, rfl⟩⟩
    have I1 : Inv X pins σ (upd H s.heap.objs.size (.tup [.int (i : Nat), x])) { s with heap := h'', toks := tk + 1 } :=
      I.turnedNew (ch := [e, it]) (fun b ob hb q => (sb.2 b (fun z => hb (by simp [z]))).trans (hk b ob (fun z => hb (by simp [z])) (fun z => hb (by simp [z])) q)) hf (Nat.le_refl _) new
    refine ⟨.ref s.heap.objs.size, _, I1, rfl, ⟨_, x, rfl, I.hok.fresh (Nat.le_refl _), rfl, fun ys hy => by rw [I.tuple_inj hy hq]; exact hx⟩, ⟨⟨u', ?_⟩, ?_, ne1, ne2, ne3⟩, fun b hb => ?_⟩
    · rw [show ((i + 1 : Nat) : Int) = (i : Int) + 1 by omega]
      exact he'
    · obtain ⟨o, q, r⟩ := hit'
      exact ⟨o, (sb.2 it (Ne.symm ne1)).trans q, r⟩
    · have hb' : b < s.heap.objs.size := by
        rcases (show b = e ∨ b = it by simpa using hb) with z | z
        · rw [z]
          exact hel
        · rw [z]
          exact hil
      rw [upd_ne (Nat.ne_of_lt hb')]
      exact (hf b hb).1
  done := by
    intro X hP hw hK hc i pins s σ H E I hf ⟨⟨old, he⟩, hit, ne1, ne2, ne3⟩ ⟨xs, hq, hx⟩
    subst hP hw hK
    obtain ⟨its, rv, p, hz⟩ := I.tuple hq
    obtain ⟨f0, f1, f2, f3, f4, f5⟩ := hf it (by simp)
    have hl := rv.length
    have hd : X.A.in1.handled = none := I.ok.hd hc
    have hn : its.toArray.size = i := by
      rw [List.size_toArray]
      omega
    refine wpAny_pyNext_enum_endD (Draws.tuple (prog := X.prog) (w := X.w) (A := X.A.in1) hd it a ne2 its.toArray) he ?_ ?_
    · rw [hn]
      exact ⟨hit, tup_of p⟩
    · intro h' eb
      exact ⟨rfl, I.turned (t' := s.toks) (fun b o hb q => eb b o hb q) f0 f1 f3 f4 f5⟩
  self := fun A i s Q E ⟨⟨_, he⟩, _⟩ h => wpAny_pyIter_enum he h
def iEnumT (K : PySem.W.Frag) (ta : TA) : TI := fun σ H R => ta σ H fun vs H1 => ∃ a xs, vs = [.ref a] ∧ SqT K H1 a xs ∧ R (ItT K a) H1
theorem pi_enumT {X : Cx} {e : Expr} {ta : TA} {p pos tpos : Pos} {elts : List Expr} {kk : Nat} (hg : Gl X "enumerate") (hm : X.mg "enumerate" = none) (ha : PA X [e] ta)
    (hs : starEach [e] X.env = [(false, eval e X.env)] := by rfl) : PI X (.Tuple elts kk tpos) (.Call (.Name "enumerate" p) [e] [] pos) (iEnumT X.K ta) := by
  constructor
  intro pins s σ H R I h
  refine Call_ (ld_blt I hg hm boot_enumerate (PyProof.Rows.callWith_type1 (thn (ha.run pos pins s σ H _ I h) ?_) hs rfl))
  intro us s1 ⟨vs, H1, I1, r1, a, xs, ex, hq, q⟩
  subst ex
  cases r1 with
  | cons r rr =>
    cases rr
    cases r
    obtain ⟨its, rv, p', hz⟩ := I1.tuple hq
    have hal : a < s1.heap.objs.size := by
      obtain ⟨o, e', _⟩ := p'
      exact Heap.lt_size e'
    refine enum_of (begins_tuple a its.toArray) (tup_of p') fun h' he hit hk => wpAny_pyIter_enum he ?_
    have I2 : Inv X pins σ H1 { s1 with heap := h' } := I1.kept (t' := s1.toks) hk
    refine ⟨s1.heap.objs.size + 1, [s1.heap.objs.size + 1, s1.heap.objs.size], _, _, H1, rfl, I2, turn_enumT a (s1.heap.objs.size + 1) s1.heap.objs.size,
      ⟨⟨.none, he⟩, ⟨_, hit, rfl, rfl⟩, Nat.succ_ne_self _, Nat.ne_of_lt hal, Nat.ne_of_gt (Nat.lt_succ_of_lt hal)⟩, fun b hb => ?_, q⟩
    have hle : s1.heap.objs.size ≤ b := by
      rcases (show b = s1.heap.objs.size + 1 ∨ b = s1.heap.objs.size by simpa using hb) with z | z
      · rw [z]
        exact Nat.le_succ _
      · rw [z]
        exact Nat.le_refl _
    exact I1.fpOk hle (I1.hok.fresh hle)
end SQ
namespace SQ6
open PySem L2 SQ
abbrev sChk : Stmt := top 28
theorem dp_of {k : Nat} {A : Around} (hr : Room k A) : A.depth + 1 < recursionLimit := by
  have := hr.dp
  omega
abbrev En := Option (Str × Int × Int)
abbrev Ents (H : Hp) (xs : List V) (os : List En) : Prop := Paired (Ent H) xs os
theorem Ents.same {H H' : Hp} {xs : List V} {os : List En} (s : Same H H') (h : Ents H xs os) : Ents H' xs os := Paired.mapP h fun a b e => e.same s
/-- the first place that is refused, what stands ahead of i having the names seen -/
def firstBad (seen : List Str) (i : Nat) : List En → Option Nat
  | [] => none
  | none :: _ => some i
  | some (n, _, _) :: os => if n ∈ seen then some i else firstBad (n :: seen) (i + 1) os
/-- what the error's index holds, if there is one -/
def verdict (os : List En) : Option V := if 8 < os.length then some .non else (firstBad [] 0 os).map fun i => .int (i : Nat)
/-- the error's class as the top has made it -/
structure EC (K : PySem.W.Frag) (mg : Str → Option Value) (CE fI : Addr) : Prop where
  g : mg "InvalidEntries" = some (.ref CE)
  T : ErrC K CE "index" [.type "ValueError", .type "Exception", .type "BaseException", .type "object"] "ValueError.__new__"
  J : ErrI K CE fI "index"
  ty : PySem.W.typeIn K (.ref CE) = some (.type "type")
structure B3 (mg : Str → Option Value) : Prop where
  set : mg "set" = none
  enumerate : mg "enumerate" = none
  most : ∃ t, mg "MOST_ENTRIES" = some (.int 8 t)
def spChk (CE : Addr) : Sp := fun vs H Q E => ∃ (t : Addr) (xs : List V) (os : List En), vs = [.ref t] ∧ H t = some (.tup xs) ∧ Ents H xs os ∧ xs.length ≤ 2000 ∧
  (∀ idx, verdict os = some idx → ∀ (d : Addr) (H' : Hp), Same H H' → H' d = some (.xd [("index", idx)]) → E (.ref CE) (some d) H') ∧ (verdict os = none → ∀ H', Same H H' → Q .non H')
section
variable {P : Program} {w : World} {K : PySem.W.Frag} {mg : Str → Option Value} {base : Heap} {fP fN fF fA fE tC CE fI : Addr} {dP dN dF dA dE : FuncData}
theorem scCk : FnScope ["entries", "taken", "place", "entry"] ["entries"] (defScope sChk) := ⟨rfl, rfl, rfl, by decide +kernel, rfl, by decide +kernel, by decide +kernel⟩
theorem walk_enumT {a : Addr} {xs : List V} : Walk (ItT K a) xs.length (fun H => SqT K H a xs) (YPair (fun i => some (.int (i : Nat))) (fun i => xs[i]?)) := by
  refine ⟨fun i _ hi q => ⟨xs, xs[i], q, by simp [hi]⟩, fun _ q => ⟨xs, q, rfl⟩, fun i H v H' _ q y => ?_⟩
  obtain ⟨T, x, h1, h2, h3, h4⟩ := y
  exact ⟨T, .int (i : Nat), x, h1, h2, h3, rfl, h4 xs q⟩
theorem Ents.get {H : Hp} : ∀ {xs : List V} {os : List En} {i : Nat} {x : V}, Ents H xs os → xs[i]? = some x → ∃ o, os[i]? = some o ∧ Ent H x o
  | _, _, _, _, .nil, e => by simp at e
  | _, _, 0, x, .cons r t, e => by
    cases e
    exact ⟨_, rfl, r⟩
  | _, _, i + 1, x, .cons r t, e => Ents.get (i := i) (x := x) t e
theorem drop_at {α : Type} : ∀ {l : List α} {i : Nat} {x : α}, l[i]? = some x → l.drop i = x :: l.drop (i + 1)
  | [], i, x, h => by simp at h
  | a :: l, 0, x, h => by
    cases h
    rfl
  | a :: l, i + 1, x, h => drop_at (l := l) (i := i) h
theorem ok_chk {f : Addr} {fd : FuncData} (F : Fun K "check_entries" "check_entries" sChk f fd) (D : D2 K mg fP fN fF fA fE dP dN dF dA dE) (B : B2 mg) (C : Core K mg tC) (Z : EC K mg CE fI) (BB : B3 mg) : FnOk P w K mg base (L2N.CX P w) 4 f fd ["entries"] (spChk CE) := by
  have GE : FnOk P w K mg base CX0 3 fE dE ["value"] spEn := ok_en D B C
  obtain ⟨tM, hM⟩ := BB.most
  refine okN F scCk (fun vs H Q E h => ?_) (fun cdv A outer s H vs Q E hr h => ?_)
  · obtain ⟨t, xs, os, rfl, _⟩ := h
    rfl
  · obtain ⟨t, xs, os, rfl, ht, he, hlen, kE, kQ⟩ := h
    have hl : xs.length = os.length := Paired.length he
    refine ⟨_, pss_cons (ps_if (pt_cmpR op_gt (pe_callB call_len_seq (by rfl) B.len PySem.boot_len (pa_cons (pv 0) pa_nil)) (pe_glob (v := .int 8) rfl hM ⟨_, rfl⟩) (nomark _))
        (pss_one (L2N.ps_raise rfl (L2N.takes_of rfl rfl rfl rfl) (L2H.PMk5.pmk (pmk5_err (.inr (.inl rfl)) bValue Z.T Z.J Z.ty Z.g (dp_of hr) rfl pe_non)))) pss_nil)
      (pss_cons (ps_set (i := 1) scCk.nd rfl (.inl rfl) (pe_callTy0 cr_set0K (by rfl) BB.set (by decide +kernel)))
      (pss_one (ps_for (passes_of rfl) rfl (pi_enumT (by rfl) BB.enumerate (pa_cons (pv 0) pa_nil)) (pg_tup rfl (pgs_cons (pg_name (i := 2) scCk.nd rfl (.inl rfl)) (pgs_cons (pg_name (i := 3) scCk.nd rfl (.inl rfl)) pgs_nil)))
        (pss_cons (ps_if (PW.pt (pw_or (pt_not (pt_val (pe_call GE hr rfl D.gE D.FE.kp D.bE .nil pass0 (pa_cons (pv 3) pa_nil)))) (pw_or1 (pt_cmpR or_sinK (pe_ix ix_tup (pv 3) pe_int (fun _ _ => rfl)) (pv 1) (by rfl)))))
          (pss_one (L2N.ps_raise rfl (L2N.takes_of rfl rfl rfl rfl) (L2H.PMk5.pmk (pmk5_err (.inr (.inl rfl)) bValue Z.T Z.J Z.ty Z.g (dp_of hr) rfl (pv 2))))) pss_nil)
        (pss_one (ps_expr (pe_saddK (pv 1) (pa_cons (pe_ix ix_tup (pv 3) pe_int (fun _ _ => rfl)) pa_nil)))))))), ?_⟩
    refine ⟨_, rfl, t, xs, rfl, .inr (SqT.of ht), _, _, rfl, rfl, _, rfl, ?_⟩
    by_cases h8 : (8 : Int) < (xs.length : Int)
    · rw [decide_eq_true h8]
      refine iteT fun d nd => ?_
      exact kE .non (by unfold verdict; rw [if_pos (by omega)]) d _ (same_new (fun _ _ e => e) nd) upd_same
    · rw [decide_eq_false h8]
      refine iteF ⟨rfl, fun p np => ?_⟩
      have sP : Same H (upd H p (SetK P w p (fun _ => false) 0)) := same_new (fun _ _ e => e) np
      have hv : verdict os = (firstBad [] 0 os).map fun i => .int (i : Nat) := by
        unfold verdict
        rw [if_neg (by omega)]
      refine ⟨_, rfl, t, xs, rfl, SqT.of (sP _ _ ht), for_it walk_enumT (fun i σ H2 => ∃ (S : Key → Bool) (n : Nat) (seen : List Str) (v2 v3 : Option V), σ = [some (.ref t), some (.ref p), v2, v3] ∧ Same H H2 ∧ H2 p = some (SetK P w p S n) ∧ n ≤ i ∧
          (∀ k : Str, S (Sum.inr k) = decide (k ∈ seen)) ∧ firstBad [] 0 os = firstBad seen i (os.drop i))
        ⟨_, 0, [], none, none, rfl, sP, upd_same, Nat.le_refl _, fun k => by simp, rfl⟩ (fun i σ H2 _ ⟨_, _, _, _, _, _, s2, _⟩ => SqT.of (s2 _ _ ht)) ?_ ?_⟩
      · rintro i v σ H2 H3 hi ⟨S, n, seen, v2, v3, rfl, s2, hp2, hn, hS, hF⟩ ⟨T, x, y, rfl, nT, rfl, e1, e2⟩
        cases e1
        obtain ⟨o, ho, en⟩ := Ents.get he e2
        have s3 : Same H2 (upd H2 T (.tup [.int (i : Nat), y])) := same_new (fun _ _ e => e) nT
        have hT : upd H2 T (.tup [.int (i : Nat), y]) T = some (.tup [.int (i : Nat), y]) := upd_same
        have hp3 := s3 _ _ hp2
        rw [drop_at ho] at hF
        generalize hG : upd H2 T (HO.tup [V.int (i : Nat), y]) = G at hT hp3 s3 ⊢
        have s23 : Same H G := st s2 s3
        refine ⟨T, _, rfl, SqT.of hT, rfl, _, _, rfl, _, _, rfl, rfl, ?_⟩
        refine ⟨_, rfl, y, o, rfl, en.same s23, fun G1 sg => ⟨_, rfl, ?_⟩⟩
        have s4 : Same H G1 := st s23 sg
        have hp4 := sg _ _ hp3
        cases o with
        | none =>
          refine iteT (iteT ⟨_, rfl, fun d nd => ?_⟩)
          refine kE (.int (i : Nat)) ?_ d _ (same_new s4 nd) upd_same
          rw [hv, hF]
          rfl
        | some o3 =>
          obtain ⟨nm, a1, a2⟩ := o3
          refine iteF ?_
          have en4 := en.same s4
          cases en4 with
          | @good ea _ _ _ eE hnm hok =>
            refine ⟨_, rfl, ea, _, _, _, rfl, rfl, SqT.of eE, rfl, _, rfl, Sum.inr nm, p, S, n, rfl, rfl, hp4, _, rfl, ?_⟩
            show (if S (Sum.inr nm) = true then _ else _)
            rw [hS nm]
            by_cases hm : nm ∈ seen
            · rw [decide_eq_true hm]
              refine iteT ⟨_, rfl, fun d nd => ?_⟩
              refine kE (.int (i : Nat)) ?_ d _ (same_new s4 nd) upd_same
              rw [hv, hF]
              show (if nm ∈ seen then some i else _).map _ = _
              rw [if_pos hm]
              rfl
            · rw [decide_eq_false hm]
              refine iteF ?_
              refine ⟨_, rfl, ⟨p, S, n, rfl, hp4⟩, _, rfl, ea, _, _, _, rfl, rfl, SqT.of eE, rfl, p, Sum.inr nm, S, n, rfl, rfl, hp4, ?_, ?_⟩
              · show n + 1 < 4096
                omega
              · refine ⟨_, _, nm :: seen, _, _, rfl, ?_, upd_same, ?_, ?_, ?_⟩
                · intro b ob e
                  rw [upd_ne (ne_of_none e np)]
                  exact s4 _ _ e
                · split <;> omega
                · intro k
                  show (S (Sum.inr k) || decide ((Sum.inr k : Key) = Sum.inr nm)) = decide (k ∈ nm :: seen)
                  rw [hS k, key_rr]
                  by_cases hk : k = nm
                  · subst hk
                    simp
                  · simp [hk]
                · rw [hF]
                  show (if nm ∈ seen then some i else firstBad (nm :: seen) (i + 1) (os.drop (i + 1))) = _
                  rw [if_neg hm]
      · rintro σ H2 ⟨S, n, seen, v2, v3, rfl, s2, hp2, hn, hS, hF⟩
        refine kQ ?_ H2 s2
        rw [hv, hF, hl, List.drop_length]
        rfl
end
end SQ6
namespace SQ6
open PySem L2 SQ
abbrev sTx : Stmt := top 29
abbrev sIni : Stmt := inClass (top 32) 0
def etext (n : Str) (i j : Int) : Str := Str.empty ++ n ++ " " ++ (toString i) ++ " " ++ (toString j)
def spTx : Sp := fun vs H Q _ => ∃ (n : Str) (t : Addr) (i j : Int), vs = [.str n, .ref t] ∧ H t = some (.tup [.int i, .int j]) ∧ n.length ≤ 1000 ∧ 0 ≤ i ∧ i ≤ 3 ∧ 0 ≤ j ∧ j ≤ 3 ∧ Q (.str (etext n i j)) H
section
variable {P : Program} {w : World} {K : PySem.W.Frag} {mg : Str → Option Value} {base : Heap} {fP fN fF fA fE tC CE fI : Addr} {dP dN dF dA dE : FuncData}
theorem scTx : FnScope ["name", "arity", "inputs", "outputs"] ["name", "arity"] (defScope sTx) := ⟨rfl, rfl, rfl, by decide +kernel, rfl, by decide +kernel, by decide +kernel⟩
theorem four {i : Int} (h0 : 0 ≤ i) (h1 : i ≤ 3) : i = 0 ∨ i = 1 ∨ i = 2 ∨ i = 3 := by omega
theorem small_log {i : Int} (h0 : 0 ≤ i) (h1 : i ≤ 3) : i.natAbs.log2 < 1920 := by
  rcases four h0 h1 with rfl | rfl | rfl | rfl <;> decide
theorem len_num {i : Int} (h0 : 0 ≤ i) (h1 : i ≤ 3) : ((toString i : String) : Str).length = 1 := by
  rcases four h0 h1 with rfl | rfl | rfl | rfl <;> decide +kernel
theorem len_app (a b : Str) : (a ++ b).length = a.length + b.length := by
  show (a.cps ++ b.cps).size = a.cps.size + b.cps.size
  exact Array.size_append
theorem ok_tx {f : Addr} {fd : FuncData} (F : Fun K "entry_text" "entry_text" sTx f fd) : FnOk P w K mg base CX0 1 f fd ["name", "arity"] spTx := by
  refine F.ok scTx (fun vs H Q E h => ?_) (fun cdv A outer s H vs Q E hr h => ?_)
  · obtain ⟨n, t, i, j, rfl, _⟩ := h
    rfl
  · obtain ⟨n, t, i, j, rfl, ht, hn, i0, i3, j0, j3, q⟩ := h
    refine ⟨_, pss_cons (ps_asg (pv 1) (pg_tup rfl (pgs_cons (pg_name (i := 2) scTx.nd rfl (.inl rfl)) (pgs_cons (pg_name (i := 3) scTx.nd rfl (.inl rfl)) pgs_nil))))
      (pss_one (ps_ret (pe_joined (.cons (pe_fmt (pv 0)) (.cons pe_str (.cons (pe_fmt (pv 2)) (.cons pe_str (.cons (pe_fmt (pv 3)) .nil)))))))), ?_⟩
    have line : ∀ {k : Nat}, k ≤ 2000 → k ≤ sizeLine := fun h => Nat.le_trans h (by decide)
    have l0 : (Str.empty).length = 0 := rfl
    have l1 : ((" " : String) : Str).length = 1 := by decide +kernel
    have li := len_num i0 i3
    have lj := len_num j0 j3
    refine ⟨_, rfl, t, _, rfl, SqT.of ht, rfl, _, _, rfl, _, _, rfl, rfl, ?_⟩
    refine ⟨_, rfl, .inl ⟨n, rfl, line (by omega), n, rfl, line (by rw [len_app]; omega), _, rfl, line (by rw [len_app, len_app]; omega), _, rfl, .inr ⟨i, rfl, small_log i0 i3, _, rfl, line (by rw [len_app, len_app, len_app, li]; omega), _, rfl, line (by rw [len_app, len_app, len_app, len_app, li]; omega), _, rfl,
      .inr ⟨j, rfl, small_log j0 j3, _, rfl, line (by rw [len_app, len_app, len_app, len_app, len_app, li, lj]; omega), q⟩⟩⟩⟩
end
end SQ6
namespace SQ6
open PySem L2 SQ
abbrev G3 := Str × Int × Int
def gnames (gs : List G3) : List Str := gs.map (·.1)
/-- nothing is refused: all are entries, the names differ -/
theorem none_bad : ∀ (os : List En) (seen : List Str) (i : Nat), firstBad seen i os = none → ∃ gs : List G3, os = gs.map some ∧ (gnames gs).Nodup ∧ ∀ n ∈ gnames gs, n ∉ seen
  | [], _, _, _ => ⟨[], rfl, List.nodup_nil, fun n h => nomatch h⟩
  | none :: _, _, _, h => nomatch h
  | some (n, a, b) :: os, seen, i, h => by
    have h' : (if n ∈ seen then some i else firstBad (n :: seen) (i + 1) os) = none := h
    by_cases hm : n ∈ seen
    · rw [if_pos hm] at h'
      cases h'
    · rw [if_neg hm] at h'
      obtain ⟨gs, e, nd, ns⟩ := none_bad os (n :: seen) (i + 1) h'
      refine ⟨(n, a, b) :: gs, by rw [e]; rfl, ?_, ?_⟩
      · refine List.nodup_cons.mpr ⟨fun hn => ns n hn List.mem_cons_self, nd⟩
      · intro m hm2
        rcases List.mem_cons.mp hm2 with e2 | e2
        · rw [e2]
          exact hm
        · exact fun z => ns m e2 (List.mem_cons_of_mem _ z)
theorem verdict_none {os : List En} (h : verdict os = none) : ∃ gs : List G3, os = gs.map some ∧ (gnames gs).Nodup ∧ gs.length ≤ 8 := by
  unfold verdict at h
  by_cases h8 : 8 < os.length
  · rw [if_pos h8] at h
    cases h
  · rw [if_neg h8, Option.map_eq_none_iff] at h
    obtain ⟨gs, e, nd, _⟩ := none_bad os [] 0 h
    refine ⟨gs, e, nd, ?_⟩
    rw [e, List.length_map] at h8
    omega
/-- the numbers of a name -/
def arOf (gs : List G3) (n : Str) : Int × Int := ((gs.find? fun g => decide (g.1 = n)).map (·.2)).getD (0, 0)
def vtext (gs : List G3) (ys : List Str) : Str := Txt.join ", " (ys.map fun n => etext n (arOf gs n).1 (arOf gs n).2)
/-- the dict of the numbers -/
def Kvs (H : Hp) (kvs : List (Key × V)) (gs : List G3) : Prop := Paired (fun kv g => kv.1 = Sum.inr g.1 ∧ ∃ t, kv.2 = .ref t ∧ H t = some (.tup [.int g.2.1, .int g.2.2])) kvs gs
theorem Kvs.same {H H' : Hp} {kvs : List (Key × V)} {gs : List G3} (s : Same H H') (h : Kvs H kvs gs) : Kvs H' kvs gs := Paired.mapP h fun a b e => ⟨e.1, let ⟨t, h1, h2⟩ := e.2; ⟨t, h1, s _ _ h2⟩⟩
theorem Kvs.names {H : Hp} : ∀ {kvs : List (Key × V)} {gs : List G3}, Kvs H kvs gs → kvs.map (·.1) = (gnames gs).map Sum.inr
  | _, _, .nil => rfl
  | _, _, .cons r t => by
    exact congr (congrArg List.cons r.1) (Kvs.names t)
theorem Kvs.no {H : Hp} {n : Str} : ∀ {kvs : List (Key × V)} {gs : List G3}, Kvs H kvs gs → n ∉ gnames gs → valV kvs (Sum.inr n) = none
  | _, _, .nil, _ => rfl
  | _, _, .cons (a := kv) (b := g) r t, hn => by
    have h1 : ¬ kv.1 = Sum.inr n := fun z => hn (by rw [r.1] at z; rw [← Sum.inr.inj z]; exact List.mem_cons_self)
    rw [valV_neg h1]
    exact Kvs.no t fun z => hn (List.mem_cons_of_mem _ z)
theorem Kvs.at {H : Hp} {n : Str} : ∀ {kvs : List (Key × V)} {gs : List G3}, Kvs H kvs gs → n ∈ gnames gs → ∃ t, valV kvs (Sum.inr n) = some (.ref t) ∧ H t = some (.tup [.int (arOf gs n).1, .int (arOf gs n).2])
  | _, _, .nil, h => nomatch h
  | _, _, .cons (a := kv) (b := g) (l₂ := gs) r t, hn => by
    by_cases h1 : g.1 = n
    · obtain ⟨t0, e1, e2⟩ := r.2
      refine ⟨t0, ?_, ?_⟩
      · rw [valV_pos (by rw [r.1, h1]), e1]
      · unfold arOf
        rw [List.find?_cons_of_pos (by simpa using h1)]
        exact e2
    · have h2 : ¬ kv.1 = Sum.inr n := fun z => h1 (by rw [r.1] at z; exact Sum.inr.inj z)
      have hn' : n ∈ gnames gs := by
        rcases List.mem_cons.mp hn with z | z
        · exact absurd z.symm h1
        · exact z
      obtain ⟨t0, e1, e2⟩ := Kvs.at t hn'
      refine ⟨t0, ?_, ?_⟩
      · rw [valV_neg h2]
        exact e1
      · unfold arOf at e2 ⊢
        rw [List.find?_cons_of_neg (by simpa using h1)]
        exact e2
theorem Kvs.snoc {H : Hp} : ∀ {kvs : List (Key × V)} {gs : List G3} {kv : Key × V} {g : G3}, Kvs H kvs gs → (kv.1 = Sum.inr g.1 ∧ ∃ t, kv.2 = .ref t ∧ H t = some (.tup [.int g.2.1, .int g.2.2])) → Kvs H (kvs ++ [kv]) (gs ++ [g])
  | _, _, _, _, .nil, h => .cons h .nil
  | _, _, _, _, .cons r t, h => .cons r (Kvs.snoc t h)
end SQ6
namespace SQ6
open PySem L2 SQ
/-- the class of the vocabularies -/
structure VC (K : PySem.W.Frag) (mg : Str → Option Value) (C : Addr) : Prop where
  g : mg "Vocabulary" = some (.ref C)
  cl : Cls K C
  nA : NoAttr K C "arities"
  nN : NoAttr K C "names"
  nT : NoAttr K C "text"
structure B4 (mg : Str → Option Value) : Prop where
  sorted : mg "sorted" = none
def flds (dA tN : Addr) (z : Str) : List (Str × V) := putF "text" (.str z) (putF "names" (.ref tN) (putF "arities" (.ref dA) []))
/-- a vocabulary at x, with the entries gs, the names ys -/
def Vc (C : Addr) (H : Hp) (x : Addr) (gs : List G3) (ys : List Str) : Prop := ∃ (dx dA tN : Addr) (kvs : List (Key × V)), H x = some (.ins C dx (flds dA tN (vtext gs ys))) ∧ H tN = some (.tup (ys.map V.str)) ∧ H dA = some (.dK kvs) ∧ Kvs H kvs gs
/-- what __init__ promises, once the entries lie in a tuple -/
def spIni0 (C CE : Addr) : Sp := fun vs H Q E => ∃ (x dx t : Addr) (xs : List V) (os : List En), vs = [.ref x, .ref t] ∧ H x = some (.ins C dx []) ∧ H t = some (.tup xs) ∧ Ents H xs os ∧ xs.length ≤ 2000 ∧
  (∀ idx, verdict os = some idx → ∀ (d : Addr) (H' : Hp), Same H H' → H' d = some (.xd [("index", idx)]) → E (.ref CE) (some d) H') ∧
  (verdict os = none → ∀ gs : List G3, os = gs.map some → ∀ (H' : Hp) (ys : List Str), ys.Perm (gnames gs) → PyProof.Rows.sortedS ys = true → But x H H' → Vc C H' x gs ys → Q .non H')
section
variable {P : Program} {w : World} {K : PySem.W.Frag} {mg : Str → Option Value} {base : Heap} {fP fN fF fA fE tC CE fI C fC fX : Addr} {dP dN dF dA dE dC dX : FuncData}
theorem scIni : FnScope ["self", "entries", "arities", "name", "inputs", "outputs"] ((["self"] : List Str) ++ (["entries"] : List Str)) (defScope sIni) := ⟨rfl, rfl, rfl, by decide +kernel, rfl, by decide +kernel, by decide +kernel⟩
structure I2 (K : PySem.W.Frag) (mg : Str → Option Value) (fC fX : Addr) (dC dX : FuncData) : Prop where
  gC : mg "check_entries" = some (.ref fC)
  FC : Fun K "check_entries" "check_entries" sChk fC dC
  bC : Binds K dC ["entries"] []
  gX : mg "entry_text" = some (.ref fX)
  FX : Fun K "entry_text" "entry_text" sTx fX dX
  bX : Binds K dX ["name", "arity"] []
theorem nodup_take {α : Type} : ∀ {l : List α} {i : Nat} {x : α}, l.Nodup → l[i]? = some x → x ∉ l.take i
  | [], i, x, _, h => by simp at h
  | a :: l, 0, x, _, h => by simp
  | a :: l, i + 1, x, nd, h => by
    have h' : l[i]? = some x := h
    obtain ⟨n1, n2⟩ := List.nodup_cons.mp nd
    rw [List.take_succ_cons]
    intro hm
    rcases List.mem_cons.mp hm with e | e
    · exact n1 (e ▸ List.mem_of_getElem? h')
    · exact nodup_take n2 h' e
theorem take_more {α : Type} {l : List α} {i : Nat} {x : α} (h : l[i]? = some x) : l.take (i + 1) = l.take i ++ [x] := by
  rw [List.take_add_one, h]
  rfl
theorem ents_good {H : Hp} : ∀ {xs : List V} {gs : List G3}, Ents H xs (gs.map some) → ∀ g ∈ gs, (isFree (.str g.1) && (isAr (.int g.2.1) && isAr (.int g.2.2))) = true
  | _, [], _, g, h => nomatch h
  | _, g0 :: gs, .cons r t, g, h => by
    rcases List.mem_cons.mp h with e | e
    · subst e
      cases r with
      | good _ _ hq => exact hq
    · exact ents_good t g e
theorem ar_mem {gs : List G3} {n : Str} (h : n ∈ gnames gs) : ∃ g ∈ gs, g.1 = n ∧ arOf gs n = g.2 := by
  unfold arOf
  cases hf : gs.find? (fun g => decide (g.1 = n)) with
  | none =>
    obtain ⟨g, hg, e⟩ := List.mem_map.mp h
    have := List.find?_eq_none.mp hf g hg
    exact absurd (by simpa using e) (by simpa using this)
  | some g => exact ⟨g, List.mem_of_find?_eq_some hf, by simpa using List.find?_some hf, rfl⟩
theorem ar_ok {i : Int} (h : isAr (.int i) = true) : 0 ≤ i ∧ i ≤ 3 := by
  have h' : (decide (0 ≤ i) && decide (i ≤ 3)) = true := h
  rw [Bool.and_eq_true] at h'
  exact ⟨of_decide_eq_true h'.1, of_decide_eq_true h'.2⟩
theorem free_len {n : Str} (h : isFree (.str n) = true) : n.length ≤ 8 := by
  have h' : (nameOk n && !decide (n ∈ cores)) = true := h
  rw [Bool.and_eq_true] at h'
  have h2 := h'.1
  unfold nameOk at h2
  rw [Bool.and_eq_true, Bool.and_eq_true] at h2
  have := of_decide_eq_true h2.1.2
  omega
/-- what is known of a name's numbers -/
theorem good_at {H : Hp} {xs : List V} {gs : List G3} {n : Str} (he : Ents H xs (gs.map some)) (h : n ∈ gnames gs) : n.length ≤ 8 ∧ (0 ≤ (arOf gs n).1 ∧ (arOf gs n).1 ≤ 3) ∧ 0 ≤ (arOf gs n).2 ∧ (arOf gs n).2 ≤ 3 := by
  obtain ⟨g, hg, rfl, e⟩ := ar_mem h
  have hh := ents_good he g hg
  rw [Bool.and_eq_true, Bool.and_eq_true] at hh
  rw [e]
  exact ⟨free_len hh.1, ar_ok hh.2.1, ar_ok hh.2.2⟩
theorem etext_len {n : Str} {i j : Int} (hn : n.length ≤ 8) (i0 : 0 ≤ i) (i3 : i ≤ 3) (j0 : 0 ≤ j) (j3 : j ≤ 3) : (etext n i j).length ≤ 12 := by
  unfold etext
  have l0 : (Str.empty).length = 0 := rfl
  have l1 : ((" " : String) : Str).length = 1 := by decide +kernel
  rw [len_app, len_app, len_app, len_app, len_app, len_num i0 i3, len_num j0 j3, l1, l0]
  omega
theorem sum_le {α : Type} (f : α → Nat) (b : Nat) : ∀ l : List α, (∀ x ∈ l, f x ≤ b) → (l.map f).sum ≤ l.length * b
  | [], _ => by simp
  | x :: l, h => by
    have h1 := h x List.mem_cons_self
    have h2 := sum_le f b l fun y hy => h y (List.mem_cons_of_mem _ hy)
    rw [List.map_cons, List.sum_cons, List.length_cons, Nat.add_mul]
    omega
theorem keptD {σ : St} {H : Hp} {A B : Hp → Prop} (h : A H) : tYes σ H (fun b H3 => if b = true then A H3 else B H3) := keptT h
theorem body_ini (I : I2 K mg fC fX dC dX) (D : D2 K mg fP fN fF fA fE dP dN dF dA dE) (B : B2 mg) (CW : Core K mg tC) (Z : EC K mg CE fI) (BB : B3 mg) (B4' : B4 mg) (VV : VC K mg C) {f : Addr} (cdv : Value) (A : Around) (outer : List Env) (s : Shared) (H : Hp) (vs : List V) (Q : VK) (E : XK)
    (hr : Room 4 (A.deeper (PyProof.Rows.envOfC "Vocabulary.__init__" (defScope sIni) s.heap.objs.size f cdv))) (h : spIni0 C CE vs H Q E) :
    ∃ t, PSs (cxOf (L2N.CX P w) P w K mg base ["self", "entries", "arities", "name", "inputs", "outputs"] "Vocabulary.__init__" (defScope sIni) f cdv A outer s H E) (defBody sIni) t ∧ t { nx := fun _ H' => Q .non H', rt := Q } (start ["self", "entries", "arities", "name", "inputs", "outputs"] vs) H := by
  have GC : FnOk P w K mg base (L2N.CX P w) 4 fC dC ["entries"] (spChk CE) := ok_chk I.FC D B CW Z BB
  have GX : FnOk P w K mg base CX0 1 fX dX ["name", "arity"] spTx := ok_tx I.FX
  obtain ⟨x, dx, t, xs, os, rfl, hx, ht, he, hlen, kE, kQ⟩ := h
  have hu := hu_of hr
  refine ⟨_, pss_cons (ps_expr (pe_call GC hr rfl I.gC I.FC.kp I.bC .nil (L2N.passes_call (L2N.takes_of rfl rfl rfl rfl) (fun _ _ _ _ h => h)) (pa_cons (pv 1) pa_nil)))
    (pss_cons (ps_set (i := 2) scIni.nd rfl (.inr rfl) (pe_dc (own := [("name", 3), ("inputs", 4), ("outputs", 5)]) (g := gTup K 3 (gCons (gName 3) (gCons (gName 4) (gCons (gName 5) gNil)))) (tt := tYes) rfl scIni.nd (pi_tup (pv 1)) (blkOk_by (N := ["self", "entries", "arities", "name", "inputs", "outputs"]) (sc := defScope sIni) (by decide +kernel))
      (fun _ _ _ _ _ => pg_tup rfl (pgs_cons (pg_name (i := 3) scIni.nd rfl (.inl rfl)) (pgs_cons (pg_name (i := 4) scIni.nd rfl (.inl rfl)) (pgs_cons (pg_name (i := 5) scIni.nd rfl (.inl rfl)) pgs_nil)))) (fun _ _ _ _ _ => pts_nil) (fun _ _ _ _ _ => pv 3) (fun _ _ _ _ _ => pe_tup (pa_cons (pv 4) (pa_cons (pv 5) pa_nil)))))
    (pss_cons (ps_fld (pv 0) (pv 2) rfl)
    (pss_cons (ps_fld (pv 0) (pe_callTy call_tuple_of (by rfl) B.tuple (by decide +kernel) (pa_cons (pe_callB (call_sortedD rfl) (by rfl) B4'.sorted (by decide +kernel) (pa_cons (pv 2) pa_nil)) pa_nil)) rfl)
    (pss_one (ps_fld (pv 0) (pe_join pe_str (pe_lc (own := [("name", 3)]) (g := gName 3) (tt := tYes) rfl scIni.nd (pi_tup (pe_fld (pv 0) rfl)) (blkOk_by (N := ["self", "entries", "arities", "name", "inputs", "outputs"]) (sc := defScope sIni) (by decide +kernel))
      (fun _ _ _ _ _ => pg_name (i := 3) scIni.nd rfl (.inl rfl)) (fun _ _ _ _ _ => pts_nil) (fun _ _ _ _ _ => pe_call GX (hr.mono (by decide)) rfl I.gX I.FX.kp I.bX .nil pass0 (pa_cons (pv 3) (pa_cons (pe_dget hu (pv 2) (pv 3) (fun _ _ => rfl)) pa_nil))))) rfl))))), ?_⟩
  refine ⟨_, rfl, t, xs, os, rfl, ht, he, hlen, kE, fun hv H1 s1 => ?_⟩
  obtain ⟨gs, rfl, nd, h8⟩ := verdict_none hv
  have hl : xs.length = gs.length := by
    have := Paired.length he
    rw [List.length_map] at this
    exact this
  -- arities = {..}
  refine ⟨_, rfl, t, rfl, ⟨_, SqT.of (s1 _ _ ht)⟩, fun D hD => ?_⟩
  refine dc_tup (K := K) (a := t) (xs := xs) (fun i H2 => ∃ kvs, H2 D = some (.dK kvs) ∧ Kvs H2 kvs (gs.take i) ∧ Same H1 H2) ⟨[], upd_same, .nil, same_new (fun _ _ e => e) hD⟩ (fun i H2 _ ⟨_, _, _, s2⟩ => SqT.of (s2 _ _ (s1 _ _ ht))) ?_ ?_
  · rintro i v H2 hi ⟨kvs, hD2, hk, s2⟩
    obtain ⟨o, ho, en⟩ := Ents.get he hi
    rw [List.getElem?_map] at ho
    cases hg : gs[i]? with
    | none =>
      rw [hg] at ho
      cases ho
    | some g =>
      rw [hg] at ho
      cases ho
      obtain ⟨n, a1, a2⟩ := g
      cases en with
      | @good ea _ _ _ eE hnm hok =>
        have eE2 := s2 _ _ (s1 _ _ eE)
        refine ⟨ea, _, rfl, SqT.of eE2, rfl, _, _, rfl, _, _, rfl, _, _, rfl, rfl, rfl, keptD ?_⟩
        refine ⟨_, rfl, _, rfl, _, rfl, (by show 2 ≤ sizeLine; decide), fun T nT => ?_⟩
        have hDT : D ≠ T := ne_of_none hD2 nT
        have hno : n ∉ gnames (gs.take i) := by
          have e1 : gnames (gs.take i) = (gnames gs).take i := by
            unfold gnames
            rw [List.map_take]
          rw [e1]
          exact nodup_take nd (by unfold gnames; rw [List.getElem?_map, hg]; rfl)
        have hl2 : kvs.length = (gs.take i).length := Paired.length hk
        refine ⟨kvs, Sum.inr n, rfl, by rw [upd_ne hDT]; exact hD2, small1000 (by rw [hl2, List.length_take]; omega), ?_⟩
        refine ⟨_, upd_same, ?_, ?_⟩
        · rw [putK_new _ (hk.no hno), take_more hg]
          have s3 : Same H2 (upd H2 T (.tup [.int a1, .int a2])) := same_new (fun _ _ e => e) nT
          have kk : Kvs (upd H2 T (.tup [.int a1, .int a2])) (kvs ++ [(Sum.inr n, .ref T)]) (gs.take i ++ [(n, a1, a2)]) := (hk.same s3).snoc ⟨rfl, T, rfl, upd_same⟩
          refine Paired.mapP kk fun kv g ⟨h1, t0, h2, h3⟩ => ⟨h1, t0, h2, ?_⟩
          rw [upd_ne (ne_of h3 (show upd H2 T (.tup [.int a1, .int a2]) D = some (.dK kvs) by rw [upd_ne hDT]; exact hD2) (by intro z; cases z))]
          exact h3
        · intro b ob e
          rw [upd_ne (ne_of_none e hD), upd_ne (ne_of_none (s2 _ _ e) nT)]
          exact s2 _ _ e
  · rintro H2 ⟨kvs, hD2, hk, s2⟩
    rw [hl, List.take_length] at hk
    have hx2 : H2 x = some (.ins C dx []) := s2 _ _ (s1 _ _ hx)
    have sH2 : Same H H2 := st s1 s2
    -- self.arities = arities
    refine ⟨_, rfl, _, rfl, x, C, dx, [], rfl, hx2, VV.cl, VV.nA, (by show 0 < 1000; decide), ?_⟩
    have hxD : x ≠ D := ne_of hx2 hD2 (by intro z; cases z)
    generalize hG3 : upd H2 x (HO.ins C dx (putF "arities" (.ref D) [])) = H3
    have b3 : But x H2 H3 := by rw [← hG3]; exact But.refl.put
    have hx3 : H3 x = some (.ins C dx (putF "arities" (.ref D) [])) := by rw [← hG3]; exact upd_same
    have hD3 : H3 D = some (.dK kvs) := b3 _ _ hD2 (Ne.symm hxD)
    have hk3 : Kvs H3 kvs gs := Paired.mapP hk fun kv g ⟨h1, t0, h2, h3⟩ => ⟨h1, t0, h2, b3 _ _ h3 (ne_of h3 hx2 (by intro z; cases z))⟩
    have hln : (gnames gs).length ≤ 8 := by
      unfold gnames
      rw [List.length_map]
      exact h8
    -- self.names = tuple(sorted(arities))
    refine ⟨_, rfl, D, kvs, gnames gs, rfl, .inl hD3, hk3.names, (by omega), fun ys p hperm hsort np => ⟨p, ys.map V.str, rfl, .inl ⟨SqL.of upd_same, fun l nl => ?_⟩⟩⟩
    have s4 : Same H3 (upd (upd H3 p (.lst (ys.map V.str))) l (.tup (ys.map V.str))) := same_new (same_new (fun _ _ e => e) np) nl
    generalize hG4 : upd (upd H3 p (HO.lst (ys.map V.str))) l (HO.tup (ys.map V.str)) = H4 at s4
    have hl4 : H4 l = some (.tup (ys.map V.str)) := by rw [← hG4]; exact upd_same
    have hx4 := s4 _ _ hx3
    refine ⟨_, rfl, x, C, dx, _, rfl, hx4, VV.cl, VV.nN, (by show 1 < 1000; decide), ?_⟩
    generalize hG5 : upd H4 x (HO.ins C dx (putF "names" (.ref l) (putF "arities" (.ref D) []))) = H5
    have b5 : But x H4 H5 := by rw [← hG5]; exact But.refl.put
    have hx5 : H5 x = some (.ins C dx (putF "names" (.ref l) (putF "arities" (.ref D) []))) := by rw [← hG5]; exact upd_same
    have hl5 : H5 l = some (.tup (ys.map V.str)) := b5 _ _ hl4 (ne_of hl4 hx4 (by intro z; cases z))
    have hD5 : H5 D = some (.dK kvs) := b5 _ _ (s4 _ _ hD3) (Ne.symm hxD)
    have hk5 : Kvs H5 kvs gs := Paired.mapP (hk3.same s4) fun kv g ⟨h1, t0, h2, h3⟩ => ⟨h1, t0, h2, b5 _ _ h3 (ne_of h3 hx4 (by intro z; cases z))⟩
    have bt : But x H H5 := ((Same.but sH2).trans b3).trans ((Same.but s4).trans b5)
    have mem : ∀ n ∈ ys, n ∈ gnames gs := fun n hn => hperm.mem_iff.mp hn
    have hly : ys.length ≤ 8 := by
      rw [hperm.length_eq]
      exact hln
    -- self.text = ', '.join(..)
    refine ⟨⟨_, rfl⟩, _, rfl, x, C, dx, _, _, rfl, hx5, VV.cl, VV.nN, rfl, l, rfl, ⟨_, SqT.of hl5⟩, fun D2 hD2' => ?_⟩
    refine lc_tup (K := K) (a := l) (xs := ys.map V.str) (fun i H6 => H6 = upd H5 D2 (.lst (((ys.take i).map fun n => etext n (arOf gs n).1 (arOf gs n).2).map V.str))) rfl (fun i H6 _ e => by rw [e]; exact SqT.of (by rw [upd_ne (ne_of_none hl5 hD2')]; exact hl5)) ?_ ?_
    · rintro i v H6 hi rfl
      rw [List.getElem?_map] at hi
      cases hy : ys[i]? with
      | none =>
        rw [hy] at hi
        cases hi
      | some n =>
        rw [hy] at hi
        cases hi
        have hn := mem n (List.mem_of_getElem? hy)
        obtain ⟨g1, ⟨g2, g3⟩, g4, g5⟩ := good_at he hn
        obtain ⟨t0, v1, v2⟩ := hk5.at hn
        refine ⟨rfl, keptT ⟨_, rfl, _, rfl, _, rfl, D, .ref t0, rfl, ?_, n, t0, _, _, rfl, ?_, by omega, g2, g3, g4, g5, _, upd_same, small1000 ?_, ?_⟩⟩
        · rw [← v1]
          exact DGet.k (k := Sum.inr n) (by rw [upd_ne (ne_of_none hD5 hD2')]; exact hD5)
        · rw [upd_ne (ne_of_none v2 hD2')]
          exact v2
        · rw [List.length_map, List.length_map, List.length_take]
          omega
        · rw [upd_upd, take_more hy, List.map_append, List.map_append]
          rfl
    · rintro H6 rfl
      rw [List.length_map, List.take_length]
      refine ⟨_, D2, _, rfl, rfl, .inl (SqL.of upd_same), ?_, ?_⟩
      · rw [List.map_map, List.length_map]
        have := sum_le ((fun z : Str => z.length) ∘ fun n => etext n (arOf gs n).1 (arOf gs n).2) 12 ys (fun n hn => by
          obtain ⟨g1, ⟨g2, g3⟩, g4, g5⟩ := good_at he (mem n hn)
          exact etext_len g1 g2 g3 g4 g5)
        have l2 : (", " : Str).length = 2 := by decide +kernel
        rw [l2]
        omega
      · have hx6 : upd H5 D2 (.lst ((ys.map fun n => etext n (arOf gs n).1 (arOf gs n).2).map V.str)) x = some (.ins C dx (putF "names" (.ref l) (putF "arities" (.ref D) []))) := by
          rw [upd_ne (ne_of_none hx5 hD2')]
          exact hx5
        refine ⟨_, rfl, x, C, dx, _, rfl, hx6, VV.cl, VV.nT, (by show 2 < 1000; decide), ?_⟩
        have lx : l ≠ x := ne_of hl5 hx5 (by intro z; cases z)
        refine kQ hv gs rfl _ ys hperm hsort ((bt.new hD2').put) ⟨dx, D, l, kvs, upd_same, ?_, ?_, ?_⟩
        · rw [upd_ne lx, upd_ne (ne_of_none hl5 hD2')]
          exact hl5
        · rw [upd_ne (Ne.symm hxD), upd_ne (ne_of_none hD5 hD2')]
          exact hD5
        · refine Paired.mapP hk5 fun kv g ⟨h1, t0, h2, h3⟩ => ⟨h1, t0, h2, ?_⟩
          rw [upd_ne (ne_of h3 hx5 (by intro z; cases z)), upd_ne (ne_of_none h3 hD2')]
          exact h3
end
end SQ6
namespace SQ6
open PySem L2 SQ
abbrev sStr : Stmt := inClass (top 32) 5
def spInit (C CE : Addr) : Sp := fun vs H Q E => ∃ ws rest, vs = ws ++ rest ∧ ws.length = (["self"] : List Str).length ∧ rest.length ≤ sizeLine ∧ ∀ p, H p = Option.none → spIni0 C CE (ws ++ [V.ref p]) (upd H p (.tup rest)) Q E
def spStr (C : Addr) : Sp := fun vs H Q _ => ∃ (x dx dA tN : Addr) (z : Str), vs = [.ref x] ∧ H x = some (.ins C dx (flds dA tN z)) ∧ Q (.str z) H
section
variable {P : Program} {w : World} {K : PySem.W.Frag} {mg : Str → Option Value} {base : Heap} {fP fN fF fA fE tC CE fI C fC fX : Addr} {dP dN dF dA dE dC dX : FuncData}
theorem ok_ini (I : I2 K mg fC fX dC dX) (D : D2 K mg fP fN fF fA fE dP dN dF dA dE) (B : B2 mg) (CW : Core K mg tC) (Z : EC K mg CE fI) (BB : B3 mg) (B4' : B4 mg) (VV : VC K mg C) {f : Addr} {fd : FuncData} (F : Fun K "__init__" "Vocabulary.__init__" sIni f fd) :
    FnR P w K mg base (L2N.CX P w) 5 f (spInit C CE) := by
  obtain ⟨oc, od, kV, doc, pm, an, cdv, ct, osl, rfl, lk, hcd⟩ := F.ex
  exact StX.fn_star (ps := ["self"]) (pv := "entries") lk hcd scIni cxUpN (StX.bind_star1 (B := fun vs => bindArgs (PySem.W.fnOf "__init__" "Vocabulary.__init__" (defArgs sIni) (defBody sIni) (defScope sIni) .none kV doc pm an cdv ct) ⟨vs, []⟩) (fun a => rfl) (fun a r rs => rfl)) (fun A outer s H vs Q E hr h => body_ini I D B CW Z BB B4' VV cdv A outer s H vs Q E hr h)
theorem scStr : FnScope ["self"] ["self"] (defScope sStr) := ⟨rfl, rfl, rfl, by decide +kernel, rfl, by decide +kernel, by decide +kernel⟩
theorem ok_str {f : Addr} {fd : FuncData} (F : Fun K "__str__" "Vocabulary.__str__" sStr f fd) (B : B2 mg) (VV : VC K mg C) : FnOk P w K mg base CX0 1 f fd ["self"] (spStr C) := by
  refine F.ok scStr (fun vs H Q E h => ?_) (fun cdv A outer s H vs Q E hr h => ?_)
  · obtain ⟨x, dx, dA, tN, z, rfl, _⟩ := h
    rfl
  · obtain ⟨x, dx, dA, tN, z, rfl, hx, q⟩ := h
    refine ⟨_, pss_one (ps_ret (pe_callTy SkE.call_str_str (by rfl) B.str (by decide +kernel) (pa_cons (pe_fld (pv 0) rfl) pa_nil))), ?_⟩
    exact ⟨_, rfl, x, C, dx, _, _, rfl, hx, VV.cl, VV.nT, rfl, z, rfl, q⟩
end
end SQ6
namespace SQ
open PySem PySem.Spec PyProof.Rows L2
section
variable {X : Cx} {k : Nat} {f C : Addr} {fd : FuncData} {ps : List Str} {sp : Sp}
/-- str(o), o an instance whose class has __str__ -/
theorem cr_strOwn (F : FnR X.prog X.w X.K X.mg X.base CX0 k f sp) (hr : Room (k + 2) X.A) (hs : PySem.W.findIn X.K (.ref C) "__str__" = some (some (.ref f))) (hf : PySem.W.isFn X.K (.ref f) = true) :
    CallR X (.type "str") (fun xs H Q => ∃ (x dx : Addr) (fs : List (Str × V)), xs = [.ref x] ∧ H x = some (.ins C dx fs) ∧ sp [.ref x] H (fun v H' => ∃ z, v = .str z ∧ Q v H') E0) := by
  intro pins s σ H xs us Q I r h
  obtain ⟨x, dx, fs, rfl, hx, q⟩ := h
  obtain ⟨u, rfl, r1⟩ := vals1 r
  obtain rfl : u = Value.ref x := r1
  obtain ⟨mA, O, _⟩ := ins_get I.hok hx
  obtain ⟨od, J, _⟩ := O.look
  have hr2 : Room k X.A.in1.in1 := Room.in1 (Room.in1 hr)
  refine PySem.W.kso_call hr2.units0 I.kIn J hs hf (wpAny_call (codeAny_mono (F X.A.in1.in1 X.stack s H [.ref x] [.ref x] _ _ hr2 I.env0.in1.in1 (.cons rfl .nil) q) fun r s' hq => ?_))
  cases r with
  | error e => exact (show False from hq).elim
  | ok fl =>
    cases fl with
    | next => exact False.elim hq
    | brk => exact False.elim hq
    | cont => exact False.elim hq
    | ret u =>
      obtain ⟨v, H', I', rv, z, rfl, q'⟩ := I.after hq
      obtain ⟨t, rfl⟩ := rv
      exact ⟨.str z, H', I', ⟨t, rfl⟩, q'⟩
end
end SQ
/-! The law's end for promises as in SqG where code objects are made: their tables are tracked. -/
namespace SQ
open PySem PySem.Spec PyProof.Rows L2
abbrev tab0 : Obj := { cls := .none, data := .fields #[] }
abbrev lst0 (vs : List Value) : Obj := { cls := .type "list", data := .seq vs.toArray }
/-- what may be tracked at the law's call: the script, the tables -/
def Trk (a : Addr) (ts : List Addr) (H : Hp) : Prop := ∀ b u, H b = some u → (b = a ∧ ∃ o xs, u = .frz o (.lst xs)) ∨ (b ∈ ts ∧ u = .tbl #[])
section
variable {P : Program} {w : World} {K : PySem.W.Frag} {mg mb : Str → Option Value} {s : Shared} {a : Addr} {cs : List (Addr × Addr)} {vs : List Value} {H : Hp}
theorem trk_data (ha : s.heap.get? a = some (lst0 vs)) (hT : ∀ p ∈ cs, s.heap.get? p.2 = some tab0) (tr : Trk a (cs.map (·.2)) H) {b : Addr} {o : Obj} (q : s.heap.get? b = some o)
    (n1 : ∀ l n, o.data ≠ .seq l n) (n2 : o.data ≠ .fields #[]) : H b = none := by
  cases z : H b with
  | none => rfl
  | some u =>
    rcases tr b u z with ⟨rfl, _⟩ | ⟨hm, _⟩
    · rw [ha] at q
      cases q
      exact absurd rfl (n1 _ _)
    · obtain ⟨p, hp, rfl⟩ := List.mem_map.mp hm
      rw [hT p hp] at q
      cases q
      exact absurd rfl n2
theorem trk_ns (ha : s.heap.get? a = some (lst0 vs)) (hT : ∀ p ∈ cs, s.heap.get? p.2 = some tab0) (tr : Trk a (cs.map (·.2)) H) {b : Addr} {m : Str → Option Value} : s.heap.Ns b m → (hidT s.heap H).Ns b m := by
  rintro ⟨o, es, ep, q, d, r⟩
  refine ⟨o, es, ep, hidT_get q (trk_data ha hT tr q (fun l n z => ?_) fun z => ?_), d, r⟩ <;> (rw [d] at z; cases z)
theorem trk_in (KX : K.In s.heap) (nT : ∀ p ∈ cs, K.lookup p.2 = none) (nA : H a ≠ none → K.lookup a = none) (tr : Trk a (cs.map (·.2)) H) : K.In (hidT s.heap H) := by
  intro b o q
  refine hidT_get (KX b o q) ?_
  cases z : H b with
  | none => rfl
  | some u =>
    rcases tr b u z with ⟨rfl, _⟩ | ⟨hm, _⟩
    · rw [nA (by rw [z]; simp)] at q
      cases q
    · obtain ⟨p, hp, rfl⟩ := List.mem_map.mp hm
      rw [nT p hp] at q
      cases q
theorem trk_tab (hns : s.heap.Ns mainGlobals mg) (ha : s.heap.get? a = some (lst0 vs)) (hT : ∀ p ∈ cs, s.heap.get? p.2 = some tab0) (C : ∀ p ∈ cs, PySem.W.CodeHd s.heap p.1 p.2)
    (hbm : ∃ (bm : Addr) (ob : Obj), mg "__builtins__" = some (.ref bm) ∧ bm ≠ builtinsNs ∧ s.heap.get? bm = some ob ∧ ob.cls = .type "module" ∧ ob.dict = some builtinsNs ∧ ob.data = .plain)
    (tr : Trk a (cs.map (·.2)) H) : ∀ p ∈ cs, LamX.TabB (hidT s.heap H) mg p.1 p.2 := by
  intro p hp
  have tp := hT p hp
  have nm : mainGlobals ≠ p.2 := by
    intro z
    obtain ⟨o, es, ep, q, d, _⟩ := hns
    rw [z, tp] at q
    cases q
    cases d
  refine ⟨?_, ?_, nm⟩
  · obtain ⟨o, us, fi, t1, fl, t2, b, tx, t3, q, r1, r2, r3, rest⟩ := C p hp
    refine ⟨o, us, fi, t1, fl, t2, b, tx, t3, hidT_get q (trk_data ha hT tr q (fun l n z => ?_) fun z => ?_), r1, r2, r3, rest⟩
    · rw [r2] at z
      cases z
    · rw [r2] at z
      cases z
      simp at r3
  · obtain ⟨bm, ob, b1, b2, b3, b4, b5, b6⟩ := hbm
    refine ⟨bm, ob, b1, b2, ?_, ?_, hidT_get b3 (trk_data ha hT tr b3 (fun l n z => ?_) fun z => ?_), b4, b5, b6⟩
    · rintro rfl
      obtain ⟨o, es, ep, q, d, _⟩ := hns
      rw [q] at b3
      cases b3
      rw [d] at b6
      cases b6
    · rintro rfl
      rw [tp] at b3
      cases b3
      cases b6
    · rw [b6] at z
      cases z
    · rw [b6] at z
      cases z
end
/-- the law's call: such a promise, tables tracked -/
theorem lawGT {P : Program} {w : World} {K : PySem.W.Frag} {mg mb : Str → Option Value} {k : Nat} {fa a : Addr} {cs : List (Addr × Addr)}
    {fd : FuncData} {x : Str} {sp : Sp} {s : Shared} {vs : List Value} {ns : List Int}
    (KX : K.In s.heap) (hns : s.heap.Ns mainGlobals mg) (hb : s.heap.Ns builtinsNs mb) (hbb : ∀ y : Str, y ≠ "__name__" → mb y = bootBuiltins y) (hlim : s.heap.NoLimit) (hg : s.gens = #[])
    (hT : ∀ p ∈ cs, s.heap.get? p.2 = some tab0) (nT : ∀ p ∈ cs, K.lookup p.2 = none) (C : ∀ p ∈ cs, PySem.W.CodeHd s.heap p.1 p.2)
    (hbm : ∃ (bm : Addr) (ob : Obj), mg "__builtins__" = some (.ref bm) ∧ bm ≠ builtinsNs ∧ s.heap.get? bm = some ob ∧ ob.cls = .type "module" ∧ ob.dict = some builtinsNs ∧ ob.data = .plain)
    (ha : s.heap.get? a = some (lst0 vs)) (hi : IntsAre vs ns) (hl : ns.length ≤ sizeLine) (hr : Room k callerA)
    (F : ∀ base : Heap, K.In base → base.Ns mainGlobals mg → (∀ p ∈ cs, LamX.TabB base mg p.1 p.2) → FnG P w K mg base CX0 k fa fd [x] sp)
    (hbind : ∀ (t : Shared) (u : Value), BindsTo t fd ⟨[u], []⟩ [(x, u)])
    (hsp : ∀ G : Hp, (∀ p ∈ cs, G p.2 = some (.tbl #[])) → SqL K G a (ns.map V.int) → sp [.ref a] G (fun v _ => v = .bl true) E0) :
    codeAny (model P w) callerA (.call (.ref fa) ⟨[.ref a], []⟩) (fun r t => r = .ok (.ret (.bool true)) ∧ OldK s.heap t.heap ∧ t.os = s.os ∧ AllBare t.gens) s := by
  have rv := vals_ints hi
  have inT : ∀ p ∈ cs, p.2 ∈ cs.map (·.2) := fun p hp => List.mem_map.mpr ⟨p, hp, rfl⟩
  have aT : a ∉ cs.map (·.2) := by
    intro z
    obtain ⟨p, hp, e⟩ := List.mem_map.mp z
    have e' : p.2 = a := e
    have t := hT p hp
    rw [e', ha] at t
    have t' : (lst0 vs).data = tab0.data := congrArg Obj.data (Option.some.inj t)
    cases t'
  have go : ∀ H : Hp, (∀ p ∈ cs, H p.2 = some (.tbl #[])) → Trk a (cs.map (·.2)) H → SqL K H a (ns.map V.int) → HOk P w H s.heap → (H a ≠ none → K.lookup a = none) →
      codeAny (model P w) callerA (.call (.ref fa) ⟨[.ref a], []⟩) (fun r t => r = .ok (.ret (.bool true)) ∧ OldK s.heap t.heap ∧ t.os = s.os ∧ AllBare t.gens) s := by
    intro H hH tr hS hok nA
    have kB := trk_in KX nT nA tr
    have gB := trk_ns ha hT tr hns
    have md : Mod K mg (hidT s.heap H) := ⟨kB, gB, ⟨mb, trk_ns ha hT tr hb, hbb⟩, by
      obtain ⟨mc, h1, h2⟩ := hlim
      exact ⟨mc, trk_ns ha hT tr h1, h2⟩⟩
    have en : Env0 P w K mg (hidT s.heap H) callerA [] s H := {
      frames := rfl
      mod := md
      bs := fun b o q => of_hidT q
      bsz := Nat.le_of_eq (hidT_size _ _)
      funs := trivial
      frf := fun b z => nomatch (show b ∈ ([] : List Addr) from z)
      hok := hok
      bare := .of_eq hg }
    refine codeAny_mono ((F _ kB gB (trk_tab hns ha hT C hbm tr)).go callerA rfl [] s H ⟨[.ref a], []⟩ [.ref a] [.ref a] _ _ hr en (hbind s (.ref a)) (.cons rfl .nil) (hsp H hH hS)) ?_
    intro r t h
    rcases r with er | (_ | _ | _ | u)
    · exact (show False from h).elim
    · exact h.elim
    · exact h.elim
    · exact h.elim
    · obtain ⟨v, H', os, bare, un, hok', r', q⟩ := h
      have q' : v = .bl true := q
      subst q'
      obtain rfl : u = Value.bool true := r'
      have kept : ∀ b o, b ∉ cs.map (·.2) → s.heap.get? b = some o → t.heap.get? b = some o := by
        intro b o nb e
        cases z : H b with
        | none => exact un.keep b o e z (fun y => nomatch (show b ∈ ([] : List Addr) from y)) (fun y => nomatch y)
        | some u =>
          rcases tr b u z with ⟨_, ob, xs, rfl⟩ | ⟨hm, _⟩
          · obtain ⟨e1, _⟩ := hok b _ z
            obtain ⟨e2, _⟩ := hok' b _ (un.frzs b ob _ z)
            rw [e] at e1
            cases e1
            exact e2
          · exact absurd hm nb
      have grew : ∀ p ∈ cs, ∃ more : Array Value, t.heap.get? p.2 = some { cls := .none, data := .fields more } := by
        intro p hp
        obtain ⟨m, z⟩ := un.tbls p.2 #[] (hH p hp)
        exact ⟨_, hok' p.2 _ z⟩
      refine ⟨rfl, ⟨fun b o e => ?_, fun b o e => ?_⟩, os, bare⟩
      all_goals
        by_cases hm : b ∈ cs.map (·.2)
      · obtain ⟨p, hp, rfl⟩ := List.mem_map.mp hm
        obtain ⟨m, hm2⟩ := grew p hp
        rw [hT p hp] at e
        cases e
        refine .inr (.inl ⟨((C p hp).tab (hT p hp)).isCodeTable, rfl, #[], m, rfl, ?_⟩)
        rw [Array.empty_append]
        exact hm2
      · exact .inl (kept b o hm e)
      · obtain ⟨p, hp, rfl⟩ := List.mem_map.mp hm
        obtain ⟨m, hm2⟩ := grew p hp
        exact ⟨_, hm2⟩
      · exact ⟨o, kept b o hm e⟩
  let G0 : Hp := fun b => if b ∈ cs.map (·.2) then some (.tbl #[]) else none
  have gT : ∀ b, b ∈ cs.map (·.2) → G0 b = some (.tbl #[]) := fun b hm => if_pos hm
  have gN : ∀ b, b ∉ cs.map (·.2) → G0 b = none := fun b hm => if_neg hm
  have okT : ∀ (X : Hp) b, b ∈ cs.map (·.2) → ObjOk P w X s.heap b (.tbl #[]) := by
    intro X b hm
    obtain ⟨p, hp, rfl⟩ := List.mem_map.mp hm
    exact hT p hp
  cases hk : K.lookup a with
  | some o =>
    have q := KX a o hk
    rw [ha] at q
    cases q
    refine go G0 (fun p hp => gT _ (inT p hp)) (fun b u z => ?_) (.inr ⟨_, vs.toArray, _, hk, rfl, rfl, rfl, ?_, by simpa using rv⟩) (fun b u z => ?_) (fun z => absurd (gN a aT) z)
    · by_cases hm : b ∈ cs.map (·.2)
      · rw [gT b hm] at z
        exact .inr ⟨hm, (Option.some.inj z).symm⟩
      · rw [gN b hm] at z
        cases z
    · rw [List.size_toArray, hi.length]
      exact hl
    · by_cases hm : b ∈ cs.map (·.2)
      · rw [gT b hm] at z
        cases z
        exact okT _ b hm
      · rw [gN b hm] at z
        cases z
  | none =>
    have hu : ∀ b u, upd G0 a (.frz (lst0 vs) (.lst (ns.map V.int))) b = some u → (b = a ∧ u = .frz (lst0 vs) (.lst (ns.map V.int))) ∨ (b ∈ cs.map (·.2) ∧ u = .tbl #[]) := by
      intro b u z
      by_cases hb : b = a
      · subst hb
        rw [upd_same] at z
        exact .inl ⟨rfl, (Option.some.inj z).symm⟩
      · rw [upd_ne hb] at z
        by_cases hm : b ∈ cs.map (·.2)
        · rw [gT b hm] at z
          exact .inr ⟨hm, (Option.some.inj z).symm⟩
        · rw [gN b hm] at z
          cases z
    refine go (upd G0 a (.frz (lst0 vs) (.lst (ns.map V.int)))) (fun p hp => ?_) (fun b u z => ?_) (.inl (.inr ⟨lst0 vs, upd_same⟩)) (fun b u z => ?_) (fun _ => hk)
    · have ne : p.2 ≠ a := fun e => aT (by rw [← e]; exact inT p hp)
      rw [upd_ne ne]
      exact gT _ (inT p hp)
    · rcases hu b u z with ⟨e1, e2⟩ | e
      · exact .inl ⟨e1, _, _, e2⟩
      · exact .inr e
    · rcases hu b u z with ⟨rfl, rfl⟩ | ⟨hm, rfl⟩
      · exact ⟨ha, by rw [List.length_map]; exact hl, vs, _, rv, ha⟩
      · exact okT _ b hm
/-- what is to be known of the law at the head's heap -/
def AtG (l : PySem.W.OpenLaw) (w : World) (K : PySem.W.Frag) (k n : Nat) (x : Str) (mg : Str → Option Value) (fa : Addr) (h : Heap) : Prop :=
  ∃ (fd : FuncData) (cs : List (Addr × Addr)) (sp : Sp), (∀ p ∈ cs, h.get? p.2 = some tab0 ∧ K.lookup p.2 = none ∧ PySem.W.CodeHd h p.1 p.2) ∧ (∀ (s : Shared) (u : Value), BindsTo s fd ⟨[u], []⟩ [(x, u)]) ∧
    (∀ (H : Hp) (a : Addr) (ns : List Int), ns.length ≤ n → (∀ z ∈ ns, Builtin.Int.intBits z ≤ 1048576) → (∀ p ∈ cs, H p.2 = some (.tbl #[])) → SqL K H a (ns.map V.int) → sp [.ref a] H (fun v _ => v = .bl true) E0) ∧
    ∀ base : Heap, K.In base → base.Ns mainGlobals mg → (∀ p ∈ cs, LamX.TabB base mg p.1 p.2) → FnG l.prog w K mg base CX0 k fa fd [x] sp
theorem walkGT {l : PySem.W.OpenLaw} {n k : Nat} {q : Program} {loose : List Str} {XP : (Str → Option Value) → Heap → Prop} {YP : World → Heap → Prop} {d : DefRec} {K : Params → PySem.W.Frag} {x : Str}
    (hn : l.most = some n) (hn2 : n ≤ sizeLine) (hdf : d.params.defaults = []) (hr : Room k callerA) (hY : ∀ (w : World) (h : Heap), YP w h → (K w.params).In h)
    (F : ∀ (w : World) (mg : Str → Option Value) (fa : Addr) (h : Heap), YP w h → (K w.params).In h → h.Ns mainGlobals mg → mg d.name = some (.ref fa) → AtG l w (K w.params) k n x mg fa h) :
    PySem.W.WalkO q loose XP YP l.row.toRowW d [] (fun f vs => PySem.call f vs) := by
  refine Att.attach_callB hn hdf ?_
  intro w s0 s1 mg mb fa o pm cd doc a vs ns G Y ho hd hcd hmg hobj hints hlen hbits hg
  have KX := hY w _ Y
  obtain ⟨fd, cs, sp, hc, hb, hsp, hF⟩ := F w mg fa _ Y KX G.T.g hmg
  exact lawGT KX G.T.g G.T.b G.T.builtins G.T.nolimit hg (fun p hp => (hc p hp).1) (fun p hp => (hc p hp).2.1) (fun p hp => (hc p hp).2.2) G.T.bmain hobj hints (Nat.le_trans hlen hn2) hr hF hb
    (fun H hH hS => hsp H a ns hlen hbits hH hS)
end SQ
namespace SQ6
open PySem L2 SQ
/-- all stands but what is at u, and the tables -/
def ButT (u : Addr) (H H' : Hp) : Prop := ∀ b o, H b = some o → b ≠ u → (∀ ps, o ≠ .tbl ps) → H' b = some o
theorem ButT.of {u : Addr} {H H' : Hp} (a : But u H H') : ButT u H H' := fun b o e n _ => a b o e n
theorem ButT.ofN {u : Addr} {H H' : Hp} (a : LamX.ExtN H H') : ButT u H H' := fun b o e _ t => a b o e t
theorem ButT.trans {u : Addr} {H H1 H2 : Hp} (a : ButT u H H1) (b : ButT u H1 H2) : ButT u H H2 := fun c o e n t => b c o (a c o e n t) n t
theorem ext_new {p : Addr} {H H' : Hp} {o : HO} (a : LamX.ExtN H H') (h : H' p = none) : LamX.ExtN H (upd H' p o) := fun c x e t => by
  have e1 := a c x e t
  rw [upd_ne (ne_of_none e1 h)]
  exact e1
theorem ext_seq {K : PySem.W.Frag} {H H' : Hp} {a : Addr} {xs : List V} (e : LamX.ExtN H H') (h : SqL K H a xs) : SqL K H' a xs := by
  rcases h with (h | ⟨o, h⟩) | h
  · exact .inl (.inl (e _ _ h (fun ps z => nomatch z)))
  · exact .inl (.inr ⟨o, e _ _ h (fun ps z => nomatch z)⟩)
  · exact .inr h
abbrev TL := List (Addr × Str)
def spRightT (T : TL) : Sp := fun vs H Q _ => ∃ u : Addr, vs = [.ref u] ∧ urnAt H u ∧ LamX.Tabs T H ∧ ∀ H' : Hp, ButT u H H' → LamX.Tabs T H' → Q (.bl true) H'
def spLawT (K : PySem.W.Frag) (T : TL) : Sp := fun vs H Q _ => ∃ (a : Addr) (ns : List Int), vs = [.ref a] ∧ SqL K H a (ns.map V.int) ∧ ns.length ≤ 63 ∧ LamX.Tabs T H ∧ ∀ H', Q (.bl true) H'
theorem tabs_put {T : TL} {H : Hp} {D : Addr} {xs ys : List V} (t : LamX.Tabs T H) (hD : H D = some (.lst xs)) : LamX.Tabs T (upd H D (.lst ys)) := by
  intro p hp
  obtain ⟨ps, h1, h2, h3⟩ := t p hp
  refine ⟨ps, ?_, h2, fun pos cv hc => ?_⟩
  · rw [upd_ne (ne_of h1 hD (by intro z; cases z))]
    exact h1
  · obtain ⟨c, e1, e2⟩ := h3 pos cv hc
    refine ⟨c, e1, ?_⟩
    rw [upd_ne (ne_of e2 hD (by intro z; unfold LamX.CodeO at z; cases z))]
    exact e2
section
variable {P : Program} {w : World} {K : PySem.W.Frag} {mg : Str → Option Value} {base : Heap}
theorem ok_lawT {T : TL} {f fU fR : Addr} {fd fdU fdR : FuncData} {j : Nat} (F : Fun K "law" "law" sLaw f fd) (B : Blt mg) (gU : mg "_law_urn" = some (.ref fU)) (FU : Fun K "_law_urn" "_law_urn" sUrn fU fdU) (bU : Binds K fdU ["_law_script", "_law_k"] [])
    (gR : mg "_law_right" = some (.ref fR)) (kR : PySem.W.keepIn K (.ref fR) = true) (bR : Binds K fdR ["_law_urn_here"] []) (GR : FnG P w K mg base CX0 (j + 1) fR fdR ["_law_urn_here"] (spRightT T)) : FnG P w K mg base CX0 (j + 2) f fd ["_law_script"] (spLawT K T) := by
  have GU : FnOk P w K mg base CX0 1 fU fdU ["_law_script", "_law_k"] (spUrn K) := ok_urn FU B
  refine okG F scLaw (fun vs H Q E h => ?_) (fun cdv A outer s H vs Q E hgd hr h => ?_)
  · obtain ⟨a, ns, rfl, _⟩ := h
    rfl
  · obtain ⟨a, ns, rfl, hS, hlen, hT, q⟩ := h
    refine ⟨_, pss_one (ps_ret (pe_callB (cr_all rfl) (by rfl) B.all (by decide +kernel) (pa_cons (pe_lc (own := [("_law_k", 1)]) (g := gName 1) (tt := tYes) rfl scLaw.nd
      (pi_range1 (by rfl) B.range (pa_cons (pe_callB (call_max2 rfl) (by rfl) B.max (by decide +kernel) (pa_cons pe_int (pa_cons (pe_callB (call_min2 rfl) (by rfl) B.min (by decide +kernel)
        (pa_cons (pe_callB call_len_seq (by rfl) B.len PySem.boot_len (pa_cons (pv 0) pa_nil)) (pa_cons pe_int pa_nil))) pa_nil))) pa_nil))
      (blkOk_by (N := ["_law_script", "_law_k"]) (sc := defScope sLaw) (by decide +kernel)) (fun _ _ _ _ _ => pg_name (i := 1) scLaw.nd rfl (Or.inl rfl)) (fun _ _ _ _ _ => pts_nil)
      (fun _ _ _ _ _ => pe_callG GR hgd hr rfl gR kR bR pass0 (pa_cons (pe_call GU (hr.mono (by omega)) rfl gU FU.kp bU .nil pass0 (pa_cons (pv 0) (pa_cons (pv 1) pa_nil))) pa_nil))) pa_nil))), ?_⟩
    refine ⟨_, rfl, a, _, rfl, .inl hS, _, _, rfl, _, _, rfl, ?_⟩
    generalize hj : (if (if (6 : Int) < ((ns.map V.int).length : Int) then (6 : Int) else ((ns.map V.int).length : Int)) > 2 then (if (6 : Int) < ((ns.map V.int).length : Int) then (6 : Int) else ((ns.map V.int).length : Int)) else 2) = n
    have hn : 0 ≤ n ∧ n ≤ 6 := by
      rw [← hj]
      split <;> split <;> omega
    refine ⟨n, rfl, by omega, by omega, fun D hD => ?_⟩
    refine lc_range (lo := 0) (n := n.toNat) (fun i H2 => LamX.ExtN H H2 ∧ LamX.Tabs T H2 ∧ H2 D = some (.lst ((List.replicate i true).map V.bl))) ⟨ext_new (LamX.ExtN.refl H) hD, hT.ext (same_new (fun _ _ e => e) hD), upd_same⟩ ?_ ?_
    · rintro i H2 hi ⟨s2, t2, hD2⟩
      refine ⟨rfl, keptT ?_⟩
      refine ⟨_, rfl, _, rfl, a, ns, i, by rw [Int.zero_add]; rfl, ext_seq s2 hS, by omega, fun H3 p s3 np hp => ?_⟩
      refine ⟨p, rfl, hp, t2.ext s3, fun H4 b4 t4 => ?_⟩
      have hD4 : H4 D = some (.lst ((List.replicate i true).map V.bl)) := b4 D _ (s3 D _ hD2) (ne_of_none hD2 np) (fun ps z => nomatch z)
      refine ⟨_, hD4, small1000 (by rw [List.length_map, List.length_replicate]; omega), fun b o e t => ?_, tabs_put t4 hD4, ?_⟩
      · have hb : b ≠ D := ne_of_none e hD
        have e2 := s2 b o e t
        rw [upd_ne hb]
        exact b4 b o (s3 b o e2) (ne_of_none e2 np) t
      · rw [upd_same, List.replicate_succ', List.map_append]
        rfl
    · rintro H2 ⟨s2, t2, hD2⟩
      refine ⟨D, _, rfl, SqL.of hD2, ?_⟩
      have e : (List.replicate n.toNat true).all id = true := by
        rw [List.all_eq_true]
        intro x hx
        exact (List.eq_of_mem_replicate hx)
      rw [e]
      exact q H2
end
end SQ6
/-! Texts cut at a separator and put together again. -/
namespace SQ
open PySem L2
theorem str_ext {a b : Str} (h : a.cps.toList = b.cps.toList) : a = b := by
  obtain ⟨ca⟩ := a
  obtain ⟨cb⟩ := b
  have e : ca = cb := Array.toList_inj.mp h
  rw [e]
theorem str_app (a b : Str) : (a ++ b).cps.toList = a.cps.toList ++ b.cps.toList := by
  show (a.cps ++ b.cps).toList = _
  exact Array.toList_append
/-- signs put together -/
def jn (S : List Nat) : List (List Nat) → List Nat
  | [] => []
  | [x] => x
  | x :: y :: r => x ++ (S ++ jn S (y :: r))
theorem tl_join (sep : Str) : ∀ l : List Str, (Str.join sep l).cps.toList = jn sep.cps.toList (l.map fun x => x.cps.toList)
  | [] => rfl
  | [x] => rfl
  | x :: y :: r => by
    have h := tl_join sep (y :: r)
    show (x ++ sep ++ Str.join sep (y :: r)).cps.toList = _
    rw [str_app, str_app, h, List.append_assoc]
    rfl
theorem spl_free {c : Nat} {S : List Nat} : ∀ (p acc r : List Nat), c ∉ p → TL.spl (c :: S) 0 acc (p ++ r) = TL.spl (c :: S) 0 (acc ++ p) r
  | [], acc, r, _ => by rw [List.append_nil]; rfl
  | x :: p, acc, r, h => by
    have hx : x ≠ c := fun e => h (e ▸ List.mem_cons_self)
    have hp : c ∉ p := fun e => h (List.mem_cons_of_mem _ e)
    rw [List.cons_append, TL.spl_miss (TL.pre_of_head S (p ++ r) hx), spl_free p _ r hp, List.append_assoc]
    rfl
theorem spl_jn {c : Nat} {S : List Nat} : ∀ (ps : List (List Nat)) (p acc : List Nat), c ∉ p → (∀ x ∈ ps, c ∉ x) → TL.spl (c :: S) 0 acc (jn (c :: S) (p :: ps)) = (acc ++ p) :: ps
  | [], p, acc, h, _ => by
    have e := spl_free (S := S) p acc [] h
    rw [List.append_nil, TL.spl_nil] at e
    exact e
  | q :: ps, p, acc, h, hs => by
    have e := spl_free (S := S) p acc ((c :: S) ++ jn (c :: S) (q :: ps)) h
    show TL.spl (c :: S) 0 acc (p ++ ((c :: S) ++ jn (c :: S) (q :: ps))) = _
    have hp : TL.pre (c :: S) (c :: (S ++ jn (c :: S) (q :: ps))) = true := TL.pre_self (c :: S) _
    rw [e, List.cons_append, TL.spl_hit hp, TL.spl_pass]
    have e2 : (S ++ jn (c :: S) (q :: ps)).drop ((c :: S).length - 1) = jn (c :: S) (q :: ps) := by
      show (S ++ jn (c :: S) (q :: ps)).drop S.length = _
      exact List.drop_left
    rw [e2, spl_jn ps q [] (hs q List.mem_cons_self) fun x hx => hs x (List.mem_cons_of_mem _ hx)]
    rfl
theorem map_tl_inj : ∀ {a b : List Str}, a.map (fun x => x.cps.toList) = b.map (fun x => x.cps.toList) → a = b
  | [], [], _ => rfl
  | [], _ :: _, h => nomatch h
  | _ :: _, [], h => nomatch h
  | x :: a, y :: b, h => by
    rw [List.map_cons, List.map_cons, List.cons.injEq] at h
    rw [str_ext h.1, map_tl_inj h.2]
/-- cut where it was put together -/
theorem split_join {sep : Str} {c : Nat} {S : List Nat} (hs : sep.cps.toList = c :: S) (hk : sep.cps.all (· < 256) = true) {ps : List Str} (hn : ps ≠ []) (hf : ∀ p ∈ ps, c ∉ p.cps.toList) : Txt.split (Str.join sep ps) sep = ps := by
  refine map_tl_inj ?_
  have hy : TL.tl sep ≠ [] := by
    show sep.cps.toList ≠ []
    rw [hs]
    exact fun z => nomatch z
  have e := TL.split_spl (Str.join sep ps) sep hy (TL.kind_ok hk)
  refine e.trans ?_
  show TL.spl sep.cps.toList 0 [] (Str.join sep ps).cps.toList = _
  rw [tl_join, hs]
  cases ps with
  | nil => exact absurd rfl hn
  | cons p ps =>
    rw [List.map_cons, spl_jn _ _ _ (hf p List.mem_cons_self) (fun x hx => by
      obtain ⟨y, hy, rfl⟩ := List.mem_map.mp hx
      exact hf y (List.mem_cons_of_mem _ hy))]
    rfl
theorem join_split (x y : Str) : Str.join y (Txt.split x y) = x := StrLaws.join_split x y
theorem split_ne (x y : Str) : Txt.split x y ≠ [] := by
  have h := PyProof.Rows.split_pos x y
  intro e
  rw [e] at h
  exact absurd h (by decide)
end SQ
/-! Static methods, called by position and by keyword; instances made with a starred list or nothing. -/
namespace SQ
open PySem PySem.Spec PyProof.Rows L2
structure SMet (K : PySem.W.Frag) (C : Addr) (mc : Value) (m : Str) (p g : Addr) : Prop where
  rd : PySem.W.readsIn K C mc = true
  ga : PySem.W.specialIn K (.ref C) "__getattribute__" = some (some (.builtin "type.__getattribute__"))
  at_ : PySem.W.findCls K (.ref C) mc m = some (.get (.builtin "staticmethod.__get__") (.ref p) .none (.ref C))
  rc : ∃ rest, PySem.W.recIn K p "staticmethod" = some (.ref g :: rest)
  kp : PySem.W.keepIn K (.ref g) = true
section
variable {X : Cx} {CX : CXT} {k : Nat} {C p g : Addr} {mc : Value} {sp : Sp} {E : XK} {o e : Expr} {es : List Expr} {x m : Str} {pos apos kpos sp_ : Pos} {ta te : TE} {t : TA} {pl : Sem Bool}
theorem getsm_ok {pins : List (Addr × Obj)} {σ : L2.St} {H : Hp} {s : Shared} {A : Around} {E : Value → Shared → Prop} {Q : Value × List Value → Shared → Prop} (I : Inv X pins σ H s) (c : SMet X.K C mc m p g)
    (h : ∀ t, Inv X pins σ H t → Q (.ref g, []) t) : wpAny (model X.prog X.w) A (getMethod (.ref C) m pl) Q E s := by
  obtain ⟨rest, hp⟩ := c.rc
  refine PySem.W.method_cls I.kIn c.ga (PySem.W.cls_bind I.kIn c.rd c.at_ ?_)
  exact wpAny_call (PySem.W.sm_get (s := { s with toks := s.toks + 1 }) I.kIn hp (PySem.W.handed_on rfl (h _ (I.tok _))))
/-- C.m(e, ..) -/
theorem pe_smeth (he : PE X o ta) (c : SMet X.K C mc m p g) (F : FnR X.prog X.w X.K X.mg X.base CX k g sp) (hr : Room k X.A) (hx : Passes CX X E) (ha : PA X (e :: es) t)
    (hst : starEach (e :: es) X.env = (false, eval e X.env) :: starEach es X.env := by rfl) (hpl : (backTo pos (starEach es X.env)).any (·.1) = false := by rfl)
    (ht : eval (.Call (.Attribute o m apos) (e :: es) [] pos) X.env = (do
      let v ← eval o X.env
      standAt apos.atName
      let (fn, pre) ← holding [v] (getMethod v m pl)
      callWith pos fn pre (backTo pos (starEach (e :: es) X.env)) (backToKw pos (keywordEach [] X.env))) := by rfl) :
    PE X (.Call (.Attribute o m apos) (e :: es) [] pos) (fun σ H Q => ta σ H fun y H1 => y = .ref C ∧ t σ H1 fun vs H2 => sp vs H2 Q E) := by
  constructor
  intro pins s σ H Q I h
  refine PySem.W.methodCall_KW (pl := pl) (thn (he.run pins s σ H _ I h) fun u s1 ⟨y, H1, I1, ry, ey, q⟩ => ?_) ht
  subst ey
  obtain rfl : u = Value.ref C := ry
  refine getsm_ok I1 c fun s2 I2 => ?_
  refine PySem.W.callWith_K (h₀ := X.base) I2.ok.mod.kin c.kp (thn (ha.run pos pins s2 σ H1 _ I2 q) fun us s3 ⟨vs, H2, I3, rv, q2⟩ => ⟨I3.kIn, ?_⟩) hst hpl
  exact wpAny_call (run_fnR F hr hx I3 rv q2)
/-- C.m(f=e) -/
theorem pe_smethK {fd : FuncData} {f : Str} (he : PE X o ta) (c : SMet X.K C mc m p g) (F : FnOk X.prog X.w X.K X.mg X.base CX k g fd [f] sp) (hr : Room k X.A) (hb : ∀ (s : Shared) (u : Value), BindsTo s fd ⟨[], [(f, u)]⟩ [(f, u)]) (hx : Passes CX X E) (ha : PE X e te)
    (ht : eval (.Call (.Attribute o m apos) [] [⟨some f, e, kpos⟩] pos) X.env = (do
      let v ← eval o X.env
      standAt apos.atName
      let (fn, pre) ← holding [v] (getMethod v m pl)
      callWith pos fn pre (backTo pos (starEach [] X.env)) (backToKw pos (keywordEach [⟨some f, e, kpos⟩] X.env))) := by rfl) :
    PE X (.Call (.Attribute o m apos) [] [⟨some f, e, kpos⟩] pos) (fun σ H Q => ta σ H fun y H1 => y = .ref C ∧ te σ H1 fun v H2 => ∃ v', [v] = [v'] ∧ sp [v'] H2 Q E) := by
  constructor
  intro pins s σ H Q I h
  refine PySem.W.methodCall_KW (pl := pl) (thn (he.run pins s σ H _ I h) fun u s1 ⟨y, H1, I1, ry, ey, q⟩ => ?_) ht
  subst ey
  obtain rfl : u = Value.ref C := ry
  refine getsm_ok I1 c fun s2 I2 => ?_
  refine PySem.W.callWith_KW0 (h₀ := X.base) I2.ok.mod.kin c.kp rfl ?_
  have hk : PK X [⟨some f, e, kpos⟩] (tCons te tNil) := pk_cons ha pk_nil
  refine thn (hk.run pos pins s2 σ H1 (fun zs H2 => ∃ v, zs = [v] ∧ sp [v] H2 Q E) I2 ?_) ?_
  · exact q
  · intro us s3 ⟨zs, H2, I3, r1, v, ez, q2⟩
    subst ez
    refine ⟨I3.kIn, ?_⟩
    cases r1 with
    | cons rv rr =>
      cases rr
      rename_i u
      show wpAny _ _ (call (.ref g) [] [(f, u)]) _ _ _
      refine wpAny_call (codeAny_mono (F.run X.A X.stack s3 H2 ⟨[], [(f, u)]⟩ [u] [v] Q E hr I3.env0 (hb s3 u) (.cons rv .nil) q2) fun r s' hq => ?_)
      cases r with
      | error e => exact hx pins σ H2 s3 e s' I3 hq
      | ok fl => cases fl with
        | ret u => exact I3.after hq
        | next => exact False.elim hq
        | brk => exact False.elim hq
        | cont => exact False.elim hq
/-- the instance is made, what __init__ lets out being taken at these slots -/
theorem make_at {f : Addr} {pins : List (Addr × Obj)} {σ : L2.St} {H : Hp} {s : Shared} {Q : VK} {us : List Value} {vs : List V} (M : Mk X.K C f) (F : FnR X.prog X.w X.K X.mg X.base CX k f sp) (hr : Room (k + 1) X.A) (hx : PassesAt CX X σ E) (I : Inv X pins σ H s) (r : Vals vs us)
    (h : ∀ q dx, H q = none → H dx = none → dx ≠ q → sp (V.ref q :: vs) (upd (upd H dx (.own q)) q (.ins C dx [])) (fun v H2 => v = .non ∧ Q (.ref q) H2) E) :
    wpAny (model X.prog X.w) X.A (call (.ref C) us) (EP X pins σ Q) X.xe s := by
  have J := Inv.made (C := C) I
  have hsp := h (s.heap.objs.size + 1) s.heap.objs.size (I.hok.fresh (Nat.le_succ _)) (I.hok.fresh (Nat.le_refl _)) (fun z => Nat.succ_ne_self _ z.symm)
  have rs : Vals (V.ref (s.heap.objs.size + 1) :: vs) (Value.ref (s.heap.objs.size + 1) :: us) := .cons rfl r
  refine wpAny_call (make_map (f := f) I.kIn M.makes M.init (beq_iff_eq.mp M.fn) ?_)
  refine codeAny_mono (F _ X.stack _ _ _ _ _ E (hr.make C us []) (J.env0.make C us []) rs hsp) ?_
  intro r t ht
  rcases r with er | (_ | _ | _ | u)
  · exact hx pins _ _ er t J ht
  · exact ht.elim
  · exact ht.elim
  · exact ht.elim
  · obtain ⟨v, G, J2, rv, rfl, q2⟩ := J.after ht
    exact ⟨rv, V.ref (s.heap.objs.size + 1), G, J2, rfl, q2⟩
/-- C(*e) in a try -/
theorem pe_makeST {f : Addr} {E : L2.St → XK} (Kx : PySem.W.Frag) (hK : X.K = Kx) (M : Mk X.K C f) (F : FnR X.prog X.w X.K X.mg X.base CX k f sp) (hr : Room (k + 1) X.A) (hg : Gl X x) (hm : X.mg x = some (.ref C)) (hx : ∀ σ, PassesAt CX X σ (E σ)) (he : PE X e te) (hdb : (x == ("__debug__" : Str)) = false := by decide)
    (hst : starEach [.Starred e sp_] X.env = [(true, eval e X.env)] := by rfl) :
    PE X (.Call (.Name x apos) [.Starred e sp_] [] pos) (fun σ H Q => te σ H fun y H1 => ∃ a xs, y = V.ref a ∧ (SqT Kx H1 a xs ∨ SqL Kx H1 a xs) ∧ ∀ q dx, H1 q = none → H1 dx = none → dx ≠ q → sp (V.ref q :: xs) (upd (upd H1 dx (.own q)) q (.ins C dx [])) (fun v H2 => v = .non ∧ Q (.ref q) H2) (E σ)) := by
  subst hK
  constructor
  intro pins s σ H Q I h
  refine wpAny_Call_Name_kw (ld_glob I hg hm ?_ hdb)
  refine PySem.W.callWith_S (h₀ := X.base) I.ok.mod.kin M.kp (thn (he.run pins s σ H _ I h) fun v s1 ⟨y, H1, I1, ry, a, xs, ey, hxs, q⟩ => ?_) hst
  subst ey
  obtain rfl : v = Value.ref a := ry
  exact StX.star_any I1 hxs fun us s2 I2 rv => ⟨I2.kIn, make_at M F hr (hx σ) I2 rv q⟩
/-- C(*e), C() by a positional promise of __init__ -/
theorem pe_makeS {f : Addr} (M : Mk X.K C f) (F : FnR X.prog X.w X.K X.mg X.base CX k f sp) (hr : Room (k + 1) X.A) (hg : Gl X x) (hm : X.mg x = some (.ref C)) (hx : Passes CX X E) (he : PE X e te) (hdb : (x == ("__debug__" : Str)) = false := by decide)
    (hst : starEach [.Starred e sp_] X.env = [(true, eval e X.env)] := by rfl) :
    PE X (.Call (.Name x apos) [.Starred e sp_] [] pos) (fun σ H Q => te σ H fun y H1 => ∃ a xs, y = V.ref a ∧ (SqT X.K H1 a xs ∨ SqL X.K H1 a xs) ∧ ∀ q dx, H1 q = none → H1 dx = none → dx ≠ q → sp (V.ref q :: xs) (upd (upd H1 dx (.own q)) q (.ins C dx [])) (fun v H2 => v = .non ∧ Q (.ref q) H2) E) := by
  constructor
  intro pins s σ H Q I h
  refine wpAny_Call_Name_kw (ld_glob I hg hm ?_ hdb)
  refine PySem.W.callWith_S (h₀ := X.base) I.ok.mod.kin M.kp (thn (he.run pins s σ H _ I h) fun v s1 ⟨y, H1, I1, ry, a, xs, ey, hxs, q⟩ => ?_) hst
  subst ey
  obtain rfl : v = Value.ref a := ry
  exact StX.star_any I1 hxs fun us s2 I2 rv => ⟨I2.kIn, StX.run_makeR M F hr hx I2 rv q⟩
theorem pe_make0R {f : Addr} (M : Mk X.K C f) (F : FnR X.prog X.w X.K X.mg X.base CX k f sp) (hr : Room (k + 1) X.A) (hg : Gl X x) (hm : X.mg x = some (.ref C)) (hx : Passes CX X E) (hdb : (x == ("__debug__" : Str)) = false := by decide) :
    PE X (.Call (.Name x apos) [] [] pos) (fun σ H Q => ∀ q dx, H q = none → H dx = none → dx ≠ q → sp [V.ref q] (upd (upd H dx (.own q)) q (.ins C dx [])) (fun v H2 => v = .non ∧ Q (.ref q) H2) E) := by
  constructor
  intro pins s σ H Q I h
  refine wpAny_Call_Name_kw (ld_glob I hg hm ?_ hdb)
  refine PySem.W.callWith_K0 I.kIn M.kp ?_
  show wpAny _ _ (call (.ref C) []) _ _ _
  exact StX.run_makeR M F hr hx I .nil h
end
end SQ
namespace SQ
open PySem PySem.Spec PyProof.Rows L2
abbrev Suite := Addr → Value → Option Addr → TS
/-- several clauses, each with the same name behind its as, in slot i; every error is met by one of them -/
def wMet (K : PySem.W.Frag) (i : Nat) (D : Ends) : List (Value × Suite) → WX
  | [] => fun _ _ _ _ => False
  | p :: r => wAs K p.1 i p.2 (wMet K i D r) D
inductive Clauses (X : Cx) (n : Str) : List ExceptHandler → List (Value × Suite) → Prop
  | nil : Clauses X n [] []
  | cons {x : Str} {c : Value} {ts : Suite} {st : Stmt} {sts : List Stmt} {q1 q2 : Pos} {hds : List ExceptHandler} {l : List (Value × Suite)} (nm : Names X x c)
      (su : ∀ a oe cls d pn, Zc cls d oe → (∃ vs, oe.data = .fields vs) → PSs (X.suite a ((a, oe) :: pn)) (st :: sts) (ts a cls d))
      (tl : Clauses X n hds l) : Clauses X n (.ExceptHandler (some (.Name x q1)) (some n) (st :: sts) q2 :: hds) ((c, ts) :: l)
section
variable {X : Cx} {n : Str} {i : Nat} {body : List Stmt} {hd0 : ExceptHandler} {hds : List ExceptHandler} {l : List (Value × Suite)} {pos : Pos} {tb : WX → TS}
theorem of_flow {pins : List (Addr × Obj)} {D : Ends} {xe : Value → Shared → Prop} (ok : X.Ok) : ∀ (f : Flow) (s : Shared), SP (X.tr (X.pn ++ pins) xe) [] D f s → SP X pins D f s
  | .next, s, ⟨a, b, c, d⟩ => ⟨a, b, c.ofTry ok, d⟩
  | .brk, s, ⟨a, b, c, d⟩ => ⟨a, b, c.ofTry ok, d⟩
  | .cont, s, ⟨a, b, c, d⟩ => ⟨a, b, c.ofTry ok, d⟩
  | .ret u, s, ⟨v, a, b, c, r, d⟩ => ⟨v, a, b, c.ofTry ok, r, d⟩
/-- an error that the clauses look at; sI: the state without it -/
structure Aloft (X : Cx) (pins : List (Addr × Obj)) (B : Heap) (a : Addr) (cls : Value) (d : Option Addr) (σ : L2.St) (H : Hp) (sI s : Shared) : Prop where
  inv : Inv X pins σ H sI
  nb : ∀ b o, sI.heap.get? b = some o → b ∉ frs X.stack → B.get? b = some o
  up : sI.heap.UpToSlots s.heap
  fly : HandSPX.FlyingZ B X.stack a (Zc cls d) s.heap
  na : H a = none
  os : s.os = sI.os
  ag : AllBare s.gens
section
variable {pins : List (Addr × Obj)} {B : Heap} {a : Addr} {cls : Value} {d : Option Addr} {σ : L2.St} {H : Hp} {sI s : Shared} {D : Ends}
theorem Aloft.here (L : Aloft X pins B a cls d σ H sI s) : Inv X pins σ H s := L.inv.landed L.nb L.fly.1 L.up L.os L.ag
theorem Aloft.again {h : Heap} (L : Aloft X pins B a cls d σ H sI s) (f : HandSPX.FlyingZ B X.stack a (Zc cls d) h) (u : s.heap.UpToSlots h) : Aloft X pins B a cls d σ H sI { s with heap := h } := ⟨L.inv, L.nb, L.up.trans u, f, L.na, L.os, L.ag⟩
theorem Aloft.away (hs : X.stack = X.env :: X.outer) (hf : X.env.frame = some X.env.locals) (L : Aloft X pins B a cls d σ H sI s) : a ≠ X.env.locals ∧ a ∉ X.fs := by
  obtain ⟨oe, vs, g1, _, g2⟩ := L.fly.there
  have no : a ∉ frs X.stack := by
    intro m
    obtain ⟨_, o2, g3, nf⟩ := L.fly.2.2.1.mem m
    cases g1.symm.trans g3
    exact nf _ g2
  rw [hs] at no
  constructor
  · intro z
    exact no (List.mem_filterMap.mpr ⟨_, List.mem_cons_self, z ▸ hf⟩)
  · intro m
    obtain ⟨e, m1, m2⟩ := List.mem_filterMap.mp m
    exact no (List.mem_filterMap.mpr ⟨e, List.mem_cons_of_mem _ m1, m2⟩)
theorem Aloft.met (hs : X.stack = X.env :: X.outer) (hf : X.env.frame = some X.env.locals) (hN : X.N.Nodup) (hi : X.N[i]? = some n) (hln : X.env.kindOf n = some .local) (C : Clauses X n hds l) (L : Aloft X pins B a cls d σ H sI s) :
    wMet X.K i D l cls d σ H → wpAny (model X.prog X.w) X.A (handleBy (.ref a) X.env hds) (SP X pins D) X.xe s := by
  obtain ⟨aL, aF⟩ := L.away hs hf
  induction C with
  | nil => exact fun w => w.elim
  | @cons x c ts st sts q1 q2 hds l nm su tl ih =>
    rintro ⟨b, eb, yes, no⟩
    obtain ⟨oe, vs, g1, g2, g3⟩ := L.fly.there
    have S := L.here.suite g1 g3 L.na aL aF
    refine wpAny_handleBy_cons (codeAny_handlers_test ?_) (fun z => nomatch z)
    have ty : PySem.W.Looks (model X.prog X.w) s.heap (typeOf (.ref a)) cls := fun _ _ _ _ k r => wpAny_typeOf_ref (k _ _ g1) (by rw [g2.1]; exact r)
    have is := PySem.W.exm_one (M := model X.prog X.w) L.here.kIn ty eb
    have read : ∀ {Q E : Value → Shared → Prop}, Q c s → wpAny (model X.prog X.w) (X.A.mark (some (.ref a))) (eval (.Name x q1) X.env) Q E s := by
      intro Q E r
      rcases nm with ⟨u1, u2, u3 | ⟨u3, u4, u5⟩⟩
      · exact ld_glob S u1 u3 r u2
      · exact ld_blt S u1 u3 u4 r u5 u2
    refine read (is.here ?_)
    cases b
    · exact ih (no rfl)
    refine codeAny_handlers_suite_as (HandSPX.lands_againZ L.fly fun h' fl' up' => ?_)
    have L' := L.again fl' up'
    obtain ⟨oe', vs', k1, k2, k3⟩ := fl'.there
    refine store_ok (X := X.suite a ((a, oe') :: (X.pn ++ pins))) (v := .ref a) (L'.here.suite k1 k3 L.na aL aF) hN hi (.inl hln) rfl (fun s5 S5 => ?_) (.inr hln)
    have gone : ∀ {σ6 : L2.St} {H6 : Hp} {s6 : Shared} {R : Shared → Prop}, Inv (X.suite a ((a, oe') :: (X.pn ++ pins))) [] σ6 H6 s6 → (∀ s7, Inv X pins (σ6.set i none) H6 s7 → R s7) → wpAny (model X.prog X.w) X.A (do bindName X.env n .none; unbindBehindTheSuite X.env n q2) (fun _ s7 => R s7) X.xe s6 :=
      fun S6 r => gone_ok (S6.unsuite L.inv.ok) hN hi hln r
    refine wpAny_mono ((su a oe' cls d (X.pn ++ pins) k2 ⟨vs', k3⟩).run [] s5 _ H _ S5 (yes rfl a L.na)) (fun f s6 z => ?_) fun _ _ z => z.elim
    match f, z with
    | .next, ⟨_, _, S6, r⟩ => exact gone S6 fun _ J => ⟨_, _, J, r⟩
    | .brk, ⟨_, _, S6, r⟩ => exact gone S6 fun _ J => ⟨_, _, J, r⟩
    | .cont, ⟨_, _, S6, r⟩ => exact gone S6 fun _ J => ⟨_, _, J, r⟩
    | .ret _, ⟨_, _, _, S6, rv, r⟩ => exact gone S6 fun _ J => ⟨_, _, _, J, rv, r⟩
end
/-- try: body, except A as n: .., except B as n: .. -/
theorem ps_tryM (hs : X.stack = X.env :: X.outer) (hf : X.env.frame = some X.env.locals) (hN : X.N.Nodup) (hi : X.N[i]? = some n) (hln : X.env.kindOf n = some .local)
    (hb : ∀ W pn xe, Takes (X.tr pn xe) W → PassesOwn (model X.prog X.w) X.A X.env xe → PSs (X.tr pn xe) body (tb W)) (C : Clauses X n (hd0 :: hds) l) : PS X (.Try body (hd0 :: hds) [] [] pos) fun D σ H => tb (wMet X.K i D l) D σ H := by
  refine ⟨fun pins s σ H D I h => wpAny_Try_except ?_⟩
  refine wpAny_mono ((hb _ (X.pn ++ pins) (fun e s1 => wpAny (model X.prog X.w) X.A (noteFrame e X.env) (fun _ s2 => wpAny (model X.prog X.w) X.A (setFlight e none) (fun _ s3 => wpAny (model X.prog X.w) X.A (handleBy e X.env (hd0 :: hds)) (SP X pins D) X.xe s3) X.xe s2) X.xe s1) ?_ PassesOwn.looking).run [] s σ H D (I.toTry _) h) ?_ (fun _ _ z => z)
  · rintro u s' ⟨a, B, sI, pins', σ', H', cls, d, rfl, J', nb, up, sky, na, os, ag, w⟩
    have fr : X.A.frames = some (X.env :: X.outer) := I.ok.frames.trans (congrArg some hs)
    have sky' : Sky B (X.env :: X.outer) a (Zc cls d) X.env.locals s'.heap := hs ▸ sky
    refine Sky.land Zc.steady fr hf sky' fun h3 f3 u3 => ?_
    have L : Aloft X pins B a cls d σ' H' sI { s' with heap := h3 } := ⟨J'.ofTry I.ok, nb, up.trans u3, hs.symm ▸ f3, na, os, ag⟩
    exact L.met hs hf hN hi hln C w
  · intro f s1 z
    cases f with
    | next => exact wpAny_execs_nil (of_flow I.ok _ _ z)
    | _ => exact of_flow I.ok _ _ z
end
end SQ
/-! != of instances whose class has its own == and no !=. -/
namespace SQ
open PySem PySem.Spec PyProof.Rows L2
open PySem.W (InstAt findIn isFn subIn)
theorem slot_one : Slot "object" "__ne__" "object.__ne__" :=
  .of (owner := "object") (n := "__ne__") (by rw [typeLookup_type, builtinLookup_eq_fast]; kernel_rfl) (by decide +kernel) (by decide +kernel) (by decide +kernel)
    (.inl (by decide +kernel)) (by rw [isSubtype_type]; kernel_rfl)
section
variable {prog : Program} {w : World} {A : Around} {E : Value → Shared → Prop} {s : Shared} {K : PySem.W.Frag} {x y C f : Addr} {ox oy : Obj} {od oe : Option Obj}
theorem ifBound_ne {M : Model} {b : Value} {Q : Option Value → Shared → Prop} (X : K.In s.heap) (I : InstAt s.heap x ox C od) (hs : findIn K (.ref C) "__ne__" = some (some (.builtin "object.__ne__")))
    (h : wpAny M A (call (.builtin "object.__ne__") [.ref x, b]) (fun v => Q (some v)) E s) : wpAny M A (callSpecialIfBound? (.ref x) "__ne__" [b]) Q E s := by
  simp only [callSpecialIfBound?, bindSpecialIfBound?]
  refine wpAny_holding (wpAny_bind (wpAny_bind (wpAny_bind (I.type.here ((PySem.W.looks_findIn X hs).here ?_)))))
  refine wpAny_bind (wpAny_askSetting (wpAny_ite ?_))
  have fin : wpAny M A (call (.builtin "object.__ne__") ([.ref x] ++ [b]) >>= fun v => pure (some v)) Q E s := wpAny_bind (wpAny_mono h (fun v s' z => wpAny_pure z) fun _ _ z => z)
  have bd : bindSpecial (.builtin "object.__ne__") (.ref x) = pure (.builtin "object.__ne__", [.ref x]) := slot_one.bind (.ref x)
  rw [bd]
  split
  · exact wpAny_bind (wpAny_pure (wpAny_pure (by exact fin)))
  · exact wpAny_tryCatch (wpAny_bind (wpAny_pure (wpAny_pure (by exact fin))))
theorem chk_ne {M : Model} {b : Value} {Q : Unit → Shared → Prop} (X : K.In s.heap) (I : InstAt s.heap x ox C od) (ho : subIn K (.ref C) (.type "object") = some true) (h : Q () s) :
    wpAny M A (checkBuiltinCall "object.__ne__" ⟨[.ref x, b], []⟩) Q E s := by
  have ha := PySem.F.cmpArgs_ne (.ref x) b
  simp only [checkBuiltinCall, PySem.F.cmpKind_ne, PySem.F.cmpSplit_ne]
  refine wpAny_bind ?_
  unfold isInstance
  refine wpAny_bind (I.type.here ((PySem.W.looks_subIn X ho).here ?_))
  simp only [Bool.not_true, Bool.false_eq_true, if_false]
  cases hsig : Manifest.signature? "object.__ne__" with
  | none => exact wpAny_pure h
  | some sig =>
    simp only [argsOk, hsig] at ha
    show wpAny M A (Bind.checkArgs "object.__ne__" sig ⟨[.ref x, b], []⟩) Q E _
    have h2 : Bind.checkArgs "object.__ne__" sig ⟨[.ref x, b], []⟩ = pure () := ha
    rw [h2]
    exact wpAny_pure h
def NeBack (Q : Value → Shared → Prop) (v : Value) (s' : Shared) : Prop := ∃ b, v = .bool b ∧ Q (.bool (!b)) s'
theorem call_ne {Q : Value → Shared → Prop} (X : K.In s.heap) (I : InstAt s.heap x ox C od) (hu : A.in1.units < cLine) (ho : subIn K (.ref C) (.type "object") = some true) (he : findIn K (.ref C) "__eq__" = some (some (.ref f))) (hf : isFn K (.ref f) = true)
    (h : wpAny (model prog w) A.in1 (call (.ref f) [.ref x, .ref y]) (NeBack Q) E s) : wpAny (model prog w) A (call (.builtin "object.__ne__") [.ref x, .ref y]) Q E s := by
  refine wpAny_call (codeAny_call_builtin slot_one.plain PySem.F.cmpEntry_ne (chk_ne X I ho ?_))
  unfold Builtin.«object.__ne__»
  refine wpAny_bind (m := slotArgs "__ne__" 1 _) (wpAny_pure ?_)
  refine wpAny_bind (wpAny_cRoomFor hu ?_)
  refine wpAny_bind (PySem.W.ifBound_K X I he hf (wpAny_mono h (fun v s' z => ?_) fun _ _ z => z))
  obtain ⟨b, rfl, q⟩ := z
  refine wpAny_bind (wpAny_truthy_bool ?_)
  exact wpAny_pure q
theorem rc_ne {Q : Value → Shared → Prop} (X : K.In s.heap) (I : InstAt s.heap x ox C od) (J : InstAt s.heap y oy C oe) (hu0 : A.units < cLine) (hu : A.in1.units < cLine) (ho : subIn K (.ref C) (.type "object") = some true)
    (hs : findIn K (.ref C) "__ne__" = some (some (.builtin "object.__ne__"))) (he : findIn K (.ref C) "__eq__" = some (some (.ref f))) (hf : isFn K (.ref f) = true)
    (h : wpAny (model prog w) A.in1 (call (.ref f) [.ref x, .ref y]) (NeBack Q) E s) : wpAny (model prog w) A (richCompare .NotEq (.ref x) (.ref y)) Q E s := by
  have one : wpAny (model prog w) A (tryCompare (.ref x) "__ne__" (.ref y)) (fun r s' => ∃ b, r = some (.bool b) ∧ Q (.bool b) s') E s := by
    unfold tryCompare
    have g := call_ne (prog := prog) (w := w) (A := A) (E := E) (Q := fun v s' => ∃ b, v = .bool b ∧ Q v s') X I hu ho he hf (wpAny_mono h (fun v s' z => by
      obtain ⟨b, rfl, q⟩ := z
      exact ⟨b, rfl, _, rfl, q⟩) fun _ _ z => z)
    refine wpAny_bind (ifBound_ne X I hs (wpAny_mono g (fun v s' z => ?_) fun _ _ z => z))
    obtain ⟨b, rfl, q⟩ := z
    exact wpAny_pure ⟨b, rfl, q⟩
  unfold richCompare
  simp only [oneThing_ref]
  refine wpAny_holding (wpAny_bind (wpAny_cRoomFor hu0 ?_))
  refine wpAny_bind (I.type.here (wpAny_bind (J.type.here ?_)))
  rw [show (Value.ref C != Value.ref C) = false from by simp]
  simp only [Bool.false_eq_true, if_false]
  refine wpAny_bind (wpAny_pure ?_)
  simp only [Bool.false_eq_true, if_false]
  refine wpAny_bind (wpAny_mono one (fun r s' z => ?_) fun _ _ z => z)
  obtain ⟨b, rfl, q⟩ := z
  exact wpAny_pure q
end
/-- how the class at C compares -/
structure CmpC (K : PySem.W.Frag) (C f : Addr) : Prop where
  ob : subIn K (.ref C) (.type "object") = some true
  ne : findIn K (.ref C) "__ne__" = some (some (.builtin "object.__ne__"))
  eq : findIn K (.ref C) "__eq__" = some (some (.ref f))
  fn : isFn K (.ref f) = true
theorem op_neOwn {X : Cx} {k : Nat} {f C : Addr} {sp : Sp} (F : FnR X.prog X.w X.K X.mg X.base CX0 k f sp) (hr : Room (k + 2) X.A) (T : CmpC X.K C f) :
    OpR X (compareOp .NotEq) (fun x y H Q => ∃ (a b dx dy : Addr) (fs gs : List (Str × V)), x = .ref a ∧ y = .ref b ∧ H a = some (.ins C dx fs) ∧ H b = some (.ins C dy gs) ∧ sp [.ref a, .ref b] H (fun v H' => ∃ r, v = .bl r ∧ Q (.bl (!r)) H') E0) := by
  intro pins s σ H x y v u Q I rx ry h
  obtain ⟨a, b, dx, dy, fs, gs, rfl, rfl, ha, hb, q⟩ := h
  obtain rfl : v = Value.ref a := rx
  obtain rfl : u = Value.ref b := ry
  obtain ⟨mA, O, _⟩ := ins_get I.hok ha
  obtain ⟨od, J, _⟩ := O.look
  obtain ⟨mB, O2, _⟩ := ins_get I.hok hb
  obtain ⟨oe, J2, _⟩ := O2.look
  have hr1 : Room (k + 1) X.A.in1 := Room.in1 hr
  refine rc_ne I.kIn J J2 hr.units0 hr1.units0 T.ob T.ne T.eq T.fn (wpAny_call (codeAny_mono (F X.A.in1 X.stack s H [.ref a, .ref b] [.ref a, .ref b] _ _ (hr1.mono (by omega)) I.env0.in1 (.cons rfl (.cons rfl .nil)) q) fun r s' hq => ?_))
  rcases r with er | (_ | _ | _ | z)
  · exact (show False from hq).elim
  · exact False.elim hq
  · exact False.elim hq
  · exact False.elim hq
  · obtain ⟨v, H', I', rv, r, rfl, q'⟩ := I.after hq
    obtain rfl : z = Value.bool r := rv
    exact ⟨r, rfl, .bl (!r), H', I', rfl, q'⟩
end SQ
/-! repr of an instance with its own __repr__, and of a list that holds one. -/
namespace SQ
open PySem PySem.Spec PyProof.Rows L2
open PySem.W (InstAt findIn isFn subIn)
open Builtin Builtin.List
section
variable {prog : Program} {w : World} {A : Around} {E : Value → Shared → Prop} {R : Result → Shared → Prop} {s : Shared} {K : PySem.W.Frag} {x C f : Addr} {ox : Obj} {od : Option Obj}
def SBack (Q : Str → Shared → Prop) (v : Value) (s' : Shared) : Prop := ∃ z t, v = .str z t ∧ Q z s'
theorem repr_own {Q : Str → Shared → Prop} {b : Nat} (hb : b ≤ sizeLine) (hu : A.units < cLine) (X : K.In s.heap) (I : InstAt s.heap x ox C od) (hs : findIn K (.ref C) "__repr__" = some (some (.ref f))) (hf : isFn K (.ref f) = true)
    (h : wpAny (model prog w) A (call (.ref f) [.ref x]) (SBack Q) E s) : wpAny (model prog w) A (pyReprUnder b (.ref x)) Q E s := by
  unfold pyReprUnder
  rw [if_neg (by omega)]
  refine wpAny_bind (m := pyReprObjUnder b (.ref x)) ?_
  unfold pyReprObjUnder pyReprObjBy
  refine wpAny_bind (wpAny_cRoomFor hu ?_)
  refine wpAny_bind (m := specialOf (.ref x) "__repr__") (wpAny_bind (I.type.here ((PySem.W.looks_findIn X hs).here ?_)))
  simp only [Option.isNone_some, Bool.false_eq_true, if_false]
  refine wpAny_bind (m := callSpecialIfBoundBy? _ (.ref x) "__repr__") ?_
  simp only [callSpecialIfBoundBy?, bindSpecialIfBound?]
  refine wpAny_holding (wpAny_bind (wpAny_bind (wpAny_bind (I.type.here ((PySem.W.looks_findIn X hs).here ?_)))))
  refine wpAny_bind (wpAny_askSetting (wpAny_ite ?_))
  have fin : wpAny (model prog w) A (call (.ref f) [.ref x] >>= fun v => pure (some v)) (fun a s' => wpAny (model prog w) A (match a with
        | some r => do
          let __do_lift ← isInstance r (Value.type "str")
          if __do_lift = true then pure r
            else do
              let __do_lift ← typeNameOf r
              raiseErrorMade "TypeError" (toString "__repr__ returned non-string (type " ++ toString __do_lift ++ toString ")")
        | none => unsupported "repr:special-get-raises") (fun r s2 => ∃ z t, r = .str z t ∧ Q z s2) E s') E s := by
    refine wpAny_bind (wpAny_mono h (fun v s' z => wpAny_pure ?_) fun _ _ z => z)
    obtain ⟨y, t, rfl, q⟩ := z
    refine wpAny_bind (wpAny_isInstance (T := "str") (b := true) (typeIs_str _ _ _) isSubtype_str_str ?_)
    exact wpAny_pure ⟨y, t, rfl, q⟩
  split
  · refine wpAny_bind ((PySem.W.bind_fn X _ (beq_iff_eq.mp hf)).here (wpAny_pure ?_))
    refine wpAny_mono fin (fun a s' z => wpAny_mono z (fun r s2 y => ?_) fun _ _ y => y) fun _ _ y => y
    obtain ⟨y, t, rfl, q⟩ := y
    exact wpAny_pure q
  · refine wpAny_tryCatch (wpAny_bind ((PySem.W.bind_fn X _ (beq_iff_eq.mp hf)).here (wpAny_pure ?_)))
    refine wpAny_mono fin (fun a s' z => wpAny_mono z (fun r s2 y => ?_) fun _ _ y => y) fun _ _ y => y
    obtain ⟨y, t, rfl, q⟩ := y
    exact wpAny_pure q
/-- one turn of the list's repr -/
theorem repr_turn {a P : Addr} {items : Array Value} {i sg : Nat} {oa : Obj} {na : Nat} {x : Value} (ha : s.heap.get? a = some oa) (hda : oa.data = .seq items na) (hx : items[i]? = some x)
    (h : wpAny (model prog w) (A.under (.builtin "list.__repr__.loop" ⟨[.ref a, rawInt i, .ref P, rawInt sg], []⟩)) (pyReprUnder (sg + 1) x) (fun t s' => t.length ≤ sizeLine ∧ ∃ (acc : List Value) (c : Nat), s'.heap.get? P = some { cls := .type "list", data := .seq acc.toArray c } ∧ acc.length ≤ sizeLine ∧
      codeAny (model prog w) A (.builtin "list.__repr__.loop" ⟨[.ref a, rawInt ((i + 1 : Nat) : Int), .ref P, rawInt ((sg + (t.length + 2) : Nat) : Int)], []⟩) R { s' with heap := s'.heap.update P (Obj.mapSeq (·.push (.str t s'.toks))), toks := s'.toks + 1 }) (fun e s' => R (.error e) s') s) :
    codeAny (model prog w) A (.builtin "list.__repr__.loop" ⟨[.ref a, rawInt i, .ref P, rawInt sg], []⟩) R s := by
  refine codeAny_builtin F.entry_list_repr_loop ?_
  show wpAny _ _ («list.__repr__.loop» ⟨[.ref a, .int i 0, .ref P, .int sg 0], []⟩) _ _ s
  rw [repr_loop_tree]
  refine wpAny_bind (wpAny_listItems ha hda ?_)
  have hsome : items[(i : Int).toNat]? = some x := by simpa using hx
  simp only [hsome]
  rw [Int.toNat_natCast]
  refine wpAny_bind (wpAny_holding (wpAny_mono h (fun t s' z => ?_) fun _ _ z => z))
  obtain ⟨hz, acc, c, hP, hl, hc⟩ := z
  refine wpAny_bind (wpAny_mkStr ?_ hz)
  refine wpAny_bind ?_
  show wpAny _ _ (updateSeq P _) _ _ _
  refine wpAny_updateSeq hP rfl (wpAny_pure ⟨F.quiet_list_repr_loop _, ?_⟩) (by rw [List.size_toArray]; exact hl)
  have e1 : ((i : Int) + 1) = ((i + 1 : Nat) : Int) := by omega
  rw [e1]
  exact hc
theorem repr_stop {a P : Addr} {items : Array Value} {i sg : Nat} {oa op : Obj} {na np : Nat} {done : List (Str × Tok)} (ha : s.heap.get? a = some oa) (hda : oa.data = .seq items na) (hx : items[i]? = none) (hp : s.heap.get? P = some op) (hdp : op.data = .seq (strValues done).toArray np)
    (hz : (listText (done.map (·.1))).length ≤ sizeLine) (h : R (.ok (.ret (.str (listText (done.map (·.1))) s.toks))) { s with toks := s.toks + 1 }) :
    codeAny (model prog w) A (.builtin "list.__repr__.loop" ⟨[.ref a, rawInt i, .ref P, rawInt sg], []⟩) R s := by
  refine codeAny_builtin F.entry_list_repr_loop ?_
  show wpAny _ _ («list.__repr__.loop» ⟨[.ref a, .int i 0, .ref P, .int sg 0], []⟩) _ _ s
  rw [repr_loop_tree]
  refine wpAny_bind (wpAny_listItems ha hda ?_)
  have hnone : items[(i : Int).toNat]? = none := by simpa using hx
  simp only [hnone]
  unfold reprEnd
  refine wpAny_bind (wpAny_listItems hp hdp ?_)
  rw [List.toList_toArray, repr_fold]
  refine wpAny_bind (wpAny_pure ?_)
  exact wpAny_bind (wpAny_mkStr (wpAny_pure h) hz)
end
end SQ
namespace SQ
open PySem PySem.Spec PyProof.Rows L2
open PySem.W (InstAt findIn isFn subIn)
open Builtin Builtin.List
abbrev lpC (args : Args) : Code := .builtin "list.__repr__.loop" args
theorem lp_depth (A : Around) (args : Args) : (A.under (lpC args)).depth ≤ A.depth + 1 := by
  first
    | exact Nat.le_refl _
    | exact Nat.le_succ _
    | (show A.depth + (lpC args).weight ≤ A.depth + 1; decide)
    | (simp [Around.under, Code.weight, Code.isCreation, Code.isGuard, Code.isCaller, Code.frames, Code.isFrame, guardIds])
theorem lp_frames (A : Around) (args : Args) : (A.under (lpC args)).frames = A.frames := by
  show pushEnvs (lpC args).envs A.frames = A.frames
  cases A.frames <;> rfl
theorem lp_room {k : Nat} {A : Around} (r : Room (k + 1) A) (args : Args) : Room k (A.under (lpC args)) := by
  have h1 := lp_depth A args
  have h2 := units_under_list_loop A args
  have h3 := r.dp
  have h4 := r.un
  exact ⟨r.hd, by omega, by rw [h2]; omega⟩
theorem lp_env {P : Program} {w : World} {K : PySem.W.Frag} {mg : Str → Option Value} {base : Heap} {A : Around} {outer : List Env} {s : Shared} {H : Hp} (e : Env0 P w K mg base A outer s H) (args : Args) : Env0 P w K mg base (A.under (lpC args)) outer s H :=
  ⟨(lp_frames A args).trans e.frames, e.mod, e.bs, e.bsz, e.funs, e.frf, e.hok, e.bare⟩
structure RpC (K : PySem.W.Frag) (C f : Addr) : Prop where
  rp : findIn K (.ref C) "__repr__" = some (some (.ref f))
  fn : isFn K (.ref f) = true
abbrev bT (b : Bool) : Str := if b = true then Str.ofString "True" else Str.ofString "False"
def rRepr3 (C : Addr) (sp : Sp) : List V → Hp → VK → Prop := fun xs H Q => ∃ (a o dx : Addr) (fs : List (Str × V)) (t z : Str) (b : Bool), xs = [.ref a] ∧ H a = some (.lst [.str t, .ref o, .bl b]) ∧ H o = some (.ins C dx fs) ∧
  (reprText t).length ≤ 1000 ∧ z.length ≤ 1000 ∧ (∀ H1, Same H H1 → sp [.ref o] H1 (fun v H2 => v = .str z ∧ Same H1 H2) E0) ∧ ∀ H', Same H H' → Q (.str (listText [reprText t, z, bT b])) H'
theorem same_refl (H : Hp) : Same H H := fun _ _ e => e
theorem cr_repr3 {X : Cx} {k : Nat} {f C : Addr} {sp : Sp} (F : FnR X.prog X.w X.K X.mg X.base CX0 k f sp) (hr : Room (k + 3) X.A) (hg : X.A.guards = some []) (T : RpC X.K C f) : CallR X (.builtin "repr") (rRepr3 C sp) := by
  intro pins s σ H xs us Q I r h
  obtain ⟨a, o, dx, fs, t, z, b, rfl, ha, ho, ht, hz, hsp, q⟩ := h
  rw [Vals.ref1 r]
  obtain ⟨_, its, n, rv, e⟩ := (show ObjOk X.prog X.w H s.heap a (.lst [.str t, .ref o, .bl b]) from I.hok a _ ha)
  obtain ⟨tk, rfl⟩ : ∃ tk, its = [.str t tk, .ref o, .bool b] := by
    cases rv with
    | cons r1 rv =>
      cases rv with
      | cons r2 rv =>
        cases rv with
        | cons r3 rv =>
          cases rv
          obtain ⟨tk, rfl⟩ := r1
          obtain rfl := (show _ = Value.ref o from r2)
          obtain rfl := (show _ = Value.bool b from r3)
          exact ⟨tk, rfl⟩
  have hu := hr.un
  have bl : (bT b).length ≤ 5 := by cases b <;> decide
  refine call_repr_slot (by omega) ⟨_, e, rfl⟩ PySem.F.slot_list_repr.toG ?_
  refine wpAny_call (codeAny_call_builtin PySem.F.slot_list_repr.plain PySem.F.entry_list_repr (PySem.F.slot_list_repr.check _ _ _ _ _ _ _ _ ⟨_, e, rfl⟩ (PySem.F.args_list_repr_1 _) ?_))
  refine wpAny_list_repr_head (b := 0) (g := []) hg (fun v rest kw hm => nomatch hm) e rfl ?_
  refine wpAny_bind (m := newList []) (wpAny_newObj_type ?_)
  refine wpAny_pure ⟨PySem.F.quiet_list_repr_loop _, ?_⟩
  have nP : H s.heap.objs.size = none := I.hok.fresh (Nat.le_refl _)
  have I1 : Inv X pins σ (upd H s.heap.objs.size (.lst [])) { s with heap := s.heap.push { cls := .type "list", data := .seq ([] : List Value).toArray } } :=
    I.laid (t' := s.toks) (fun c u y => Heap.get?_push_of_some _ y) (Nat.le_refl _) ⟨Nat.zero_le _, [], _, .nil, Heap.get?_push_size _ rfl⟩
  generalize hP : s.heap.objs.size = P at nP I1 ⊢
  generalize hs1 : ({ s with heap := s.heap.push { cls := .type "list", data := .seq ([] : List Value).toArray } } : Shared) = s1 at I1 ⊢
  have aP : a ≠ P := ne_of_none ha nP
  have oP : o ≠ P := ne_of_none ho nP
  have at_ : ∀ {G : Hp} {s' : Shared} {ys : List V}, Inv X pins σ G s' → G a = some (.lst [.str t, .ref o, .bl b]) → ∃ (tk' : Tok) (n' : Nat), s'.heap.get? a = some { cls := .type "list", data := .seq #[.str t tk', .ref o, .bool b] n' } := by
    intro G s' ys J hG
    obtain ⟨_, its, n, rv, e⟩ := (show ObjOk X.prog X.w G s'.heap a (.lst [.str t, .ref o, .bl b]) from J.hok a _ hG)
    cases rv with
    | cons r1 rv =>
      cases rv with
      | cons r2 rv =>
        cases rv with
        | cons r3 rv =>
          cases rv
          obtain ⟨tk, rfl⟩ := r1
          obtain rfl := (show _ = Value.ref o from r2)
          obtain rfl := (show _ = Value.bool b from r3)
          exact ⟨tk, _, e⟩
  have line : ∀ {m : Nat}, m ≤ 10000 → m ≤ sizeLine := fun h => Nat.le_trans h (by decide)
  -- the text
  have g1 : upd H P (.lst []) a = some (.lst [.str t, .ref o, .bl b]) := by rw [upd_ne aP]; exact ha
  obtain ⟨tk1, n1, e1⟩ := at_ (ys := []) I1 g1
  refine repr_turn (i := 0) (sg := 0) e1 rfl rfl ?_
  refine ReprIs.str t tk1 (line (by omega)) _ (line (by omega)) _ _ _ _ fun k1 => ⟨line (by omega), [], ?_⟩
  obtain ⟨_, acc1, c1, rv1, p1⟩ := (show ObjOk X.prog X.w (upd H P (.lst [])) s1.heap P (.lst []) from I1.hok P _ upd_same)
  cases rv1
  refine ⟨c1, p1, Nat.zero_le _, ?_⟩
  have I2 := Inv.lset (t' := k1 + 1) (its' := [.str (reprText t) k1]) (f := fun y => y.push (.str (reprText t) k1)) (I1.tok k1) upd_same p1 rfl (.cons ⟨_, rfl⟩ .nil : Vals [.str (reprText t)] _) (by show 1 ≤ sizeLine; decide)
  rw [upd_upd] at I2
  generalize hs2 : ({ ({ s1 with toks := k1 } : Shared) with heap := _, toks := k1 + 1 } : Shared) = s2 at I2
  clear hs2 hs1 e1 p1
  -- the instance
  have sm2 : Same H (upd H P (.lst [.str (reprText t)])) := fun c u y => by
    rw [upd_ne (ne_of_none y nP)]
    exact y
  obtain ⟨tk2, n2, e2⟩ := at_ (ys := []) I2 (sm2 _ _ ha)
  refine repr_turn (i := 1) (sg := 0 + ((reprText t).length + 2)) e2 rfl rfl ?_
  obtain ⟨mA, O, _⟩ := ins_get I2.hok (sm2 _ _ ho)
  obtain ⟨od, J, _⟩ := O.look
  have hr1 : Room (k + 2) X.A.in1 := Room.in1 hr
  have hr2 : Room (k + 1) (X.A.in1.under (lpC ⟨[.ref a, rawInt ((1 : Nat) : Int), .ref P, rawInt ((0 + ((reprText t).length + 2) : Nat) : Int)], []⟩)) := lp_room hr1 _
  refine repr_own (line (by omega)) hr2.units0 I2.kIn J T.rp T.fn (wpAny_call (codeAny_mono (F _ X.stack s2 _ [.ref o] [.ref o] _ _ (hr2.mono (by omega)) (lp_env I2.env0.in1 _) (.cons rfl .nil) (hsp _ sm2)) fun r s3 hq => ?_))
  rcases r with er | (_ | _ | _ | v)
  · exact (show False from hq).elim
  · exact False.elim hq
  · exact False.elim hq
  · exact False.elim hq
  obtain ⟨v', H3, I3, rv3, rfl, sm3⟩ := I2.after hq
  obtain ⟨tz, rfl⟩ := rv3
  refine ⟨z, tz, rfl, line (by omega), ?_⟩
  have hP3 : H3 P = some (.lst [.str (reprText t)]) := sm3 _ _ upd_same
  obtain ⟨_, acc3, c3, rv3, p3⟩ := (show ObjOk X.prog X.w H3 s3.heap P (.lst [.str (reprText t)]) from I3.hok P _ hP3)
  obtain ⟨k3, rfl⟩ : ∃ k3, acc3 = [.str (reprText t) k3] := by
    cases rv3 with
    | cons r1 rv =>
      cases rv
      obtain ⟨k3, rfl⟩ := r1
      exact ⟨k3, rfl⟩
  refine ⟨_, c3, p3, (by show 1 ≤ sizeLine; decide), ?_⟩
  have I4 := Inv.lset (t' := s3.toks + 1) (its' := [.str (reprText t) k3, .str z s3.toks]) (f := fun y => y.push (.str z s3.toks)) I3 hP3 p3 rfl (.cons ⟨_, rfl⟩ (.cons ⟨_, rfl⟩ .nil) : Vals [.str (reprText t), .str z] _) (by show 2 ≤ sizeLine; decide)
  generalize hs4 : ({ s3 with heap := _, toks := s3.toks + 1 } : Shared) = s4 at I4
  have sm4 : Same H (upd H3 P (.lst [.str (reprText t), .str z])) := fun c u y => by
    rw [upd_ne (ne_of_none y nP)]
    exact sm3 _ _ (sm2 _ _ y)
  clear hs4 p3 e2
  -- the bool
  obtain ⟨tk4, n4, e4⟩ := at_ (ys := []) I4 (sm4 _ _ ha)
  refine repr_turn (i := 2) e4 rfl rfl ?_
  refine ReprIs.bool b _ (line ?_) _ _ _ _ fun k5 => ⟨Nat.le_trans bl (by decide), ?_⟩
  · show _ + (bT b).length ≤ 10000
    omega
  obtain ⟨_, acc5, c5, rv5, p5⟩ := (show ObjOk X.prog X.w (upd H3 P (.lst [.str (reprText t), .str z])) s4.heap P (.lst [.str (reprText t), .str z]) from I4.hok P _ upd_same)
  obtain ⟨ka, kb, rfl⟩ : ∃ ka kb, acc5 = [.str (reprText t) ka, .str z kb] := by
    cases rv5 with
    | cons r1 rv =>
      cases rv with
      | cons r2 rv =>
        cases rv
        obtain ⟨ka, rfl⟩ := r1
        obtain ⟨kb, rfl⟩ := r2
        exact ⟨ka, kb, rfl⟩
  refine ⟨_, c5, p5, (by show 2 ≤ sizeLine; decide), ?_⟩
  have I6 := Inv.lset (t' := k5 + 1) (its' := [.str (reprText t) ka, .str z kb, .str (bT b) k5]) (f := fun y => y.push (.str (bT b) k5)) (I4.tok k5) upd_same p5 rfl (.cons ⟨_, rfl⟩ (.cons ⟨_, rfl⟩ (.cons ⟨_, rfl⟩ .nil)) : Vals [.str (reprText t), .str z, .str (bT b)] _) (by show 3 ≤ sizeLine; decide)
  rw [upd_upd] at I6
  have sm6 : Same H (upd H3 P (.lst [.str (reprText t), .str z, .str (bT b)])) := fun c u y => by
    rw [upd_ne (ne_of_none y nP)]
    exact sm3 _ _ (sm2 _ _ y)
  obtain ⟨tk6, n6, e6⟩ := at_ (ys := []) I6 (sm6 _ _ ha)
  obtain ⟨_, acc7, c7, rv7, p7⟩ := (show ObjOk X.prog X.w _ _ P (.lst [.str (reprText t), .str z, .str (bT b)]) from I6.hok P _ upd_same)
  obtain ⟨l7, el7, em7⟩ : ∃ l : List (Str × Tok), strValues l = acc7 ∧ l.map (·.1) = [reprText t, z, bT b] := by
    cases rv7 with
    | cons r1 rv =>
      cases rv with
      | cons r2 rv =>
        cases rv with
        | cons r3 rv =>
          cases rv
          obtain ⟨k1, rfl⟩ := r1
          obtain ⟨k2, rfl⟩ := r2
          obtain ⟨k3, rfl⟩ := r3
          exact ⟨[(reprText t, k1), (z, k2), (bT b, k3)], rfl, rfl⟩
  have hfin : (listText [reprText t, z, bT b]).length ≤ 10000 := by
    have h1 : (listText [reprText t, z, bT b]).length = (textFrom 0 "[" [reprText t, z, bT b]).length + 1 := by
      show (textFrom 0 "[" [reprText t, z, bT b] ++ "]").length = _
      rw [strLen_append]
      rfl
    have h2 : (textFrom 0 "[" [reprText t, z, bT b]).length = (textFrom 1 (("[" : Str) ++ (if (0 : Nat) > 0 then ", " else "" : String) ++ reprText t) [z, bT b]).length := rfl
    rw [textFrom_length_pos _ _ _ (Nat.succ_pos 0), strLen_append, strLen_append, piled_cons, piled_cons, piled_nil] at h2
    have h3 : ("[" : Str).length = 1 := rfl
    have h4 : (((if (0 : Nat) > 0 then ", " else "" : String) : Str)).length = 0 := rfl
    rw [h3, h4] at h2
    omega
  refine repr_stop (i := 3) (done := l7) e6 rfl rfl p7 (by rw [el7]) (by rw [em7]; exact line hfin) ?_
  rw [em7]
  exact ⟨_, _, rfl, .str _, _, I6.tok _, ⟨_, rfl⟩, q _ sm6⟩
end SQ
/-! repr of lists in lists, with own instances in them. -/
namespace SQ
open PySem PySem.Spec PyProof.Rows L2
open PySem.W (InstAt findIn isFn subIn)
open Builtin Builtin.List
/-- A stands below X.A in reprs of the lists at L -/
structure Lw (X : Cx) (k : Nat) (L : List Addr) (A : Around) : Prop where
  fr : A.frames = X.A.frames
  rm : Room k A
  gd : ∃ g, A.guards = some g ∧ ∀ b, b ∉ L → Clear g b
section
variable {X : Cx} {pins : List (Addr × Obj)} {σ : L2.St} {H : Hp} {s : Shared} {k : Nat} {L M : List Addr} {A : Around} {a P : Addr} {v : V} {z : Str} {vs : List V} {zs : List Str}
theorem Lw.down (l : Lw X (k + 1) L A) (a : Addr) (rest : List Value) : Lw X k (a :: L) (A.under (lpC ⟨.ref a :: rest, []⟩)) := by
  obtain ⟨g, g1, g2⟩ := l.gd
  refine ⟨(lp_frames A _).trans l.fr, lp_room l.rm _, _, guards_under_guard (isGuard_list_loop _) g1, fun b hb => ?_⟩
  exact Clear.cons (g2 b fun h => hb (List.mem_cons_of_mem _ h)) fun e => hb (e ▸ List.mem_cons_self)
theorem Lw.env (l : Lw X k L A) (I : Inv X pins σ H s) : Env0 X.prog X.w X.K X.mg X.base A X.stack s H :=
  ⟨l.fr.trans I.env0.frames, I.env0.mod, I.env0.bs, I.env0.bsz, I.env0.funs, I.env0.frf, I.env0.hok, I.env0.bare⟩
/-- repr(v) is z, whatever was laid since; M: the lists and tuples within v -/
def RpX (X : Cx) (H : Hp) (k : Nat) (M : List Addr) (v : V) (z : Str) : Prop :=
  ∀ (pins : List (Addr × Obj)) (σ : L2.St) (L : List Addr) (A : Around), Lw X k L A → (∀ m ∈ M, m ∉ L) → ∀ (G : Hp) (s : Shared) (u : Value) (b : Nat) (Q : Str → Shared → Prop) (E : Value → Shared → Prop), Same H G → Inv X pins σ G s → RelV v u →
    b + z.length ≤ sizeLine → (∀ G' s', Same G G' → Inv X pins σ G' s' → Q z s') → wpAny (model X.prog X.w) A (pyReprUnder b u) Q E s
theorem RpX.of_is (h : ∀ u, RelV v u → ReprIs X.prog X.w u z) : RpX X H k M v z := fun pins σ L A l m G s u b Q E sm I r hb q => h u r b hb A E s Q fun tk => q G _ (same_refl G) (I.tok tk)
theorem RpX.of_k {d : Nat} (hd : d ≤ 200) (h : ∀ pins σ G s u, Same H G → Inv X pins σ G s → RelV v u → ReprK X.prog X.w M s.heap d u z) : RpX X H k M v z := fun pins σ L A l m G s u b Q E sm I r hb q => by
  obtain ⟨g, g1, g2⟩ := l.gd
  have hu := l.rm.un
  exact h pins σ G s u sm I r b hb A g E s Q g1 (fun c hc => g2 c (m c hc)) (by omega) (fun _ _ e => e) fun h' tk hk => q G _ (same_refl G) (I.kept hk)
theorem RpX.non : RpX X H k M .non "None" := .of_is fun u r => by
  obtain rfl : u = Value.none := r
  exact ReprIs.none
theorem RpX.bl (b : Bool) : RpX X H k M (.bl b) (bT b) := .of_is fun u r => by
  obtain rfl : u = Value.bool b := r
  exact ReprIs.bool b
theorem RpX.int {i : Int} (h : i.natAbs.log2 < 1920) : RpX X H k M (.int i) (toString i) := .of_is fun u r => by
  obtain ⟨t, rfl⟩ := r
  exact ReprIs.int t h
theorem RpX.str {x : Str} (h : (reprText x).length ≤ sizeLine) : RpX X H k M (.str x) (reprText x) := .of_is fun u r => by
  obtain ⟨t, rfl⟩ := r
  exact ReprIs.str x t h
theorem RpX.own {C f o dx : Addr} {sp : Sp} {fs : List (Str × V)} (T : RpC X.K C f) (F : FnR X.prog X.w X.K X.mg X.base CX0 k f sp) (ho : H o = some (.ins C dx fs))
    (hsp : ∀ H1, Same H H1 → sp [.ref o] H1 (fun v H2 => v = .str z ∧ Same H1 H2) E0) : RpX X H k M (.ref o) z := by
  intro pins σ L A l m G s u b Q E sm I r hb q
  obtain rfl : u = Value.ref o := r
  obtain ⟨mA, O, _⟩ := ins_get I.hok (sm _ _ ho)
  obtain ⟨od, J, _⟩ := O.look
  refine repr_own (by omega) l.rm.units0 I.kIn J T.rp T.fn (wpAny_call (codeAny_mono (F _ X.stack s G [.ref o] [.ref o] _ _ l.rm (l.env I) (.cons rfl .nil) (hsp _ sm)) fun r s3 hq => ?_))
  rcases r with er | (_ | _ | _ | v)
  · exact (show False from hq).elim
  · exact False.elim hq
  · exact False.elim hq
  · exact False.elim hq
  obtain ⟨v', H3, I3, rv3, rfl, sm3⟩ := I.after hq
  obtain ⟨tz, rfl⟩ := rv3
  exact ⟨z, tz, rfl, q _ _ sm3 I3⟩
theorem RpX.tupS {l : List Str} (h : H a = some (.tup (l.map V.str))) (hl : ∀ x ∈ l, (reprText x).length ≤ sizeLine) : RpX X H k [a] (.ref a) (tupleText (l.map reprText)) := by
  refine .of_k (d := 1) (by decide) fun pins σ G s u sm I r => ?_
  obtain rfl : u = Value.ref a := r
  obtain ⟨its, rv, ⟨o, e, c, n, dt⟩, sz⟩ := I.tuple (SqT.of (sm _ _ h))
  refine ReprK.tuple (as := []) (d := 0) e c dt (fun z => nomatch z) ?_
  rw [List.toList_toArray]
  clear e dt h sz
  induction l generalizing its with
  | nil =>
    cases rv
    exact .nil
  | cons x l ih =>
    cases rv with
    | cons r rv =>
      obtain ⟨t, rfl⟩ := r
      exact .cons (.of_is (ReprIs.str x t (hl x List.mem_cons_self)) _ _ _) (ih (fun y hy => hl y (List.mem_cons_of_mem _ hy)) _ rv)
theorem RpX.dic (h : H a = some (.dK [])) : RpX X H k [a] (.ref a) (dictText []) := by
  refine .of_k (d := 1) (by decide) fun pins σ G s u sm I r => ?_
  obtain rfl : u = Value.ref a := r
  obtain ⟨_, na, vs, kv, o, es, ep, h1, h2, h3, h4⟩ := (show ObjOk X.prog X.w G s.heap a (.dK []) from I.hok a _ (sm _ _ h))
  cases kv
  have he : es.toList = [] := by
    have h5 := h4.2.1
    generalize es.toList = l at h5
    cases h5
    rfl
  refine ReprK.dict (as := []) (d := 0) h1 h2.1 h3 na (fun z => nomatch z) ?_
  rw [he]
  exact .nil
theorem RpX.more {M' : List Addr} (h : RpX X H k M v z) (hs : ∀ m ∈ M, m ∈ M') : RpX X H k M' v z := fun pins σ L A l m => h pins σ L A l fun c hc => m c (hs c hc)
theorem RpX.lift {j : Nat} (h : RpX X H j M v z) (hj : j ≤ k) : RpX X H k M v z := fun pins σ L A l m => h pins σ L A ⟨l.fr, l.rm.mono hj, l.gd⟩ m
theorem RpX.same {H' : Hp} (h : RpX X H k M v z) (s : Same H H') : RpX X H' k M v z := fun pins σ L A l m G t u b Q E s2 I r hb q => h pins σ L A l m G t u b Q E (fun c x y => s2 _ _ (s _ _ y)) I r hb q
inductive RpAll (X : Cx) (H : Hp) (k : Nat) (M : List Addr) : List V → List Str → Prop
  | nil : RpAll X H k M [] []
  | cons {v : V} {z : Str} {vs : List V} {zs : List Str} : RpX X H k M v z → RpAll X H k M vs zs → RpAll X H k M (v :: vs) (z :: zs)
theorem RpAll.len (h : RpAll X H k M vs zs) : vs.length = zs.length := by
  induction h with
  | nil => rfl
  | cons _ _ ih => rw [List.length_cons, List.length_cons, ih]
theorem vals_strs : ∀ {l : List Str} {us : List Value}, Vals (l.map V.str) us → ∃ ps : List (Str × Tok), strValues ps = us ∧ ps.map (·.1) = l
  | [], _, .nil => ⟨[], rfl, rfl⟩
  | x :: l, _, .cons r rs => by
    obtain ⟨t, rfl⟩ := r
    obtain ⟨ps, e1, e2⟩ := vals_strs rs
    exact ⟨(x, t) :: ps, by rw [← e1]; rfl, by rw [← e2]; rfl⟩
theorem vals_at {vs : List V} {us : List Value} (h : Vals vs us) : ∀ {i : Nat} {v : V}, vs[i]? = some v → ∃ u, us[i]? = some u ∧ RelV v u := by
  induction h with
  | nil => intro i v e; simp at e
  | @cons v0 u0 vs us r _ ih =>
    intro i v e
    cases i with
    | zero =>
      cases e
      exact ⟨u0, rfl, r⟩
    | succ i => exact ih e
theorem rp_loop {R : Result → Shared → Prop} {all : List V} (l : Lw X (k + 1) L A) (hM : ∀ m ∈ M, m ∉ a :: L) (nP : H P = none) (ha : H a = some (.lst all)) :
    ∀ (rest : List V) (zs : List Str) (pre : List V) (done : List Str) (G : Hp) (s : Shared) (sg : Nat), all = pre ++ rest → RpAll X H k M rest zs → Same H G → Inv X pins σ G s → G P = some (.lst (done.map V.str)) → sg + piled zs ≤ sizeLine → done.length + zs.length ≤ 1000 → (listText (done ++ zs)).length ≤ sizeLine →
      (∀ G' s' u, Same H G' → Inv X pins σ G' s' → R (.ok (.ret (.str (listText (done ++ zs)) u))) s') → codeAny (model X.prog X.w) A (.builtin "list.__repr__.loop" ⟨[.ref a, rawInt (pre.length : Nat), .ref P, rawInt (sg : Nat)], []⟩) R s := by
  intro rest
  induction rest with
  | nil =>
    intro zs pre done G s sg e hz sm I hP hs hn ht q
    cases hz
    obtain ⟨_, its, n, rv, eA⟩ := (show ObjOk X.prog X.w G s.heap a (.lst all) from I.hok a _ (sm _ _ ha))
    obtain ⟨_, acc, c, rw', eP⟩ := (show ObjOk X.prog X.w G s.heap P (.lst (done.map V.str)) from I.hok P _ hP)
    obtain ⟨ps, e1, e2⟩ := vals_strs rw'
    have hlen : its.length = pre.length := by
      have := rv.length
      rw [e, List.append_nil] at this
      exact this.symm
    rw [List.append_nil] at ht q
    refine repr_stop (done := ps) eA rfl (by rw [List.getElem?_toArray]; exact List.getElem?_eq_none (by omega)) eP (by rw [e1]) (by rw [e2]; exact ht) ?_
    rw [e2]
    exact q G _ _ sm (I.tok _)
  | cons v rest ih =>
    intro zs pre done G s sg e hz sm I hP hs hn ht q
    cases hz with
    | @cons _ z _ zs hv hzs =>
    obtain ⟨_, its, n, rv, eA⟩ := (show ObjOk X.prog X.w G s.heap a (.lst all) from I.hok a _ (sm _ _ ha))
    obtain ⟨u, hu, ru⟩ := vals_at rv (i := pre.length) (v := v) (by rw [e]; simp)
    rw [piled_cons] at hs
    rw [List.length_cons] at hn
    refine repr_turn eA rfl (x := u) (by rw [List.getElem?_toArray]; exact hu) ?_
    refine hv pins σ (a :: L) _ (l.down a _) hM G s u (sg + 1) _ _ sm I ru (by omega) fun G' s' sm' I' => ?_
    have hP' := sm' _ _ hP
    obtain ⟨_, acc, c, rw', eP⟩ := (show ObjOk X.prog X.w G' s'.heap P (.lst (done.map V.str)) from I'.hok P _ hP')
    have hacc : acc.length = done.length := by
      have := rw'.length
      rw [List.length_map] at this
      exact this.symm
    have line : ∀ {m : Nat}, m ≤ 1000 → m ≤ sizeLine := fun h => Nat.le_trans h (by decide)
    refine ⟨by omega, acc, c, eP, line (by omega), ?_⟩
    have rv2 : Vals ((done ++ [z]).map V.str) (acc ++ [Value.str z s'.toks]) := by
      rw [List.map_append]
      exact Vals.append rw' (.cons ⟨_, rfl⟩ .nil)
    have I2 := Inv.lset (t' := s'.toks + 1) (its' := acc ++ [Value.str z s'.toks]) (f := fun y => y.push (.str z s'.toks)) I' hP' eP (by simp) rv2 (line (by rw [List.length_map, List.length_append]; show done.length + 1 ≤ 1000; omega))
    have sm2 : Same H (upd G' P (.lst ((done ++ [z]).map V.str))) := fun c x y => by
      rw [upd_ne (ne_of_none y nP)]
      exact sm' _ _ (sm _ _ y)
    have eL : (pre.length + 1 : Nat) = (pre ++ [v]).length := by simp
    rw [eL]
    have eD : done ++ z :: zs = (done ++ [z]) ++ zs := by simp
    rw [eD] at ht q
    exact ih zs (pre ++ [v]) (done ++ [z]) _ _ (sg + (z.length + 2)) (by rw [e]; simp) hzs sm2 I2 upd_same (by omega) (by rw [List.length_append]; show done.length + 1 + zs.length ≤ 1000; omega) ht q
theorem RpX.list (ha : H a = some (.lst (v :: vs))) (h : RpAll X H k M (v :: vs) zs) (na : a ∉ M) (few : zs.length ≤ 1000) : RpX X H (k + 1) (a :: M) (.ref a) (listText zs) := by
  intro pins σ L A l m G s u b Q E sm I r hb q
  obtain rfl : u = Value.ref a := r
  obtain ⟨_, its, n, rv, e⟩ := (show ObjOk X.prog X.w G s.heap a (.lst (v :: vs)) from I.hok a _ (sm _ _ ha))
  obtain ⟨g, g1, g2⟩ := l.gd
  have pl := piled_le_listText zs
  refine wpAny_pyReprUnder_ref (by omega) (wpAny_pyReprObjUnder_twin (twin := "list.__repr__.under") ⟨_, e, rfl⟩ PySem.F.slot_list_repr.toG rfl l.rm.units0 ?_)
  refine call_twin_plain PySem.F.plain_list_repr_under PySem.F.entry_list_repr_under PySem.F.check_list_repr_under ⟨_, e, rfl⟩ PySem.F.slot_list_repr.toG (PySem.F.args_list_repr_1 _) ?_
  obtain ⟨y, its, rfl⟩ : ∃ y l, its = y :: l := by
    cases rv with
    | cons _ _ => exact ⟨_, _, rfl⟩
  refine wpAny_list_repr_head (A := A.in1) g1 (fun v rest kw hm => listSameRef_of_ne (g2 a (m a List.mem_cons_self) _ _ _ _ hm)) e rfl ?_
  refine wpAny_bind (m := newList []) (wpAny_newObj_type ?_)
  refine wpAny_pure ⟨PySem.F.quiet_list_repr_loop _, ?_⟩
  have nP : G s.heap.objs.size = none := I.hok.fresh (Nat.le_refl _)
  have nH : H s.heap.objs.size = none := sm.free nP
  have I1 : Inv X pins σ (upd G s.heap.objs.size (.lst (([] : List Str).map V.str))) { s with heap := s.heap.push { cls := .type "list", data := .seq ([] : List Value).toArray } } :=
    I.laid (t' := s.toks) (fun c u y => Heap.get?_push_of_some _ y) (Nat.le_refl _) ⟨Nat.zero_le _, [], _, .nil, Heap.get?_push_size _ rfl⟩
  have sm1 : Same H (upd G s.heap.objs.size (.lst (([] : List Str).map V.str))) := fun c x y => by
    rw [upd_ne (ne_of_none y nH)]
    exact sm _ _ y
  refine rp_loop (k := k) (pins := pins) (σ := σ) (H := G) (M := M) l (fun c hc hm => ?_) nP (sm _ _ ha) (v :: vs) zs [] [] _ _ b rfl ?_ ?_ I1 upd_same (by omega) (by simpa using few) (by simpa using (by omega : (listText zs).length ≤ sizeLine)) fun G' s' u sm' I' => ?_
  · rcases List.mem_cons.mp hm with e | hm
    · exact na (e ▸ hc)
    · exact m c (List.mem_cons_of_mem _ hc) hm
  · have up : ∀ {vs : List V} {zs : List Str}, RpAll X H k M vs zs → RpAll X G k M vs zs := by
      intro vs zs h
      induction h with
      | nil => exact .nil
      | cons h _ ih => exact .cons (fun pins σ L A l m G2 s u b Q E s2 I r hb q => h pins σ L A l m G2 s u b Q E (fun c x y => s2 _ _ (sm _ _ y)) I r hb q) ih
    exact up h
  · intro c x y
    rw [upd_ne (ne_of_none y nP)]
    exact y
  · exact ⟨⟨_, _, rfl⟩, _, _, rfl, q _ _ sm' I'⟩
/-- repr of a list that holds such things -/
def rReprX (X : Cx) (k : Nat) : List V → Hp → VK → Prop := fun xs H Q => ∃ (a : Addr) (v : V) (vs : List V) (zs : List Str) (M : List Addr), xs = [.ref a] ∧ H a = some (.lst (v :: vs)) ∧ RpAll X H k M (v :: vs) zs ∧ a ∉ M ∧ zs.length ≤ 1000 ∧ (listText zs).length ≤ sizeLine ∧ ∀ H', Same H H' → Q (.str (listText zs)) H'
theorem cr_reprX (hr : Room (k + 2) X.A) (hg : X.A.guards = some []) : CallR X (.builtin "repr") (rReprX X k) := by
  intro pins s σ H xs us Q I r h
  obtain ⟨a, v, vs, zs, M, rfl, ha, hz, na, few, ht, q⟩ := h
  rw [Vals.ref1 r]
  obtain ⟨_, its, n, rv, e⟩ := (show ObjOk X.prog X.w H s.heap a (.lst (v :: vs)) from I.hok a _ ha)
  have hu := hr.un
  have pl := piled_le_listText zs
  refine call_repr_slot (by omega) ⟨_, e, rfl⟩ PySem.F.slot_list_repr.toG ?_
  refine wpAny_call (codeAny_call_builtin PySem.F.slot_list_repr.plain PySem.F.entry_list_repr (PySem.F.slot_list_repr.check _ _ _ _ _ _ _ _ ⟨_, e, rfl⟩ (PySem.F.args_list_repr_1 _) ?_))
  obtain ⟨y, its, rfl⟩ : ∃ y l, its = y :: l := by
    cases rv with
    | cons _ _ => exact ⟨_, _, rfl⟩
  refine wpAny_list_repr_head (b := 0) (g := []) hg (fun v rest kw hm => nomatch hm) e rfl ?_
  refine wpAny_bind (m := newList []) (wpAny_newObj_type ?_)
  refine wpAny_pure ⟨PySem.F.quiet_list_repr_loop _, ?_⟩
  have nP : H s.heap.objs.size = none := I.hok.fresh (Nat.le_refl _)
  have I1 : Inv X pins σ (upd H s.heap.objs.size (.lst (([] : List Str).map V.str))) { s with heap := s.heap.push { cls := .type "list", data := .seq ([] : List Value).toArray } } :=
    I.laid (t' := s.toks) (fun c u y => Heap.get?_push_of_some _ y) (Nat.le_refl _) ⟨Nat.zero_le _, [], _, .nil, Heap.get?_push_size _ rfl⟩
  have l : Lw X (k + 1) [] X.A.in1 := ⟨rfl, Room.in1 hr, [], hg, fun b _ => Clear.nil b⟩
  refine rp_loop (k := k) (pins := pins) (σ := σ) (H := H) l (fun c hc hm => ?_) nP ha (v :: vs) zs [] [] _ _ 0 rfl hz ?_ I1 upd_same (by omega) (by simpa using few) (by simpa using ht) fun G' s' u sm' I' => ?_
  · rcases List.mem_cons.mp hm with e | hm
    · exact na (e ▸ hc)
    · cases hm
  · intro c x y
    rw [upd_ne (ne_of_none y nP)]
    exact y
  · exact ⟨_, _, rfl, .str _, G', I', ⟨_, rfl⟩, q _ sm'⟩
end
end SQ
/-! list.count of a text. -/
namespace SQ
open PySem PySem.Spec PyProof.Rows L2
def eqs (k : Str) (v : Value) : Bool := match v with
  | .str n _ => n.cps.toList == k.cps.toList
  | _ => false
theorem eqs_gives {k : Str} {t : Tok} : ∀ {l : List Str} {us : List Value}, Vals (l.map V.str) us → ∀ y ∈ us, MeetsSeq.EqGives y (.str k t) (eqs k y)
  | [], _, .nil => fun y hy => nomatch hy
  | x :: l, _, .cons r rs => fun y hy => by
    obtain ⟨t', rfl⟩ := r
    rcases List.mem_cons.mp hy with e | e
    · rw [e]
      exact SeqRoads2.EqGives.str x k t' t
    · exact eqs_gives rs y e
theorem eqs_beq (x k : Str) : (x.cps.toList == k.cps.toList) = (x == k) := by
  by_cases h : x = k
  · subst h
    rw [beq_self_eq_true, beq_self_eq_true]
  · have h2 : ¬ x.cps.toList = k.cps.toList := fun e => h (by
      cases x; cases k
      exact congrArg Str.mk (Array.toList_inj.mp e))
    rw [beq_eq_false_iff_ne.mpr h, beq_eq_false_iff_ne.mpr h2]
theorem eqs_count {k : Str} : ∀ {l : List Str} {us : List Value}, Vals (l.map V.str) us → us.countP (eqs k) = l.count k
  | [], _, .nil => rfl
  | x :: l, _, .cons r rs => by
    obtain ⟨t', rfl⟩ := r
    have ih := eqs_count (k := k) rs
    rw [List.countP_cons, List.count_cons, ih]
    show _ + (if (x.cps.toList == k.cps.toList) = true then 1 else 0) = _
    rw [eqs_beq]
def rCntS (K : PySem.W.Frag) : V → List V → Hp → VK → Prop := fun x xs H Q => ∃ (p : Addr) (l : List Str) (k : Str), x = .ref p ∧ xs = [.str k] ∧ SqL K H p (l.map V.str) ∧ Q (.int (l.count k : Nat)) H
theorem mt_countS {X : Cx} : MtR X "list.count" (rCntS X.K) := by
  intro pins s σ H x xs v us Q I rx rxs h
  obtain ⟨p, l, k, rfl, rfl, hs, q⟩ := h
  cases rx
  obtain ⟨u, rfl, t, rfl⟩ := rxs.one
  obtain ⟨its, rv, ⟨⟨cls, dd, data, sl⟩, n, ho, hc, _, hd⟩, _⟩ := I.list hs
  obtain rfl : cls = _ := hc
  obtain rfl : data = _ := hd
  have at_ := SeqAt.list_countAt p its.toArray n dd sl (.str k t) (eqs k)
  refine call_meets PySem.F.slot_list_count ⟨_, ho, rfl⟩ PySem.F.entry_list_count (PySem.F.args_list_count_2 _ _) at_ ⟨ho, fun y hy => (eqs_gives rv y (by simpa using hy)).at _ _, .int (l.count k : Nat), H, I.tok _, ⟨s.toks, ?_⟩, q⟩
  exact congrArg (fun m : Nat => Value.int (m : Int) s.toks) (eqs_count rv)
end SQ
/-! sorted of triples (text, int, int). -/
namespace SQ
open PySem PySem.Spec PyProof.Rows L2 SrtO Srt
abbrev T3 := Str × Int × Int
def lex3 (p q : T3) : Bool := if p.1 = q.1 then lexB p.2 q.2 else decide (p.1.cps.toList < q.1.cps.toList)
theorem cps_inj {x y : Str} (h : x.cps.toList = y.cps.toList) : x = y := by
  obtain ⟨a⟩ := x
  obtain ⟨b⟩ := y
  have e : a = b := Array.toList_inj.mp h
  rw [e]
theorem cps_asym {x y : Str} (h : x.cps.toList < y.cps.toList) : ¬ y.cps.toList < x.cps.toList := fun z => List.lt_irrefl _ (List.lt_trans h z)
theorem lex3_no {p q : T3} (ne : p.1 ≠ q.1) : lex3 p q = false ↔ q.1.cps.toList < p.1.cps.toList := by
  unfold lex3
  rw [if_neg ne, decide_eq_false_iff_not]
  constructor
  · intro h
    rcases List.le_iff_lt_or_eq.mp (List.not_lt.mp h) with z | z
    · exact z
    · exact absurd (cps_inj z.symm) ne
  · exact cps_asym
theorem swo3 : Swo lex3 := by
  refine ⟨fun x y h => ?_, fun x y z h1 h2 => ?_⟩
  · by_cases e : x.1 = y.1
    · unfold lex3 at h ⊢
      rw [if_pos e] at h
      rw [if_pos e.symm]
      have a := lexB_iff.mp h
      refine lexB_no.mpr ?_
      omega
    · have h' := h
      unfold lex3 at h'
      rw [if_neg e, decide_eq_true_eq] at h'
      exact (lex3_no (Ne.symm e)).mpr h'
  · by_cases e1 : y.1 = x.1
    · by_cases e2 : z.1 = y.1
      · unfold lex3 at h1 h2 ⊢
        rw [if_pos e1] at h1
        rw [if_pos e2] at h2
        rw [if_pos (e2.trans e1)]
        have a := lexB_no.mp h1
        have b := lexB_no.mp h2
        refine lexB_no.mpr ?_
        omega
      · have a := (lex3_no e2).mp h2
        refine (lex3_no (fun q => e2 (q.trans e1.symm))).mpr ?_
        rw [← e1]
        exact a
    · have a := (lex3_no e1).mp h1
      by_cases e2 : z.1 = y.1
      · refine (lex3_no (fun q => e1 (e2.symm.trans q))).mpr ?_
        rw [e2]
        exact a
      · have b := (lex3_no e2).mp h2
        have c := List.lt_trans a b
        refine (lex3_no (fun q => ?_)).mpr c
        rw [q] at c
        exact List.lt_irrefl _ c
theorem swo_at {α β : Type} {lt : β → β → Bool} (O : Swo lt) (f : α → β) : Swo fun x y => lt (f x) (f y) := ⟨fun x y => O.asym (f x) (f y), fun x y z => O.tr (f x) (f y) (f z)⟩
def Is3 (h : Heap) (v : Value) (x : T3) : Prop := ∃ a o t u r n, v = .ref a ∧ h.get? a = some o ∧ o.cls = .type "tuple" ∧ o.data = .seq #[.str x.1 t, .int x.2.1 u, .int x.2.2 r] n
theorem Is3.keeps {h h' : Heap} {v : Value} {x : T3} (p : Is3 h v x) (k : ∀ b o, h.get? b = some o → o.cls = .type "tuple" → h'.get? b = some o) : Is3 h' v x := by
  obtain ⟨a, o, t, u, r, n, e, ho, hc, hd⟩ := p
  exact ⟨a, o, t, u, r, n, e, k _ _ ho hc, hc, hd⟩
theorem firsts3 {h : Heap} : ∀ {vs : List Value}, (∀ v ∈ vs, ∃ x, Is3 h v x) → ∃ fs : List Value, PySem.W.KatTups h vs fs ∧ fs.length = vs.length ∧ ∀ f ∈ fs, ∃ x t, f = Value.str x t
  | [], _ => ⟨[], PySem.W.KatTups.nil, rfl, fun _ hm => by simp at hm⟩
  | v :: vs, hp => by
    obtain ⟨fs, h1, h2, h3⟩ := firsts3 (vs := vs) fun v' hm => hp v' (List.mem_cons_of_mem _ hm)
    obtain ⟨x, a, o, t, u, r, n, e, ho, hc, hd⟩ := hp v (List.mem_cons_self ..)
    subst e
    refine ⟨.str x.1 t :: fs, PySem.W.KatTups.cons ho hc hd rfl h1, by rw [List.length_cons, List.length_cons, h2], fun f hm => ?_⟩
    rcases List.mem_cons.mp hm with rfl | hm
    · exact ⟨_, t, rfl⟩
    · exact h3 f hm
section
variable {prog : Program} {w : World} {A : Around} {s : Shared} {E : Value → Shared → Prop}
theorem cmp3 {vs : List Value} {k : Value → T3} (hp : ∀ v ∈ vs, Is3 s.heap v (k v)) : Cmp prog w A s (tuples' true) (fun p => p.1 ∈ vs) (lt2 fun v u => lex3 (k v) (k u)) := by
  intro p q hm hm'
  have h1 := hp _ hm
  have h2 := hp _ hm'
  show wpAny (model prog w) A (keyLt' (tuples' true) p.1 q.1) (fun r s' => s' = s ∧ r = lex3 (k p.1) (k q.1)) (fun _ _ => False) s
  generalize k p.1 = K1 at h1 ⊢
  generalize k q.1 = K2 at h2 ⊢
  obtain ⟨x, y, z⟩ := K1
  obtain ⟨x', y', z'⟩ := K2
  obtain ⟨a, o, t, u, r, n, e, ho, hc, hd⟩ := h1
  obtain ⟨a', o', t', u', r', n', e', ho', hc', hd'⟩ := h2
  rw [e, e']
  refine PySem.W.kat_lt ho hd ho' hd' ?_
  show PySem.W.KatLex prog w A true (decide (3 < 3)) _ [(.str x t, .str x' t'), (.int y u, .int y' u'), (.int z r, .int z' r')] 0 s
  refine PySem.W.kat_cons (SeqAt.EqAt.str_str x t x' t' prog w _ _ ?_)
  refine PySem.W.kat_go (fun e1 => ?_) (fun e1 => ?_)
  · have ex : x = x' := by simpa using e1
    subst ex
    have e0 : lex3 (x, y, z) (x, y', z') = lexB (y, z) (y', z') := if_pos rfl
    rw [e0]
    refine PySem.W.kat_yes (PySem.W.kat_cons (SeqAt.EqAt.int_int y u y' u' prog w _ _ ?_))
    refine PySem.W.kat_go (fun e2 => ?_) (fun e2 => ?_)
    · have ey : y = y' := by simpa using e2
      subst ey
      have e3 : lexB (y, z) (y, z') = decide (z < z') := if_pos rfl
      refine PySem.W.kat_yes (PySem.W.kat_cons (SeqAt.EqAt.int_int z r z' r' prog w _ _ ?_))
      refine PySem.W.kat_go (fun e4 => ?_) (fun e4 => ?_)
      · have ez : z = z' := by simpa using e4
        subst ez
        refine PySem.W.kat_yes (PySem.W.kat_nil ⟨rfl, ?_⟩)
        rw [e3]
        simp
      · refine PySem.W.kat_no (PySem.W.kat_one _ _ (PyProof.Rows.lt_int ?_))
        exact (show s = s ∧ decide (z < z') = lexB (y, z) (y, z') from ⟨rfl, e3.symm⟩)
    · have ny : ¬ y = y' := by simpa using e2
      have e3 : lexB (y, z) (y', z') = decide (y < y') := if_neg ny
      refine PySem.W.kat_no (PySem.W.kat_one _ _ (PyProof.Rows.lt_int ?_))
      exact (show s = s ∧ decide (y < y') = lexB (y, z) (y', z') from ⟨rfl, e3.symm⟩)
  · have nx : ¬ x = x' := by simpa using e1
    have e3 : lex3 (x, y, z) (x', y', z') = decide (x.cps.toList < x'.cps.toList) := if_neg nx
    exact PySem.W.kat_no (PyProof.Rows.oneLt_str ⟨rfl, e3.symm⟩)
theorem sortable3 {a : Addr} {vs : List Value} {k : Value → T3} (h0 : 0 < vs.length) (hp : ∀ v ∈ vs, Is3 s.heap v (k v)) (ha : ∀ o, s.heap.get? a = some o → o.cls ≠ .type "tuple") : SortableO prog w A s a vs fun v u => lex3 (k v) (k u) := by
  intro h' keep
  have hp' : ∀ v ∈ vs, Is3 h' v (k v) := fun v hm => (hp v hm).keeps fun b o e c => keep b o (fun z => by subst z; exact ha o e c) e
  obtain ⟨fs, h1, h2, h3⟩ := firsts3 fun v hm => ⟨_, hp' v hm⟩
  refine ⟨tuples' true, fun Q E hq => ?_, cmp3 hp'⟩
  refine PySem.W.kat_kind (T := .type "str") h1 (by omega) (fun f hm => ?_) (by rfl) ?_
  · obtain ⟨x, t, rfl⟩ := h3 f hm
    exact PySem.W.Looks.now
  · have e : (Value.type "str" != Value.type "tuple") = true := by first | decide +kernel | rfl | decide
    rw [e]
    exact hq
theorem sorted3 {l : Addr} {vs : List Value} {k : Value → T3} {Q : Value → Shared → Prop} (hl : s.heap.IsList l vs.toArray) (hz : vs.length ≤ sizeLine) (hp : ∀ v ∈ vs, Is3 s.heap v (k v))
    (h : ∀ (h' : Heap) (d : Addr) (out : List Value), Srtd (fun v u => lex3 (k v) (k u)) out → Stb (fun v u => lex3 (k v) (k u)) out vs → (∀ b o, s.heap.get? b = some o → h'.get? b = some o) → s.heap.objs.size ≤ d → (∃ n, h'.get? d = some (seqObj "list" out.toArray n)) → Q (.ref d) { s with heap := h' }) :
    wpAny (model prog w) A (call (.builtin "sorted") [.ref l]) Q E s := by
  refine sorted_ord (swo_at swo3 k) hl hz (fun h2 h₁ a ha kk => ?_) fun out hs hb => ?_
  · refine sortable3 (s := { s with heap := h₁ }) (by omega) (fun v hm => (hp v hm).keeps fun b o e _ => (kk b o e).2) fun o e => ?_
    have e' : some o = some (seqObj "list" vs.toArray 0) := e.symm.trans ha
    cases e'
    intro c
    exact absurd (Value.type.inj c) (by decide)
  · exact h _ _ out hs hb (fun b o e => sortedAll_old e) (Nat.le_succ _) (sortedAll_at s.heap vs out.toArray)
end
/-- sorted(xs), xs a list of triples -/
def rSorted3 (K : PySem.W.Frag) : List V → Hp → VK → Prop := fun vs H Q => ∃ (a : Addr) (xs : List V) (k : V → T3), vs = [V.ref a] ∧ SqL K H a xs ∧ (∀ x ∈ xs, ∃ t, x = V.ref t ∧ H t = some (.tup [.str (k x).1, .int (k x).2.1, .int (k x).2.2])) ∧
  ∀ ys p, Srtd (fun x y => lex3 (k x) (k y)) ys → ys.Perm xs → H p = none → Q (.ref p) (upd H p (.lst ys))
theorem cr_sorted3 {X : Cx} : CallR X (.builtin "sorted") (rSorted3 X.K) := by
  intro pins s σ H vs us Q I r h
  obtain ⟨a, xs, k, rfl, hs, hx, q⟩ := h
  obtain ⟨its, rv, hl, hz⟩ := I.list hs
  obtain ⟨u, rfl, ru⟩ := vals1 r
  obtain rfl : u = Value.ref a := ru
  obtain ⟨e1, e2⟩ := refs_back rv fun x m => by
    obtain ⟨t, e, _⟩ := hx x m
    exact ⟨t, e⟩
  refine sorted3 (k := fun u => k (backV u)) hl.isList (by rw [← rv.length]; exact hz) (fun v hv => ?_) fun h' d out h1 h2 kp hd hn => ?_
  · obtain ⟨t, rfl⟩ := e2 v hv
    have hm : V.ref t ∈ xs := by rw [e1]; exact List.mem_map.mpr ⟨_, hv, rfl⟩
    obtain ⟨t', e, ht⟩ := hx _ hm
    cases e
    obtain ⟨_, its2, r2, o, ho, hc, n, hd⟩ := I.hok _ _ ht
    cases r2 with
    | cons r0 r2 =>
      cases r2 with
      | cons ri r2 =>
        cases r2 with
        | cons rj r2 =>
          cases r2
          obtain ⟨t0, rfl⟩ := r0
          obtain ⟨t1, rfl⟩ := ri
          obtain ⟨t2, rfl⟩ := rj
          exact ⟨t, o, t0, t1, t2, n, rfl, ho, hc, hd⟩
  · have h3 : ∀ u ∈ out, ∃ a, u = Value.ref a := fun u hu => e2 u (h2.perm.mem_iff.mp hu)
    obtain ⟨n, hn⟩ := hn
    have hb : (out.map backV).Perm xs := by
      rw [e1]
      exact h2.perm.map backV
    refine ⟨.ref d, upd H d (.lst (out.map backV)), I.laid (t' := s.toks) kp hd ⟨?_, out, n, vals_back h3, hn⟩, rfl, q _ d (List.pairwise_map.mpr h1) hb (I.hok.fresh hd)⟩
    rw [hb.length_eq]
    exact hz
end SQ
/-! len, bool, repr, == of an instance with own methods; a method by keyword. -/
namespace SQ
open PySem PySem.Spec PyProof.Rows L2
open PySem.W (InstAt findIn isFn subIn)
section
variable {prog : Program} {w : World} {A : Around} {E : Value → Shared → Prop} {s : Shared} {K : PySem.W.Frag} {x C f : Addr} {ox : Obj} {od : Option Obj}
def IBack (Q : Value → Shared → Prop) (v : Value) (s' : Shared) : Prop := ∃ (n : Int) (t : Tok), v = .int n t ∧ 0 ≤ n ∧ n < 1000 ∧ Q (.int n s'.toks) { s' with toks := s'.toks + 1 }
theorem len_body {Q : PySem.Fin → Shared → Prop} (X : K.In s.heap) (I : InstAt s.heap x ox C od) (hs : findIn K (.ref C) "__len__" = some (some (.ref f))) (hf : isFn K (.ref f) = true)
    (h : wpAny (model prog w) A (call (.ref f) [.ref x]) (IBack fun v s' => Q (.done (.ret v)) s') E s) : wpAny (model prog w) A (Builtin.«len» ⟨[.ref x], []⟩) Q E s := by
  unfold Builtin.«len»
  refine wpAny_bind (m := oneArg "len" _) (wpAny_pure ?_)
  refine wpAny_bind (m := callSpecial? (.ref x) (Str.ofString "__len__")) (PySem.W.special_fn X I hs (beq_iff_eq.mp hf) (wpAny_mono h (fun r s' hr => ?_) fun _ _ y => y))
  obtain ⟨n, t, rfl, h0, h1, hq⟩ := hr
  refine wpAny_bind (wpAny_holding (wpAny_pure ?_))
  refine wpAny_bind (wpAny_letGo ?_)
  show wpAny _ _ (if n < 0 then _ else _) _ _ _
  rw [if_neg (by omega)]
  show wpAny _ _ (if n ≥ 2 ^ 63 then _ else _) _ _ _
  rw [if_neg (by omega)]
  exact wpAny_bind (wpAny_mkInt (wpAny_pure hq))
theorem len_own {Q : Value → Shared → Prop} (X : K.In s.heap) (I : InstAt s.heap x ox C od) (hs : findIn K (.ref C) "__len__" = some (some (.ref f))) (hf : isFn K (.ref f) = true)
    (h : wpAny (model prog w) A.in1 (call (.ref f) [.ref x]) (IBack Q) E s) : wpAny (model prog w) A (call (.builtin "len") [.ref x]) Q E s := by
  refine Calls.call_function_entry kind_len plain_len entry_len (args_len1 _) ?_
  refine len_body X I hs hf (wpAny_mono h (fun r s' hr => ?_) fun _ _ y => y)
  obtain ⟨n, t, rfl, h0, h1, hq⟩ := hr
  exact ⟨n, t, rfl, h0, h1, ⟨_, rfl, hq⟩⟩
theorem repr_call {Q : Value → Shared → Prop} (hu : A.in1.units < cLine) (X : K.In s.heap) (I : InstAt s.heap x ox C od) (hs : findIn K (.ref C) "__repr__" = some (some (.ref f))) (hf : isFn K (.ref f) = true)
    (h : wpAny (model prog w) A.in1 (call (.ref f) [.ref x]) (SBack fun z s' => ∀ t, Q (.str z t) s') E s) : wpAny (model prog w) A (call (.builtin "repr") [.ref x]) Q E s := by
  refine Calls.call_function_entry PySem.F.kind_repr PySem.F.plain_repr PySem.F.entry_repr (PySem.F.args_repr1 _) ?_
  unfold Builtin.«repr»
  refine wpAny_bind (m := oneArg "repr" _) (wpAny_pure ?_)
  refine wpAny_bind (wpAny_cRoomFor hu ?_)
  refine wpAny_bind (wpAny_bind (I.type.here ((PySem.W.looks_findIn X hs).here ?_)))
  show wpAny _ _ (if (some (Value.ref f)).isNone = true then _ else _) _ _ _
  rw [if_neg (by simp)]
  refine wpAny_bind (m := callSpecialIfBound? (.ref x) (Str.ofString "__repr__") _) (PySem.W.ifBound_K X I hs hf (wpAny_mono h (fun r s' hr => ?_) fun _ _ y => y))
  obtain ⟨z, t, rfl, hq⟩ := hr
  refine wpAny_bind (wpAny_isInstance (typeIs_str _ _ _) isSubtype_str_str ?_)
  first
    | exact wpAny_pure ⟨_, rfl, hq t⟩
    | (rw [if_pos rfl]; exact wpAny_pure ⟨_, rfl, hq t⟩)
    | (simp only [if_true]; exact wpAny_pure ⟨_, rfl, hq t⟩)
/-- o == a text -/
theorem rc_eqS {y : Str} {ty : Tok} {Q : Value → Shared → Prop} (X : K.In s.heap) (I : InstAt s.heap x ox C od) (hu0 : A.units < cLine) (hsub : subIn K (.type "str") (.ref C) = some false)
    (he : findIn K (.ref C) "__eq__" = some (some (.ref f))) (hf : isFn K (.ref f) = true)
    (h : wpAny (model prog w) A (call (.ref f) [.ref x, .str y ty]) (fun v s' => ∃ b, v = .bool b ∧ Q v s') E s) : wpAny (model prog w) A (richCompare .Eq (.ref x) (.str y ty)) Q E s := by
  have one : wpAny (model prog w) A (tryCompare (.ref x) "__eq__" (.str y ty)) (fun r s' => ∃ b, r = some (.bool b) ∧ Q (.bool b) s') E s := by
    unfold tryCompare
    refine wpAny_bind (PySem.W.ifBound_K X I he hf (wpAny_mono h (fun v s' z => ?_) fun _ _ z => z))
    obtain ⟨b, rfl, q⟩ := z
    exact wpAny_pure ⟨b, rfl, q⟩
  unfold richCompare
  refine wpAny_holding (wpAny_bind (wpAny_cRoomFor hu0 ?_))
  have h1 : oneThing? .Eq (.ref x) (.str y ty) = none := by rfl
  rw [h1]
  refine wpAny_bind (I.type.here ?_)
  refine wpAny_bind (m := typeOf (.str y ty)) (wpAny_pure ?_)
  rw [show (Value.ref C != Value.type "str") = true from by rfl]
  simp only [if_true]
  refine wpAny_bind ((PySem.W.looks_subIn X hsub).here ?_)
  simp only [Bool.false_eq_true, if_false]
  refine wpAny_bind (wpAny_mono one (fun r s' z => ?_) fun _ _ z => z)
  obtain ⟨b, rfl, q⟩ := z
  exact wpAny_pure q
end
end SQ
namespace SQ
open PySem PySem.Spec PyProof.Rows L2
open PySem.W (InstAt findIn isFn subIn)
section
variable {prog : Program} {w : World} {A : Around} {E : Value → Shared → Prop} {s : Shared} {K : PySem.W.Frag} {x C f : Addr} {ox : Obj} {od : Option Obj}
theorem truthy_len {Q : Bool → Shared → Prop} (X : K.In s.heap) (I : InstAt s.heap x ox C od) (hb : findIn K (.ref C) "__bool__" = some none) (hs : findIn K (.ref C) "__len__" = some (some (.ref f))) (hf : isFn K (.ref f) = true)
    (h : wpAny (model prog w) A.in1 (call (.ref f) [.ref x]) (IBack fun v s' => ∃ n t, v = .int n t ∧ Q (n != 0) s') E s) : wpAny (model prog w) A (truthy (.ref x)) Q E s := by
  unfold truthy
  refine wpAny_bind (m := callSpecial? (.ref x) (Str.ofString "__bool__")) (wpAny_bind (wpAny_bind (I.type.here ((PySem.W.looks_findIn X hb).here (wpAny_pure ?_)))))
  refine wpAny_bind (wpAny_bind (I.type.here ((PySem.W.looks_findIn X hs).here ?_)))
  show wpAny _ _ (if (some (Value.ref f)).isNone = true then _ else _) _ _ _
  rw [if_neg (by simp)]
  refine wpAny_bind (wpAny_runValue (codeAny_builtin entry_len ?_))
  rw [Around.under_plainId (by decide +kernel) _]
  refine len_body X I hs hf (wpAny_mono h (fun r s' hr => ?_) fun _ _ y => y)
  obtain ⟨n, t, rfl, h0, h1, m, u, e, hq⟩ := hr
  cases e
  exact ⟨n, t, rfl, h0, h1, wpAny_pure hq⟩
theorem bool_own {Q : Value → Shared → Prop} (X : K.In s.heap) (I : InstAt s.heap x ox C od) (hb : findIn K (.ref C) "__bool__" = some none) (hs : findIn K (.ref C) "__len__" = some (some (.ref f))) (hf : isFn K (.ref f) = true)
    (h : wpAny (model prog w) A.in1.in1.in1 (call (.ref f) [.ref x]) (IBack fun v s' => ∃ n t, v = .int n t ∧ Q (.bool (n != 0)) s') E s) : wpAny (model prog w) A (call (.type "bool") [.ref x]) Q E s := by
  refine callType_codes (T := "bool") (Bi := Builtin.«object.__init__») (Q₁ := fun r s₁ => ∃ b, r = .bool b ∧ Q r s₁) PySem.F.called_bool (PySem.F.typeCall_bool_1 _) PySem.F.entry_object_init ?_ ?_
  · refine codeAny_of_tree ?_
    show wpAny _ A.in1.in1 (do checkBuiltinCall "bool.__new__" ⟨[.type "bool", .ref x], []⟩; again (.builtin "bool.__new__" ⟨[.type "bool", .ref x], []⟩)) _ _ s
    refine wpAny_bind (wpAny_of_eq (PySem.F.newCall_bool_1 _) (wpAny_pure ⟨plainId_quiet (by decide +kernel) _, codeAny_builtin PySem.F.entry_bool_new ?_⟩))
    rw [Around.under_plainId (by decide +kernel) _]
    unfold Builtin.«bool.__new__»
    refine wpAny_bind (m := isType (.type "bool")) (wpAny_pure ?_)
    have f1 := PySem.F.conv_sub_bool
    simp only [Bool.not_true, Bool.false_eq_true, if_false]
    refine wpAny_bind (wpAny_of_eq f1 ?_)
    simp only [Bool.not_true, Bool.false_eq_true, if_false]
    refine wpAny_bind (m := someArgs "bool" 0 1 _) (wpAny_pure ?_)
    refine wpAny_bind (truthy_len X I hb hs hf (wpAny_mono h (fun r s' hr => ?_) fun _ _ y => y))
    obtain ⟨n, t, rfl, h0, h1, m, u, e, hq⟩ := hr
    cases e
    exact ⟨n, t, rfl, h0, h1, n, _, rfl, wpAny_pure ⟨_, rfl, hq⟩⟩
  · rintro obj s₁ ⟨b, rfl, hq⟩
    exact ⟨rfl, PySem.F.args_object_init_2 _ _, object_init_meets PySem.F.called_bool.init.lookup PySem.F.called_bool.made (by decide) prog w A.in1 _ s₁ ⟨rfl, rfl, hq⟩⟩
end
section
variable {X : Cx} {k : Nat} {f C : Addr} {sp : Sp}
/-- what the class at C has for len, bool, repr, == -/
structure LenC (K : PySem.W.Frag) (C f : Addr) : Prop where
  ln : findIn K (.ref C) "__len__" = some (some (.ref f))
  fn : isFn K (.ref f) = true
  bo : findIn K (.ref C) "__bool__" = some none
theorem cr_lenOwn (F : FnR X.prog X.w X.K X.mg X.base CX0 k f sp) (hr : Room (k + 1) X.A) (T : LenC X.K C f) :
    CallR X (.builtin "len") (fun xs H Q => ∃ (x dx : Addr) (fs : List (Str × V)), xs = [.ref x] ∧ H x = some (.ins C dx fs) ∧ sp [.ref x] H (fun v H' => ∃ n : Int, v = .int n ∧ 0 ≤ n ∧ n < 1000 ∧ Q v H') E0) := by
  intro pins s σ H xs us Q I r h
  obtain ⟨x, dx, fs, rfl, hx, q⟩ := h
  obtain ⟨u, rfl, r1⟩ := vals1 r
  obtain rfl : u = Value.ref x := r1
  obtain ⟨mA, O, _⟩ := ins_get I.hok hx
  obtain ⟨od, J, _⟩ := O.look
  have hr2 : Room k X.A.in1 := Room.in1 hr
  refine len_own I.kIn J T.ln T.fn (wpAny_call (codeAny_mono (F X.A.in1 X.stack s H [.ref x] [.ref x] _ _ hr2 I.env0.in1 (.cons rfl .nil) q) fun r s' hq => ?_))
  rcases r with er | (_ | _ | _ | u)
  · exact (show False from hq).elim
  · exact False.elim hq
  · exact False.elim hq
  · exact False.elim hq
  · obtain ⟨v, H', I', rv, n, rfl, n0, n1, q'⟩ := I.after hq
    obtain ⟨t, rfl⟩ := rv
    exact ⟨n, t, rfl, n0, n1, .int n, H', I'.tok _, ⟨_, rfl⟩, q'⟩
theorem cr_boolOwn (F : FnR X.prog X.w X.K X.mg X.base CX0 k f sp) (hr : Room (k + 3) X.A) (T : LenC X.K C f) :
    CallR X (.type "bool") (fun xs H Q => ∃ (x dx : Addr) (fs : List (Str × V)), xs = [.ref x] ∧ H x = some (.ins C dx fs) ∧ sp [.ref x] H (fun v H' => ∃ n : Int, v = .int n ∧ 0 ≤ n ∧ n < 1000 ∧ Q (.bl (n != 0)) H') E0) := by
  intro pins s σ H xs us Q I r h
  obtain ⟨x, dx, fs, rfl, hx, q⟩ := h
  obtain ⟨u, rfl, r1⟩ := vals1 r
  obtain rfl : u = Value.ref x := r1
  obtain ⟨mA, O, _⟩ := ins_get I.hok hx
  obtain ⟨od, J, _⟩ := O.look
  have hr2 : Room k X.A.in1.in1.in1 := Room.in1 (Room.in1 (Room.in1 hr))
  refine bool_own I.kIn J T.bo T.ln T.fn (wpAny_call (codeAny_mono (F X.A.in1.in1.in1 X.stack s H [.ref x] [.ref x] _ _ hr2 I.env0.in1.in1.in1 (.cons rfl .nil) q) fun r s' hq => ?_))
  rcases r with er | (_ | _ | _ | u)
  · exact (show False from hq).elim
  · exact False.elim hq
  · exact False.elim hq
  · exact False.elim hq
  · obtain ⟨v, H', I', rv, n, rfl, n0, n1, q'⟩ := I.after hq
    obtain ⟨t, rfl⟩ := rv
    exact ⟨n, t, rfl, n0, n1, n, _, rfl, .bl (n != 0), H', I'.tok _, rfl, q'⟩
theorem cr_reprOwn (F : FnR X.prog X.w X.K X.mg X.base CX0 k f sp) (hr : Room (k + 1) X.A) (T : RpC X.K C f) :
    CallR X (.builtin "repr") (fun xs H Q => ∃ (x dx : Addr) (fs : List (Str × V)), xs = [.ref x] ∧ H x = some (.ins C dx fs) ∧ sp [.ref x] H (fun v H' => ∃ z, v = .str z ∧ Q v H') E0) := by
  intro pins s σ H xs us Q I r h
  obtain ⟨x, dx, fs, rfl, hx, q⟩ := h
  obtain ⟨u, rfl, r1⟩ := vals1 r
  obtain rfl : u = Value.ref x := r1
  obtain ⟨mA, O, _⟩ := ins_get I.hok hx
  obtain ⟨od, J, _⟩ := O.look
  have hr2 : Room k X.A.in1 := Room.in1 hr
  refine repr_call hr2.units0 I.kIn J T.rp T.fn (wpAny_call (codeAny_mono (F X.A.in1 X.stack s H [.ref x] [.ref x] _ _ hr2 I.env0.in1 (.cons rfl .nil) q) fun r s' hq => ?_))
  rcases r with er | (_ | _ | _ | u)
  · exact (show False from hq).elim
  · exact False.elim hq
  · exact False.elim hq
  · exact False.elim hq
  · obtain ⟨v, H', I', rv, z, rfl, q'⟩ := I.after hq
    obtain ⟨t, rfl⟩ := rv
    exact ⟨z, t, rfl, fun t' => ⟨.str z, H', I', ⟨t', rfl⟩, q'⟩⟩
theorem op_eqOwnS (F : FnR X.prog X.w X.K X.mg X.base CX0 k f sp) (hr : Room k X.A) (T : CmpC X.K C f) (hsub : subIn X.K (.type "str") (.ref C) = some false) :
    OpR X (compareOp .Eq) (fun x y H Q => ∃ (a dx : Addr) (fs : List (Str × V)) (z : Str), x = .ref a ∧ y = .str z ∧ H a = some (.ins C dx fs) ∧ sp [.ref a, .str z] H (fun v H' => ∃ r, v = .bl r ∧ Q v H') E0) := by
  intro pins s σ H x y v u Q I rx ry h
  obtain ⟨a, dx, fs, z, rfl, rfl, ha, q⟩ := h
  obtain rfl : v = Value.ref a := rx
  obtain ⟨tz, rfl⟩ := ry
  obtain ⟨mA, O, _⟩ := ins_get I.hok ha
  obtain ⟨od, J, _⟩ := O.look
  refine rc_eqS I.kIn J hr.units0 hsub T.eq T.fn (wpAny_call (codeAny_mono (F X.A X.stack s H [.ref a, .str z tz] [.ref a, .str z] _ _ hr I.env0 (.cons rfl (.cons ⟨_, rfl⟩ .nil)) q) fun r s' hq => ?_))
  rcases r with er | (_ | _ | _ | u)
  · exact (show False from hq).elim
  · exact False.elim hq
  · exact False.elim hq
  · exact False.elim hq
  · obtain ⟨v, H', I', rv, r, rfl, q'⟩ := I.after hq
    obtain rfl : u = Value.bool r := rv
    exact ⟨r, rfl, .bl r, H', I', rfl, q'⟩
end
section
variable {X : Cx} {CX : CXT} {k : Nat} {C g : Addr} {sp : Sp} {E : XK} {o e : Expr} {m : Str} {pos apos kpos : Pos} {ta te : TE} {pl : Sem Bool}
def tMethK (C : Addr) (m : Str) (sp : Sp) (E : XK) (ta te : TE) : TE := fun σ H Q => ta σ H fun y H1 => ∃ (a dx : Addr) (fs : List (Str × V)), y = .ref a ∧ H1 a = some (.ins C dx fs) ∧ fs.lookup m = none ∧ te σ H1 fun v H2 => ∃ v', [v] = [v'] ∧ sp [.ref a, v'] H2 Q E
/-- o.m(f=e), o an instance -/
theorem pe_methK {fd : FuncData} {f sf : Str} (he : PE X o ta) (c : Cls X.K C) (hm : Meth X.K C m g) (F : FnOk X.prog X.w X.K X.mg X.base CX k g fd [sf, f] sp) (hr : Room k X.A) (hb : ∀ (s : Shared) (v u : Value), BindsTo s fd ⟨[v], [(f, u)]⟩ [(sf, v), (f, u)]) (hx : Passes CX X E) (ha : PE X e te)
    (ht : eval (.Call (.Attribute o m apos) [] [⟨some f, e, kpos⟩] pos) X.env = (do
      let v ← eval o X.env
      standAt apos.atName
      let (fn, pre) ← holding [v] (getMethod v m pl)
      callWith pos fn pre (backTo pos (starEach [] X.env)) (backToKw pos (keywordEach [⟨some f, e, kpos⟩] X.env))) := by rfl) :
    PE X (.Call (.Attribute o m apos) [] [⟨some f, e, kpos⟩] pos) (tMethK C m sp E ta te) := by
  constructor
  intro pins s σ H Q I h
  refine PySem.W.methodCall_KW (pl := pl) (thn (he.run pins s σ H _ I h) fun u s1 ⟨y, H1, I1, ry, a, dx, fs, ey, ea, l, q⟩ => ?_) ht
  subst ey
  obtain rfl : u = Value.ref a := ry
  refine getmeth_ok I1 ea c hm l ?_
  refine PySem.W.callWith_KW0 (first := [.ref a]) (h₀ := X.base) I1.ok.mod.kin hm.kp rfl ?_
  have hk : PK X [⟨some f, e, kpos⟩] (tCons te tNil) := pk_cons ha pk_nil
  refine thn (hk.run pos pins s1 σ H1 (fun zs H2 => ∃ v, zs = [v] ∧ sp [.ref a, v] H2 Q E) I1 ?_) ?_
  · exact q
  · intro us s3 ⟨zs, H2, I3, r1, v, ez, q2⟩
    subst ez
    refine ⟨I3.kIn, ?_⟩
    cases r1 with
    | cons rv rr =>
      cases rr
      rename_i u
      show wpAny _ _ (call (.ref g) [.ref a] [(f, u)]) _ _ _
      refine wpAny_call (codeAny_mono (F.run X.A X.stack s3 H2 ⟨[.ref a], [(f, u)]⟩ [.ref a, u] [.ref a, v] Q E hr I3.env0 (hb s3 (.ref a) u) (.cons rfl (.cons rv .nil)) q2) fun r s' hq => ?_)
      cases r with
      | error e => exact hx pins σ H2 s3 e s' I3 hq
      | ok fl => cases fl with
        | ret u => exact I3.after hq
        | next => exact False.elim hq
        | brk => exact False.elim hq
        | cont => exact False.elim hq
end
end SQ
namespace SQ6
open PySem L2 SQ
/-! ### rows of tokens -/
abbrev sRw : Stmt := top 46
abbrev sQx : Stmt := top 47
abbrev sQu : Stmt := top 48
abbrev sSp : Stmt := top 49
/-- tokens: not empty, without a space -/
def Tk (t : Str) : Prop := t ≠ "" ∧ (32 : Nat) ∉ t.cps.toList ∧ t.length ≤ 1000
def jt (ts : List Str) : Str := Txt.join " " ts
theorem jt_eq (ts : List Str) : jt ts = Str.join " " ts := StrLaws.glued_eq_join " " ts
def qtext (x : Str) : Str := if x = "" then "[ ]" else Str.empty ++ "[ " ++ x ++ " ]"
theorem Paired.at {α β : Type} {F : α → β → Prop} : ∀ {l : List α} {m : List β} {i : Nat} {x : α}, Paired F l m → l[i]? = some x → ∃ y, m[i]? = some y ∧ F x y
  | _, _, i, x, .nil, h => by simp at h
  | _, _, 0, x, .cons r t, h => by
    simp at h
    subst h
    exact ⟨_, rfl, r⟩
  | _, _, i + 1, x, .cons r t, h => by
    rw [List.getElem?_cons_succ] at h
    obtain ⟨y, h1, h2⟩ := Paired.at t h
    exact ⟨y, by rw [List.getElem?_cons_succ]; exact h1, h2⟩
/-- the words at ws have the texts xs -/
def Rw (H : Hp) (ws : List V) (xs : List Str) : Prop := Paired (fun w x => ∃ (t : Addr) (k d : V), w = V.ref t ∧ H t = some (.tup [k, .str x, d])) ws xs
theorem Rw.same {H H' : Hp} {ws : List V} {xs : List Str} (s : Same H H') (h : Rw H ws xs) : Rw H' ws xs := Paired.mapP h fun _ _ ⟨t, k, d, e1, e2⟩ => ⟨t, k, d, e1, s _ _ e2⟩
theorem Rw.put {D : Addr} {H : Hp} {ws ys zs : List V} {xs : List Str} (hD : H D = some (.lst ys)) (h : Rw H ws xs) : Rw (upd H D (.lst zs)) ws xs :=
  Paired.mapP h fun _ _ ⟨t, k, d, e1, e2⟩ => ⟨t, k, d, e1, by rw [upd_ne (ne_of e2 hD (by intro z; cases z))]; exact e2⟩
theorem Rw.snoc {H : Hp} : ∀ {ws : List V} {xs : List Str} {v : V} {x : Str}, Rw H ws xs → (∃ (t : Addr) (k d : V), v = V.ref t ∧ H t = some (.tup [k, .str x, d])) → Rw H (ws ++ [v]) (xs ++ [x])
  | _, _, _, _, .nil, h => .cons h .nil
  | _, _, _, _, .cons r t, h => .cons r (Rw.snoc t h)
theorem Rw.len {H : Hp} {ws : List V} {xs : List Str} (h : Rw H ws xs) : ws.length = xs.length := Paired.length h
structure W6 (mg : Str → Option Value) : Prop where
  quo : ∃ t, mg "QUOTATION" = some (.str "quotation" t)
  unk : ∃ t, mg "UNKNOWN" = some (.str "unknown" t)
  lit : ∃ t, mg "LITERAL" = some (.str "literal" t)
  fig : ∃ t, mg "FIGURES" = some (.str "0123456789" t)
  mfg : ∃ t, mg "MOST_FIGURES" = some (.int 18 t)
  msz : ∃ t, mg "MOST_SIZE" = some (.int 60 t)
  mnd : ∃ t, mg "MOST_NESTED" = some (.int 6 t)
section
variable {P : Program} {w : World} {K : PySem.W.Frag} {mg : Str → Option Value} {base : Heap}
def spRwT (K : PySem.W.Frag) : Sp := fun vs H Q _ => ∃ (p : Addr) (l : List Str), vs = [.ref p] ∧ (SqL K H p (l.map V.str) ∨ SqT K H p (l.map V.str)) ∧ (l.map (·.length)).sum + l.length ≤ 16777216 ∧ Q (.str (jt l)) H
theorem scRw : FnScope ["texts"] ["texts"] (defScope sRw) := ⟨rfl, rfl, rfl, by decide +kernel, rfl, by decide +kernel, by decide +kernel⟩
theorem ok_rwt {f : Addr} {fd : FuncData} (F : Fun K "row_text" "row_text" sRw f fd) : FnOk P w K mg base CX0 1 f fd ["texts"] (spRwT K) := by
  refine F.ok scRw (fun vs H Q E h => ?_) (fun cdv A outer s H vs Q E hr h => ?_)
  · obtain ⟨p, l, rfl, _⟩ := h
    rfl
  · obtain ⟨p, l, rfl, hp, hz, q⟩ := h
    refine ⟨_, pss_one (ps_ret (pe_join pe_str (pv 0))), ?_⟩
    refine ⟨⟨_, rfl⟩, _, rfl, _, p, l, rfl, rfl, hp, ?_, q⟩
    show _ + l.length * 1 ≤ _
    omega
def spQx : Sp := fun vs H Q _ => ∃ x : Str, vs = [.str x] ∧ x.length ≤ 10000 ∧ Q (.str (qtext x)) H
theorem scQx : FnScope ["text"] ["text"] (defScope sQx) := ⟨rfl, rfl, rfl, by decide +kernel, rfl, by decide +kernel, by decide +kernel⟩
theorem ok_qx {f : Addr} {fd : FuncData} (F : Fun K "quotation_text" "quotation_text" sQx f fd) : FnOk P w K mg base CX0 1 f fd ["text"] spQx := by
  refine F.ok scQx (fun vs H Q E h => ?_) (fun cdv A outer s H vs Q E hr h => ?_)
  · obtain ⟨x, rfl, _⟩ := h
    rfl
  · obtain ⟨x, rfl, hx, q⟩ := h
    have line : ∀ {n : Nat}, n ≤ 20000 → n ≤ sizeLine := fun h => Nat.le_trans h (by decide)
    refine ⟨_, pss_one (ps_ret (pe_ifExp (pt_truth (pv 0) (by intro _; rfl)) (pe_joined (.cons pe_str (.cons (pe_fmt (pv 0)) (.cons pe_str .nil)))) pe_str)), ?_⟩
    refine ⟨_, rfl, _, ⟨line (by omega), rfl⟩, ?_⟩
    by_cases h0 : x = ""
    · subst h0
      exact iteF q
    · have hl : ((x.length : Int) != 0) = true := by
        rw [bne_iff_ne]
        intro e0
        have e : x.length = 0 := by omega
        refine h0 (str_ext ?_)
        have : x.cps.toList.length = 0 := by simpa [Str.length] using e
        rw [List.length_eq_zero_iff.mp this]
        rfl
      rw [hl]
      refine iteT ?_
      have l1 : (Str.empty ++ ("[ " : Str)).length = 2 := by decide
      have l2 : (" ]" : Str).length = 2 := rfl
      have e : qtext x = Str.empty ++ "[ " ++ x ++ " ]" := if_neg h0
      rw [e] at q
      refine ⟨_, rfl, by rw [l1]; exact line (by decide), _, rfl, .inl ⟨x, rfl, line (by omega), _, rfl, ?_, _, rfl, ?_, q⟩⟩
      · rw [len_app, l1]
        exact line (by omega)
      · rw [len_app, len_app, l1, l2]
        exact line (by omega)
def spSp : Sp := fun vs H Q _ => ∃ ts : List Str, vs = [.str (jt ts)] ∧ (∀ t ∈ ts, Tk t) ∧ (jt ts).length ≤ 10000 ∧ ∀ p, H p = none → Q (.ref p) (upd H p (.lst (ts.map V.str)))
theorem scSp : FnScope ["text"] ["text"] (defScope sSp) := ⟨rfl, rfl, rfl, by decide +kernel, rfl, by decide +kernel, by decide +kernel⟩
theorem jt_ne {t : Str} {ts : List Str} (h : Tk t) : (((jt (t :: ts)).length : Int) != 0) = true := by
  rw [bne_iff_ne, jt_eq]
  intro e0
  have e : (Str.join " " (t :: ts)).length = 0 := by omega
  have e2 : (Str.join " " (t :: ts)).cps.toList.length = 0 := by simpa [Str.length] using e
  rw [tl_join] at e2
  have e3 := List.length_eq_zero_iff.mp e2
  have ht : t.cps.toList ≠ [] := fun z => h.1 (str_ext z)
  cases ts with
  | nil => exact ht e3
  | cons u us =>
    have e4 : t.cps.toList ++ (_ ++ _) = [] := e3
    exact ht (List.append_eq_nil_iff.mp e4).1
theorem ok_sp {f : Addr} {fd : FuncData} (F : Fun K "split_tokens" "split_tokens" sSp f fd) : FnOk P w K mg base CX0 1 f fd ["text"] spSp := by
  refine F.ok scSp (fun vs H Q E h => ?_) (fun cdv A outer s H vs Q E hr h => ?_)
  · obtain ⟨ts, rfl, _⟩ := h
    rfl
  · obtain ⟨ts, rfl, ht, hl, q⟩ := h
    have line : ∀ {n : Nat}, n ≤ 20000 → n ≤ sizeLine := fun h => Nat.le_trans h (by decide)
    refine ⟨_, pss_one (ps_ret (pe_ifExp (pt_truth (pv 0) (by intro _; rfl)) (pe_split (pv 0) pe_str) (pe_lst pa_nil))), ?_⟩
    refine ⟨_, rfl, _, ⟨line (by omega), rfl⟩, ?_⟩
    cases ts with
    | nil => exact iteF ⟨(by show 0 ≤ sizeLine; decide), fun p np => q p np⟩
    | cons t ts =>
      rw [jt_ne (ht t List.mem_cons_self)]
      refine iteT ?_
      refine ⟨_, rfl, ⟨_, rfl⟩, _, _, rfl, rfl, by decide, line (by omega), fun p np => ?_⟩
      have e : Txt.split (jt (t :: ts)) " " = t :: ts := by
        rw [jt_eq]
        exact split_join (c := 32) (S := []) (by decide +kernel) (by decide +kernel) (by simp) fun p hp => (ht p hp).2.1
      rw [e]
      exact q p np
end
end SQ6
namespace SQ6
open PySem L2 SQ
abbrev sLi : Stmt := top 43
abbrev sWd : Stmt := top 45
abbrev sAri : Stmt := inClass (top 32) 2
theorem ixT {X : Cx} {K : PySem.W.Frag} (h : X.K = K) : IxR X (rIxT K) := by
  subst h
  exact ix_tup
section
variable {P : Program} {w : World} {K : PySem.W.Frag} {mg : Str → Option Value} {base : Heap} {C tC : Addr}
/-! ### quote -/
def spQu : Sp := fun vs H Q _ => ∃ (r : Addr) (ws : List V) (xs : List Str), vs = [.ref r] ∧ H r = some (.tup ws) ∧ Rw H ws xs ∧ xs.length ≤ 900 ∧ (xs.map (·.length)).sum ≤ 9000 ∧ (jt xs).length ≤ 10000 ∧
  ∀ (t : Addr) (H' : Hp), Same H H' → H t = none → H' t = some (.tup [.str "quotation", .str (qtext (jt xs)), .ref r]) → Q (.ref t) H'
theorem scQu : FnScope ["row", "word"] ["row"] (defScope sQu) := ⟨rfl, rfl, rfl, by decide +kernel, rfl, by decide +kernel, by decide +kernel⟩
theorem ok_qu {f fR fQ : Addr} {fd dR dQ : FuncData} (F : Fun K "quote" "quote" sQu f fd) (W : W6 mg) (gR : mg "row_text" = some (.ref fR)) (FR : Fun K "row_text" "row_text" sRw fR dR) (bR : Binds K dR ["texts"] []) (gQ : mg "quotation_text" = some (.ref fQ)) (FQ : Fun K "quotation_text" "quotation_text" sQx fQ dQ) (bQ : Binds K dQ ["text"] []) :
    FnOk P w K mg base CX0 2 f fd ["row"] spQu := by
  have GR : FnOk P w K mg base CX0 1 fR dR ["texts"] (spRwT K) := ok_rwt FR
  have GQ : FnOk P w K mg base CX0 1 fQ dQ ["text"] spQx := ok_qx FQ
  refine F.ok scQu (fun vs H Q E h => ?_) (fun cdv A outer s H vs Q E hr h => ?_)
  · obtain ⟨r, ws, xs, rfl, _⟩ := h
    rfl
  · obtain ⟨r, ws, xs, rfl, hr', hw, h5, h9, hj, q⟩ := h
    obtain ⟨tq, gq⟩ := W.quo
    refine ⟨_, pss_one (ps_ret (pe_tup (pa_cons (pe_glob (v := .str "quotation") rfl gq ⟨_, rfl⟩) (pa_cons (pe_call GQ hr rfl gQ FQ.kp bQ .nil pass0 (pa_cons (pe_call GR hr rfl gR FR.kp bR .nil pass0 (pa_cons
      (pe_lc (own := [("word", 1)]) (g := gName 1) (tt := tYes) rfl scQu.nd (pi_tup (pv 0)) (blkOk_by (N := ["row", "word"]) (sc := defScope sQu) (by decide +kernel)) (fun _ _ _ _ _ => pg_name (i := 1) scQu.nd rfl (.inl rfl)) (fun _ _ _ _ _ => pts_nil) (fun _ _ _ _ _ => pe_ix (ixT (K := K) rfl) (pv 1) pe_int (fun _ _ => rfl))) pa_nil)) pa_nil)) (pa_cons (pv 0) pa_nil))))), ?_⟩
    refine ⟨_, rfl, r, rfl, ⟨_, SqT.of hr'⟩, fun D nD => ?_⟩
    refine lc_tup (K := K) (a := r) (xs := ws) (fun i G => Same H G ∧ G D = some (.lst ((xs.take i).map V.str))) ⟨same_new (fun _ _ e => e) nD, upd_same⟩ (fun i G _ h => SqT.of (h.1 _ _ hr')) ?_ ?_
    · rintro i v G hi ⟨s1, hD⟩
      obtain ⟨x, hx, t, k, d, rfl, e2⟩ := Paired.at (F := _) hw hi
      have hl : (xs.take i).length ≤ 900 := by rw [List.length_take]; omega
      refine ⟨rfl, keptT ⟨_, rfl, t, _, 1, _, rfl, rfl, SqT.of (s1 _ _ e2), rfl, _, hD, small1000 (by rw [List.length_map]; omega), ?_, ?_⟩⟩
      · intro b ob e
        rw [upd_ne (ne_of_none e nD)]
        exact s1 _ _ e
      · rw [upd_same, take_more hx, List.map_append]
        rfl
    · rintro G ⟨s1, hD⟩
      have hl : ws.length = xs.length := hw.len
      rw [hl, List.take_length] at hD
      refine ⟨D, xs, rfl, .inl (SqL.of hD), by omega, ?_⟩
      refine ⟨_, rfl, hj, _, rfl, (by show 3 ≤ sizeLine; decide), fun t nt => ?_⟩
      exact q t _ (st s1 (same_new (fun _ _ e => e) nt)) (s1.free nt) upd_same
/-! ### Vocabulary.arity of a name -/
def spAri (C : Addr) : Sp := fun vs H Q _ => ∃ (a : Addr) (gs : List G3) (ys : List Str) (n : Str), vs = [.ref a, .str n] ∧ Vc C H a gs ys ∧ n ∈ gnames gs ∧ ∀ t, H t = some (.tup [.int (arOf gs n).1, .int (arOf gs n).2]) → Q (.ref t) H
theorem scAri : FnScope ["self", "name"] ["self", "name"] (defScope sAri) := ⟨rfl, rfl, rfl, by decide +kernel, rfl, by decide +kernel, by decide +kernel⟩
theorem ok_ari {f : Addr} {fd : FuncData} (F : Fun K "arity" "Vocabulary.arity" sAri f fd) (B : B2 mg) (VV : VC K mg C) : FnOk P w K mg base CX0 2 f fd ["self", "name"] (spAri C) := by
  refine F.ok scAri (fun vs H Q E h => ?_) (fun cdv A outer s H vs Q E hr h => ?_)
  · obtain ⟨a, gs, ys, n, rfl, _⟩ := h
    rfl
  · obtain ⟨a, gs, ys, n, rfl, ⟨dx, dA, tN, kvs, ha, hN, hA, hk⟩, hn, q⟩ := h
    have hu := hu_of hr
    refine ⟨_, pss_cons (ps_if (PW.pt (pw_or (pt_not (pt_val (pe_callB call_isi (by rfl) B.isi (by decide +kernel) (pa_cons (pv 1) (pa_cons (pe_bltn (v := .ty "str") (by rfl) B.str (by decide +kernel) rfl) pa_nil)))))
        (pw_or1 (pt_cmp (pc_dnotin hu (pv 1) (pe_fld (pv 0) rfl)))))) (pss_one ps_never) pss_nil)
      (pss_one (ps_ret (pe_dget hu (pe_fld (pv 0) rfl) (pv 1) (fun _ _ => rfl)))), ?_⟩
    obtain ⟨t, v1, v2⟩ := hk.at hn
    refine ⟨_, rfl, .str n, .ty "str", .type "str", .type "str", true, rfl, .ty "str", .base (.str n), kit_ty (by decide +kernel), _, rfl, iteF ?_⟩
    refine ⟨_, rfl, _, rfl, a, C, dx, _, _, rfl, ha, VV.cl, VV.nA, rfl, dA, _, rfl, DGet.k (k := Sum.inr n) hA, _, rfl, ?_⟩
    rw [v1]
    refine iteF ⟨_, rfl, a, C, dx, _, _, rfl, ha, VV.cl, VV.nA, rfl, _, rfl, dA, .ref t, rfl, ?_, q t v2⟩
    rw [← v1]
    exact DGet.k (k := Sum.inr n) hA
end
end SQ6
namespace SQ6
open PySem L2 SQ
theorem itY {c A B : Prop} [Decidable c] (hc : c) (h : A) : if decide c = true then A else B := by
  rw [if_pos (decide_eq_true hc)]
  exact h
theorem itN {c A B : Prop} [Decidable c] (hc : ¬ c) (h : B) : if decide c = true then A else B := by
  rw [decide_eq_false hc]
  exact iteF h
def figs : List Nat := [48, 49, 50, 51, 52, 53, 54, 55, 56, 57]
section
variable {P : Program} {w : World} {K : PySem.W.Frag} {mg : Str → Option Value} {base : Heap} {C tC fA : Addr} {dA : FuncData}
/-! ### is_literal of "5" -/
def spLi : Sp := fun vs H Q _ => vs = [.str "5"] ∧ ∀ H', Same H H' → Q (.bl true) H'
theorem scLi : FnScope ["token", "figures", "figure"] ["token"] (defScope sLi) := ⟨rfl, rfl, rfl, by decide +kernel, rfl, by decide +kernel, by decide +kernel⟩
theorem ok_li {f : Addr} {fd : FuncData} (F : Fun K "is_literal" "is_literal" sLi f fd) (B : B2 mg) (W : W6 mg) : FnOk P w K mg base CX0 1 f fd ["token"] spLi := by
  refine F.ok scLi (fun vs H Q E h => ?_) (fun cdv A outer s H vs Q E hr h => ?_)
  · obtain ⟨rfl, _⟩ := h
    rfl
  · obtain ⟨rfl, q⟩ := h
    obtain ⟨t1, g1⟩ := W.fig
    obtain ⟨t2, g2⟩ := W.mfg
    refine ⟨_, pss_cons (ps_set (i := 1) scLi.nd rfl (.inl rfl) (pe_ifExp (pt_val (pe_m1 PySem.F.slot_str_startswith PySem.F.type_str_startswith mt_startswith (pv 0) pe_str)) (pe_slice sl_str (pv 0) (po_some pe_int) po_none) (pv 0)))
      (pss_cons (ps_if (pt_not (pt_chain op_le op_le pe_int (pe_callB call_len_str (by rfl) B.len PySem.boot_len (pa_cons (pv 1) pa_nil)) (pe_glob (v := .int 18) rfl g2 ⟨_, rfl⟩))) (pss_one (ps_ret pe_bl)) pss_nil)
      (pss_cons (ps_if (pt_not (pt_val (pe_callB (cr_all rfl) (by rfl) B.all (by decide +kernel) (pa_cons (pe_lc (own := [("figure", 2)]) (g := gName 2) (tt := tYes) rfl scLi.nd (pi_str (pv 1)) (blkOk_by (N := ["token", "figures", "figure"]) (sc := defScope sLi) (by decide +kernel)) (fun _ _ _ _ _ => pg_name (i := 2) scLi.nd rfl (.inl rfl)) (fun _ _ _ _ _ => pts_nil)
          (fun _ _ _ _ _ => pe_cmpR op_in_sign (pv 2) (pe_glob (v := .str "0123456789") rfl g1 ⟨_, rfl⟩) rfl)) pa_nil)))) (pss_one (ps_ret pe_bl)) pss_nil)
      (pss_one (ps_ret (pe_or (pe_cmpR op_eq (pv 0) pe_str (by rfl)) (pe_one (pe_not (pe_m1 PySem.F.slot_str_startswith PySem.F.type_str_startswith mt_startswith (pv 1) pe_str)))))))), ?_⟩
    have l5 : ("5" : Str).length = 1 := by decide +kernel
    have hz : ("5" : Str).length ≤ sizeLine := by rw [l5]; decide
    refine ⟨_, rfl, ⟨_, rfl⟩, _, _, rfl, rfl, _, rfl, ?_⟩
    rw [show Txt.startswith "5" "-" = false from by decide +kernel]
    refine iteF ⟨_, rfl, ?_⟩
    refine ⟨_, rfl, _, rfl, hz, _, _, rfl, rfl, _, rfl, ?_⟩
    refine itY (by rw [l5]; decide) ⟨_, _, rfl, rfl, _, rfl, ?_⟩
    rw [decide_eq_true (show ((("5" : Str).length : Nat) : Int) ≤ 18 by rw [l5]; decide)]
    refine iteF ?_
    refine ⟨_, rfl, "5", rfl, fun D hD => ?_⟩
    refine lc_it (walk_str (z := "5")) (fun i H2 => H2 = upd H D (.lst (((("5" : Str).cps.toList.take i).map fun c => decide (c ∈ figs)).map V.bl))) rfl (fun _ _ _ _ => trivial) ?_ ?_
    · rintro i v H2 H3 hi rfl ⟨rfl, c, hc, rfl⟩
      refine ⟨rfl, keptT ⟨_, rfl, c, _, rfl, rfl, _, upd_same, small1000 ?_, ?_⟩⟩
      · rw [List.length_map, List.length_map, List.length_take]
        have : ("5" : Str).cps.toList.length = 1 := by decide +kernel
        omega
      · have e1 : (("0123456789" : Str).cps.toList) = figs := by decide +kernel
        have e2 : ("5" : Str).cps.toList.take (i + 1) = ("5" : Str).cps.toList.take i ++ [c] := by
          rw [List.take_add_one]
          have : ("5" : Str).cps.toList[i]? = some c := by simpa using hc
          rw [this]
          rfl
        rw [upd_upd, e1, e2, List.map_append, List.map_append]
        rfl
    · rintro H2 rfl
      refine ⟨D, _, rfl, SqL.of upd_same, ?_⟩
      rw [show ((("5" : Str).cps.toList.take ("5" : Str).cps.size).map fun c => decide (c ∈ figs)).all id = true from by decide +kernel]
      refine ⟨_, rfl, iteF ?_⟩
      refine ⟨_, rfl, rfl, _, rfl, ?_⟩
      refine itN (by decide) ⟨_, rfl, ⟨_, rfl⟩, _, _, rfl, rfl, _, rfl, ?_⟩
      rw [show (!Txt.startswith "5" "0") = true from by decide +kernel]
      exact q _ (same_new (fun _ _ e => e) hD)
/-! ### read_word of "t" and of "5" -/
def spWd (C : Addr) : Sp := fun vs H Q _ => ∃ (x : Str) (o : Addr) (gs : List G3), vs = [.str x, .ref o] ∧ Vc C H o gs [("t" : Str)] ∧ gnames gs = [("t" : Str)] ∧ (x = "t" ∨ x = "5") ∧
  ∀ (t : Addr) (k d : V) (H' : Hp), Same H H' → H t = none → H' t = some (.tup [k, .str x, d]) → Q (.ref t) H'
theorem scWd : FnScope ["token", "vocabulary", "letters", "taken", "left", "letter"] ["token", "vocabulary"] (defScope sWd) := ⟨rfl, rfl, rfl, by decide +kernel, rfl, by decide +kernel, by decide +kernel⟩
theorem ok_wd {f fL : Addr} {fd dL : FuncData} (F : Fun K "read_word" "read_word" sWd f fd) (B : B2 mg) (W : W6 mg) (CW : Core K mg tC) (VV : VC K mg C) (gL : mg "is_literal" = some (.ref fL)) (FL : Fun K "is_literal" "is_literal" sLi fL dL) (bL : Binds K dL ["token"] [])
    (MA : Meth K C "arity" fA) (FA : Fun K "arity" "Vocabulary.arity" sAri fA dA) (bA : Binds K dA ["self", "name"] []) : FnOk P w K mg base CX0 3 f fd ["token", "vocabulary"] (spWd C) := by
  have GL : FnOk P w K mg base CX0 1 fL dL ["token"] spLi := ok_li FL B W
  have GA : FnOk P w K mg base CX0 2 fA dA ["self", "name"] (spAri C) := ok_ari FA B VV
  refine F.ok scWd (fun vs H Q E h => ?_) (fun cdv A outer s H vs Q E hr h => ?_)
  · obtain ⟨x, o, gs, rfl, _⟩ := h
    rfl
  · obtain ⟨x, o, gs, rfl, hV, hg, hx, q⟩ := h
    have hV0 := hV
    obtain ⟨dx, dA', tN, kvs, ha, hN, hA, hk⟩ := hV
    obtain ⟨t1, g1⟩ := W.unk
    obtain ⟨t2, g2⟩ := W.lit
    refine ⟨_, pss_cons (ps_if (pt_cmpR op_in_seq (pv 0) (pe_glob (v := .ref tC) rfl CW.g rfl) (by rfl)) (pss_one ps_never) pss_nil)
      (pss_cons (ps_if (pt_cmpR op_in_seq (pv 0) (pe_fld (pv 1) rfl) (by rfl)) (pss_one (ps_ret (pe_tup (pa_cons (pe_glob (v := .str "unknown") rfl g1 ⟨_, rfl⟩) (pa_cons (pv 0) (pa_cons (pe_meth (pv 1) VV.cl MA GA (hr.mono (by decide)) bA .nil pass0 (pa_cons (pv 0) pa_nil)) pa_nil)))))) pss_nil)
      (pss_cons (ps_if (pt_val (pe_call GL (hr.mono (by decide)) rfl gL FL.kp bL .nil pass0 (pa_cons (pv 0) pa_nil))) (pss_one (ps_ret (pe_tup (pa_cons (pe_glob (v := .str "literal") rfl g2 ⟨_, rfl⟩) (pa_cons (pv 0) (pa_cons (pe_callTy call_int_str (by rfl) B.int (by decide +kernel) (pa_cons (pv 0) pa_nil)) pa_nil)))))) pss_nil)
      (pss_cons ps_never (pss_cons ps_never (pss_cons ps_never (pss_one ps_never)))))), ?_⟩
    have nc : x ∉ cores := by
      rcases hx with rfl | rfl <;> decide +kernel
    refine ⟨_, rfl, tC, _, rfl, .inr (CW.at_ H), rfl, by decide, _, rfl, ?_⟩
    show (if (inV (.str x) (cores.map V.str)) = true then _ else _)
    rw [inV_cores]
    refine itN nc ?_
    refine ⟨_, rfl, _, rfl, o, C, dx, _, _, rfl, ha, VV.cl, VV.nN, rfl, tN, _, rfl, .inr (SqT.of hN), rfl, by decide, _, rfl, ?_⟩
    show (if (inV (.str x) ([("t" : Str)].map V.str)) = true then _ else _)
    rw [inV_strs]
    rcases hx with rfl | rfl
    · refine itY (by decide) ?_
      refine ⟨_, rfl, _, rfl, o, dx, _, rfl, ha, rfl, _, rfl, ?_⟩
      refine ⟨o, gs, _, "t", rfl, hV0, by rw [hg]; decide, fun t ht => ⟨(by show 3 ≤ sizeLine; decide), fun p np => ?_⟩⟩
      exact q p _ _ _ (same_new (fun _ _ e => e) np) np upd_same
    · refine itN (by decide +kernel) ?_
      refine ⟨_, rfl, rfl, fun H1 s1 => ⟨_, rfl, iteT ?_⟩⟩
      refine ⟨_, rfl, _, rfl, "5", 5, rfl, by decide +kernel, by decide +kernel, (by show 3 ≤ sizeLine; decide), fun p np => ?_⟩
      exact q p _ _ _ (st s1 (same_new (fun _ _ e => e) np)) (s1.free np) upd_same
end
end SQ6
namespace SQ6
open PySem L2 SQ
abbrev sRR : Stmt := top 50
/-! ### what a row of tokens says: the groups that are begun, the topmost first -/
def rd : List Str → List (List Str) → Option (List (List Str))
  | [], s => some s
  | t :: ts, s => if t = "[" then rd ts ([] :: s) else if t = "]" then (match s with
    | g :: h :: r => rd ts ((h ++ [qtext (jt g)]) :: r)
    | _ => none) else (match s with
    | g :: r => rd ts ((g ++ [t]) :: r)
    | [] => none)
def isTok (t : Str) : Prop := t = "[" ∨ t = "]" ∨ t = "t" ∨ t = "5"
theorem isTok.tk {t : Str} (h : isTok t) : Tk t := by
  rcases h with rfl | rfl | rfl | rfl <;> exact ⟨by decide +kernel, by decide +kernel, by decide +kernel⟩
theorem isTok.len {t : Str} (h : isTok t) : t.length = 1 := by
  rcases h with rfl | rfl | rfl | rfl <;> decide +kernel
def wt (g : List Str) : Nat := (g.map (·.length)).sum + g.length
def mt (s : List (List Str)) : Nat := (s.map wt).sum + 2 * s.length
theorem wt_snoc (g : List Str) (x : Str) : wt (g ++ [x]) = wt g + (x.length + 1) := by
  unfold wt
  simp
  omega
theorem mt_cons (g : List Str) (s : List (List Str)) : mt (g :: s) = wt g + 2 + mt s := by
  unfold mt
  simp
  omega
theorem jt_len (g : List Str) : (jt g).length ≤ wt g := by
  rw [jt_eq]
  have := StrLaws.join_length_le " " g
  have e : (" " : Str).length = 1 := rfl
  rw [e] at this
  unfold wt
  omega
theorem qtext_len (x : Str) : (qtext x).length ≤ x.length + 4 := by
  unfold qtext
  split
  · have : ("[ ]" : Str).length = 3 := by decide +kernel
    omega
  · have l1 : (Str.empty ++ ("[ " : Str)).length = 2 := by decide
    have l2 : (" ]" : Str).length = 2 := rfl
    rw [len_app, len_app, l1, l2]
    omega
/-- the lists that stand for the groups -/
def Gr (H : Hp) (as : List Addr) (s : List (List Str)) : Prop := Paired (fun a g => ∃ ws, H a = some (.lst ws) ∧ Rw H ws g) as s
theorem Gr.same {H H' : Hp} {as : List Addr} {s : List (List Str)} (e : Same H H') (h : Gr H as s) : Gr H' as s := Paired.mapP h fun _ _ ⟨ws, e1, e2⟩ => ⟨ws, e _ _ e1, e2.same e⟩
theorem Gr.put {D : Addr} {H : Hp} {as : List Addr} {s : List (List Str)} {ys zs : List V} (hD : H D = some (.lst ys)) (n : D ∉ as) (h : Gr H as s) : Gr (upd H D (.lst zs)) as s := by
  induction h with
  | nil => exact .nil
  | @cons a g as s r t ih =>
    obtain ⟨ws, e1, e2⟩ := r
    have ne : a ≠ D := fun z => n (z ▸ List.mem_cons_self)
    exact .cons ⟨ws, by rw [upd_ne ne]; exact e1, e2.put hD⟩ (ih fun z => n (List.mem_cons_of_mem _ z))
theorem Gr.len {H : Hp} {as : List Addr} {s : List (List Str)} (h : Gr H as s) : as.length = s.length := Paired.length h
theorem at_last (ws : List V) (v : V) : atI (ws ++ [v]) (-1) = some v := by
  unfold atI
  have e : ixN (ws ++ [v]).length (-1) = some ws.length := by
    unfold ixN
    rw [List.length_append]
    simp
    omega
  rw [e]
  simp
def refs (as : List Addr) : List V := as.reverse.map V.ref
theorem refs_cons (a : Addr) (as : List Addr) : refs (a :: as) = refs as ++ [.ref a] := by
  unfold refs
  rw [List.reverse_cons, List.map_append]
  rfl
theorem refs_len (as : List Addr) : (refs as).length = as.length := by
  unfold refs
  rw [List.length_map, List.length_reverse]
/-- what stands while the row is read -/
structure RS (H0 H : Hp) (b : Addr) (as : List Addr) (s : List (List Str)) : Prop where
  same : Same H0 H
  beg : H b = some (.lst (refs as))
  gr : Gr H as s
  nd : as.Nodup
  nb : b ∉ as
  fa : ∀ a ∈ as, H0 a = none
  fb : H0 b = none
section
variable {H0 H H' : Hp} {b : Addr} {as : List Addr} {s : List (List Str)}
theorem RS.on (r : RS H0 H b as s) (e : Same H H') : RS H0 H' b as s := ⟨st r.same e, e _ _ r.beg, r.gr.same e, r.nd, r.nb, r.fa, r.fb⟩
/-- a group is begun -/
theorem RS.begin_ {a : Addr} (r : RS H0 H b as s) (na : H a = none) : RS H0 (upd (upd H a (.lst [])) b (.lst (refs as ++ [.ref a]))) b (a :: as) ([] :: s) := by
  have s1 : Same H (upd H a (.lst [])) := same_new (fun _ _ e => e) na
  have ab : a ≠ b := (ne_of_none r.beg na).symm
  have naa : a ∉ as := fun m => by
    have h : ∃ g, H a = some g := by
      have hg := r.gr
      clear r s1 ab
      induction hg with
      | nil => cases m
      | @cons c g as s q t ih =>
        rcases List.mem_cons.mp m with e | m
        · obtain ⟨ws, e1, _⟩ := q
          exact ⟨_, e ▸ e1⟩
        · exact ih m
    obtain ⟨g, e⟩ := h
    rw [na] at e
    cases e
  refine ⟨fun c o e => ?_, by rw [upd_same, refs_cons], .cons ⟨[], ?_, .nil⟩ ?_, List.nodup_cons.mpr ⟨naa, r.nd⟩, fun m => ?_, fun c m => ?_, r.fb⟩
  · rw [upd_ne (ne_of_none e r.fb)]
    exact s1 _ _ (r.same _ _ e)
  · rw [upd_ne ab]
    exact upd_same
  · exact (r.gr.same s1).put (s1 _ _ r.beg) r.nb
  · rcases List.mem_cons.mp m with e | m
    · exact ab e.symm
    · exact r.nb m
  · rcases List.mem_cons.mp m with e | m
    · rw [e]
      exact r.same.free na
    · exact r.fa c m
/-- the topmost group goes -/
theorem RS.pop {a : Addr} {g : List Str} (r : RS H0 H b (a :: as) (g :: s)) : RS H0 (upd H b (.lst (refs as))) b as s ∧ ∃ ws, upd H b (.lst (refs as)) a = some (.lst ws) ∧ Rw (upd H b (.lst (refs as))) ws g := by
  obtain ⟨q, t⟩ : (∃ ws, H a = some (.lst ws) ∧ Rw H ws g) ∧ Gr H as s := by
    cases r.gr with
    | cons q t => exact ⟨q, t⟩
  obtain ⟨n1, n2⟩ := List.nodup_cons.mp r.nd
  have nb : b ∉ as := fun m => r.nb (List.mem_cons_of_mem _ m)
  obtain ⟨ws, e1, e2⟩ := q
  have ab : a ≠ b := fun z => r.nb (z ▸ List.mem_cons_self)
  refine ⟨⟨fun c o e => ?_, upd_same, t.put r.beg nb, n2, nb, fun c m => r.fa c (List.mem_cons_of_mem _ m), r.fb⟩, ws, by rw [upd_ne ab]; exact e1, e2.put r.beg⟩
  rw [upd_ne (ne_of_none e r.fb)]
  exact r.same _ _ e
/-- a word is added to the topmost group -/
theorem RS.add {a t : Addr} {g : List Str} {x : Str} {k d : V} {ws : List V} (r : RS H0 H b (a :: as) (g :: s)) (ha : H a = some (.lst ws)) (ht : H t = some (.tup [k, .str x, d])) : RS H0 (upd H a (.lst (ws ++ [.ref t]))) b (a :: as) ((g ++ [x]) :: s) := by
  obtain ⟨q, tl⟩ : (∃ ws, H a = some (.lst ws) ∧ Rw H ws g) ∧ Gr H as s := by
    cases r.gr with
    | cons q t => exact ⟨q, t⟩
  obtain ⟨ws', e1, e2⟩ := q
  obtain rfl : ws = ws' := by
    rw [ha] at e1
    exact HO.lst.inj (Option.some.inj e1)
  obtain ⟨n1, n2⟩ := List.nodup_cons.mp r.nd
  have ab : b ≠ a := fun z => r.nb (z ▸ List.mem_cons_self)
  refine ⟨fun c o e => ?_, by rw [upd_ne ab]; exact r.beg, .cons ⟨_, upd_same, (e2.snoc ⟨t, k, d, rfl, ht⟩).put ha⟩ (tl.put ha n1), r.nd, r.nb, r.fa, r.fb⟩
  rw [upd_ne (ne_of_none e (r.fa a List.mem_cons_self))]
  exact r.same _ _ e
end
end SQ6
namespace SQ6
open PySem L2 SQ
theorem Vc.same {C o : Addr} {H H' : Hp} {gs : List G3} {ys : List Str} (s : Same H H') (h : Vc C H o gs ys) : Vc C H' o gs ys := by
  obtain ⟨dx, dA, tN, kvs, e1, e2, e3, e4⟩ := h
  exact ⟨dx, dA, tN, kvs, s _ _ e1, s _ _ e2, s _ _ e3, e4.same s⟩
def tw (ts : List Str) : Nat := (ts.map (·.length)).sum + 2 * ts.length
theorem tw_snoc (ts : List Str) (x : Str) : tw (ts ++ [x]) = tw ts + (x.length + 2) := by
  unfold tw
  simp
  omega
theorem rd_len : ∀ {ts : List Str} {s : List (List Str)} {u : List (List Str)}, rd ts s = some u → s ≠ [] → u ≠ []
  | [], s, u, h, n => by
    cases h
    exact n
  | t :: ts, s, u, h, n => by
    unfold rd at h
    split at h
    · exact rd_len h (by simp)
    split at h
    · match s, h with
      | g :: g2 :: r, h => exact rd_len h (by simp)
    · match s, h with
      | g :: r, h => exact rd_len h (by simp)
theorem rd_open (ts : List Str) (s : List (List Str)) : rd ("[" :: ts) s = rd ts ([] :: s) := by
  conv => lhs; unfold rd
  exact if_pos rfl
theorem rd_close {ts : List Str} {s : List (List Str)} {u : List (List Str)} (h : rd ("]" :: ts) s = some u) : ∃ g k r, s = g :: k :: r ∧ rd ts ((k ++ [qtext (jt g)]) :: r) = some u := by
  conv at h => lhs; unfold rd
  rw [if_neg (by decide +kernel), if_pos rfl] at h
  match s, h with
  | g :: k :: r, h => exact ⟨g, k, r, rfl, h⟩
theorem rd_word {t : Str} {ts : List Str} {s : List (List Str)} {u : List (List Str)} (c1 : ¬ t = "[") (c2 : ¬ t = "]") (h : rd (t :: ts) s = some u) : ∃ g r, s = g :: r ∧ rd ts ((g ++ [t]) :: r) = some u := by
  conv at h => lhs; unfold rd
  rw [if_neg c1, if_neg c2] at h
  match s, h with
  | g :: r, h => exact ⟨g, r, rfl, h⟩
section
variable {P : Program} {w : World} {K : PySem.W.Frag} {mg : Str → Option Value} {base : Heap} {C tC : Addr}
def spRR (C : Addr) : Sp := fun vs H Q _ => ∃ (ts : List Str) (o : Addr) (gs : List G3) (xs : List Str), vs = [.str (jt ts), .ref o] ∧ Vc C H o gs [("t" : Str)] ∧ gnames gs = [("t" : Str)] ∧ (∀ t ∈ ts, isTok t) ∧ ts.length ≤ 200 ∧ rd ts [[]] = some [xs] ∧
  ∀ (p : Addr) (ws : List V) (H' : Hp), Same H H' → H' p = some (.tup ws) → Rw H' ws xs → Q (.ref p) H'
theorem scRR : FnScope ["text", "vocabulary", "begun", "token", "word"] ["text", "vocabulary"] (defScope sRR) := ⟨rfl, rfl, rfl, by decide +kernel, rfl, by decide +kernel, by decide +kernel⟩
structure R6 (P : Program) (w : World) (K : PySem.W.Frag) (mg : Str → Option Value) (base : Heap) (C fS fQ fW : Addr) (dS dQ dW : FuncData) : Prop where
  gS : mg "split_tokens" = some (.ref fS)
  kS : PySem.W.keepIn K (.ref fS) = true
  bS : Binds K dS ["text"] []
  GS : FnOk P w K mg base CX0 1 fS dS ["text"] spSp
  gQ : mg "quote" = some (.ref fQ)
  kQ : PySem.W.keepIn K (.ref fQ) = true
  bQ : Binds K dQ ["row"] []
  GQ : FnOk P w K mg base CX0 2 fQ dQ ["row"] spQu
  gW : mg "read_word" = some (.ref fW)
  kW : PySem.W.keepIn K (.ref fW) = true
  bW : Binds K dW ["token", "vocabulary"] []
  GW : FnOk P w K mg base CX0 3 fW dW ["token", "vocabulary"] (spWd C)
theorem tw_le {ts : List Str} (h : ∀ t ∈ ts, isTok t) : tw ts = 3 * ts.length := by
  induction ts with
  | nil => rfl
  | cons t ts ih =>
    have h1 := (h t List.mem_cons_self).len
    have h2 := ih fun y hy => h y (List.mem_cons_of_mem _ hy)
    unfold tw at h2 ⊢
    simp only [List.map_cons, List.sum_cons, List.length_cons]
    omega
theorem jtl {ts : List Str} (h : ∀ t ∈ ts, isTok t) (hl : ts.length ≤ 200) : (jt ts).length ≤ 10000 := by
  have h1 := jt_len ts
  have h2 := tw_le h
  unfold wt at h1
  unfold tw at h2
  omega
theorem ok_rr {f fS fQ fW : Addr} {fd dS dQ dW : FuncData} (F : Fun K "read_row" "read_row" sRR f fd) (B : B2 mg) (R : R6 P w K mg base C fS fQ fW dS dQ dW) : FnOk P w K mg base CX0 4 f fd ["text", "vocabulary"] (spRR C) := by
  refine F.ok scRR (fun vs H Q E h => ?_) (fun cdv A outer s H vs Q E hr h => ?_)
  · obtain ⟨ts, o, gs, xs, rfl, _⟩ := h
    rfl
  · obtain ⟨ts, o, gs, xs, rfl, hV, hg, ht, hl, hrd, q⟩ := h
    have line : ∀ {n : Nat}, n ≤ 1000 → n < sizeLine := fun h => small1000 h
    refine ⟨_, pss_cons (ps_set (i := 2) scRR.nd rfl (.inl rfl) (pe_lst (pa_cons (pe_lst pa_nil) pa_nil)))
      (pss_cons (ps_for PassesOwn.never rfl (pi_list (pe_call R.GS (hr.mono (by decide)) rfl R.gS R.kS R.bS .nil pass0 (pa_cons (pv 0) pa_nil))) (pg_name (i := 3) scRR.nd rfl (.inl rfl))
        (pss_cons (ps_if (pt_cmpR op_eq (pv 3) pe_str (nomark _)) (pss_cons (ps_expr (pe_bm PySem.F.plainAttrs_list PySem.F.slot_list_append PySem.F.type_list_append mt_append (pv 2) (pa_cons (pe_lst pa_nil) pa_nil))) (pss_one ps_continue)) pss_nil)
        (pss_cons (ps_if (pt_cmpR op_eq (pv 3) pe_str (nomark _))
          (pss_one (ps_set (i := 4) scRR.nd rfl (.inl rfl) (pe_ifExp (pt_cmpR op_gt (pe_callB call_len_seq (by rfl) B.len PySem.boot_len (pa_cons (pv 2) pa_nil)) pe_int (nomark _)) (pe_call R.GQ (hr.mono (by decide)) rfl R.gQ R.kQ R.bQ .nil pass0 (pa_cons (pe_callTy call_tuple_of (by rfl) B.tuple (by decide +kernel) (pa_cons (pe_bm0 PySem.F.plainAttrs_list PySem.F.slot_list_pop PySem.F.type_list_pop mt_pop (pv 2)) pa_nil)) pa_nil)) pe_non)))
          (pss_one (ps_set (i := 4) scRR.nd rfl (.inl rfl) (pe_call R.GW (hr.mono (by decide)) rfl R.gW R.kW R.bW .nil pass0 (pa_cons (pv 3) (pa_cons (pv 1) pa_nil))))))
        (pss_cons (ps_if (pt_cmpR op_isN (pv 4) pe_non (nomark _)) (pss_one (ps_ret pe_non)) pss_nil)
        (pss_one (ps_expr (pe_bm PySem.F.plainAttrs_list PySem.F.slot_list_append PySem.F.type_list_append mt_append (pe_ix ix_list (pv 2) (pe_un un_neg pe_int) (fun _ _ => rfl)) (pa_cons (pv 4) pa_nil))))))))
      (pss_one (ps_ret (pe_ifExp (pt_cmpR op_eq (pe_callB call_len_seq (by rfl) B.len PySem.boot_len (pa_cons (pv 2) pa_nil)) pe_int (nomark _)) (pe_callTy call_tuple_of (by rfl) B.tuple (by decide +kernel) (pa_cons (pe_ix ix_list (pv 2) pe_int (fun _ _ => rfl)) pa_nil)) pe_non)))), ?_⟩
    refine ⟨(by show 0 ≤ sizeLine; decide), fun a0 n0 => ⟨(by show 1 ≤ sizeLine; decide), fun b nb => ?_⟩⟩
    have b0 : b ≠ a0 := (ne_of_none upd_same nb).symm
    have fb : H b = none := (same_new (fun _ _ e => e : Same H H) n0).free nb
    have RS0 : RS H (upd (upd H a0 (.lst [])) b (.lst [.ref a0])) b [a0] [[]] := by
      refine ⟨same_new (same_new (fun _ _ e => e) n0) nb, upd_same, .cons ⟨[], by rw [upd_ne b0.symm]; exact upd_same, .nil⟩ .nil, by simp, by simpa using b0, fun c m => ?_, fb⟩
      rw [List.mem_singleton.mp m]
      exact n0
    generalize upd (upd H a0 (.lst [])) b (.lst [.ref a0]) = G0 at RS0 ⊢
    refine ⟨_, rfl, ts, rfl, fun t h => (ht t h).tk, jtl ht hl, fun p np => ?_⟩
    have s1 : Same G0 (upd G0 p (.lst (ts.map V.str))) := same_new (fun _ _ e => e) np
    have hp1 : upd G0 p (.lst (ts.map V.str)) p = some (.lst (ts.map V.str)) := upd_same
    have hpH : H p = none := RS0.same.free np
    have RS1 := RS0.on s1
    generalize upd G0 p (.lst (ts.map V.str)) = G1 at s1 hp1 RS1 ⊢
    have pb : p ≠ b := fun z => by
      have e := RS0.beg
      rw [← z, np] at e
      cases e
    refine ⟨p, rfl, ⟨_, SqL.of hp1⟩, for_list (K := K) (a := p) (xs := ts.map V.str) (fun i σ G => ∃ (as : List Addr) (sg : List (List Str)) (v3 v4 : Option V), σ = [some (.str (jt ts)), some (.ref o), some (.ref b), v3, v4] ∧ RS H G b as sg ∧ p ∉ as ∧ G p = some (.lst (ts.map V.str)) ∧ rd (ts.drop i) sg = some [xs] ∧ mt sg ≤ 2 + tw (ts.take i))
      ⟨[a0], [[]], _, _, rfl, RS1, ?_, hp1, hrd, ?_⟩ (fun i σ G _ ⟨_, _, _, _, _, _, _, e, _⟩ => SqL.of e) ?_ ?_⟩
    · intro m
      rw [List.mem_singleton.mp m] at np
      have e := RS0.gr
      cases e with
      | cons q t =>
        obtain ⟨ws, e1, _⟩ := q
        rw [np] at e1
        cases e1
    · exact Nat.le_trans (by decide : mt [[]] ≤ 2) (Nat.le_add_right _ _)
    · rintro i x σ G hi ⟨as, sg, v3, v4, rfl, R', pn, hp, hr', hm⟩
      rw [List.getElem?_map] at hi
      cases hti : ts[i]? with
      | none =>
        rw [hti] at hi
        cases hi
      | some t =>
        rw [hti] at hi
        cases hi
        have it : isTok t := ht t (List.mem_of_getElem? hti)
        obtain ⟨il, ie⟩ := List.getElem?_eq_some_iff.mp hti
        have ed : ts.drop i = t :: ts.drop (i + 1) := by
          rw [List.drop_eq_getElem_cons il, ie]
        rw [ed] at hr'
        have et : ts.take (i + 1) = ts.take i ++ [t] := take_more hti
        have twi : tw (ts.take (i + 1)) = tw (ts.take i) + 3 := by rw [et, tw_snoc, it.len]
        have lm : tw (ts.take i) ≤ 600 := by
          rw [tw_le fun y hy => ht y (List.mem_of_mem_take hy), List.length_take]
          omega
        have al := R'.gr.len
        have sl : 2 * sg.length ≤ mt sg := Nat.le_add_left _ _
        have hVG := Vc.same R'.same hV
        refine ⟨_, rfl, rfl, _, rfl, ?_⟩
        by_cases c1 : t = "["
        · subst c1
          refine itY rfl ?_
          rw [rd_open] at hr'
          refine ⟨_, rfl, .inl ⟨rfl, _, SqL.of R'.beg⟩, (by show 0 ≤ sizeLine; decide), fun a na => ?_⟩
          have s2 : Same G (upd G a (.lst [])) := same_new (fun _ _ e => e) na
          refine ⟨b, _, _, rfl, rfl, s2 _ _ R'.beg, line (by rw [refs_len]; omega), ?_⟩
          refine ⟨a :: as, [] :: sg, _, _, rfl, R'.begin_ na, fun m => ?_, ?_, hr', ?_⟩
          · rcases List.mem_cons.mp m with e | m
            · exact ne_of_none hp na e
            · exact pn m
          · rw [upd_ne pb]
            exact s2 _ _ hp
          · rw [mt_cons, twi]
            have : wt [] = 0 := rfl
            omega
        refine itN (fun z => c1 (V.str.inj z)) ?_
        refine ⟨_, rfl, rfl, _, rfl, ?_⟩
        by_cases c2 : t = "]"
        · subst c2
          refine itY rfl ?_
          obtain ⟨g, h, r, rfl, hr2⟩ := rd_close hr'
          match as, R', pn, al with
          | a :: a2 :: as', R', pn, al =>
          refine ⟨_, rfl, b, _, rfl, .inl (SqL.of R'.beg), _, _, rfl, rfl, _, rfl, ?_⟩
          refine itY (by rw [refs_len]; simp only [List.length_cons]; omega) ?_
          have eb := refs_cons a (a2 :: as')
          refine ⟨_, rfl, .inl ⟨rfl, _, SqL.of R'.beg⟩, b, _, .ref a, rfl, rfl, R'.beg, by rw [eb]; simp, ?_⟩
          have ep : (refs (a :: a2 :: as')).dropLast = refs (a2 :: as') := by rw [eb, List.dropLast_concat]
          rw [ep]
          obtain ⟨R2, ws, e1, e2⟩ := R'.pop
          have hp2 : upd G b (.lst (refs (a2 :: as'))) p = some (.lst (ts.map V.str)) := by rw [upd_ne pb]; exact hp
          generalize upd G b (.lst (refs (a2 :: as'))) = G2 at R2 e1 e2 hp2 ⊢
          refine ⟨a, _, rfl, .inl ⟨SqL.of e1, fun l nl => ?_⟩⟩
          have s3 : Same G2 (upd G2 l (.tup ws)) := same_new (fun _ _ e => e) nl
          have h3 : upd G2 l (.tup ws) l = some (.tup ws) := upd_same
          generalize upd G2 l (.tup ws) = G3 at s3 h3 ⊢
          rw [mt_cons, mt_cons] at hm
          have jl := jt_len g
          have gl : (g.map (·.length)).sum + g.length = wt g := rfl
          dsimp only [tNil]
          refine ⟨l, ws, g, rfl, h3, e2.same s3, by omega, by omega, by omega, fun t4 G4 s4 n4 h4 => ?_⟩
          have R4 := (R2.on s3).on s4
          refine ⟨_, rfl, rfl, _, rfl, itN (fun z => nomatch z) ?_⟩
          obtain ⟨ws2, e5⟩ : ∃ ws2, G4 a2 = some (.lst ws2) := by
            cases R4.gr with
            | cons q _ =>
              obtain ⟨ws2, e, _⟩ := q
              exact ⟨ws2, e⟩
          refine ⟨_, rfl, 1, rfl, b, _, _, .ref a2, rfl, rfl, SqL.of R4.beg, by rw [refs_cons]; exact at_last _ _, .inl ⟨rfl, _, SqL.of e5⟩, _, rfl, a2, _, _, rfl, rfl, e5, ?_, ?_⟩
          · have hl2 : ws2.length = h.length := by
              cases R4.gr with
              | cons q _ =>
                obtain ⟨ws', e, er⟩ := q
                rw [e5] at e
                cases e
                exact er.len
            have : h.length ≤ wt h := Nat.le_add_left _ _
            exact line (by omega)
          · refine ⟨a2 :: as', _, _, _, rfl, R4.add e5 h4, fun m => pn (List.mem_cons_of_mem _ m), ?_, hr2, ?_⟩
            · rw [upd_ne (show p ≠ a2 from fun z => pn (by rw [z]; exact List.mem_cons_of_mem _ List.mem_cons_self))]
              exact s4 _ _ (s3 _ _ hp2)
            · have ql := qtext_len (jt g)
              rw [mt_cons, wt_snoc, twi]
              omega
        · refine itN (fun z => c2 (V.str.inj z)) ?_
          obtain ⟨g, r, rfl, hr2⟩ := rd_word c1 c2 hr'
          match as, R', pn, al with
          | a :: as', R', pn, al =>
          refine ⟨_, rfl, _, rfl, t, o, gs, rfl, hVG, hg, ?_, fun t4 k4 d4 G4 s4 n4 h4 => ?_⟩
          · rcases it with e | e | e | e
            · exact absurd e c1
            · exact absurd e c2
            · exact .inl e
            · exact .inr e
          have R4 := R'.on s4
          refine ⟨_, rfl, rfl, _, rfl, itN (fun z => nomatch z) ?_⟩
          obtain ⟨ws2, e5⟩ : ∃ ws2, G4 a = some (.lst ws2) := by
            cases R4.gr with
            | cons q _ =>
              obtain ⟨ws2, e, _⟩ := q
              exact ⟨ws2, e⟩
          refine ⟨_, rfl, 1, rfl, b, _, _, .ref a, rfl, rfl, SqL.of R4.beg, by rw [refs_cons]; exact at_last _ _, .inl ⟨rfl, _, SqL.of e5⟩, _, rfl, a, _, _, rfl, rfl, e5, ?_, ?_⟩
          · rw [mt_cons] at hm
            have hl2 : ws2.length = g.length := by
              cases R4.gr with
              | cons q _ =>
                obtain ⟨ws', e, er⟩ := q
                rw [e5] at e
                cases e
                exact er.len
            have : g.length ≤ wt g := Nat.le_add_left _ _
            exact line (by omega)
          · refine ⟨a :: as', _, _, _, rfl, R4.add e5 h4, pn, ?_, hr2, ?_⟩
            · rw [upd_ne (show p ≠ a from fun z => pn (by rw [z]; exact List.mem_cons_self))]
              exact s4 _ _ hp
            · rw [mt_cons] at hm
              have := it.len
              rw [mt_cons, wt_snoc, twi]
              omega
    · rintro σ G ⟨as, sg, v3, v4, rfl, R', pn, hp, hr', hm⟩
      rw [List.length_map, List.drop_length] at hr'
      cases hr'
      match as, R', R'.gr.len with
      | [a], R', _ =>
      refine ⟨_, rfl, b, _, rfl, .inl (SqL.of R'.beg), rfl, _, rfl, ?_⟩
      refine itY rfl ?_
      obtain ⟨ws, e1, e2⟩ : ∃ ws, G a = some (.lst ws) ∧ Rw G ws xs := by
        cases R'.gr with
        | cons q _ => exact q
      refine ⟨_, rfl, b, _, _, _, rfl, rfl, SqL.of R'.beg, atI_nat (j := 0) rfl, a, _, rfl, .inl ⟨SqL.of e1, fun l nl => ?_⟩⟩
      have s3 : Same G (upd G l (.tup ws)) := same_new (fun _ _ e => e) nl
      exact q l ws _ (st R'.same s3) upd_same (e2.same s3)
end
end SQ6
/-! own errors without an argument: raised, looked at in a suite; errors by their facts. -/
namespace SQ
open PySem PySem.Spec PyProof.Rows L2
/-- an error class with one field, as the top has made it -/
structure ErX (K : PySem.W.Frag) (mg : Str → Option Value) (x : Str) (C fI : Addr) (f : Str) (bmB : List Value) (newId : String) : Prop where
  g : mg x = some (.ref C)
  T : ErrC K C f bmB newId
  J : ErrI K C fI f
  ty : PySem.W.typeIn K (.ref C) = some (.type "type")
/-- an error class without one -/
structure Er0 (K : PySem.W.Frag) (mg : Str → Option Value) (x : Str) (C : Addr) (bmB : List Value) (newId : String) : Prop where
  g : mg x = some (.ref C)
  ex : PySem.W.excIn K C bmB newId = true
  kp : PySem.W.keepIn K (.ref C) = true
  sb : PySem.W.subIn K (.ref C) (.type "BaseException") = some true
  ty : PySem.W.typeIn K (.ref C) = some (.type "type")
  isc : IsC K C
section
variable {X : Cx} {C : Addr} {x : Str} {B newId initId : String} {bmB : List Value} {p pos : Pos}
theorem pmk_own0 (FB : ExcBaseFacts B newId initId bmB) (Z : Er0 X.K X.mg x C bmB newId) (hg : Gl X x) (hdb : (x == ("__debug__" : Str)) = false := by decide) : PMk X (.Call (.Name x p) [] [] pos) (fun _ H Q => Q (.ref C) none H) := by
  intro pins s σ H Q I h
  refine wpAny_Call_Name_kw (ld_glob I hg Z.g (PySem.W.callWith_K0 I.kIn Z.kp ?_) hdb)
  show wpAny _ _ (call (.ref C) []) _ _ _
  obtain ⟨bm, N, nm, qn, bs, hdct, sn, sub, ab, col, dd, k0, k1, k2, k3, k5, mN, hC, hN, hni, T⟩ := exc_obj I.kIn Z.ex
  exact wpAny_call_exc_subT FB T hC hN hni (fun h' a hm => mk_of I hm (raises_own Z.sb Z.ty) h (I.hok.gone hm.new)) (Nat.zero_le _)
variable {a : Addr} {oe : Obj} {cls : Value} {d : Option Addr} {pn : List (Addr × Obj)}
/-- isinstance(err, c), err without an own dict -/
theorem cr_heldIs0 (W : IsF X.K) (hz : Zc cls d oe) (hf : ∃ vs, oe.data = .fields vs) : CallR (X.suite a ((a, oe) :: pn)) (.builtin "isinstance")
    (fun xs H Q => ∃ (c : V) (u : Value) (b : Bool) (C : Addr), xs = [.ref a, c] ∧ cls = .ref C ∧ d = none ∧ IsC X.K C ∧ (∀ z, RelV c z → z = u) ∧ PySem.W.kitOne X.K (.ref C) u = some b ∧ Q (.bl b) H) := by
  intro pins s σ H xs us Q I r h
  obtain ⟨c, u, b, C, rfl, rfl, rfl, T, hc, e, q⟩ := h
  obtain ⟨u1, u2, rfl, r1, r2⟩ := vals2 r
  obtain rfl : u1 = Value.ref a := r1
  have e2 := hc _ r2
  subst e2
  obtain ⟨vs, hv⟩ := hf
  obtain ⟨ha, _⟩ := I.pin (a, oe) (List.mem_append_left _ List.mem_cons_self)
  have J : PySem.W.InstAt s.heap a oe C none := ⟨ha, hz.1, by unfold PySem.W.notCls; rw [hv] <;> rfl, by rw [hz.2]; trivial⟩
  exact PySem.W.kia_one (PySem.W.kitx_exc T.cl T.ga T.gg T.ex T.ca W.gt W.tk T.ob) I.kIn J e (fun z => nomatch z) fun tk => ⟨.bl b, H, I.tok tk, rfl, q⟩
end
end SQ
namespace SQ6
open PySem L2 SQ
abbrev sMs : Stmt := top 51
abbrev sMd : Stmt := top 52
abbrev sCv : Stmt := top 54
abbrev sCl : Stmt := top 58
abbrev bmV : List Value := [.type "ValueError", .type "Exception", .type "BaseException", .type "object"]
abbrev bmA : List Value := [.type "ArithmeticError", .type "Exception", .type "BaseException", .type "object"]
abbrev bmT : List Value := [.type "TypeError", .type "Exception", .type "BaseException", .type "object"]
def sizeT (ts : List Str) : Int := (ts.length : Int) - (ts.count ("]" : Str) : Nat)
def dstep (a : Int × Int) (t : Str) : Int × Int := if t = "[" then (a.1 + 1, if a.1 + 1 > a.2 then a.1 + 1 else a.2) else if t = "]" then (a.1 - 1, a.2) else a
def depthT (ts : List Str) : Int := (ts.foldl dstep (0, 0)).2
section
variable {P : Program} {w : World} {K : PySem.W.Frag} {mg : Str → Option Value} {base : Heap} {C : Addr}
def spMs : Sp := fun vs H Q _ => ∃ ts : List Str, vs = [.str (jt ts)] ∧ (∀ t ∈ ts, isTok t) ∧ ts.length ≤ 200 ∧ ∀ H', Same H H' → Q (.int (sizeT ts)) H'
theorem scMs : FnScope ["text", "tokens"] ["text"] (defScope sMs) := ⟨rfl, rfl, rfl, by decide +kernel, rfl, by decide +kernel, by decide +kernel⟩
theorem ok_ms {f fS : Addr} {fd dS : FuncData} (F : Fun K "measure_size" "measure_size" sMs f fd) (B : B2 mg) (gS : mg "split_tokens" = some (.ref fS)) (kS : PySem.W.keepIn K (.ref fS) = true) (bS : Binds K dS ["text"] []) (GS : FnOk P w K mg base CX0 1 fS dS ["text"] spSp) : FnOk P w K mg base CX0 2 f fd ["text"] spMs := by
  refine F.ok scMs (fun vs H Q E h => ?_) (fun cdv A outer s H vs Q E hr h => ?_)
  · obtain ⟨ts, rfl, _⟩ := h
    rfl
  · obtain ⟨ts, rfl, ht, hl, q⟩ := h
    refine ⟨_, pss_cons (ps_set (i := 1) scMs.nd rfl (.inl rfl) (pe_call GS hr rfl gS kS bS .nil pass0 (pa_cons (pv 0) pa_nil)))
      (pss_one (ps_ret (pe_op op_sub (pe_callB call_len_seq (by rfl) B.len PySem.boot_len (pa_cons (pv 1) pa_nil)) (pe_bm PySem.F.plainAttrs_list PySem.F.slot_list_count PySem.F.type_list_count mt_countS (pv 1) (pa_cons pe_str pa_nil))))), ?_⟩
    refine ⟨_, rfl, ts, rfl, fun t h => (ht t h).tk, jtl ht hl, fun p np => ?_⟩
    refine ⟨_, rfl, p, _, rfl, .inl (SqL.of upd_same), _, rfl, .inl ⟨rfl, _, SqL.of upd_same⟩, p, ts, _, rfl, rfl, SqL.of upd_same, _, _, rfl, rfl, ?_⟩
    rw [List.length_map]
    exact q _ (same_new (fun _ _ e => e) np)
def spMd : Sp := fun vs H Q _ => ∃ ts : List Str, vs = [.str (jt ts)] ∧ (∀ t ∈ ts, isTok t) ∧ ts.length ≤ 200 ∧ ∀ H', Same H H' → Q (.int (depthT ts)) H'
theorem scMd : FnScope ["text", "depth", "deepest", "token"] ["text"] (defScope sMd) := ⟨rfl, rfl, rfl, by decide +kernel, rfl, by decide +kernel, by decide +kernel⟩
theorem ok_md {f fS : Addr} {fd dS : FuncData} (F : Fun K "measure_depth" "measure_depth" sMd f fd) (BL : Blt mg) (gS : mg "split_tokens" = some (.ref fS)) (kS : PySem.W.keepIn K (.ref fS) = true) (bS : Binds K dS ["text"] []) (GS : FnOk P w K mg base CX0 1 fS dS ["text"] spSp) : FnOk P w K mg base CX0 2 f fd ["text"] spMd := by
  refine F.ok scMd (fun vs H Q E h => ?_) (fun cdv A outer s H vs Q E hr h => ?_)
  · obtain ⟨ts, rfl, _⟩ := h
    rfl
  · obtain ⟨ts, rfl, ht, hl, q⟩ := h
    refine ⟨_, pss_cons (ps_asg2 pe_int (pg_name (i := 1) scMd.nd rfl (.inl rfl)) (pg_name (i := 2) scMd.nd rfl (.inl rfl)))
      (pss_cons (ps_for PassesOwn.never rfl (pi_list (pe_call GS hr rfl gS kS bS .nil pass0 (pa_cons (pv 0) pa_nil))) (pg_name (i := 3) scMd.nd rfl (.inl rfl))
        (pss_one (ps_if (pt_cmpR op_eq (pv 3) pe_str (nomark _)) (pss_cons (ps_aug (i := 1) scMd.nd rfl (.inl rfl) pe_int ip_add) (pss_one (ps_set (i := 2) scMd.nd rfl (.inl rfl) (pe_callB (call_max2 rfl) (by rfl) BL.max (by decide +kernel) (pa_cons (pv 2) (pa_cons (pv 1) pa_nil))))))
          (pss_one (ps_if (pt_cmpR op_eq (pv 3) pe_str (nomark _)) (pss_one (ps_aug (i := 1) scMd.nd rfl (.inl rfl) pe_int ip_sub)) pss_nil)))))
      (pss_one (ps_ret (pv 2)))), ?_⟩
    refine ⟨_, rfl, ts, rfl, fun t h => (ht t h).tk, jtl ht hl, fun p np => ?_⟩
    have s1 : Same H (upd H p (.lst (ts.map V.str))) := same_new (fun _ _ e => e) np
    have hp1 : upd H p (.lst (ts.map V.str)) p = some (.lst (ts.map V.str)) := upd_same
    generalize upd H p (.lst (ts.map V.str)) = G1 at s1 hp1 ⊢
    refine ⟨p, rfl, ⟨_, SqL.of hp1⟩, for_list (K := K) (a := p) (xs := ts.map V.str) (fun i σ G => ∃ v3, σ = [some (.str (jt ts)), some (.int ((ts.take i).foldl dstep (0, 0)).1), some (.int ((ts.take i).foldl dstep (0, 0)).2), v3] ∧ G = G1)
      ⟨_, rfl, rfl⟩ (fun i σ G _ ⟨_, _, e⟩ => by rw [e]; exact SqL.of hp1) ?_ ?_⟩
    · rintro i x σ G hi ⟨v3, rfl, rfl⟩
      rw [List.getElem?_map] at hi
      cases hti : ts[i]? with
      | none =>
        rw [hti] at hi
        cases hi
      | some t =>
        rw [hti] at hi
        cases hi
        have et : (ts.take (i + 1)).foldl dstep (0, 0) = dstep ((ts.take i).foldl dstep (0, 0)) t := by
          rw [take_more hti, List.foldl_append]
          rfl
        rw [et]
        generalize (ts.take i).foldl dstep (0, 0) = a
        obtain ⟨d, m⟩ := a
        refine ⟨_, rfl, rfl, _, rfl, ?_⟩
        unfold dstep
        by_cases c1 : t = "["
        · rw [if_pos c1]
          subst c1
          refine itY rfl ?_
          refine ⟨_, rfl, _, _, rfl, rfl, _, rfl, _, rfl, _, _, rfl, ?_⟩
          exact ⟨_, rfl, rfl⟩
        rw [if_neg c1]
        refine itN (fun z => c1 (V.str.inj z)) ?_
        refine ⟨_, rfl, rfl, _, rfl, ?_⟩
        by_cases c2 : t = "]"
        · rw [if_pos c2]
          subst c2
          refine itY rfl ?_
          refine ⟨_, rfl, _, _, rfl, rfl, ?_⟩
          exact ⟨_, rfl, rfl⟩
        · rw [if_neg c2]
          refine itN (fun z => c2 (V.str.inj z)) ?_
          exact ⟨_, rfl, rfl⟩
    · rintro σ G ⟨v3, rfl, rfl⟩
      rw [List.length_map, List.take_length]
      exact ⟨_, rfl, q _ s1⟩
/-! ### the limits -/
def spCl (CL CD : Addr) : Sp := fun vs H Q E => ∃ n m : Int, vs = [.int n, .int m] ∧ (60 < n → ∀ d H', Same H H' → H d = none → H' d = some (.xd [("limit", .int 60)]) → E (.ref CL) (some d) H') ∧ (¬ 60 < n → 6 < m → ∀ d H', Same H H' → H d = none → H' d = some (.xd [("limit", .int 6)]) → E (.ref CD) (some d) H') ∧ (¬ 60 < n → ¬ 6 < m → Q .non H)
theorem scCl : FnScope ["size", "depth"] ["size", "depth"] (defScope sCl) := ⟨rfl, rfl, rfl, by decide +kernel, rfl, by decide +kernel, by decide +kernel⟩
theorem ok_cl {f CL CD fL fD : Addr} {fd : FuncData} (F : Fun K "check_limits" "check_limits" sCl f fd) (W : W6 mg) (ZL : ErX K mg "TooLarge" CL fL "limit" bmA "ArithmeticError.__new__") (ZD : ErX K mg "TooDeep" CD fD "limit" bmA "ArithmeticError.__new__") : FnOk P w K mg base (L2.CX P w) 2 f fd ["size", "depth"] (spCl CL CD) := by
  refine F.okX scCl (fun vs H Q E h => ?_) (fun cdv A outer s H vs Q E hr h => ?_)
  · obtain ⟨n, m, rfl, _⟩ := h
    rfl
  · obtain ⟨n, m, rfl, k1, k2, k3⟩ := h
    obtain ⟨t1, g1⟩ := W.msz
    obtain ⟨t2, g2⟩ := W.mnd
    refine ⟨_, pss_cons (ps_if (pt_cmpR op_gt (pv 0) (pe_glob (v := .int 60) rfl g1 ⟨_, rfl⟩) (nomark _)) (pss_one (ps_raise rfl (takes_of rfl rfl rfl rfl) (pmk_of5 (pmk5_err (.inr (.inr rfl)) bArith ZL.T ZL.J ZL.ty ZL.g (dp_of hr) rfl (pe_glob (v := .int 60) rfl g1 ⟨_, rfl⟩))))) pss_nil)
      (pss_one (ps_if (pt_cmpR op_gt (pv 1) (pe_glob (v := .int 6) rfl g2 ⟨_, rfl⟩) (nomark _)) (pss_one (ps_raise rfl (takes_of rfl rfl rfl rfl) (pmk_of5 (pmk5_err (.inr (.inr rfl)) bArith ZD.T ZD.J ZD.ty ZD.g (dp_of hr) rfl (pe_glob (v := .int 6) rfl g2 ⟨_, rfl⟩))))) pss_nil)), ?_⟩
    refine ⟨_, rfl, _, _, rfl, rfl, _, rfl, ?_⟩
    by_cases h1 : 60 < n
    · refine itY h1 ?_
      exact fun d nd => k1 h1 d _ (same_new (fun _ _ e => e) nd) nd upd_same
    refine itN h1 ?_
    refine ⟨_, rfl, _, _, rfl, rfl, _, rfl, ?_⟩
    by_cases h2 : 6 < m
    · refine itY h2 ?_
      exact fun d nd => k2 h1 h2 d _ (same_new (fun _ _ e => e) nd) nd upd_same
    · exact itN h2 (k3 h1 h2)
end
end SQ6
namespace SQ6
open PySem L2 SQ
abbrev sPI_ : Stmt := inClass (top 59) 0
structure IC (K : PySem.W.Frag) (C : Addr) : Prop where
  cl : Cls K C
  ha : PySem.W.findIn K (.ref C) "__class__" = some (some (.builtin "object.__class__"))
  hn : PySem.W.specialIn K (.builtin "object.__class__") "__get__" = some (some (.builtin "getset_descriptor.__get__"))
  htk : PySem.W.takesIn K (.builtin "object.__class__") = some true
  hm : PySem.W.mroIn K C (.type "object") = some true
  self : PySem.W.kitOne K (.ref C) (.ref C) = some true
theorem IC.ty {K : PySem.W.Frag} {C a dx : Addr} {H : Hp} {fs : List (Str × V)} (T : IC K C) (e : H a = some (.ins C dx fs)) : TyX K H (.ref a) (.ref C) := .base (.ins e T.cl T.ha T.hn T.htk T.hm)
/-- the class Program, as the top has made it -/
structure PC (K : PySem.W.Frag) (mg : Str → Option Value) (C : Addr) : Prop where
  g : mg "Program" = some (.ref C)
  cl : Cls K C
  nV : NoAttr K C "vocabulary"
  nT : NoAttr K C "text"
  nR : NoAttr K C "row"
  nW : NoAttr K C "words"
  nS : NoAttr K C "size"
def pfl (o r tW : Addr) (x : Str) (n : Int) : List (Str × V) := putF "size" (.int n) (putF "words" (.ref tW) (putF "row" (.ref r) (putF "text" (.str x) (putF "vocabulary" (.ref o) []))))
/-- a program at p: its vocabulary at o, its tokens ts, its words xs -/
def Pg (CP : Addr) (H : Hp) (p o : Addr) (ts xs : List Str) : Prop := ∃ dx r tW, H p = some (.ins CP dx (pfl o r tW (jt ts) (sizeT ts))) ∧ H tW = some (.tup (xs.map V.str))
theorem Pg.same {CP : Addr} {H H' : Hp} {p o : Addr} {ts xs : List Str} (s : Same H H') (h : Pg CP H p o ts xs) : Pg CP H' p o ts xs := by
  obtain ⟨dx, r, tW, h1, h2⟩ := h
  exact ⟨dx, r, tW, s _ _ h1, s _ _ h2⟩
/-- the texts of the words are no longer than the tokens -/
theorem rd_mt : ∀ {ts : List Str} {s u : List (List Str)}, rd ts s = some u → (∀ t ∈ ts, isTok t) → mt u ≤ mt s + 3 * ts.length
  | [], s, u, h, _ => by
    cases h
    exact Nat.le_add_right _ _
  | t :: ts, s, u, h, ht => by
    have it := ht t List.mem_cons_self
    have ih := fun (s' : List (List Str)) (h' : rd ts s' = some u) => rd_mt h' fun y hy => ht y (List.mem_cons_of_mem _ hy)
    rw [List.length_cons]
    by_cases c1 : t = "["
    · subst c1
      rw [rd_open] at h
      have := ih _ h
      rw [mt_cons] at this
      have e : wt [] = 0 := rfl
      omega
    by_cases c2 : t = "]"
    · subst c2
      obtain ⟨g, k, r, rfl, h2⟩ := rd_close h
      have := ih _ h2
      have ql := qtext_len (jt g)
      have jl := jt_len g
      rw [mt_cons, wt_snoc] at this
      rw [mt_cons, mt_cons]
      omega
    · obtain ⟨g, r, rfl, h2⟩ := rd_word c1 c2 h
      have h3 := ih _ h2
      have h4 := it.len
      rw [mt_cons, wt_snoc] at h3
      rw [mt_cons]
      omega
/-- tokens of the law's programs -/
structure Good (ts xs : List Str) : Prop where
  tok : ∀ t ∈ ts, isTok t
  len : ts.length ≤ 200
  rd : rd ts [[]] = some [xs]
section
variable {P : Program} {w : World} {K : PySem.W.Frag} {mg : Str → Option Value} {base : Heap} {C CP : Addr}
def spCv (C : Addr) : Sp := fun vs H Q _ => ∃ (o dx : Addr) (fs : List (Str × V)), vs = [.ref o] ∧ H o = some (.ins C dx fs) ∧ Q .non H
theorem scCv : FnScope ["value"] ["value"] (defScope sCv) := ⟨rfl, rfl, rfl, by decide +kernel, rfl, by decide +kernel, by decide +kernel⟩
theorem ok_cv {f : Addr} {fd : FuncData} (F : Fun K "check_vocabulary" "check_vocabulary" sCv f fd) (B : B2 mg) (VV : VC K mg C) (T : IC K C) : FnOk P w K mg base CX0 1 f fd ["value"] (spCv C) := by
  refine F.ok scCv (fun vs H Q E h => ?_) (fun cdv A outer s H vs Q E hr h => ?_)
  · obtain ⟨o, dx, fs, rfl, _⟩ := h
    rfl
  · obtain ⟨o, dx, fs, rfl, ho, q⟩ := h
    refine ⟨_, pss_one (ps_if (pt_not (pt_val (pe_callB call_isi (by rfl) B.isi (by decide +kernel) (pa_cons (pv 0) (pa_cons (pe_glob (v := .ref C) rfl VV.g rfl) pa_nil))))) (pss_one ps_never) pss_nil), ?_⟩
    exact ⟨_, rfl, _, _, _, _, true, rfl, .own C, T.ty ho, T.self, _, rfl, iteF q⟩
/-- the ways out of Program(..) -/
structure Lim (CL CD : Addr) (ts : List Str) (H : Hp) (R : Prop) (E : XK) : Prop where
  big : 60 < sizeT ts → ∀ d H', Same H H' → H' d = some (.xd [("limit", .int 60)]) → E (.ref CL) (some d) H'
  deep : ¬ 60 < sizeT ts → 6 < depthT ts → ∀ d H', Same H H' → H' d = some (.xd [("limit", .int 6)]) → E (.ref CD) (some d) H'
  fit : ¬ 60 < sizeT ts → ¬ 6 < depthT ts → R
def spPI (CP C CL CD : Addr) : Sp := fun vs H Q E => ∃ (p o dx : Addr) (gs : List G3) (ts xs : List Str), vs = [.ref p, .ref o, .str (jt ts)] ∧ H p = some (.ins CP dx []) ∧ Vc C H o gs [("t" : Str)] ∧ gnames gs = [("t" : Str)] ∧ Good ts xs ∧
  Lim CL CD ts H (∀ H', But p H H' → Pg CP H' p o ts xs → Q .non H') E
theorem scPr : FnScope ["self", "vocabulary", "text", "row", "size", "word"] ["self", "vocabulary", "text"] (defScope sPI_) := ⟨rfl, rfl, rfl, by decide +kernel, rfl, by decide +kernel, by decide +kernel⟩
/-- what Program.__init__ calls -/
structure I6 (P : Program) (w : World) (K : PySem.W.Frag) (mg : Str → Option Value) (base : Heap) (C CL CD fV fR fM fD fL : Addr) (dV dR dM dD dL : FuncData) : Prop where
  gV : mg "check_vocabulary" = some (.ref fV)
  kV : PySem.W.keepIn K (.ref fV) = true
  bV : Binds K dV ["value"] []
  GV : FnOk P w K mg base CX0 1 fV dV ["value"] (spCv C)
  gR : mg "read_row" = some (.ref fR)
  kR : PySem.W.keepIn K (.ref fR) = true
  bR : Binds K dR ["text", "vocabulary"] []
  GR : FnOk P w K mg base CX0 4 fR dR ["text", "vocabulary"] (spRR C)
  gM : mg "measure_size" = some (.ref fM)
  kM : PySem.W.keepIn K (.ref fM) = true
  bM : Binds K dM ["text"] []
  GM : FnOk P w K mg base CX0 2 fM dM ["text"] spMs
  gD : mg "measure_depth" = some (.ref fD)
  kD : PySem.W.keepIn K (.ref fD) = true
  bD : Binds K dD ["text"] []
  GD : FnOk P w K mg base CX0 2 fD dD ["text"] spMd
  gL : mg "check_limits" = some (.ref fL)
  kL : PySem.W.keepIn K (.ref fL) = true
  bL : Binds K dL ["size", "depth"] []
  GL : FnOk P w K mg base (L2.CX P w) 2 fL dL ["size", "depth"] (spCl CL CD)
theorem ok_pi_ {f CL CD fV fR fM fD fL : Addr} {fd dV dR dM dD dL : FuncData} (F : Fun K "__init__" "Program.__init__" sPI_ f fd) (B : B2 mg) (PV : PC K mg CP) (I : I6 P w K mg base C CL CD fV fR fM fD fL dV dR dM dD dL) : FnOk P w K mg base (L2.CX P w) 5 f fd ["self", "vocabulary", "text"] (spPI CP C CL CD) := by
  refine F.okX scPr (fun vs H Q E h => ?_) (fun cdv A outer s H vs Q E hr h => ?_)
  · obtain ⟨p, o, dx, gs, ts, xs, rfl, _⟩ := h
    rfl
  · obtain ⟨p, o, dx, gs, ts, xs, rfl, hp, hV, hg, G, L⟩ := h
    refine ⟨_, pss_cons (ps_expr (pe_call I.GV (hr.mono (by decide)) rfl I.gV I.kV I.bV .nil pass0 (pa_cons (pv 1) pa_nil)))
      (pss_cons (ps_set (i := 3) scPr.nd rfl (.inl rfl) (pe_ifExp (pt_val (pe_callB call_isi (by rfl) B.isi (by decide +kernel) (pa_cons (pv 2) (pa_cons (pe_bltn (v := .ty "str") (by rfl) B.str (by decide +kernel) rfl) pa_nil)))) (pe_call I.GR hr rfl I.gR I.kR I.bR .nil pass0 (pa_cons (pv 2) (pa_cons (pv 1) pa_nil))) pe_non))
      (pss_cons (ps_if (pt_cmpR op_isN (pv 3) pe_non (nomark _)) (pss_one ps_never) pss_nil)
      (pss_cons (ps_set (i := 4) scPr.nd rfl (.inl rfl) (pe_call I.GM (hr.mono (by decide)) rfl I.gM I.kM I.bM .nil pass0 (pa_cons (pv 2) pa_nil)))
      (pss_cons (ps_expr (pe_call I.GL (hr.mono (by decide)) rfl I.gL I.kL I.bL .nil (passes_call (takes_of rfl rfl rfl rfl) (fun _ _ _ _ h => h)) (pa_cons (pv 4) (pa_cons (pe_call I.GD (hr.mono (by decide)) rfl I.gD I.kD I.bD .nil pass0 (pa_cons (pv 2) pa_nil)) pa_nil))))
      (pss_cons (ps_fld (pv 0) (pv 1) rfl)
      (pss_cons (ps_fld (pv 0) (pv 2) rfl)
      (pss_cons (ps_fld (pv 0) (pv 3) rfl)
      (pss_cons (ps_fld (pv 0) (pe_callTy call_tuple_of (by rfl) B.tuple (by decide +kernel) (pa_cons (pe_lc (own := [("word", 5)]) (g := gName 5) (tt := tYes) rfl scPr.nd (pi_tup (pv 3)) (blkOk_by (N := ["self", "vocabulary", "text", "row", "size", "word"]) (sc := defScope sPI_) (by decide +kernel)) (fun _ _ _ _ _ => pg_name (i := 5) scPr.nd rfl (.inl rfl)) (fun _ _ _ _ _ => pts_nil) (fun _ _ _ _ _ => pe_ix (ixT (K := K) rfl) (pv 5) pe_int (fun _ _ => rfl))) pa_nil)) rfl)
      (pss_one (ps_fld (pv 0) (pv 4) rfl)))))))))), ?_⟩
    have hV0 := hV
    obtain ⟨dv, dA, tN, kvs, ho, _⟩ := hV0
    refine ⟨_, rfl, o, dv, _, rfl, ho, ?_⟩
    refine ⟨_, rfl, .str (jt ts), .ty "str", .type "str", .type "str", true, rfl, .ty "str", .base (.str _), kit_ty (by decide +kernel), _, rfl, iteT ?_⟩
    refine ⟨_, rfl, _, rfl, ts, o, gs, xs, rfl, hV, hg, G.tok, G.len, G.rd, fun r ws H1 s1 h1 hw => ?_⟩
    refine ⟨_, rfl, rfl, _, rfl, itN (fun z => nomatch z) ?_⟩
    refine ⟨_, rfl, ts, rfl, G.tok, G.len, fun H2 s2 => ?_⟩
    refine ⟨_, rfl, _, rfl, ts, rfl, G.tok, G.len, fun H3 s3 => ?_⟩
    have t3 : Same H H3 := st s1 (st s2 s3)
    refine ⟨_, _, rfl, fun b d H' s' _ hd => L.big b d H' (st t3 s') hd, fun b c d H' s' _ hd => L.deep b c d H' (st t3 s') hd, fun b c => ?_⟩
    have q := L.fit b c
    have hp3 := t3 _ _ hp
    have hr3 := s3 _ _ (s2 _ _ h1)
    have hw3 := (hw.same s2).same s3
    refine ⟨_, rfl, _, rfl, p, CP, dx, [], rfl, hp3, PV.cl, PV.nV, (by show 0 < 1000; decide), ?_⟩
    have b4 : But p H3 (upd H3 p (.ins CP dx (putF "vocabulary" (.ref o) []))) := But.refl.put
    have hp4 : upd H3 p (.ins CP dx (putF "vocabulary" (.ref o) [])) p = some (.ins CP dx (putF "vocabulary" (.ref o) [])) := upd_same
    generalize upd H3 p (.ins CP dx (putF "vocabulary" (.ref o) [])) = H4 at b4 hp4 ⊢
    refine ⟨_, rfl, _, rfl, p, CP, dx, _, rfl, hp4, PV.cl, PV.nT, (by show 1 < 1000; decide), ?_⟩
    have b5 : But p H4 (upd H4 p (.ins CP dx (putF "text" (.str (jt ts)) (putF "vocabulary" (.ref o) [])))) := But.refl.put
    have hp5 : upd H4 p (.ins CP dx (putF "text" (.str (jt ts)) (putF "vocabulary" (.ref o) []))) p = some (.ins CP dx (putF "text" (.str (jt ts)) (putF "vocabulary" (.ref o) []))) := upd_same
    generalize upd H4 p (.ins CP dx (putF "text" (.str (jt ts)) (putF "vocabulary" (.ref o) []))) = H5 at b5 hp5 ⊢
    refine ⟨_, rfl, _, rfl, p, CP, dx, _, rfl, hp5, PV.cl, PV.nR, (by show 2 < 1000; decide), ?_⟩
    have b6 : But p H5 (upd H5 p (.ins CP dx (putF "row" (.ref r) (putF "text" (.str (jt ts)) (putF "vocabulary" (.ref o) []))))) := But.refl.put
    have hp6 : upd H5 p (.ins CP dx (putF "row" (.ref r) (putF "text" (.str (jt ts)) (putF "vocabulary" (.ref o) [])))) p = some (.ins CP dx (putF "row" (.ref r) (putF "text" (.str (jt ts)) (putF "vocabulary" (.ref o) [])))) := upd_same
    generalize upd H5 p (.ins CP dx (putF "row" (.ref r) (putF "text" (.str (jt ts)) (putF "vocabulary" (.ref o) [])))) = H6 at b6 hp6 ⊢
    have bb : But p H3 H6 := (b4.trans b5).trans b6
    have rp : r ≠ p := ne_of hr3 hp3 (by intro z; cases z)
    have hr6 : H6 r = some (.tup ws) := bb _ _ hr3 rp
    have hw6 : Rw H6 ws xs := Paired.mapP hw3 fun _ _ ⟨t, k, d, e1, e2⟩ => ⟨t, k, d, e1, bb _ _ e2 (ne_of e2 hp3 (by intro z; cases z))⟩
    have few : xs.length ≤ 700 := by
      have h1 := rd_mt G.rd G.tok
      have h2 : wt xs + 2 + 0 = mt [xs] := (mt_cons xs []).symm
      have h3 := G.len
      have h4 : xs.length ≤ wt xs := Nat.le_add_left _ _
      have h5 : mt [([] : List Str)] = 2 := by decide
      omega
    refine ⟨_, rfl, r, rfl, ⟨_, SqT.of hr6⟩, fun D nD => ?_⟩
    refine lc_tup (K := K) (a := r) (xs := ws) (fun i G => Same H6 G ∧ G D = some (.lst ((xs.take i).map V.str))) ⟨same_new (fun _ _ e => e) nD, upd_same⟩ (fun i G _ h => SqT.of (h.1 _ _ hr6)) ?_ ?_
    · rintro i v G' hi ⟨sG, hD⟩
      obtain ⟨x, hx, t, k, d, rfl, e2⟩ := Paired.at (F := _) hw6 hi
      have hl : (xs.take i).length ≤ 700 := by rw [List.length_take]; omega
      refine ⟨rfl, keptT ⟨_, rfl, t, _, 1, _, rfl, rfl, SqT.of (sG _ _ e2), rfl, _, hD, small1000 (by rw [List.length_map]; omega), ?_, ?_⟩⟩
      · intro b ob e
        rw [upd_ne (ne_of_none e nD)]
        exact sG _ _ e
      · rw [upd_same, take_more hx, List.map_append]
        rfl
    · rintro G' ⟨sG, hD⟩
      have hl : ws.length = xs.length := hw.len
      rw [hl, List.take_length] at hD
      refine ⟨D, _, rfl, .inl ⟨SqL.of hD, fun l nl => ?_⟩⟩
      have s8 : Same G' (upd G' l (.tup (xs.map V.str))) := same_new (fun _ _ e => e) nl
      have h8 : upd G' l (.tup (xs.map V.str)) l = some (.tup (xs.map V.str)) := upd_same
      generalize upd G' l (.tup (xs.map V.str)) = H8 at s8 h8 ⊢
      have hp8 := s8 _ _ (sG _ _ hp6)
      refine ⟨_, rfl, p, CP, dx, _, rfl, hp8, PV.cl, PV.nW, (by show 3 < 1000; decide), ?_⟩
      have b9 : But p H8 (upd H8 p (.ins CP dx (putF "words" (.ref l) (putF "row" (.ref r) (putF "text" (.str (jt ts)) (putF "vocabulary" (.ref o) [])))))) := But.refl.put
      have hp9 : upd H8 p (.ins CP dx (putF "words" (.ref l) (putF "row" (.ref r) (putF "text" (.str (jt ts)) (putF "vocabulary" (.ref o) []))))) p = some (.ins CP dx (putF "words" (.ref l) (putF "row" (.ref r) (putF "text" (.str (jt ts)) (putF "vocabulary" (.ref o) []))))) := upd_same
      generalize upd H8 p (.ins CP dx (putF "words" (.ref l) (putF "row" (.ref r) (putF "text" (.str (jt ts)) (putF "vocabulary" (.ref o) []))))) = H9 at b9 hp9 ⊢
      refine ⟨_, rfl, _, rfl, p, CP, dx, _, rfl, hp9, PV.cl, PV.nS, (by show 4 < 1000; decide), ?_⟩
      have lp : l ≠ p := ne_of h8 hp8 (by intro z; cases z)
      refine q _ ((((Same.but t3).trans bb).trans (Same.but sG)).trans ((Same.but s8).trans (b9.trans But.refl.put))) ⟨dx, r, l, upd_same, ?_⟩
      rw [upd_ne lp]
      exact b9 _ _ h8 lp
end
end SQ6
/-! == of two own instances of one class with __eq__. -/
namespace SQ
open PySem PySem.Spec PyProof.Rows L2
open PySem.W (InstAt findIn isFn subIn)
section
variable {prog : Program} {w : World} {A : Around} {E : Value → Shared → Prop} {s : Shared} {K : PySem.W.Frag} {x y C f : Addr} {ox oy : Obj} {od oe : Option Obj}
theorem rc_eqO {Q : Value → Shared → Prop} (X : K.In s.heap) (I : InstAt s.heap x ox C od) (J : InstAt s.heap y oy C oe) (hu0 : A.units < cLine) (he : findIn K (.ref C) "__eq__" = some (some (.ref f))) (hf : isFn K (.ref f) = true)
    (h : wpAny (model prog w) A (call (.ref f) [.ref x, .ref y]) (fun v s' => ∃ b, v = .bool b ∧ Q v s') E s) : wpAny (model prog w) A (richCompare .Eq (.ref x) (.ref y)) Q E s := by
  have one : wpAny (model prog w) A (tryCompare (.ref x) "__eq__" (.ref y)) (fun r s' => ∃ b, r = some (.bool b) ∧ Q (.bool b) s') E s := by
    unfold tryCompare
    refine wpAny_bind (PySem.W.ifBound_K X I he hf (wpAny_mono h ?_ fun _ _ z => z))
    rintro v s' ⟨b, rfl, q⟩
    exact wpAny_pure ⟨b, rfl, q⟩
  unfold richCompare
  simp only [oneThing_ref]
  refine wpAny_holding (wpAny_bind (wpAny_cRoomFor hu0 (wpAny_bind (I.type.here (wpAny_bind (J.type.here ?_))))))
  have ne : (Value.ref C != Value.ref C) = false := by simp
  rw [ne]
  simp only [Bool.false_eq_true, if_false]
  refine wpAny_bind (wpAny_pure ?_)
  simp only [Bool.false_eq_true, if_false]
  refine wpAny_bind (wpAny_mono one ?_ fun _ _ z => z)
  rintro r s' ⟨b, rfl, q⟩
  exact wpAny_pure q
end
theorem op_eqOwn {X : Cx} {k : Nat} {f C : Addr} {sp : Sp} (F : FnR X.prog X.w X.K X.mg X.base CX0 k f sp) (hr : Room k X.A) (T : CmpC X.K C f) :
    OpR X (compareOp .Eq) (fun x y H Q => ∃ (a b dx dy : Addr) (fs gs : List (Str × V)), x = .ref a ∧ y = .ref b ∧ H a = some (.ins C dx fs) ∧ H b = some (.ins C dy gs) ∧ sp [.ref a, .ref b] H (fun v H' => ∃ r, v = .bl r ∧ Q v H') E0) := by
  intro pins s σ H x y v u Q I rx ry h
  obtain ⟨a, b, dx, dy, fs, gs, rfl, rfl, ha, hb, q⟩ := h
  obtain rfl : v = Value.ref a := rx
  obtain rfl : u = Value.ref b := ry
  obtain ⟨mA, O, _⟩ := ins_get I.hok ha
  obtain ⟨od, J, _⟩ := O.look
  obtain ⟨mB, O2, _⟩ := ins_get I.hok hb
  obtain ⟨oe, J2, _⟩ := O2.look
  refine rc_eqO I.kIn J J2 hr.units0 T.eq T.fn (wpAny_call (codeAny_mono (F X.A X.stack s H [.ref a, .ref b] [.ref a, .ref b] _ _ hr I.env0 (.cons rfl (.cons rfl .nil)) q) fun r s' hq => ?_))
  rcases r with er | (_ | _ | _ | z)
  · exact (show False from hq).elim
  · exact False.elim hq
  · exact False.elim hq
  · exact False.elim hq
  · obtain ⟨v, H', I', rv, r, rfl, q'⟩ := I.after hq
    obtain rfl : z = Value.bool r := rv
    exact ⟨r, rfl, .bl r, H', I', rfl, q'⟩
end SQ
namespace SQ6
open PySem L2 SQ
abbrev sEqV : Stmt := inClass (top 32) 3
abbrev sRpV : Stmt := inClass (top 32) 6
abbrev sCp : Stmt := top 55
abbrev sCb : Stmt := top 56
abbrev sCc : Stmt := top 57
/-- a vocabulary with the text z -/
def Vx (C : Addr) (H : Hp) (o : Addr) (z : Str) : Prop := ∃ dx dA tN, H o = some (.ins C dx (flds dA tN z))
theorem Vx.same {C o : Addr} {H H' : Hp} {z : Str} (s : Same H H') (h : Vx C H o z) : Vx C H' o z := by
  obtain ⟨dx, dA, tN, e⟩ := h
  exact ⟨dx, dA, tN, s _ _ e⟩
theorem Vc.vx {C o : Addr} {H : Hp} {gs : List G3} {ys : List Str} (h : Vc C H o gs ys) : Vx C H o (vtext gs ys) := by
  obtain ⟨dx, dA, tN, kvs, e, _⟩ := h
  exact ⟨dx, dA, tN, e⟩
theorem dec_str (x y : Str) : decide (V.str x = V.str y) = decide (x = y) := by
  by_cases h : x = y
  · subst h
    rw [decide_eq_true rfl, decide_eq_true rfl]
  · rw [decide_eq_false h, decide_eq_false (fun z => h (V.str.inj z))]
section
variable {P : Program} {w : World} {K : PySem.W.Frag} {mg : Str → Option Value} {base : Heap} {C CP CN CM CL : Addr}
def spEqV (C : Addr) : Sp := fun vs H Q _ => ∃ (a b : Addr) (x y : Str), vs = [.ref a, .ref b] ∧ Vx C H a x ∧ Vx C H b y ∧ Q (.bl (decide (x = y))) H
theorem scEqV : FnScope ["self", "other"] ["self", "other"] (defScope sEqV) := ⟨rfl, rfl, rfl, by decide +kernel, rfl, by decide +kernel, by decide +kernel⟩
theorem ok_eqV {f : Addr} {fd : FuncData} (F : Fun K "__eq__" "Vocabulary.__eq__" sEqV f fd) (B : B2 mg) (VV : VC K mg C) (T : IC K C) : FnOk P w K mg base CX0 1 f fd ["self", "other"] (spEqV C) := by
  refine F.ok scEqV (fun vs H Q E h => ?_) (fun cdv A outer s H vs Q E hr h => ?_)
  · obtain ⟨a, b, x, y, rfl, _⟩ := h
    rfl
  · obtain ⟨a, b, x, y, rfl, ⟨dx, dA, tN, ha⟩, ⟨dy, dB, tM, hb⟩, q⟩ := h
    refine ⟨_, pss_one (ps_ret (pe_and (pe_callB call_isi (by rfl) B.isi (by decide +kernel) (pa_cons (pv 1) (pa_cons (pe_glob (v := .ref C) rfl VV.g rfl) pa_nil)))
      (pe_one (pe_cmpR op_eq (pe_fld (pv 0) rfl) (pe_fld (pv 1) rfl) (by rfl))))), ?_⟩
    refine ⟨_, rfl, _, _, _, _, true, rfl, .own C, T.ty hb, T.self, _, rfl, iteT ?_⟩
    refine ⟨_, rfl, a, C, dx, _, _, rfl, ha, VV.cl, VV.nT, rfl, _, rfl, b, C, dy, _, _, rfl, hb, VV.cl, VV.nT, rfl, rfl, ?_⟩
    rw [dec_str]
    exact q
def spRpV (C : Addr) : Sp := fun vs H Q _ => ∃ (a : Addr) (x : Str), vs = [.ref a] ∧ Vx C H a x ∧ x.length ≤ 1000 ∧ Q (.str (Str.empty ++ "Vocabulary(" ++ x ++ ")")) H
theorem scRpV : FnScope ["self"] ["self"] (defScope sRpV) := ⟨rfl, rfl, rfl, by decide +kernel, rfl, by decide +kernel, by decide +kernel⟩
theorem ok_rpV {f : Addr} {fd : FuncData} (F : Fun K "__repr__" "Vocabulary.__repr__" sRpV f fd) (VV : VC K mg C) : FnOk P w K mg base CX0 1 f fd ["self"] (spRpV C) := by
  refine F.ok scRpV (fun vs H Q E h => ?_) (fun cdv A outer s H vs Q E hr h => ?_)
  · obtain ⟨a, x, rfl, _⟩ := h
    rfl
  · obtain ⟨a, x, rfl, ⟨dx, dA, tN, ha⟩, hx, q⟩ := h
    refine ⟨_, pss_one (ps_ret (pe_joined (.cons pe_str (.cons (pe_fmt (pe_fld (pv 0) rfl)) (.cons pe_str .nil))))), ?_⟩
    have l1 : (Str.empty ++ ("Vocabulary(" : Str)).length = 11 := by decide
    have l2 : (")" : Str).length = 1 := rfl
    have line : ∀ {n : Nat}, n ≤ 2000 → n ≤ sizeLine := fun h => Nat.le_trans h (by decide)
    refine ⟨_, rfl, by rw [l1]; exact line (by decide), _, rfl, a, C, dx, _, _, rfl, ha, VV.cl, VV.nT, rfl, ?_⟩
    refine .inl ⟨x, rfl, line (by omega), _, rfl, ?_, _, rfl, ?_, q⟩
    · rw [len_app, l1]
      exact line (by omega)
    · rw [len_app, len_app, l1, l2]
      exact line (by omega)
/-! ### check_program, check_both_programs, check_place -/
def spCp (K : PySem.W.Frag) (CP CN : Addr) : Sp := fun vs H Q E => ∃ v : V, vs = [v] ∧ ((∃ (p dx : Addr) (fs : List (Str × V)), v = .ref p ∧ H p = some (.ins CP dx fs) ∧ Q .non H) ∨
  ∃ t, TyX K H v t ∧ PySem.W.kitOne K t (.ref CP) = some false ∧ ∀ d H', Same H H' → H' d = some (.xd [("value", v)]) → E (.ref CN) (some d) H')
theorem scCp : FnScope ["value"] ["value"] (defScope sCp) := ⟨rfl, rfl, rfl, by decide +kernel, rfl, by decide +kernel, by decide +kernel⟩
theorem ok_cp {f fN : Addr} {fd : FuncData} (F : Fun K "check_program" "check_program" sCp f fd) (B : B2 mg) (PV : PC K mg CP) (T : IC K CP) (Z : ErX K mg "NotAProgram" CN fN "value" bmV "ValueError.__new__") : FnOk P w K mg base (L2.CX P w) 2 f fd ["value"] (spCp K CP CN) := by
  refine F.okX scCp (fun vs H Q E h => ?_) (fun cdv A outer s H vs Q E hr h => ?_)
  · obtain ⟨v, rfl, _⟩ := h
    rfl
  · obtain ⟨v, rfl, h⟩ := h
    refine ⟨_, pss_one (ps_if (pt_not (pt_val (pe_callB call_isi (by rfl) B.isi (by decide +kernel) (pa_cons (pv 0) (pa_cons (pe_glob (v := .ref CP) rfl PV.g rfl) pa_nil))))) (pss_one (ps_raise rfl (takes_of rfl rfl rfl rfl) (pmk_of5 (pmk5_err (.inl rfl) bValue Z.T Z.J Z.ty Z.g (dp_of hr) rfl (pv 0))))) pss_nil), ?_⟩
    rcases h with ⟨p, dx, fs, rfl, hp, q⟩ | ⟨t, ty, ki, k⟩
    · exact ⟨_, rfl, _, _, _, _, true, rfl, .own CP, T.ty hp, T.self, _, rfl, iteF q⟩
    · refine ⟨_, rfl, v, .ref CP, t, .ref CP, false, rfl, .own CP, ty, ki, _, rfl, iteT ⟨_, rfl, fun d nd => ?_⟩⟩
      exact k d _ (same_new (fun _ _ e => e) nd) upd_same
def spCb (K : PySem.W.Frag) (CP C CN CM : Addr) : Sp := fun vs H Q E => ∃ (p o : Addr) (ts xs : List Str) (v : V), vs = [.ref p, v] ∧ Pg CP H p o ts xs ∧
  ((∃ t, TyX K H v t ∧ PySem.W.kitOne K t (.ref CP) = some false ∧ ∀ d H', Same H H' → H' d = some (.xd [("value", v)]) → E (.ref CN) (some d) H') ∨
   ∃ (p2 o2 : Addr) (ts2 xs2 : List Str) (z z2 : Str), v = .ref p2 ∧ Pg CP H p2 o2 ts2 xs2 ∧ Vx C H o z ∧ Vx C H o2 z2 ∧ (z ≠ z2 → E (.ref CM) none H) ∧ (z = z2 → Q .non H))
theorem scCb : FnScope ["program", "other_program"] ["program", "other_program"] (defScope sCb) := ⟨rfl, rfl, rfl, by decide +kernel, rfl, by decide +kernel, by decide +kernel⟩
theorem ok_cb {f fP fE : Addr} {fd dP : FuncData} (F : Fun K "check_both_programs" "check_both_programs" sCb f fd) (PV : PC K mg CP) (gP : mg "check_program" = some (.ref fP)) (kP : PySem.W.keepIn K (.ref fP) = true) (bP : Binds K dP ["value"] []) (GP : FnOk P w K mg base (L2.CX P w) 2 fP dP ["value"] (spCp K CP CN))
    (CQ : CmpC K C fE) (GE : FnR P w K mg base CX0 1 fE (spEqV C)) (Z : Er0 K mg "Mismatch" CM bmT "TypeError.__new__") : FnOk P w K mg base (L2.CX P w) 4 f fd ["program", "other_program"] (spCb K CP C CN CM) := by
  refine F.okX scCb (fun vs H Q E h => ?_) (fun cdv A outer s H vs Q E hr h => ?_)
  · obtain ⟨p, o, ts, xs, v, rfl, _⟩ := h
    rfl
  · obtain ⟨p, o, ts, xs, v, rfl, ⟨dx, r, tW, hp, hW⟩, h⟩ := h
    refine ⟨_, pss_cons (ps_expr (pe_call GP (hr.mono (by decide)) rfl gP kP bP .nil (passes_call (takes_of rfl rfl rfl rfl) (fun _ _ _ _ h => h)) (pa_cons (pv 0) pa_nil)))
      (pss_cons (ps_expr (pe_call GP (hr.mono (by decide)) rfl gP kP bP .nil (passes_call (takes_of rfl rfl rfl rfl) (fun _ _ _ _ h => h)) (pa_cons (pv 1) pa_nil)))
      (pss_one (ps_if (pt_cmpR (op_neOwn GE hr CQ) (pe_fld (pv 0) rfl) (pe_fld (pv 1) rfl) (nomark _)) (pss_one (ps_raise rfl (takes_of rfl rfl rfl rfl) (pmk_own0 PySem.F.excBase_TypeError Z rfl))) pss_nil))), ?_⟩
    refine ⟨_, rfl, _, rfl, .inl ⟨p, dx, _, rfl, hp, ?_⟩⟩
    rcases h with ⟨t, ty, ki, k⟩ | ⟨p2, o2, ts2, xs2, z, z2, rfl, ⟨dx2, r2, tW2, hp2, hW2⟩, hz, hz2, k, q⟩
    · exact ⟨_, rfl, _, rfl, .inr ⟨t, ty, ki, k⟩⟩
    · refine ⟨_, rfl, _, rfl, .inl ⟨p2, dx2, _, rfl, hp2, ?_⟩⟩
      have hz' := hz
      have hz2' := hz2
      obtain ⟨a1, a2, a3, ha⟩ := hz'
      obtain ⟨b1, b2, b3, hb⟩ := hz2'
      refine ⟨_, rfl, p, CP, dx, _, _, rfl, hp, PV.cl, PV.nV, rfl, _, rfl, p2, CP, dx2, _, _, rfl, hp2, PV.cl, PV.nV, rfl, ?_⟩
      refine ⟨o, o2, a1, b1, _, _, rfl, rfl, ha, hb, o, o2, z, z2, rfl, hz, hz2, _, rfl, _, rfl, ?_⟩
      by_cases e : z = z2
      · rw [decide_eq_true e]
        exact iteF (q e)
      · rw [decide_eq_false e]
        exact iteT (k e)
def spCc (CL : Addr) : Sp := fun vs H Q E => ∃ (v : V) (t : String) (a b : Int), vs = [v, .int a, .int b] ∧ Kd H v t ∧ ((∃ i, v = .int i ∧ a ≤ i ∧ i ≤ b ∧ ∀ H', Same H H' → Q .non H') ∨
  ((isInt v = false ∨ ∃ i, v = .int i ∧ ¬ (a ≤ i ∧ i ≤ b)) ∧ ∀ d H', Same H H' → H' d = some (.xd [("value", v)]) → E (.ref CL) (some d) H'))
theorem scCc : FnScope ["value", "least", "most"] ["value", "least", "most"] (defScope sCc) := ⟨rfl, rfl, rfl, by decide +kernel, rfl, by decide +kernel, by decide +kernel⟩
theorem ok_cc {f fP fN : Addr} {fd dP : FuncData} (F : Fun K "check_place" "check_place" sCc f fd) (gP : mg "is_plain_integer" = some (.ref fP)) (kP : PySem.W.keepIn K (.ref fP) = true) (bP : Binds K dP ["value"] []) (GP : FnOk P w K mg base CX0 1 fP dP ["value"] (spV isInt))
    (Z : ErX K mg "InvalidPlace" CL fN "value" bmV "ValueError.__new__") : FnOk P w K mg base (L2.CX P w) 2 f fd ["value", "least", "most"] (spCc CL) := by
  refine F.okX scCc (fun vs H Q E h => ?_) (fun cdv A outer s H vs Q E hr h => ?_)
  · obtain ⟨v, t, a, b, rfl, _⟩ := h
    rfl
  · obtain ⟨v, t, a, b, rfl, kd, h⟩ := h
    refine ⟨_, pss_one (ps_if (PW.pt (pw_or (pt_not (pt_val (pe_call GP (hr.mono (by decide)) rfl gP kP bP .nil pass0 (pa_cons (pv 0) pa_nil)))) (pw_or1 (pt_not (pt_chain op_le op_le (pv 1) (pv 0) (pv 2))))))
      (pss_one (ps_raise rfl (takes_of rfl rfl rfl rfl) (pmk_of5 (pmk5_err (.inl rfl) bValue Z.T Z.J Z.ty Z.g (dp_of hr) rfl (pv 0))))) pss_nil), ?_⟩
    refine ⟨_, rfl, v, t, rfl, kd, fun H1 s1 => ⟨_, rfl, ?_⟩⟩
    rcases h with ⟨i, rfl, ha, hb, q⟩ | ⟨bad, k⟩
    · refine iteF ⟨_, rfl, _, rfl, _, _, rfl, rfl, _, rfl, itY ha ⟨_, rfl, _, _, rfl, rfl, _, rfl, ?_⟩⟩
      rw [decide_eq_true hb]
      exact iteF (q H1 s1)
    · rcases bad with e | ⟨i, rfl, hi⟩
      · rw [e]
        refine iteT (iteT ⟨_, rfl, fun d nd => ?_⟩)
        exact k d _ (st s1 (same_new (fun _ _ e => e) nd)) upd_same
      · refine iteF ⟨_, rfl, _, rfl, _, _, rfl, rfl, _, rfl, ?_⟩
        by_cases ha : a ≤ i
        · refine itY ha ⟨_, rfl, _, _, rfl, rfl, _, rfl, ?_⟩
          rw [decide_eq_false fun hb => hi ⟨ha, hb⟩]
          refine iteT ⟨_, rfl, fun d nd => ?_⟩
          exact k d _ (st s1 (same_new (fun _ _ e => e) nd)) upd_same
        · refine itN ha ⟨_, rfl, iteT ⟨_, rfl, fun d nd => ?_⟩⟩
          exact k d _ (st s1 (same_new (fun _ _ e => e) nd)) upd_same
end
end SQ6
namespace SQ6
open PySem L2 SQ
abbrev sTh : Stmt := inClass (top 59) 1
abbrev sPt : Stmt := inClass (top 59) 2
abbrev sWo : Stmt := inClass (top 59) 3
abbrev sQd : Stmt := inClass (top 59) 4
abbrev sEqP : Stmt := inClass (top 59) 5
abbrev sRpP : Stmt := inClass (top 59) 8
theorem new_ins {C x dx : Addr} {H : Hp} (nx : H x = none) (ndx : H dx = none) (ne : dx ≠ x) : Same H (upd (upd H dx (.own x)) x (.ins C dx [])) := same_new (same_new (fun _ _ e => e) ndx) (by rw [upd_ne (Ne.symm ne)]; exact nx)
/-- Program(o, text) -/
theorem prog_new {CP C CL CD x dx o : Addr} {H2 : Hp} {gs : List G3} {ts xs : List Str} {Q : VK} {E : XK} (nx : H2 x = none) (ndx : H2 dx = none) (ne : dx ≠ x) (hV : Vc C H2 o gs [("t" : Str)]) (hg : gnames gs = [("t" : Str)]) (G : Good ts xs)
    (L : Lim CL CD ts H2 (∀ (p : Addr) (H' : Hp), Same H2 H' → Pg CP H' p o ts xs → Q (.ref p) H') E) : spPI CP C CL CD [.ref x, .ref o, .str (jt ts)] (upd (upd H2 dx (.own x)) x (.ins CP dx [])) (fun v H' => v = .non ∧ Q (.ref x) H') E := by
  have s1 : Same H2 (upd (upd H2 dx (.own x)) x (.ins CP dx [])) := new_ins nx ndx ne
  refine ⟨x, o, dx, gs, ts, xs, rfl, upd_same, Vc.same s1 hV, hg, G, ⟨fun b d H' s' hd => L.big b d H' (st s1 s') hd, fun b c d H' s' hd => L.deep b c d H' (st s1 s') hd, fun b c H' bt hP => ⟨rfl, L.fit b c x H' (fun a ob e => bt a ob (s1 _ _ e) (ne_of_none e nx)) hP⟩⟩⟩
/-- what the methods of Program lean on -/
structure M6 (P : Program) (w : World) (K : PySem.W.Frag) (mg : Str → Option Value) (base : Heap) (C CP CN CM CX_ CL CD fI fB fX fR fQ : Addr) (dI dB dX dR dQ : FuncData) : Prop where
  B : B2 mg
  PV : PC K mg CP
  MK : Mk K CP fI
  bI : Binds K dI ["self", "vocabulary", "text"] []
  GI : FnOk P w K mg base (L2.CX P w) 5 fI dI ["self", "vocabulary", "text"] (spPI CP C CL CD)
  gB : mg "check_both_programs" = some (.ref fB)
  kB : PySem.W.keepIn K (.ref fB) = true
  bB : Binds K dB ["program", "other_program"] []
  GB : FnOk P w K mg base (L2.CX P w) 4 fB dB ["program", "other_program"] (spCb K CP C CN CM)
  gX : mg "check_place" = some (.ref fX)
  kX : PySem.W.keepIn K (.ref fX) = true
  bX : Binds K dX ["value", "least", "most"] []
  GX : FnOk P w K mg base (L2.CX P w) 2 fX dX ["value", "least", "most"] (spCc CX_)
  gR : mg "row_text" = some (.ref fR)
  kR : PySem.W.keepIn K (.ref fR) = true
  bR : Binds K dR ["texts"] []
  GR : FnOk P w K mg base CX0 1 fR dR ["texts"] (spRwT K)
  gQ : mg "quotation_text" = some (.ref fQ)
  kQ : PySem.W.keepIn K (.ref fQ) = true
  bQ : Binds K dQ ["text"] []
  GQ : FnOk P w K mg base CX0 1 fQ dQ ["text"] spQx
/-- what a made program promises -/
def Mkd (CP C CL CD o : Addr) (x : Str) (H : Hp) (Q : VK) (E : XK) : Prop := ∃ (gs : List G3) (ts xs : List Str), x = jt ts ∧ Vc C H o gs [("t" : Str)] ∧ gnames gs = [("t" : Str)] ∧ Good ts xs ∧ Lim CL CD ts H (∀ (p : Addr) (H' : Hp), Same H H' → Pg CP H' p o ts xs → Q (.ref p) H') E
theorem Mkd.same {CP C CL CD o : Addr} {x : Str} {H H' : Hp} {Q : VK} {E : XK} (s : Same H H') (h : Mkd CP C CL CD o x H Q E) : Mkd CP C CL CD o x H' Q E := by
  obtain ⟨gs, ts, xs, e, hV, hg, G, L⟩ := h
  exact ⟨gs, ts, xs, e, Vc.same s hV, hg, G, ⟨fun b d H2 s2 hd => L.big b d H2 (st s s2) hd, fun b c d H2 s2 hd => L.deep b c d H2 (st s s2) hd, fun b c p H2 s2 hP => L.fit b c p H2 (st s s2) hP⟩⟩
theorem Mkd.run {CP C CL CD x dx o : Addr} {y : Str} {H2 : Hp} {Q : VK} {E : XK} (nx : H2 x = none) (ndx : H2 dx = none) (ne : dx ≠ x) (h : Mkd CP C CL CD o y H2 Q E) : spPI CP C CL CD [.ref x, .ref o, .str y] (upd (upd H2 dx (.own x)) x (.ins CP dx [])) (fun v H' => v = .non ∧ Q (.ref x) H') E := by
  obtain ⟨gs, ts, xs, rfl, hV, hg, G, L⟩ := h
  exact prog_new nx ndx ne hV hg G L
section
variable {P : Program} {w : World} {K : PySem.W.Frag} {mg : Str → Option Value} {base : Heap} {C CP CN CM CX_ CL CD fI fB fX fR fQ : Addr} {dI dB dX dR dQ : FuncData}
/-! ### quoted -/
def spQd (CP C CL CD : Addr) : Sp := fun vs H Q E => ∃ (p o : Addr) (ts xs : List Str), vs = [.ref p] ∧ Pg CP H p o ts xs ∧ (jt ts).length ≤ 9000 ∧ Mkd CP C CL CD o (qtext (jt ts)) H Q E
theorem scQd : FnScope ["self"] ["self"] (defScope sQd) := ⟨rfl, rfl, rfl, by decide +kernel, rfl, by decide +kernel, by decide +kernel⟩
theorem ok_qd {f : Addr} {fd : FuncData} (F : Fun K "quoted" "Program.quoted" sQd f fd) (M : M6 P w K mg base C CP CN CM CX_ CL CD fI fB fX fR fQ dI dB dX dR dQ) : FnOk P w K mg base (L2.CX P w) 7 f fd ["self"] (spQd CP C CL CD) := by
  refine F.okX scQd (fun vs H Q E h => ?_) (fun cdv A outer s H vs Q E hr h => ?_)
  · obtain ⟨p, o, ts, xs, rfl, _⟩ := h
    rfl
  · obtain ⟨p, o, ts, xs, rfl, ⟨dx, r, tW, hp, hW⟩, hl, h⟩ := h
    refine ⟨_, pss_one (ps_ret (pe_make M.MK M.GI hr rfl M.PV.g M.bI .nil (passes_call (takes_of rfl rfl rfl rfl) (fun _ _ _ _ h => h)) (pa_cons (pe_fld (pv 0) rfl) (pa_cons (pe_call M.GQ (hr.mono (by decide)) rfl M.gQ M.kQ M.bQ .nil pass0 (pa_cons (pe_fld (pv 0) rfl) pa_nil)) pa_nil)))), ?_⟩
    refine ⟨_, rfl, p, CP, dx, _, _, rfl, hp, M.PV.cl, M.PV.nV, rfl, _, rfl, p, CP, dx, _, _, rfl, hp, M.PV.cl, M.PV.nT, rfl, ?_⟩
    refine ⟨_, rfl, by omega, fun x dx nx ndx ne => ?_⟩
    exact Mkd.run nx ndx ne h
/-! ### then -/
def spTh (K : PySem.W.Frag) (CP C CN CM CL CD : Addr) : Sp := fun vs H Q E => ∃ (p o : Addr) (ts xs : List Str) (v : V), vs = [.ref p, v] ∧ Pg CP H p o ts xs ∧
  ((∃ t, TyX K H v t ∧ PySem.W.kitOne K t (.ref CP) = some false ∧ ∀ d H', Same H H' → H' d = some (.xd [("value", v)]) → E (.ref CN) (some d) H') ∨
   ∃ (p2 o2 : Addr) (ts2 xs2 : List Str) (z z2 : Str), v = .ref p2 ∧ Pg CP H p2 o2 ts2 xs2 ∧ Vx C H o z ∧ Vx C H o2 z2 ∧ (z ≠ z2 → E (.ref CM) none H) ∧ (z = z2 → xs ≠ [] ∧ ((xs ++ xs2).map (·.length)).sum + (xs ++ xs2).length ≤ 9000 ∧ Mkd CP C CL CD o (jt (xs ++ xs2)) H Q E))
theorem scTh : FnScope ["self", "other_program"] ["self", "other_program"] (defScope sTh) := ⟨rfl, rfl, rfl, by decide +kernel, rfl, by decide +kernel, by decide +kernel⟩
theorem ok_th {f : Addr} {fd : FuncData} (F : Fun K "then" "Program.then" sTh f fd) (M : M6 P w K mg base C CP CN CM CX_ CL CD fI fB fX fR fQ dI dB dX dR dQ) : FnOk P w K mg base (L2.CX P w) 7 f fd ["self", "other_program"] (spTh K CP C CN CM CL CD) := by
  refine F.okX scTh (fun vs H Q E h => ?_) (fun cdv A outer s H vs Q E hr h => ?_)
  · obtain ⟨p, o, ts, xs, v, rfl, _⟩ := h
    rfl
  · obtain ⟨p, o, ts, xs, v, rfl, hP, h⟩ := h
    have hP0 := hP
    obtain ⟨dx, r, tW, hp, hW⟩ := hP0
    refine ⟨_, pss_cons (ps_expr (pe_call M.GB (hr.mono (by decide)) rfl M.gB M.kB M.bB .nil (passes_call (takes_of rfl rfl rfl rfl) (fun _ _ _ _ h => h)) (pa_cons (pv 0) (pa_cons (pv 1) pa_nil))))
      (pss_one (ps_ret (pe_make M.MK M.GI hr rfl M.PV.g M.bI .nil (passes_call (takes_of rfl rfl rfl rfl) (fun _ _ _ _ h => h)) (pa_cons (pe_fld (pv 0) rfl) (pa_cons (pe_call M.GR (hr.mono (by decide)) rfl M.gR M.kR M.bR .nil pass0 (pa_cons (pe_op op_catA (pe_fld (pv 0) rfl) (pe_fld (pv 1) rfl)) pa_nil)) pa_nil))))), ?_⟩
    refine ⟨_, rfl, _, rfl, p, o, ts, xs, v, rfl, hP, ?_⟩
    rcases h with ⟨t, ty, ki, k⟩ | ⟨p2, o2, ts2, xs2, z, z2, rfl, hP2, hz, hz2, k, q⟩
    · exact .inl ⟨t, ty, ki, k⟩
    · refine .inr ⟨p2, o2, ts2, xs2, z, z2, rfl, hP2, hz, hz2, k, fun e => ?_⟩
      obtain ⟨ne, hs, h⟩ := q e
      obtain ⟨dx2, r2, tW2, hp2, hW2⟩ := hP2
      refine ⟨_, rfl, p, CP, dx, _, _, rfl, hp, M.PV.cl, M.PV.nV, rfl, ?_⟩
      refine ⟨_, rfl, p, CP, dx, _, _, rfl, hp, M.PV.cl, M.PV.nW, rfl, _, rfl, p2, CP, dx2, _, _, rfl, hp2, M.PV.cl, M.PV.nW, rfl, ?_⟩
      have hz : (xs ++ xs2).length ≤ 9000 := by omega
      rw [List.length_append] at hz
      have line : ∀ {n : Nat}, n ≤ 9000 → n ≤ sizeLine := fun h => Nat.le_trans h (by decide)
      refine ⟨tW, tW2, _, _, rfl, rfl, SqT.of hW, SqT.of hW2, line (by rw [List.length_map, List.length_map]; exact hz), fun z0 => absurd z0 (by simpa using ne), fun _ z0 => ?_, fun _ z0 l nl => ?_⟩
      · have e2 : xs2 = [] := by simpa using z0
        subst e2
        rw [List.append_nil] at hs h
        exact ⟨tW, xs, rfl, .inr (SqT.of hW), by omega, fun x dx nx ndx ne => Mkd.run nx ndx ne h⟩
      · have s1 := same_new (o := .tup (xs.map V.str ++ xs2.map V.str)) (fun _ _ e => e : Same H H) nl
        refine ⟨l, xs ++ xs2, rfl, .inr (SqT.of (by rw [upd_same, List.map_append])), by omega, fun x dx nx ndx ne => Mkd.run nx ndx ne (h.same s1)⟩
end
end SQ6
namespace SQ6
open PySem L2 SQ
section
variable {P : Program} {w : World} {K : PySem.W.Frag} {mg : Str → Option Value} {base : Heap} {C CP CN CM CX_ CL CD fI fB fX fR fQ : Addr} {dI dB dX dR dQ : FuncData}
/-! ### part -/
def Bad (H : Hp) (v : V) (a b : Int) : Prop := ∃ t, Kd H v t ∧ (isInt v = false ∨ ∃ i, v = .int i ∧ ¬ (a ≤ i ∧ i ≤ b))
def spPt (CP C CX_ CL CD : Addr) : Sp := fun vs H Q E => ∃ (p o : Addr) (ts xs : List Str) (u v : V), vs = [.ref p, u, v] ∧ Pg CP H p o ts xs ∧
  ((Bad H u 0 xs.length ∧ ∀ d H', Same H H' → H' d = some (.xd [("value", u)]) → E (.ref CX_) (some d) H') ∨
   ∃ i : Nat, u = .int i ∧ i ≤ xs.length ∧ ((Bad H v i xs.length ∧ ∀ d H', Same H H' → H' d = some (.xd [("value", v)]) → E (.ref CX_) (some d) H') ∨
     ∃ j : Nat, v = .int j ∧ i ≤ j ∧ j ≤ xs.length ∧ (xs.map (·.length)).sum + xs.length ≤ 9000 ∧ Mkd CP C CL CD o (jt ((xs.drop i).take (j - i))) H Q E))
theorem scPt : FnScope ["self", "start", "end"] ["self", "start", "end"] (defScope sPt) := ⟨rfl, rfl, rfl, by decide +kernel, rfl, by decide +kernel, by decide +kernel⟩
theorem sum_drop : ∀ (l : List Str) (i : Nat), ((l.drop i).map (·.length)).sum + (l.drop i).length ≤ (l.map (·.length)).sum + l.length
  | l, 0 => by simp
  | [], i + 1 => by simp
  | x :: l, i + 1 => by
    have := sum_drop l i
    simp only [List.drop_succ_cons, List.map_cons, List.sum_cons, List.length_cons]
    omega
theorem sum_take : ∀ (l : List Str) (i : Nat), ((l.take i).map (·.length)).sum + (l.take i).length ≤ (l.map (·.length)).sum + l.length
  | l, 0 => by simp
  | [], i + 1 => by simp
  | x :: l, i + 1 => by
    have := sum_take l i
    simp only [List.take_succ_cons, List.map_cons, List.sum_cons, List.length_cons]
    omega
theorem cut_strs {xs : List Str} {i j : Nat} (hi : i ≤ xs.length) (hj : j ≤ xs.length) : cutV (xs.map V.str) (some (i : Int)) (some (j : Int)) = ((xs.drop i).take (j - i)).map V.str := by
  have hl : (xs.map V.str).length = xs.length := List.length_map _
  show (((xs.map V.str).drop (HT.sIx (xs.map V.str).length 0 (some (i : Int)))).take (HT.sIx (xs.map V.str).length (xs.map V.str).length (some (j : Int)) - HT.sIx (xs.map V.str).length 0 (some (i : Int)))) = _
  rw [HT.sIx_nat, HT.sIx_nat, hl, Nat.min_eq_left hi, Nat.min_eq_left hj, List.map_take, List.map_drop]
theorem ok_pt {f : Addr} {fd : FuncData} (F : Fun K "part" "Program.part" sPt f fd) (M : M6 P w K mg base C CP CN CM CX_ CL CD fI fB fX fR fQ dI dB dX dR dQ) : FnOk P w K mg base (L2.CX P w) 7 f fd ["self", "start", "end"] (spPt CP C CX_ CL CD) := by
  refine F.okX scPt (fun vs H Q E h => ?_) (fun cdv A outer s H vs Q E hr h => ?_)
  · obtain ⟨p, o, ts, xs, u, v, rfl, _⟩ := h
    rfl
  · obtain ⟨p, o, ts, xs, u, v, rfl, ⟨dx, r, tW, hp, hW⟩, h⟩ := h
    refine ⟨_, pss_cons (ps_expr (pe_call M.GX (hr.mono (by decide)) rfl M.gX M.kX M.bX .nil (passes_call (takes_of rfl rfl rfl rfl) (fun _ _ _ _ h => h)) (pa_cons (pv 1) (pa_cons pe_int (pa_cons (pe_callB call_len_seq (by rfl) M.B.len PySem.boot_len (pa_cons (pe_fld (pv 0) rfl) pa_nil)) pa_nil)))))
      (pss_cons (ps_expr (pe_call M.GX (hr.mono (by decide)) rfl M.gX M.kX M.bX .nil (passes_call (takes_of rfl rfl rfl rfl) (fun _ _ _ _ h => h)) (pa_cons (pv 2) (pa_cons (pv 1) (pa_cons (pe_callB call_len_seq (by rfl) M.B.len PySem.boot_len (pa_cons (pe_fld (pv 0) rfl) pa_nil)) pa_nil)))))
      (pss_one (ps_ret (pe_make M.MK M.GI hr rfl M.PV.g M.bI .nil (passes_call (takes_of rfl rfl rfl rfl) (fun _ _ _ _ h => h)) (pa_cons (pe_fld (pv 0) rfl) (pa_cons (pe_call M.GR (hr.mono (by decide)) rfl M.gR M.kR M.bR .nil pass0 (pa_cons (pe_slice sl_tupA (pe_fld (pv 0) rfl) (po_some (pv 1)) (po_some (pv 2))) pa_nil)) pa_nil)))))), ?_⟩
    have hl : (xs.map V.str).length = xs.length := List.length_map _
    refine ⟨_, rfl, _, rfl, p, CP, dx, _, _, rfl, hp, M.PV.cl, M.PV.nW, rfl, tW, _, rfl, .inr (SqT.of hW), ?_⟩
    rw [hl]
    rcases h with ⟨⟨t, kd, bad⟩, k⟩ | ⟨i, rfl, hi, h⟩
    · exact ⟨u, t, 0, xs.length, rfl, kd, .inr ⟨bad, k⟩⟩
    refine ⟨.int i, "int", 0, xs.length, rfl, .int i, .inl ⟨i, rfl, by omega, by omega, fun H1 s1 => ?_⟩⟩
    refine ⟨_, rfl, _, rfl, _, rfl, p, CP, dx, _, _, rfl, s1 _ _ hp, M.PV.cl, M.PV.nW, rfl, tW, _, rfl, .inr (SqT.of (s1 _ _ hW)), ?_⟩
    rw [hl]
    rcases h with ⟨⟨t, kd, bad⟩, k⟩ | ⟨j, rfl, hij, hj, hs, h⟩
    · exact ⟨v, t, i, xs.length, rfl, kd.same s1, .inr ⟨bad, fun d H' s' hd => k d H' (st s1 s') hd⟩⟩
    refine ⟨.int j, "int", i, xs.length, rfl, .int j, .inl ⟨j, rfl, by omega, by omega, fun H2 s2 => ?_⟩⟩
    have t2 := st s1 s2
    refine ⟨_, rfl, p, CP, dx, _, _, rfl, t2 _ _ hp, M.PV.cl, M.PV.nV, rfl, ?_⟩
    refine ⟨_, rfl, p, CP, dx, _, _, rfl, t2 _ _ hp, M.PV.cl, M.PV.nW, rfl, _, rfl, i, rfl, _, rfl, j, rfl, tW, _, rfl, SqT.of (t2 _ _ hW), fun hw => ?_, fun _ l nl => ?_⟩
    · have e : (xs.drop i).take (j - i) = xs := by
        rw [hl, HT.sIx_nat, HT.sIx_nat, Nat.min_eq_left hi, Nat.min_eq_left hj] at hw
        rw [hw.1, hw.2, List.drop_zero, Nat.sub_zero, List.take_length]
      rw [e] at h
      exact ⟨tW, xs, rfl, .inr (SqT.of (t2 _ _ hW)), by omega, fun x dx nx ndx ne => Mkd.run nx ndx ne (h.same t2)⟩
    · have s3 := same_new (o := .tup (cutV (xs.map V.str) (some (i : Int)) (some (j : Int)))) (fun _ _ e => e : Same H2 H2) nl
      have b1 := sum_take (xs.drop i) (j - i)
      have b2 := sum_drop xs i
      refine ⟨l, (xs.drop i).take (j - i), rfl, .inr (SqT.of (by rw [upd_same, cut_strs hi hj])), by omega, fun x dx nx ndx ne => Mkd.run nx ndx ne ((h.same t2).same s3)⟩
/-! ### without: what it refuses -/
def spWo (CP CX_ : Addr) : Sp := fun vs H _ E => ∃ (p o : Addr) (ts xs : List Str) (v : V), vs = [.ref p, v] ∧ Pg CP H p o ts xs ∧ Bad H v 0 ((xs.length : Int) - 1) ∧ ∀ d H', Same H H' → H' d = some (.xd [("value", v)]) → E (.ref CX_) (some d) H'
theorem scWo : FnScope ["self", "place"] ["self", "place"] (defScope sWo) := ⟨rfl, rfl, rfl, by decide +kernel, rfl, by decide +kernel, by decide +kernel⟩
theorem ok_wo {f : Addr} {fd : FuncData} (F : Fun K "without" "Program.without" sWo f fd) (M : M6 P w K mg base C CP CN CM CX_ CL CD fI fB fX fR fQ dI dB dX dR dQ) : FnOk P w K mg base (L2.CX P w) 3 f fd ["self", "place"] (spWo CP CX_) := by
  refine F.okX scWo (fun vs H Q E h => ?_) (fun cdv A outer s H vs Q E hr h => ?_)
  · obtain ⟨p, o, ts, xs, v, rfl, _⟩ := h
    rfl
  · obtain ⟨p, o, ts, xs, v, rfl, ⟨dx, r, tW, hp, hW⟩, ⟨t, kd, bad⟩, k⟩ := h
    refine ⟨_, pss_cons (ps_expr (pe_call M.GX hr rfl M.gX M.kX M.bX .nil (passes_call (takes_of rfl rfl rfl rfl) (fun _ _ _ _ h => h)) (pa_cons (pv 1) (pa_cons pe_int (pa_cons (pe_op op_sub (pe_callB call_len_seq (by rfl) M.B.len PySem.boot_len (pa_cons (pe_fld (pv 0) rfl) pa_nil)) pe_int) pa_nil))))) (pss_one ps_never), ?_⟩
    refine ⟨_, rfl, _, rfl, p, CP, dx, _, _, rfl, hp, M.PV.cl, M.PV.nW, rfl, tW, _, rfl, .inr (SqT.of hW), _, _, rfl, rfl, ?_⟩
    rw [List.length_map]
    exact ⟨v, t, 0, (xs.length : Int) - 1, rfl, kd, .inr ⟨bad, k⟩⟩
/-! ### two programs that are equal; repr -/
def spEqP (CP C : Addr) : Sp := fun vs H Q _ => ∃ (a b o o2 : Addr) (ts xs ts2 xs2 : List Str) (z : Str), vs = [.ref a, .ref b] ∧ Pg CP H a o ts xs ∧ Pg CP H b o2 ts2 xs2 ∧ Vx C H o z ∧ Vx C H o2 z ∧ jt ts = jt ts2 ∧ Q (.bl true) H
theorem scEqP : FnScope ["self", "other"] ["self", "other"] (defScope sEqP) := ⟨rfl, rfl, rfl, by decide +kernel, rfl, by decide +kernel, by decide +kernel⟩
theorem ok_eqP {f fE : Addr} {fd : FuncData} (F : Fun K "__eq__" "Program.__eq__" sEqP f fd) (B : B2 mg) (PV : PC K mg CP) (T : IC K CP) (CQ : CmpC K C fE) (GE : FnR P w K mg base CX0 1 fE (spEqV C)) : FnOk P w K mg base CX0 2 f fd ["self", "other"] (spEqP CP C) := by
  refine F.ok scEqP (fun vs H Q E h => ?_) (fun cdv A outer s H vs Q E hr h => ?_)
  · obtain ⟨a, b, o, o2, ts, xs, ts2, xs2, z, rfl, _⟩ := h
    rfl
  · obtain ⟨a, b, o, o2, ts, xs, ts2, xs2, z, rfl, ⟨dx, r, tW, ha, _⟩, ⟨dy, r2, tW2, hb, _⟩, hz, hz2, e, q⟩ := h
    refine ⟨_, pss_one (ps_ret (pe_and (pe_callB call_isi (by rfl) B.isi (by decide +kernel) (pa_cons (pv 1) (pa_cons (pe_glob (v := .ref CP) rfl PV.g rfl) pa_nil)))
      (pe_and (pe_cmpR (op_eqOwn GE hr CQ) (pe_fld (pv 0) rfl) (pe_fld (pv 1) rfl) (by rfl)) (pe_one (pe_cmpR op_eq (pe_fld (pv 0) rfl) (pe_fld (pv 1) rfl) (by rfl)))))), ?_⟩
    refine ⟨_, rfl, _, _, _, _, true, rfl, .own CP, T.ty hb, T.self, _, rfl, iteT ?_⟩
    have hz' := hz
    have hz2' := hz2
    obtain ⟨a1, a2, a3, hza⟩ := hz'
    obtain ⟨b1, b2, b3, hzb⟩ := hz2'
    refine ⟨_, rfl, a, CP, dx, _, _, rfl, ha, PV.cl, PV.nV, rfl, _, rfl, b, CP, dy, _, _, rfl, hb, PV.cl, PV.nV, rfl, ?_⟩
    refine ⟨o, o2, a1, b1, _, _, rfl, rfl, hza, hzb, o, o2, z, z, rfl, hz, hz2, _, rfl, _, rfl, ?_⟩
    refine itY rfl ?_
    refine ⟨_, rfl, a, CP, dx, _, _, rfl, ha, PV.cl, PV.nT, rfl, _, rfl, b, CP, dy, _, _, rfl, hb, PV.cl, PV.nT, rfl, rfl, ?_⟩
    rw [dec_str, decide_eq_true e]
    exact q
def spRpP (CP : Addr) : Sp := fun vs H Q _ => ∃ (a o : Addr) (ts xs : List Str), vs = [.ref a] ∧ Pg CP H a o ts xs ∧ (jt ts).length ≤ 1000 ∧ Q (.str (Str.empty ++ "Program(" ++ jt ts ++ ")")) H
theorem scRpP : FnScope ["self"] ["self"] (defScope sRpP) := ⟨rfl, rfl, rfl, by decide +kernel, rfl, by decide +kernel, by decide +kernel⟩
theorem ok_rpP {f : Addr} {fd : FuncData} (F : Fun K "__repr__" "Program.__repr__" sRpP f fd) (PV : PC K mg CP) : FnOk P w K mg base CX0 1 f fd ["self"] (spRpP CP) := by
  refine F.ok scRpP (fun vs H Q E h => ?_) (fun cdv A outer s H vs Q E hr h => ?_)
  · obtain ⟨a, o, ts, xs, rfl, _⟩ := h
    rfl
  · obtain ⟨a, o, ts, xs, rfl, ⟨dx, r, tW, ha, _⟩, hx, q⟩ := h
    refine ⟨_, pss_one (ps_ret (pe_joined (.cons pe_str (.cons (pe_fmt (pe_fld (pv 0) rfl)) (.cons pe_str .nil))))), ?_⟩
    have l1 : (Str.empty ++ ("Program(" : Str)).length = 8 := by decide
    have l2 : (")" : Str).length = 1 := rfl
    have line : ∀ {n : Nat}, n ≤ 2000 → n ≤ sizeLine := fun h => Nat.le_trans h (by decide)
    refine ⟨_, rfl, by rw [l1]; exact line (by decide), _, rfl, a, CP, dx, _, _, rfl, ha, PV.cl, PV.nT, rfl, ?_⟩
    refine .inl ⟨jt ts, rfl, line (by omega), _, rfl, ?_, _, rfl, ?_, q⟩
    · rw [len_app, l1]
      exact line (by omega)
    · rw [len_app, len_app, l1, l2]
      exact line (by omega)
end
end SQ6
namespace SQ6
open PySem L2 SQ
abbrev sHad : Stmt := top 64
theorem takes_len {X : Cx} {W : WX} (t : Takes X W) : Takes X (fun c d σ H => σ.length = X.N.length → W c d σ H) := fun u s' ⟨a, B, sI, pins, σ, H, cls, d, e, I, nb, up, sky, na, os, ag, w⟩ =>
  t u s' ⟨a, B, sI, pins, σ, H, cls, d, e, I, nb, up, sky, na, os, ag, w I.len⟩
theorem pe_wk {X : Cx} {e : Expr} {t : TE} (h : PE X e t) : PE X e (fun σ H Q => ∃ R : VK, (∀ v H', R v H' → Q v H') ∧ t σ H R) := ⟨fun pins s σ H Q I ⟨R, hR, ht⟩ =>
  thn (h.run pins s σ H R I ht) fun u s1 ⟨v, H1, I1, r, q⟩ => ⟨v, H1, I1, r, hR v H1 q⟩⟩
/-- the classes of the errors that _law_had meets -/
structure EA where
  X : Addr
  M : Addr
  N : Addr
  D : Addr
  L : Addr
/-- what _law_had makes of an error -/
def HadX (c : EA) (Q : VK) : XK := fun cls d H' =>
  (∃ (dd : Addr) (v : V), cls = .ref c.X ∧ d = some dd ∧ H' dd = some (.xd [("value", v)]) ∧ ∀ p, H' p = none → Q (.ref p) (upd H' p (.lst [.str "InvalidPlace", v, .bl true]))) ∨
  (cls = .ref c.M ∧ d = none ∧ ∀ p, H' p = none → Q (.ref p) (upd H' p (.lst [.str "Mismatch", .bl true]))) ∨
  (∃ (dd : Addr) (v : V), cls = .ref c.N ∧ d = some dd ∧ H' dd = some (.xd [("value", v)]) ∧ ∀ p, H' p = none → Q (.ref p) (upd H' p (.lst [.str "NotAProgram", v, .bl true]))) ∨
  (∃ (dd : Addr) (v : V), cls = .ref c.D ∧ d = some dd ∧ H' dd = some (.xd [("limit", v)]) ∧ ∀ p, H' p = none → Q (.ref p) (upd H' p (.lst [.str "TooDeep", v, .bl true]))) ∨
  (∃ (dd : Addr) (v : V), cls = .ref c.L ∧ d = some dd ∧ H' dd = some (.xd [("limit", v)]) ∧ ∀ p, H' p = none → Q (.ref p) (upd H' p (.lst [.str "TooLarge", v, .bl true])))
def THad (c : EA) : (XK → Hp → VK → Prop) → Hp → VK → Prop := fun tl H Q => tl (HadX c Q) H (fun v H' => ∀ p, H' p = none → Q (.ref p) (upd H' p (.lst [.str "given", v])))
/-- the facts that it asks for -/
structure HadF (K : PySem.W.Frag) (mg : Str → Option Value) (c : EA) (CI CPE CS fX fN fD fL : Addr) : Prop where
  isf : IsF K
  gI : mg "InputError" = some (.ref CI)
  gP : mg "ProgramError" = some (.ref CPE)
  gS : mg "SizeError" = some (.ref CS)
  gV : mg "ValueError" = none
  gT : mg "TypeError" = none
  gA : mg "ArithmeticError" = none
  ZX : ErX K mg "InvalidPlace" c.X fX "value" bmV "ValueError.__new__"
  ZM : Er0 K mg "Mismatch" c.M bmT "TypeError.__new__"
  ZN : ErX K mg "NotAProgram" c.N fN "value" bmV "ValueError.__new__"
  ZD : ErX K mg "TooDeep" c.D fD "limit" bmA "ArithmeticError.__new__"
  ZL : ErX K mg "TooLarge" c.L fL "limit" bmA "ArithmeticError.__new__"
  xX : PySem.W.exmOne K (.ref c.X) (.ref c.X) = some true
  mX : PySem.W.exmOne K (.ref c.M) (.ref c.X) = some false
  mM : PySem.W.exmOne K (.ref c.M) (.ref c.M) = some true
  nX : PySem.W.exmOne K (.ref c.N) (.ref c.X) = some false
  nM : PySem.W.exmOne K (.ref c.N) (.ref c.M) = some false
  nN : PySem.W.exmOne K (.ref c.N) (.ref c.N) = some true
  dX : PySem.W.exmOne K (.ref c.D) (.ref c.X) = some false
  dM : PySem.W.exmOne K (.ref c.D) (.ref c.M) = some false
  dN : PySem.W.exmOne K (.ref c.D) (.ref c.N) = some false
  dD : PySem.W.exmOne K (.ref c.D) (.ref c.D) = some true
  lX : PySem.W.exmOne K (.ref c.L) (.ref c.X) = some false
  lM : PySem.W.exmOne K (.ref c.L) (.ref c.M) = some false
  lN : PySem.W.exmOne K (.ref c.L) (.ref c.N) = some false
  lD : PySem.W.exmOne K (.ref c.L) (.ref c.D) = some false
  lL : PySem.W.exmOne K (.ref c.L) (.ref c.L) = some true
  kX1 : PySem.W.kitOne K (.ref c.X) (.ref CI) = some true
  kX2 : PySem.W.kitOne K (.ref c.X) (.type "ValueError") = some true
  kM1 : PySem.W.kitOne K (.ref c.M) (.ref CPE) = some true
  kM2 : PySem.W.kitOne K (.ref c.M) (.type "TypeError") = some true
  kN1 : PySem.W.kitOne K (.ref c.N) (.ref CI) = some true
  kN2 : PySem.W.kitOne K (.ref c.N) (.type "ValueError") = some true
  kD1 : PySem.W.kitOne K (.ref c.D) (.ref CS) = some true
  kD2 : PySem.W.kitOne K (.ref c.D) (.type "ArithmeticError") = some true
  kL1 : PySem.W.kitOne K (.ref c.L) (.ref CS) = some true
  kL2 : PySem.W.kitOne K (.ref c.L) (.type "ArithmeticError") = some true
abbrev nHad : List Str := ["_law_ask", "_law_given", "e"]
theorem scHad : FnScope nHad ["_law_ask"] (defScope sHad) := ⟨rfl, rfl, rfl, by decide +kernel, rfl, by decide +kernel, by decide +kernel⟩
theorem had_gives {X : Cx} {g CI CPE CS fX fN fD fL : Addr} {c : EA} {cdg : Value} {q : Str} (B : B2 X.mg) (F : HadF X.K X.mg c CI CPE CS fX fN fD fL) : LamX.GivesTo X nHad "_law_had" (defScope sHad) g cdg (defBody sHad) "_law_ask" q (THad c) := by
  intro f c' s H Q tl act hc h
  refine ⟨_, pss_cons (ps_tryM (X := (cxOf C8.CX0 X.prog X.w X.K X.mg X.base nHad "_law_had" (defScope sHad) g cdg X.A X.stack s H C8.E0).nox) (i := 2)
      (tb := fun W D σ H => ∃ Ech : XK, (∀ cls d σ' H', Ech cls d H' → σ'.length = 3 → W cls d σ' H') ∧ σ[0]? = some (some (.ref f)) ∧ H c' = some (LamX.CodeO c' q) ∧ ∃ R : VK, (∀ v H', R v H' → D.nx (σ.set 1 (some v)) H') ∧ tl Ech H R)
      rfl rfl scHad.nd rfl rfl (fun W pn xe tk _ => ?_)
      (.cons (c := .ref c.X) ⟨rfl, by decide, .inl F.ZX.g⟩ (fun a oe cls d pn hz hf => pss_one (ps_ret (pe_lst (pa_cons pe_str (pa_cons (pe_heldGet hz hf (pv 2)) (pa_cons (pe_and (pe_callB (cr_heldIs F.isf hz hf) (by rfl) B.isi (by decide +kernel) (pa_cons (pv 2) (pa_cons (pe_glob (v := .ref CI) rfl F.gI rfl) pa_nil)))
        (pe_one (pe_callB (cr_heldIs F.isf hz hf) (by rfl) B.isi (by decide +kernel) (pa_cons (pv 2) (pa_cons (pe_bltn (v := .ty "ValueError") (by rfl) F.gV (by decide +kernel) rfl) pa_nil))))) pa_nil))))))
      (.cons (c := .ref c.M) ⟨rfl, by decide, .inl F.ZM.g⟩ (fun a oe cls d pn hz hf => pss_one (ps_ret (pe_lst (pa_cons pe_str (pa_cons (pe_and (pe_callB (cr_heldIs0 F.isf hz hf) (by rfl) B.isi (by decide +kernel) (pa_cons (pv 2) (pa_cons (pe_glob (v := .ref CPE) rfl F.gP rfl) pa_nil)))
        (pe_one (pe_callB (cr_heldIs0 F.isf hz hf) (by rfl) B.isi (by decide +kernel) (pa_cons (pv 2) (pa_cons (pe_bltn (v := .ty "TypeError") (by rfl) F.gT (by decide +kernel) rfl) pa_nil))))) pa_nil)))))
      (.cons (c := .ref c.N) ⟨rfl, by decide, .inl F.ZN.g⟩ (fun a oe cls d pn hz hf => pss_one (ps_ret (pe_lst (pa_cons pe_str (pa_cons (pe_heldGet hz hf (pv 2)) (pa_cons (pe_and (pe_callB (cr_heldIs F.isf hz hf) (by rfl) B.isi (by decide +kernel) (pa_cons (pv 2) (pa_cons (pe_glob (v := .ref CI) rfl F.gI rfl) pa_nil)))
        (pe_one (pe_callB (cr_heldIs F.isf hz hf) (by rfl) B.isi (by decide +kernel) (pa_cons (pv 2) (pa_cons (pe_bltn (v := .ty "ValueError") (by rfl) F.gV (by decide +kernel) rfl) pa_nil))))) pa_nil))))))
      (.cons (c := .ref c.D) ⟨rfl, by decide, .inl F.ZD.g⟩ (fun a oe cls d pn hz hf => pss_one (ps_ret (pe_lst (pa_cons pe_str (pa_cons (pe_heldGet hz hf (pv 2)) (pa_cons (pe_and (pe_callB (cr_heldIs F.isf hz hf) (by rfl) B.isi (by decide +kernel) (pa_cons (pv 2) (pa_cons (pe_glob (v := .ref CS) rfl F.gS rfl) pa_nil)))
        (pe_one (pe_callB (cr_heldIs F.isf hz hf) (by rfl) B.isi (by decide +kernel) (pa_cons (pv 2) (pa_cons (pe_bltn (v := .ty "ArithmeticError") (by rfl) F.gA (by decide +kernel) rfl) pa_nil))))) pa_nil))))))
      (.cons (c := .ref c.L) ⟨rfl, by decide, .inl F.ZL.g⟩ (fun a oe cls d pn hz hf => pss_one (ps_ret (pe_lst (pa_cons pe_str (pa_cons (pe_heldGet hz hf (pv 2)) (pa_cons (pe_and (pe_callB (cr_heldIs F.isf hz hf) (by rfl) B.isi (by decide +kernel) (pa_cons (pv 2) (pa_cons (pe_glob (v := .ref CS) rfl F.gS rfl) pa_nil)))
        (pe_one (pe_callB (cr_heldIs F.isf hz hf) (by rfl) B.isi (by decide +kernel) (pa_cons (pv 2) (pa_cons (pe_bltn (v := .ty "ArithmeticError") (by rfl) F.gA (by decide +kernel) rfl) pa_nil))))) pa_nil))))))
      .nil))))))
    (pss_one (ps_ret (pe_lst (pa_cons pe_str (pa_cons (pv 1) pa_nil))))), ?_⟩
  · refine ⟨fun pins s' σ H' D I h' => ?_⟩
    obtain ⟨Ech, hW, h1, h2, R, hR, h3⟩ := h'
    exact (pss_one (ps_set (i := 1) scHad.nd rfl (.inl rfl) (pe_wk (act _ pn xe Ech _ _ (takes_len tk) (fun cls d σ' H' e hl => hW cls d σ' H' e hl))))).run pins s' σ H' D I ⟨R, hR, h1, h2, h3⟩
  · refine ⟨_, ?_, rfl, hc, _, ?_, h⟩
    rotate_left
    · intro v H' k
      exact ⟨_, rfl, (by show 2 ≤ sizeLine; decide), fun p hp => k p hp⟩
    rintro cls d σ' H' e hl
    have h2 : ∀ a : Addr, (σ'.set 2 (some (V.ref a)))[2]? = some (some (V.ref a)) := fun a => by
      rw [List.getElem?_set_self (by omega)]
    have three : 3 ≤ sizeLine := by decide
    have two : 2 ≤ sizeLine := by decide
    rcases e with ⟨dd, v, rfl, rfl, hd, k⟩ | ⟨rfl, rfl, k⟩ | ⟨dd, v, rfl, rfl, hd, k⟩ | ⟨dd, v, rfl, rfl, hd, k⟩ | ⟨dd, v, rfl, rfl, hd, k⟩
    · refine ⟨true, F.xX, fun _ a ha => ?_, fun z => nomatch z⟩
      exact ⟨_, h2 a, rfl, c.X, v, _, _, ⟨rfl, dd, rfl, hd⟩, F.ZX.T, _, h2 a, _, _, true, c.X, v, "value", rfl, ⟨rfl, dd, rfl, hd⟩, F.ZX.T.isc, fun z e => e, F.kX1, _, rfl, iteT ⟨_, h2 a, _, _, true, c.X, v, "value", rfl, ⟨rfl, dd, rfl, hd⟩, F.ZX.T.isc, fun z e => e, F.kX2, three, fun p hp => k p hp⟩⟩
    · refine ⟨false, F.mX, (fun z => nomatch z), fun _ => ⟨true, F.mM, fun _ a ha => ?_, fun z => nomatch z⟩⟩
      exact ⟨_, h2 a, _, _, true, c.M, rfl, rfl, rfl, F.ZM.isc, fun z e => e, F.kM1, _, rfl, iteT ⟨_, h2 a, _, _, true, c.M, rfl, rfl, rfl, F.ZM.isc, fun z e => e, F.kM2, two, fun p hp => k p hp⟩⟩
    · refine ⟨false, F.nX, (fun z => nomatch z), fun _ => ⟨false, F.nM, (fun z => nomatch z), fun _ => ⟨true, F.nN, fun _ a ha => ?_, fun z => nomatch z⟩⟩⟩
      exact ⟨_, h2 a, rfl, c.N, v, _, _, ⟨rfl, dd, rfl, hd⟩, F.ZN.T, _, h2 a, _, _, true, c.N, v, "value", rfl, ⟨rfl, dd, rfl, hd⟩, F.ZN.T.isc, fun z e => e, F.kN1, _, rfl, iteT ⟨_, h2 a, _, _, true, c.N, v, "value", rfl, ⟨rfl, dd, rfl, hd⟩, F.ZN.T.isc, fun z e => e, F.kN2, three, fun p hp => k p hp⟩⟩
    · refine ⟨false, F.dX, (fun z => nomatch z), fun _ => ⟨false, F.dM, (fun z => nomatch z), fun _ => ⟨false, F.dN, (fun z => nomatch z), fun _ => ⟨true, F.dD, fun _ a ha => ?_, fun z => nomatch z⟩⟩⟩⟩
      exact ⟨_, h2 a, rfl, c.D, v, _, _, ⟨rfl, dd, rfl, hd⟩, F.ZD.T, _, h2 a, _, _, true, c.D, v, "limit", rfl, ⟨rfl, dd, rfl, hd⟩, F.ZD.T.isc, fun z e => e, F.kD1, _, rfl, iteT ⟨_, h2 a, _, _, true, c.D, v, "limit", rfl, ⟨rfl, dd, rfl, hd⟩, F.ZD.T.isc, fun z e => e, F.kD2, three, fun p hp => k p hp⟩⟩
    · refine ⟨false, F.lX, (fun z => nomatch z), fun _ => ⟨false, F.lM, (fun z => nomatch z), fun _ => ⟨false, F.lN, (fun z => nomatch z), fun _ => ⟨false, F.lD, (fun z => nomatch z), fun _ => ⟨true, F.lL, fun _ a ha => ?_, fun z => nomatch z⟩⟩⟩⟩⟩
      exact ⟨_, h2 a, rfl, c.L, v, _, _, ⟨rfl, dd, rfl, hd⟩, F.ZL.T, _, h2 a, _, _, true, c.L, v, "limit", rfl, ⟨rfl, dd, rfl, hd⟩, F.ZL.T.isc, fun z e => e, F.kL1, _, rfl, iteT ⟨_, h2 a, _, _, true, c.L, v, "limit", rfl, ⟨rfl, dd, rfl, hd⟩, F.ZL.T.isc, fun z e => e, F.kL2, three, fun p hp => k p hp⟩⟩
end SQ6
namespace SQ
open PySem PySem.Spec PyProof.Rows L2
/-- a def of the text, its code object at c -/
structure FunC (K : PySem.W.Frag) (x qual : Str) (st : Stmt) (f : Addr) (fd : FuncData) (c : Addr) : Prop where
  ex : ∃ (oc : Value) (od : Option Addr) (kV doc pm : Value) (an : Option Addr) (ct : Value) (osl : Array (Option Value)),
    fd = PySem.W.fnOf x qual (defArgs st) (defBody st) (defScope st) .none kV doc pm an (.ref c) ct ∧ K.lookup f = some ⟨oc, od, .func fd, osl⟩ ∧ PySem.W.codeIn K (.ref c) qual = true
  kp : PySem.W.keepIn K (.ref f) = true
theorem FunC.f {K : PySem.W.Frag} {x qual : Str} {st : Stmt} {f : Addr} {fd : FuncData} {c : Addr} (F : FunC K x qual st f fd c) : Fun K x qual st f fd := by
  obtain ⟨oc, od, kV, doc, pm, an, ct, osl, e, l, q⟩ := F.ex
  exact ⟨⟨oc, od, kV, doc, pm, an, .ref c, ct, osl, e, l, q⟩, F.kp⟩
section
variable {P : Program} {w : World} {K : PySem.W.Frag} {mg : Str → Option Value} {base : Heap}
/-- okG where the code object is known -/
theorem okGc {x qual : Str} {st : Stmt} {f c : Addr} {fd : FuncData} {N ps : List Str} {k : Nat} {sp : Sp}
    (F : FunC K x qual st f fd c) (S : FnScope N ps (defScope st))
    (len : ∀ vs H Q E, sp vs H Q E → vs.length = ps.length)
    (hb : ∀ (A : Around) (outer : List Env) (s : Shared) (H : Hp) (vs : List V) (Q : VK) (E : XK),
      (A.deeper (envOfC qual (defScope st) s.heap.objs.size f (.ref c))).guards = some [] →
      Room k (A.deeper (envOfC qual (defScope st) s.heap.objs.size f (.ref c))) → sp vs H Q E →
      ∃ t, PSs (cxOf CX0 P w K mg base N qual (defScope st) f (.ref c) A outer s H E).nox (defBody st) t ∧
        t { nx := fun _ H' => Q .non H', rt := Q } (start N vs) H) :
    FnG P w K mg base CX0 (k + 1) f fd ps sp := by
  obtain ⟨oc, od, kV, doc, pm, an, ct, osl, rfl, lk, hcd⟩ := F.ex
  refine ⟨len, fun A hgd outer s H args us vs Q E hroom en bnd rel hsp => ?_⟩
  have nargs := len _ _ _ _ hsp
  have old : ∀ b o, base.get? b = some o → s.heap.get? b = some o := fun b o q => (en.bs b o q).1
  have kin := en.mod.kin.keeps old
  have nol := en.mod.nolimit.keeps old
  have kinds : ∀ y ∈ ps.zip us, (defScope st).names.lookup y.1 = some .local ∨
      ((defScope st).names.lookup y.1 = some .cell ∧
        ((cellsFrom (s.heap.objs.size + 1) (defScope st).names []).lookup y.1).isSome = true) := by
    rintro ⟨n, v⟩ hy
    rcases S.par n (List.of_mem_zip hy).1 with q | q
    · exact Or.inl q
    · exact Or.inr ⟨q, PySem.W.cellsFrom_some _ _ _ (Or.inl q)⟩
  refine codeAny_call_function hroom.depth (kin _ _ lk) rfl S.co S.gen rfl
    (PySem.W.codeRec_of kin hcd) (bnd _ _ _ _ ?_)
  refine wpAny_newFunctionEnv_cells S.kind kinds ?_
  intro env he s1 ic
  subst he
  refine ⟨nol.keeps ic.toInCall.keep, codeAny_func ?_⟩
  obtain ⟨t, ht, hq⟩ := hb A outer s H vs Q E (deeper_guards hgd) (hroom.deeper _) hsp
  have inv := inv_start (CX := CX0) (E := E) S hroom.hd en nargs rel ic
  refine wpAny_mono (ht.nox.run [] s1 (start N vs) H _ inv hq) ?_ fun e s' hs => hs
  intro fl s' hs
  cases fl with
  | ret u =>
    obtain ⟨v, σ', H', J, rv, q⟩ := hs
    exact ⟨v, H', J.os, J.bare, J.base, J.hok, rv, q⟩
  | next =>
    obtain ⟨σ', H', J, q⟩ := hs
    exact ⟨V.non, H', J.os, J.bare, J.base, J.hok, rfl, q⟩
  | brk =>
    obtain ⟨_, _, _, q⟩ := hs
    exact q.elim
  | cont =>
    obtain ⟨_, _, _, q⟩ := hs
    exact q.elim
end
end SQ
namespace SQ6
open PySem L2 SQ
abbrev nR : List Str := ["_law_urn_here", "_law_box", "_law_answers", "_law_due", "_law_fit_here", "_law_bad", "_law_deep", "_law_deeper", "_law_far", "_law_made", "_law_many", "_law_none", "_law_odd", "_law_wide", "_law_each"]
theorem scR : FnScope nR ["_law_urn_here"] (defScope sRight) := ⟨rfl, rfl, rfl, by decide +kernel, rfl, by decide +kernel, by decide +kernel⟩
structure HadD (K : PySem.W.Frag) (mg : Str → Option Value) (fH : Addr) (dH : FuncData) : Prop where
  g : mg "_law_had" = some (.ref fH)
  F : Fun K "_law_had" "_law_had" sHad fH dH
  b : Binds K dH ["_law_ask"] []
theorem pe_had {X : Cx} {T : TL} {fH CI CPE CS fX fN fD fL c Pt : Addr} {ea : EA} {dH : FuncData} {k : Nat} {params : Arguments} {body : Expr} {scope : Scope} {t : XK → TE} {p lpos pos : Pos} (HD : HadD X.K X.mg fH dH) (B : B2 X.mg) (HF : HadF X.K X.mg ea CI CPE CS fX fN fD fL) (TB : LamX.TabB X.base X.mg c Pt) (hcode : X.env.code = .ref c)
    (hmT : (Pt, X.env.qual ++ "<lambda>") ∈ T) (huT : ∀ p ∈ T, p.1 = Pt → p.2 = X.env.qual ++ "<lambda>") (hr : Room (k + 2) X.A) (L : LamX.LamS X.env.scope scope) (hdef : defaultsOf params X.env = ([], []))
    (hbind : ∀ (q : Str) (cl : List (Str × Addr)) (pm cv ctv : Value), bindArgs (PySem.W.kla_fn "<lambda>" q params body scope cl pm cv ctv) ⟨[], []⟩ = pure [])
    (hbody : ∀ (A : Around) (outer : List Env) (s : Shared) (H : Hp) (E : XK) (f c' : Addr), Room k (A.deeper (LamX.lamEnv X scope s.heap.objs.size f c')) → PE (LamX.lamCx X A outer s H E scope f c') body (t E)) (hg : Gl X "_law_had" := by rfl) :
    PE X (.Call (.Name "_law_had" p) [.Lambda params body scope lpos] [] pos) (LamX.tLam T (THad ea) t) := by
  obtain ⟨oc, od, kV, doc, pm, an, cdv, ct, osl, rfl, lk, hcd⟩ := HD.F.ex
  exact LamX.pe_lamcall (Ng := nHad) (a := "_law_ask") hg HD.g HD.F.kp lk hcd HD.b scHad rfl (.inl rfl) (had_gives B HF) TB hcode hmT huT hr L hdef hbind hbody
theorem rd_set {te : TE} {i : Nat} {rest : TS} {D : Ends} {σ : L2.St} {H : Hp} (h : te σ H fun v H1 => rest D (σ.set i (some v)) H1) : tSeq (tAsg te (gName i)) rest D σ H := h
theorem rd_seq {t u : TS} {D : Ends} {σ : L2.St} {H : Hp} (h : t { D with nx := u D } σ H) : tSeq t u D σ H := h
theorem tabs_but {T : TL} {u : Addr} {H H' : Hp} (t : LamX.Tabs T H) (hu : urnAt H u) (b : But u H H') : LamX.Tabs T H' := by
  obtain ⟨x, y, z, e0⟩ := hu
  intro p hp
  obtain ⟨ps, h1, h2, h3⟩ := t p hp
  refine ⟨ps, b _ _ h1 (ne_of h1 e0 (by intro z; cases z)), h2, fun pos cv hc => ?_⟩
  obtain ⟨c, e1, e2⟩ := h3 pos cv hc
  exact ⟨c, e1, b _ _ e2 (ne_of e2 e0 (by intro z; unfold LamX.CodeO at z; cases z))⟩
theorem urn_same {u : Addr} {H H' : Hp} (s : Same H H') (h : urnAt H u) : urnAt H' u := by
  obtain ⟨x, y, z, e⟩ := h
  exact ⟨x, y, z, s _ _ e⟩
theorem urn_ne {u p : Addr} {H : Hp} (h : urnAt H u) (n : H p = none) : u ≠ p := by
  obtain ⟨x, y, z, e⟩ := h
  exact ne_of_none e n
abbrev lamN : Str := ("_law_right" : Str) ++ ".<locals>." ++ "<lambda>"
def nth (l : List Stmt) (i : Nat) : Stmt := l.getD i (.Pass ⟨0, 0, 0, 0⟩)
abbrev Xr (P : Program) (w : World) (K : PySem.W.Frag) (mg : Str → Option Value) (base : Heap) (fR c : Addr) (A : Around) (outer : List Env) (s : Shared) (H : Hp) (E : XK) : Cx := (cxOf CX0 P w K mg base nR "_law_right" (defScope sRight) fR (.ref c) A outer s H E).nox
structure St3 (T : TL) (u : Addr) (H0 H : Hp) : Prop where
  but : ButT u H0 H
  tab : LamX.Tabs T H
  urn : urnAt H u
section
variable {T : TL} {u : Addr} {H0 H H' : Hp}
theorem St3.same (S : St3 T u H0 H) (s : Same H H') : St3 T u H0 H' := ⟨fun b o e n t => s _ _ (S.but b o e n t), S.tab.ext s, urn_same s S.urn⟩
theorem St3.butu (S : St3 T u H0 H) (b : But u H H') (hu : urnAt H' u) : St3 T u H0 H' := ⟨S.but.trans (ButT.of b), tabs_but S.tab S.urn b, hu⟩
theorem St3.ext (S : St3 T u H0 H) (x : LamX.ExtN H H') (t : LamX.Tabs T H') : St3 T u H0 H' := by
  refine ⟨S.but.trans (ButT.ofN x), t, ?_⟩
  obtain ⟨a, b, c, e⟩ := S.urn
  exact ⟨a, b, c, x _ _ e (fun _ z => nomatch z)⟩
theorem St3.put {D : Addr} {xs ys : List V} (S : St3 T u H0 H) (hD : H D = some (.lst xs)) (n0 : ∀ o, H0 D = some o → ∃ ps, o = .tbl ps) (ne : D ≠ u) : St3 T u H0 (upd H D (.lst ys)) := by
  refine ⟨fun b o e n t => ?_, tabs_put S.tab hD, ?_⟩
  · have hb : b ≠ D := fun z => by
      obtain ⟨ps, h⟩ := n0 o (z ▸ e)
      exact t ps h
    rw [upd_ne hb]
    exact S.but b o e n t
  · obtain ⟨a, b, c, e⟩ := S.urn
    exact ⟨a, b, c, by rw [upd_ne (Ne.symm ne)]; exact e⟩
theorem St3.new {D : Addr} (S : St3 T u H0 H) (n : H D = none) : ∀ o, H0 D = some o → ∃ ps, o = .tbl ps := by
  intro o e
  have ne : D ≠ u := (urn_ne S.urn n).symm
  cases o with
  | tbl ps => exact ⟨ps, rfl⟩
  | _ =>
    have := S.but D _ e ne (fun ps z => nomatch z)
    rw [n] at this
    cases this
end
/-! ### the vocabularies of the law -/
theorem passN {X : Cx} : Passes (L2N.CX X.prog X.w) X E0 := fun _ _ _ _ _ _ _ ⟨_, _, _, _, _, _, _, _, _, _, _, _, h⟩ => (show False from h).elim
theorem passX {X : Cx} : Passes (L2.CX X.prog X.w) X E0 := fun _ _ _ _ _ _ _ ⟨_, _, _, _, _, _, _, _, _, _, _, _, h⟩ => (show False from h).elim
theorem verdict1 (m : Int) : verdict [some ("t", 1, m)] = none := rfl
theorem voc_new {C CE x dx t : Addr} {H2 : Hp} {m : Int} {R : Hp → Prop} (nx : H2 x = none) (ndx : H2 dx = none) (ne : dx ≠ x) (ht : H2 t = some (.tup [.str "t", .int 1, .int m])) (hm : isAr (.int m) = true)
    (q : ∀ H', Same H2 H' → Vc C H' x [("t", 1, m)] [("t" : Str)] → R H') : spInit C CE [V.ref x, .ref t] (upd (upd H2 dx (.own x)) x (.ins C dx [])) (fun v H' => v = .non ∧ R H') E0 := by
  have s1 : Same H2 (upd (upd H2 dx (.own x)) x (.ins C dx [])) := new_ins nx ndx ne
  refine ⟨[.ref x], [.ref t], rfl, rfl, (by show 1 ≤ sizeLine; decide), fun p hp => ?_⟩
  have s2 : Same (upd (upd H2 dx (.own x)) x (.ins C dx [])) (upd (upd (upd H2 dx (.own x)) x (.ins C dx [])) p (.tup [.ref t])) := same_new (fun _ _ e => e) hp
  have good : (isFree (.str "t") && (isAr (.int 1) && isAr (.int m))) = true := by
    rw [hm, show isFree (.str "t") = true from by decide +kernel, show isAr (.int 1) = true from by decide]
    rfl
  refine ⟨x, dx, p, [.ref t], [some ("t", 1, m)], rfl, s2 _ _ upd_same, upd_same, .cons (.good (s2 _ _ (s1 _ _ ht)) (by decide +kernel) good) .nil, (by show 1 ≤ 2000; decide), fun idx h' => ?_, fun hv gs eg H' ys hp' hs' bt hx => ?_⟩
  · rw [verdict1] at h'
    cases h'
  · obtain rfl : gs = [(("t" : Str), (1 : Int), m)] := by
      match gs, eg with
      | [g], eg =>
        simp only [List.map_cons, List.map_nil, List.cons.injEq, and_true] at eg
        rw [← Option.some.inj eg]
    have ey : ys = [("t" : Str)] := List.perm_singleton.mp hp'
    subst ey
    exact ⟨rfl, q H' (fun b o e => bt b o (s2 _ _ (s1 _ _ e)) (ne_of_none e nx)) hx⟩
end SQ6
namespace SQ6
open PySem L2 SQ
/-! ### the rows of the law -/
def rep (n : Nat) : List Str := List.replicate n "t"
theorem rep_tok (n : Nat) : ∀ t ∈ rep n, isTok t := fun t h => .inr (.inr (.inl (List.eq_of_mem_replicate h)))
theorem rep_len (n : Nat) : (rep n).length = n := List.length_replicate
theorem tT : ¬ ("t" : Str) = "[" := by decide +kernel
theorem tU : ¬ ("t" : Str) = "]" := by decide +kernel
theorem rd_rep : ∀ (n : Nat) (g : List Str) (r : List (List Str)), rd (rep n) (g :: r) = some ((g ++ rep n) :: r)
  | 0, g, r => by
    show some (g :: r) = _
    rw [show rep 0 = [] from rfl, List.append_nil]
  | n + 1, g, r => by
    have ih := rd_rep n (g ++ [("t" : Str)]) r
    have e : rep (n + 1) = ("t" : Str) :: rep n := List.replicate_succ
    rw [e]
    conv => lhs; unfold rd
    rw [if_neg tT, if_neg tU]
    refine ih.trans ?_
    rw [List.append_assoc]
    rfl
theorem good_rep {n : Nat} (h : n ≤ 200) : Good (rep n) (rep n) := ⟨rep_tok n, by rw [rep_len]; exact h, rd_rep n [] []⟩
theorem size_rep (n : Nat) : sizeT (rep n) = n := by
  unfold sizeT
  have e : (rep n).count ("]" : Str) = 0 := by
    rw [List.count_eq_zero]
    intro h
    exact tU (List.eq_of_mem_replicate h).symm
  rw [e, rep_len]
  simp
theorem fold_rep : ∀ (n : Nat) (a : Int × Int), (rep n).foldl dstep a = a
  | 0, a => rfl
  | n + 1, a => by
    have e : rep (n + 1) = ("t" : Str) :: rep n := List.replicate_succ
    rw [e, List.foldl_cons]
    have h : dstep a "t" = a := by
      unfold dstep
      rw [if_neg tT, if_neg tU]
    rw [h]
    exact fold_rep n a
theorem depth_rep (n : Nat) : depthT (rep n) = 0 := by
  unfold depthT
  rw [fold_rep]
theorem flat_rep : ∀ n : Nat, (List.replicate n [V.str "t"]).flatten = (rep n).map V.str
  | 0 => rfl
  | n + 1 => by
    rw [List.replicate_succ, List.flatten_cons, flat_rep n]
    rfl
theorem len_rep (n : Nat) : ((rep n).map (·.length)).sum = n := by
  induction n with
  | zero => rfl
  | succ n ih =>
    have e : rep (n + 1) = ("t" : Str) :: rep n := List.replicate_succ
    rw [e, List.map_cons, List.sum_cons, ih]
    have : ("t" : Str).length = 1 := by decide +kernel
    omega
theorem jt_rep (n : Nat) : (jt (rep n)).length ≤ 2 * n := by
  have := jt_len (rep n)
  unfold wt at this
  rw [len_rep, rep_len] at this
  omega
/-- the rows that are written in the law -/
def tDeep : List Str := ["[", "[", "[", "[", "[", "[", "5", "]", "]", "]", "]", "]", "]"]
def tEmp6 : List Str := ["[", "[", "[", "[", "[", "[", "]", "]", "]", "]", "]", "]"]
def tEmp5 : List Str := ["[", "[", "[", "[", "[", "]", "]", "]", "]", "]"]
def xDeep : Str := "[ [ [ [ [ [ 5 ] ] ] ] ] ]"
def xEmp6 : Str := "[ [ [ [ [ [ ] ] ] ] ] ]"
def xEmp5 : Str := "[ [ [ [ [ ] ] ] ] ]"
instance (t : Str) : Decidable (isTok t) := by
  unfold isTok
  infer_instance
theorem good_of {ts xs : List Str} (h1 : (ts.all fun t => decide (isTok t)) = true) (h2 : ts.length ≤ 200) (h3 : rd ts [[]] = some [xs]) : Good ts xs := ⟨fun t ht => of_decide_eq_true (List.all_eq_true.mp h1 t ht), h2, h3⟩
theorem good_deep : Good tDeep [xDeep] := good_of (by decide +kernel) (by decide) (by decide +kernel)
theorem good_emp5 : Good tEmp5 [xEmp5] := good_of (by decide +kernel) (by decide) (by decide +kernel)
theorem good_deeper : Good (tEmp6 ++ rep 54) (xEmp6 :: rep 54) := good_of (by decide +kernel) (by decide) (by decide +kernel)
theorem good_nil : Good [] [] := good_of (by decide) (by decide) rfl
theorem jt_deep : jt tDeep = xDeep := by decide +kernel
theorem jt_emp5 : jt tEmp5 = xEmp5 := by decide +kernel
theorem jt_deeper : xEmp6 ++ " " ++ jt (rep 54) = jt (tEmp6 ++ rep 54) := by decide +kernel
theorem good_w1 : Good (rep 60 ++ tDeep) (rep 60 ++ [xDeep]) := good_of (by decide +kernel) (by decide) (by decide +kernel)
theorem jt_w1 : jt (rep 60 ++ [xDeep]) = jt (rep 60 ++ tDeep) := by decide +kernel
theorem size_w1 : 60 < sizeT (rep 60 ++ tDeep) := by decide +kernel
def qt (ts : List Str) : List Str := ("[" : Str) :: (ts ++ [("]" : Str)])
theorem qx_w2 : qtext (jt (rep 60)) = jt (qt (rep 60)) := by decide +kernel
theorem good_w2 : Good (qt (rep 60)) [qtext (jt (rep 60))] := good_of (by decide +kernel) (by decide) (by decide +kernel)
theorem size_w2 : 60 < sizeT (qt (rep 60)) := by decide +kernel
theorem qx_w3 : qtext (jt tDeep) = jt (qt tDeep) := by decide +kernel
theorem good_w3 : Good (qt tDeep) [qtext (jt tDeep)] := good_of (by decide +kernel) (by decide) (by decide +kernel)
theorem size_w3 : ¬ 60 < sizeT (qt tDeep) := by decide +kernel
theorem depth_w3 : 6 < depthT (qt tDeep) := by decide +kernel
theorem qx_w4 : qtext (jt (tEmp6 ++ rep 54)) = jt (qt (tEmp6 ++ rep 54)) := by decide +kernel
theorem good_w4 : Good (qt (tEmp6 ++ rep 54)) [qtext (jt (tEmp6 ++ rep 54))] := good_of (by decide +kernel) (by decide) (by decide +kernel)
theorem size_w4 : 60 < sizeT (qt (tEmp6 ++ rep 54)) := by decide +kernel
theorem qx_w5 : qtext (jt tEmp5) = jt (qt tEmp5) := by decide +kernel
theorem good_w5 : Good (qt tEmp5) [qtext (jt tEmp5)] := good_of (by decide +kernel) (by decide) (by decide +kernel)
theorem size_w5 : ¬ 60 < sizeT (qt tEmp5) := by decide +kernel
theorem depth_w5 : ¬ 6 < depthT (qt tEmp5) := by decide +kernel
theorem text_w5 : jt (qt tEmp5) = xEmp6 := by decide +kernel
theorem qx_w6 : qtext (jt (rep 59)) = jt (qt (rep 59)) := by decide +kernel
theorem good_w6 : Good (qt (rep 59)) [qtext (jt (rep 59))] := good_of (by decide +kernel) (by decide) (by decide +kernel)
theorem size_w6 : sizeT (qt (rep 59)) = 60 := by decide +kernel
theorem depth_w6 : ¬ 6 < depthT (qt (rep 59)) := by decide +kernel
theorem fit_deep : ¬ 60 < sizeT tDeep ∧ ¬ 6 < depthT tDeep := by decide +kernel
theorem fit_deeper : ¬ 60 < sizeT (tEmp6 ++ rep 54) ∧ ¬ 6 < depthT (tEmp6 ++ rep 54) := by decide +kernel
theorem fit_emp5 : ¬ 60 < sizeT tEmp5 ∧ ¬ 6 < depthT tEmp5 := by decide +kernel
theorem fit_rep {n : Nat} (h : n ≤ 60) : ¬ 60 < sizeT (rep n) ∧ ¬ 6 < depthT (rep n) := by
  rw [size_rep, depth_rep]
  omega
/-- a program that fits -/
theorem Lim.of {CL CD : Addr} {ts : List Str} {H : Hp} {R : Prop} {E : XK} (h : ¬ 60 < sizeT ts ∧ ¬ 6 < depthT ts) (r : R) : Lim CL CD ts H R E := ⟨fun b => absurd b h.1, fun _ c => absurd c h.2, fun _ _ => r⟩
theorem voc_texts : ¬ vtext [(("t" : Str), (1 : Int), (1 : Int))] [("t" : Str)] = vtext [(("t" : Str), (1 : Int), (2 : Int))] [("t" : Str)] := by decide +kernel
theorem voc_len : (vtext [(("t" : Str), (1 : Int), (1 : Int))] [("t" : Str)]).length ≤ 1000 := by decide +kernel
end SQ6
namespace SQ6
open PySem L2 SQ
/-- the addresses that the law leans on -/
structure Ad where
  fL : Addr
  fO : Addr
  fH : Addr
  C : Addr
  CE : Addr
  fIn : Addr
  CP : Addr
  fPI : Addr
  fPt : Addr
  fWo : Addr
  fTh : Addr
  fQd : Addr
  fEP : Addr
  fRV : Addr
  fRP : Addr
  CI : Addr
  CPE : Addr
  CS : Addr
  fX : Addr
  fN : Addr
  fD : Addr
  fLg : Addr
  ea : EA
  dL : FuncData
  dO : FuncData
  dH : FuncData
  dPI : FuncData
  dPt : FuncData
  dWo : FuncData
  dTh : FuncData
  dQd : FuncData
structure All (P : Program) (w : World) (K : PySem.W.Frag) (mg : Str → Option Value) (base : Heap) (c Pt : Addr) (d : Ad) : Prop where
  BL : Blt mg
  B : B2 mg
  rp : mg "repr" = none
  DW : Drw K mg d.fL d.fO d.dL d.dO
  HD : HadD K mg d.fH d.dH
  HF : HadF K mg d.ea d.CI d.CPE d.CS d.fX d.fN d.fD d.fLg
  VV : VC K mg d.C
  TV : IC K d.C
  MKV : Mk K d.C d.fIn
  GIV : FnR P w K mg base (L2N.CX P w) 5 d.fIn (spInit d.C d.CE)
  PV : PC K mg d.CP
  MKP : Mk K d.CP d.fPI
  bPI : Binds K d.dPI ["self", "vocabulary", "text"] []
  GPI : FnOk P w K mg base (L2.CX P w) 5 d.fPI d.dPI ["self", "vocabulary", "text"] (spPI d.CP d.C d.ea.L d.ea.D)
  MPt : Meth K d.CP "part" d.fPt
  bPt : Binds K d.dPt ["self", "start", "end"] []
  GPt : FnOk P w K mg base (L2.CX P w) 7 d.fPt d.dPt ["self", "start", "end"] (spPt d.CP d.C d.ea.X d.ea.L d.ea.D)
  MWo : Meth K d.CP "without" d.fWo
  bWo : Binds K d.dWo ["self", "place"] []
  GWo : FnOk P w K mg base (L2.CX P w) 3 d.fWo d.dWo ["self", "place"] (spWo d.CP d.ea.X)
  MTh : Meth K d.CP "then" d.fTh
  bTh : Binds K d.dTh ["self", "other_program"] []
  GTh : FnOk P w K mg base (L2.CX P w) 7 d.fTh d.dTh ["self", "other_program"] (spTh K d.CP d.C d.ea.N d.ea.M d.ea.L d.ea.D)
  MQd : Meth K d.CP "quoted" d.fQd
  bQd : Binds K d.dQd ["self"] []
  GQd : FnOk P w K mg base (L2.CX P w) 7 d.fQd d.dQd ["self"] (spQd d.CP d.C d.ea.L d.ea.D)
  CQP : CmpC K d.CP d.fEP
  GEP : FnR P w K mg base CX0 2 d.fEP (spEqP d.CP d.C)
  RCV : RpC K d.C d.fRV
  GRV : FnR P w K mg base CX0 1 d.fRV (spRpV d.C)
  RCP : RpC K d.CP d.fRP
  GRP : FnR P w K mg base CX0 1 d.fRP (spRpP d.CP)
  TB : LamX.TabB base mg c Pt
  GL : FnOk P w K mg base CX0 1 d.fL d.dL ["_law_urn_here", "_law_many"] spLot
  GO : FnOk P w K mg base CX0 2 d.fO d.dO ["_law_urn_here", "_law_things"] (spOne K)
  kN : PySem.W.kitOne K (.type "NoneType") (.ref d.CP) = some false
  kS : PySem.W.kitOne K (.type "str") (.ref d.CP) = some false
  kT : PySem.W.kitOne K (.type "tuple") (.ref d.CP) = some false
  kI : PySem.W.kitOne K (.type "int") (.ref d.CP) = some false
  kL : PySem.W.kitOne K (.type "list") (.ref d.CP) = some false
  kV : PySem.W.kitOne K (.ref d.C) (.ref d.CP) = some false
/-- the slots -/
abbrev sg (u : Addr) (box ans due fit bad deep deeper far made many non odd wide : Option V) : L2.St := [some (.ref u), box, ans, due, fit, bad, deep, deeper, far, made, many, non, odd, wide, none]
abbrev g1 : List G3 := [(("t" : Str), (1 : Int), (1 : Int))]
abbrev yT : List Str := [("t" : Str)]
/-- a number whose text is short -/
def Sm (i : Int) : Prop := i.natAbs.log2 < 1920 ∧ ((toString i : String) : Str).length ≤ 100
theorem sm_small {i : Int} (h0 : -1 ≤ i) (h1 : i ≤ 60) : Sm i := by
  refine ⟨Nat.lt_of_le_of_lt (Nat.log2_le_self _) (by omega), ?_⟩
  by_cases e : i = -1
  · subst e
    decide +kernel
  · have all : ∀ k ∈ List.range 61, ((toString ((k : Nat) : Int) : String) : Str).length ≤ 100 := by decide +kernel
    have := all i.toNat (List.mem_range.mpr (by omega))
    rwa [Int.toNat_of_nonneg (by omega)] at this
/-- what is no place -/
inductive BadV (G : Hp) (n : Nat) : V → Prop
  | non : BadV G n .non
  | bl (b : Bool) : BadV G n (.bl b)
  | neg : BadV G n (.int (-1))
  | str : BadV G n (.str "0")
  | tup {p : Addr} (h : G p = some (.tup [])) : BadV G n (.ref p)
  | lst {p : Addr} (h : G p = some (.lst [.int 0])) : BadV G n (.ref p)
  | dic {p : Addr} (h : G p = some (.dK [])) : BadV G n (.ref p)
  | big {i : Int} (h : (n : Int) < i) (s : Sm i) : BadV G n (.int i)
inductive OddV (n : Nat) : V → Prop
  | non : OddV n .non
  | bl (b : Bool) : OddV n (.bl b)
  | neg : OddV n (.int (-1))
  | str : OddV n (.str "1")
  | big {i : Int} (h : (n : Int) < i) (s : Sm i) : OddV n (.int i)
section
variable {P : Program} {w : World} {K : PySem.W.Frag} {mg : Str → Option Value} {base : Heap} {fR c Pt : Addr} {d : Ad} {A : Around} {outer : List Env} {s : Shared} {H : Hp} {E : XK}
variable {T : TL} {u : Addr} {H0 : Hp}
theorem Vc.but {C o : Addr} {H H' : Hp} {gs : List G3} {ys : List Str} (hu : urnAt H u) (b : But u H H') (h : Vc C H o gs ys) : Vc C H' o gs ys := by
  obtain ⟨x, y, z, eu⟩ := hu
  obtain ⟨dx, dA, tN, kvs, e1, e2, e3, e4⟩ := h
  exact ⟨dx, dA, tN, kvs, b _ _ e1 (ne_of e1 eu (by intro z; cases z)), b _ _ e2 (ne_of e2 eu (by intro z; cases z)), b _ _ e3 (ne_of e3 eu (by intro z; cases z)), Paired.mapP e4 fun kv g ⟨q1, t0, q2, q3⟩ => ⟨q1, t0, q2, b _ _ q3 (ne_of q3 eu (by intro z; cases z))⟩⟩
theorem Pg.but {CP p o : Addr} {H H' : Hp} {ts xs : List Str} (hu : urnAt H u) (b : But u H H') (h : Pg CP H p o ts xs) : Pg CP H' p o ts xs := by
  obtain ⟨x, y, z, eu⟩ := hu
  obtain ⟨dx, r, tW, e1, e2⟩ := h
  exact ⟨dx, r, tW, b _ _ e1 (ne_of e1 eu (by intro z; cases z)), b _ _ e2 (ne_of e2 eu (by intro z; cases z))⟩
theorem r_0 (a : All P w K mg base c Pt d) (hr : Room 9 (Xr P w K mg base fR c A outer s H E).A) : ∃ t, PS (Xr P w K mg base fR c A outer s H E) (nth (defBody sRight) 0) t ∧ ∀ (D : Ends) (G : Hp), St3 T u H0 G →
    (∀ (G' : Hp) (o : Addr) (n : Nat), St3 T u H0 G' → Vc d.C G' o g1 yT → n ≤ 29 → D.nx (sg u (some (.ref o)) none none none none none none none none (some (.int n)) none none none) G') →
    t D (sg u none none none none none none none none none none none none none) G := by
  refine ⟨_, ps_asg (pe_tup (pa_cons (StX.pe_makeR a.MKV a.GIV (hr.mono (by decide)) rfl a.VV.g passN (pa_cons (pe_tup (pa_cons pe_str (pa_cons pe_int (pa_cons pe_int pa_nil)))) pa_nil)) (pa_cons (pe_call a.GL (hr.mono (by decide)) rfl a.DW.gL a.DW.FL.kp a.DW.bL .nil pass0 (pa_cons (pv 0) (pa_cons pe_int pa_nil))) pa_nil)))
    (pg_tup rfl (pgs_cons (pg_name (i := 1) scR.nd rfl (.inl rfl)) (pgs_cons (pg_name (i := 10) scR.nd rfl (.inr rfl)) pgs_nil))), fun D G S q => ?_⟩
  refine ⟨(by show 3 ≤ sizeLine; decide), fun t nt => ?_⟩
  have s1 : Same G (upd G t (.tup [.str "t", .int 1, .int 1])) := same_new (fun _ _ e => e) nt
  refine fun o dx no nd ne => voc_new no nd ne upd_same (by decide) fun G2 s2 V => ?_
  have S2 := (S.same s1).same s2
  refine ⟨_, rfl, u, 30, rfl, S2.urn, by decide, by decide, fun G3 m m0 m30 hu3 b3 => ⟨(by show 2 ≤ sizeLine; decide), fun pt npt => ?_⟩⟩
  have S3 := S2.butu b3 hu3
  have V3 := Vc.but S2.urn b3 V
  have s4 : Same G3 (upd G3 pt (.tup [.ref o, .int m])) := same_new (fun _ _ e => e) npt
  obtain ⟨n, rfl⟩ : ∃ n : Nat, m = n := ⟨m.toNat, by omega⟩
  exact ⟨pt, _, rfl, SqT.of upd_same, rfl, _, _, rfl, _, _, rfl, rfl, q _ o n (S3.same s4) (Vc.same s4 V3) (by omega)⟩
/-- ' '.join(['t'] * n), then Program(..) -/
theorem made_rep {CP C CL CD o : Addr} {G : Hp} {n : Nat} {Q : VK} {E : XK} (hn : n ≤ 60) {gs : List G3} (hV : Vc C G o gs yT) (hg : gnames gs = yT) (q : ∀ (p : Addr) (G' : Hp), Same G G' → Pg CP G' p o (rep n) (rep n) → Q (.ref p) G') : Mkd CP C CL CD o (jt (rep n)) G Q E :=
  ⟨gs, rep n, rep n, rfl, hV, hg, good_rep (by omega), Lim.of (fit_rep hn) q⟩
theorem r_1 (a : All P w K mg base c Pt d) (hr : Room 9 (Xr P w K mg base fR c A outer s H E).A) : ∃ t, PS (Xr P w K mg base fR c A outer s H E) (nth (defBody sRight) 1) t ∧ ∀ (D : Ends) (G : Hp) (o : Addr) (n : Nat), St3 T u H0 G → Vc d.C G o g1 yT → n ≤ 29 →
    (∀ (G' : Hp) (p : Addr), St3 T u H0 G' → Same G G' → Pg d.CP G' p o (rep n) (rep n) → D.nx (sg u (some (.ref o)) none none none none none none none (some (.ref p)) (some (.int n)) none none none) G') →
    t D (sg u (some (.ref o)) none none none none none none none none (some (.int n)) none none none) G := by
  refine ⟨_, ps_set (i := 9) scR.nd rfl (.inr rfl) (pe_make a.MKP a.GPI (hr.mono (by decide)) rfl a.PV.g a.bPI .nil passX (pa_cons (pv 1) (pa_cons (pe_join pe_str (pe_op op_rep (pe_lst (pa_cons pe_str pa_nil)) (pv 10))) pa_nil))), fun D G o n S hV hn q => ?_⟩
  refine ⟨_, rfl, ⟨_, rfl⟩, (by show 1 ≤ sizeLine; decide), fun l nl => ⟨_, rfl, l, n, [.str "t"], rfl, rfl, upd_same, by omega, by omega, ?_, fun p np => ?_⟩⟩
  · show 1 * (n : Int).toNat ≤ sizeLine
    exact Nat.le_of_lt (small1000 (by omega))
  have s1 : Same G (upd G l (.lst [.str "t"])) := same_new (fun _ _ e => e) nl
  have ef : (List.replicate (n : Int).toNat [V.str "t"]).flatten = (rep n).map V.str := by rw [Int.toNat_natCast]; exact flat_rep n
  rw [ef]
  have s2 : Same G (upd (upd G l (.lst [.str "t"])) p (.lst ((rep n).map V.str))) := same_new s1 np
  refine ⟨_, p, rep n, rfl, rfl, .inl (SqL.of upd_same), ?_, fun x dx nx ndx ne => ?_⟩
  · rw [len_rep, rep_len]
    show n + n * 1 ≤ _
    omega
  · exact Mkd.run (Q := fun v G' => D.nx (sg u (some (.ref o)) none none none none none none none (some v) (some (.int n)) none none none) G') nx ndx ne (made_rep (by omega) (Vc.same s2 hV) rfl fun p' G' s' hP => q G' p' ((S.same s2).same s') (st s2 s') hP)
theorem r_2 (a : All P w K mg base c Pt d) (hr : Room 9 (Xr P w K mg base fR c A outer s H E).A) : ∃ t, PS (Xr P w K mg base fR c A outer s H E) (nth (defBody sRight) 2) t ∧ ∀ (D : Ends) (G : Hp) (n : Nat) (a1 a9 : Option V), St3 T u H0 G → n ≤ 29 →
    (∀ (G' : Hp) (v : V), St3 T u H0 G' → But u G G' → BadV G' n v → D.nx (sg u a1 none none none (some v) none none none a9 (some (.int n)) none none none) G') →
    t D (sg u a1 none none none none none none none a9 (some (.int n)) none none none) G := by
  refine ⟨_, ps_set (i := 5) scR.nd rfl (.inr rfl) (pe_call a.GO (hr.mono (by decide)) rfl a.DW.gO a.DW.FO.kp a.DW.bO .nil pass0 (pa_cons (pv 0) (pa_cons (pe_lst (pa_cons pe_non (pa_cons pe_bl (pa_cons pe_bl (pa_cons (pe_un un_neg pe_int) (pa_cons pe_str (pa_cons (pe_tup pa_nil) (pa_cons (pe_lst (pa_cons pe_int pa_nil)) (pa_cons pe_dnewK (pa_cons (pe_op op_add (pv 10) pe_int) (pa_cons (pe_op op_pow pe_int pe_int) pa_nil))))))))))) pa_nil))), fun D G n a1 a9 S hn q => ?_⟩
  refine ⟨_, rfl, 1, rfl, (by show 0 ≤ sizeLine; decide), fun p1 n1 => ⟨(by show 1 ≤ sizeLine; decide), fun p2 n2 => fun p3 n3 => ?_⟩⟩
  have s1 : Same G (upd G p1 (.tup [])) := same_new (fun _ _ e => e) n1
  have h1 : upd G p1 (.tup []) p1 = some (.tup []) := upd_same
  generalize upd G p1 (.tup []) = G1 at s1 h1 n2 n3 ⊢
  have s2 : Same G1 (upd G1 p2 (.lst [.int 0])) := same_new (fun _ _ e => e) n2
  have h2 : upd G1 p2 (.lst [.int 0]) p2 = some (.lst [.int 0]) := upd_same
  generalize upd G1 p2 (.lst [.int 0]) = G2 at s2 h2 n3 ⊢
  have s3 : Same G2 (upd G2 p3 (.dK [])) := same_new (fun _ _ e => e) n3
  have h3 : upd G2 p3 (.dK []) p3 = some (.dK []) := upd_same
  generalize upd G2 p3 (.dK []) = G3' at s3 h3 ⊢
  refine ⟨_, rfl, _, _, rfl, rfl, _, _, rfl, rfl, ⟨by decide, by decide, by decide⟩, (by show 10 ≤ sizeLine; decide), fun p5 n5 => ?_⟩
  have s5 := fun xs => same_new (o := .lst xs) (fun _ _ e => e : Same G3' G3') n5
  have S4 : St3 T u H0 G3' := ((S.same s1).same s2).same s3
  have S5 := S4.same (s5 [.non, .bl true, .bl false, .int (-1), .str "0", .ref p1, .ref p2, .ref p3, .int ((n : Int) + 1), .int (10 ^ (19 : Int).toNat)])
  refine ⟨u, p5, _, rfl, S5.urn, urn_ne S4.urn n5, upd_same, (by show 0 < 10; decide), (by show 10 ≤ 1000; decide), fun G6 i v ev hu6 b6 => ?_⟩
  have bt : But u G G6 := (Same.but (st s1 (st s2 (st s3 (s5 _))))).trans b6
  refine q G6 v (S5.butu b6 hu6) bt ?_
  obtain ⟨x, y, z, eu⟩ := S5.urn
  have hm := List.mem_of_getElem? ev
  simp only [List.mem_cons, List.not_mem_nil, or_false] at hm
  rcases hm with rfl | rfl | rfl | rfl | rfl | rfl | rfl | rfl | rfl | rfl
  · exact .non
  · exact .bl true
  · exact .bl false
  · exact .neg
  · exact .str
  · have e := s5 [.non, .bl true, .bl false, .int (-1), .str "0", .ref p1, .ref p2, .ref p3, .int ((n : Int) + 1), .int (10 ^ (19 : Int).toNat)] _ _ (s3 _ _ (s2 _ _ h1))
    exact .tup (b6 _ _ e (ne_of e eu (by intro z; cases z)))
  · have e := s5 [.non, .bl true, .bl false, .int (-1), .str "0", .ref p1, .ref p2, .ref p3, .int ((n : Int) + 1), .int (10 ^ (19 : Int).toNat)] _ _ (s3 _ _ h2)
    exact .lst (b6 _ _ e (ne_of e eu (by intro z; cases z)))
  · have e := s5 [.non, .bl true, .bl false, .int (-1), .str "0", .ref p1, .ref p2, .ref p3, .int ((n : Int) + 1), .int (10 ^ (19 : Int).toNat)] _ _ h3
    exact .dic (b6 _ _ e (ne_of e eu (by intro z; cases z)))
  · exact .big (by omega) (sm_small (by omega) (by omega))
  · refine .big ?_ ⟨by decide +kernel, by decide +kernel⟩
    have : (10 : Int) ^ (19 : Int).toNat = 10000000000000000000 := by decide +kernel
    omega
theorem r_3 (a : All P w K mg base c Pt d) (hr : Room 9 (Xr P w K mg base fR c A outer s H E).A) : ∃ t, PS (Xr P w K mg base fR c A outer s H E) (nth (defBody sRight) 3) t ∧ ∀ (D : Ends) (G : Hp) (n : Nat) (a1 a5 a9 : Option V), St3 T u H0 G → n ≤ 29 →
    (∀ (G' : Hp) (v : V), St3 T u H0 G' → But u G G' → OddV n v → D.nx (sg u a1 none none none a5 none none none a9 (some (.int n)) none (some v) none) G') →
    t D (sg u a1 none none none a5 none none none a9 (some (.int n)) none none none) G := by
  refine ⟨_, ps_set (i := 12) scR.nd rfl (.inr rfl) (pe_call a.GO (hr.mono (by decide)) rfl a.DW.gO a.DW.FO.kp a.DW.bO .nil pass0 (pa_cons (pv 0) (pa_cons (pe_lst (pa_cons pe_non (pa_cons pe_bl (pa_cons (pe_un un_neg pe_int) (pa_cons pe_str (pa_cons (pe_op op_add (pv 10) pe_int) pa_nil)))))) pa_nil))), fun D G n a1 a5 a9 S hn q => ?_⟩
  refine ⟨_, rfl, 1, rfl, _, rfl, _, _, rfl, rfl, (by show 5 ≤ sizeLine; decide), fun p5 n5 => ?_⟩
  have s5 : Same G (upd G p5 (.lst [.non, .bl true, .int (-1), .str "1", .int ((n : Int) + 2)])) := same_new (fun _ _ e => e) n5
  have S5 := S.same s5
  refine ⟨u, p5, _, rfl, S5.urn, urn_ne S.urn n5, upd_same, (by show 0 < 5; decide), (by show 5 ≤ 1000; decide), fun G6 i v ev hu6 b6 => ?_⟩
  refine q G6 v (S5.butu b6 hu6) ((Same.but s5).trans b6) ?_
  have hm := List.mem_of_getElem? ev
  simp only [List.mem_cons, List.not_mem_nil, or_false] at hm
  rcases hm with rfl | rfl | rfl | rfl | rfl
  · exact .non
  · exact .bl true
  · exact .neg
  · exact .str
  · exact .big (by omega) (sm_small (by omega) (by omega))
end
end SQ6
namespace SQ6
open PySem L2 SQ
/-- what stands of the first part -/
structure Fx (d : Ad) (G : Hp) (o p : Addr) (n : Nat) (bad odd : V) : Prop where
  vo : Vc d.C G o g1 yT
  pg : Pg d.CP G p o (rep n) (rep n)
  b : BadV G n bad
  o' : OddV n odd
  n29 : n ≤ 29
/-- all stands but at D, and the tables -/
def Kp (D : Addr) (G G' : Hp) : Prop := ∀ b o, G b = some o → b ≠ D → (∀ ps, o ≠ .tbl ps) → G' b = some o
theorem Kp.same {D : Addr} {G G' : Hp} (s : Same G G') : Kp D G G' := fun b o e _ _ => s b o e
theorem Kp.ext {D : Addr} {G G' : Hp} (x : LamX.ExtN G G') : Kp D G G' := fun b o e _ t => x b o e t
theorem Kp.put {D : Addr} {G : Hp} {o : HO} : Kp D G (upd G D o) := fun b _ e n _ => by
  rw [upd_ne n]
  exact e
/-- a list of references -/
def Refs (xs : List V) : Prop := ∀ x ∈ xs, ∃ a, x = V.ref a
theorem refs_ne0 {xs : List V} (h : Refs xs) : xs ≠ [.int 0] := fun e => by
  obtain ⟨a, z⟩ := h (.int 0) (by rw [e]; exact List.mem_cons_self)
  cases z
theorem refs_neS {xs ys : List V} {t : Str} (h : Refs xs) : xs ≠ .str t :: ys := fun e => by
  obtain ⟨a, z⟩ := h (.str t) (by rw [e]; exact List.mem_cons_self)
  cases z
theorem Vc.kp {C o D : Addr} {G G' : Hp} {gs : List G3} {ys : List Str} {xs : List V} (k : Kp D G G') (hD : G D = some (.lst xs)) (h : Vc C G o gs ys) : Vc C G' o gs ys := by
  obtain ⟨dx, dA, tN, kvs, e1, e2, e3, e4⟩ := h
  exact ⟨dx, dA, tN, kvs, k _ _ e1 (ne_of e1 hD (by intro z; cases z)) (fun _ z => nomatch z), k _ _ e2 (ne_of e2 hD (by intro z; cases z)) (fun _ z => nomatch z), k _ _ e3 (ne_of e3 hD (by intro z; cases z)) (fun _ z => nomatch z), Paired.mapP e4 fun kv g ⟨q1, t0, q2, q3⟩ => ⟨q1, t0, q2, k _ _ q3 (ne_of q3 hD (by intro z; cases z)) (fun _ z => nomatch z)⟩⟩
theorem Pg.kp {CP p o D : Addr} {G G' : Hp} {ts xs : List Str} {ys : List V} (k : Kp D G G') (hD : G D = some (.lst ys)) (h : Pg CP G p o ts xs) : Pg CP G' p o ts xs := by
  obtain ⟨dx, r, tW, e1, e2⟩ := h
  exact ⟨dx, r, tW, k _ _ e1 (ne_of e1 hD (by intro z; cases z)) (fun _ z => nomatch z), k _ _ e2 (ne_of e2 hD (by intro z; cases z)) (fun _ z => nomatch z)⟩
theorem BadV.kp {D : Addr} {G G' : Hp} {n : Nat} {v : V} {xs : List V} (k : Kp D G G') (hD : G D = some (.lst xs)) (hx : xs ≠ [.int 0]) (h : BadV G n v) : BadV G' n v := by
  cases h with
  | non => exact .non
  | bl b => exact .bl b
  | neg => exact .neg
  | str => exact .str
  | tup e => exact .tup (k _ _ e (ne_of e hD (by intro z; cases z)) (fun _ z => nomatch z))
  | lst e => exact .lst (k _ _ e (ne_of e hD (by intro z; exact hx (HO.lst.inj z).symm)) (fun _ z => nomatch z))
  | dic e => exact .dic (k _ _ e (ne_of e hD (by intro z; cases z)) (fun _ z => nomatch z))
  | big h s => exact .big h s
theorem Fx.kp {d : Ad} {G G' : Hp} {o p D : Addr} {n : Nat} {bad odd : V} {xs : List V} (k : Kp D G G') (hD : G D = some (.lst xs)) (hx : Refs xs) (h : Fx d G o p n bad odd) : Fx d G' o p n bad odd := ⟨Vc.kp k hD h.vo, Pg.kp k hD h.pg, h.b.kp k hD (refs_ne0 hx), h.o', h.n29⟩
theorem Fx.same {d : Ad} {G G' : Hp} {o p : Addr} {n : Nat} {bad odd : V} (s : Same G G') (h : Fx d G o p n bad odd) : Fx d G' o p n bad odd := by
  refine ⟨Vc.same s h.vo, h.pg.same s, ?_, h.o', h.n29⟩
  cases h.b with
  | non => exact .non
  | bl b => exact .bl b
  | neg => exact .neg
  | str => exact .str
  | tup e => exact .tup (s _ _ e)
  | lst e => exact .lst (s _ _ e)
  | dic e => exact .dic (s _ _ e)
  | big h1 s1 => exact .big h1 s1
theorem Fx.ext {d : Ad} {G G' : Hp} {o p : Addr} {n : Nat} {bad odd : V} (s : LamX.ExtN G G') (h : Fx d G o p n bad odd) : Fx d G' o p n bad odd := by
  obtain ⟨⟨dx, dA, tN, kvs, e1, e2, e3, e4⟩, ⟨dp, r, tW, f1, f2⟩, b, o', n29⟩ := h
  refine ⟨⟨dx, dA, tN, kvs, s _ _ e1 (fun _ z => nomatch z), s _ _ e2 (fun _ z => nomatch z), s _ _ e3 (fun _ z => nomatch z), Paired.mapP e4 fun kv g ⟨q1, t0, q2, q3⟩ => ⟨q1, t0, q2, s _ _ q3 (fun _ z => nomatch z)⟩⟩, ⟨dp, r, tW, s _ _ f1 (fun _ z => nomatch z), s _ _ f2 (fun _ z => nomatch z)⟩, ?_, o', n29⟩
  cases b with
  | non => exact .non
  | bl b => exact .bl b
  | neg => exact .neg
  | str => exact .str
  | tup e => exact .tup (s _ _ e (fun _ z => nomatch z))
  | lst e => exact .lst (s _ _ e (fun _ z => nomatch z))
  | dic e => exact .dic (s _ _ e (fun _ z => nomatch z))
  | big h s => exact .big h s
/-- answers: lists of a text and what follows -/
def Rs (G : Hp) (rs : List V) (ws : List (Str × List V)) : Prop := Paired (fun r q => ∃ a, r = V.ref a ∧ G a = some (.lst (.str q.1 :: q.2))) rs ws
theorem Rs.refs {G : Hp} {rs : List V} {ws : List (Str × List V)} (h : Rs G rs ws) : Refs rs := by
  intro x hx
  induction h with
  | nil => cases hx
  | cons r t ih =>
    rcases List.mem_cons.mp hx with e | hx
    · obtain ⟨a, e1, _⟩ := r
      exact ⟨a, e.trans e1⟩
    · exact ih hx
theorem Rs.kp {D : Addr} {G G' : Hp} {rs xs : List V} {ws : List (Str × List V)} (k : Kp D G G') (hD : G D = some (.lst xs)) (hx : Refs xs) (h : Rs G rs ws) : Rs G' rs ws :=
  Paired.mapP h fun _ q ⟨a, e1, e2⟩ => ⟨a, e1, k _ _ e2 (ne_of e2 hD (by intro z; exact refs_neS hx (HO.lst.inj z).symm)) (fun _ z => nomatch z)⟩
theorem Rs.same {G G' : Hp} {rs : List V} {ws : List (Str × List V)} (s : Same G G') (h : Rs G rs ws) : Rs G' rs ws := Paired.mapP h fun _ q ⟨a, e1, e2⟩ => ⟨a, e1, s _ _ e2⟩
theorem Rs.snoc {G : Hp} : ∀ {rs : List V} {ws : List (Str × List V)} {r : V} {q : Str × List V}, Rs G rs ws → (∃ a, r = V.ref a ∧ G a = some (.lst (.str q.1 :: q.2))) → Rs G (rs ++ [r]) (ws ++ [q])
  | _, _, _, _, .nil, h => .cons h .nil
  | _, _, _, _, .cons r t, h => .cons r (Rs.snoc t h)
/-- the answers so far -/
structure An (T : TL) (u : Addr) (H0 G : Hp) (D : Addr) (ws : List (Str × List V)) : Prop where
  S : St3 T u H0 G
  rs : ∃ rs, G D = some (.lst rs) ∧ Rs G rs ws
  fr : ∀ ob, H0 D = some ob → ∃ ps, ob = .tbl ps
  ne : D ≠ u
  few : ws.length ≤ 100
section
variable {T : TL} {u : Addr} {H0 G G' : Hp} {D : Addr} {ws : List (Str × List V)}
theorem An.same (h : An T u H0 G D ws) (s : Same G G') : An T u H0 G' D ws := by
  obtain ⟨rs, e, r⟩ := h.rs
  exact ⟨h.S.same s, ⟨rs, s _ _ e, r.same s⟩, h.fr, h.ne, h.few⟩
theorem An.ext (h : An T u H0 G D ws) (x : LamX.ExtN G G') (t : LamX.Tabs T G') : An T u H0 G' D ws := by
  obtain ⟨rs, e, r⟩ := h.rs
  exact ⟨h.S.ext x t, ⟨rs, x _ _ e (fun _ z => nomatch z), Paired.mapP r fun _ q ⟨a, e1, e2⟩ => ⟨a, e1, x _ _ e2 (fun _ z => nomatch z)⟩⟩, h.fr, h.ne, h.few⟩
/-- one more answer -/
theorem An.app {pr : Addr} {q : Str × List V} {rs : List V} (h : An T u H0 G D ws) (e : G D = some (.lst rs)) (hp : G pr = some (.lst (.str q.1 :: q.2))) (l : ws.length + 1 ≤ 100) : rs.length < sizeLine ∧ An T u H0 (upd G D (.lst (rs ++ [.ref pr]))) D (ws ++ [q]) ∧ Refs rs := by
  obtain ⟨rs', e', r⟩ := h.rs
  obtain rfl : rs = rs' := by
    rw [e] at e'
    exact HO.lst.inj (Option.some.inj e')
  have rf := r.refs
  refine ⟨small1000 (by rw [Paired.length r]; omega), ⟨h.S.put e h.fr h.ne, ⟨_, upd_same, ?_⟩, h.fr, h.ne, by rw [List.length_append]; exact l⟩, rf⟩
  exact (r.snoc ⟨pr, rfl, hp⟩).kp Kp.put e rf
end
/-! ### what is refused -/
theorem BadV.kd {G : Hp} {n : Nat} {v : V} (h : BadV G n v) {b : Int} (hb : b ≤ n) : Bad G v 0 b := by
  cases h with
  | non => exact ⟨_, .non, .inl rfl⟩
  | bl b => exact ⟨_, .bl b, .inl rfl⟩
  | neg => exact ⟨_, .int _, .inr ⟨_, rfl, by omega⟩⟩
  | str => exact ⟨_, .str _ (by decide +kernel), .inl rfl⟩
  | tup e => exact ⟨_, .tup e, .inl rfl⟩
  | lst e => exact ⟨_, .lst e, .inl rfl⟩
  | dic e => exact ⟨_, .dic e, .inl rfl⟩
  | big h s => exact ⟨_, .int _, .inr ⟨_, rfl, by omega⟩⟩
theorem OddV.kd {G : Hp} {n : Nat} {v : V} (h : OddV n v) : Bad G v 0 n := by
  cases h with
  | non => exact ⟨_, .non, .inl rfl⟩
  | bl b => exact ⟨_, .bl b, .inl rfl⟩
  | neg => exact ⟨_, .int _, .inr ⟨_, rfl, by omega⟩⟩
  | str => exact ⟨_, .str _ (by decide +kernel), .inl rfl⟩
  | big h s => exact ⟨_, .int _, .inr ⟨_, rfl, by omega⟩⟩
end SQ6
namespace SQ6
open PySem L2 SQ
section
variable {P : Program} {w : World} {K : PySem.W.Frag} {mg : Str → Option Value} {base : Heap} {fR c Pt : Addr} {d : Ad} {A : Around} {outer : List Env} {s : Shared} {H : Hp} {E : XK}
variable {u : Addr} {H0 : Hp}
abbrev TT (Pt : Addr) : TL := [(Pt, lamN)]
theorem hmT (Pt : Addr) : (Pt, lamN) ∈ TT Pt := List.mem_singleton.mpr rfl
theorem huT (Pt : Addr) : ∀ p ∈ TT Pt, p.1 = Pt → p.2 = lamN := fun p hp _ => by
  rw [List.mem_singleton.mp hp]
abbrev ip (v : V) : Str × List V := ("InvalidPlace", [v, .bl true])
/-- the slots of the first part -/
abbrev s1 (u o p : Addr) (n : Nat) (bad odd : V) (ans due : Option V) : L2.St := sg u (some (.ref o)) ans due none (some bad) none none none (some (.ref p)) (some (.int n)) none (some odd) none
theorem r_4 (a : All P w K mg base c Pt d) (hr : Room 9 (Xr P w K mg base fR c A outer s H E).A) : ∃ t, PS (Xr P w K mg base fR c A outer s H E) (nth (defBody sRight) 4) t ∧ ∀ (D : Ends) (G : Hp) (o p : Addr) (n : Nat) (bad odd : V), St3 (TT Pt) u H0 G → Fx d G o p n bad odd →
    (∀ (G' : Hp) (b : Addr), An (TT Pt) u H0 G' b [ip bad] → Fx d G' o p n bad odd → D.nx (s1 u o p n bad odd (some (.ref b)) none) G') →
    t D (s1 u o p n bad odd none none) G := by
  refine ⟨_, ps_set (i := 2) scR.nd rfl (.inl rfl) (pe_lst (pa_cons (pe_had a.HD a.B a.HF a.TB rfl (hmT Pt) (huT Pt) hr (LamX.lamS_by (sc := defScope sRight) (by decide +kernel)) rfl (fun _ _ _ _ _ => rfl)
      (fun A outer s H E f c' hr => pe_meth (pv 9) a.PV.cl a.MPt a.GPt hr a.bPt .nil (passes_call (takes_of rfl rfl rfl rfl) (fun _ _ _ _ h => h)) (pa_cons (pv 5) (pa_cons (pv 12) pa_nil)))) pa_nil)), fun D G o p n bad odd S F q => ?_⟩
  refine ⟨S.tab, fun G1 x1 t1 => ?_⟩
  have S1 := S.ext x1 t1
  have F1 := F.ext x1
  have hP := F1.pg
  obtain ⟨dx, r, tW, hp, _⟩ := hP
  refine ⟨_, rfl, p, dx, _, rfl, hp, rfl, _, rfl, _, rfl, ?_⟩
  dsimp only [tNil]
  refine ⟨p, o, rep n, rep n, bad, odd, rfl, F1.pg, .inl ⟨F1.b.kd (by rw [rep_len]; exact Int.le_refl _), fun e G2 s2 he => .inl ⟨e, bad, rfl, rfl, he, fun pr npr => ?_⟩⟩⟩
  have s3 : Same G2 (upd G2 pr (.lst [.str "InvalidPlace", bad, .bl true])) := same_new (fun _ _ e => e) npr
  have h3 : upd G2 pr (.lst [.str "InvalidPlace", bad, .bl true]) pr = some (.lst [.str "InvalidPlace", bad, .bl true]) := upd_same
  generalize upd G2 pr (.lst [.str "InvalidPlace", bad, .bl true]) = G3 at s3 h3 ⊢
  refine ⟨(by show 1 ≤ sizeLine; decide), fun b nb => ?_⟩
  have S3 := (S1.same s2).same s3
  have s4 : Same G3 (upd G3 b (.lst [.ref pr])) := same_new (fun _ _ e => e) nb
  refine q _ b ⟨S3.same s4, ⟨_, upd_same, .cons ⟨pr, rfl, s4 _ _ h3⟩ .nil⟩, S3.new nb, (urn_ne S3.urn nb).symm, (by show 1 ≤ 100; decide)⟩ (F1.same (st s2 (st s3 s4)))
/-- one more answer of the first part -/
theorem app1 {T : TL} {D : Ends} {G1 G2 : Hp} {o p b pr : Addr} {n : Nat} {bad odd v : V} {ws : List (Str × List V)} (h : An T u H0 G1 b ws) (F : Fx d G1 o p n bad odd) (s2 : Same G1 G2) (npr : G2 pr = none) (l : ws.length + 1 ≤ 100)
    (q : ∀ G' : Hp, An T u H0 G' b (ws ++ [ip v]) → Fx d G' o p n bad odd → D.nx (s1 u o p n bad odd (some (.ref b)) none) G') :
    ∃ (l : Addr) (xs : List V) (y : V), V.ref b = .ref l ∧ [V.ref pr] = [y] ∧ upd G2 pr (.lst [.str "InvalidPlace", v, .bl true]) l = some (.lst xs) ∧ xs.length < sizeLine ∧ D.nx (s1 u o p n bad odd (some (.ref b)) none) (upd (upd G2 pr (.lst [.str "InvalidPlace", v, .bl true])) l (.lst (xs ++ [y]))) := by
  have s3 : Same G2 (upd G2 pr (.lst [.str "InvalidPlace", v, .bl true])) := same_new (fun _ _ e => e) npr
  have h3 : upd G2 pr (.lst [.str "InvalidPlace", v, .bl true]) pr = some (.lst [.str "InvalidPlace", v, .bl true]) := upd_same
  generalize upd G2 pr (.lst [.str "InvalidPlace", v, .bl true]) = G3 at s3 h3 ⊢
  have h4 := h.same (st s2 s3)
  obtain ⟨rs, e, _⟩ := h4.rs
  obtain ⟨l1, l2, l3⟩ := h4.app (q := ip v) e h3 l
  exact ⟨b, rs, .ref pr, rfl, rfl, e, l1, q _ l2 ((F.same (st s2 s3)).kp Kp.put e l3)⟩
theorem r_5 (a : All P w K mg base c Pt d) (hr : Room 9 (Xr P w K mg base fR c A outer s H E).A) : ∃ t, PS (Xr P w K mg base fR c A outer s H E) (nth (defBody sRight) 5) t ∧ ∀ (D : Ends) (G : Hp) (o p b : Addr) (n : Nat) (bad odd : V) (ws : List (Str × List V)), An (TT Pt) u H0 G b ws → ws.length ≤ 10 → Fx d G o p n bad odd →
    (∀ G' : Hp, An (TT Pt) u H0 G' b (ws ++ [ip odd]) → Fx d G' o p n bad odd → D.nx (s1 u o p n bad odd (some (.ref b)) none) G') →
    t D (s1 u o p n bad odd (some (.ref b)) none) G := by
  refine ⟨_, ps_expr (pe_bm PySem.F.plainAttrs_list PySem.F.slot_list_append PySem.F.type_list_append mt_append (pv 2) (pa_cons (pe_had a.HD a.B a.HF a.TB rfl (hmT Pt) (huT Pt) hr (LamX.lamS_by (sc := defScope sRight) (by decide +kernel)) rfl (fun _ _ _ _ _ => rfl)
      (fun A outer s H E f c' hr => pe_meth (pv 9) a.PV.cl a.MPt a.GPt hr a.bPt .nil (passes_call (takes_of rfl rfl rfl rfl) (fun _ _ _ _ h => h)) (pa_cons pe_int (pa_cons (pv 12) pa_nil)))) pa_nil)), fun D G o p b n bad odd ws h l F q => ?_⟩
  obtain ⟨rs, e, _⟩ := h.rs
  refine ⟨_, rfl, .inl ⟨rfl, _, SqL.of e⟩, h.S.tab, fun G1 x1 t1 => ?_⟩
  have h1 := h.ext x1 t1
  have F1 := F.ext x1
  have hP := F1.pg
  obtain ⟨dx, r, tW, hp, _⟩ := hP
  refine ⟨_, rfl, p, dx, _, rfl, hp, rfl, _, rfl, ?_⟩
  dsimp only [tNil]
  refine ⟨p, o, rep n, rep n, .int 0, odd, rfl, F1.pg, .inr ⟨0, rfl, Nat.zero_le _, .inl ⟨?_, fun e G2 s2 he => .inl ⟨e, odd, rfl, rfl, he, fun pr npr => ?_⟩⟩⟩⟩
  · rw [rep_len]
    exact F1.o'.kd
  · exact app1 h1 F1 s2 npr (by omega) q
theorem r_6 (a : All P w K mg base c Pt d) (hr : Room 9 (Xr P w K mg base fR c A outer s H E).A) : ∃ t, PS (Xr P w K mg base fR c A outer s H E) (nth (defBody sRight) 6) t ∧ ∀ (D : Ends) (G : Hp) (o p b : Addr) (n : Nat) (bad odd : V) (ws : List (Str × List V)), An (TT Pt) u H0 G b ws → ws.length ≤ 10 → Fx d G o p n bad odd →
    (∀ G' : Hp, An (TT Pt) u H0 G' b (ws ++ [ip (.int ((n : Int) - 1))]) → Fx d G' o p n bad odd → D.nx (s1 u o p n bad odd (some (.ref b)) none) G') →
    t D (s1 u o p n bad odd (some (.ref b)) none) G := by
  refine ⟨_, ps_expr (pe_bm PySem.F.plainAttrs_list PySem.F.slot_list_append PySem.F.type_list_append mt_append (pv 2) (pa_cons (pe_had a.HD a.B a.HF a.TB rfl (hmT Pt) (huT Pt) hr (LamX.lamS_by (sc := defScope sRight) (by decide +kernel)) rfl (fun _ _ _ _ _ => rfl)
      (fun A outer s H E f c' hr => pe_meth (pv 9) a.PV.cl a.MPt a.GPt hr a.bPt .nil (passes_call (takes_of rfl rfl rfl rfl) (fun _ _ _ _ h => h)) (pa_cons (pv 10) (pa_cons (pe_op op_sub (pv 10) pe_int) pa_nil)))) pa_nil)), fun D G o p b n bad odd ws h l F q => ?_⟩
  obtain ⟨rs, e, _⟩ := h.rs
  refine ⟨_, rfl, .inl ⟨rfl, _, SqL.of e⟩, h.S.tab, fun G1 x1 t1 => ?_⟩
  have h1 := h.ext x1 t1
  have F1 := F.ext x1
  have hP := F1.pg
  obtain ⟨dx, r, tW, hp, _⟩ := hP
  refine ⟨_, rfl, p, dx, _, rfl, hp, rfl, _, rfl, _, rfl, _, _, rfl, rfl, ?_⟩
  dsimp only [tNil]
  refine ⟨p, o, rep n, rep n, .int n, .int ((n : Int) - 1), rfl, F1.pg, .inr ⟨n, rfl, by rw [rep_len]; exact Nat.le_refl _, .inl ⟨⟨_, .int _, .inr ⟨_, rfl, by omega⟩⟩, fun e G2 s2 he => .inl ⟨e, _, rfl, rfl, he, fun pr npr => ?_⟩⟩⟩⟩
  exact app1 h1 F1 s2 npr (by omega) q
theorem r_7 (a : All P w K mg base c Pt d) (hr : Room 9 (Xr P w K mg base fR c A outer s H E).A) : ∃ t, PS (Xr P w K mg base fR c A outer s H E) (nth (defBody sRight) 7) t ∧ ∀ (D : Ends) (G : Hp) (o p b : Addr) (n : Nat) (bad odd : V) (ws : List (Str × List V)), An (TT Pt) u H0 G b ws → ws.length ≤ 10 → Fx d G o p n bad odd →
    (∀ G' : Hp, An (TT Pt) u H0 G' b (ws ++ [ip (.int n)]) → Fx d G' o p n bad odd → D.nx (s1 u o p n bad odd (some (.ref b)) none) G') →
    t D (s1 u o p n bad odd (some (.ref b)) none) G := by
  refine ⟨_, ps_expr (pe_bm PySem.F.plainAttrs_list PySem.F.slot_list_append PySem.F.type_list_append mt_append (pv 2) (pa_cons (pe_had a.HD a.B a.HF a.TB rfl (hmT Pt) (huT Pt) hr (LamX.lamS_by (sc := defScope sRight) (by decide +kernel)) rfl (fun _ _ _ _ _ => rfl)
      (fun A outer s H E f c' hr => pe_meth (pv 9) a.PV.cl a.MWo a.GWo (hr.mono (by decide)) a.bWo .nil (passes_call (takes_of rfl rfl rfl rfl) (fun _ _ _ _ h => h)) (pa_cons (pv 10) pa_nil))) pa_nil)), fun D G o p b n bad odd ws h l F q => ?_⟩
  obtain ⟨rs, e, _⟩ := h.rs
  refine ⟨_, rfl, .inl ⟨rfl, _, SqL.of e⟩, h.S.tab, fun G1 x1 t1 => ?_⟩
  have h1 := h.ext x1 t1
  have F1 := F.ext x1
  have hP := F1.pg
  obtain ⟨dx, r, tW, hp, _⟩ := hP
  refine ⟨_, rfl, p, dx, _, rfl, hp, rfl, _, rfl, ?_⟩
  dsimp only [tNil]
  refine ⟨p, o, rep n, rep n, .int n, rfl, F1.pg, ⟨_, .int _, .inr ⟨_, rfl, by rw [rep_len]; omega⟩⟩, fun e G2 s2 he => .inl ⟨e, _, rfl, rfl, he, fun pr npr => ?_⟩⟩
  exact app1 h1 F1 s2 npr (by omega) q
theorem r_8 (a : All P w K mg base c Pt d) (hr : Room 9 (Xr P w K mg base fR c A outer s H E).A) : ∃ t, PS (Xr P w K mg base fR c A outer s H E) (nth (defBody sRight) 8) t ∧ ∀ (D : Ends) (G : Hp) (o p b : Addr) (n : Nat) (bad odd : V) (ws : List (Str × List V)), An (TT Pt) u H0 G b ws → ws.length ≤ 10 → Fx d G o p n bad odd →
    (∀ G' : Hp, An (TT Pt) u H0 G' b (ws ++ [ip bad]) → Fx d G' o p n bad odd → D.nx (s1 u o p n bad odd (some (.ref b)) none) G') →
    t D (s1 u o p n bad odd (some (.ref b)) none) G := by
  refine ⟨_, ps_expr (pe_bm PySem.F.plainAttrs_list PySem.F.slot_list_append PySem.F.type_list_append mt_append (pv 2) (pa_cons (pe_had a.HD a.B a.HF a.TB rfl (hmT Pt) (huT Pt) hr (LamX.lamS_by (sc := defScope sRight) (by decide +kernel)) rfl (fun _ _ _ _ _ => rfl)
      (fun A outer s H E f c' hr => pe_meth (pv 9) a.PV.cl a.MWo a.GWo (hr.mono (by decide)) a.bWo .nil (passes_call (takes_of rfl rfl rfl rfl) (fun _ _ _ _ h => h)) (pa_cons (pv 5) pa_nil))) pa_nil)), fun D G o p b n bad odd ws h l F q => ?_⟩
  obtain ⟨rs, e, _⟩ := h.rs
  refine ⟨_, rfl, .inl ⟨rfl, _, SqL.of e⟩, h.S.tab, fun G1 x1 t1 => ?_⟩
  have h1 := h.ext x1 t1
  have F1 := F.ext x1
  have hP := F1.pg
  obtain ⟨dx, r, tW, hp, _⟩ := hP
  refine ⟨_, rfl, p, dx, _, rfl, hp, rfl, _, rfl, ?_⟩
  dsimp only [tNil]
  refine ⟨p, o, rep n, rep n, bad, rfl, F1.pg, F1.b.kd (by rw [rep_len]; omega), fun e G2 s2 he => .inl ⟨e, _, rfl, rfl, he, fun pr npr => ?_⟩⟩
  exact app1 h1 F1 s2 npr (by omega) q
end
end SQ6
namespace SQ6
open PySem L2 SQ
section
variable {P : Program} {w : World} {K : PySem.W.Frag} {mg : Str → Option Value} {base : Heap} {fR c Pt : Addr} {d : Ad} {A : Around} {outer : List Env} {s : Shared} {H : Hp} {E : XK}
variable {u : Addr} {H0 : Hp}
abbrev due1 (n : Nat) (bad odd : V) : List V := [bad, odd, .int ((n : Int) - 1), .int n, bad]
theorem r_9 (a : All P w K mg base c Pt d) (hr : Room 9 (Xr P w K mg base fR c A outer s H E).A) : ∃ t, PS (Xr P w K mg base fR c A outer s H E) (nth (defBody sRight) 9) t ∧ ∀ (D : Ends) (G : Hp) (o p b : Addr) (n : Nat) (bad odd : V) (ws : List (Str × List V)), An (TT Pt) u H0 G b ws → Fx d G o p n bad odd →
    (∀ (G' : Hp) (e : Addr) (rs : List V), An (TT Pt) u H0 G' b ws → Fx d G' o p n bad odd → G' e = some (.lst rs) → Rs G' rs ((due1 n bad odd).map ip) → D.nx (s1 u o p n bad odd (some (.ref b)) (some (.ref e))) G') →
    t D (s1 u o p n bad odd (some (.ref b)) none) G := by
  refine ⟨_, (ps_setLc (i := 3) (own := [("_law_each", 14)]) (g := gName 14) (tt := tYes) rfl scR.nd rfl rfl rfl (pi_list (pe_lst (pa_cons (pv 5) (pa_cons (pv 12) (pa_cons (pe_op op_sub (pv 10) pe_int) (pa_cons (pv 10) (pa_cons (pv 5) pa_nil))))))) (blkOk_by (N := nR) (sc := defScope sRight) (by decide +kernel)) (fun _ _ _ _ _ => pg_name (i := 14) scR.nd rfl (.inl rfl)) (fun _ _ _ _ _ => pts_nil)
      (fun _ _ _ _ _ => pe_lst (pa_cons pe_str (pa_cons (pv 14) (pa_cons pe_bl pa_nil))))), fun D G o p b n bad odd ws h F q => ?_⟩
  refine ⟨_, rfl, _, rfl, _, rfl, _, _, rfl, rfl, _, rfl, _, rfl, (by show 5 ≤ sizeLine; decide), fun l nl => ?_⟩
  have s1' : Same G (upd G l (.lst (due1 n bad odd))) := same_new (fun _ _ e => e) nl
  have hl : upd G l (.lst (due1 n bad odd)) l = some (.lst (due1 n bad odd)) := upd_same
  show ∃ _, _
  refine ⟨l, rfl, ⟨_, SqL.of hl⟩, fun D2 nD2 => ?_⟩
  generalize upd G l (.lst (due1 n bad odd)) = G1 at s1' hl nD2 ⊢
  have h1 := h.same s1'
  have F1 := F.same s1'
  have s2 : Same G1 (upd G1 D2 (.lst [])) := same_new (fun _ _ e => e) nD2
  refine lc_list (K := K) (a := l) (xs := due1 n bad odd) (fun i G2 => Same G1 G2 ∧ ∃ rs : List V, G2 D2 = some (.lst rs) ∧ Rs G2 rs (((due1 n bad odd).take i).map ip)) ⟨s2, [], upd_same, .nil⟩ (fun i G2 _ h => SqL.of (h.1 _ _ hl)) ?_ ?_
  · rintro i v G2 hi ⟨sG, rs, hD, hR⟩
    have li : i < 5 := (List.getElem?_eq_some_iff.mp hi).1
    refine ⟨rfl, keptT ⟨_, rfl, (by show 3 ≤ sizeLine; decide), fun pr npr => ?_⟩⟩
    have s3 : Same G2 (upd G2 pr (.lst [.str "InvalidPlace", v, .bl true])) := same_new (fun _ _ e => e) npr
    have h3 : upd G2 pr (.lst [.str "InvalidPlace", v, .bl true]) pr = some (.lst [.str "InvalidPlace", v, .bl true]) := upd_same
    generalize upd G2 pr (.lst [.str "InvalidPlace", v, .bl true]) = G3 at s3 h3 ⊢
    have hR3 := hR.same s3
    have hlen : rs.length ≤ 5 := by
      rw [Paired.length hR, List.length_map, List.length_take]
      omega
    refine ⟨rs, s3 _ _ hD, small1000 (by omega), ?_, rs ++ [.ref pr], upd_same, ?_⟩
    · intro b ob e
      rw [upd_ne (ne_of_none e nD2)]
      exact s3 _ _ (sG _ _ e)
    · rw [take_more hi, List.map_append]
      exact (hR3.snoc (q := ip v) ⟨pr, rfl, h3⟩).kp Kp.put (s3 _ _ hD) hR.refs
  · rintro G2 ⟨sG, rs, hD, hR⟩
    exact q G2 D2 rs (h1.same sG) (F1.same sG) hD hR
end
end SQ6
namespace SQ6
open PySem L2 SQ
/-- what a shown value may hold -/
def Cont (G : Hp) (m : Addr) : Prop := G m = some (.tup []) ∨ G m = some (.lst [.int 0]) ∨ G m = some (.dK []) ∨ G m = some (.tup [.str "t"]) ∨ ∃ q, G m = some (.lst [.ref q])
section
variable {X : Cx} {G : Hp} {n : Nat} {v : V} {M : List Addr}
theorem cont_neS {a m : Addr} {t : Str} {vs : List V} (ha : G a = some (.lst (.str t :: vs))) (h : Cont G m) : a ≠ m := by
  rintro rfl
  rcases h with h | h | h | h | ⟨q, h⟩ <;> (rw [ha] at h; cases h)
theorem cont_neR {a m : Addr} {rs : List V} (ha : G a = some (.lst rs)) (hr : Refs rs) (h2 : 2 ≤ rs.length) (h : Cont G m) : a ≠ m := by
  rintro rfl
  rcases h with h | h | h | h | ⟨q, h⟩
  · rw [ha] at h
    cases h
  · rw [ha] at h
    exact refs_ne0 hr (HO.lst.inj (Option.some.inj h))
  · rw [ha] at h
    cases h
  · rw [ha] at h
    cases h
  · rw [ha] at h
    have e := HO.lst.inj (Option.some.inj h)
    rw [e] at h2
    exact absurd h2 (by show ¬ 2 ≤ 1; decide)
/-- a value that is shown -/
def Shw (X : Cx) (G : Hp) (v : V) (z : Str) (M : List Addr) : Prop := RpX X G 2 M v z ∧ z.length ≤ 300 ∧ ∀ m ∈ M, Cont G m
theorem bad_shown (h : BadV G n v) : ∃ z M, Shw X G v z M := by
  cases h with
  | non => exact ⟨_, [], RpX.non, by decide +kernel, fun _ z => nomatch z⟩
  | bl b => exact ⟨_, [], RpX.bl b, by cases b <;> decide +kernel, fun _ z => nomatch z⟩
  | neg => exact ⟨_, [], RpX.int (by decide +kernel), by decide +kernel, fun _ z => nomatch z⟩
  | str => exact ⟨_, [], RpX.str (by decide +kernel), by decide +kernel, fun _ z => nomatch z⟩
  | @tup p e => exact ⟨_, [p], RpX.tupS (l := []) e (fun _ z => nomatch z), by decide +kernel, fun m hm => by rw [List.mem_singleton.mp hm]; exact .inl e⟩
  | @lst p e => exact ⟨_, [p], RpX.list e (.cons (RpX.int (by decide +kernel)) .nil) (fun z => nomatch z) (by decide), by decide +kernel, fun m hm => by rw [List.mem_singleton.mp hm]; exact .inr (.inl e)⟩
  | @dic p e => exact ⟨_, [p], RpX.dic e, by decide +kernel, fun m hm => by rw [List.mem_singleton.mp hm]; exact .inr (.inr (.inl e))⟩
  | big h s => exact ⟨_, [], RpX.int s.1, Nat.le_trans s.2 (by decide), fun _ z => nomatch z⟩
theorem odd_shown (h : OddV n v) : ∃ z, Shw X G v z [] := by
  cases h with
  | non => exact ⟨_, RpX.non, by decide +kernel, fun _ z => nomatch z⟩
  | bl b => exact ⟨_, RpX.bl b, by cases b <;> decide +kernel, fun _ z => nomatch z⟩
  | neg => exact ⟨_, RpX.int (by decide +kernel), by decide +kernel, fun _ z => nomatch z⟩
  | str => exact ⟨_, RpX.str (by decide +kernel), by decide +kernel, fun _ z => nomatch z⟩
  | big h s => exact ⟨_, RpX.int s.1, Nat.le_trans s.2 (by decide), fun _ z => nomatch z⟩
theorem int_shown {i : Int} (s : Sm i) : Shw X G (.int i) ((toString i : String) : Str) [] := ⟨RpX.int s.1, Nat.le_trans s.2 (by decide), fun _ z => nomatch z⟩
/-- the rows of a list of answers, shown -/
def Shs (X : Cx) (G : Hp) (M : List Addr) (ws : List (Str × List V)) (zss : List (List Str)) : Prop := Paired (fun q zs => RpAll X G 2 M (.str q.1 :: q.2) zs ∧ zs.length ≤ 5 ∧ (zs.map (·.length)).sum ≤ 400) ws zss
theorem shs_len : ∀ {ws : List (Str × List V)} {zss : List (List Str)}, Shs X G M ws zss → ((zss.map listText).map (·.length)).sum ≤ 500 * zss.length
  | _, _, .nil => by simp
  | _, zs :: zss, .cons r t => by
    obtain ⟨_, h1, h2⟩ := r
    have h3 := listText_len_le zs
    have h4 := shs_len t
    simp only [List.map_cons, List.sum_cons, List.length_cons]
    omega
theorem repr_ws {e : Addr} {rs : List V} {ws : List (Str × List V)} {zss : List (List Str)} {Q : VK} (he : G e = some (.lst rs)) (hR : Rs G rs ws) (hz : Shs X G M ws zss) (hM : ∀ m ∈ M, Cont G m) (h2 : 2 ≤ ws.length) (h10 : ws.length ≤ 10)
    (q : ∀ G', Same G G' → Q (.str (listText (zss.map listText))) G') : rReprX X 3 [.ref e] G Q := by
  have rf := hR.refs
  have lr : rs.length = ws.length := Paired.length hR
  have lz : ws.length = zss.length := Paired.length hz
  have main : ∀ {rs : List V} {ws : List (Str × List V)} {zss : List (List Str)}, Rs G rs ws → Shs X G M ws zss → ∃ as : List Addr, (∀ a ∈ as, ∃ t vs, G a = some (.lst (.str t :: vs))) ∧ RpAll X G 3 (as ++ M) rs (zss.map listText) := by
    intro rs ws zss hR
    induction hR generalizing zss with
    | nil =>
      intro hz
      cases hz
      exact ⟨[], (fun _ z => nomatch z), .nil⟩
    | @cons r q rs ws hr hR ih =>
      intro hz
      cases hz with
      | @cons _ zs _ zss hh hz =>
      obtain ⟨as, h1, h2⟩ := ih hz
      obtain ⟨a, rfl, ha⟩ := hr
      obtain ⟨g1, g2, _⟩ := hh
      have one : RpX X G 3 (a :: M) (.ref a) (listText zs) := RpX.list ha g1 (fun m => cont_neS ha (hM a m) rfl) (by omega)
      refine ⟨a :: as, fun b hb => ?_, .cons (one.more fun m hm => ?_) ?_⟩
      · rcases List.mem_cons.mp hb with rfl | hb
        · exact ⟨_, _, ha⟩
        · exact h1 b hb
      · rcases List.mem_cons.mp hm with rfl | hm
        · exact List.mem_cons_self
        · exact List.mem_cons_of_mem _ (List.mem_append_right _ hm)
      · have up : ∀ {vs : List V} {zs : List Str}, RpAll X G 3 (as ++ M) vs zs → RpAll X G 3 (a :: as ++ M) vs zs := by
          intro vs zs h
          induction h with
          | nil => exact .nil
          | cons h _ ih => exact .cons (h.more fun m hm => List.mem_cons_of_mem _ hm) ih
        exact up h2
  obtain ⟨as, h1, hA⟩ := main hR hz
  match rs, he, hR, rf, lr, hA with
  | [], _, _, _, lr, _ =>
    have : (0 : Nat) = ws.length := lr
    omega
  | v :: vs, he, hR, rf, lr, hA =>
  refine ⟨e, v, vs, zss.map listText, as ++ M, rfl, he, hA, fun hm => ?_, ?_, ?_, q⟩
  · rcases List.mem_append.mp hm with hm | hm
    · obtain ⟨t, us, e2⟩ := h1 e hm
      rw [he] at e2
      exact refs_neS rf (HO.lst.inj (Option.some.inj e2))
    · exact cont_neR he rf (by omega) (hM e hm) rfl
  · rw [List.length_map]
    omega
  · have b1 := listText_len_le (zss.map listText)
    have b2 := shs_len hz
    rw [List.length_map] at b1
    have b3 : (listText (zss.map listText)).length ≤ 6000 := by omega
    exact Nat.le_trans b3 (by decide)
end
end SQ6
namespace SQ6
open PySem L2 SQ
theorem Cont.same {G G' : Hp} {m : Addr} (s : Same G G') (h : Cont G m) : Cont G' m := by
  rcases h with h | h | h | h | ⟨q, h⟩
  · exact .inl (s _ _ h)
  · exact .inr (.inl (s _ _ h))
  · exact .inr (.inr (.inl (s _ _ h)))
  · exact .inr (.inr (.inr (.inl (s _ _ h))))
  · exact .inr (.inr (.inr (.inr ⟨q, s _ _ h⟩)))
theorem RpAll.same {X : Cx} {G G' : Hp} {k : Nat} {M : List Addr} {vs : List V} {zs : List Str} (s : Same G G') (h : RpAll X G k M vs zs) : RpAll X G' k M vs zs := by
  induction h with
  | nil => exact .nil
  | cons h _ ih => exact .cons (h.same s) ih
theorem Shs.same {X : Cx} {G G' : Hp} {M : List Addr} {ws : List (Str × List V)} {zss : List (List Str)} (s : Same G G') (h : Shs X G M ws zss) : Shs X G' M ws zss := Paired.mapP h fun _ _ ⟨a, b⟩ => ⟨RpAll.same s a, b⟩
section
variable {X : Cx} {G : Hp} {n : Nat}
theorem row3 {M M' : List Addr} {t z : Str} {v : V} (h : Shw X G v z M) (hs : ∀ m ∈ M, m ∈ M') (l1 : (reprText t).length ≤ 50) : RpAll X G 2 M' [.str t, v, .bl true] [reprText t, z, bT true] ∧ ([reprText t, z, bT true] : List Str).length ≤ 5 ∧ (([reprText t, z, bT true] : List Str).map (·.length)).sum ≤ 400 := by
  refine ⟨.cons (RpX.str (Nat.le_trans l1 (by decide))) (.cons (h.1.more hs) (.cons (RpX.bl true) .nil)), (by show 3 ≤ 5; decide), ?_⟩
  have h2 := h.2.1
  have h3 : (bT true).length = 4 := by decide +kernel
  show (reprText t).length + (z.length + ((bT true).length + 0)) ≤ 400
  omega
theorem shs1 {bad odd : V} (hb : BadV G n bad) (ho : OddV n odd) (hn : n ≤ 29) : ∃ M zss, (∀ m ∈ M, Cont G m) ∧ Shs X G M ((due1 n bad odd).map ip) zss := by
  obtain ⟨zb, M, hB⟩ := bad_shown (X := X) hb
  obtain ⟨zo, hO⟩ := odd_shown (X := X) (G := G) ho
  have h1 := int_shown (X := X) (G := G) (sm_small (i := (n : Int) - 1) (by omega) (by omega))
  have h2 := int_shown (X := X) (G := G) (sm_small (i := (n : Int)) (by omega) (by omega))
  have l1 : (reprText "InvalidPlace").length ≤ 50 := by decide +kernel
  exact ⟨M, _, hB.2.2, .cons (row3 hB (fun _ h => h) l1) (.cons (row3 hO (fun _ h => nomatch h) l1) (.cons (row3 h1 (fun _ h => nomatch h) l1) (.cons (row3 h2 (fun _ h => nomatch h) l1) (.cons (row3 hB (fun _ h => h) l1) .nil))))⟩
end
section
variable {P : Program} {w : World} {K : PySem.W.Frag} {mg : Str → Option Value} {base : Heap} {fR c Pt : Addr} {d : Ad} {A : Around} {outer : List Env} {s : Shared} {H : Hp} {E : XK}
variable {u : Addr} {H0 : Hp}
theorem r_10 (a : All P w K mg base c Pt d) (hr : Room 9 (Xr P w K mg base fR c A outer s H E).A) (hgd : (Xr P w K mg base fR c A outer s H E).A.guards = some []) : ∃ t, PS (Xr P w K mg base fR c A outer s H E) (nth (defBody sRight) 10) t ∧ ∀ (D : Ends) (G : Hp) (o p b e : Addr) (n : Nat) (bad odd : V) (rs : List V), An (TT Pt) u H0 G b ((due1 n bad odd).map ip) → Fx d G o p n bad odd → G e = some (.lst rs) → Rs G rs ((due1 n bad odd).map ip) →
    (∀ (G' : Hp), Same G G' → D.nx (s1 u o p n bad odd (some (.ref b)) (some (.ref e))) G') →
    t D (s1 u o p n bad odd (some (.ref b)) (some (.ref e))) G := by
  refine ⟨_, ps_if (PW.pt (pw_or (pt_cmpR op_ne (pe_callB (cr_reprX (k := 3) (hr.mono (by decide)) hgd) (by rfl) a.rp (by decide +kernel) (pa_cons (pv 2) pa_nil)) (pe_callB (cr_reprX (k := 3) (hr.mono (by decide)) hgd) (by rfl) a.rp (by decide +kernel) (pa_cons (pv 3) pa_nil)) (nomark _))
      (pw_or (pt_cmpR op_ne (pe_fld (pe_meth (pv 9) a.PV.cl a.MPt a.GPt (hr.mono (by decide)) a.bPt .nil passX (pa_cons (pv 10) (pa_cons (pv 10) pa_nil))) rfl) pe_str (nomark _))
      (pw_or1 (pt_cmpR (op_neOwn a.GEP (hr.mono (by decide)) a.CQP) (pe_meth (pv 9) a.PV.cl a.MPt a.GPt (hr.mono (by decide)) a.bPt .nil passX (pa_cons pe_int (pa_cons (pv 10) pa_nil))) (pv 9) (nomark _)))))) (pss_one (ps_ret pe_bl)) pss_nil, fun D G o p b e n bad odd rs h F he hR q => ?_⟩
  obtain ⟨M, zss, hM, hz⟩ := shs1 (X := Xr P w K mg base fR c A outer s H E) (G := G) F.b F.o' F.n29
  obtain ⟨rs0, hb, hR0⟩ := h.rs
  refine ⟨_, rfl, ?_⟩
  dsimp only [tNil]
  refine repr_ws hb hR0 hz hM (by show 2 ≤ 5; decide) (by show 5 ≤ 10; decide) fun G1 t1 => ?_
  refine ⟨_, rfl, ?_⟩
  dsimp only [tNil]
  refine repr_ws (t1 _ _ he) (hR.same t1) (hz.same t1) (fun m hm => (hM m hm).same t1) (by show 2 ≤ 5; decide) (by show 5 ≤ 10; decide) fun G2 t2 => ?_
  refine ⟨rfl, _, rfl, ?_⟩
  rw [decide_eq_true rfl]
  refine iteF ?_
  have t12 := st t1 t2
  have F2 := F.same t12
  have hP := F2.pg
  obtain ⟨dx, r, tW, hp, hW⟩ := hP
  have size : ((rep n).map (·.length)).sum + (rep n).length ≤ 9000 := by
    have := F.n29
    rw [len_rep, rep_len]
    omega
  refine ⟨_, rfl, p, dx, _, rfl, hp, rfl, _, rfl, _, rfl, ?_⟩
  dsimp only [tNil]
  refine ⟨p, o, rep n, rep n, .int n, .int n, rfl, F2.pg, .inr ⟨n, rfl, by rw [rep_len]; exact Nat.le_refl _, .inr ⟨n, rfl, Nat.le_refl _, by rw [rep_len]; exact Nat.le_refl _, size, g1, [], [], ?_, F2.vo, rfl, good_nil, Lim.of (by decide +kernel) fun p3 G3 t3 hP3 => ?_⟩⟩⟩
  · rw [Nat.sub_self, List.take_zero]
  obtain ⟨dx3, r3, tW3, hp3, _⟩ := hP3
  refine ⟨p3, d.CP, dx3, _, _, rfl, hp3, a.PV.cl, a.PV.nT, rfl, rfl, _, rfl, ?_⟩
  rw [show decide (V.str (jt []) = V.str "") = true from by decide +kernel]
  refine iteF ?_
  have F3 := F2.same t3
  have hP' := F3.pg
  obtain ⟨dx', r', tW', hp', hW'⟩ := hP'
  refine ⟨_, rfl, p, dx', _, rfl, hp', rfl, _, rfl, ?_⟩
  dsimp only [tNil]
  refine ⟨p, o, rep n, rep n, .int 0, .int n, rfl, F3.pg, .inr ⟨0, rfl, Nat.zero_le _, .inr ⟨n, rfl, Nat.zero_le _, by rw [rep_len]; exact Nat.le_refl _, size, ?_⟩⟩⟩
  have e0 : ((rep n).drop 0).take (n - 0) = rep n := by
    rw [List.drop_zero, Nat.sub_zero]
    exact List.take_of_length_le (by rw [rep_len]; exact Nat.le_refl _)
  rw [e0]
  refine made_rep (by have := F.n29; omega) F3.vo rfl fun p4 G4 t4 hP4 => ?_
  have F4 := F3.same t4
  have hP4' := hP4
  obtain ⟨dx4, r4, tW4, hp4, _⟩ := hP4'
  have hPm := F4.pg
  obtain ⟨dxm, rm, tWm, hpm, _⟩ := hPm
  refine ⟨_, rfl, p4, p, dx4, dxm, _, _, rfl, rfl, hp4, hpm, p4, p, o, o, rep n, rep n, rep n, rep n, _, rfl, hP4, F4.pg, F4.vo.vx, F4.vo.vx, rfl, _, rfl, _, rfl, iteF ?_⟩
  exact q _ (st t12 (st t3 t4))
end
end SQ6
namespace SQ6
open PySem L2 SQ
/-- what is no program -/
inductive NonV (G : Hp) (o p : Addr) : V → Prop
  | non : NonV G o p .non
  | str : NonV G o p (.str "t")
  | tup {q : Addr} (h : G q = some (.tup [.str "t"])) : NonV G o p (.ref q)
  | voc : NonV G o p (.ref o)
  | int : NonV G o p (.int 7)
  | lst {q : Addr} (h : G q = some (.lst [.ref p])) : NonV G o p (.ref q)
abbrev g2 : List G3 := [(("t" : Str), (1 : Int), (2 : Int))]
abbrev s2 (u o p : Addr) (n : Nat) (bad odd : V) (ans due fit deep deeper far non wide : Option V) : L2.St := sg u (some (.ref o)) ans due fit (some bad) deep deeper far (some (.ref p)) (some (.int n)) non (some odd) wide
theorem urn_two {u q p : Addr} {G : Hp} (hu : urnAt G u) (h : G q = some (.lst [.ref p])) : q ≠ u := by
  obtain ⟨x, y, z, e⟩ := hu
  exact ne_of h e (by intro z; cases z)
theorem NonV.but {u o p : Addr} {G G' : Hp} {v : V} (hu : urnAt G u) (b : But u G G') (h : NonV G o p v) : NonV G' o p v := by
  cases h with
  | non => exact .non
  | str => exact .str
  | tup e =>
    obtain ⟨x, y, z, eu⟩ := hu
    exact .tup (b _ _ e (ne_of e eu (by intro z; cases z)))
  | voc => exact .voc
  | int => exact .int
  | lst e => exact .lst (b _ _ e (urn_two hu e))
theorem NonV.keep {o p D : Addr} {G G' : Hp} {v : V} (k : Kp D G G') (ne : v ≠ .ref D) (h : NonV G o p v) : NonV G' o p v := by
  cases h with
  | non => exact .non
  | str => exact .str
  | tup e => exact .tup (k _ _ e (fun z => ne (by rw [z])) (fun _ z => nomatch z))
  | voc => exact .voc
  | int => exact .int
  | lst e => exact .lst (k _ _ e (fun z => ne (by rw [z])) (fun _ z => nomatch z))
theorem NonV.same {o p : Addr} {G G' : Hp} {v : V} (s : Same G G') (h : NonV G o p v) : NonV G' o p v := by
  cases h with
  | non => exact .non
  | str => exact .str
  | tup e => exact .tup (s _ _ e)
  | voc => exact .voc
  | int => exact .int
  | lst e => exact .lst (s _ _ e)
section
variable {P : Program} {w : World} {K : PySem.W.Frag} {mg : Str → Option Value} {base : Heap} {fR c Pt : Addr} {d : Ad} {A : Around} {outer : List Env} {s : Shared} {H : Hp} {E : XK}
variable {T : TL} {u : Addr} {H0 : Hp}
theorem r_11 (a : All P w K mg base c Pt d) (hr : Room 9 (Xr P w K mg base fR c A outer s H E).A) : ∃ t, PS (Xr P w K mg base fR c A outer s H E) (nth (defBody sRight) 11) t ∧ ∀ (D : Ends) (G : Hp) (o p : Addr) (n : Nat) (bad odd : V) (ans due : Option V), St3 T u H0 G →
    (∀ (G' : Hp) (v : V), St3 T u H0 G' → But u G G' → NonV G' o p v → D.nx (s2 u o p n bad odd ans due none none none none (some v) none) G') →
    t D (s2 u o p n bad odd ans due none none none none none none) G := by
  refine ⟨_, ps_set (i := 11) scR.nd rfl (.inr rfl) (pe_call a.GO (hr.mono (by decide)) rfl a.DW.gO a.DW.FO.kp a.DW.bO .nil pass0 (pa_cons (pv 0) (pa_cons (pe_lst (pa_cons pe_non (pa_cons pe_str (pa_cons (pe_tup (pa_cons pe_str pa_nil)) (pa_cons (pv 1) (pa_cons pe_int (pa_cons (pe_lst (pa_cons (pv 9) pa_nil)) pa_nil))))))) pa_nil))), fun D G o p n bad odd ans due S q => ?_⟩
  refine ⟨_, rfl, (by show 1 ≤ sizeLine; decide), fun p1 n1 => ⟨_, rfl, _, rfl, (by show 1 ≤ sizeLine; decide), fun p2 n2 => ?_⟩⟩
  have t1 : Same G (upd G p1 (.tup [.str "t"])) := same_new (fun _ _ e => e) n1
  have h1 : upd G p1 (.tup [.str "t"]) p1 = some (.tup [.str "t"]) := upd_same
  generalize upd G p1 (.tup [.str "t"]) = G1 at t1 h1 n2 ⊢
  have t2 : Same G1 (upd G1 p2 (.lst [.ref p])) := same_new (fun _ _ e => e) n2
  have h2 : upd G1 p2 (.lst [.ref p]) p2 = some (.lst [.ref p]) := upd_same
  generalize upd G1 p2 (.lst [.ref p]) = G2 at t2 h2 ⊢
  refine ⟨(by show 6 ≤ sizeLine; decide), fun p5 n5 => ?_⟩
  have t5 : Same G2 (upd G2 p5 (.lst [.non, .str "t", .ref p1, .ref o, .int 7, .ref p2])) := same_new (fun _ _ e => e) n5
  have S2 := (S.same t1).same t2
  have S5 := S2.same t5
  refine ⟨u, p5, _, rfl, S5.urn, urn_ne S2.urn n5, upd_same, (by show 0 < 6; decide), (by show 6 ≤ 1000; decide), fun G6 i v ev hu6 b6 => ?_⟩
  refine q G6 v (S5.butu b6 hu6) ((Same.but (st t1 (st t2 t5))).trans b6) (NonV.but S5.urn b6 ?_)
  have hm := List.mem_of_getElem? ev
  simp only [List.mem_cons, List.not_mem_nil, or_false] at hm
  rcases hm with rfl | rfl | rfl | rfl | rfl | rfl
  · exact .non
  · exact .str
  · exact .tup (t5 _ _ (t2 _ _ h1))
  · exact .voc
  · exact .int
  · exact .lst (t5 _ _ h2)
theorem r_12 (a : All P w K mg base c Pt d) (hr : Room 9 (Xr P w K mg base fR c A outer s H E).A) : ∃ t, PS (Xr P w K mg base fR c A outer s H E) (nth (defBody sRight) 12) t ∧ ∀ (D : Ends) (G : Hp) (o p : Addr) (n : Nat) (bad odd v : V) (ans due : Option V), Vc d.C G o g1 yT →
    (∀ (G' : Hp) (pw : Addr), Same G G' → Pg d.CP G' pw o (rep 60) (rep 60) → D.nx (s2 u o p n bad odd ans due none none none none (some v) (some (.ref pw))) G') →
    t D (s2 u o p n bad odd ans due none none none none (some v) none) G := by
  refine ⟨_, ps_set (i := 13) scR.nd rfl (.inr rfl) (pe_make a.MKP a.GPI (hr.mono (by decide)) rfl a.PV.g a.bPI .nil passX (pa_cons (pv 1) (pa_cons (pe_join pe_str (pe_op op_rep (pe_lst (pa_cons pe_str pa_nil)) pe_int)) pa_nil))), fun D G o p n bad odd v ans due hV q => ?_⟩
  refine ⟨_, rfl, ⟨_, rfl⟩, (by show 1 ≤ sizeLine; decide), fun l nl => ⟨l, 60, [.str "t"], rfl, rfl, upd_same, by decide, by decide, (by show 60 ≤ sizeLine; decide), fun q1 nq => ?_⟩⟩
  have t1 : Same G (upd G l (.lst [.str "t"])) := same_new (fun _ _ e => e) nl
  have ef : (List.replicate (60 : Int).toNat [V.str "t"]).flatten = (rep 60).map V.str := flat_rep 60
  rw [ef]
  have t2 : Same G (upd (upd G l (.lst [.str "t"])) q1 (.lst ((rep 60).map V.str))) := same_new t1 nq
  refine ⟨_, q1, rep 60, rfl, rfl, .inl (SqL.of upd_same), (by rw [len_rep, rep_len]; show 60 + 60 * 1 ≤ _; decide), fun x dx nx ndx ne => ?_⟩
  exact Mkd.run (Q := fun r G' => D.nx (s2 u o p n bad odd ans due none none none none (some v) (some r)) G') nx ndx ne (made_rep (by decide) (Vc.same t2 hV) rfl fun p' G' s' hP => q G' p' (st t2 s') hP)
theorem r_13 (a : All P w K mg base c Pt d) (hr : Room 9 (Xr P w K mg base fR c A outer s H E).A) : ∃ t, PS (Xr P w K mg base fR c A outer s H E) (nth (defBody sRight) 13) t ∧ ∀ (D : Ends) (G : Hp) (o p : Addr) (n : Nat) (bad odd v : V) (ans due wide : Option V),
    (∀ (G' : Hp) (o2 pf : Addr), Same G G' → Vc d.C G' o2 g2 yT → Pg d.CP G' pf o2 (rep 60) (rep 60) → D.nx (s2 u o p n bad odd ans due none none none (some (.ref pf)) (some v) wide) G') →
    t D (s2 u o p n bad odd ans due none none none none (some v) wide) G := by
  refine ⟨_, ps_set (i := 8) scR.nd rfl (.inr rfl) (pe_make a.MKP a.GPI (hr.mono (by decide)) rfl a.PV.g a.bPI .nil passX (pa_cons (StX.pe_makeR a.MKV a.GIV (hr.mono (by decide)) rfl a.VV.g passN (pa_cons (pe_tup (pa_cons pe_str (pa_cons pe_int (pa_cons pe_int pa_nil)))) pa_nil)) (pa_cons (pe_join pe_str (pe_op op_rep (pe_lst (pa_cons pe_str pa_nil)) pe_int)) pa_nil))), fun D G o p n bad odd v ans due wide q => ?_⟩
  refine ⟨(by show 3 ≤ sizeLine; decide), fun t nt => ?_⟩
  have t0 : Same G (upd G t (.tup [.str "t", .int 1, .int 2])) := same_new (fun _ _ e => e) nt
  refine fun o2 dx no nd ne => voc_new no nd ne upd_same (by decide) fun G2 t2 hV2 => ?_
  refine ⟨⟨_, rfl⟩, (by show 1 ≤ sizeLine; decide), fun l nl => ⟨l, 60, [.str "t"], rfl, rfl, upd_same, by decide, by decide, (by show 60 ≤ sizeLine; decide), fun q1 nq => ?_⟩⟩
  have t3 : Same G2 (upd G2 l (.lst [.str "t"])) := same_new (fun _ _ e => e) nl
  have ef : (List.replicate (60 : Int).toNat [V.str "t"]).flatten = (rep 60).map V.str := flat_rep 60
  rw [ef]
  have t4 : Same G2 (upd (upd G2 l (.lst [.str "t"])) q1 (.lst ((rep 60).map V.str))) := same_new t3 nq
  refine ⟨_, q1, rep 60, rfl, rfl, .inl (SqL.of upd_same), (by rw [len_rep, rep_len]; show 60 + 60 * 1 ≤ _; decide), fun x dx nx ndx ne => ?_⟩
  exact Mkd.run (Q := fun r G' => D.nx (s2 u o p n bad odd ans due none none none (some r) (some v) wide) G') nx ndx ne (made_rep (by decide) (Vc.same t4 hV2) rfl fun p' G' s' hP => q G' o2 p' (st t0 (st t2 (st t4 s'))) (Vc.same (st t4 s') hV2) hP)
theorem r_14 (a : All P w K mg base c Pt d) (hr : Room 9 (Xr P w K mg base fR c A outer s H E).A) : ∃ t, PS (Xr P w K mg base fR c A outer s H E) (nth (defBody sRight) 14) t ∧ ∀ (D : Ends) (G : Hp) (o p : Addr) (n : Nat) (bad odd v : V) (ans due far wide : Option V), Vc d.C G o g1 yT →
    (∀ (G' : Hp) (pd : Addr), Same G G' → Pg d.CP G' pd o tDeep [xDeep] → D.nx (s2 u o p n bad odd ans due none (some (.ref pd)) none far (some v) wide) G') →
    t D (s2 u o p n bad odd ans due none none none far (some v) wide) G := by
  refine ⟨_, ps_set (i := 6) scR.nd rfl (.inr rfl) (pe_make a.MKP a.GPI (hr.mono (by decide)) rfl a.PV.g a.bPI .nil passX (pa_cons (pv 1) (pa_cons pe_str pa_nil))), fun D G o p n bad odd v ans due far wide hV q => ?_⟩
  refine ⟨_, rfl, fun x dx nx ndx ne => ?_⟩
  exact Mkd.run (Q := fun r G' => D.nx (s2 u o p n bad odd ans due none (some r) none far (some v) wide) G') nx ndx ne ⟨g1, tDeep, [xDeep], jt_deep.symm, hV, rfl, good_deep, Lim.of fit_deep fun p' G' s' hP => q G' p' s' hP⟩
theorem r_15 (a : All P w K mg base c Pt d) (hr : Room 9 (Xr P w K mg base fR c A outer s H E).A) : ∃ t, PS (Xr P w K mg base fR c A outer s H E) (nth (defBody sRight) 15) t ∧ ∀ (D : Ends) (G : Hp) (o p : Addr) (n : Nat) (bad odd v : V) (ans due deep far wide : Option V), Vc d.C G o g1 yT →
    (∀ (G' : Hp) (pq : Addr), Same G G' → Pg d.CP G' pq o (tEmp6 ++ rep 54) (xEmp6 :: rep 54) → D.nx (s2 u o p n bad odd ans due none deep (some (.ref pq)) far (some v) wide) G') →
    t D (s2 u o p n bad odd ans due none deep none far (some v) wide) G := by
  refine ⟨_, ps_set (i := 7) scR.nd rfl (.inr rfl) (pe_make a.MKP a.GPI (hr.mono (by decide)) rfl a.PV.g a.bPI .nil passX (pa_cons (pv 1) (pa_cons (pe_op op_add_str pe_str (pe_join pe_str (pe_op op_rep (pe_lst (pa_cons pe_str pa_nil)) pe_int))) pa_nil))), fun D G o p n bad odd v ans due deep far wide hV q => ?_⟩
  refine ⟨_, rfl, ⟨_, rfl⟩, (by show 1 ≤ sizeLine; decide), fun l nl => ⟨l, 54, [.str "t"], rfl, rfl, upd_same, by decide, by decide, (by show 54 ≤ sizeLine; decide), fun q1 nq => ?_⟩⟩
  have t1 : Same G (upd G l (.lst [.str "t"])) := same_new (fun _ _ e => e) nl
  have ef : (List.replicate (54 : Int).toNat [V.str "t"]).flatten = (rep 54).map V.str := flat_rep 54
  rw [ef]
  have t2 : Same G (upd (upd G l (.lst [.str "t"])) q1 (.lst ((rep 54).map V.str))) := same_new t1 nq
  refine ⟨_, q1, rep 54, rfl, rfl, .inl (SqL.of upd_same), (by rw [len_rep, rep_len]; show 54 + 54 * 1 ≤ _; decide), _, _, rfl, rfl, ?_, fun x dx nx ndx ne => ?_⟩
  · have h1 := jt_rep 54
    have h2 : ("[ [ [ [ [ [ ] ] ] ] ] ] " : Str).length = 24 := by decide +kernel
    rw [h2]
    exact Nat.le_of_lt (small1000 (by show 24 + (jt (rep 54)).length ≤ 1000; omega))
  · refine Mkd.run (Q := fun r G' => D.nx (s2 u o p n bad odd ans due none deep (some r) far (some v) wide) G') nx ndx ne ⟨g1, tEmp6 ++ rep 54, xEmp6 :: rep 54, ?_, Vc.same t2 hV, rfl, good_deeper, Lim.of fit_deeper fun p' G' s' hP => q G' p' (st t2 s') hP⟩
    rw [← jt_deeper]
    decide +kernel
end
end SQ6
namespace SQ6
open PySem L2 SQ
/-- the addresses of the second part -/
structure Bd where
  o : Addr
  o2 : Addr
  p : Addr
  pw : Addr
  pf : Addr
  pd : Addr
  pq : Addr
  n : Nat
  v : V
structure Fz (d : Ad) (G : Hp) (k : Bd) : Prop where
  vo : Vc d.C G k.o g1 yT
  v2 : Vc d.C G k.o2 g2 yT
  pg : Pg d.CP G k.p k.o (rep k.n) (rep k.n)
  gw : Pg d.CP G k.pw k.o (rep 60) (rep 60)
  gf : Pg d.CP G k.pf k.o2 (rep 60) (rep 60)
  gd : Pg d.CP G k.pd k.o tDeep [xDeep]
  gq : Pg d.CP G k.pq k.o (tEmp6 ++ rep 54) (xEmp6 :: rep 54)
  nv : NonV G k.o k.p k.v
  n29 : k.n ≤ 29
abbrev s3 (u : Addr) (k : Bd) (bad odd : V) (ans due fit : Option V) : L2.St := s2 u k.o k.p k.n bad odd ans due fit (some (.ref k.pd)) (some (.ref k.pq)) (some (.ref k.pf)) (some k.v) (some (.ref k.pw))
section
variable {d : Ad} {G G' : Hp} {k : Bd}
theorem Fz.same (s : Same G G') (h : Fz d G k) : Fz d G' k := ⟨Vc.same s h.vo, Vc.same s h.v2, h.pg.same s, h.gw.same s, h.gf.same s, h.gd.same s, h.gq.same s, h.nv.same s, h.n29⟩
theorem Fz.kp {D : Addr} {xs : List V} (kp : Kp D G G') (hD : G D = some (.lst xs)) (ne : k.v ≠ .ref D) (h : Fz d G k) : Fz d G' k :=
  ⟨Vc.kp kp hD h.vo, Vc.kp kp hD h.v2, Pg.kp kp hD h.pg, Pg.kp kp hD h.gw, Pg.kp kp hD h.gf, Pg.kp kp hD h.gd, Pg.kp kp hD h.gq, h.nv.keep kp ne, h.n29⟩
theorem Vc.ext {C o : Addr} {gs : List G3} {ys : List Str} (s : LamX.ExtN G G') (h : Vc C G o gs ys) : Vc C G' o gs ys := by
  obtain ⟨dx, dA, tN, kvs, e1, e2, e3, e4⟩ := h
  exact ⟨dx, dA, tN, kvs, s _ _ e1 (fun _ z => nomatch z), s _ _ e2 (fun _ z => nomatch z), s _ _ e3 (fun _ z => nomatch z), Paired.mapP e4 fun kv g ⟨q1, t0, q2, q3⟩ => ⟨q1, t0, q2, s _ _ q3 (fun _ z => nomatch z)⟩⟩
theorem Pg.ext {CP p o : Addr} {ts xs : List Str} (s : LamX.ExtN G G') (h : Pg CP G p o ts xs) : Pg CP G' p o ts xs := by
  obtain ⟨dx, r, tW, f1, f2⟩ := h
  exact ⟨dx, r, tW, s _ _ f1 (fun _ z => nomatch z), s _ _ f2 (fun _ z => nomatch z)⟩
theorem NonV.ext {o p : Addr} {v : V} (s : LamX.ExtN G G') (h : NonV G o p v) : NonV G' o p v := by
  cases h with
  | non => exact .non
  | str => exact .str
  | tup e => exact .tup (s _ _ e (fun _ z => nomatch z))
  | voc => exact .voc
  | int => exact .int
  | lst e => exact .lst (s _ _ e (fun _ z => nomatch z))
theorem Fz.ext (s : LamX.ExtN G G') (h : Fz d G k) : Fz d G' k := ⟨h.vo.ext s, h.v2.ext s, h.pg.ext s, h.gw.ext s, h.gf.ext s, h.gd.ext s, h.gq.ext s, h.nv.ext s, h.n29⟩
end
section
variable {P : Program} {w : World} {K : PySem.W.Frag} {mg : Str → Option Value} {base : Heap} {fR c Pt : Addr} {d : Ad} {A : Around} {outer : List Env} {s : Shared} {H : Hp} {E : XK}
variable {u : Addr} {H0 : Hp}
theorem nonv_ty (a : All P w K mg base c Pt d) {G : Hp} {k : Bd} (F : Fz d G k) : ∃ t, TyX K G k.v t ∧ PySem.W.kitOne K t (.ref d.CP) = some false := by
  have h := F.nv
  generalize hv : k.v = v at h
  cases h with
  | non => exact ⟨_, .base .non, a.kN⟩
  | str => exact ⟨_, .base (.str _), a.kS⟩
  | tup e => exact ⟨_, .base (.tup e), a.kT⟩
  | voc =>
    obtain ⟨dx, dA, tN, kvs, e, _⟩ := F.vo
    exact ⟨_, a.TV.ty e, a.kV⟩
  | int => exact ⟨_, .base (.int _), a.kI⟩
  | lst e => exact ⟨_, .base (.lst e), a.kL⟩
abbrev wN (v : V) : Str × List V := ("NotAProgram", [v, .bl true])
abbrev wM : Str × List V := ("Mismatch", [.bl true])
abbrev wL : Str × List V := ("TooLarge", [.int 60, .bl true])
abbrev wD : Str × List V := ("TooDeep", [.int 6, .bl true])
theorem r_16 (a : All P w K mg base c Pt d) (hr : Room 9 (Xr P w K mg base fR c A outer s H E).A) : ∃ t, PS (Xr P w K mg base fR c A outer s H E) (nth (defBody sRight) 16) t ∧ ∀ (D : Ends) (G : Hp) (k : Bd) (bad odd : V) (ans due : Option V), St3 (TT Pt) u H0 G → Fz d G k →
    (∀ (G' : Hp) (b : Addr), An (TT Pt) u H0 G' b [wN k.v] → Fz d G' k → k.v ≠ .ref b → D.nx (s3 u k bad odd (some (.ref b)) due none) G') →
    t D (s3 u k bad odd ans due none) G := by
  refine ⟨_, ps_set (i := 2) scR.nd rfl (.inl rfl) (pe_lst (pa_cons (pe_had a.HD a.B a.HF a.TB rfl (hmT Pt) (huT Pt) hr (LamX.lamS_by (sc := defScope sRight) (by decide +kernel)) rfl (fun _ _ _ _ _ => rfl)
      (fun A outer s H E f c' hr => pe_meth (pv 9) a.PV.cl a.MTh a.GTh hr a.bTh .nil (passes_call (takes_of rfl rfl rfl rfl) (fun _ _ _ _ h => h)) (pa_cons (pv 11) pa_nil))) pa_nil)), fun D G k bad odd ans due S F q => ?_⟩
  refine ⟨S.tab, fun G1 x1 t1 => ?_⟩
  have S1 := S.ext x1 t1
  have F1 := F.ext x1
  have hP := F1.pg
  obtain ⟨dx, r, tW, hp, _⟩ := hP
  refine ⟨_, rfl, k.p, dx, _, rfl, hp, rfl, _, rfl, ?_⟩
  dsimp only [tNil]
  obtain ⟨t, ty, ki⟩ := nonv_ty a F1
  refine ⟨k.p, k.o, _, _, k.v, rfl, F1.pg, .inl ⟨t, ty, ki, fun e G2 s2 he => .inr (.inr (.inl ⟨e, k.v, rfl, rfl, he, fun pr npr => ?_⟩))⟩⟩
  have t3 : Same G2 (upd G2 pr (.lst [.str "NotAProgram", k.v, .bl true])) := same_new (fun _ _ e => e) npr
  have h3 : upd G2 pr (.lst [.str "NotAProgram", k.v, .bl true]) pr = some (.lst [.str "NotAProgram", k.v, .bl true]) := upd_same
  generalize upd G2 pr (.lst [.str "NotAProgram", k.v, .bl true]) = G3 at t3 h3 ⊢
  refine ⟨(by show 1 ≤ sizeLine; decide), fun b nb => ?_⟩
  have S3 := (S1.same s2).same t3
  have F3 := F1.same (st s2 t3)
  have t4 : Same G3 (upd G3 b (.lst [.ref pr])) := same_new (fun _ _ e => e) nb
  refine q _ b ⟨S3.same t4, ⟨_, upd_same, .cons ⟨pr, rfl, t4 _ _ h3⟩ .nil⟩, S3.new nb, (urn_ne S3.urn nb).symm, (by show 1 ≤ 100; decide)⟩ (F3.same t4) fun z => ?_
  have nv := F3.nv
  rw [z] at nv
  cases nv with
  | tup e => rw [nb] at e; cases e
  | voc =>
    obtain ⟨_, _, _, _, e, _⟩ := F3.vo
    rw [nb] at e
    cases e
  | lst e => rw [nb] at e; cases e
/-- one more answer of the second part -/
theorem app2 {T : TL} {D : Ends} {G1 G2 : Hp} {k : Bd} {b pr : Addr} {bad odd : V} {due : Option V} {t : Str} {vs : List V} {ws : List (Str × List V)} (h : An T u H0 G1 b ws) (F : Fz d G1 k) (ne : k.v ≠ .ref b) (s2 : Same G1 G2) (npr : G2 pr = none) (l : ws.length ≤ 10)
    (q : ∀ G' : Hp, An T u H0 G' b (ws ++ [(t, vs)]) → Fz d G' k → D.nx (s3 u k bad odd (some (.ref b)) due none) G') :
    ∃ (l : Addr) (xs : List V) (y : V), V.ref b = .ref l ∧ [V.ref pr] = [y] ∧ upd G2 pr (.lst (.str t :: vs)) l = some (.lst xs) ∧ xs.length < sizeLine ∧ D.nx (s3 u k bad odd (some (.ref b)) due none) (upd (upd G2 pr (.lst (.str t :: vs))) l (.lst (xs ++ [y]))) := by
  have t3 : Same G2 (upd G2 pr (.lst (.str t :: vs))) := same_new (fun _ _ e => e) npr
  have h3 : upd G2 pr (.lst (.str t :: vs)) pr = some (.lst (.str t :: vs)) := upd_same
  generalize upd G2 pr (.lst (.str t :: vs)) = G3 at t3 h3 ⊢
  have h4 := h.same (st s2 t3)
  obtain ⟨rs, e, _⟩ := h4.rs
  obtain ⟨l1, l2, l3⟩ := h4.app (q := (t, vs)) e h3 (by omega)
  exact ⟨b, rs, .ref pr, rfl, rfl, e, l1, q _ l2 ((F.same (st s2 t3)).kp Kp.put e ne)⟩
theorem r_17 (a : All P w K mg base c Pt d) (hr : Room 9 (Xr P w K mg base fR c A outer s H E).A) : ∃ t, PS (Xr P w K mg base fR c A outer s H E) (nth (defBody sRight) 17) t ∧ ∀ (D : Ends) (G : Hp) (k : Bd) (b : Addr) (bad odd : V) (due : Option V) (ws : List (Str × List V)), An (TT Pt) u H0 G b ws → ws.length ≤ 10 → Fz d G k → k.v ≠ .ref b →
    (∀ G' : Hp, An (TT Pt) u H0 G' b (ws ++ [wM]) → Fz d G' k → D.nx (s3 u k bad odd (some (.ref b)) due none) G') →
    t D (s3 u k bad odd (some (.ref b)) due none) G := by
  refine ⟨_, ps_expr (pe_bm PySem.F.plainAttrs_list PySem.F.slot_list_append PySem.F.type_list_append mt_append (pv 2) (pa_cons (pe_had a.HD a.B a.HF a.TB rfl (hmT Pt) (huT Pt) hr (LamX.lamS_by (sc := defScope sRight) (by decide +kernel)) rfl (fun _ _ _ _ _ => rfl)
      (fun A outer s H E f c' hr => pe_meth (pv 9) a.PV.cl a.MTh a.GTh hr a.bTh .nil (passes_call (takes_of rfl rfl rfl rfl) (fun _ _ _ _ h => h)) (pa_cons (pv 8) pa_nil))) pa_nil)), fun D G k b bad odd due ws h l F ne q => ?_⟩
  obtain ⟨rs, e, _⟩ := h.rs
  refine ⟨_, rfl, .inl ⟨rfl, _, SqL.of e⟩, h.S.tab, fun G1 x1 t1 => ?_⟩
  have h1 := h.ext x1 t1
  have F1 := F.ext x1
  have hP := F1.pg
  obtain ⟨dx, r, tW, hp, _⟩ := hP
  refine ⟨_, rfl, k.p, dx, _, rfl, hp, rfl, _, rfl, ?_⟩
  dsimp only [tNil]
  refine ⟨k.p, k.o, _, _, .ref k.pf, rfl, F1.pg, .inr ⟨k.pf, k.o2, _, _, _, _, rfl, F1.gf, F1.vo.vx, F1.v2.vx, fun _ => .inr (.inl ⟨rfl, rfl, fun pr npr => ?_⟩), fun z => absurd z voc_texts⟩⟩
  exact app2 h1 F1 ne (fun _ _ e => e) npr l q
theorem r_18 (a : All P w K mg base c Pt d) (hr : Room 9 (Xr P w K mg base fR c A outer s H E).A) : ∃ t, PS (Xr P w K mg base fR c A outer s H E) (nth (defBody sRight) 18) t ∧ ∀ (D : Ends) (G : Hp) (k : Bd) (b : Addr) (bad odd : V) (due : Option V) (ws : List (Str × List V)), An (TT Pt) u H0 G b ws → ws.length ≤ 10 → Fz d G k → k.v ≠ .ref b →
    (∀ G' : Hp, An (TT Pt) u H0 G' b (ws ++ [wL]) → Fz d G' k → D.nx (s3 u k bad odd (some (.ref b)) due none) G') →
    t D (s3 u k bad odd (some (.ref b)) due none) G := by
  refine ⟨_, ps_expr (pe_bm PySem.F.plainAttrs_list PySem.F.slot_list_append PySem.F.type_list_append mt_append (pv 2) (pa_cons (pe_had a.HD a.B a.HF a.TB rfl (hmT Pt) (huT Pt) hr (LamX.lamS_by (sc := defScope sRight) (by decide +kernel)) rfl (fun _ _ _ _ _ => rfl)
      (fun A outer s H E f c' hr => pe_meth (pv 13) a.PV.cl a.MTh a.GTh hr a.bTh .nil (passes_call (takes_of rfl rfl rfl rfl) (fun _ _ _ _ h => h)) (pa_cons (pv 6) pa_nil))) pa_nil)), fun D G k b bad odd due ws h l F ne q => ?_⟩
  obtain ⟨rs, e, _⟩ := h.rs
  refine ⟨_, rfl, .inl ⟨rfl, _, SqL.of e⟩, h.S.tab, fun G1 x1 t1 => ?_⟩
  have h1 := h.ext x1 t1
  have F1 := F.ext x1
  have hP := F1.gw
  obtain ⟨dx, r, tW, hp, _⟩ := hP
  refine ⟨_, rfl, k.pw, dx, _, rfl, hp, rfl, _, rfl, ?_⟩
  dsimp only [tNil]
  refine ⟨k.pw, k.o, _, _, .ref k.pd, rfl, F1.gw, .inr ⟨k.pd, k.o, _, _, _, _, rfl, F1.gd, F1.vo.vx, F1.vo.vx, fun z => absurd rfl z, fun _ => ⟨by decide +kernel, by decide +kernel, g1, rep 60 ++ tDeep, rep 60 ++ [xDeep], jt_w1, F1.vo, rfl, good_w1, ⟨fun _ e G2 s2 he => ?_, fun z => absurd size_w1 z, fun z => absurd size_w1 z⟩⟩⟩⟩
  refine .inr (.inr (.inr (.inr ⟨e, .int 60, rfl, rfl, he, fun pr npr => ?_⟩)))
  exact app2 h1 F1 ne s2 npr l q
end
end SQ6
namespace SQ6
open PySem L2 SQ
section
variable {P : Program} {w : World} {K : PySem.W.Frag} {mg : Str → Option Value} {base : Heap} {fR c Pt : Addr} {d : Ad} {A : Around} {outer : List Env} {s : Shared} {H : Hp} {E : XK}
variable {u : Addr} {H0 : Hp}
theorem r_19 (a : All P w K mg base c Pt d) (hr : Room 9 (Xr P w K mg base fR c A outer s H E).A) : ∃ t, PS (Xr P w K mg base fR c A outer s H E) (nth (defBody sRight) 19) t ∧ ∀ (D : Ends) (G : Hp) (k : Bd) (b : Addr) (bad odd : V) (due : Option V) (ws : List (Str × List V)), An (TT Pt) u H0 G b ws → ws.length ≤ 10 → Fz d G k → k.v ≠ .ref b →
    (∀ G' : Hp, An (TT Pt) u H0 G' b (ws ++ [wL]) → Fz d G' k → D.nx (s3 u k bad odd (some (.ref b)) due none) G') →
    t D (s3 u k bad odd (some (.ref b)) due none) G := by
  refine ⟨_, ps_expr (pe_bm PySem.F.plainAttrs_list PySem.F.slot_list_append PySem.F.type_list_append mt_append (pv 2) (pa_cons (pe_had a.HD a.B a.HF a.TB rfl (hmT Pt) (huT Pt) hr (LamX.lamS_by (sc := defScope sRight) (by decide +kernel)) rfl (fun _ _ _ _ _ => rfl)
      (fun A outer s H E f c' hr => pe_meth0 (pv 13) a.PV.cl a.MQd a.GQd hr a.bQd .nil (passes_call (takes_of rfl rfl rfl rfl) (fun _ _ _ _ h => h)))) pa_nil)), fun D G k b bad odd due ws h l F ne q => ?_⟩
  obtain ⟨rs, e, _⟩ := h.rs
  refine ⟨_, rfl, .inl ⟨rfl, _, SqL.of e⟩, h.S.tab, fun G1 x1 t1 => ?_⟩
  have h1 := h.ext x1 t1
  have F1 := F.ext x1
  have hP := F1.gw
  obtain ⟨dx, r, tW, hp, _⟩ := hP
  refine ⟨_, rfl, k.pw, dx, _, rfl, hp, rfl, ?_⟩
  refine ⟨k.pw, k.o, _, _, rfl, F1.gw, by decide +kernel, g1, qt (rep 60), [qtext (jt (rep 60))], qx_w2, F1.vo, rfl, good_w2, ⟨fun _ e G2 s2 he => ?_, fun z => absurd size_w2 z, fun z => absurd size_w2 z⟩⟩
  refine .inr (.inr (.inr (.inr ⟨e, .int 60, rfl, rfl, he, fun pr npr => ?_⟩)))
  exact app2 h1 F1 ne s2 npr l q
theorem r_20 (a : All P w K mg base c Pt d) (hr : Room 9 (Xr P w K mg base fR c A outer s H E).A) : ∃ t, PS (Xr P w K mg base fR c A outer s H E) (nth (defBody sRight) 20) t ∧ ∀ (D : Ends) (G : Hp) (k : Bd) (b : Addr) (bad odd : V) (due : Option V) (ws : List (Str × List V)), An (TT Pt) u H0 G b ws → ws.length ≤ 10 → Fz d G k → k.v ≠ .ref b →
    (∀ G' : Hp, An (TT Pt) u H0 G' b (ws ++ [wD]) → Fz d G' k → D.nx (s3 u k bad odd (some (.ref b)) due none) G') →
    t D (s3 u k bad odd (some (.ref b)) due none) G := by
  refine ⟨_, ps_expr (pe_bm PySem.F.plainAttrs_list PySem.F.slot_list_append PySem.F.type_list_append mt_append (pv 2) (pa_cons (pe_had a.HD a.B a.HF a.TB rfl (hmT Pt) (huT Pt) hr (LamX.lamS_by (sc := defScope sRight) (by decide +kernel)) rfl (fun _ _ _ _ _ => rfl)
      (fun A outer s H E f c' hr => pe_meth0 (pv 6) a.PV.cl a.MQd a.GQd hr a.bQd .nil (passes_call (takes_of rfl rfl rfl rfl) (fun _ _ _ _ h => h)))) pa_nil)), fun D G k b bad odd due ws h l F ne q => ?_⟩
  obtain ⟨rs, e, _⟩ := h.rs
  refine ⟨_, rfl, .inl ⟨rfl, _, SqL.of e⟩, h.S.tab, fun G1 x1 t1 => ?_⟩
  have h1 := h.ext x1 t1
  have F1 := F.ext x1
  have hP := F1.gd
  obtain ⟨dx, r, tW, hp, _⟩ := hP
  refine ⟨_, rfl, k.pd, dx, _, rfl, hp, rfl, ?_⟩
  refine ⟨k.pd, k.o, _, _, rfl, F1.gd, by decide +kernel, g1, qt tDeep, [qtext (jt tDeep)], qx_w3, F1.vo, rfl, good_w3, ⟨fun z => absurd z size_w3, fun _ _ e G2 s2 he => ?_, fun _ z => absurd depth_w3 z⟩⟩
  refine .inr (.inr (.inr (.inl ⟨e, .int 6, rfl, rfl, he, fun pr npr => ?_⟩)))
  exact app2 h1 F1 ne s2 npr l q
theorem r_21 (a : All P w K mg base c Pt d) (hr : Room 9 (Xr P w K mg base fR c A outer s H E).A) : ∃ t, PS (Xr P w K mg base fR c A outer s H E) (nth (defBody sRight) 21) t ∧ ∀ (D : Ends) (G : Hp) (k : Bd) (b : Addr) (bad odd : V) (due : Option V) (ws : List (Str × List V)), An (TT Pt) u H0 G b ws → ws.length ≤ 10 → Fz d G k → k.v ≠ .ref b →
    (∀ G' : Hp, An (TT Pt) u H0 G' b (ws ++ [wL]) → Fz d G' k → D.nx (s3 u k bad odd (some (.ref b)) due none) G') →
    t D (s3 u k bad odd (some (.ref b)) due none) G := by
  refine ⟨_, ps_expr (pe_bm PySem.F.plainAttrs_list PySem.F.slot_list_append PySem.F.type_list_append mt_append (pv 2) (pa_cons (pe_had a.HD a.B a.HF a.TB rfl (hmT Pt) (huT Pt) hr (LamX.lamS_by (sc := defScope sRight) (by decide +kernel)) rfl (fun _ _ _ _ _ => rfl)
      (fun A outer s H E f c' hr => pe_meth0 (pv 7) a.PV.cl a.MQd a.GQd hr a.bQd .nil (passes_call (takes_of rfl rfl rfl rfl) (fun _ _ _ _ h => h)))) pa_nil)), fun D G k b bad odd due ws h l F ne q => ?_⟩
  obtain ⟨rs, e, _⟩ := h.rs
  refine ⟨_, rfl, .inl ⟨rfl, _, SqL.of e⟩, h.S.tab, fun G1 x1 t1 => ?_⟩
  have h1 := h.ext x1 t1
  have F1 := F.ext x1
  have hP := F1.gq
  obtain ⟨dx, r, tW, hp, _⟩ := hP
  refine ⟨_, rfl, k.pq, dx, _, rfl, hp, rfl, ?_⟩
  refine ⟨k.pq, k.o, _, _, rfl, F1.gq, by decide +kernel, g1, qt (tEmp6 ++ rep 54), [qtext (jt (tEmp6 ++ rep 54))], qx_w4, F1.vo, rfl, good_w4, ⟨fun _ e G2 s2 he => ?_, fun z => absurd size_w4 z, fun z => absurd size_w4 z⟩⟩
  refine .inr (.inr (.inr (.inr ⟨e, .int 60, rfl, rfl, he, fun pr npr => ?_⟩)))
  exact app2 h1 F1 ne s2 npr l q
end
end SQ6
namespace SQ6
open PySem L2 SQ
section
variable {P : Program} {w : World} {K : PySem.W.Frag} {mg : Str → Option Value} {base : Heap} {fR c Pt : Addr} {d : Ad} {A : Around} {outer : List Env} {s : Shared} {H : Hp} {E : XK}
variable {u : Addr} {H0 : Hp}
theorem r_22 (a : All P w K mg base c Pt d) (hr : Room 9 (Xr P w K mg base fR c A outer s H E).A) : ∃ t, PS (Xr P w K mg base fR c A outer s H E) (nth (defBody sRight) 22) t ∧ ∀ (D : Ends) (G : Hp) (k : Bd) (bad odd : V) (ans due : Option V),
    (∀ (G' : Hp) (e : Addr) (rs : List V), Same G G' → G' e = some (.lst rs) → Rs G' rs [wN k.v, wM, wL, wL] → D.nx (s3 u k bad odd ans (some (.ref e)) none) G') →
    t D (s3 u k bad odd ans due none) G := by
  refine ⟨_, ps_set (i := 3) scR.nd rfl (.inl rfl) (pe_lst (pa_cons (pe_lst (pa_cons pe_str (pa_cons (pv 11) (pa_cons pe_bl pa_nil)))) (pa_cons (pe_lst (pa_cons pe_str (pa_cons pe_bl pa_nil))) (pa_cons (pe_lst (pa_cons pe_str (pa_cons pe_int (pa_cons pe_bl pa_nil)))) (pa_cons (pe_lst (pa_cons pe_str (pa_cons pe_int (pa_cons pe_bl pa_nil)))) pa_nil))))), fun D G k bad odd ans due q => ?_⟩
  refine ⟨_, rfl, (by show 3 ≤ sizeLine; decide), fun q1 n1 => ⟨(by show 2 ≤ sizeLine; decide), fun q2 n2 => ⟨(by show 3 ≤ sizeLine; decide), fun q3 n3 => ⟨(by show 3 ≤ sizeLine; decide), fun q4 n4 => ⟨(by show 4 ≤ sizeLine; decide), fun e ne => ?_⟩⟩⟩⟩⟩
  have t1 : Same G (upd G q1 (.lst [.str "NotAProgram", k.v, .bl true])) := same_new (fun _ _ e => e) n1
  have h1 : upd G q1 (.lst [.str "NotAProgram", k.v, .bl true]) q1 = some (.lst [.str "NotAProgram", k.v, .bl true]) := upd_same
  generalize upd G q1 (.lst [.str "NotAProgram", k.v, .bl true]) = G1 at t1 h1 n2 n3 n4 ne ⊢
  have t2 : Same G1 (upd G1 q2 (.lst [.str "Mismatch", .bl true])) := same_new (fun _ _ e => e) n2
  have h2 : upd G1 q2 (.lst [.str "Mismatch", .bl true]) q2 = some (.lst [.str "Mismatch", .bl true]) := upd_same
  generalize upd G1 q2 (.lst [.str "Mismatch", .bl true]) = G2 at t2 h2 n3 n4 ne ⊢
  have t3 : Same G2 (upd G2 q3 (.lst [.str "TooLarge", .int 60, .bl true])) := same_new (fun _ _ e => e) n3
  have h3 : upd G2 q3 (.lst [.str "TooLarge", .int 60, .bl true]) q3 = some (.lst [.str "TooLarge", .int 60, .bl true]) := upd_same
  generalize upd G2 q3 (.lst [.str "TooLarge", .int 60, .bl true]) = G3 at t3 h3 n4 ne ⊢
  have t4 : Same G3 (upd G3 q4 (.lst [.str "TooLarge", .int 60, .bl true])) := same_new (fun _ _ e => e) n4
  have h4 : upd G3 q4 (.lst [.str "TooLarge", .int 60, .bl true]) q4 = some (.lst [.str "TooLarge", .int 60, .bl true]) := upd_same
  generalize upd G3 q4 (.lst [.str "TooLarge", .int 60, .bl true]) = G4 at t4 h4 ne ⊢
  have t5 : Same G4 (upd G4 e (.lst [.ref q1, .ref q2, .ref q3, .ref q4])) := same_new (fun _ _ e => e) ne
  exact q _ e _ (st t1 (st t2 (st t3 (st t4 t5)))) upd_same (.cons ⟨q1, rfl, t5 _ _ (t4 _ _ (t3 _ _ (t2 _ _ h1)))⟩ (.cons ⟨q2, rfl, t5 _ _ (t4 _ _ (t3 _ _ h2))⟩ (.cons ⟨q3, rfl, t5 _ _ (t4 _ _ h3)⟩ (.cons ⟨q4, rfl, t5 _ _ h4⟩ .nil))))
theorem non_shown (a : All P w K mg base c Pt d) {G : Hp} {k : Bd} (F : Fz d G k) : ∃ z M, Shw (Xr P w K mg base fR c A outer s H E) G k.v z M := by
  have h := F.nv
  have n29 := F.n29
  have pg := F.pg
  have vo := F.vo
  generalize k.v = v at h
  cases h with
  | non => exact ⟨_, [], RpX.non, by decide +kernel, fun _ z => nomatch z⟩
  | str => exact ⟨_, [], RpX.str (by decide +kernel), by decide +kernel, fun _ z => nomatch z⟩
  | @tup p e => exact ⟨_, [p], RpX.tupS (l := [("t" : Str)]) e (fun x hx => by rw [List.mem_singleton.mp hx]; decide +kernel), by decide +kernel, fun m hm => by rw [List.mem_singleton.mp hm]; exact .inr (.inr (.inr (.inl e)))⟩
  | voc =>
    have vx := vo.vx
    obtain ⟨dx, dA, tN, e⟩ := vx
    refine ⟨_, [], (RpX.own (X := Xr P w K mg base fR c A outer s H E) (z := Str.empty ++ "Vocabulary(" ++ vtext g1 yT ++ ")") a.RCV a.GRV e fun H1 t1 => ⟨k.o, _, rfl, Vx.same t1 vo.vx, voc_len, rfl, same_refl _⟩).lift (by decide), by decide +kernel, fun _ z => nomatch z⟩
  | int => exact ⟨_, [], RpX.int (by decide +kernel), by decide +kernel, fun _ z => nomatch z⟩
  | @lst p e =>
    have hP := pg
    obtain ⟨dx, r, tW, hp, _⟩ := hP
    have jl := jt_rep k.n
    have l1 : (Str.empty ++ ("Program(" : Str)).length = 8 := by decide
    have l2 : (")" : Str).length = 1 := rfl
    have one : RpX (Xr P w K mg base fR c A outer s H E) G 1 [] (.ref k.p) (Str.empty ++ "Program(" ++ jt (rep k.n) ++ ")") := RpX.own a.RCP a.GRP hp fun H1 t1 => ⟨k.p, k.o, _, _, rfl, pg.same t1, by omega, rfl, same_refl _⟩
    refine ⟨_, [p], RpX.list e (.cons one .nil) (fun z => nomatch z) (by show 1 ≤ 1000; decide), ?_, fun m hm => by rw [List.mem_singleton.mp hm]; exact .inr (.inr (.inr (.inr ⟨_, e⟩)))⟩
    have b := listText_len_le [Str.empty ++ ("Program(" : Str) ++ jt (rep k.n) ++ ")"]
    simp only [List.map_cons, List.map_nil, List.sum_cons, List.sum_nil, List.length_cons, List.length_nil] at b
    rw [len_app, len_app, l1, l2] at b
    omega
abbrev ws2 (v : V) : List (Str × List V) := [wN v, wM, wL, wL, wD, wL]
theorem shs2 (a : All P w K mg base c Pt d) {G : Hp} {k : Bd} (F : Fz d G k) : ∃ M zss, (∀ m ∈ M, Cont G m) ∧ Shs (Xr P w K mg base fR c A outer s H E) G M (ws2 k.v) zss := by
  obtain ⟨z, M, h⟩ := non_shown (fR := fR) (A := A) (outer := outer) (s := s) (H := H) (E := E) a F
  have h60 := int_shown (X := Xr P w K mg base fR c A outer s H E) (G := G) (sm_small (i := 60) (by decide) (by decide))
  have h6 := int_shown (X := Xr P w K mg base fR c A outer s H E) (G := G) (sm_small (i := 6) (by decide) (by decide))
  have lL : (reprText "TooLarge").length ≤ 50 := by decide +kernel
  have lN : (reprText "NotAProgram").length ≤ 50 := by decide +kernel
  have rowL := row3 (M' := M) (t := "TooLarge") h60 (fun _ h => nomatch h) lL
  refine ⟨M, _, h.2.2, .cons (row3 h (fun _ h => h) lN) (.cons (b := [reprText "Mismatch", bT true]) ⟨.cons (RpX.str (by decide +kernel)) (.cons (RpX.bl true) .nil), (by show 2 ≤ 5; decide), by decide +kernel⟩ (.cons rowL (.cons rowL (.cons (row3 h6 (fun _ h => nomatch h) (by decide +kernel)) (.cons rowL .nil)))))⟩
theorem r_23 (a : All P w K mg base c Pt d) (hr : Room 9 (Xr P w K mg base fR c A outer s H E).A) (hgd : (Xr P w K mg base fR c A outer s H E).A.guards = some []) : ∃ t, PS (Xr P w K mg base fR c A outer s H E) (nth (defBody sRight) 23) t ∧ ∀ (D : Ends) (G : Hp) (k : Bd) (b e : Addr) (bad odd : V) (rs : List V), An (TT Pt) u H0 G b (ws2 k.v) → Fz d G k → G e = some (.lst rs) → Rs G rs [wN k.v, wM, wL, wL] →
    (∀ (G' : Hp), Same G G' → D.nx (s3 u k bad odd (some (.ref b)) (some (.ref e)) none) G') →
    t D (s3 u k bad odd (some (.ref b)) (some (.ref e)) none) G := by
  refine ⟨_, ps_if (pt_cmpR op_ne (pe_callB (cr_reprX (k := 3) (hr.mono (by decide)) hgd) (by rfl) a.rp (by decide +kernel) (pa_cons (pv 2) pa_nil)) (pe_callB (cr_reprX (k := 3) (hr.mono (by decide)) hgd) (by rfl) a.rp (by decide +kernel) (pa_cons (pe_op op_cat (pv 3) (pe_lst (pa_cons (pe_lst (pa_cons pe_str (pa_cons pe_int (pa_cons pe_bl pa_nil)))) (pa_cons (pe_lst (pa_cons pe_str (pa_cons pe_int (pa_cons pe_bl pa_nil)))) pa_nil)))) pa_nil)) (nomark _)) (pss_one (ps_ret pe_bl)) pss_nil, fun D G k b e bad odd rs h F he hR q => ?_⟩
  obtain ⟨M, zss, hM, hz⟩ := shs2 (fR := fR) (A := A) (outer := outer) (s := s) (H := H) (E := E) a F
  obtain ⟨rs0, hb, hR0⟩ := h.rs
  refine ⟨_, rfl, ?_⟩
  dsimp only [tNil]
  refine repr_ws hb hR0 hz hM (by show 2 ≤ 6; decide) (by show 6 ≤ 10; decide) fun G1 t1 => ?_
  refine ⟨_, rfl, (by show 3 ≤ sizeLine; decide), fun q1 n1 => ⟨(by show 3 ≤ sizeLine; decide), fun q2 n2 => ⟨(by show 2 ≤ sizeLine; decide), fun q3 n3 => ?_⟩⟩⟩
  have t2 : Same G1 (upd G1 q1 (.lst [.str "TooDeep", .int 6, .bl true])) := same_new (fun _ _ e => e) n1
  have h2 : upd G1 q1 (.lst [.str "TooDeep", .int 6, .bl true]) q1 = some (.lst [.str "TooDeep", .int 6, .bl true]) := upd_same
  generalize upd G1 q1 (.lst [.str "TooDeep", .int 6, .bl true]) = G2 at t2 h2 n2 n3 ⊢
  have t3 : Same G2 (upd G2 q2 (.lst [.str "TooLarge", .int 60, .bl true])) := same_new (fun _ _ e => e) n2
  have h3 : upd G2 q2 (.lst [.str "TooLarge", .int 60, .bl true]) q2 = some (.lst [.str "TooLarge", .int 60, .bl true]) := upd_same
  generalize upd G2 q2 (.lst [.str "TooLarge", .int 60, .bl true]) = G3 at t3 h3 n3 ⊢
  have t4 : Same G3 (upd G3 q3 (.lst [.ref q1, .ref q2])) := same_new (fun _ _ e => e) n3
  have h4 : upd G3 q3 (.lst [.ref q1, .ref q2]) q3 = some (.lst [.ref q1, .ref q2]) := upd_same
  generalize upd G3 q3 (.lst [.ref q1, .ref q2]) = G4 at t4 h4 ⊢
  have t14 := st t1 (st t2 (st t3 t4))
  have lr : rs.length = 4 := Paired.length hR
  refine ⟨e, q3, rs, _, rfl, rfl, t14 _ _ he, h4, Nat.le_of_lt (small1000 (by show rs.length + 2 ≤ 1000; omega)), fun q5 n5 => ?_⟩
  have t5 : Same G4 (upd G4 q5 (.lst (rs ++ [.ref q1, .ref q2]))) := same_new (fun _ _ e => e) n5
  have h5 : upd G4 q5 (.lst (rs ++ [.ref q1, .ref q2])) q5 = some (.lst (rs ++ [.ref q1, .ref q2])) := upd_same
  generalize upd G4 q5 (.lst (rs ++ [.ref q1, .ref q2])) = G5 at t5 h5 ⊢
  have t15 := st t14 t5
  have hR5 : Rs G5 (rs ++ [.ref q1, .ref q2]) (ws2 k.v) := by
    have h6 := ((hR.same t15).snoc (q := wD) ⟨q1, rfl, t5 _ _ (t4 _ _ (t3 _ _ h2))⟩).snoc (q := wL) ⟨q2, rfl, t5 _ _ (t4 _ _ h3)⟩
    rw [List.append_assoc] at h6
    exact h6
  dsimp only [tNil]
  refine repr_ws h5 hR5 (hz.same t15) (fun m hm => (hM m hm).same t15) (by show 2 ≤ 6; decide) (by show 6 ≤ 10; decide) fun G6 t6 => ?_
  refine ⟨rfl, _, rfl, ?_⟩
  rw [decide_eq_true rfl]
  exact iteF (q _ (st t15 t6))
end
end SQ6
namespace SQ6
open PySem L2 SQ
/-- Program(o, text) that fits, what follows told by the heap alone -/
theorem prog_fit {CP C CL CD x dx o : Addr} {H2 : Hp} {gs : List G3} {y : Str} {ts xs : List Str} {R : Hp → Prop} {E : XK} (nx : H2 x = none) (ndx : H2 dx = none) (ne : dx ≠ x) (ey : y = jt ts) (hV : Vc C H2 o gs yT) (hg : gnames gs = yT) (G : Good ts xs) (fit : ¬ 60 < sizeT ts ∧ ¬ 6 < depthT ts)
    (q : ∀ H', Same H2 H' → Pg CP H' x o ts xs → R H') : spPI CP C CL CD [.ref x, .ref o, .str y] (upd (upd H2 dx (.own x)) x (.ins CP dx [])) (fun v H' => v = .non ∧ R H') E := by
  subst ey
  have t1 : Same H2 (upd (upd H2 dx (.own x)) x (.ins CP dx [])) := new_ins nx ndx ne
  exact ⟨x, o, dx, gs, ts, xs, rfl, upd_same, Vc.same t1 hV, hg, G, Lim.of fit fun H' bt hP => ⟨rfl, q H' (fun a ob e => bt a ob (t1 _ _ e) (ne_of_none e nx)) hP⟩⟩
section
variable {P : Program} {w : World} {K : PySem.W.Frag} {mg : Str → Option Value} {base : Heap} {fR c Pt : Addr} {d : Ad} {A : Around} {outer : List Env} {s : Shared} {H : Hp} {E : XK}
variable {u : Addr} {H0 : Hp}
theorem r_24 (a : All P w K mg base c Pt d) (hr : Room 9 (Xr P w K mg base fR c A outer s H E).A) : ∃ t, PS (Xr P w K mg base fR c A outer s H E) (nth (defBody sRight) 24) t ∧ ∀ (D : Ends) (G : Hp) (k : Bd) (bad odd : V) (ans due : Option V), Fz d G k →
    (∀ (G' : Hp) (e : Addr), Same G G' → G e = none → G' e = some (.lst [.int 60, .str xEmp6]) → D.nx (s3 u k bad odd ans due (some (.ref e))) G') →
    t D (s3 u k bad odd ans due none) G := by
  refine ⟨_, ps_set (i := 4) scR.nd rfl (.inl rfl) (pe_lst (pa_cons (pe_fld (pe_meth (pv 13) a.PV.cl a.MTh a.GTh (hr.mono (by decide)) a.bTh .nil passX (pa_cons (pe_make a.MKP a.GPI (hr.mono (by decide)) rfl a.PV.g a.bPI .nil passX (pa_cons (pv 1) (pa_cons pe_str pa_nil))) pa_nil)) rfl)
      (pa_cons (pe_fld (pe_meth0 (pe_make a.MKP a.GPI (hr.mono (by decide)) rfl a.PV.g a.bPI .nil passX (pa_cons (pv 1) (pa_cons pe_str pa_nil))) a.PV.cl a.MQd a.GQd (hr.mono (by decide)) a.bQd .nil passX) rfl) pa_nil))), fun D G k bad odd ans due F q => ?_⟩
  have hP := F.gw
  obtain ⟨dx, r, tW, hp, _⟩ := hP
  refine ⟨_, rfl, k.pw, dx, _, rfl, hp, rfl, _, rfl, ?_⟩
  refine fun x dx1 nx ndx ne => prog_fit (ts := []) (xs := []) nx ndx ne rfl F.vo rfl good_nil (by decide +kernel) fun G1 t1 hP1 => ?_
  have F1 := F.same t1
  dsimp only [tNil]
  refine ⟨k.pw, k.o, _, _, .ref x, rfl, F1.gw, .inr ⟨x, k.o, _, _, _, _, rfl, hP1, F1.vo.vx, F1.vo.vx, fun z => absurd rfl z, fun _ => ⟨by decide +kernel, by decide +kernel, g1, rep 60, rep 60, by rw [List.append_nil], F1.vo, rfl, good_rep (by decide), Lim.of (fit_rep (by decide)) fun p2 G2 t2 hP2 => ?_⟩⟩⟩
  obtain ⟨dx2, r2, tW2, hp2, _⟩ := hP2
  refine ⟨p2, d.CP, dx2, _, _, rfl, hp2, a.PV.cl, a.PV.nS, rfl, ?_⟩
  have F2 := F1.same t2
  refine ⟨_, rfl, ?_⟩
  refine fun x3 dx3 nx3 ndx3 ne3 => prog_fit (ts := tEmp5) (xs := [xEmp5]) nx3 ndx3 ne3 jt_emp5.symm F2.vo rfl good_emp5 fit_emp5 fun G3 t3 hP3 => ?_
  have F3 := F2.same t3
  have hP3' := hP3
  obtain ⟨dx4, r4, tW4, hp4, _⟩ := hP3'
  refine ⟨x3, dx4, _, rfl, hp4, rfl, ?_⟩
  refine ⟨x3, k.o, _, _, rfl, hP3, by decide +kernel, g1, qt tEmp5, [qtext (jt tEmp5)], qx_w5, F3.vo, rfl, good_w5, Lim.of ⟨size_w5, depth_w5⟩ fun p5 G5 t5 hP5 => ?_⟩
  obtain ⟨dx5, r5, tW5, hp5, _⟩ := hP5
  refine ⟨p5, d.CP, dx5, _, _, rfl, hp5, a.PV.cl, a.PV.nT, rfl, (by show 2 ≤ sizeLine; decide), fun e ne => ?_⟩
  have t6 := same_new (o := .lst [.int 60, .str xEmp6]) (fun _ _ e => e : Same G5 G5) ne
  have ts := st t1 (st t2 (st t3 t5))
  rw [show sizeT (rep 60) = 60 from size_rep 60, text_w5]
  exact q _ e (st ts t6) (ts.free ne) upd_same
theorem r_25 (a : All P w K mg base c Pt d) (hr : Room 9 (Xr P w K mg base fR c A outer s H E).A) : ∃ t, PS (Xr P w K mg base fR c A outer s H E) (nth (defBody sRight) 25) t ∧ ∀ (D : Ends) (G : Hp) (k : Bd) (e : Addr) (bad odd : V) (ans due : Option V), Fz d G k → G e = some (.lst [.int 60, .str xEmp6]) →
    (∀ (G' : Hp), Same G G' → D.nx (s3 u k bad odd ans due (some (.ref e))) (upd G' e (.lst [.int 60, .str xEmp6, .int 60]))) →
    t D (s3 u k bad odd ans due (some (.ref e))) G := by
  refine ⟨_, ps_expr (pe_bm PySem.F.plainAttrs_list PySem.F.slot_list_append PySem.F.type_list_append mt_append (pv 4) (pa_cons (pe_fld (pe_meth0 (pe_make a.MKP a.GPI (hr.mono (by decide)) rfl a.PV.g a.bPI .nil passX (pa_cons (pv 1) (pa_cons (pe_join pe_str (pe_op op_rep (pe_lst (pa_cons pe_str pa_nil)) pe_int)) pa_nil))) a.PV.cl a.MQd a.GQd (hr.mono (by decide)) a.bQd .nil passX) rfl) pa_nil)), fun D G k e bad odd ans due F he q => ?_⟩
  refine ⟨_, rfl, .inl ⟨rfl, _, SqL.of he⟩, _, rfl, ⟨_, rfl⟩, (by show 1 ≤ sizeLine; decide), fun l nl => ⟨l, 59, [.str "t"], rfl, rfl, upd_same, by decide, by decide, (by show 59 ≤ sizeLine; decide), fun q1 nq => ?_⟩⟩
  have t1 : Same G (upd G l (.lst [.str "t"])) := same_new (fun _ _ e => e) nl
  have ef : (List.replicate (59 : Int).toNat [V.str "t"]).flatten = (rep 59).map V.str := flat_rep 59
  rw [ef]
  have t2 : Same G (upd (upd G l (.lst [.str "t"])) q1 (.lst ((rep 59).map V.str))) := same_new t1 nq
  refine ⟨_, q1, rep 59, rfl, rfl, .inl (SqL.of upd_same), (by rw [len_rep, rep_len]; show 59 + 59 * 1 ≤ _; decide), fun x dx nx ndx ne => ?_⟩
  refine prog_fit (ts := rep 59) (xs := rep 59) nx ndx ne rfl (Vc.same t2 F.vo) rfl (good_rep (by decide)) (fit_rep (by decide)) fun G3 t3 hP3 => ?_
  have t23 := st t2 t3
  have F3 := F.same t23
  have hP3' := hP3
  obtain ⟨dx4, r4, tW4, hp4, _⟩ := hP3'
  refine ⟨x, dx4, _, rfl, hp4, rfl, ?_⟩
  refine ⟨x, k.o, _, _, rfl, hP3, by decide +kernel, g1, qt (rep 59), [qtext (jt (rep 59))], qx_w6, F3.vo, rfl, good_w6, Lim.of ⟨by rw [size_w6]; decide, depth_w6⟩ fun p5 G5 t5 hP5 => ?_⟩
  obtain ⟨dx5, r5, tW5, hp5, _⟩ := hP5
  refine ⟨p5, d.CP, dx5, _, _, rfl, hp5, a.PV.cl, a.PV.nS, rfl, ?_⟩
  have t25 := st t23 t5
  dsimp only [tNil]
  refine ⟨e, _, _, rfl, rfl, t25 _ _ he, (by show 2 < sizeLine; decide), ?_⟩
  rw [size_w6]
  exact q _ t25
theorem r_26 (a : All P w K mg base c Pt d) (hr : Room 9 (Xr P w K mg base fR c A outer s H E).A) : ∃ t, PS (Xr P w K mg base fR c A outer s H E) (nth (defBody sRight) 26) t ∧ ∀ (D : Ends) (G : Hp) (k : Bd) (e : Addr) (bad odd : V) (ans due : Option V), G e = some (.lst [.int 60, .str xEmp6, .int 60]) →
    (∀ (G' : Hp), Same G G' → D.rt (.bl true) G') → t D (s3 u k bad odd ans due (some (.ref e))) G := by
  refine ⟨_, ps_ret (pe_cmpR (op_eqD hr.units) (pv 4) (pe_lst (pa_cons pe_int (pa_cons pe_str (pa_cons pe_int pa_nil)))) (by rfl)), fun D G k e bad odd ans due he q => ?_⟩
  refine ⟨_, rfl, (by show 3 ≤ sizeLine; decide), fun l nl => ?_⟩
  have t1 : Same G (upd G l (.lst [.int 60, .str xEmp6, .int 60])) := same_new (fun _ _ e => e) nl
  refine ⟨.list [.int 60, .str xEmp6, .int 60], .list [.int 60, .str xEmp6, .int 60], .lst (SqL.of (t1 _ _ he)) (.cons (.int _) (.cons (.str _) (.cons (.int _) .nil))), .lst (SqL.of upd_same) (.cons (.int _) (.cons (.str _) (.cons (.int _) .nil))), by decide +kernel, by decide +kernel, ?_⟩
  rw [show PyData.eqv (.list [.int 60, .str xEmp6, .int 60]) (.list [.int 60, .str xEmp6, .int 60]) = true from by decide +kernel]
  exact q _ t1
end
end SQ6
namespace SQ6
open PySem L2 SQ
theorem BadV.but {u : Addr} {G G' : Hp} {n : Nat} {v : V} (hu : urnAt G u) (b : But u G G') (h : BadV G n v) : BadV G' n v := by
  obtain ⟨x, y, z, eu⟩ := hu
  cases h with
  | non => exact .non
  | bl b => exact .bl b
  | neg => exact .neg
  | str => exact .str
  | tup e => exact .tup (b _ _ e (ne_of e eu (by intro z; cases z)))
  | lst e => exact .lst (b _ _ e (ne_of e eu (by intro z; cases z)))
  | dic e => exact .dic (b _ _ e (ne_of e eu (by intro z; cases z)))
  | big h s => exact .big h s
section
variable {P : Program} {w : World} {K : PySem.W.Frag} {mg : Str → Option Value} {base : Heap} {fR c Pt : Addr} {d : Ad} {fdR : FuncData}
theorem ok_right (F : FunC K "_law_right" "_law_right" sRight fR fdR c) (a : All P w K mg base c Pt d) : FnG P w K mg base CX0 10 fR fdR ["_law_urn_here"] (spRightT (TT Pt)) := by
  refine okGc F scR (fun vs H Q E h => ?_) (fun A outer s H vs Q E hgd hr h => ?_)
  · obtain ⟨u, rfl, _⟩ := h
    rfl
  · obtain ⟨u, rfl, hu, hT, q⟩ := h
    obtain ⟨t0, p0, k0⟩ := r_0 (fR := fR) (outer := outer) (s := s) (H := H) (E := E) (T := TT Pt) (u := u) (H0 := H) a hr
    obtain ⟨t1, p1, k1⟩ := r_1 (fR := fR) (outer := outer) (s := s) (H := H) (E := E) (T := TT Pt) (u := u) (H0 := H) a hr
    obtain ⟨t2, p2, k2⟩ := r_2 (fR := fR) (outer := outer) (s := s) (H := H) (E := E) (T := TT Pt) (u := u) (H0 := H) a hr
    obtain ⟨t3, p3, k3⟩ := r_3 (fR := fR) (outer := outer) (s := s) (H := H) (E := E) (T := TT Pt) (u := u) (H0 := H) a hr
    obtain ⟨t4, p4, k4⟩ := r_4 (fR := fR) (outer := outer) (s := s) (H := H) (E := E) (u := u) (H0 := H) a hr
    obtain ⟨t5, p5, k5⟩ := r_5 (fR := fR) (outer := outer) (s := s) (H := H) (E := E) (u := u) (H0 := H) a hr
    obtain ⟨t6, p6, k6⟩ := r_6 (fR := fR) (outer := outer) (s := s) (H := H) (E := E) (u := u) (H0 := H) a hr
    obtain ⟨t7, p7, k7⟩ := r_7 (fR := fR) (outer := outer) (s := s) (H := H) (E := E) (u := u) (H0 := H) a hr
    obtain ⟨t8, p8, k8⟩ := r_8 (fR := fR) (outer := outer) (s := s) (H := H) (E := E) (u := u) (H0 := H) a hr
    obtain ⟨t9, p9, k9⟩ := r_9 (fR := fR) (outer := outer) (s := s) (H := H) (E := E) (u := u) (H0 := H) a hr
    obtain ⟨t10, p10, k10⟩ := r_10 (fR := fR) (outer := outer) (s := s) (H := H) (E := E) (u := u) (H0 := H) a hr hgd
    obtain ⟨t11, p11, k11⟩ := r_11 (fR := fR) (outer := outer) (s := s) (H := H) (E := E) (T := TT Pt) (u := u) (H0 := H) a hr
    obtain ⟨t12, p12, k12⟩ := r_12 (fR := fR) (outer := outer) (s := s) (H := H) (E := E) (u := u) a hr
    obtain ⟨t13, p13, k13⟩ := r_13 (fR := fR) (outer := outer) (s := s) (H := H) (E := E) (u := u) a hr
    obtain ⟨t14, p14, k14⟩ := r_14 (fR := fR) (outer := outer) (s := s) (H := H) (E := E) (u := u) a hr
    obtain ⟨t15, p15, k15⟩ := r_15 (fR := fR) (outer := outer) (s := s) (H := H) (E := E) (u := u) a hr
    obtain ⟨t16, p16, k16⟩ := r_16 (fR := fR) (outer := outer) (s := s) (H := H) (E := E) (u := u) (H0 := H) a hr
    obtain ⟨t17, p17, k17⟩ := r_17 (fR := fR) (outer := outer) (s := s) (H := H) (E := E) (u := u) (H0 := H) a hr
    obtain ⟨t18, p18, k18⟩ := r_18 (fR := fR) (outer := outer) (s := s) (H := H) (E := E) (u := u) (H0 := H) a hr
    obtain ⟨t19, p19, k19⟩ := r_19 (fR := fR) (outer := outer) (s := s) (H := H) (E := E) (u := u) (H0 := H) a hr
    obtain ⟨t20, p20, k20⟩ := r_20 (fR := fR) (outer := outer) (s := s) (H := H) (E := E) (u := u) (H0 := H) a hr
    obtain ⟨t21, p21, k21⟩ := r_21 (fR := fR) (outer := outer) (s := s) (H := H) (E := E) (u := u) (H0 := H) a hr
    obtain ⟨t22, p22, k22⟩ := r_22 (fR := fR) (outer := outer) (s := s) (H := H) (E := E) (u := u) a hr
    obtain ⟨t23, p23, k23⟩ := r_23 (fR := fR) (outer := outer) (s := s) (H := H) (E := E) (u := u) (H0 := H) a hr hgd
    obtain ⟨t24, p24, k24⟩ := r_24 (fR := fR) (outer := outer) (s := s) (H := H) (E := E) (u := u) a hr
    obtain ⟨t25, p25, k25⟩ := r_25 (fR := fR) (outer := outer) (s := s) (H := H) (E := E) (u := u) a hr
    obtain ⟨t26, p26, k26⟩ := r_26 (fR := fR) (outer := outer) (s := s) (H := H) (E := E) (u := u) a hr
    refine ⟨_, pss_cons p0 (pss_cons p1 (pss_cons p2 (pss_cons p3 (pss_cons p4 (pss_cons p5 (pss_cons p6 (pss_cons p7 (pss_cons p8 (pss_cons p9 (pss_cons p10 (pss_cons p11 (pss_cons p12 (pss_cons p13 (pss_cons p14 (pss_cons p15 (pss_cons p16 (pss_cons p17 (pss_cons p18 (pss_cons p19 (pss_cons p20 (pss_cons p21 (pss_cons p22 (pss_cons p23 (pss_cons p24 (pss_cons p25 (pss_one p26)))))))))))))))))))))))))), ?_⟩
    have S0 : St3 (TT Pt) u H H := ⟨fun b o e _ _ => e, hT, hu⟩
    refine rd_seq (k0 _ _ S0 fun G0 o n S1 V1 n29 => ?_)
    refine rd_seq (k1 _ _ o n S1 V1 n29 fun G1 p S2 m2 P2 => ?_)
    have V2 := Vc.same m2 V1
    refine rd_seq (k2 _ _ n _ _ S2 n29 fun G2 bad S3 b3 B3 => ?_)
    have V3 := Vc.but S2.urn b3 V2
    have P3 := Pg.but S2.urn b3 P2
    refine rd_seq (k3 _ _ n _ _ _ S3 n29 fun G3' odd S4 b4 O4 => ?_)
    have F4 : Fx d G3' o p n bad odd := ⟨Vc.but S3.urn b4 V3, Pg.but S3.urn b4 P3, B3.but S3.urn b4, O4, n29⟩
    refine rd_seq (k4 _ _ o p n bad odd S4 F4 fun G4 b A5 F5 => ?_)
    refine rd_seq (k5 _ _ o p b n bad odd _ A5 (by show 1 ≤ 10; decide) F5 fun G5 A6 F6 => ?_)
    refine rd_seq (k6 _ _ o p b n bad odd _ A6 (by show 2 ≤ 10; decide) F6 fun G6 A7 F7 => ?_)
    refine rd_seq (k7 _ _ o p b n bad odd _ A7 (by show 3 ≤ 10; decide) F7 fun G7 A8 F8 => ?_)
    refine rd_seq (k8 _ _ o p b n bad odd _ A8 (by show 4 ≤ 10; decide) F8 fun G8 A9 F9 => ?_)
    refine rd_seq (k9 _ _ o p b n bad odd _ A9 F9 fun G9 e rs A10 F10 he hR => ?_)
    refine rd_seq (k10 _ _ o p b e n bad odd rs A10 F10 he hR fun G10 m10 => ?_)
    have S10 := A10.S.same m10
    have F11 := F10.same m10
    refine rd_seq (k11 _ _ o p n bad odd _ _ S10 fun G11 v S11 b11 N11 => ?_)
    have V11 := Vc.but S10.urn b11 F11.vo
    have P11 := Pg.but S10.urn b11 F11.pg
    refine rd_seq (k12 _ _ o p n bad odd v _ _ V11 fun G12 pw m12 W12 => ?_)
    refine rd_seq (k13 _ _ o p n bad odd v _ _ _ fun G13 o2 pf m13 V13 W13 => ?_)
    have m3 := st m12 m13
    refine rd_seq (k14 _ _ o p n bad odd v _ _ _ _ (Vc.same m3 V11) fun G14 pd m14 W14 => ?_)
    have m4 := st m3 m14
    refine rd_seq (k15 _ _ o p n bad odd v _ _ _ _ _ (Vc.same m4 V11) fun G15 pq m15 W15 => ?_)
    have m5 := st m4 m15
    have F15 : Fz d G15 ⟨o, o2, p, pw, pf, pd, pq, n, v⟩ := ⟨Vc.same m5 V11, Vc.same (st m14 m15) V13, P11.same m5, W12.same (st m13 (st m14 m15)), W13.same (st m14 m15), W14.same m15, W15, N11.same m5, n29⟩
    refine rd_seq (k16 _ _ ⟨o, o2, p, pw, pf, pd, pq, n, v⟩ bad odd _ _ (S11.same m5) F15 fun G16 b2 A16 F16 ne => ?_)
    refine rd_seq (k17 _ _ _ b2 bad odd _ _ A16 (by show 1 ≤ 10; decide) F16 ne fun G17 A17 F17 => ?_)
    refine rd_seq (k18 _ _ _ b2 bad odd _ _ A17 (by show 2 ≤ 10; decide) F17 ne fun G18 A18 F18 => ?_)
    refine rd_seq (k19 _ _ _ b2 bad odd _ _ A18 (by show 3 ≤ 10; decide) F18 ne fun G19 A19 F19 => ?_)
    refine rd_seq (k20 _ _ _ b2 bad odd _ _ A19 (by show 4 ≤ 10; decide) F19 ne fun G20 A20 F20 => ?_)
    refine rd_seq (k21 _ _ _ b2 bad odd _ _ A20 (by show 5 ≤ 10; decide) F20 ne fun G21 A21 F21 => ?_)
    refine rd_seq (k22 _ _ _ bad odd _ _ fun G22 e2 rs2 m22 he2 hR2 => ?_)
    have A22 := A21.same m22
    have F22 := F21.same m22
    refine rd_seq (k23 _ _ _ b2 e2 bad odd rs2 A22 F22 he2 hR2 fun G23 m23 => ?_)
    have S23 := A22.S.same m23
    have F23 := F22.same m23
    refine rd_seq (k24 _ _ _ bad odd _ _ F23 fun G24 e3 m24 n24 h24 => ?_)
    have S24 := S23.same m24
    refine rd_seq (k25 _ _ _ e3 bad odd _ _ (F23.same m24) h24 fun G25 m25 => ?_)
    have S25 := (S24.same m25).put (ys := [.int 60, .str xEmp6, .int 60]) (m25 _ _ h24) (S23.new n24) (urn_ne S23.urn n24).symm
    refine k26 _ _ _ e3 bad odd _ _ upd_same fun G26 m26 => ?_
    have S26 := S25.same m26
    exact q G26 S26.but S26.tab
end
end SQ6
namespace SQ6
open PySem L2 SQ
/-- all that one look at the written part tells -/
def chkA (K : PySem.W.Frag) (CE CN CX CL CD CM CI CPE CS C CP Pt cR fI fN fX fL fD fIn fEq fRp fA fPI fTh fPt fWo fQd fEP fRP : Addr) : Bool :=
  errOk K CE "index" bmV "ValueError.__new__" && ((PySem.W.typeIn K (.ref fI) == some (.type "function")) && ((PySem.W.typeIn K (.ref CE) == some (.type "type")) && (errOk K CN "value" bmV "ValueError.__new__" && ((PySem.W.typeIn K (.ref fN) == some (.type "function")) && ((PySem.W.typeIn K (.ref CN) == some (.type "type")) && (errOk K CX "value" bmV "ValueError.__new__" && ((PySem.W.typeIn K (.ref fX) == some (.type "function")) && ((PySem.W.typeIn K (.ref CX) == some (.type "type")) && (errOk K CL "limit" bmA "ArithmeticError.__new__" && ((PySem.W.typeIn K (.ref fL) == some (.type "function")) && ((PySem.W.typeIn K (.ref CL) == some (.type "type")) && (errOk K CD "limit" bmA "ArithmeticError.__new__" && ((PySem.W.typeIn K (.ref fD) == some (.type "function")) && ((PySem.W.typeIn K (.ref CD) == some (.type "type")) && (PySem.W.excIn K CM bmT "TypeError.__new__" && (PySem.W.keepIn K (.ref CM) && ((PySem.W.subIn K (.ref CM) (.type "BaseException") == some true) && ((PySem.W.typeIn K (.ref CM) == some (.type "type")) && (isOk K CM && ((PySem.W.specialIn K (.builtin "object.__class__") "__get__" == some (some (.builtin "getset_descriptor.__get__"))) && ((PySem.W.takesIn K (.builtin "object.__class__") == some true) && ((PySem.W.exmOne K (.ref CX) (.ref CX) == some true) && ((PySem.W.exmOne K (.ref CM) (.ref CX) == some false) && ((PySem.W.exmOne K (.ref CM) (.ref CM) == some true) && ((PySem.W.exmOne K (.ref CN) (.ref CX) == some false) && ((PySem.W.exmOne K (.ref CN) (.ref CM) == some false) && ((PySem.W.exmOne K (.ref CN) (.ref CN) == some true) && ((PySem.W.exmOne K (.ref CD) (.ref CX) == some false) && ((PySem.W.exmOne K (.ref CD) (.ref CM) == some false) && ((PySem.W.exmOne K (.ref CD) (.ref CN) == some false) && ((PySem.W.exmOne K (.ref CD) (.ref CD) == some true) && ((PySem.W.exmOne K (.ref CL) (.ref CX) == some false) && ((PySem.W.exmOne K (.ref CL) (.ref CM) == some false) && ((PySem.W.exmOne K (.ref CL) (.ref CN) == some false) && ((PySem.W.exmOne K (.ref CL) (.ref CD) == some false) && ((PySem.W.exmOne K (.ref CL) (.ref CL) == some true) && ((PySem.W.kitOne K (.ref CX) (.ref CI) == some true) && ((PySem.W.kitOne K (.ref CX) (.type "ValueError") == some true) && ((PySem.W.kitOne K (.ref CM) (.ref CPE) == some true) && ((PySem.W.kitOne K (.ref CM) (.type "TypeError") == some true) && ((PySem.W.kitOne K (.ref CN) (.ref CI) == some true) && ((PySem.W.kitOne K (.ref CN) (.type "ValueError") == some true) && ((PySem.W.kitOne K (.ref CD) (.ref CS) == some true) && ((PySem.W.kitOne K (.ref CD) (.type "ArithmeticError") == some true) && ((PySem.W.kitOne K (.ref CL) (.ref CS) == some true) && ((PySem.W.kitOne K (.ref CL) (.type "ArithmeticError") == some true) && (PySem.W.plainGet K C Str.empty && (PySem.W.hasDictIn K C && (PySem.W.plainOver K C && ((PySem.W.findIn K (.ref C) "__setattr__" == some (some (.builtin "object.__setattr__"))) && (PySem.W.makesIn K C && (PySem.W.keepIn K (.ref C) && ((PySem.W.findIn K (.ref C) "__class__" == some (some (.builtin "object.__class__"))) && ((PySem.W.mroIn K C (.type "object") == some true) && ((PySem.W.kitOne K (.ref C) (.ref C) == some true) && ((PySem.W.subIn K (.ref C) (.type "object") == some true) && ((PySem.W.findIn K (.ref C) "__ne__" == some (some (.builtin "object.__ne__"))) && (PySem.W.plainGet K CP Str.empty && (PySem.W.hasDictIn K CP && (PySem.W.plainOver K CP && ((PySem.W.findIn K (.ref CP) "__setattr__" == some (some (.builtin "object.__setattr__"))) && (PySem.W.makesIn K CP && (PySem.W.keepIn K (.ref CP) && ((PySem.W.findIn K (.ref CP) "__class__" == some (some (.builtin "object.__class__"))) && ((PySem.W.mroIn K CP (.type "object") == some true) && ((PySem.W.kitOne K (.ref CP) (.ref CP) == some true) && ((PySem.W.subIn K (.ref CP) (.type "object") == some true) && ((PySem.W.findIn K (.ref CP) "__ne__" == some (some (.builtin "object.__ne__"))) && ((PySem.W.findIn K (.ref C) "arities" == some none) && ((PySem.W.findIn K (.ref C) "names" == some none) && ((PySem.W.findIn K (.ref C) "text" == some none) && ((PySem.W.findIn K (.ref CP) "vocabulary" == some none) && ((PySem.W.findIn K (.ref CP) "text" == some none) && ((PySem.W.findIn K (.ref CP) "row" == some none) && ((PySem.W.findIn K (.ref CP) "words" == some none) && ((PySem.W.findIn K (.ref CP) "size" == some none) && (PySem.W.isFn K (.ref fIn) && (PySem.W.isFn K (.ref fEq) && (PySem.W.isFn K (.ref fRp) && (PySem.W.isFn K (.ref fA) && (PySem.W.isFn K (.ref fPI) && (PySem.W.isFn K (.ref fTh) && (PySem.W.isFn K (.ref fPt) && (PySem.W.isFn K (.ref fWo) && (PySem.W.isFn K (.ref fQd) && (PySem.W.isFn K (.ref fEP) && (PySem.W.isFn K (.ref fRP) && ((PySem.W.kitOne K (.type "NoneType") (.ref CP) == some false) && ((PySem.W.kitOne K (.type "str") (.ref CP) == some false) && ((PySem.W.kitOne K (.type "tuple") (.ref CP) == some false) && ((PySem.W.kitOne K (.type "int") (.ref CP) == some false) && ((PySem.W.kitOne K (.type "list") (.ref CP) == some false) && ((PySem.W.kitOne K (.ref C) (.ref CP) == some false) && (PySem.W.codeHdIn K cR Pt && ((K.lookup Pt).isNone)))))))))))))))))))))))))))))))))))))))))))))))))))))))))))))))))))))))))))))))))))))))))))))))
theorem all_mk {l : PySem.W.OpenLaw} {w : World} {K : PySem.W.Frag} {h : Heap} {mg : Str → Option Value} {fa CE CN CX CL CD CM CI CPE CS C CP tC Pt cR fI fN fX fL fD fIn fEq fRp fA fPI fTh fPt fWo fQd fEP fRP f_0 f_1 f_2 f_3 f_4 f_5 f_6 f_7 f_8 f_9 f_10 f_11 f_12 f_13 f_14 f_15 f_16 f_17 f_18 f_19 f_20 f_21 f_22 f_23 f_24 f_25 f_26 : Addr}
    {odC : Option Addr} {u1 u2 u3 u4 u5 : Tok} {nn : Nat} {slC : Array (Option Value)}
    {oce dce pme cde cte : Value} {ode ane : Option Addr} {sle : Array (Option Value)}
    {ocn dcn pmn cdn ctn : Value} {odn ann : Option Addr} {sln : Array (Option Value)}
    {ocx dcx pmx cdx ctx : Value} {odx anx : Option Addr} {slx : Array (Option Value)}
    {ocl dcl pml cdl ctl : Value} {odl anl : Option Addr} {sll : Array (Option Value)}
    {ocd dcd pmd cdd ctd : Value} {odd and : Option Addr} {sld : Array (Option Value)}
    {oc_0 kV_0 dc_0 pm_0 cd_0 ct_0 : Value} {od_0 an_0 : Option Addr} {sl_0 : Array (Option Value)}
    {oc_1 kV_1 dc_1 pm_1 cd_1 ct_1 : Value} {od_1 an_1 : Option Addr} {sl_1 : Array (Option Value)}
    {oc_2 kV_2 dc_2 pm_2 cd_2 ct_2 : Value} {od_2 an_2 : Option Addr} {sl_2 : Array (Option Value)}
    {oc_3 kV_3 dc_3 pm_3 cd_3 ct_3 : Value} {od_3 an_3 : Option Addr} {sl_3 : Array (Option Value)}
    {oc_4 kV_4 dc_4 pm_4 cd_4 ct_4 : Value} {od_4 an_4 : Option Addr} {sl_4 : Array (Option Value)}
    {oc_5 kV_5 dc_5 pm_5 cd_5 ct_5 : Value} {od_5 an_5 : Option Addr} {sl_5 : Array (Option Value)}
    {oc_6 kV_6 dc_6 pm_6 cd_6 ct_6 : Value} {od_6 an_6 : Option Addr} {sl_6 : Array (Option Value)}
    {oc_7 kV_7 dc_7 pm_7 cd_7 ct_7 : Value} {od_7 an_7 : Option Addr} {sl_7 : Array (Option Value)}
    {oc_8 kV_8 dc_8 pm_8 cd_8 ct_8 : Value} {od_8 an_8 : Option Addr} {sl_8 : Array (Option Value)}
    {oc_9 kV_9 dc_9 pm_9 cd_9 ct_9 : Value} {od_9 an_9 : Option Addr} {sl_9 : Array (Option Value)}
    {oc_10 kV_10 dc_10 pm_10 cd_10 ct_10 : Value} {od_10 an_10 : Option Addr} {sl_10 : Array (Option Value)}
    {oc_11 kV_11 dc_11 pm_11 ct_11 : Value} {od_11 an_11 : Option Addr} {sl_11 : Array (Option Value)}
    {oc_12 kV_12 dc_12 pm_12 cd_12 ct_12 : Value} {od_12 an_12 : Option Addr} {sl_12 : Array (Option Value)}
    {oc_13 kV_13 dc_13 pm_13 cd_13 ct_13 : Value} {od_13 an_13 : Option Addr} {sl_13 : Array (Option Value)}
    {oc_14 kV_14 dc_14 pm_14 cd_14 ct_14 : Value} {od_14 an_14 : Option Addr} {sl_14 : Array (Option Value)}
    {oc_15 kV_15 dc_15 pm_15 cd_15 ct_15 : Value} {od_15 an_15 : Option Addr} {sl_15 : Array (Option Value)}
    {oc_16 kV_16 dc_16 pm_16 cd_16 ct_16 : Value} {od_16 an_16 : Option Addr} {sl_16 : Array (Option Value)}
    {oc_17 kV_17 dc_17 pm_17 cd_17 ct_17 : Value} {od_17 an_17 : Option Addr} {sl_17 : Array (Option Value)}
    {oc_18 kV_18 dc_18 pm_18 cd_18 ct_18 : Value} {od_18 an_18 : Option Addr} {sl_18 : Array (Option Value)}
    {oc_19 kV_19 dc_19 pm_19 cd_19 ct_19 : Value} {od_19 an_19 : Option Addr} {sl_19 : Array (Option Value)}
    {oc_20 kV_20 dc_20 pm_20 cd_20 ct_20 : Value} {od_20 an_20 : Option Addr} {sl_20 : Array (Option Value)}
    {oc_21 kV_21 dc_21 pm_21 cd_21 ct_21 : Value} {od_21 an_21 : Option Addr} {sl_21 : Array (Option Value)}
    {oc_22 kV_22 dc_22 pm_22 cd_22 ct_22 : Value} {od_22 an_22 : Option Addr} {sl_22 : Array (Option Value)}
    {oc_23 kV_23 dc_23 pm_23 cd_23 ct_23 : Value} {od_23 an_23 : Option Addr} {sl_23 : Array (Option Value)}
    {oc_24 kV_24 dc_24 pm_24 cd_24 ct_24 : Value} {od_24 an_24 : Option Addr} {sl_24 : Array (Option Value)}
    {oc_25 kV_25 dc_25 pm_25 cd_25 ct_25 : Value} {od_25 an_25 : Option Addr} {sl_25 : Array (Option Value)}
    {oc_26 kV_26 dc_26 pm_26 cd_26 ct_26 : Value} {od_26 an_26 : Option Addr} {sl_26 : Array (Option Value)}
    {ocI_ kVI_ dcI_ pmI_ cdI_ ctI_ : Value} {odI_ anI_ : Option Addr} {slI_ : Array (Option Value)}
    {ocQ_ kVQ_ dcQ_ pmQ_ cdQ_ ctQ_ : Value} {odQ_ anQ_ : Option Addr} {slQ_ : Array (Option Value)}
    {ocP_ kVP_ dcP_ pmP_ cdP_ ctP_ : Value} {odP_ anP_ : Option Addr} {slP_ : Array (Option Value)}
    {ocA_ kVA_ dcA_ pmA_ cdA_ ctA_ : Value} {odA_ anA_ : Option Addr} {slA_ : Array (Option Value)}
    {ocJ_ kVJ_ dcJ_ pmJ_ cdJ_ ctJ_ : Value} {odJ_ anJ_ : Option Addr} {slJ_ : Array (Option Value)}
    {ocT_ kVT_ dcT_ pmT_ cdT_ ctT_ : Value} {odT_ anT_ : Option Addr} {slT_ : Array (Option Value)}
    {ocU_ kVU_ dcU_ pmU_ cdU_ ctU_ : Value} {odU_ anU_ : Option Addr} {slU_ : Array (Option Value)}
    {ocW_ kVW_ dcW_ pmW_ cdW_ ctW_ : Value} {odW_ anW_ : Option Addr} {slW_ : Array (Option Value)}
    {ocD_ kVD_ dcD_ pmD_ cdD_ ctD_ : Value} {odD_ anD_ : Option Addr} {slD_ : Array (Option Value)}
    {ocE_ kVE_ dcE_ pmE_ cdE_ ctE_ : Value} {odE_ anE_ : Option Addr} {slE_ : Array (Option Value)}
    {ocR_ kVR_ dcR_ pmR_ cdR_ ctR_ : Value} {odR_ anR_ : Option Addr} {slR_ : Array (Option Value)}
    {v0 v1 v2 v3 v4 v5 v6 v7 v8 v9 v10 : Tok}
    (X : K.In h) (G : h.Ns mainGlobals mg) (hfa : mg "law" = some (.ref fa)) (hT : h.get? Pt = some tab0)
    (nE : PySem.W.nsIn K mainGlobals "InvalidEntries" = some (some (.ref CE)))
    (nN : PySem.W.nsIn K mainGlobals "NotAProgram" = some (some (.ref CN)))
    (nX : PySem.W.nsIn K mainGlobals "InvalidPlace" = some (some (.ref CX)))
    (nL : PySem.W.nsIn K mainGlobals "TooLarge" = some (some (.ref CL)))
    (nD : PySem.W.nsIn K mainGlobals "TooDeep" = some (some (.ref CD)))
    (nM : PySem.W.nsIn K mainGlobals "Mismatch" = some (some (.ref CM)))
    (nI : PySem.W.nsIn K mainGlobals "InputError" = some (some (.ref CI)))
    (nQ : PySem.W.nsIn K mainGlobals "ProgramError" = some (some (.ref CPE)))
    (nS : PySem.W.nsIn K mainGlobals "SizeError" = some (some (.ref CS)))
    (nV : PySem.W.nsIn K mainGlobals "Vocabulary" = some (some (.ref C)))
    (nP : PySem.W.nsIn K mainGlobals "Program" = some (some (.ref CP)))
    (nC : PySem.W.nsIn K mainGlobals "CORE_WORDS" = some (some (.ref tC)))
    (lC : K.lookup tC = some ⟨.type "tuple", odC, .seq #[.str "call" u1, .str "dip" u2, .str "curry" u3, .str "compose" u4, .str "choose" u5] nn, slC⟩)
    (xe : PySem.W.findIn K (.ref CE) "__init__" = some (some (.ref fI)))
    (lke : K.lookup fI = some ⟨oce, ode, .func (PySem.W.fnOf "__init__" "InvalidEntries.__init__" (iArgs "index" ⟨26, 17, 26, 21⟩ ⟨26, 23, 26, 28⟩) (iBody "index" ⟨27, 8, 27, 12⟩ ⟨27, 8, 27, 18⟩ ⟨27, 21, 27, 26⟩ ⟨27, 8, 27, 26⟩) (iScope "index") .none .none dce pme ane cde cte), sle⟩)
    (ye : PySem.W.codeIn K cde "InvalidEntries.__init__" = true)
    (xn : PySem.W.findIn K (.ref CN) "__init__" = some (some (.ref fN)))
    (lkn : K.lookup fN = some ⟨ocn, odn, .func (PySem.W.fnOf "__init__" "NotAProgram.__init__" (iArgs "value" ⟨10, 17, 10, 21⟩ ⟨10, 23, 10, 28⟩) (iBody "value" ⟨11, 8, 11, 12⟩ ⟨11, 8, 11, 18⟩ ⟨11, 21, 11, 26⟩ ⟨11, 8, 11, 26⟩) (iScope "value") .none .none dcn pmn ann cdn ctn), sln⟩)
    (yn : PySem.W.codeIn K cdn "NotAProgram.__init__" = true)
    (xx : PySem.W.findIn K (.ref CX) "__init__" = some (some (.ref fX)))
    (lkx : K.lookup fX = some ⟨ocx, odx, .func (PySem.W.fnOf "__init__" "InvalidPlace.__init__" (iArgs "value" ⟨18, 17, 18, 21⟩ ⟨18, 23, 18, 28⟩) (iBody "value" ⟨19, 8, 19, 12⟩ ⟨19, 8, 19, 18⟩ ⟨19, 21, 19, 26⟩ ⟨19, 8, 19, 26⟩) (iScope "value") .none .none dcx pmx anx cdx ctx), slx⟩)
    (yx : PySem.W.codeIn K cdx "InvalidPlace.__init__" = true)
    (xl : PySem.W.findIn K (.ref CL) "__init__" = some (some (.ref fL)))
    (lkl : K.lookup fL = some ⟨ocl, odl, .func (PySem.W.fnOf "__init__" "TooLarge.__init__" (iArgs "limit" ⟨36, 17, 36, 21⟩ ⟨36, 23, 36, 28⟩) (iBody "limit" ⟨37, 8, 37, 12⟩ ⟨37, 8, 37, 18⟩ ⟨37, 21, 37, 26⟩ ⟨37, 8, 37, 26⟩) (iScope "limit") .none .none dcl pml anl cdl ctl), sll⟩)
    (yl : PySem.W.codeIn K cdl "TooLarge.__init__" = true)
    (xd : PySem.W.findIn K (.ref CD) "__init__" = some (some (.ref fD)))
    (lkd : K.lookup fD = some ⟨ocd, odd, .func (PySem.W.fnOf "__init__" "TooDeep.__init__" (iArgs "limit" ⟨40, 17, 40, 21⟩ ⟨40, 23, 40, 28⟩) (iBody "limit" ⟨41, 8, 41, 12⟩ ⟨41, 8, 41, 18⟩ ⟨41, 21, 41, 26⟩ ⟨41, 8, 41, 26⟩) (iScope "limit") .none .none dcd pmd and cdd ctd), sld⟩)
    (yd : PySem.W.codeIn K cdd "TooDeep.__init__" = true)
    (a_0 : PySem.W.nsIn K mainGlobals "is_plain_integer" = some (some (.ref f_0)))
    (l_0 : K.lookup f_0 = some ⟨oc_0, od_0, .func (PySem.W.fnOf "is_plain_integer" "is_plain_integer" (defArgs sPI) (defBody sPI) (defScope sPI) .none kV_0 dc_0 pm_0 an_0 cd_0 ct_0), sl_0⟩)
    (c_0 : PySem.W.codeIn K cd_0 "is_plain_integer" = true)
    (k_0 : PySem.W.keepIn K (.ref f_0) = true)
    (a_1 : PySem.W.nsIn K mainGlobals "is_name" = some (some (.ref f_1)))
    (l_1 : K.lookup f_1 = some ⟨oc_1, od_1, .func (PySem.W.fnOf "is_name" "is_name" (defArgs sNm) (defBody sNm) (defScope sNm) .none kV_1 dc_1 pm_1 an_1 cd_1 ct_1), sl_1⟩)
    (c_1 : PySem.W.codeIn K cd_1 "is_name" = true)
    (k_1 : PySem.W.keepIn K (.ref f_1) = true)
    (a_2 : PySem.W.nsIn K mainGlobals "is_free_name" = some (some (.ref f_2)))
    (l_2 : K.lookup f_2 = some ⟨oc_2, od_2, .func (PySem.W.fnOf "is_free_name" "is_free_name" (defArgs sFN) (defBody sFN) (defScope sFN) .none kV_2 dc_2 pm_2 an_2 cd_2 ct_2), sl_2⟩)
    (c_2 : PySem.W.codeIn K cd_2 "is_free_name" = true)
    (k_2 : PySem.W.keepIn K (.ref f_2) = true)
    (a_3 : PySem.W.nsIn K mainGlobals "is_arity" = some (some (.ref f_3)))
    (l_3 : K.lookup f_3 = some ⟨oc_3, od_3, .func (PySem.W.fnOf "is_arity" "is_arity" (defArgs sAr) (defBody sAr) (defScope sAr) .none kV_3 dc_3 pm_3 an_3 cd_3 ct_3), sl_3⟩)
    (c_3 : PySem.W.codeIn K cd_3 "is_arity" = true)
    (k_3 : PySem.W.keepIn K (.ref f_3) = true)
    (a_4 : PySem.W.nsIn K mainGlobals "is_entry" = some (some (.ref f_4)))
    (l_4 : K.lookup f_4 = some ⟨oc_4, od_4, .func (PySem.W.fnOf "is_entry" "is_entry" (defArgs sEn) (defBody sEn) (defScope sEn) .none kV_4 dc_4 pm_4 an_4 cd_4 ct_4), sl_4⟩)
    (c_4 : PySem.W.codeIn K cd_4 "is_entry" = true)
    (k_4 : PySem.W.keepIn K (.ref f_4) = true)
    (a_5 : PySem.W.nsIn K mainGlobals "check_entries" = some (some (.ref f_5)))
    (l_5 : K.lookup f_5 = some ⟨oc_5, od_5, .func (PySem.W.fnOf "check_entries" "check_entries" (defArgs sChk) (defBody sChk) (defScope sChk) .none kV_5 dc_5 pm_5 an_5 cd_5 ct_5), sl_5⟩)
    (c_5 : PySem.W.codeIn K cd_5 "check_entries" = true)
    (k_5 : PySem.W.keepIn K (.ref f_5) = true)
    (a_6 : PySem.W.nsIn K mainGlobals "entry_text" = some (some (.ref f_6)))
    (l_6 : K.lookup f_6 = some ⟨oc_6, od_6, .func (PySem.W.fnOf "entry_text" "entry_text" (defArgs sTx) (defBody sTx) (defScope sTx) .none kV_6 dc_6 pm_6 an_6 cd_6 ct_6), sl_6⟩)
    (c_6 : PySem.W.codeIn K cd_6 "entry_text" = true)
    (k_6 : PySem.W.keepIn K (.ref f_6) = true)
    (a_7 : PySem.W.nsIn K mainGlobals "_law_urn" = some (some (.ref f_7)))
    (l_7 : K.lookup f_7 = some ⟨oc_7, od_7, .func (PySem.W.fnOf "_law_urn" "_law_urn" (defArgs sUrn) (defBody sUrn) (defScope sUrn) .none kV_7 dc_7 pm_7 an_7 cd_7 ct_7), sl_7⟩)
    (c_7 : PySem.W.codeIn K cd_7 "_law_urn" = true)
    (k_7 : PySem.W.keepIn K (.ref f_7) = true)
    (a_8 : PySem.W.nsIn K mainGlobals "_law_lot" = some (some (.ref f_8)))
    (l_8 : K.lookup f_8 = some ⟨oc_8, od_8, .func (PySem.W.fnOf "_law_lot" "_law_lot" (defArgs sLot) (defBody sLot) (defScope sLot) .none kV_8 dc_8 pm_8 an_8 cd_8 ct_8), sl_8⟩)
    (c_8 : PySem.W.codeIn K cd_8 "_law_lot" = true)
    (k_8 : PySem.W.keepIn K (.ref f_8) = true)
    (a_9 : PySem.W.nsIn K mainGlobals "_law_one" = some (some (.ref f_9)))
    (l_9 : K.lookup f_9 = some ⟨oc_9, od_9, .func (PySem.W.fnOf "_law_one" "_law_one" (defArgs sOne) (defBody sOne) (defScope sOne) .none kV_9 dc_9 pm_9 an_9 cd_9 ct_9), sl_9⟩)
    (c_9 : PySem.W.codeIn K cd_9 "_law_one" = true)
    (k_9 : PySem.W.keepIn K (.ref f_9) = true)
    (a_10 : PySem.W.nsIn K mainGlobals "_law_had" = some (some (.ref f_10)))
    (l_10 : K.lookup f_10 = some ⟨oc_10, od_10, .func (PySem.W.fnOf "_law_had" "_law_had" (defArgs sHad) (defBody sHad) (defScope sHad) .none kV_10 dc_10 pm_10 an_10 cd_10 ct_10), sl_10⟩)
    (c_10 : PySem.W.codeIn K cd_10 "_law_had" = true)
    (k_10 : PySem.W.keepIn K (.ref f_10) = true)
    (a_11 : PySem.W.nsIn K mainGlobals "_law_right" = some (some (.ref f_11)))
    (l_11 : K.lookup f_11 = some ⟨oc_11, od_11, .func (PySem.W.fnOf "_law_right" "_law_right" (defArgs sRight) (defBody sRight) (defScope sRight) .none kV_11 dc_11 pm_11 an_11 (.ref cR) ct_11), sl_11⟩)
    (c_11 : PySem.W.codeIn K (.ref cR) "_law_right" = true)
    (k_11 : PySem.W.keepIn K (.ref f_11) = true)
    (a_12 : PySem.W.nsIn K mainGlobals "law" = some (some (.ref f_12)))
    (l_12 : K.lookup f_12 = some ⟨oc_12, od_12, .func (PySem.W.fnOf "law" "law" (defArgs sLaw) (defBody sLaw) (defScope sLaw) .none kV_12 dc_12 pm_12 an_12 cd_12 ct_12), sl_12⟩)
    (c_12 : PySem.W.codeIn K cd_12 "law" = true)
    (k_12 : PySem.W.keepIn K (.ref f_12) = true)
    (a_13 : PySem.W.nsIn K mainGlobals "is_literal" = some (some (.ref f_13)))
    (l_13 : K.lookup f_13 = some ⟨oc_13, od_13, .func (PySem.W.fnOf "is_literal" "is_literal" (defArgs sLi) (defBody sLi) (defScope sLi) .none kV_13 dc_13 pm_13 an_13 cd_13 ct_13), sl_13⟩)
    (c_13 : PySem.W.codeIn K cd_13 "is_literal" = true)
    (k_13 : PySem.W.keepIn K (.ref f_13) = true)
    (a_14 : PySem.W.nsIn K mainGlobals "read_word" = some (some (.ref f_14)))
    (l_14 : K.lookup f_14 = some ⟨oc_14, od_14, .func (PySem.W.fnOf "read_word" "read_word" (defArgs sWd) (defBody sWd) (defScope sWd) .none kV_14 dc_14 pm_14 an_14 cd_14 ct_14), sl_14⟩)
    (c_14 : PySem.W.codeIn K cd_14 "read_word" = true)
    (k_14 : PySem.W.keepIn K (.ref f_14) = true)
    (a_15 : PySem.W.nsIn K mainGlobals "row_text" = some (some (.ref f_15)))
    (l_15 : K.lookup f_15 = some ⟨oc_15, od_15, .func (PySem.W.fnOf "row_text" "row_text" (defArgs sRw) (defBody sRw) (defScope sRw) .none kV_15 dc_15 pm_15 an_15 cd_15 ct_15), sl_15⟩)
    (c_15 : PySem.W.codeIn K cd_15 "row_text" = true)
    (k_15 : PySem.W.keepIn K (.ref f_15) = true)
    (a_16 : PySem.W.nsIn K mainGlobals "quotation_text" = some (some (.ref f_16)))
    (l_16 : K.lookup f_16 = some ⟨oc_16, od_16, .func (PySem.W.fnOf "quotation_text" "quotation_text" (defArgs sQx) (defBody sQx) (defScope sQx) .none kV_16 dc_16 pm_16 an_16 cd_16 ct_16), sl_16⟩)
    (c_16 : PySem.W.codeIn K cd_16 "quotation_text" = true)
    (k_16 : PySem.W.keepIn K (.ref f_16) = true)
    (a_17 : PySem.W.nsIn K mainGlobals "quote" = some (some (.ref f_17)))
    (l_17 : K.lookup f_17 = some ⟨oc_17, od_17, .func (PySem.W.fnOf "quote" "quote" (defArgs sQu) (defBody sQu) (defScope sQu) .none kV_17 dc_17 pm_17 an_17 cd_17 ct_17), sl_17⟩)
    (c_17 : PySem.W.codeIn K cd_17 "quote" = true)
    (k_17 : PySem.W.keepIn K (.ref f_17) = true)
    (a_18 : PySem.W.nsIn K mainGlobals "split_tokens" = some (some (.ref f_18)))
    (l_18 : K.lookup f_18 = some ⟨oc_18, od_18, .func (PySem.W.fnOf "split_tokens" "split_tokens" (defArgs sSp) (defBody sSp) (defScope sSp) .none kV_18 dc_18 pm_18 an_18 cd_18 ct_18), sl_18⟩)
    (c_18 : PySem.W.codeIn K cd_18 "split_tokens" = true)
    (k_18 : PySem.W.keepIn K (.ref f_18) = true)
    (a_19 : PySem.W.nsIn K mainGlobals "read_row" = some (some (.ref f_19)))
    (l_19 : K.lookup f_19 = some ⟨oc_19, od_19, .func (PySem.W.fnOf "read_row" "read_row" (defArgs sRR) (defBody sRR) (defScope sRR) .none kV_19 dc_19 pm_19 an_19 cd_19 ct_19), sl_19⟩)
    (c_19 : PySem.W.codeIn K cd_19 "read_row" = true)
    (k_19 : PySem.W.keepIn K (.ref f_19) = true)
    (a_20 : PySem.W.nsIn K mainGlobals "measure_size" = some (some (.ref f_20)))
    (l_20 : K.lookup f_20 = some ⟨oc_20, od_20, .func (PySem.W.fnOf "measure_size" "measure_size" (defArgs sMs) (defBody sMs) (defScope sMs) .none kV_20 dc_20 pm_20 an_20 cd_20 ct_20), sl_20⟩)
    (c_20 : PySem.W.codeIn K cd_20 "measure_size" = true)
    (k_20 : PySem.W.keepIn K (.ref f_20) = true)
    (a_21 : PySem.W.nsIn K mainGlobals "measure_depth" = some (some (.ref f_21)))
    (l_21 : K.lookup f_21 = some ⟨oc_21, od_21, .func (PySem.W.fnOf "measure_depth" "measure_depth" (defArgs sMd) (defBody sMd) (defScope sMd) .none kV_21 dc_21 pm_21 an_21 cd_21 ct_21), sl_21⟩)
    (c_21 : PySem.W.codeIn K cd_21 "measure_depth" = true)
    (k_21 : PySem.W.keepIn K (.ref f_21) = true)
    (a_22 : PySem.W.nsIn K mainGlobals "check_vocabulary" = some (some (.ref f_22)))
    (l_22 : K.lookup f_22 = some ⟨oc_22, od_22, .func (PySem.W.fnOf "check_vocabulary" "check_vocabulary" (defArgs sCv) (defBody sCv) (defScope sCv) .none kV_22 dc_22 pm_22 an_22 cd_22 ct_22), sl_22⟩)
    (c_22 : PySem.W.codeIn K cd_22 "check_vocabulary" = true)
    (k_22 : PySem.W.keepIn K (.ref f_22) = true)
    (a_23 : PySem.W.nsIn K mainGlobals "check_program" = some (some (.ref f_23)))
    (l_23 : K.lookup f_23 = some ⟨oc_23, od_23, .func (PySem.W.fnOf "check_program" "check_program" (defArgs sCp) (defBody sCp) (defScope sCp) .none kV_23 dc_23 pm_23 an_23 cd_23 ct_23), sl_23⟩)
    (c_23 : PySem.W.codeIn K cd_23 "check_program" = true)
    (k_23 : PySem.W.keepIn K (.ref f_23) = true)
    (a_24 : PySem.W.nsIn K mainGlobals "check_both_programs" = some (some (.ref f_24)))
    (l_24 : K.lookup f_24 = some ⟨oc_24, od_24, .func (PySem.W.fnOf "check_both_programs" "check_both_programs" (defArgs sCb) (defBody sCb) (defScope sCb) .none kV_24 dc_24 pm_24 an_24 cd_24 ct_24), sl_24⟩)
    (c_24 : PySem.W.codeIn K cd_24 "check_both_programs" = true)
    (k_24 : PySem.W.keepIn K (.ref f_24) = true)
    (a_25 : PySem.W.nsIn K mainGlobals "check_place" = some (some (.ref f_25)))
    (l_25 : K.lookup f_25 = some ⟨oc_25, od_25, .func (PySem.W.fnOf "check_place" "check_place" (defArgs sCc) (defBody sCc) (defScope sCc) .none kV_25 dc_25 pm_25 an_25 cd_25 ct_25), sl_25⟩)
    (c_25 : PySem.W.codeIn K cd_25 "check_place" = true)
    (k_25 : PySem.W.keepIn K (.ref f_25) = true)
    (a_26 : PySem.W.nsIn K mainGlobals "check_limits" = some (some (.ref f_26)))
    (l_26 : K.lookup f_26 = some ⟨oc_26, od_26, .func (PySem.W.fnOf "check_limits" "check_limits" (defArgs sCl) (defBody sCl) (defScope sCl) .none kV_26 dc_26 pm_26 an_26 cd_26 ct_26), sl_26⟩)
    (c_26 : PySem.W.codeIn K cd_26 "check_limits" = true)
    (k_26 : PySem.W.keepIn K (.ref f_26) = true)
    (mI : PySem.W.findIn K (.ref C) "__init__" = some (some (.ref fIn)))
    (lI_ : K.lookup fIn = some ⟨ocI_, odI_, .func (PySem.W.fnOf "__init__" "Vocabulary.__init__" (defArgs sIni) (defBody sIni) (defScope sIni) .none kVI_ dcI_ pmI_ anI_ cdI_ ctI_), slI_⟩)
    (cI_ : PySem.W.codeIn K cdI_ "Vocabulary.__init__" = true)
    (kI_ : PySem.W.keepIn K (.ref fIn) = true)
    (mQ : PySem.W.findIn K (.ref C) "__eq__" = some (some (.ref fEq)))
    (lQ_ : K.lookup fEq = some ⟨ocQ_, odQ_, .func (PySem.W.fnOf "__eq__" "Vocabulary.__eq__" (defArgs sEqV) (defBody sEqV) (defScope sEqV) .none kVQ_ dcQ_ pmQ_ anQ_ cdQ_ ctQ_), slQ_⟩)
    (cQ_ : PySem.W.codeIn K cdQ_ "Vocabulary.__eq__" = true)
    (kQ_ : PySem.W.keepIn K (.ref fEq) = true)
    (mP : PySem.W.findIn K (.ref C) "__repr__" = some (some (.ref fRp)))
    (lP_ : K.lookup fRp = some ⟨ocP_, odP_, .func (PySem.W.fnOf "__repr__" "Vocabulary.__repr__" (defArgs sRpV) (defBody sRpV) (defScope sRpV) .none kVP_ dcP_ pmP_ anP_ cdP_ ctP_), slP_⟩)
    (cP_ : PySem.W.codeIn K cdP_ "Vocabulary.__repr__" = true)
    (kP_ : PySem.W.keepIn K (.ref fRp) = true)
    (mA : PySem.W.findIn K (.ref C) "arity" = some (some (.ref fA)))
    (lA_ : K.lookup fA = some ⟨ocA_, odA_, .func (PySem.W.fnOf "arity" "Vocabulary.arity" (defArgs sAri) (defBody sAri) (defScope sAri) .none kVA_ dcA_ pmA_ anA_ cdA_ ctA_), slA_⟩)
    (cA_ : PySem.W.codeIn K cdA_ "Vocabulary.arity" = true)
    (kA_ : PySem.W.keepIn K (.ref fA) = true)
    (mJ : PySem.W.findIn K (.ref CP) "__init__" = some (some (.ref fPI)))
    (lJ_ : K.lookup fPI = some ⟨ocJ_, odJ_, .func (PySem.W.fnOf "__init__" "Program.__init__" (defArgs sPI_) (defBody sPI_) (defScope sPI_) .none kVJ_ dcJ_ pmJ_ anJ_ cdJ_ ctJ_), slJ_⟩)
    (cJ_ : PySem.W.codeIn K cdJ_ "Program.__init__" = true)
    (kJ_ : PySem.W.keepIn K (.ref fPI) = true)
    (mT : PySem.W.findIn K (.ref CP) "then" = some (some (.ref fTh)))
    (lT_ : K.lookup fTh = some ⟨ocT_, odT_, .func (PySem.W.fnOf "then" "Program.then" (defArgs sTh) (defBody sTh) (defScope sTh) .none kVT_ dcT_ pmT_ anT_ cdT_ ctT_), slT_⟩)
    (cT_ : PySem.W.codeIn K cdT_ "Program.then" = true)
    (kT_ : PySem.W.keepIn K (.ref fTh) = true)
    (mU : PySem.W.findIn K (.ref CP) "part" = some (some (.ref fPt)))
    (lU_ : K.lookup fPt = some ⟨ocU_, odU_, .func (PySem.W.fnOf "part" "Program.part" (defArgs sPt) (defBody sPt) (defScope sPt) .none kVU_ dcU_ pmU_ anU_ cdU_ ctU_), slU_⟩)
    (cU_ : PySem.W.codeIn K cdU_ "Program.part" = true)
    (kU_ : PySem.W.keepIn K (.ref fPt) = true)
    (mW : PySem.W.findIn K (.ref CP) "without" = some (some (.ref fWo)))
    (lW_ : K.lookup fWo = some ⟨ocW_, odW_, .func (PySem.W.fnOf "without" "Program.without" (defArgs sWo) (defBody sWo) (defScope sWo) .none kVW_ dcW_ pmW_ anW_ cdW_ ctW_), slW_⟩)
    (cW_ : PySem.W.codeIn K cdW_ "Program.without" = true)
    (kW_ : PySem.W.keepIn K (.ref fWo) = true)
    (mD : PySem.W.findIn K (.ref CP) "quoted" = some (some (.ref fQd)))
    (lD_ : K.lookup fQd = some ⟨ocD_, odD_, .func (PySem.W.fnOf "quoted" "Program.quoted" (defArgs sQd) (defBody sQd) (defScope sQd) .none kVD_ dcD_ pmD_ anD_ cdD_ ctD_), slD_⟩)
    (cD_ : PySem.W.codeIn K cdD_ "Program.quoted" = true)
    (kD_ : PySem.W.keepIn K (.ref fQd) = true)
    (mE : PySem.W.findIn K (.ref CP) "__eq__" = some (some (.ref fEP)))
    (lE_ : K.lookup fEP = some ⟨ocE_, odE_, .func (PySem.W.fnOf "__eq__" "Program.__eq__" (defArgs sEqP) (defBody sEqP) (defScope sEqP) .none kVE_ dcE_ pmE_ anE_ cdE_ ctE_), slE_⟩)
    (cE_ : PySem.W.codeIn K cdE_ "Program.__eq__" = true)
    (kE_ : PySem.W.keepIn K (.ref fEP) = true)
    (mR : PySem.W.findIn K (.ref CP) "__repr__" = some (some (.ref fRP)))
    (lR_ : K.lookup fRP = some ⟨ocR_, odR_, .func (PySem.W.fnOf "__repr__" "Program.__repr__" (defArgs sRpP) (defBody sRpP) (defScope sRpP) .none kVR_ dcR_ pmR_ anR_ cdR_ ctR_), slR_⟩)
    (cR_ : PySem.W.codeIn K cdR_ "Program.__repr__" = true)
    (kR_ : PySem.W.keepIn K (.ref fRP) = true)
    (z_int : PySem.W.nsIn K mainGlobals "int" = some none)
    (z_len : PySem.W.nsIn K mainGlobals "len" = some none)
    (z_abs : PySem.W.nsIn K mainGlobals "abs" = some none)
    (z_divmod : PySem.W.nsIn K mainGlobals "divmod" = some none)
    (z_max : PySem.W.nsIn K mainGlobals "max" = some none)
    (z_min : PySem.W.nsIn K mainGlobals "min" = some none)
    (z_range : PySem.W.nsIn K mainGlobals "range" = some none)
    (z_all : PySem.W.nsIn K mainGlobals "all" = some none)
    (z_isinstance : PySem.W.nsIn K mainGlobals "isinstance" = some none)
    (z_bool : PySem.W.nsIn K mainGlobals "bool" = some none)
    (z_str : PySem.W.nsIn K mainGlobals "str" = some none)
    (z_tuple : PySem.W.nsIn K mainGlobals "tuple" = some none)
    (z_set : PySem.W.nsIn K mainGlobals "set" = some none)
    (z_enumerate : PySem.W.nsIn K mainGlobals "enumerate" = some none)
    (z_sorted : PySem.W.nsIn K mainGlobals "sorted" = some none)
    (z_repr : PySem.W.nsIn K mainGlobals "repr" = some none)
    (z_ValueError : PySem.W.nsIn K mainGlobals "ValueError" = some none)
    (z_TypeError : PySem.W.nsIn K mainGlobals "TypeError" = some none)
    (z_ArithmeticError : PySem.W.nsIn K mainGlobals "ArithmeticError" = some none)
    (w_0 : PySem.W.nsIn K mainGlobals "LETTERS" = some (some (.str "abcdefghijklmnopqrstuvwxyz" v0)))
    (w_1 : PySem.W.nsIn K mainGlobals "LONGEST_NAME" = some (some (.int 8 v1)))
    (w_2 : PySem.W.nsIn K mainGlobals "MOST_ARITY" = some (some (.int 3 v2)))
    (w_3 : PySem.W.nsIn K mainGlobals "MOST_ENTRIES" = some (some (.int 8 v3)))
    (w_4 : PySem.W.nsIn K mainGlobals "QUOTATION" = some (some (.str "quotation" v4)))
    (w_5 : PySem.W.nsIn K mainGlobals "UNKNOWN" = some (some (.str "unknown" v5)))
    (w_6 : PySem.W.nsIn K mainGlobals "LITERAL" = some (some (.str "literal" v6)))
    (w_7 : PySem.W.nsIn K mainGlobals "FIGURES" = some (some (.str "0123456789" v7)))
    (w_8 : PySem.W.nsIn K mainGlobals "MOST_FIGURES" = some (some (.int 18 v8)))
    (w_9 : PySem.W.nsIn K mainGlobals "MOST_SIZE" = some (some (.int 60 v9)))
    (w_10 : PySem.W.nsIn K mainGlobals "MOST_NESTED" = some (some (.int 6 v10)))
    (hA : chkA K CE CN CX CL CD CM CI CPE CS C CP Pt cR fI fN fX fL fD fIn fEq fRp fA fPI fTh fPt fWo fQd fEP fRP = true) :
    AtG l w K 11 63 "_law_script" mg fa h := by
  have e := hfa.symm.trans (PySem.W.mg_of X G a_12)
  cases e
  unfold chkA at hA
  simp only [Bool.and_eq_true, beq_iff_eq, Bool.not_eq_true'] at hA
  obtain ⟨eoe, ete, ece, eon, etn, ecn, eox, etx, ecx, eol, etl, ecl, eod, etd, ecd, qM, kpM, sbM, tyM, isM, gD, tK, m_xx, m_mx, m_mm, m_nx, m_nm, m_nn, m_dx, m_dm, m_dn, m_dd, m_lx, m_lm, m_ln, m_ld, m_ll, k_x1, k_x2, k_m1, k_m2, k_n1, k_n2, k_d1, k_d2, k_l1, k_l2, pGv, hDv, pOv, sAv, mkv, kpv, fCv, mOv, ksv, sOv, nEv, pGp, hDp, pOp, sAp, mkp, kpp, fCp, mOp, ksp, sOp, nEp, av_arities, av_names, av_text, ap_vocabulary, ap_text, ap_row, ap_words, ap_size, fnI, fnQ, fnP, fnA, fnJ, fnT, fnU, fnW, fnD, fnE, fnR, kt_NoneType, kt_str, kt_tuple, kt_int, kt_list, kt_V, cH, lP⟩ := hA
  have BL : Blt mg := ⟨(PySem.W.mg_none_of X G z_int), (PySem.W.mg_none_of X G z_len), (PySem.W.mg_none_of X G z_abs), (PySem.W.mg_none_of X G z_divmod), (PySem.W.mg_none_of X G z_max), (PySem.W.mg_none_of X G z_min), (PySem.W.mg_none_of X G z_range), (PySem.W.mg_none_of X G z_all)⟩
  have B : B2 mg := ⟨(PySem.W.mg_none_of X G z_isinstance), (PySem.W.mg_none_of X G z_int), (PySem.W.mg_none_of X G z_bool), (PySem.W.mg_none_of X G z_str), (PySem.W.mg_none_of X G z_tuple), (PySem.W.mg_none_of X G z_len), (PySem.W.mg_none_of X G z_all), ⟨_, (PySem.W.mg_of X G w_0)⟩, ⟨_, (PySem.W.mg_of X G w_1)⟩, ⟨_, (PySem.W.mg_of X G w_2)⟩⟩
  have BB : B3 mg := ⟨(PySem.W.mg_none_of X G z_set), (PySem.W.mg_none_of X G z_enumerate), ⟨_, (PySem.W.mg_of X G w_3)⟩⟩
  have B4' : B4 mg := ⟨(PySem.W.mg_none_of X G z_sorted)⟩
  have W : W6 mg := ⟨⟨_, (PySem.W.mg_of X G w_4)⟩, ⟨_, (PySem.W.mg_of X G w_5)⟩, ⟨_, (PySem.W.mg_of X G w_6)⟩, ⟨_, (PySem.W.mg_of X G w_7)⟩, ⟨_, (PySem.W.mg_of X G w_8)⟩, ⟨_, (PySem.W.mg_of X G w_9)⟩, ⟨_, (PySem.W.mg_of X G w_10)⟩⟩
  have CW : Core K mg tC := ⟨PySem.W.mg_of X G nC, fun H => .inr ⟨_, _, _, lC, rfl, rfl, (by show 5 ≤ sizeLine; decide), .cons ⟨_, rfl⟩ (.cons ⟨_, rfl⟩ (.cons ⟨_, rfl⟩ (.cons ⟨_, rfl⟩ (.cons ⟨_, rfl⟩ .nil))))⟩⟩
  have F_0 := fun_mk (st := sPI) l_0 c_0 k_0
  have b_0 := F_0.binds (ps := ["value"]) fun _ _ _ _ _ _ us hl => match us, hl with | [_], _ => rfl
  have F_1 := fun_mk (st := sNm) l_1 c_1 k_1
  have b_1 := F_1.binds (ps := ["value"]) fun _ _ _ _ _ _ us hl => match us, hl with | [_], _ => rfl
  have F_2 := fun_mk (st := sFN) l_2 c_2 k_2
  have b_2 := F_2.binds (ps := ["value"]) fun _ _ _ _ _ _ us hl => match us, hl with | [_], _ => rfl
  have F_3 := fun_mk (st := sAr) l_3 c_3 k_3
  have b_3 := F_3.binds (ps := ["value"]) fun _ _ _ _ _ _ us hl => match us, hl with | [_], _ => rfl
  have F_4 := fun_mk (st := sEn) l_4 c_4 k_4
  have b_4 := F_4.binds (ps := ["value"]) fun _ _ _ _ _ _ us hl => match us, hl with | [_], _ => rfl
  have F_5 := fun_mk (st := sChk) l_5 c_5 k_5
  have b_5 := F_5.binds (ps := ["entries"]) fun _ _ _ _ _ _ us hl => match us, hl with | [_], _ => rfl
  have F_6 := fun_mk (st := sTx) l_6 c_6 k_6
  have b_6 := F_6.binds (ps := ["name", "arity"]) fun _ _ _ _ _ _ us hl => match us, hl with | [_, _], _ => rfl
  have F_7 := fun_mk (st := sUrn) l_7 c_7 k_7
  have b_7 := F_7.binds (ps := ["_law_script", "_law_k"]) fun _ _ _ _ _ _ us hl => match us, hl with | [_, _], _ => rfl
  have F_8 := fun_mk (st := sLot) l_8 c_8 k_8
  have b_8 := F_8.binds (ps := ["_law_urn_here", "_law_many"]) fun _ _ _ _ _ _ us hl => match us, hl with | [_, _], _ => rfl
  have F_9 := fun_mk (st := sOne) l_9 c_9 k_9
  have b_9 := F_9.binds (ps := ["_law_urn_here", "_law_things"]) fun _ _ _ _ _ _ us hl => match us, hl with | [_, _], _ => rfl
  have F_10 := fun_mk (st := sHad) l_10 c_10 k_10
  have b_10 := F_10.binds (ps := ["_law_ask"]) fun _ _ _ _ _ _ us hl => match us, hl with | [_], _ => rfl
  have F_11 : FunC K "_law_right" "_law_right" sRight f_11 _ cR := ⟨⟨_, _, _, _, _, _, _, _, rfl, l_11, c_11⟩, k_11⟩
  have b_11 := F_11.f.binds (ps := ["_law_urn_here"]) fun _ _ _ _ _ _ us hl => match us, hl with | [_], _ => rfl
  have F_12 := fun_mk (st := sLaw) l_12 c_12 k_12
  have b_12 := F_12.binds (ps := ["_law_script"]) fun _ _ _ _ _ _ us hl => match us, hl with | [_], _ => rfl
  have F_13 := fun_mk (st := sLi) l_13 c_13 k_13
  have b_13 := F_13.binds (ps := ["token"]) fun _ _ _ _ _ _ us hl => match us, hl with | [_], _ => rfl
  have F_14 := fun_mk (st := sWd) l_14 c_14 k_14
  have b_14 := F_14.binds (ps := ["token", "vocabulary"]) fun _ _ _ _ _ _ us hl => match us, hl with | [_, _], _ => rfl
  have F_15 := fun_mk (st := sRw) l_15 c_15 k_15
  have b_15 := F_15.binds (ps := ["texts"]) fun _ _ _ _ _ _ us hl => match us, hl with | [_], _ => rfl
  have F_16 := fun_mk (st := sQx) l_16 c_16 k_16
  have b_16 := F_16.binds (ps := ["text"]) fun _ _ _ _ _ _ us hl => match us, hl with | [_], _ => rfl
  have F_17 := fun_mk (st := sQu) l_17 c_17 k_17
  have b_17 := F_17.binds (ps := ["row"]) fun _ _ _ _ _ _ us hl => match us, hl with | [_], _ => rfl
  have F_18 := fun_mk (st := sSp) l_18 c_18 k_18
  have b_18 := F_18.binds (ps := ["text"]) fun _ _ _ _ _ _ us hl => match us, hl with | [_], _ => rfl
  have F_19 := fun_mk (st := sRR) l_19 c_19 k_19
  have b_19 := F_19.binds (ps := ["text", "vocabulary"]) fun _ _ _ _ _ _ us hl => match us, hl with | [_, _], _ => rfl
  have F_20 := fun_mk (st := sMs) l_20 c_20 k_20
  have b_20 := F_20.binds (ps := ["text"]) fun _ _ _ _ _ _ us hl => match us, hl with | [_], _ => rfl
  have F_21 := fun_mk (st := sMd) l_21 c_21 k_21
  have b_21 := F_21.binds (ps := ["text"]) fun _ _ _ _ _ _ us hl => match us, hl with | [_], _ => rfl
  have F_22 := fun_mk (st := sCv) l_22 c_22 k_22
  have b_22 := F_22.binds (ps := ["value"]) fun _ _ _ _ _ _ us hl => match us, hl with | [_], _ => rfl
  have F_23 := fun_mk (st := sCp) l_23 c_23 k_23
  have b_23 := F_23.binds (ps := ["value"]) fun _ _ _ _ _ _ us hl => match us, hl with | [_], _ => rfl
  have F_24 := fun_mk (st := sCb) l_24 c_24 k_24
  have b_24 := F_24.binds (ps := ["program", "other_program"]) fun _ _ _ _ _ _ us hl => match us, hl with | [_, _], _ => rfl
  have F_25 := fun_mk (st := sCc) l_25 c_25 k_25
  have b_25 := F_25.binds (ps := ["value", "least", "most"]) fun _ _ _ _ _ _ us hl => match us, hl with | [_, _, _], _ => rfl
  have F_26 := fun_mk (st := sCl) l_26 c_26 k_26
  have b_26 := F_26.binds (ps := ["size", "depth"]) fun _ _ _ _ _ _ us hl => match us, hl with | [_, _], _ => rfl
  have FI := fun_mk (st := sIni) lI_ cI_ kI_
  have FQ := fun_mk (st := sEqV) lQ_ cQ_ kQ_
  have bQ := FQ.binds (ps := ["self", "other"]) fun _ _ _ _ _ _ us hl => match us, hl with | [_, _], _ => rfl
  have FP := fun_mk (st := sRpV) lP_ cP_ kP_
  have bP := FP.binds (ps := ["self"]) fun _ _ _ _ _ _ us hl => match us, hl with | [_], _ => rfl
  have FA := fun_mk (st := sAri) lA_ cA_ kA_
  have bA := FA.binds (ps := ["self", "name"]) fun _ _ _ _ _ _ us hl => match us, hl with | [_, _], _ => rfl
  have FJ := fun_mk (st := sPI_) lJ_ cJ_ kJ_
  have bJ := FJ.binds (ps := ["self", "vocabulary", "text"]) fun _ _ _ _ _ _ us hl => match us, hl with | [_, _, _], _ => rfl
  have FT := fun_mk (st := sTh) lT_ cT_ kT_
  have bT := FT.binds (ps := ["self", "other_program"]) fun _ _ _ _ _ _ us hl => match us, hl with | [_, _], _ => rfl
  have FU := fun_mk (st := sPt) lU_ cU_ kU_
  have bU := FU.binds (ps := ["self", "start", "end"]) fun _ _ _ _ _ _ us hl => match us, hl with | [_, _, _], _ => rfl
  have FW := fun_mk (st := sWo) lW_ cW_ kW_
  have bW := FW.binds (ps := ["self", "place"]) fun _ _ _ _ _ _ us hl => match us, hl with | [_, _], _ => rfl
  have FD := fun_mk (st := sQd) lD_ cD_ kD_
  have bD := FD.binds (ps := ["self"]) fun _ _ _ _ _ _ us hl => match us, hl with | [_], _ => rfl
  have FE := fun_mk (st := sEqP) lE_ cE_ kE_
  have bE := FE.binds (ps := ["self", "other"]) fun _ _ _ _ _ _ us hl => match us, hl with | [_, _], _ => rfl
  have FR := fun_mk (st := sRpP) lR_ cR_ kR_
  have bR := FR.binds (ps := ["self"]) fun _ _ _ _ _ _ us hl => match us, hl with | [_], _ => rfl
  have Zn : ErX K mg "NotAProgram" CN fN "value" bmV "ValueError.__new__" := ⟨PySem.W.mg_of X G nN, ErrC.of eon, ⟨xn, etn, _, _, _, _, _, _, _, _, _, _, _, _, _, _, _, lkn, yn⟩, ecn⟩
  have Zx : ErX K mg "InvalidPlace" CX fX "value" bmV "ValueError.__new__" := ⟨PySem.W.mg_of X G nX, ErrC.of eox, ⟨xx, etx, _, _, _, _, _, _, _, _, _, _, _, _, _, _, _, lkx, yx⟩, ecx⟩
  have Zl : ErX K mg "TooLarge" CL fL "limit" bmA "ArithmeticError.__new__" := ⟨PySem.W.mg_of X G nL, ErrC.of eol, ⟨xl, etl, _, _, _, _, _, _, _, _, _, _, _, _, _, _, _, lkl, yl⟩, ecl⟩
  have Zd : ErX K mg "TooDeep" CD fD "limit" bmA "ArithmeticError.__new__" := ⟨PySem.W.mg_of X G nD, ErrC.of eod, ⟨xd, etd, _, _, _, _, _, _, _, _, _, _, _, _, _, _, _, lkd, yd⟩, ecd⟩
  have D : D2 K mg _ _ _ _ _ _ _ _ _ _ := ⟨PySem.W.mg_of X G a_0, F_0, b_0, PySem.W.mg_of X G a_1, F_1, b_1, PySem.W.mg_of X G a_2, F_2, b_2, PySem.W.mg_of X G a_3, F_3, b_3, PySem.W.mg_of X G a_4, F_4, b_4⟩
  have I : I2 K mg _ _ _ _ := ⟨PySem.W.mg_of X G a_5, F_5, b_5, PySem.W.mg_of X G a_6, F_6, b_6⟩
  have Z : EC K mg CE fI := ⟨PySem.W.mg_of X G nE, ErrC.of eoe, ⟨xe, ete, _, _, _, _, _, _, _, _, _, _, _, _, _, _, _, lke, ye⟩, ece⟩
  have ZM : Er0 K mg "Mismatch" CM bmT "TypeError.__new__" := ⟨PySem.W.mg_of X G nM, qM, kpM, sbM, tyM, IsC.of isM⟩
  have HF : HadF K mg ⟨CX, CM, CN, CD, CL⟩ CI CPE CS fX fN fD fL := ⟨⟨gD, tK⟩, PySem.W.mg_of X G nI, PySem.W.mg_of X G nQ, PySem.W.mg_of X G nS, PySem.W.mg_none_of X G z_ValueError, PySem.W.mg_none_of X G z_TypeError, PySem.W.mg_none_of X G z_ArithmeticError, Zx, ZM, Zn, Zd, Zl, m_xx, m_mx, m_mm, m_nx, m_nm, m_nn, m_dx, m_dm, m_dn, m_dd, m_lx, m_lm, m_ln, m_ld, m_ll, k_x1, k_x2, k_m1, k_m2, k_n1, k_n2, k_d1, k_d2, k_l1, k_l2⟩
  have clV : Cls K C := ⟨pGv, hDv, pOv, sAv⟩
  have clP : Cls K CP := ⟨pGp, hDp, pOp, sAp⟩
  have VV : VC K mg C := ⟨PySem.W.mg_of X G nV, clV, av_arities, av_names, av_text⟩
  have PV : PC K mg CP := ⟨PySem.W.mg_of X G nP, clP, ap_vocabulary, ap_text, ap_row, ap_words, ap_size⟩
  have TV : IC K C := ⟨clV, fCv, gD, tK, mOv, ksv⟩
  have TP : IC K CP := ⟨clP, fCp, gD, tK, mOp, ksp⟩
  have MKV : Mk K C fIn := ⟨mkv, mI, fnI, kpv⟩
  have MKP : Mk K CP fPI := ⟨mkp, mJ, fnJ, kpp⟩
  have CQ : CmpC K C fEq := ⟨sOv, nEv, mQ, fnQ⟩
  have CQP : CmpC K CP fEP := ⟨sOp, nEp, mE, fnE⟩
  have RCV : RpC K C fRp := ⟨mP, fnP⟩
  have RCP : RpC K CP fRP := ⟨mR, fnR⟩
  have MA : Meth K C "arity" fA := ⟨mA, fnA, kA_⟩
  have DW : Drw K mg _ _ _ _ := ⟨PySem.W.mg_of X G a_8, F_8, b_8, PySem.W.mg_of X G a_9, F_9, b_9⟩
  have HD : HadD K mg _ _ := ⟨PySem.W.mg_of X G a_10, F_10, b_10⟩
  have hN : K.lookup Pt = none := Option.isNone_iff_eq_none.mp lP
  refine ⟨PySem.W.fnOf "law" "law" (defArgs sLaw) (defBody sLaw) (defScope sLaw) .none kV_12 dc_12 pm_12 an_12 cd_12 ct_12, [(cR, Pt)], spLawT K [(Pt, lamN)], fun p hp => ?_, fun s v => .of_eq rfl, fun H a ns hl _ hH hS => ⟨a, ns, rfl, hS, hl, fun p hp => ?_, fun _ => rfl⟩, fun base _ _ hTB => ?_⟩
  · rw [List.mem_singleton.mp hp]
    exact ⟨hT, hN, PySem.W.codeHd_of_K X cH⟩
  · rw [List.mem_singleton.mp hp]
    exact LamX.TabS.nil (hH (cR, Pt) (List.mem_singleton.mpr rfl))
  · have GEV : FnR l.prog w K mg base CX0 1 fEq (spEqV C) := ((ok_eqV FQ B VV TV).raw bQ .nil).imp fun vs H Q E hs => by rw [List.append_nil]; exact hs
    have GRV : FnR l.prog w K mg base CX0 1 fRp (spRpV C) := ((ok_rpV FP VV).raw bP .nil).imp fun vs H Q E hs => by rw [List.append_nil]; exact hs
    have GRP : FnR l.prog w K mg base CX0 1 fRP (spRpP CP) := ((ok_rpP FR PV).raw bR .nil).imp fun vs H Q E hs => by rw [List.append_nil]; exact hs
    have GEP : FnR l.prog w K mg base CX0 2 fEP (spEqP CP C) := ((ok_eqP FE B PV TP CQ GEV).raw bE .nil).imp fun vs H Q E hs => by rw [List.append_nil]; exact hs
    have GIV : FnR l.prog w K mg base (L2N.CX l.prog w) 5 fIn (spInit C CE) := ok_ini I D B CW Z BB B4' VV FI
    have GSp := ok_sp (P := l.prog) (w := w) (mg := mg) (base := base) F_18
    have GQu := ok_qu (P := l.prog) (w := w) (base := base) F_17 W (PySem.W.mg_of X G a_15) F_15 b_15 (PySem.W.mg_of X G a_16) F_16 b_16
    have GWd := ok_wd (P := l.prog) (w := w) (base := base) F_14 B W CW VV (PySem.W.mg_of X G a_13) F_13 b_13 MA FA bA
    have GRR := ok_rr F_19 B ⟨PySem.W.mg_of X G a_18, F_18.kp, b_18, GSp, PySem.W.mg_of X G a_17, F_17.kp, b_17, GQu, PySem.W.mg_of X G a_14, F_14.kp, b_14, GWd⟩
    have GMs := ok_ms F_20 B (PySem.W.mg_of X G a_18) F_18.kp b_18 GSp
    have GMd := ok_md F_21 BL (PySem.W.mg_of X G a_18) F_18.kp b_18 GSp
    have GCv := ok_cv (P := l.prog) (w := w) (base := base) F_22 B VV TV
    have GCl := ok_cl (P := l.prog) (w := w) (base := base) F_26 W Zl Zd
    have GPI := ok_pi_ (CP := CP) FJ B PV ⟨PySem.W.mg_of X G a_22, F_22.kp, b_22, GCv, PySem.W.mg_of X G a_19, F_19.kp, b_19, GRR, PySem.W.mg_of X G a_20, F_20.kp, b_20, GMs, PySem.W.mg_of X G a_21, F_21.kp, b_21, GMd, PySem.W.mg_of X G a_26, F_26.kp, b_26, GCl⟩
    have GCp := ok_cp (P := l.prog) (w := w) (base := base) F_23 B PV TP Zn
    have GCb := ok_cb F_24 PV (PySem.W.mg_of X G a_23) F_23.kp b_23 GCp CQ GEV ZM
    have GCc := ok_cc F_25 (PySem.W.mg_of X G a_0) F_0.kp b_0 (ok_pi (P := l.prog) (w := w) (base := base) F_0 B) Zx
    have M : M6 l.prog w K mg base C CP CN CM CX CL CD fPI _ _ _ _ _ _ _ _ _ := ⟨B, PV, MKP, bJ, GPI, PySem.W.mg_of X G a_24, F_24.kp, b_24, GCb, PySem.W.mg_of X G a_25, F_25.kp, b_25, GCc, PySem.W.mg_of X G a_15, F_15.kp, b_15, ok_rwt F_15, PySem.W.mg_of X G a_16, F_16.kp, b_16, ok_qx F_16⟩
    have A : All l.prog w K mg base cR Pt ⟨_, _, _, C, CE, fIn, CP, fPI, fPt, fWo, fTh, fQd, fEP, fRp, fRP, CI, CPE, CS, fX, fN, fD, fL, ⟨CX, CM, CN, CD, CL⟩, _, _, _, _, _, _, _, _⟩ := ⟨BL, B, PySem.W.mg_none_of X G z_repr, DW, HD, HF, VV, TV, MKV, GIV, PV, MKP, bJ, GPI, ⟨mU, fnU, kU_⟩, bU, ok_pt FU M, ⟨mW, fnW, kW_⟩, bW, ok_wo FW M, ⟨mT, fnT, kT_⟩, bT, ok_th FT M, ⟨mD, fnD, kD_⟩, bD, ok_qd FD M, CQP, GEP, RCV, GRV, RCP, GRP, hTB (cR, Pt) (List.mem_singleton.mpr rfl), ok_lot DW.FL BL, ok_one DW BL, kt_NoneType, kt_str, kt_tuple, kt_int, kt_list, kt_V⟩
    exact ok_lawT (j := 9) F_12 BL (PySem.W.mg_of X G a_7) F_7 b_7 (PySem.W.mg_of X G a_11) F_11.kp b_11 (ok_right F_11 A)
end SQ6
open PySem PySem.W PyProof.Rows
set_option maxRecDepth 100000 in
set_option maxHeartbeats 0 in
theorem PySem.Challenge.cw_stackquotes_k06_places_and_joins_refused_holds : PySem.Challenge.rw_stackquotes_k06_places_and_joins_refused.Holds := by
  w_on; o_law; k_head; (case hw => w_witness2)
  k_fill
  refine SQ.walkGT (l := PySem.Challenge.rw_stackquotes_k06_places_and_joins_refused) (n := 63) (k := 11) (x := "_law_script") rfl (by decide) rfl ⟨rfl, by decide, by decide⟩ (fun w h Y => PySem.W.km_in_of Y) ?F
  case F =>
    intro w mg fa h Y KX G hmg
    have TX := PySem.W.km_tabs_of Y
    refine' SQ6.all_mk (Pt := 544) KX G hmg (TX 544 (by decide)) ?nE ?nN ?nX ?nL ?nD ?nM ?nI ?nQ ?nS ?nV ?nP ?nC ?lC ?xe ?lke ?ye ?xn ?lkn ?yn ?xx ?lkx ?yx ?xl ?lkl ?yl ?xd ?lkd ?yd ?a_0 ?l_0 ?c_0 ?k_0 ?a_1 ?l_1 ?c_1 ?k_1 ?a_2 ?l_2 ?c_2 ?k_2 ?a_3 ?l_3 ?c_3 ?k_3 ?a_4 ?l_4 ?c_4 ?k_4 ?a_5 ?l_5 ?c_5 ?k_5 ?a_6 ?l_6 ?c_6 ?k_6 ?a_7 ?l_7 ?c_7 ?k_7 ?a_8 ?l_8 ?c_8 ?k_8 ?a_9 ?l_9 ?c_9 ?k_9 ?a_10 ?l_10 ?c_10 ?k_10 ?a_11 ?l_11 ?c_11 ?k_11 ?a_12 ?l_12 ?c_12 ?k_12 ?a_13 ?l_13 ?c_13 ?k_13 ?a_14 ?l_14 ?c_14 ?k_14 ?a_15 ?l_15 ?c_15 ?k_15 ?a_16 ?l_16 ?c_16 ?k_16 ?a_17 ?l_17 ?c_17 ?k_17 ?a_18 ?l_18 ?c_18 ?k_18 ?a_19 ?l_19 ?c_19 ?k_19 ?a_20 ?l_20 ?c_20 ?k_20 ?a_21 ?l_21 ?c_21 ?k_21 ?a_22 ?l_22 ?c_22 ?k_22 ?a_23 ?l_23 ?c_23 ?k_23 ?a_24 ?l_24 ?c_24 ?k_24 ?a_25 ?l_25 ?c_25 ?k_25 ?a_26 ?l_26 ?c_26 ?k_26 ?mI ?lI_ ?cI_ ?kI_ ?mQ ?lQ_ ?cQ_ ?kQ_ ?mP ?lP_ ?cP_ ?kP_ ?mA ?lA_ ?cA_ ?kA_ ?mJ ?lJ_ ?cJ_ ?kJ_ ?mT ?lT_ ?cT_ ?kT_ ?mU ?lU_ ?cU_ ?kU_ ?mW ?lW_ ?cW_ ?kW_ ?mD ?lD_ ?cD_ ?kD_ ?mE ?lE_ ?cE_ ?kE_ ?mR ?lR_ ?cR_ ?kR_ ?z_int ?z_len ?z_abs ?z_divmod ?z_max ?z_min ?z_range ?z_all ?z_isinstance ?z_bool ?z_str ?z_tuple ?z_set ?z_enumerate ?z_sorted ?z_repr ?z_ValueError ?z_TypeError ?z_ArithmeticError ?w_0 ?w_1 ?w_2 ?w_3 ?w_4 ?w_5 ?w_6 ?w_7 ?w_8 ?w_9 ?w_10 ?hA
    (case nE => k_is)
    (case nN => k_is)
    (case nX => k_is)
    (case nL => k_is)
    (case nD => k_is)
    (case nM => k_is)
    (case nI => k_is)
    (case nQ => k_is)
    (case nS => k_is)
    (case nV => k_is)
    (case nP => k_is)
    (case nC => k_is)
    (case lC => k_is)
    (case xe => k_is)
    (case lke => k_is)
    (case ye => k_is)
    (case xn => k_is)
    (case lkn => k_is)
    (case yn => k_is)
    (case xx => k_is)
    (case lkx => k_is)
    (case yx => k_is)
    (case xl => k_is)
    (case lkl => k_is)
    (case yl => k_is)
    (case xd => k_is)
    (case lkd => k_is)
    (case yd => k_is)
    (case a_0 => k_is)
    (case l_0 => k_is)
    (case c_0 => k_is)
    (case k_0 => k_is)
    (case a_1 => k_is)
    (case l_1 => k_is)
    (case c_1 => k_is)
    (case k_1 => k_is)
    (case a_2 => k_is)
    (case l_2 => k_is)
    (case c_2 => k_is)
    (case k_2 => k_is)
    (case a_3 => k_is)
    (case l_3 => k_is)
    (case c_3 => k_is)
    (case k_3 => k_is)
    (case a_4 => k_is)
    (case l_4 => k_is)
    (case c_4 => k_is)
    (case k_4 => k_is)
    (case a_5 => k_is)
    (case l_5 => k_is)
    (case c_5 => k_is)
    (case k_5 => k_is)
    (case a_6 => k_is)
    (case l_6 => k_is)
    (case c_6 => k_is)
    (case k_6 => k_is)
    (case a_7 => k_is)
    (case l_7 => k_is)
    (case c_7 => k_is)
    (case k_7 => k_is)
    (case a_8 => k_is)
    (case l_8 => k_is)
    (case c_8 => k_is)
    (case k_8 => k_is)
    (case a_9 => k_is)
    (case l_9 => k_is)
    (case c_9 => k_is)
    (case k_9 => k_is)
    (case a_10 => k_is)
    (case l_10 => k_is)
    (case c_10 => k_is)
    (case k_10 => k_is)
    (case a_11 => k_is)
    (case l_11 => k_is)
    (case c_11 => k_is)
    (case k_11 => k_is)
    (case a_12 => k_is)
    (case l_12 => k_is)
    (case c_12 => k_is)
    (case k_12 => k_is)
    (case a_13 => k_is)
    (case l_13 => k_is)
    (case c_13 => k_is)
    (case k_13 => k_is)
    (case a_14 => k_is)
    (case l_14 => k_is)
    (case c_14 => k_is)
    (case k_14 => k_is)
    (case a_15 => k_is)
    (case l_15 => k_is)
    (case c_15 => k_is)
    (case k_15 => k_is)
    (case a_16 => k_is)
    (case l_16 => k_is)
    (case c_16 => k_is)
    (case k_16 => k_is)
    (case a_17 => k_is)
    (case l_17 => k_is)
    (case c_17 => k_is)
    (case k_17 => k_is)
    (case a_18 => k_is)
    (case l_18 => k_is)
    (case c_18 => k_is)
    (case k_18 => k_is)
    (case a_19 => k_is)
    (case l_19 => k_is)
    (case c_19 => k_is)
    (case k_19 => k_is)
    (case a_20 => k_is)
    (case l_20 => k_is)
    (case c_20 => k_is)
    (case k_20 => k_is)
    (case a_21 => k_is)
    (case l_21 => k_is)
    (case c_21 => k_is)
    (case k_21 => k_is)
    (case a_22 => k_is)
    (case l_22 => k_is)
    (case c_22 => k_is)
    (case k_22 => k_is)
    (case a_23 => k_is)
    (case l_23 => k_is)
    (case c_23 => k_is)
    (case k_23 => k_is)
    (case a_24 => k_is)
    (case l_24 => k_is)
    (case c_24 => k_is)
    (case k_24 => k_is)
    (case a_25 => k_is)
    (case l_25 => k_is)
    (case c_25 => k_is)
    (case k_25 => k_is)
    (case a_26 => k_is)
    (case l_26 => k_is)
    (case c_26 => k_is)
    (case k_26 => k_is)
    (case mI => k_is)
    (case lI_ => k_is)
    (case cI_ => k_is)
    (case kI_ => k_is)
    (case mQ => k_is)
    (case lQ_ => k_is)
    (case cQ_ => k_is)
    (case kQ_ => k_is)
    (case mP => k_is)
    (case lP_ => k_is)
    (case cP_ => k_is)
    (case kP_ => k_is)
    (case mA => k_is)
    (case lA_ => k_is)
    (case cA_ => k_is)
    (case kA_ => k_is)
    (case mJ => k_is)
    (case lJ_ => k_is)
    (case cJ_ => k_is)
    (case kJ_ => k_is)
    (case mT => k_is)
    (case lT_ => k_is)
    (case cT_ => k_is)
    (case kT_ => k_is)
    (case mU => k_is)
    (case lU_ => k_is)
    (case cU_ => k_is)
    (case kU_ => k_is)
    (case mW => k_is)
    (case lW_ => k_is)
    (case cW_ => k_is)
    (case kW_ => k_is)
    (case mD => k_is)
    (case lD_ => k_is)
    (case cD_ => k_is)
    (case kD_ => k_is)
    (case mE => k_is)
    (case lE_ => k_is)
    (case cE_ => k_is)
    (case kE_ => k_is)
    (case mR => k_is)
    (case lR_ => k_is)
    (case cR_ => k_is)
    (case kR_ => k_is)
    (case z_int => k_is)
    (case z_len => k_is)
    (case z_abs => k_is)
    (case z_divmod => k_is)
    (case z_max => k_is)
    (case z_min => k_is)
    (case z_range => k_is)
    (case z_all => k_is)
    (case z_isinstance => k_is)
    (case z_bool => k_is)
    (case z_str => k_is)
    (case z_tuple => k_is)
    (case z_set => k_is)
    (case z_enumerate => k_is)
    (case z_sorted => k_is)
    (case z_repr => k_is)
    (case z_ValueError => k_is)
    (case z_TypeError => k_is)
    (case z_ArithmeticError => k_is)
    (case w_0 => k_is)
    (case w_1 => k_is)
    (case w_2 => k_is)
    (case w_3 => k_is)
    (case w_4 => k_is)
    (case w_5 => k_is)
    (case w_6 => k_is)
    (case w_7 => k_is)
    (case w_8 => k_is)
    (case w_9 => k_is)
    (case w_10 => k_is)
    (case hA => kernel_rfl)
