import PyProof.Rows.All
import Wide.All
import OpenK.AllK
import Wide.FinOn
import HandS.ForMost
import PyProof.ReprRoads
import KE.KExcInit
import KE.KIsAll
import HandS.ForExc
import HandS.ExcInit
import HandS.ExcIs
import KE.KExcIs
import HandS.ExcValue
import PySem.Challenge.RW_stackquotes_k07_errors_and_limits
set_option Elab.async false
set_option linter.all false
set_option maxRecDepth 100000
set_option maxHeartbeats 4000000
/-! Promises of defs that ask for a repr: they hold where no repr is under way (no guard on the stack). -/
namespace SQ
open PySem PySem.Spec PyProof.Rows L2

/-- what a def keeps when it is called where nothing guards -/
structure FnG (P : Program) (w : World) (K : PySem.W.Frag) (mg : Str → Option Value)
    (base : Heap) (CX : CXT) (k : Nat) (f : Addr) (fd : FuncData) (ps : List Str) (sp : Sp) : Prop where
  len : ∀ vs H Q E, sp vs H Q E → vs.length = ps.length
  go : ∀ (A : Around), A.guards = some [] → ∀ (outer : List Env) (s : Shared) (H : Hp)
    (args : Args) (us : List Value) (vs : List V) (Q : VK) (E : XK), Room k A →
    Env0 P w K mg base A outer s H → BindsTo s fd args (ps.zip us) → Vals vs us →
    sp vs H Q E → codeAny (model P w) A (.call (.ref f) args) (CR CX outer P w H s Q E) s
theorem FnG.of {P : Program} {w : World} {K : PySem.W.Frag} {mg : Str → Option Value} {base : Heap} {CX : CXT} {k : Nat} {f : Addr}
    {fd : FuncData} {ps : List Str} {sp : Sp} (F : FnOk P w K mg base CX k f fd ps sp) : FnG P w K mg base CX k f fd ps sp :=
  ⟨F.len, fun A _ outer s H args us vs Q E => F.run A outer s H args us vs Q E⟩

theorem deeper_guards {A : Around} {e : Env} (h : A.guards = some []) : (A.deeper e).guards = some [] := by
  first
    | exact h
    | (unfold Around.deeper; exact h)
    | simpa [Around.deeper] using h

section
variable {P : Program} {w : World} {K : PySem.W.Frag} {mg : Str → Option Value} {base : Heap}
/-- a def of the text, by its body: nothing leaves it as an error -/
theorem okG {x qual : Str} {st : Stmt} {f : Addr} {fd : FuncData} {N ps : List Str} {k : Nat} {sp : Sp}
    (F : Fun K x qual st f fd) (S : FnScope N ps (defScope st))
    (len : ∀ vs H Q E, sp vs H Q E → vs.length = ps.length)
    (hb : ∀ (cdv : Value) (A : Around) (outer : List Env) (s : Shared) (H : Hp) (vs : List V) (Q : VK) (E : XK),
      (A.deeper (envOfC qual (defScope st) s.heap.objs.size f cdv)).guards = some [] →
      Room k (A.deeper (envOfC qual (defScope st) s.heap.objs.size f cdv)) → sp vs H Q E →
      ∃ t, PSs (cxOf CX0 P w K mg base N qual (defScope st) f cdv A outer s H E).nox (defBody st) t ∧
        t { nx := fun _ H' => Q .non H', rt := Q } (start N vs) H) :
    FnG P w K mg base CX0 (k + 1) f fd ps sp := by
  obtain ⟨oc, od, kV, doc, pm, an, cdv, ct, osl, rfl, lk, hcd⟩ := F.ex
  refine ⟨len, fun A hgd outer s H args us vs Q E hroom en bnd rel hsp => ?_⟩
  have nargs := len _ _ _ _ hsp
  have old : ∀ b o, base.get? b = some o → s.heap.get? b = some o := fun b o q => (en.bs b o q).1
  have kin := en.mod.kin.keeps old
  have nol := en.mod.nolimit.keeps old
  have kinds : ∀ y ∈ ps.zip us, (defScope st).names.lookup y.1 = some .local ∨
      ((defScope st).names.lookup y.1 = some .cell ∧
        ((cellsFrom (s.heap.objs.size + 1) (defScope st).names []).lookup y.1).isSome = true) := by
    rintro ⟨n, v⟩ hy
    rcases S.par n (List.of_mem_zip hy).1 with q | q
    · exact Or.inl q
    · exact Or.inr ⟨q, PySem.W.cellsFrom_some _ _ _ (Or.inl q)⟩
  refine codeAny_call_function hroom.depth (kin _ _ lk) rfl S.co S.gen rfl
    (PySem.W.codeRec_of kin hcd) (bnd _ _ _ _ ?_)
  refine wpAny_newFunctionEnv_cells S.kind kinds ?_
  intro env he s1 ic
  subst he
  refine ⟨nol.keeps ic.toInCall.keep, codeAny_func ?_⟩
  obtain ⟨t, ht, hq⟩ := hb cdv A outer s H vs Q E (deeper_guards hgd) (hroom.deeper _) hsp
  have inv := inv_start (CX := CX0) (E := E) S hroom.hd en nargs rel ic
  refine wpAny_mono (ht.nox.run [] s1 (start N vs) H _ inv hq) ?_ fun e s' hs => hs
  intro fl s' hs
  cases fl with
  | ret u =>
    obtain ⟨v, σ', H', J, rv, q⟩ := hs
    exact ⟨v, H', J.os, J.bare, J.base, J.hok, rv, q⟩
  | next =>
    obtain ⟨σ', H', J, q⟩ := hs
    exact ⟨V.non, H', J.os, J.bare, J.base, J.hok, rfl, q⟩
  | brk =>
    obtain ⟨_, _, _, q⟩ := hs
    exact q.elim
  | cont =>
    obtain ⟨_, _, _, q⟩ := hs
    exact q.elim
end

section
variable {X : Cx} {CX : CXT} {k : Nat} {f : Addr} {fd : FuncData} {ps : List Str} {sp : Sp} {E : XK}
  {x : Str} {p pos : Pos} {e : Expr} {es : List Expr} {t : TA}
/-- f(e, ..), f such a def -/
theorem pe_callG (F : FnG X.prog X.w X.K X.mg X.base CX k f fd ps sp) (hgd : X.A.guards = some []) (hr : Room k X.A)
    (hg : Gl X x) (hm : X.mg x = some (.ref f)) (hk : PySem.W.keepIn X.K (.ref f) = true) (hb : Binds X.K fd ps [])
    (hx : Passes CX X E) (ha : PA X (e :: es) t) (hdb : (x == ("__debug__" : Str)) = false := by decide)
    (he : starEach (e :: es) X.env = (false, eval e X.env) :: starEach es X.env := by rfl)
    (hpl : (backTo pos (starEach es X.env)).any (·.1) = false := by rfl) :
    PE X (.Call (.Name x p) (e :: es) [] pos) (tCall sp [] E t) := by
  constructor
  intro pins s σ H Q I h
  refine wpAny_Call_Name_kw (ld_glob I hg hm ?_ hdb)
  refine PySem.W.callWith_K (h₀ := X.base) I.ok.mod.kin hk (thn (ha.run pos pins s σ H _ I h) ?_) he hpl
  intro us s1 ⟨vs, H1, I1, r, q⟩
  refine ⟨I1.kIn, ?_⟩
  have r2 : Vals (vs ++ []) (us ++ []) := r.append .nil
  have hl : (us ++ []).length = ps.length := by
    rw [← r2.length]
    exact F.len _ _ _ _ q
  show wpAny _ _ (call (.ref f) us) _ _ _
  refine wpAny_call (codeAny_mono (F.go X.A hgd X.stack s1 H1 ⟨us, []⟩ (us ++ []) (vs ++ []) Q E hr I1.env0
    (hb s1 us I1.kIn hl) r2 q) ?_)
  intro r s' hq
  rcases r with er | (_ | _ | _ | u)
  · exact hx pins σ H1 s1 er s' I1 hq
  · exact hq.elim
  · exact hq.elim
  · exact hq.elim
  · exact I1.after hq
end

/-- the law's call, by such a promise -/
theorem lawG {P : Program} {w : World} {K : PySem.W.Frag} {mg mb : Str → Option Value} {CX : CXT} {k : Nat} {fa a : Addr}
    {fd : FuncData} {x : Str} {sp : Sp} {s₁ : Shared} {vs : List Value} {ns : List Int}
    (KX : K.In s₁.heap) (hns : s₁.heap.Ns mainGlobals mg) (hb : s₁.heap.Ns builtinsNs mb)
    (hbb : ∀ x : Str, x ≠ "__name__" → mb x = bootBuiltins x) (hlim : s₁.heap.NoLimit) (hg : s₁.gens = #[])
    (ha : s₁.heap.get? a = some { cls := .type "list", data := .seq vs.toArray }) (hi : IntsAre vs ns)
    (hl : ns.length ≤ sizeLine) (hr : Room k callerA)
    (F : ∀ base : Heap, K.In base → base.Ns mainGlobals mg → FnG P w K mg base CX k fa fd [x] sp)
    (hbind : ∀ (s : Shared) (u : Value), BindsTo s fd ⟨[u], []⟩ [(x, u)])
    (hsp : ∀ H : Hp, Only H → SqL K H a (ns.map V.int) → sp [.ref a] H (fun v _ => v = .bl true) fun _ _ _ => False)
    (hCX : ∀ H e s', CX [] H s₁ (fun _ _ _ => False) e s' → False) :
    codeAny (model P w) callerA (.call (.ref fa) ⟨[.ref a], []⟩)
      (fun r s' => r = .ok (.ret (.bool true)) ∧ OldK s₁.heap s'.heap ∧ s'.os = s₁.os ∧ AllBare s'.gens) s₁ := by
  have rv := vals_ints hi
  have key : ∀ H : Hp, Only H → SqL K H a (ns.map V.int) → HOk P w H s₁.heap → (∀ b, H b ≠ none → b = a) →
      (H a ≠ none → K.lookup a = none) →
      codeAny (model P w) callerA (.call (.ref fa) ⟨[.ref a], []⟩)
        (fun r s' => r = .ok (.ret (.bool true)) ∧ OldK s₁.heap s'.heap ∧ s'.os = s₁.os ∧ AllBare s'.gens) s₁ := by
    intro H hO hS hok hA hK
    have only : ∀ {b : Addr} {u : HO}, H b = some u → b = a := fun {b u} q => hA b (by rw [q]; exact fun z => nomatch z)
    have free : ∀ {b : Addr} {o : Obj} {es : Array DictEntry} {ep : Nat}, s₁.heap.get? b = some o → o.data = .dict es ep → H b = none := by
      intro b o es ep q d
      cases z : H b with
      | none => rfl
      | some u =>
        have e' := only z
        subst e'
        rw [ha] at q
        cases q
        cases (show Data.seq vs.toArray _ = Data.dict es ep from d)
    have nsB : ∀ {b : Addr} {m : Str → Option Value}, s₁.heap.Ns b m → (hidT s₁.heap H).Ns b m := by
      rintro b m ⟨o, es, ep, q, d, r⟩
      exact ⟨o, es, ep, hidT_get q (free q d), d, r⟩
    have kB : K.In (hidT s₁.heap H) := by
      intro b o q
      refine hidT_get (KX b o q) ?_
      cases z : H b with
      | none => rfl
      | some u =>
        have e' := only z
        subst e'
        rw [hK (by rw [z]; exact fun y => nomatch y)] at q
        cases q
    have md : Mod K mg (hidT s₁.heap H) := by
      refine ⟨kB, nsB hns, ⟨mb, nsB hb, hbb⟩, ?_⟩
      obtain ⟨mc, h1, h2⟩ := hlim
      exact ⟨mc, nsB h1, h2⟩
    have en : Env0 P w K mg (hidT s₁.heap H) callerA [] s₁ H := {
      frames := rfl
      mod := md
      bs := fun b o q => of_hidT q
      bsz := Nat.le_of_eq (hidT_size _ _)
      funs := trivial
      frf := fun b hb => absurd (show b ∈ ([] : List Addr) from hb) (by simp)
      hok := hok
      bare := .of_eq hg }
    refine codeAny_mono ((F _ kB (nsB hns)).go callerA rfl [] s₁ H ⟨[.ref a], []⟩ [.ref a] [.ref a] _ _ hr en
      (hbind s₁ (.ref a)) (.cons rfl .nil) (hsp H hO hS)) ?_
    intro r s' h
    rcases r with er | (_ | _ | _ | u)
    · exact (hCX H er s' h).elim
    · exact h.elim
    · exact h.elim
    · exact h.elim
    · obtain ⟨v, H', os, bare, un, hok', r', q⟩ := h
      have q' : v = .bl true := q
      subst q'
      obtain rfl : u = Value.bool true := r'
      refine ⟨rfl, OldK.of_keep ?_, os, bare⟩
      intro b o q
      cases z : H b with
      | none => exact un.keep b o q z (fun y => absurd (show b ∈ ([] : List Addr) from y) (by simp)) (by simp)
      | some u =>
        rcases hO b with y | ⟨ob, xs, y⟩
        · rw [z] at y
          cases y
        · obtain ⟨e1, _⟩ := hok b _ y
          obtain ⟨e2, _⟩ := hok' b _ (un.frzs b ob _ y)
          rw [q] at e1
          cases e1
          exact e2
  cases hk : K.lookup a with
  | some o =>
    have q := KX a o hk
    rw [ha] at q
    cases q
    refine key (fun _ => none) (fun _ => .inl rfl) (.inr ⟨_, vs.toArray, _, hk, rfl, rfl, rfl, ?_, by simpa using rv⟩) ?_ (fun b z => absurd rfl z) fun z => absurd rfl z
    · rw [List.size_toArray, hi.length]
      exact hl
    · intro b u z
      cases (show (none : Option HO) = some u from z)
  | none =>
    let o0 : Obj := { cls := .type "list", data := .seq vs.toArray }
    let H0 : Hp := upd (fun _ => none) a (.frz o0 (.lst (ns.map V.int)))
    have h0 : ∀ b u, H0 b = some u → b = a ∧ u = .frz o0 (.lst (ns.map V.int)) := by
      intro b u z
      by_cases hb : b = a
      · subst hb
        refine ⟨rfl, ?_⟩
        rw [show H0 b = _ from upd_same] at z
        exact (Option.some.inj z).symm
      · rw [show H0 b = _ from upd_ne hb] at z
        cases z
    refine key H0 (fun b => ?_) (.inl (.inr ⟨o0, upd_same⟩)) (fun b u z => ?_) (fun b z => ?_) fun _ => hk
    · by_cases hb : b = a
      · subst hb
        exact .inr ⟨_, _, upd_same⟩
      · exact .inl (upd_ne hb)
    · obtain ⟨rfl, rfl⟩ := h0 b u z
      exact ⟨ha, by rw [List.length_map]; exact hl, vs, _, rv, ha⟩
    · cases q : H0 b with
      | none => exact absurd q z
      | some u => exact (h0 b u q).1
/-- the goal that the head leaves -/
theorem walkG {l : PySem.W.OpenLaw} {n k : Nat} {q : Program} {loose : List Str} {XP : (Str → Option Value) → Heap → Prop}
    {YP : World → Heap → Prop} {d : DefRec} {K : Params → PySem.W.Frag} {CX : CXT} {sp : PySem.W.Frag → Sp} {x : Str}
    (hn : l.most = some n) (hn2 : n ≤ sizeLine) (hdf : d.params.defaults = []) (hr : Room k callerA)
    (hY : ∀ (w : World) (h : Heap), YP w h → (K w.params).In h)
    (F : ∀ (w : World) (mg : Str → Option Value) (fa : Addr) (h : Heap), (K w.params).In h → h.Ns mainGlobals mg →
      mg d.name = some (.ref fa) → ∃ fd : FuncData, (∀ (s : Shared) (u : Value), BindsTo s fd ⟨[u], []⟩ [(x, u)]) ∧
        ∀ base : Heap, (K w.params).In base → base.Ns mainGlobals mg →
          FnG l.prog w (K w.params) mg base CX k fa fd [x] (sp (K w.params)))
    (hsp : ∀ (K : PySem.W.Frag) (H : Hp) (a : Addr) (ns : List Int), ns.length ≤ n → Only H → SqL K H a (ns.map V.int) →
      sp K [.ref a] H (fun v _ => v = .bl true) fun _ _ _ => False)
    (hCX : ∀ (H : Hp) (s : Shared) (e : Value) (s' : Shared), CX [] H s (fun _ _ _ => False) e s' → False) :
    PySem.W.WalkO q loose XP YP l.row.toRowW d [] (fun f vs => PySem.call f vs) := by
  refine Att.attach_call hn hdf ?_
  intro w s₀ s₁ mg mb fa o pm cd doc a vs ns G Y ho hd hcd hmg hobj hints hlen hg
  have KX := hY w _ Y
  obtain ⟨fd, hb, hF⟩ := F w mg fa _ KX G.T.g hmg
  exact lawG KX G.T.g G.T.b G.T.builtins G.T.nolimit hg hobj hints (Nat.le_trans hlen hn2) hr hF hb
    (fun H hO hS => hsp _ H a ns hlen hO hS) fun H e s' => hCX H s₁ e s'
end SQ
/-! repr of a list of data. -/
namespace SQ
open PySem PySem.Spec PyProof.Rows L2

mutual
theorem dp_plain {K : PySem.W.Frag} {H : Hp} : ∀ (d : PyData) (v : V), Dp K H v d → d.hasDict = false
  | .none, _, _ => by simp only [PyData.hasDict]
  | .bool _, _, _ => by simp only [PyData.hasDict]
  | .int _, _, _ => by simp only [PyData.hasDict]
  | .str _, _, _ => by simp only [PyData.hasDict]
  | .list ds, _, h => by
    cases h with
    | lst _ ha =>
      simp only [PyData.hasDict]
      exact dpAll_plain ds _ ha
  | .tuple ds, _, h => by
    cases h with
    | tup _ ha =>
      simp only [PyData.hasDict]
      exact dpAll_plain ds _ ha
  | .dict _, _, h => nomatch h
theorem dpAll_plain {K : PySem.W.Frag} {H : Hp} : ∀ (ds : List PyData) (vs : List V), DpAll K H vs ds → PyData.hasDictAll ds = false
  | [], _, _ => by simp only [PyData.hasDictAll]
  | d :: ds, _, h => by
    cases h with
    | cons h1 h2 =>
      simp only [PyData.hasDictAll, dp_plain d _ h1, dpAll_plain ds _ h2, Bool.or_false]
end

/-- None, a bool, an int, a text, an empty dict -/
inductive Flat (H : Hp) : V → PyData → Prop
  | non : Flat H .non .none
  | bl (b : Bool) : Flat H (.bl b) (.bool b)
  | int (i : Int) : Flat H (.int i) (.int i)
  | str (x : Str) : Flat H (.str x) (.str x)
  | dic {a : Addr} (h : H a = some (.dK [])) : Flat H (.ref a) (.dict [])
inductive FlatAll (H : Hp) : List V → List PyData → Prop
  | nil : FlatAll H [] []
  | cons {v : V} {vs : List V} {d : PyData} {ds : List PyData} : Flat H v d → FlatAll H vs ds → FlatAll H (v :: vs) (d :: ds)

section
variable {X : Cx} {pins : List (Addr × Obj)} {σ : L2.St} {H : Hp} {s : Shared}
theorem flat_reads (I : Inv X pins σ H s) {d : PyData} {v : V} {u : Value} (h : Flat H v d) (r : RelV v u) :
    ∃ as, Reads s.heap u d as ∧ sysModules ∉ as := by
  cases h with
  | non =>
    obtain rfl : u = Value.none := r
    exact ⟨_, Reads.none, by simp⟩
  | bl b =>
    obtain rfl : u = Value.bool b := r
    exact ⟨_, Reads.bool b, by simp⟩
  | int i =>
    obtain ⟨t, rfl⟩ := r
    exact ⟨_, Reads.int i t, by simp⟩
  | str x =>
    obtain ⟨t, rfl⟩ := r
    exact ⟨_, Reads.str x t, by simp⟩
  | @dic a ha =>
    obtain rfl : u = Value.ref a := r
    obtain ⟨_, na, vs, kv, o, es, ep, h1, h2, h3, h4⟩ := (show ObjOk X.prog X.w H s.heap a (.dK []) from I.hok a _ ha)
    cases kv
    have he : es.toList = [] := by
      have h5 := h4.2.1
      generalize es.toList = l at h5
      cases h5
      rfl
    refine ⟨a :: [] ++ [], Reads.dict (kvs := []) h1 h2.1 h3 (by rw [he]; exact .nil) (by rw [he]; exact .nil), ?_⟩
    intro hm
    have e : sysModules = a := by simpa using hm
    rw [← e] at na
    exact absurd na (by decide)
theorem flatAll_reads (I : Inv X pins σ H s) : ∀ {ds : List PyData} {vs : List V} {us : List Value}, FlatAll H vs ds → Vals vs us →
    ∃ as, ReadsAll s.heap us ds as ∧ sysModules ∉ as
  | _, _, _, .nil, .nil => ⟨[], .nil, by simp⟩
  | _, _, _, .cons h hs, .cons r rs => by
    obtain ⟨as, a1, a2⟩ := flat_reads I h r
    obtain ⟨bs, b1, b2⟩ := flatAll_reads I hs rs
    exact ⟨_, .cons a1 b1, fun hm => (List.mem_append.mp hm).elim a2 b2⟩
end

/-- repr of a list, its items ds -/
def rReprL (K : PySem.W.Frag) : List V → Hp → VK → Prop := fun xs H Q => ∃ (a : Addr) (vs : List V) (ds : List PyData), xs = [.ref a] ∧ SqL K H a vs ∧
  (DpAll K H vs ds ∨ FlatAll H vs ds) ∧ (PyData.list ds).showable = true ∧ (PyData.list ds).depth ≤ 60 ∧ (PyData.list ds).shown.length ≤ sizeLine ∧ Q (.str (PyData.list ds).shown) H
theorem cr_reprL {X : Cx} (hg : X.A.guards = some []) (hu : X.A.units + 64 < cLine) : CallR X (.builtin "repr") (rReprL X.K) := by
  intro pins s σ H xs us Q I r h
  obtain ⟨a, vs, ds, rfl, hL, hd, hs, hdp, hz, q⟩ := h
  obtain ⟨its, rv, ⟨o, n, e, c, _, dt⟩, _⟩ := I.list hL
  rw [Vals.ref1 r]
  have fin : ∀ (h' : Heap) (u tk : Nat), (∀ b o, s.heap.get? b = some o → h'.get? b = some o) → EP X pins σ Q (.str (PyData.list ds).shown u) { s with heap := h', toks := tk } :=
    fun h' u tk hk => ⟨.str _, H, I.kept hk, ⟨u, rfl⟩, q⟩
  rcases hd with hd | hd
  · obtain ⟨as, rd⟩ := Dp.reads I (.list ds) (.ref a) (.ref a) (.lst hL hd) rfl
    exact repr_of_reads' (h₀ := s.heap) rd hs (PyData.noDict_hsm (dp_plain _ _ (Dp.lst hL hd))) hg (by omega) (fun _ _ z => z) fin hz
  · obtain ⟨as, h4, hno⟩ := flatAll_reads I hd rv
    have hz' : (listText (PyData.shownAll ds)).length ≤ sizeLine := by simpa only [PyData.shown] using hz
    have hs' : PyData.showableAll ds = true := by simpa [PyData.showable] using hs
    obtain ⟨bs, hb, hk⟩ := ReprAllK.of_readsAll (prog := X.prog) (w := X.w) h4 hs' (fun _ => hno) (fun t ht => Nat.le_trans (listText_mem_le ht) hz')
    have whole : Reads s.heap (.ref a) (.list ds) (a :: as) := .list (vs := its.toArray) e c dt (by simpa using h4)
    have hna : a ∉ bs := not_mem_of_deeper whole (by simp only [PyData.depth]; omega) hb
    refine call_repr_slot (by omega) ⟨o, e, c⟩ F.slot_list_repr.toG ?_
    simp only [PyData.depth] at hdp
    have fin' : ∀ (h' : Heap) (u tk : Nat), (∀ b o, s.heap.get? b = some o → h'.get? b = some o) →
        (∃ x t, Value.str (listText (PyData.shownAll ds)) u = .str x t ∧ EP X pins σ Q (.str (listText (PyData.shownAll ds)) u) { s with heap := h', toks := tk }) :=
      fun h' u tk z => ⟨_, _, rfl, by have := fin h' u tk z; simpa only [PyData.shown] using this⟩
    cases its with
    | nil =>
      cases h4
      simp only [PyData.shownAll, listText_nil] at fin'
      exact call_list_repr_empty ⟨o, e, c⟩ e dt (fin' s.heap _ _ fun _ _ z => z)
    | cons y l =>
      exact call_list_reprK (h₀ := s.heap) e c dt hna (by simpa using hk.length_eq) (fun i y e => hk.item i y (by simpa using e)) hg (fun b _ => Clear.nil b)
        (by show X.A.units + 1 + (PyData.depthAll ds + 1) < cLine; omega) (fun _ _ z => z) fin' hz'
end SQ
/-! Own exceptions over any of the built-in bases, made as values (by position, by keyword, without arguments), read, and asked for their class. -/
namespace SQ
open PySem PySem.Spec PyProof.Rows L2
open PySem.W (Looks)
section
variable {prog : Program} {w : World} {A : Around} {E : Value → Shared → Prop} {R : Result → Shared → Prop}
  {h : Heap} {g : Array GenState} {d : Drawn} {t : Nat} {os : OsState}
  {nm q : Str} {C N : Addr} {bs bm bmB : List Value} {hdct : Bool} {sn : List Str} {sub : List Value} {ab : Bool}
  {col : Option Bool} {dd : Option Addr} {k0 k1 k2 k3 k5 : Option Value} {B newId initId : String} {kw : List (Str × Value)}

theorem chk_new (FB : ExcBaseFacts B newId initId bmB) (hT : ∀ X : String, bm.contains (.type X) = bmB.contains (.type X))
    {rest : List Value} {Q : Unit → Shared → Prop}
    (hC : h.get? C = some (excClassObj nm q C N bs bm hdct sn sub ab col dd k0 k1 k2 k3 k5 newId))
    (hq : Q () ⟨h, g, d, t, os⟩) :
    wpAny (model prog w) A (checkBuiltinCall newId ⟨.ref C :: rest, kw⟩) Q E ⟨h, g, d, t, os⟩ := by
  have inB : (Value.ref C :: bm).contains (.type B) = true := by
    rw [List.contains_cons, hT, FB.hasB, Bool.or_true]
  have nostar := FB.noStar
  simp only [checkBuiltinCall, FB.newKind, FB.newSplit, FB.newRow]
  repeat (first
    | refine wpAny_loadPart_at hC ?_
    | (refine wpAny_isSubtype_exc hC ?_; rw [inB])
    | refine wpAny_staticBase_exc hC ?_
    | refine wpAny_madeBy_exc hC ?_
    | simp only [bne_self_eq_false, Bool.false_eq_true, if_false]
    | wp_step)
  exact hq
theorem run_new (FB : ExcBaseFacts B newId initId bmB) (hT : ∀ X : String, bm.contains (.type X) = bmB.contains (.type X))
    {rest : List Value} (hC : h.get? C = some (excClassObj nm q C N bs bm hdct sn sub ab col dd k0 k1 k2 k3 k5 newId))
    (hrest : rest.length ≤ sizeLine)
    (hq : R (.ok (.ret (.ref (h.objs.size + 1)))) ⟨(h.push (PySem.W.kdv_tup rest)).push (PySem.HandSPX.excO C h.objs.size), g, d, t, os⟩) :
    codeAny (model prog w) A (.builtin newId ⟨.ref C :: rest, kw⟩) R ⟨h, g, d, t, os⟩ := by
  have en := FB.ends
  have inB : (Value.ref C :: bm).contains (.type B) = true := by
    rw [List.contains_cons, hT, FB.hasB, Bool.or_true]
  have inA : (Value.ref C :: bm).contains (.type "AttributeError") = false := by
    rw [List.contains_cons, hT, FB.noAttr]
    rfl
  have inN : (Value.ref C :: bm).contains (.type "NameError") = false := by
    rw [List.contains_cons, hT, FB.noName]
    rfl
  refine codeAny_builtinAt FB.entry ?_
  unfold Builtin.«BaseException.__new__»
  refine PySem.wpAt_bind ?_
  show PySem.wpAt _ _ _ (stack >>= _) _ _ _
  refine PySem.wpAt_bind (PySem.wpAt_stack fun p below => PySem.wpAt_of_wpAny ?_)
  wp_walk
  refine PySem.wpAt_of_wpAny ?_
  rw [FB.owner]
  repeat (first
    | with_reducible refine wpAny_madeHere_exc FB.canon hC ?_
    | with_reducible refine wpAny_loadPart_at hC ?_
    | (with_reducible refine wpAny_isSubtype_exc hC ?_; first | rw [inB] | rw [inA] | rw [inN])
    | wp_step)
  show R _ _
  rw [Heap.size_push]
  exact hq
theorem run_tcall (FB : ExcBaseFacts B newId initId bmB) (hT : ∀ X : String, bm.contains (.type X) = bmB.contains (.type X))
    {rest : List Value} {fI : Addr} {Q : Fin → Shared → Prop}
    (hC : h.get? C = some (excClassObj nm q C N bs bm hdct sn sub ab col dd k0 k1 k2 k3 k5 newId))
    (hi : Looks (model prog w) h (typeLookup (.ref C) "__init__") (some (.ref fI)))
    (hb : ∀ self, Looks (model prog w) h (bindSpecial (.ref fI) self) (.ref fI, [self])) (hrest : rest.length ≤ sizeLine)
    (hq : codeAny (model prog w) A (.call (.ref fI) ⟨.ref (h.objs.size + 1) :: rest, kw⟩)
      (fun r s' => match r with
        | .ok (.ret v) => v = .none ∧ Q (.done (.ret (.ref (h.objs.size + 1)))) s'
        | .ok _ => False
        | .error e => E e s')
      ⟨(h.push (PySem.W.kdv_tup rest)).push (PySem.HandSPX.excO C h.objs.size), g, d, t, os⟩) :
    wpAny (model prog w) A (Builtin.«type.__call__» ⟨.ref C :: rest, kw⟩) Q E ⟨h, g, d, t, os⟩ := by
  repeat (first
    | with_reducible refine wpAny_loadPart_at hC ?_
    | with_reducible refine wpAny_madeBy_exc hC ?_
    | wp_step)
  refine codeAny_call_builtin_code (Code.quiet_builtin _ FB.quiet) (chk_new FB hT hC ?_)
  refine run_new FB hT hC hrest ?_
  show wpAny _ _ _ _ _ _
  have keep : ∀ b o, h.get? b = some o → ((h.push (PySem.W.kdv_tup rest)).push (PySem.HandSPX.excO C h.objs.size)).get? b = some o :=
    fun b o e => Heap.get?_push_of_some _ (Heap.get?_push_of_some _ e)
  have hC1 := keep _ _ hC
  have got : ((h.push (PySem.W.kdv_tup rest)).push (PySem.HandSPX.excO C h.objs.size)).get? (h.objs.size + 1) = some (PySem.HandSPX.excO C h.objs.size) := by heap_get
  have inC : (Value.ref C :: bm).contains (.ref C) = true := by simp
  have i1 := hi.keeps keep
  have b1 := (hb (.ref (h.objs.size + 1))).keeps keep
  unfold isInstance
  repeat (first
    | with_reducible refine wpAny_loadPart_at got ?_
    | (with_reducible refine wpAny_isSubtype_exc hC1 ?_; rw [inC])
    | wp_step)
  show wpAny _ _ (typeLookup (.ref C) _) _ _ _
  refine i1.at ?_
  refine wpAny_holding (wpAny_bind (b1.at ?_))
  refine wpAny_bind (wpAny_call (codeAny_mono hq fun r s' z => ?_))
  rcases r with e | (_ | _ | _ | v) <;> first | exact z | exact z.elim | skip
  obtain ⟨rfl, z⟩ := z
  first
    | exact wpAny_pure (wpAny_pure z)
    | (wp_walk; exact z)
theorem run_ccall (FB : ExcBaseFacts B newId initId bmB) (hT : ∀ X : String, bm.contains (.type X) = bmB.contains (.type X))
    {rest : List Value} {fI : Addr}
    (hC : h.get? C = some (excClassObj nm q C N bs bm hdct sn sub ab col dd k0 k1 k2 k3 k5 newId))
    (hi : Looks (model prog w) h (typeLookup (.ref C) "__init__") (some (.ref fI)))
    (hb : ∀ self, Looks (model prog w) h (bindSpecial (.ref fI) self) (.ref fI, [self])) (hrest : rest.length ≤ sizeLine)
    (hq : codeAny (model prog w) (A.under (.builtin "type.__call__" ⟨.ref C :: rest, kw⟩)) (.call (.ref fI) ⟨.ref (h.objs.size + 1) :: rest, kw⟩)
      (PySem.W.InitBack (h.objs.size + 1) R)
      ⟨(h.push (PySem.W.kdv_tup rest)).push (PySem.HandSPX.excO C h.objs.size), g, d, t, os⟩) :
    codeAny (model prog w) A (.call (.ref C) ⟨rest, kw⟩) R ⟨h, g, d, t, os⟩ := by
  have f1 := tc_lookup
  have f2 := tc_bind (.ref C)
  have hTy : (⟨h, g, d, t, os⟩ : Shared).TypeIs (.ref C) "type" := ⟨_, hC, rfl⟩
  refine codeAny_of_tree ?_
  show wpAny _ _ (callAny (.ref C) _) _ _ _
  repeat (any_goals (first | assumption | with_reducible refine wpAny_loadPart_at hC ?_ | wp_step))
  refine ⟨rfl, ?_⟩
  refine codeAny_call_builtin_at (Code.quiet_builtin _ (by decide +kernel)) entry_typeCall (wpAny_check_type_call_sub hC (run_tcall FB hT hC hi hb hrest ?_))
  refine codeAny_mono hq fun r s' z => ?_
  rcases r with e | (_ | _ | _ | v) <;> exact z
end
end SQ
namespace SQ
open PySem PySem.Spec PyProof.Rows L2

/-! ### what the written part says of an error's class -/
/-- the text of «def __init__(self, f): self.f = f» -/
def iArgs (f : Str) (p1 p2 : Pos) : Arguments := { posonlyargs := [], args := [{ arg := "self", annotation := none, pos := p1 }, { arg := f, annotation := none, pos := p2 }], vararg := none, kwonlyargs := [], kw_defaults := [], kwarg := none, defaults := [] }
def iBody (f : Str) (q1 q2 q3 q4 : Pos) : List Stmt := [.Assign [.Attribute (.Name "self" q1) f q2] (.Name f q3) q4]
def iScope (f : Str) : Scope := { kind := .function, names := [(PySem.Str.ofString "self", .local), (f, .local)], isGenerator := false, isCoroutine := false, more := [] }
/-- a built-in base: its name, its makers, its mro -/
structure BaseB (B newId initId : String) (bmB : List Value) : Prop where
  fb : ExcBaseFacts B newId initId bmB
  sf : StoreFacts B bmB "object.__setattr__" "object"
theorem bValue : BaseB "ValueError" "ValueError.__new__" "ValueError.__init__" [.type "ValueError", .type "Exception", .type "BaseException", .type "object"] := ⟨F.excBase_ValueError, F.store_ValueError⟩
theorem bType : BaseB "TypeError" "TypeError.__new__" "TypeError.__init__" [.type "TypeError", .type "Exception", .type "BaseException", .type "object"] := ⟨F.excBase_TypeError, F.store_TypeError⟩
theorem bLookup : BaseB "LookupError" "LookupError.__new__" "LookupError.__init__" [.type "LookupError", .type "Exception", .type "BaseException", .type "object"] := ⟨F.excBase_LookupError, F.store_LookupError⟩
theorem bArith : BaseB "ArithmeticError" "ArithmeticError.__new__" "ArithmeticError.__init__" [.type "ArithmeticError", .type "Exception", .type "BaseException", .type "object"] := ⟨F.excBase_ArithmeticError, F.store_ArithmeticError⟩

/-- the facts that one check finds (a class at C; its field f) -/
def errOk (K : PySem.W.Frag) (C : Addr) (f : Str) (bmB : List Value) (newId : String) : Bool :=
  PySem.W.excInitIn K C bmB newId && PySem.W.excOver K C bmB && PySem.W.hasDictIn K C && PySem.W.keepIn K (.ref C) &&
  (PySem.W.findIn K (.ref C) "__setattr__" == some (some (.builtin "object.__setattr__"))) &&
  (PySem.W.findIn K (.ref C) "__getattribute__" == some (some (.builtin "BaseException.__getattribute__"))) &&
  (PySem.W.findIn K (.ref C) "__getattr__" == some none) && (PySem.W.findIn K (.ref C) f == some none) &&
  (PySem.W.subIn K (.ref C) (.type "BaseException") == some true) && (PySem.W.clsIn K C).isSome &&
  (PySem.W.findIn K (.ref C) "__class__" == some (some (.builtin "object.__class__"))) && (PySem.W.mroIn K C (.type "object") == some true)
structure ErrC (K : PySem.W.Frag) (C : Addr) (f : Str) (bmB : List Value) (newId : String) : Prop where
  ini : PySem.W.excInitIn K C bmB newId = true
  ov : PySem.W.excOver K C bmB = true
  hd : PySem.W.hasDictIn K C = true
  kp : PySem.W.keepIn K (.ref C) = true
  sa : PySem.W.findIn K (.ref C) "__setattr__" = some (some (.builtin "object.__setattr__"))
  ga : PySem.W.findIn K (.ref C) "__getattribute__" = some (some (.builtin "BaseException.__getattribute__"))
  gg : PySem.W.findIn K (.ref C) "__getattr__" = some none
  no : PySem.W.findIn K (.ref C) f = some none
  ex : PySem.W.subIn K (.ref C) (.type "BaseException") = some true
  cl : (PySem.W.clsIn K C).isSome = true
  ca : PySem.W.findIn K (.ref C) "__class__" = some (some (.builtin "object.__class__"))
  ob : PySem.W.mroIn K C (.type "object") = some true
theorem ErrC.of {K : PySem.W.Frag} {C : Addr} {f : Str} {bmB : List Value} {newId : String} (h : errOk K C f bmB newId = true) : ErrC K C f bmB newId := by
  unfold errOk at h
  simp only [Bool.and_eq_true, beq_iff_eq] at h
  obtain ⟨⟨⟨⟨⟨⟨⟨⟨⟨⟨⟨h1, h2⟩, h3⟩, h4⟩, h5⟩, h6⟩, h7⟩, h8⟩, h9⟩, h10⟩, h11⟩, h12⟩ := h
  exact ⟨h1, h2, h3, h4, h5, h6, h7, h8, h9, h10, h11, h12⟩
/-- .. and of its __init__ -/
structure ErrI (K : PySem.W.Frag) (C fI : Addr) (f : Str) : Prop where
  at_ : PySem.W.findIn K (.ref C) "__init__" = some (some (.ref fI))
  ty : PySem.W.typeIn K (.ref fI) = some (.type "function")
  fn : ∃ (qual : Str) (oc : Value) (od : Option Addr) (doc pm : Value) (an : Option Addr) (cdv ct : Value) (osl : Array (Option Value)) (p1 p2 q1 q2 q3 q4 : Pos),
    K.lookup fI = some ⟨oc, od, .func (PySem.W.fnOf "__init__" qual (iArgs f p1 p2) (iBody f q1 q2 q3 q4) (iScope f) .none .none doc pm an cdv ct), osl⟩ ∧ PySem.W.codeIn K cdv qual = true
/-- the three fields -/
def Fld (f : Str) : Prop := f = "value" ∨ f = "index" ∨ f = "limit"

section
variable {prog : Program} {w : World} {A : Around} {E : Value → Shared → Prop} {R : Result → Shared → Prop} {hp : Heap} {g : Array GenState} {d : Drawn} {t : Nat} {os : OsState}
  {K : PySem.W.Frag} {B newId initId : String} {bmB : List Value} {C fI : Addr} {f : Str}
/-- self.f = v on an exception that has no dict yet -/
theorem store_first (SF : StoreFacts B bmB "object.__setattr__" "object") (T : ErrC K C f bmB newId) {x t0 : Addr} {tk : Tok} {v : Value} (X : K.In hp) (hx : hp.get? x = some (PySem.HandSPX.excO C t0))
    (hq : ∀ h' tk' dx, (∀ b o, b ≠ x → hp.get? b = some o → h'.get? b = some o) → hp.objs.size ≤ dx → dx ≠ x →
      h'.get? x = some { cls := .ref C, dict := some dx, data := .fields #[.ref t0, .none, .none, .none, .bool false, .none] } →
      h'.Ns1 dx (fun y => if y = f then some v else none) → R (.ok (.ret .none)) ⟨h', g, d, tk', os⟩) :
    codeAny (model prog w) A (.call (.builtin "object.__setattr__") ⟨[.ref x, .str f tk, v], []⟩) R ⟨hp, g, d, t, os⟩ := by
  have ht : PySem.W.takerIn K C f = some none := by
    unfold PySem.W.takerIn
    rw [T.no]
    rfl
  have ne : x ≠ hp.objs.size := Nat.ne_of_lt (Heap.lt_size hx)
  refine PySem.W.osa_openX (od := none) SF X ⟨hx, rfl, rfl, trivial⟩ T.ov ht fun b => ?_
  obtain ⟨cd, hc, hd'⟩ := PySem.W.any_some T.hd
  refine wpAny_bind (wpAny_pure (wpAny_bind (PySem.W.instanceDict_exc (c2 := .none) hx (PySem.W.looks_clsIn X hc) hd' ?_)))
  show wpAny _ _ (Builtin.ObjectAttr.storeInDict hp.objs.size (.str f tk) f v) _ _ _
  refine PySem.HandSPX.store_in_new ?_ ?_
  · exact ⟨_, #[], _, (Heap.get?_update_ne _ _ _ _ ne.symm).trans (Heap.get?_push_at rfl rfl), rfl, fun e he => absurd he (by simp), fun _ => rfl⟩
  · intro h' tk' hn' hs
    have hx1 : (hp.push { cls := .type "dict", data := .dict #[] }).get? x = some (PySem.HandSPX.excO C t0) := Heap.get?_push_of_some _ hx
    refine hq h' tk' hp.objs.size (fun b o hb ho => ?_) (Nat.le_refl _) ne.symm ?_ hn'
    · exact (hs.2 b (Nat.ne_of_lt (Heap.lt_size ho))).trans ((Heap.get?_update_ne _ _ _ _ hb).trans (Heap.get?_push_of_some _ ho))
    · exact (hs.2 x ne).trans (Heap.get?_update_self _ hx1 rfl)
end
/-- an error made: its object at e, its dict at dx, both new -/
structure Made (h h' : Heap) (e C dx : Addr) (f : Str) (v : Value) : Prop where
  keep : ∀ b o, h.get? b = some o → h'.get? b = some o
  new : h.objs.size ≤ e
  obj : ∃ t1 : Addr, h'.get? e = some ({ cls := .ref C, dict := some dx, data := .fields #[.ref t1, .none, .none, .none, .bool false, .none] } : Obj)
  dbig : h.objs.size ≤ dx
  dne : dx ≠ e
  ns : h'.Ns1 dx (fun y => if y = f then some v else none)
theorem ld_loc {M : Model} {s : Shared} {name : Str} {scope : Scope} {L a : Addr} {cd : Value} {m : Str → Option Value} {x : Str} {pos : Pos} {v : Value} {Q : Value → Shared → Prop} {A : Around} {E : Value → Shared → Prop} (hn : s.heap.Ns L m) (hv : m x = some v) (h : Q v s)
    (hk : scope.kind = .function := by rfl) (hl : (envOfC name scope L a cd).kindOf x = some .local := by rfl) (hd : (x == ("__debug__" : Str)) = false := by decide) :
    wpAny M A (eval (.Name x pos) (envOfC name scope L a cd)) Q E s := wpAny_Name (wpAny_loadName_local hk hl hn hv h) hd
section
variable {prog : Program} {w : World} {A : Around} {E : Value → Shared → Prop} {R : Result → Shared → Prop} {s : Shared}
  {K : PySem.W.Frag} {B newId initId : String} {bmB : List Value} {C fI : Addr} {f : Str}
/-- the run of __init__, the value coming by position or by keyword -/
theorem run_init (hf : Fld f) (SF : StoreFacts B bmB "object.__setattr__" "object") (T : ErrC K C f bmB newId) (J : ErrI K C fI f) {x t0 : Addr} {v : Value} {args : Args} (ha : args = ⟨[.ref x, v], []⟩ ∨ args = ⟨[.ref x], [(f, v)]⟩)
    (X : K.In s.heap) (hlim : s.heap.NoLimit) (hx : s.heap.get? x = some (PySem.HandSPX.excO C t0)) (hroom : A.depth < recursionLimit)
    (hq : ∀ h' tk dx, (∀ b o, b ≠ x → s.heap.get? b = some o → h'.get? b = some o) → s.heap.objs.size ≤ dx → dx ≠ x →
      h'.get? x = some { cls := .ref C, dict := some dx, data := .fields #[.ref t0, .none, .none, .none, .bool false, .none] } →
      h'.Ns1 dx (fun y => if y = f then some v else none) → R (.ok (.ret .none)) { s with heap := h', toks := tk }) :
    codeAny (model prog w) A (.call (.ref fI) args) R s := by
  obtain ⟨qual, oc, od, doc, pm, an, cdv, ct, osl, p1, p2, q1, q2, q3, q4, ho, hcd⟩ := J.fn
  have key : ∀ (bnd : BindsTo s (PySem.W.fnOf "__init__" qual (iArgs f p1 p2) (iBody f q1 q2 q3 q4) (iScope f) .none .none doc pm an cdv ct) args [("self", .ref x), (f, v)]), codeAny (model prog w) A (.call (.ref fI) args) R s := by
    intro bnd
    rcases hf with rfl | rfl | rfl
    all_goals
      refine Att.call_fn X hlim ho hcd hroom bnd (by first | rfl | decide | with_unfolding_all rfl) (fun s₁ IC => ?_) rfl rfl rfl
      obtain ⟨h₁, tk₁, rfl⟩ := IC.toInCall.same
      have k : ∀ b o, s.heap.get? b = some o → h₁.get? b = some o := IC.toInCall.keep
      have hn := IC.toInCall.ns
      have X₁ : K.In h₁ := X.keeps k
      have hx₁ := k _ _ hx
      show wpAny _ _ (execs _ _) _ _ _
      refine wpAny_execs_cons (plainObj_wpAny_Assign_Attribute ?_)
      refine ld_loc (v := v) hn (by first | rfl | with_unfolding_all rfl | kernel_rfl) (ld_loc (v := .ref x) hn (by first | rfl | with_unfolding_all rfl | kernel_rfl) ?_)
      refine PySem.W.set_plain X₁ (ox := PySem.HandSPX.excO C t0) (od := none) ⟨hx₁, rfl, rfl, trivial⟩ T.sa ?_
      refine store_first SF T X₁ hx₁ (fun h₃ tk₃ dx k₃ dn dne hx₃ hn₃ => ?_)
      show wpAny _ _ (execs _ _) _ _ _
      have z : s.heap.objs.size < h₁.objs.size := hn.lt
      exact wpAny_execs_nil (hq h₃ tk₃ dx (fun b o hb e => k₃ b o hb (k b o e)) (Nat.le_of_lt (Nat.lt_of_lt_of_le z dn)) dne hx₃ hn₃)
  refine key ?_
  rcases hf with rfl | rfl | rfl
  all_goals
    rcases ha with rfl | rfl
    · exact BindsTo.of_eq (by first | rfl | with_unfolding_all rfl | kernel_rfl)
    · exact BindsTo.of_eq (by first | rfl | with_unfolding_all rfl | kernel_rfl)
/-- C(v), C(f=v) -/
theorem run_made (hf : Fld f) (BB : BaseB B newId initId bmB) (T : ErrC K C f bmB newId) (J : ErrI K C fI f) {v : Value} {pos : List Value} {kw : List (Str × Value)} (ha : (pos = [v] ∧ kw = []) ∨ (pos = [] ∧ kw = [(f, v)]))
    (X : K.In s.heap) (hlim : s.heap.NoLimit) (hroom : A.depth + 1 < recursionLimit)
    (hq : ∀ h' tk e dx, Made s.heap h' e C dx f v → R (.ok (.ret (.ref e))) { s with heap := h', toks := tk }) :
    codeAny (model prog w) A (.call (.ref C) ⟨pos, kw⟩) R s := by
  obtain ⟨nm, N, qn, bs, bm, hdct, sn, sub, ab, col, dd, k0, k1, k2, k3, k5, hC, hT⟩ := PySem.W.excInit_of X T.ini
  obtain ⟨hp, g, dr, tk, os⟩ := s
  have k : ∀ b o, hp.get? b = some o → ((hp.push (PySem.W.kdv_tup pos)).push (PySem.HandSPX.excO C hp.objs.size)).get? b = some o := fun b o e => Heap.get?_push_of_some _ (Heap.get?_push_of_some _ e)
  have hget : ((hp.push (PySem.W.kdv_tup pos)).push (PySem.HandSPX.excO C hp.objs.size)).get? (hp.objs.size + 1) = some (PySem.HandSPX.excO C hp.objs.size) := by heap_get
  have hpos : pos.length ≤ sizeLine := by
    rcases ha with ⟨rfl, _⟩ | ⟨rfl, _⟩
    · show 1 ≤ sizeLine
      decide
    · show 0 ≤ sizeLine
      decide
  refine run_ccall BB.fb hT hC (PySem.W.looks_findIn X J.at_) (fun self => PySem.W.bind_fn X self J.ty) hpos ?_
  refine run_init (s := ⟨(hp.push (PySem.W.kdv_tup pos)).push (PySem.HandSPX.excO C hp.objs.size), g, dr, tk, os⟩) (v := v) hf BB.sf T J ?_ (X.keeps k) (hlim.keeps k) hget ?_ ?_
  · rcases ha with ⟨rfl, rfl⟩ | ⟨rfl, rfl⟩
    · exact .inl rfl
    · exact .inr rfl
  · rw [make_depth]
    exact hroom
  · intro h' tk' dx k' dn dne hx hns
    have old : ∀ b o, hp.get? b = some o → h'.get? b = some o := fun b o e => k' b o (Nat.ne_of_lt (Nat.lt_succ_of_lt (Heap.lt_size e))) (k b o e)
    have z : hp.objs.size + 1 + 1 ≤ dx := by
      have q := dn
      first
        | exact q
        | (simpa only [Heap.size_push] using q)
    exact ⟨rfl, hq h' tk' (hp.objs.size + 1) dx ⟨old, Nat.le_succ _, ⟨_, hx⟩, Nat.le_trans (Nat.le_trans (Nat.le_succ _) (Nat.le_succ _)) z, dne, hns⟩⟩
end
/-! ### the rules over the layer -/
section
variable {X : Cx} {pins : List (Addr × Obj)} {σ : L2.St} {H : Hp} {s : Shared}
/-- two new objects laid and tracked -/
theorem laid_two (I : Inv X pins σ H s) {h' : Heap} {a d : Addr} {o u : HO} {t' : Nat} (k : ∀ b z, s.heap.get? b = some z → h'.get? b = some z) (ha : s.heap.objs.size ≤ a) (hd : s.heap.objs.size ≤ d) (ne : d ≠ a)
    (oka : ObjOk X.prog X.w (upd (upd H d u) a o) h' a o) (okd : ObjOk X.prog X.w (upd (upd H d u) a o) h' d u) : Inv X pins σ (upd (upd H d u) a o) { s with heap := h', toks := t' } := by
  have na : H a = none := I.hok.fresh ha
  have nd : H d = none := I.hok.fresh hd
  have far : ∀ {b : Addr} {z : Obj}, s.heap.get? b = some z → b ≠ a ∧ b ≠ d := fun {b z} q =>
    ⟨Nat.ne_of_lt (Nat.lt_of_lt_of_le (Heap.lt_size q) ha), Nat.ne_of_lt (Nat.lt_of_lt_of_le (Heap.lt_size q) hd)⟩
  have same : ∀ {b : Addr} {z : HO}, H b = some z → upd (upd H d u) a o b = some z := fun {b z} q => by
    rw [upd_ne (ne_of_none q na), upd_ne (ne_of_none q nd)]
    exact q
  refine I.un (t' := t') ⟨fun b z q _ _ _ => k b z q, fun b z q _ _ _ => ⟨z.slots, k b z q⟩, fun b z q n _ => ?_, fun b z q _ => ⟨z, k b z q⟩, fun b xs q => same q, fun b z xs q => same q, fun b ps q => ⟨#[], by rw [same q]; simp⟩⟩ ?_
  · rw [upd_ne (far q).1, upd_ne (far q).2]
    exact n
  · intro b z q
    by_cases hb : b = a
    · subst hb
      rw [upd_same] at q
      cases q
      exact oka
    · rw [upd_ne hb] at q
      by_cases hb2 : b = d
      · subst hb2
        rw [upd_same] at q
        cases q
        exact okd
      · rw [upd_ne hb2] at q
        exact (I.hok b z q).stay (fun c y _ r => k c y r) (fun c r => same r) fun c xs r => same r
end
/-- at a: an error of the class at C whose field f holds v -/
def ErrAt (H : Hp) (a C : Addr) (f : Str) (v : V) : Prop := ∃ d, H a = some (exo a C (some d)) ∧ H d = some (exd d [(f, v)])
/-- at a: an error of the class at C, with a dict or without -/
def ErrIs (H : Hp) (a C : Addr) : Prop := ∃ d, H a = some (exo a C d)  ∧ ∀ x, d = some x → ∃ fs, H x = some (exd x fs)
theorem ErrAt.is {H : Hp} {a C : Addr} {f : Str} {v : V} (h : ErrAt H a C f v) : ErrIs H a C := by
  obtain ⟨d, h1, h2⟩ := h
  exact ⟨some d, h1, fun x e => by cases e; exact ⟨_, h2⟩⟩
theorem ErrAt.same {H H' : Hp} {a C : Addr} {f : Str} {v : V} (s : Same H H') (h : ErrAt H a C f v) : ErrAt H' a C f v := by
  obtain ⟨d, h1, h2⟩ := h
  exact ⟨d, s _ _ h1, s _ _ h2⟩
theorem ErrIs.same {H H' : Hp} {a C : Addr} (s : Same H H') (h : ErrIs H a C) : ErrIs H' a C := by
  obtain ⟨d, h1, h2⟩ := h
  refine ⟨d, s _ _ h1, fun x e => ?_⟩
  obtain ⟨fs, h3⟩ := h2 x e
  exact ⟨fs, s _ _ h3⟩
/-- C(e) and C(f=e): a new error -/
def tErr (C : Addr) (f : Str) (te : TE) : TE := fun σ H Q => te σ H fun v H1 => ∀ (a : Addr) (H' : Hp), Same H1 H' → H1 a = none → ErrAt H' a C f v → Q (.ref a) H'
/-- C() -/
def tErr0 (C : Addr) : TE := fun σ H Q => ∀ (a : Addr) (H' : Hp), Same H H' → H a = none → ErrIs H' a C → Q (.ref a) H'
section
variable {X : Cx} {B newId initId : String} {bmB : List Value} {C fI : Addr} {f x : Str} {e : Expr} {te : TE} {p pos kpos : Pos} {k : Nat}
theorem made_end {pins : List (Addr × Obj)} {σ : L2.St} {H : Hp} {s : Shared} {Q : VK} {v : V} {v' : Value} (I : Inv X pins σ H s) (rv : RelV v v') {h' : Heap} {tk : Nat} {a dx : Addr} (M : Made s.heap h' a C dx f v')
    (q : ∀ (a : Addr) (H' : Hp), Same H H' → H a = none → ErrAt H' a C f v → Q (.ref a) H') : EP X pins σ Q (.ref a) { s with heap := h', toks := tk } := by
  obtain ⟨t1, ho⟩ := M.obj
  have na : H a = none := I.hok.fresh M.new
  have nd : H dx = none := I.hok.fresh M.dbig
  have J : Inv X pins σ (upd (upd H dx (exd dx [(f, v)])) a (exo a C (some dx))) { s with heap := h', toks := tk } :=
    laid_two I M.keep M.new M.dbig M.dne (exo_ok ho) (exd_ok M.ns (relO_put (fs := []) rv fun g => True.intro))
  refine ⟨.ref a, _, J, rfl, q a _ (fun b o z => ?_) na ⟨dx, upd_same, ?_⟩⟩
  · rw [upd_ne (ne_of_none z na), upd_ne (ne_of_none z nd)]
    exact z
  · rw [upd_ne M.dne, upd_same]
theorem pe_err (hf : Fld f) (BB : BaseB B newId initId bmB) (T : ErrC X.K C f bmB newId) (J : ErrI X.K C fI f) (gC : X.mg x = some (.ref C)) (hr : Room k X.A) (hg : Gl X x) (he : PE X e te)
    (hdb : (x == ("__debug__" : Str)) = false := by decide) (hs : starEach [e] X.env = (false, eval e X.env) :: starEach [] X.env := by rfl) : PE X (.Call (.Name x p) [e] [] pos) (tErr C f te) := by
  constructor
  intro pins s σ H Q I h
  refine wpAny_Call_Name_kw (ld_glob I hg gC ?_ hdb)
  refine PySem.W.callWith_K (h₀ := X.base) I.ok.mod.kin T.kp ?_ hs (by rfl)
  rw [hs]
  show wpAny _ _ (spliced ((false, eval e X.env) :: backTo pos (starEach [] X.env))) _ _ s
  refine Calls.spliced_cons (thn (he.run pins s σ H _ I h) fun u s1 ⟨v, H1, I1, r1, q1⟩ => ?_)
  refine Calls.spliced_nil ⟨I1.kIn, ?_⟩
  show wpAny _ _ (call (.ref C) [u]) _ _ _
  exact wpAny_call (run_made (pos := [u]) (kw := []) hf BB T J (.inl ⟨rfl, rfl⟩) I1.kIn I1.nolimit (by have := hr.dp; omega) fun h' tk a dx M => made_end I1 r1 M q1)
theorem pe_errK (hf : Fld f) (BB : BaseB B newId initId bmB) (T : ErrC X.K C f bmB newId) (J : ErrI X.K C fI f) (gC : X.mg x = some (.ref C)) (hr : Room k X.A) (hg : Gl X x) (he : PE X e te)
    (hdb : (x == ("__debug__" : Str)) = false := by decide) : PE X (.Call (.Name x p) [] [⟨some f, e, kpos⟩] pos) (tErr C f te) := by
  constructor
  intro pins s σ H Q I h
  refine wpAny_Call_Name_kw (ld_glob I hg gC ?_ hdb)
  refine PySem.W.callWith_KW0 (h₀ := X.base) I.ok.mod.kin T.kp rfl ?_
  have hk : PK X [⟨some f, e, kpos⟩] (tCons te tNil) := pk_cons he pk_nil
  have h2 : tCons te tNil σ H (fun zs H1 => match zs with
      | [v] => ∀ (a : Addr) (H' : Hp), Same H1 H' → H1 a = none → ErrAt H' a C f v → Q (.ref a) H'
      | _ => False) := h
  refine thn (hk.run pos pins s σ H _ I h2) ?_
  intro us s1 ⟨zs, H1, I1, r1, q1⟩
  refine ⟨I1.kIn, ?_⟩
  cases r1 with
  | nil => exact q1.elim
  | cons rv rr =>
    cases rr with
    | cons _ _ => exact q1.elim
    | nil =>
      rename_i u
      show wpAny _ _ (call (.ref C) [] [(f, u)]) _ _ _
      exact wpAny_call (run_made (pos := []) (kw := [(f, u)]) hf BB T J (.inr ⟨rfl, rfl⟩) I1.kIn I1.nolimit (by have := hr.dp; omega) fun h' tk a dx M => made_end I1 rv M q1)
/-- the facts of a class without an __init__ of its own -/
theorem pe_err0 {bmB : List Value} (FB : ExcBaseFacts B newId initId bmB) (q : PySem.W.excIn X.K C bmB newId = true) (gC : X.mg x = some (.ref C)) (kC : PySem.W.keepIn X.K (.ref C) = true) (hg : Gl X x)
    (hdb : (x == ("__debug__" : Str)) = false := by decide) : PE X (.Call (.Name x p) [] [] pos) (tErr0 C) := by
  constructor
  intro pins s σ H Q I h
  refine wpAny_Call_Name_kw (ld_glob I hg gC ?_ hdb)
  refine PySem.W.callWith_K0 I.kIn kC ?_
  show wpAny _ _ (call (.ref C) []) _ _ _
  obtain ⟨bm, N, nm, qn, bs, hdct, sn, sub, ab, col, dd, k0, k1, k2, k3, k5, mN, hC, hN, hni, T⟩ := exc_obj I.kIn q
  refine wpAny_call_exc_subT FB T hC hN hni (fun h' a hm => ?_) (by show 0 ≤ sizeLine; decide)
  have hn : H a = none := I.hok.gone hm.new
  obtain ⟨t, ht, _, _⟩ := hm.there
  refine ⟨.ref a, upd H a (exo a C none), I.laidN hm.keeps hm.new hn (exo_ok (t1 := t) ht), rfl, h a _ (fun b o z => ?_) hn ⟨none, upd_same, fun x e => nomatch e⟩⟩
  rw [upd_ne (ne_of_none z hn)]
  exact z
/-- err.f -/
def tErrGet (C : Addr) (f : Str) (te : TE) : TE := fun σ H Q => te σ H fun x H1 => ∃ (a : Addr) (v : V), x = .ref a ∧ ErrAt H1 a C f v ∧ Q v H1
theorem pe_errGet (Cs : Addr → Prop) (T : ∀ C, Cs C → ∃ bmB newId, ErrC X.K C f bmB newId) (he : PE X e te) (hb : attributeBase e f X.env (eval e X.env) = eval e X.env) :
    PE X (.Attribute e f pos) (fun σ H Q => te σ H fun x H1 => ∃ (a C : Addr) (v : V), x = .ref a ∧ Cs C ∧ ErrAt H1 a C f v ∧ Q v H1) := by
  constructor
  intro pins s σ H Q I h
  refine attr_of hb (thn (he.run pins s σ H _ I h) ?_)
  intro u s1 ⟨x, H1, I1, rx, a, C, v, ex, hC, ⟨d, ha, hd⟩, q⟩
  subst ex
  obtain rfl : u = Value.ref a := rx
  obtain ⟨bmB, newId, T⟩ := T C hC
  obtain ⟨t1, ho⟩ := exo_at I1.hok ha
  obtain ⟨mA, hns, hr⟩ := exd_at I1.hok hd
  obtain ⟨od, hod, hl⟩ := lookIn_ns hns
  have l : List.lookup f [(f, v)] = some v := by simp [List.lookup]
  obtain ⟨u, hu, ru⟩ := RelO.some_of (v := v) (o := mA f) (by rw [← l]; exact hr f)
  have J : PySem.W.InstAt s1.heap a { cls := .ref C, dict := some d, data := .fields #[.ref t1, .none, .none, .none, .bool false, .none] } C (some od) := ⟨ho, rfl, rfl, hod⟩
  exact HandSPX.exc_get I1.kIn J T.ga T.gg T.ex (PySem.W.findObj_own T.hd T.no rfl (by rw [hl, hu])) (handed_of ru) ⟨v, H1, I1.tok _, ru, q⟩
end
/-! ### isinstance of an error -/
structure IsF (K : PySem.W.Frag) : Prop where
  gt : PySem.W.specialIn K (.builtin "object.__class__") "__get__" = some (some (.builtin "getset_descriptor.__get__"))
  tk : PySem.W.takesIn K (.builtin "object.__class__") = some true
/-- what isinstance asks of the class -/
structure IsC (K : PySem.W.Frag) (C : Addr) : Prop where
  ga : PySem.W.findIn K (.ref C) "__getattribute__" = some (some (.builtin "BaseException.__getattribute__"))
  gg : PySem.W.findIn K (.ref C) "__getattr__" = some none
  ex : PySem.W.subIn K (.ref C) (.type "BaseException") = some true
  cl : (PySem.W.clsIn K C).isSome = true
  ca : PySem.W.findIn K (.ref C) "__class__" = some (some (.builtin "object.__class__"))
  ob : PySem.W.mroIn K C (.type "object") = some true
theorem ErrC.isc {K : PySem.W.Frag} {C : Addr} {f : Str} {bmB : List Value} {newId : String} (T : ErrC K C f bmB newId) : IsC K C := ⟨T.ga, T.gg, T.ex, T.cl, T.ca, T.ob⟩
def isOk (K : PySem.W.Frag) (C : Addr) : Bool := (PySem.W.findIn K (.ref C) "__getattribute__" == some (some (.builtin "BaseException.__getattribute__"))) &&
  (PySem.W.findIn K (.ref C) "__getattr__" == some none) && (PySem.W.subIn K (.ref C) (.type "BaseException") == some true) && (PySem.W.clsIn K C).isSome &&
  (PySem.W.findIn K (.ref C) "__class__" == some (some (.builtin "object.__class__"))) && (PySem.W.mroIn K C (.type "object") == some true)
theorem IsC.of {K : PySem.W.Frag} {C : Addr} (h : isOk K C = true) : IsC K C := by
  unfold isOk at h
  simp only [Bool.and_eq_true, beq_iff_eq] at h
  obtain ⟨⟨⟨⟨⟨h1, h2⟩, h3⟩, h4⟩, h5⟩, h6⟩ := h
  exact ⟨h1, h2, h3, h4, h5, h6⟩
def rIsErr (K : PySem.W.Frag) : List V → Hp → VK → Prop := fun xs H Q => ∃ (a C : Addr) (c : V) (u : Value) (b : Bool), xs = [.ref a, c] ∧ ErrIs H a C ∧ IsC K C ∧ (∀ z, RelV c z → z = u) ∧ PySem.W.kitOne K (.ref C) u = some b ∧ Q (.bl b) H
theorem cr_isErr {X : Cx} (W : IsF X.K) : CallR X (.builtin "isinstance") (rIsErr X.K) := by
  intro pins s σ H xs us Q I r h
  obtain ⟨a, C, c, u, b, rfl, ⟨d, ha, hd⟩, T, hc, e, q⟩ := h
  obtain ⟨u1, u2, rfl, r1, r2⟩ := vals2 r
  obtain rfl : u1 = Value.ref a := r1
  have e2 := hc _ r2
  subst e2
  obtain ⟨t1, ho⟩ := exo_at I.hok ha
  have J : ∃ od, PySem.W.InstAt s.heap a { cls := .ref C, dict := d, data := .fields #[.ref t1, .none, .none, .none, .bool false, .none] } C od := by
    cases d with
    | none => exact ⟨none, ho, rfl, rfl, trivial⟩
    | some x =>
      obtain ⟨fs, hx⟩ := hd x rfl
      obtain ⟨mA, hns, _⟩ := exd_at I.hok hx
      obtain ⟨od, hod, _⟩ := lookIn_ns hns
      exact ⟨some od, ho, rfl, rfl, hod⟩
  obtain ⟨od, J⟩ := J
  exact PySem.W.kia_one (PySem.W.kitx_exc T.cl T.ga T.gg T.ex T.ca W.gt W.tk T.ob) I.kIn J e (fun z => nomatch z) fun tk => ⟨.bl b, H, I.tok tk, rfl, q⟩
end SQ
namespace SQ7
open PySem L2 SQ
/-! ### the law's frame: the urn, the draws, the law itself -/
def top (i : Nat) : Stmt := PySem.Challenge.pw_stackquotes_k07_errors_and_limits.main.body.getD i (.Pass ⟨0, 0, 0, 0⟩)
abbrev sUrn : Stmt := top 41
abbrev sLot : Stmt := top 42
abbrev sOne : Stmt := top 43
abbrev sRight : Stmt := top 48
abbrev sLaw : Stmt := top 49
/-- the built-ins' names are still theirs -/
structure Blt (mg : Str → Option Value) : Prop where
  int : mg "int" = none
  len : mg "len" = none
  abs : mg "abs" = none
  divmod : mg "divmod" = none
  max : mg "max" = none
  min : mg "min" = none
  range : mg "range" = none
  all : mg "all" = none
/-- all that stood stands, but at u -/
def But (u : Addr) (H H' : Hp) : Prop := ∀ b o, H b = some o → b ≠ u → H' b = some o
theorem But.refl {u : Addr} {H : Hp} : But u H H := fun _ _ e _ => e
theorem But.trans {u : Addr} {H H1 H2 : Hp} (a : But u H H1) (b : But u H1 H2) : But u H H2 := fun c o e n => b c o (a c o e n) n
theorem But.new {u p : Addr} {H H' : Hp} {o : HO} (a : But u H H') (h : H' p = none) : But u H (upd H' p o) := fun c x e n => by
  have e1 := a c x e n
  rw [upd_ne (ne_of_none e1 h)]
  exact e1
theorem But.put {u : Addr} {H H' : Hp} {o : HO} (a : But u H H') : But u H (upd H' u o) := fun c x e n => by
  rw [upd_ne n]
  exact a c x e n
theorem Same.but {u : Addr} {H H' : Hp} (a : Same H H') : But u H H' := fun c x e _ => a c x e
theorem same_new {p : Addr} {H H' : Hp} {o : HO} (a : Same H H') (h : H' p = none) : Same H (upd H' p o) := fun c x e => by
  have e1 := a c x e
  rw [upd_ne (ne_of_none e1 h)]
  exact e1
theorem keptT {σ : St} {H : Hp} {A B : Hp → Prop} (h : A H) : tYes σ H (fun b H3 => if b = true then A H3 else B H3) := by
  show (if true = true then A H else B H)
  rw [if_pos rfl]
  exact h
def urnAt (H : Hp) (u : Addr) : Prop := ∃ x y z : Int, H u = some (.lst [.int x, .int y, .int z])
def spUrn (K : PySem.W.Frag) : Sp := fun vs H Q _ => ∃ (a : Addr) (ns : List Int) (k : Nat), vs = [.ref a, .int k] ∧ SqL K H a (ns.map V.int) ∧ k ≤ 63 ∧
  ∀ (H' : Hp) (p : Addr), Same H H' → H p = none → urnAt H' p → Q (.ref p) H'
def spLot : Sp := fun vs H Q _ => ∃ (u : Addr) (m : Int), vs = [.ref u, .int m] ∧ urnAt H u ∧ 0 < m ∧ m < 1073741824 ∧
  ∀ (H' : Hp) (d : Int), 0 ≤ d → d < m → urnAt H' u → But u H H' → Q (.int d) H'
def spOne (K : PySem.W.Frag) : Sp := fun vs H Q _ => ∃ (u t : Addr) (xs : List V), vs = [.ref u, .ref t] ∧ urnAt H u ∧ u ≠ t ∧ H t = some (.lst xs) ∧ 0 < xs.length ∧ xs.length ≤ 1000 ∧
  ∀ (H' : Hp) (i : Nat) (x : V), xs[i]? = some x → urnAt H' u → But u H H' → Q x H'
def spRight : Sp := fun vs H Q _ => ∃ u : Addr, vs = [.ref u] ∧ urnAt H u ∧ ∀ H' : Hp, But u H H' → Q (.bl true) H'
def spLaw (K : PySem.W.Frag) : Sp := fun vs H Q _ => ∃ (a : Addr) (ns : List Int), vs = [.ref a] ∧ SqL K H a (ns.map V.int) ∧ ns.length ≤ 63 ∧ ∀ H', Q (.bl true) H'
section
variable {P : Program} {w : World} {K : PySem.W.Frag} {mg : Str → Option Value} {base : Heap}
theorem scU : FnScope ["_law_script", "_law_k", "_law_mixed", "_law_entry", "_law_own"] ["_law_script", "_law_k"] (defScope sUrn) := ⟨rfl, rfl, rfl, by decide +kernel, rfl, by decide +kernel, by decide +kernel⟩
theorem ok_urn {f : Addr} {fd : FuncData} (F : Fun K "_law_urn" "_law_urn" sUrn f fd) (B : Blt mg) : FnOk P w K mg base CX0 1 f fd ["_law_script", "_law_k"] (spUrn K) := by
  refine F.ok scU (fun vs H Q E h => ?_) (fun cdv A outer s H vs Q E hr h => ?_)
  · obtain ⟨a, ns, k, rfl, _⟩ := h
    rfl
  · obtain ⟨a, ns, k, rfl, hS, hk, q⟩ := h
    refine ⟨_, pss_cons (ps_set (i := 2) scU.nd rfl (.inl rfl) (pe_op op_add pe_int (pe_op op_mul pe_int (pv 1))))
      (pss_cons (ps_for PassesOwn.never rfl (pi_list (pe_slice sl_list (pv 0) po_none (po_some pe_int))) (pg_name (i := 3) scU.nd rfl (.inl rfl))
        (pss_one (ps_set (i := 2) scU.nd rfl (.inl rfl) (pe_op op_mod (pe_callTy call_int1 (by rfl) B.int (by decide +kernel)
          (pa_cons (pe_op op_add (pe_op op_mul (pv 2) pe_int) (pe_op op_mod (pe_callTy call_int1 (by rfl) B.int (by decide +kernel) (pa_cons (pv 3) pa_nil)) pe_int)) pa_nil)) pe_int))))
      (pss_cons (ps_set (i := 4) scU.nd rfl (.inl rfl) (pe_ifExp (pt_cmpR op_lt (pv 1) (pe_callB call_len_seq (by rfl) B.len PySem.boot_len (pa_cons (pv 0) pa_nil)) (nomark _))
        (pe_callTy call_int1 (by rfl) B.int (by decide +kernel) (pa_cons (pe_ix ix_list (pv 0) (pv 1) (fun _ _ => rfl)) pa_nil))
        (pe_op op_add (pe_op op_mul pe_int (pv 1)) pe_int)))
      (pss_one (ps_ret (pe_lst (pa_cons (pe_ifExp (PW.pt (pw_or (pt_cmpR op_lt (pv 4) pe_int (nomark _)) (pw_or1 (pt_cmpR op_ge (pv 4) (pe_op op_pow pe_int pe_int) (nomark _)))))
          (pe_callB call_abs (by rfl) B.abs (by decide +kernel) (pa_cons (pv 4) pa_nil)) pe_int)
        (pa_cons (pe_op op_mod (pe_callTy call_int1 (by rfl) B.int (by decide +kernel) (pa_cons (pe_op op_add (pe_op op_mul (pv 2) pe_int) (pe_op op_mod (pv 4) pe_int)) pa_nil)) pe_int)
        (pa_cons pe_int pa_nil)))))))), ?_⟩
    -- mixed
    refine ⟨_, rfl, _, _, rfl, rfl, .inl ⟨by decide, by decide⟩, _, _, rfl, rfl, ?_⟩
    -- the slice
    refine ⟨_, rfl, _, rfl, a, _, rfl, hS, fun p hp => ?_⟩
    have hp' : SqL K (upd H p (.lst (cutV (ns.map V.int) none (some 14)))) p (cutV (ns.map V.int) none (some 14)) := SqL.of upd_same
    have s1 : Same H (upd H p (.lst (cutV (ns.map V.int) none (some 14)))) := same_new (fun _ _ e => e) hp
    refine ⟨p, rfl, ⟨_, hp'⟩, for_list (K := K) (a := p) (xs := cutV (ns.map V.int) none (some 14))
      (fun i σ H2 => ∃ (m : Int) (v : Option V), σ = [some (.ref a), some (.int k), some (.int m), v, none] ∧ H2 = upd H p (.lst (cutV (ns.map V.int) none (some 14))))
      ⟨_, _, rfl, rfl⟩ (fun i σ H2 _ ⟨_, _, _, e2⟩ => by rw [e2]; exact hp') ?_ ?_⟩
    · rintro i y σ H2 hi ⟨m, v, rfl, rfl⟩
      obtain ⟨z, rfl⟩ : ∃ z, y = V.int z := by
        have hm : y ∈ ns.map V.int := List.mem_of_mem_drop (List.mem_of_mem_take (List.mem_of_getElem? hi))
        obtain ⟨z, _, e⟩ := List.mem_map.mp hm
        exact ⟨z, e.symm⟩
      refine ⟨_, rfl, _, _, rfl, rfl, .inr ⟨by decide, by decide⟩, _, rfl, .inl ⟨_, rfl, _, _, rfl, rfl, (by show (0 : Int) < 1999999973; decide), _, _, rfl, rfl, .inl ⟨_, rfl, _, _, rfl, rfl, (by show (0 : Int) < 1999999973; decide), ?_⟩⟩⟩
      exact ⟨_, _, rfl, rfl⟩
    · rintro σ H2 ⟨m, v, rfl, rfl⟩
      have hS2 := s1.seq hS
      -- own
      refine ⟨_, rfl, _, rfl, a, _, rfl, .inl hS2, _, _, rfl, rfl, _, rfl, ?_⟩
      refine ite2 (fun hlt => ?_) (fun _ => ?_)
      · have hlt' : (k : Int) < ((ns.map V.int).length : Int) := of_decide_eq_true hlt
        have hk2 : k < ns.length := by rw [List.length_map] at hlt'; omega
        refine ⟨_, rfl, _, rfl, a, _, _, _, rfl, rfl, hS2, atI_nat (by rw [List.getElem?_map, List.getElem?_eq_getElem hk2]; rfl), .inl ⟨_, rfl, ?_⟩⟩
        refine ⟨_, rfl, _, _, rfl, rfl, _, rfl, ?_⟩
        refine ite2 (fun _ => iteT ?_) (fun _ => ⟨_, rfl, _, _, rfl, rfl, ⟨by decide, by decide, by decide⟩, _, _, rfl, rfl, _, rfl, ite2 (fun _ => ?_) (fun _ => ?_)⟩)
        · refine ⟨_, rfl, _, rfl, ?_⟩
          exact ⟨_, rfl, _, _, rfl, rfl, .inr ⟨by decide, by decide⟩, _, rfl, _, _, rfl, rfl, (by show (0 : Int) < 1999999973; decide), _, _, rfl, rfl, .inl ⟨_, rfl, _, _, rfl, rfl, (by show (0 : Int) < 1999999973; decide),
            (by show 3 ≤ sizeLine; decide), fun p2 hp2 => q _ p2 (same_new s1 hp2) (s1.free hp2) ⟨_, _, _, upd_same⟩⟩⟩
        · refine ⟨_, rfl, _, rfl, ?_⟩
          exact ⟨_, rfl, _, _, rfl, rfl, .inr ⟨by decide, by decide⟩, _, rfl, _, _, rfl, rfl, (by show (0 : Int) < 1999999973; decide), _, _, rfl, rfl, .inl ⟨_, rfl, _, _, rfl, rfl, (by show (0 : Int) < 1999999973; decide),
            (by show 3 ≤ sizeLine; decide), fun p2 hp2 => q _ p2 (same_new s1 hp2) (s1.free hp2) ⟨_, _, _, upd_same⟩⟩⟩
        · exact ⟨_, rfl, _, _, rfl, rfl, .inr ⟨by decide, by decide⟩, _, rfl, _, _, rfl, rfl, (by show (0 : Int) < 1999999973; decide), _, _, rfl, rfl, .inl ⟨_, rfl, _, _, rfl, rfl, (by show (0 : Int) < 1999999973; decide),
            (by show 3 ≤ sizeLine; decide), fun p2 hp2 => q _ p2 (same_new s1 hp2) (s1.free hp2) ⟨_, _, _, upd_same⟩⟩⟩
      · refine ⟨_, rfl, _, _, rfl, rfl, .inl ⟨by decide, by decide⟩, _, _, rfl, rfl, ?_⟩
        refine ⟨_, rfl, _, _, rfl, rfl, _, rfl, ?_⟩
        refine ite2 (fun _ => iteT ?_) (fun _ => ⟨_, rfl, _, _, rfl, rfl, ⟨by decide, by decide, by decide⟩, _, _, rfl, rfl, _, rfl, ite2 (fun _ => ?_) (fun _ => ?_)⟩)
        · refine ⟨_, rfl, _, rfl, ?_⟩
          exact ⟨_, rfl, _, _, rfl, rfl, .inr ⟨by decide, by decide⟩, _, rfl, _, _, rfl, rfl, (by show (0 : Int) < 1999999973; decide), _, _, rfl, rfl, .inl ⟨_, rfl, _, _, rfl, rfl, (by show (0 : Int) < 1999999973; decide),
            (by show 3 ≤ sizeLine; decide), fun p2 hp2 => q _ p2 (same_new s1 hp2) (s1.free hp2) ⟨_, _, _, upd_same⟩⟩⟩
        · refine ⟨_, rfl, _, rfl, ?_⟩
          exact ⟨_, rfl, _, _, rfl, rfl, .inr ⟨by decide, by decide⟩, _, rfl, _, _, rfl, rfl, (by show (0 : Int) < 1999999973; decide), _, _, rfl, rfl, .inl ⟨_, rfl, _, _, rfl, rfl, (by show (0 : Int) < 1999999973; decide),
            (by show 3 ≤ sizeLine; decide), fun p2 hp2 => q _ p2 (same_new s1 hp2) (s1.free hp2) ⟨_, _, _, upd_same⟩⟩⟩
        · exact ⟨_, rfl, _, _, rfl, rfl, .inr ⟨by decide, by decide⟩, _, rfl, _, _, rfl, rfl, (by show (0 : Int) < 1999999973; decide), _, _, rfl, rfl, .inl ⟨_, rfl, _, _, rfl, rfl, (by show (0 : Int) < 1999999973; decide),
            (by show 3 ≤ sizeLine; decide), fun p2 hp2 => q _ p2 (same_new s1 hp2) (s1.free hp2) ⟨_, _, _, upd_same⟩⟩⟩
theorem scLo : FnScope ["_law_urn_here", "_law_many", "_law_digit"] ["_law_urn_here", "_law_many"] (defScope sLot) := ⟨rfl, rfl, rfl, by decide +kernel, rfl, by decide +kernel, by decide +kernel⟩
theorem ok_lot {f : Addr} {fd : FuncData} (F : Fun K "_law_lot" "_law_lot" sLot f fd) (B : Blt mg) : FnOk P w K mg base CX0 1 f fd ["_law_urn_here", "_law_many"] spLot := by
  refine F.ok scLo (fun vs H Q E h => ?_) (fun cdv A outer s H vs Q E hr h => ?_)
  · obtain ⟨u, m, rfl, _⟩ := h
    rfl
  · obtain ⟨u, m, rfl, ⟨x, y, z, hu⟩, m0, m1, q⟩ := h
    refine ⟨_, pss_cons (ps_if (pt_cmpR op_gt (pe_ix ix_list (pv 0) pe_int (fun _ _ => rfl)) pe_int (nomark _))
        (pss_cons (ps_asg (pe_callB call_divmod (by rfl) B.divmod (by decide +kernel) (pa_cons (pe_callTy call_int1 (by rfl) B.int (by decide +kernel) (pa_cons (pe_ix ix_list (pv 0) pe_int (fun _ _ => rfl)) pa_nil)) (pa_cons (pv 1) pa_nil)))
          (pg_tup rfl (pgs_cons (pg_sub (pv 0) pe_int set_list) (pgs_cons (pg_name (i := 2) scLo.nd rfl (.inl rfl)) pgs_nil))))
        (pss_one (ps_ret (pv 2)))) pss_nil)
      (pss_cons (ps_asg (pe_op op_add (pe_ix ix_list (pv 0) pe_int (fun _ _ => rfl)) pe_int) (pg_sub (pv 0) pe_int set_list))
      (pss_cons (ps_asg (pe_op op_mod (pe_callTy call_int1 (by rfl) B.int (by decide +kernel) (pa_cons (pe_op op_add (pe_op op_add (pe_op op_mul (pe_ix ix_list (pv 0) pe_int (fun _ _ => rfl)) pe_int)
          (pe_op op_mul (pe_op op_fdiv (pe_ix ix_list (pv 0) pe_int (fun _ _ => rfl)) pe_int) pe_int)) (pe_op op_mul pe_int (pe_ix ix_list (pv 0) pe_int (fun _ _ => rfl)))) pa_nil)) pe_int) (pg_sub (pv 0) pe_int set_list))
      (pss_one (ps_ret (pe_op op_mod (pe_callTy call_int1 (by rfl) B.int (by decide +kernel) (pa_cons (pe_op op_fdiv (pe_ix ix_list (pv 0) pe_int (fun _ _ => rfl)) pe_int) pa_nil)) (pv 1)))))), ?_⟩
    refine ⟨_, rfl, u, _, _, _, rfl, rfl, SqL.of hu, rfl, _, _, rfl, rfl, _, rfl, ?_⟩
    refine ite2 (fun _ => ?_) (fun _ => ?_)
    · refine ⟨_, rfl, u, _, _, _, rfl, rfl, SqL.of hu, rfl, .inl ⟨_, rfl, _, rfl, _, _, rfl, ⟨m0, m1⟩, fun p hp => ?_⟩⟩
      have hup : u ≠ p := ne_of_none hu hp
      refine ⟨p, _, rfl, SqT.of upd_same, rfl, _, _, rfl, ⟨_, rfl, u, _, _, 0, rfl, rfl, by rw [upd_ne hup]; exact hu, rfl, _, _, rfl, rfl, ?_⟩⟩
      refine ⟨_, rfl, q _ _ (Int.emod_nonneg _ (by omega)) (Int.emod_lt_of_pos _ m0) ⟨_, _, _, upd_same⟩ ((But.refl.new hp).put)⟩
    · refine ⟨_, rfl, u, _, _, _, rfl, rfl, SqL.of hu, rfl, _, _, rfl, rfl, _, rfl, u, _, _, 2, rfl, rfl, hu, rfl, ?_⟩
      have h1 : (upd H u (.lst ([V.int x, V.int y, V.int z].set 2 (V.int (z + 1))))) u = some (.lst [V.int x, V.int y, V.int (z + 1)]) := upd_same
      refine ⟨_, rfl, u, _, _, _, rfl, rfl, SqL.of h1, rfl, _, _, rfl, rfl, .inr ⟨by decide, by decide⟩,
        _, rfl, u, _, _, _, rfl, rfl, SqL.of h1, rfl, _, _, rfl, rfl, ⟨by decide, by decide⟩, _, _, rfl, rfl, .inr ⟨by decide, by decide⟩, _, _, rfl, rfl,
        _, rfl, u, _, _, _, rfl, rfl, SqL.of h1, rfl, _, _, rfl, rfl, .inl ⟨by decide, by decide⟩, _, _, rfl, rfl,
        .inl ⟨_, rfl, _, _, rfl, rfl, (by show (0 : Int) < 1999999973; decide), _, rfl, u, _, _, 1, rfl, rfl, h1, rfl, ?_⟩⟩
      refine ⟨_, rfl, u, _, _, _, rfl, rfl, SqL.of upd_same, rfl, _, _, rfl, rfl, ⟨by decide, by decide⟩, .inl ⟨_, rfl, _, rfl, _, _, rfl, rfl, m0, ?_⟩⟩
      exact q _ _ (Int.emod_nonneg _ (by omega)) (Int.emod_lt_of_pos _ m0) ⟨_, _, _, upd_same⟩ (But.refl.put.put)
theorem scO : FnScope ["_law_urn_here", "_law_things"] ["_law_urn_here", "_law_things"] (defScope sOne) := ⟨rfl, rfl, rfl, by decide +kernel, rfl, by decide +kernel, by decide +kernel⟩
/-- the draws stand where they stand -/
structure Drw (K : PySem.W.Frag) (mg : Str → Option Value) (fL fO : Addr) (fdL fdO : FuncData) : Prop where
  gL : mg "_law_lot" = some (.ref fL)
  FL : Fun K "_law_lot" "_law_lot" sLot fL fdL
  bL : Binds K fdL ["_law_urn_here", "_law_many"] []
  gO : mg "_law_one" = some (.ref fO)
  FO : Fun K "_law_one" "_law_one" sOne fO fdO
  bO : Binds K fdO ["_law_urn_here", "_law_things"] []
theorem ok_one {fL fO : Addr} {fdL fdO : FuncData} (D : Drw K mg fL fO fdL fdO) (B : Blt mg) : FnOk P w K mg base CX0 2 fO fdO ["_law_urn_here", "_law_things"] (spOne K) := by
  have GL : FnOk P w K mg base CX0 1 fL fdL ["_law_urn_here", "_law_many"] spLot := ok_lot D.FL B
  refine D.FO.ok scO (fun vs H Q E h => ?_) (fun cdv A outer s H vs Q E hr h => ?_)
  · obtain ⟨u, t, xs, rfl, _⟩ := h
    rfl
  · obtain ⟨u, t, xs, rfl, hu, nut, ht, x0, x1, q⟩ := h
    refine ⟨_, pss_one (ps_ret (pe_ix ix_list (pv 1) (pe_call GL hr rfl D.gL D.FL.kp D.bL .nil pass0 (pa_cons (pv 0) (pa_cons (pe_callB call_len_seq (by rfl) B.len PySem.boot_len (pa_cons (pv 1) pa_nil)) pa_nil))) (fun _ _ => rfl))), ?_⟩
    refine ⟨_, rfl, _, rfl, _, rfl, t, xs, rfl, .inl (SqL.of ht), u, _, rfl, hu, by omega, by omega, fun H1 d d0 d1 hu1 bt => ?_⟩
    have ht1 := bt t _ ht (Ne.symm nut)
    obtain ⟨i, rfl⟩ : ∃ i : Nat, d = i := ⟨d.toNat, by omega⟩
    have hi : i < xs.length := by omega
    have hx : xs[i]? = some xs[i] := List.getElem?_eq_getElem hi
    exact ⟨t, xs, _, _, rfl, rfl, SqL.of ht1, atI_nat hx, q H1 i _ hx hu1 bt⟩
theorem scLaw : FnScope ["_law_script", "_law_k"] ["_law_script"] (defScope sLaw) := ⟨rfl, rfl, rfl, by decide +kernel, rfl, by decide +kernel, by decide +kernel⟩
theorem ok_law {f fU fR : Addr} {fd fdU fdR : FuncData} {j : Nat} (F : Fun K "law" "law" sLaw f fd) (B : Blt mg) (gU : mg "_law_urn" = some (.ref fU)) (FU : Fun K "_law_urn" "_law_urn" sUrn fU fdU) (bU : Binds K fdU ["_law_script", "_law_k"] [])
    (gR : mg "_law_right" = some (.ref fR)) (kR : PySem.W.keepIn K (.ref fR) = true) (bR : Binds K fdR ["_law_urn_here"] []) (GR : FnG P w K mg base CX0 (j + 1) fR fdR ["_law_urn_here"] spRight) : FnG P w K mg base CX0 (j + 2) f fd ["_law_script"] (spLaw K) := by
  have GU : FnOk P w K mg base CX0 1 fU fdU ["_law_script", "_law_k"] (spUrn K) := ok_urn FU B
  refine okG F scLaw (fun vs H Q E h => ?_) (fun cdv A outer s H vs Q E hgd hr h => ?_)
  · obtain ⟨a, ns, rfl, _⟩ := h
    rfl
  · obtain ⟨a, ns, rfl, hS, hlen, q⟩ := h
    refine ⟨_, pss_one (ps_ret (pe_callB (cr_all rfl) (by rfl) B.all (by decide +kernel) (pa_cons (pe_lc (own := [("_law_k", 1)]) (g := gName 1) (tt := tYes) rfl scLaw.nd
      (pi_range1 (by rfl) B.range (pa_cons (pe_callB (call_max2 rfl) (by rfl) B.max (by decide +kernel) (pa_cons pe_int (pa_cons (pe_callB (call_min2 rfl) (by rfl) B.min (by decide +kernel)
        (pa_cons (pe_callB call_len_seq (by rfl) B.len PySem.boot_len (pa_cons (pv 0) pa_nil)) (pa_cons pe_int pa_nil))) pa_nil))) pa_nil))
      (blkOk_by (N := ["_law_script", "_law_k"]) (sc := defScope sLaw) (by decide +kernel)) (fun _ _ _ _ _ => pg_name (i := 1) scLaw.nd rfl (Or.inl rfl)) (fun _ _ _ _ _ => pts_nil)
      (fun _ _ _ _ _ => pe_callG GR hgd hr rfl gR kR bR pass0 (pa_cons (pe_call GU (hr.mono (by omega)) rfl gU FU.kp bU .nil pass0 (pa_cons (pv 0) (pa_cons (pv 1) pa_nil))) pa_nil))) pa_nil))), ?_⟩
    refine ⟨_, rfl, a, _, rfl, .inl hS, _, _, rfl, _, _, rfl, ?_⟩
    generalize hj : (if (if (6 : Int) < ((ns.map V.int).length : Int) then (6 : Int) else ((ns.map V.int).length : Int)) > 2 then (if (6 : Int) < ((ns.map V.int).length : Int) then (6 : Int) else ((ns.map V.int).length : Int)) else 2) = n
    have hn : 0 ≤ n ∧ n ≤ 6 := by
      rw [← hj]
      split <;> split <;> omega
    refine ⟨n, rfl, by omega, by omega, fun D hD => ?_⟩
    refine lc_range (lo := 0) (n := n.toNat) (fun i H2 => Same H H2 ∧ H2 D = some (.lst ((List.replicate i true).map V.bl))) ⟨same_new (fun _ _ e => e) hD, upd_same⟩ ?_ ?_
    · rintro i H2 hi ⟨s2, hD2⟩
      refine ⟨rfl, keptT ?_⟩
      refine ⟨_, rfl, _, rfl, a, ns, i, by rw [Int.zero_add]; rfl, s2.seq hS, by omega, fun H3 p s3 np hp => ?_⟩
      refine ⟨p, rfl, hp, fun H4 b4 => ?_⟩
      have hD4 : H4 D = some (.lst ((List.replicate i true).map V.bl)) := b4 D _ (s3 D _ hD2) (ne_of_none hD2 np)
      refine ⟨_, hD4, small1000 (by rw [List.length_map, List.length_replicate]; omega), fun b o e => ?_, ?_⟩
      · have hb : b ≠ D := ne_of_none e hD
        have e2 := s2 b o e
        rw [upd_ne hb]
        exact b4 b o (s3 b o e2) (ne_of_none e2 np)
      · rw [upd_same, List.replicate_succ', List.map_append]
        rfl
    · rintro H2 ⟨s2, hD2⟩
      refine ⟨D, _, rfl, SqL.of hD2, ?_⟩
      have e : (List.replicate n.toNat true).all id = true := by
        rw [List.all_eq_true]
        intro x hx
        exact (List.eq_of_mem_replicate hx)
      rw [e]
      exact q H2
end
end SQ7
/-! list.count(True) of a list of bools -/
namespace SQ
open PySem PySem.Spec PyProof.Rows L2
def isT (v : Value) : Bool := v == .bool true
def rCntB (K : PySem.W.Frag) : V → List V → Hp → VK → Prop := fun x xs H Q => ∃ (p : Addr) (bs : List Bool), x = .ref p ∧ xs = [.bl true] ∧ SqL K H p (bs.map V.bl) ∧ Q (.int (bs.count true : Nat)) H
theorem cnt_bools : ∀ {us : List Value} {bs : List Bool}, Vals (bs.map V.bl) us → us.countP isT = bs.count true
  | _, [], .nil => rfl
  | _, b :: bs, .cons r t => by
    have ih := cnt_bools (bs := bs) t
    cases (show _ = Value.bool b from r)
    rw [List.countP_cons, List.count_cons, ih]
    cases b <;> rfl
theorem mem_bools : ∀ {us : List Value} {bs : List Bool}, Vals (bs.map V.bl) us → ∀ y ∈ us, ∃ b, y = Value.bool b
  | _, [], .nil, y, h => by cases h
  | _, b :: bs, .cons r t, y, h => by
    rcases List.mem_cons.mp h with e | e
    · exact ⟨b, e.trans r⟩
    · exact mem_bools (bs := bs) t y e
theorem mt_bcount {X : Cx} : MtR X "list.count" (rCntB X.K) := by
  intro pins s σ H x xs v us Q I rx rxs h
  obtain ⟨p, bs, rfl, rfl, hs, q⟩ := h
  cases rx
  obtain ⟨u, rfl, ru⟩ := rxs.one
  cases ru
  obtain ⟨its, rv, ⟨⟨cls, dd, data, sl⟩, n, ho, hc, hdn, hd⟩, hlen⟩ := I.list hs
  simp only at hc hd
  subst hc hd
  refine call_meets PySem.F.slot_list_count ⟨_, ho, rfl⟩ PySem.F.entry_list_count (PySem.F.args_list_count_2 _ _)
    (SeqAt.list_countAt p its.toArray n dd sl (.bool true) isT) ⟨ho, fun y hy => ?_, ?_⟩
  · obtain ⟨b, rfl⟩ := mem_bools rv y (by simpa using hy)
    have e : isT (.bool b) = (b == true) := by cases b <;> rfl
    rw [e]
    exact SeqAt.EqAt.bool_bool b true
  · have ec : its.toArray.toList.countP isT = bs.count true := cnt_bools (by simpa using rv)
    refine ⟨.int (bs.count true : Nat), H, I.tok _, ⟨s.toks, ?_⟩, q⟩
    show Value.int ((its.toArray.toList.countP isT : Nat) : Int) s.toks = Value.int ((bs.count true : Nat) : Int) s.toks
    rw [ec]
/-- a class with its __init__, whatever its base -/
def ErrAll (K : PySem.W.Frag) (C : Addr) (f : Str) : Prop := Fld f ∧ ∃ (B newId initId : String) (bmB : List Value) (fI : Addr), BaseB B newId initId bmB ∧ ErrC K C f bmB newId ∧ ErrI K C fI f
def ErrNon (K : PySem.W.Frag) (C : Addr) : Prop := ∃ (B newId initId : String) (bmB : List Value), ExcBaseFacts B newId initId bmB ∧ PySem.W.excIn K C bmB newId = true ∧ PySem.W.keepIn K (.ref C) = true
section
variable {X : Cx} {C : Addr} {f x : Str} {e : Expr} {te : TE} {p pos kpos : Pos} {k : Nat}
theorem pe_errA (h : ErrAll X.K C f) (gC : X.mg x = some (.ref C)) (hr : Room k X.A) (hg : Gl X x) (he : PE X e te) (hdb : (x == ("__debug__" : Str)) = false := by decide)
    (hs : starEach [e] X.env = (false, eval e X.env) :: starEach [] X.env := by rfl) : PE X (.Call (.Name x p) [e] [] pos) (tErr C f te) := by
  obtain ⟨hf, B, newId, initId, bmB, fI, BB, T, J⟩ := h
  exact pe_err hf BB T J gC hr hg he hdb hs
theorem pe_errAK (h : ErrAll X.K C f) (gC : X.mg x = some (.ref C)) (hr : Room k X.A) (hg : Gl X x) (he : PE X e te) (hdb : (x == ("__debug__" : Str)) = false := by decide) :
    PE X (.Call (.Name x p) [] [⟨some f, e, kpos⟩] pos) (tErr C f te) := by
  obtain ⟨hf, B, newId, initId, bmB, fI, BB, T, J⟩ := h
  exact pe_errK hf BB T J gC hr hg he hdb
theorem pe_errN (h : ErrNon X.K C) (gC : X.mg x = some (.ref C)) (hg : Gl X x) (hdb : (x == ("__debug__" : Str)) = false := by decide) : PE X (.Call (.Name x p) [] [] pos) (tErr0 C) := by
  obtain ⟨B, newId, initId, bmB, FB, q, kC⟩ := h
  exact pe_err0 FB q gC kC hg hdb
end
end SQ
namespace SQ7
open PySem L2 SQ
/-! ### the classes -/
def nm (i : Nat) : Str := (["NotAVocabulary", "NotAProgram", "NotALibrary", "InvalidText", "InvalidPlace", "InvalidFunctions", "InvalidResult", "InvalidName", "InvalidRow", "InvalidEntries", "InvalidStack", "InvalidWords", "InvalidDeeds",
  "NoEffect", "Mismatch", "HigherOrder", "NameTaken", "NameMissing", "NameUsed", "NotEquivalent", "NothingToUndo", "Busy", "TooLarge", "TooDeep", "TooLong", "TooManyCases", "TooManyDefinitions", "TooShort"] : List Str).getD i ""
def bnm (i : Nat) : Str := (["InputError", "ProgramError", "LibraryError", "SizeError"] : List Str).getD i ""
def tnm (i : Nat) : String := (["ValueError", "TypeError", "LookupError", "ArithmeticError"] : List String).getD i ""
/-- the base's place -/
def grp (i : Nat) : Nat := if i < 13 then 0 else if i < 16 then 1 else if i < 22 then 2 else 3
def fld (i : Nat) : Str := if i < 9 then "value" else if i < 14 then "index" else if i < 20 then "value" else "limit"
/-- made without arguments -/
def bare (i : Nat) : Bool := i == 14 || i == 15 || i == 20 || i == 21
structure T7 (K : PySem.W.Frag) (mg : Str → Option Value) (c cb : Nat → Addr) : Prop where
  g : ∀ i, i < 28 → mg (nm i) = some (.ref (c i))
  gb : ∀ b, b < 4 → mg (bnm b) = some (.ref (cb b))
  gt : ∀ b, b < 4 → mg (tnm b) = none
  iss : mg "isinstance" = none
  rep : mg "repr" = none
  err : ∀ i, i < 28 → bare i = false → ErrAll K (c i) (fld i)
  non : ∀ i, i < 28 → bare i = true → ErrNon K (c i)
  isc : ∀ i, i < 28 → IsC K (c i)
  isf : IsF K
  kit : ∀ i j, i < 28 → j < 28 → PySem.W.kitOne K (.ref (c i)) (.ref (c j)) = some (decide (i = j))
  kitb : ∀ i b, i < 28 → b < 4 → PySem.W.kitOne K (.ref (c i)) (.ref (cb b)) = some (decide (grp i = b))
  kitt : ∀ i b, i < 28 → b < 4 → PySem.W.kitOne K (.ref (c i)) (.type (tnm b)) = some (decide (grp i = b))
/-! ### many at once -/
/-- what stands at the addresses -/
def Errs (c : Nat → Addr) (H : Hp) (f : Str) (v : V) (as : List Addr) (is : List Nat) : Prop := Paired (fun a i => ErrAt H a (c i) f v) as is
theorem Errs.same {c : Nat → Addr} {H H' : Hp} {f : Str} {v : V} {as : List Addr} {is : List Nat} (s : Same H H') (h : Errs c H f v as is) : Errs c H' f v as is := Paired.mapP h fun a i e => e.same s
theorem Errs.app {c : Nat → Addr} {H : Hp} {f : Str} {v : V} : ∀ {as bs : List Addr} {is js : List Nat}, Errs c H f v as is → Errs c H f v bs js → Errs c H f v (as ++ bs) (is ++ js)
  | _, _, _, _, .nil, t => t
  | _, _, _, _, .cons r h, t => .cons r (Errs.app h t)
def tErrs (c : Nat → Addr) (f : Str) : List Nat → TA
  | [] => tNil
  | i :: is => tCons (tErr (c i) f (tVar 0)) (tErrs c f is)
theorem errs_ok {c : Nat → Addr} {f : Str} {v : V} {σ : St} (hσ : σ[0]? = some (some v)) : ∀ (is : List Nat) (H : Hp) (Q : List V → Hp → Prop),
    (∀ (as : List Addr) (H' : Hp), Same H H' → Errs c H' f v as is → Q (as.map V.ref) H') → tErrs c f is σ H Q
  | [], H, Q, h => h [] H (fun _ _ e => e) .nil
  | i :: is, H, Q, h => by
    refine ⟨v, hσ, fun a H1 s1 n1 e1 => ?_⟩
    refine errs_ok hσ is H1 _ fun as H2 s2 e2 => ?_
    exact h (a :: as) H2 (fun b o q => s2 b o (s1 b o q)) (.cons (e1.same s2) e2)
theorem Errs.len {c : Nat → Addr} {H : Hp} {f : Str} {v : V} {as : List Addr} {is : List Nat} (h : Errs c H f v as is) : as.length = is.length := Paired.length h
theorem errs_line {c : Nat → Addr} {H : Hp} {f : Str} {v : V} {as : List Addr} {is : List Nat} (h : Errs c H f v as is) (hl : is.length ≤ 1000) : (as.map V.ref).length ≤ sizeLine := by
  rw [List.length_map, h.len]
  exact Nat.le_of_lt (small1000 hl)
/-- a list of new errors -/
theorem lst_step {c : Nat → Addr} {f : Str} {v : V} {σ : St} {is : List Nat} {H : Hp} {Q : VK} (hσ : σ[0]? = some (some v)) (hl : is.length ≤ 1000)
    (h : ∀ (H' : Hp) (p : Addr) (as : List Addr), Same H H' → H' p = some (.lst (as.map V.ref)) → Errs c H' f v as is → Q (.ref p) H') : tLst (tErrs c f is) σ H Q := by
  refine errs_ok hσ is H _ fun as H1 s1 e1 => ⟨errs_line e1 hl, fun p np => ?_⟩
  exact h _ p as (same_new s1 np) upd_same (e1.same (same_new (fun _ _ e => e) np))
/-- .. laid behind another one -/
theorem cat_step {c : Nat → Addr} {f : Str} {v : V} {σ : St} {is js : List Nat} {bs : List Addr} {j : Nat} {l : Addr} {H : Hp} {Q : VK} (hσ : σ[0]? = some (some v)) (hj : σ[j]? = some (some (.ref l))) (hL : H l = some (.lst (bs.map V.ref))) (hB : Errs c H f v bs js)
    (hl : js.length + is.length ≤ 1000)
    (h : ∀ (H' : Hp) (p : Addr) (as : List Addr), Same H H' → H' p = some (.lst (as.map V.ref)) → Errs c H' f v as (js ++ is) → Q (.ref p) H') : tOp rCat (tVar j) (tLst (tErrs c f is)) σ H Q := by
  refine ⟨_, hj, ?_⟩
  refine lst_step hσ (by omega) fun H1 p as s1 hp e1 => ?_
  have n1 := hB.len
  have n2 := e1.len
  refine ⟨l, p, _, _, rfl, rfl, s1 _ _ hL, hp, Nat.le_of_lt (small1000 (by rw [List.length_map, List.length_map, n1, n2]; omega)), fun p2 np2 => ?_⟩
  have s2 : Same H1 (upd H1 p2 (.lst (bs.map V.ref ++ as.map V.ref))) := same_new (fun _ _ e => e) np2
  refine h _ p2 (bs ++ as) (same_new s1 np2) ?_ (Errs.app ((hB.same s1).same s2) (e1.same s2))
  rw [upd_same, List.map_append]
/-- one list behind another -/
theorem cat2_step {c : Nat → Addr} {f : Str} {v : V} {σ : St} {is js : List Nat} {as bs : List Addr} {i j : Nat} {l m : Addr} {H : Hp} {Q : VK} (hi : σ[i]? = some (some (.ref l))) (hj : σ[j]? = some (some (.ref m))) (hL : H l = some (.lst (as.map V.ref))) (hA : Errs c H f v as is)
    (hM : H m = some (.lst (bs.map V.ref))) (hB : Errs c H f v bs js) (hl : is.length + js.length ≤ 1000)
    (h : ∀ (H' : Hp) (p : Addr) (cs : List Addr), Same H H' → H' p = some (.lst (cs.map V.ref)) → Errs c H' f v cs (is ++ js) → Q (.ref p) H') : tOp rCat (tVar i) (tVar j) σ H Q := by
  have n1 := hA.len
  have n2 := hB.len
  refine ⟨_, hi, _, hj, l, m, _, _, rfl, rfl, hL, hM, Nat.le_of_lt (small1000 (by rw [List.length_map, List.length_map, n1, n2]; omega)), fun p2 np2 => ?_⟩
  have s2 : Same H (upd H p2 (.lst (as.map V.ref ++ bs.map V.ref))) := same_new (fun _ _ e => e) np2
  refine h _ p2 (as ++ bs) s2 ?_ (Errs.app (hA.same s2) (hB.same s2))
  rw [upd_same, List.map_append]
theorem seq_set {te : TE} {i : Nat} {tb : TS} {D : Ends} {σ : St} {H : Hp} (h : te σ H (fun x H1 => tb D (σ.set i (some x)) H1)) : tSeq (tAsg te (gName i)) tb D σ H := h
theorem ret_tup {t : TA} {D : Ends} {σ : St} {H : Hp} (h : t σ H (fun xs H1 => xs.length ≤ sizeLine ∧ ∀ p, H1 p = none → D.rt (.ref p) (upd H1 p (.tup xs)))) : tRet (tTup t) D σ H := h
theorem cons_ {ta : TE} {tr : TA} {σ : St} {H : Hp} {Q : List V → Hp → Prop} (h : ta σ H fun x H1 => tr σ H1 fun xs H2 => Q (x :: xs) H2) : tCons ta tr σ H Q := h
theorem same_trans {H H1 H2 : Hp} (a : Same H H1) (b : Same H1 H2) : Same H H2 := fun x o e => b x o (a x o e)
/-- isinstance(e, ..), many -/
def tIsi (K : PySem.W.Frag) (te : TE) : TE := tCB (rIsErr K) (tCons (tVar 0) (tCons te tNil))
def tIsis (K : PySem.W.Frag) : List V → TA
  | [] => tNil
  | c :: cs => tCons (tIsi K (tC c)) (tIsis K cs)
theorem isis_ok {K : PySem.W.Frag} {σ : St} {H : Hp} {a C : Addr} (hσ : σ[0]? = some (some (.ref a))) (he : ErrIs H a C) (hc : IsC K C) : ∀ (cs : List V) (us : List Value) (bs : List Bool) (Q : List V → Hp → Prop),
    Paired (fun c u => ∀ z, RelV c z → z = u) cs us → us.map (fun u => PySem.W.kitOne K (.ref C) u) = bs.map some → Q (bs.map V.bl) H → tIsis K cs σ H Q
  | [], _, bs, Q, .nil, e, q => by
    cases bs with
    | nil => exact q
    | cons _ _ => cases e
  | c :: cs, _, bs, Q, .cons r rs, e, q => by
    cases bs with
    | nil => cases e
    | cons b bs =>
      obtain ⟨e1, e2⟩ := List.cons.inj e
      exact ⟨_, hσ, a, C, c, _, b, rfl, he, hc, r, e1, isis_ok hσ he hc cs _ bs _ rs e2 q⟩
section
variable {P : Program} {w : World} {K : PySem.W.Frag} {mg : Str → Option Value} {base : Heap} {c cb : Nat → Addr}
abbrev sIn : Stmt := top 44
abbrev sOth : Stmt := top 45
abbrev sIns : Stmt := top 46
abbrev sBas : Stmt := top 47
def spIn (c : Nat → Addr) : Sp := fun vs H Q _ => ∃ v, vs = [v] ∧ ∀ (H' : Hp) (p l1 l2 : Addr) (as1 as2 : List Addr), Same H H' → H' p = some (.tup [.ref l1, .ref l2]) → H' l1 = some (.lst (as1.map V.ref)) → H' l2 = some (.lst (as2.map V.ref)) →
  Errs c H' "value" v as1 [0, 1, 2, 3, 4, 5, 6, 7, 8, 0, 1, 2, 3, 4, 5, 6, 7, 8] → Errs c H' "index" v as2 [9, 10, 11, 12, 9, 10, 11, 12] → Q (.ref p) H'
def spOth (c : Nat → Addr) : Sp := fun vs H Q _ => ∃ v, vs = [v] ∧ ∀ (H' : Hp) (p l1 l2 : Addr) (as1 as2 : List Addr), Same H H' → H' p = some (.tup [.ref l1, .ref l2]) → H' l1 = some (.lst (as1.map V.ref)) → H' l2 = some (.lst (as2.map V.ref)) →
  Errs c H' "value" v as1 [16, 17, 18, 19, 16, 17, 18, 19] → Errs c H' "limit" v as2 [22, 23, 24, 25, 26, 27, 22, 23, 24, 25, 26, 27] → Q (.ref p) H'
/-- the count of the classes: one -/
def spIns (c : Nat → Addr) : Sp := fun vs H Q _ => ∃ (a : Addr) (i : Nat), vs = [.ref a] ∧ i < 28 ∧ ErrIs H a (c i) ∧ ∀ H', Same H H' → Q (.int 1) H'
def spBas (c : Nat → Addr) : Sp := fun vs H Q _ => ∃ (a : Addr) (i : Nat), vs = [.ref a] ∧ i < 28 ∧ ErrIs H a (c i) ∧ ∀ (H' : Hp) (p : Addr), Same H H' → H p = none → H' p = some (.lst [.int (grp i), .int (grp i + 4)]) → Q (.ref p) H'
theorem scIn : FnScope ["_law_thing", "_law_one_here", "_law_two", "_law_three", "_law_four"] ["_law_thing"] (defScope sIn) := ⟨rfl, rfl, rfl, by decide +kernel, rfl, by decide +kernel, by decide +kernel⟩
theorem ok_in {f : Addr} {fd : FuncData} (F : Fun K "_law_input_errors" "_law_input_errors" sIn f fd) (T : T7 K mg c cb) : FnOk P w K mg base CX0 1 f fd ["_law_thing"] (spIn c) := by
  refine F.ok scIn (fun vs H Q E h => ?_) (fun cdv A outer s H vs Q E hr h => ?_)
  · obtain ⟨v, rfl, _⟩ := h
    rfl
  · obtain ⟨v, rfl, q⟩ := h
    refine ⟨_, (pss_cons (ps_set (i := 1) scIn.nd rfl (.inl rfl) (pe_lst (t := tErrs c "value" [0, 1, 2, 3]) (pa_cons (pe_errA (T.err 0 (by decide) rfl) (T.g 0 (by decide)) hr rfl (pv 0)) (pa_cons (pe_errA (T.err 1 (by decide) rfl) (T.g 1 (by decide)) hr rfl (pv 0)) (pa_cons (pe_errA (T.err 2 (by decide) rfl) (T.g 2 (by decide)) hr rfl (pv 0)) (pa_cons (pe_errA (T.err 3 (by decide) rfl) (T.g 3 (by decide)) hr rfl (pv 0)) pa_nil))))))
      (pss_cons (ps_set (i := 1) scIn.nd rfl (.inl rfl) (pe_op op_cat (pv 1) (pe_lst (t := tErrs c "value" [4, 5, 6, 7]) (pa_cons (pe_errA (T.err 4 (by decide) rfl) (T.g 4 (by decide)) hr rfl (pv 0)) (pa_cons (pe_errA (T.err 5 (by decide) rfl) (T.g 5 (by decide)) hr rfl (pv 0)) (pa_cons (pe_errA (T.err 6 (by decide) rfl) (T.g 6 (by decide)) hr rfl (pv 0)) (pa_cons (pe_errA (T.err 7 (by decide) rfl) (T.g 7 (by decide)) hr rfl (pv 0)) pa_nil)))))))
      (pss_cons (ps_set (i := 1) scIn.nd rfl (.inl rfl) (pe_op op_cat (pv 1) (pe_lst (t := tErrs c "value" [8]) (pa_cons (pe_errA (T.err 8 (by decide) rfl) (T.g 8 (by decide)) hr rfl (pv 0)) pa_nil))))
      (pss_cons (ps_set (i := 2) scIn.nd rfl (.inl rfl) (pe_lst (t := tErrs c "value" [0, 1, 2]) (pa_cons (pe_errAK (T.err 0 (by decide) rfl) (T.g 0 (by decide)) hr rfl (pv 0)) (pa_cons (pe_errAK (T.err 1 (by decide) rfl) (T.g 1 (by decide)) hr rfl (pv 0)) (pa_cons (pe_errAK (T.err 2 (by decide) rfl) (T.g 2 (by decide)) hr rfl (pv 0)) pa_nil)))))
      (pss_cons (ps_set (i := 2) scIn.nd rfl (.inl rfl) (pe_op op_cat (pv 2) (pe_lst (t := tErrs c "value" [3, 4, 5]) (pa_cons (pe_errAK (T.err 3 (by decide) rfl) (T.g 3 (by decide)) hr rfl (pv 0)) (pa_cons (pe_errAK (T.err 4 (by decide) rfl) (T.g 4 (by decide)) hr rfl (pv 0)) (pa_cons (pe_errAK (T.err 5 (by decide) rfl) (T.g 5 (by decide)) hr rfl (pv 0)) pa_nil))))))
      (pss_cons (ps_set (i := 2) scIn.nd rfl (.inl rfl) (pe_op op_cat (pv 2) (pe_lst (t := tErrs c "value" [6, 7, 8]) (pa_cons (pe_errAK (T.err 6 (by decide) rfl) (T.g 6 (by decide)) hr rfl (pv 0)) (pa_cons (pe_errAK (T.err 7 (by decide) rfl) (T.g 7 (by decide)) hr rfl (pv 0)) (pa_cons (pe_errAK (T.err 8 (by decide) rfl) (T.g 8 (by decide)) hr rfl (pv 0)) pa_nil))))))
      (pss_cons (ps_set (i := 3) scIn.nd rfl (.inl rfl) (pe_lst (t := tErrs c "index" [9, 10, 11, 12]) (pa_cons (pe_errA (T.err 9 (by decide) rfl) (T.g 9 (by decide)) hr rfl (pv 0)) (pa_cons (pe_errA (T.err 10 (by decide) rfl) (T.g 10 (by decide)) hr rfl (pv 0)) (pa_cons (pe_errA (T.err 11 (by decide) rfl) (T.g 11 (by decide)) hr rfl (pv 0)) (pa_cons (pe_errA (T.err 12 (by decide) rfl) (T.g 12 (by decide)) hr rfl (pv 0)) pa_nil))))))
      (pss_cons (ps_set (i := 4) scIn.nd rfl (.inl rfl) (pe_lst (t := tErrs c "index" [9, 10, 11]) (pa_cons (pe_errAK (T.err 9 (by decide) rfl) (T.g 9 (by decide)) hr rfl (pv 0)) (pa_cons (pe_errAK (T.err 10 (by decide) rfl) (T.g 10 (by decide)) hr rfl (pv 0)) (pa_cons (pe_errAK (T.err 11 (by decide) rfl) (T.g 11 (by decide)) hr rfl (pv 0)) pa_nil)))))
      (pss_cons (ps_set (i := 4) scIn.nd rfl (.inl rfl) (pe_op op_cat (pv 4) (pe_lst (t := tErrs c "index" [12]) (pa_cons (pe_errAK (T.err 12 (by decide) rfl) (T.g 12 (by decide)) hr rfl (pv 0)) pa_nil))))
      (pss_one (ps_ret (pe_tup (pa_cons (pe_op op_cat (pv 1) (pv 2)) (pa_cons (pe_op op_cat (pv 3) (pv 4)) pa_nil)))))))))))))), ?_⟩
    refine seq_set (lst_step (v := v) rfl (by decide) fun H1 l1 a1 s1 h1 e1 => ?_)
    refine seq_set (cat_step (v := v) rfl rfl h1 e1 (by decide) fun H2 l2 a2 s2 h2 e2 => ?_)
    refine seq_set (cat_step (v := v) rfl rfl h2 e2 (by decide) fun H3 l3 a3 s3 h3 e3 => ?_)
    refine seq_set (lst_step (v := v) rfl (by decide) fun H4 l4 a4 s4 h4 e4 => ?_)
    refine seq_set (cat_step (v := v) rfl rfl h4 e4 (by decide) fun H5 l5 a5 s5 h5 e5 => ?_)
    refine seq_set (cat_step (v := v) rfl rfl h5 e5 (by decide) fun H6 l6 a6 s6 h6 e6 => ?_)
    refine seq_set (lst_step (v := v) rfl (by decide) fun H7 l7 a7 s7 h7 e7 => ?_)
    refine seq_set (lst_step (v := v) rfl (by decide) fun H8 l8 a8 s8 h8 e8 => ?_)
    refine seq_set (cat_step (v := v) rfl rfl h8 e8 (by decide) fun H9 l9 a9 s9 h9 e9 => ?_)
    have t69 : Same H6 H9 := same_trans s7 (same_trans s8 s9)
    have t39 : Same H3 H9 := same_trans s4 (same_trans s5 (same_trans s6 t69))
    have t79 : Same H7 H9 := same_trans s8 s9
    refine ret_tup (cons_ (cat2_step (v := v) rfl rfl (t39 _ _ h3) (e3.same t39) (t69 _ _ h6) (e6.same t69) (by decide) fun Ha la aa sa ha ea => ?_))
    refine cons_ (cat2_step (v := v) rfl rfl (sa _ _ (t79 _ _ h7)) ((e7.same t79).same sa) (sa _ _ h9) (e9.same sa) (by decide) fun Hb lb ab sb hb eb => ?_)
    refine ⟨(by show 2 ≤ sizeLine; decide), fun p np => ?_⟩
    have sp : Same Hb (upd Hb p (.tup [.ref la, .ref lb])) := same_new (fun _ _ e => e) np
    have s0 : Same H H9 := same_trans s1 (same_trans s2 (same_trans s3 t39))
    exact q _ p la lb aa ab (same_trans s0 (same_trans sa (same_trans sb sp))) upd_same (sp _ _ (sb _ _ ha)) (sp _ _ hb) ((ea.same sb).same sp) (eb.same sp)
theorem scOth : FnScope ["_law_thing", "_law_one_here", "_law_two", "_law_three", "_law_four"] ["_law_thing"] (defScope sOth) := ⟨rfl, rfl, rfl, by decide +kernel, rfl, by decide +kernel, by decide +kernel⟩
theorem ok_oth {f : Addr} {fd : FuncData} (F : Fun K "_law_other_errors" "_law_other_errors" sOth f fd) (T : T7 K mg c cb) : FnOk P w K mg base CX0 1 f fd ["_law_thing"] (spOth c) := by
  refine F.ok scOth (fun vs H Q E h => ?_) (fun cdv A outer s H vs Q E hr h => ?_)
  · obtain ⟨v, rfl, _⟩ := h
    rfl
  · obtain ⟨v, rfl, q⟩ := h
    refine ⟨_, (pss_cons (ps_set (i := 1) scOth.nd rfl (.inl rfl) (pe_lst (t := tErrs c "value" [16, 17, 18, 19]) (pa_cons (pe_errA (T.err 16 (by decide) rfl) (T.g 16 (by decide)) hr rfl (pv 0)) (pa_cons (pe_errA (T.err 17 (by decide) rfl) (T.g 17 (by decide)) hr rfl (pv 0)) (pa_cons (pe_errA (T.err 18 (by decide) rfl) (T.g 18 (by decide)) hr rfl (pv 0)) (pa_cons (pe_errA (T.err 19 (by decide) rfl) (T.g 19 (by decide)) hr rfl (pv 0)) pa_nil))))))
      (pss_cons (ps_set (i := 2) scOth.nd rfl (.inl rfl) (pe_lst (t := tErrs c "value" [16, 17, 18]) (pa_cons (pe_errAK (T.err 16 (by decide) rfl) (T.g 16 (by decide)) hr rfl (pv 0)) (pa_cons (pe_errAK (T.err 17 (by decide) rfl) (T.g 17 (by decide)) hr rfl (pv 0)) (pa_cons (pe_errAK (T.err 18 (by decide) rfl) (T.g 18 (by decide)) hr rfl (pv 0)) pa_nil)))))
      (pss_cons (ps_set (i := 2) scOth.nd rfl (.inl rfl) (pe_op op_cat (pv 2) (pe_lst (t := tErrs c "value" [19]) (pa_cons (pe_errAK (T.err 19 (by decide) rfl) (T.g 19 (by decide)) hr rfl (pv 0)) pa_nil))))
      (pss_cons (ps_set (i := 3) scOth.nd rfl (.inl rfl) (pe_lst (t := tErrs c "limit" [22, 23, 24, 25]) (pa_cons (pe_errA (T.err 22 (by decide) rfl) (T.g 22 (by decide)) hr rfl (pv 0)) (pa_cons (pe_errA (T.err 23 (by decide) rfl) (T.g 23 (by decide)) hr rfl (pv 0)) (pa_cons (pe_errA (T.err 24 (by decide) rfl) (T.g 24 (by decide)) hr rfl (pv 0)) (pa_cons (pe_errA (T.err 25 (by decide) rfl) (T.g 25 (by decide)) hr rfl (pv 0)) pa_nil))))))
      (pss_cons (ps_set (i := 3) scOth.nd rfl (.inl rfl) (pe_op op_cat (pv 3) (pe_lst (t := tErrs c "limit" [26, 27]) (pa_cons (pe_errA (T.err 26 (by decide) rfl) (T.g 26 (by decide)) hr rfl (pv 0)) (pa_cons (pe_errA (T.err 27 (by decide) rfl) (T.g 27 (by decide)) hr rfl (pv 0)) pa_nil)))))
      (pss_cons (ps_set (i := 4) scOth.nd rfl (.inl rfl) (pe_lst (t := tErrs c "limit" [22, 23, 24, 25]) (pa_cons (pe_errAK (T.err 22 (by decide) rfl) (T.g 22 (by decide)) hr rfl (pv 0)) (pa_cons (pe_errAK (T.err 23 (by decide) rfl) (T.g 23 (by decide)) hr rfl (pv 0)) (pa_cons (pe_errAK (T.err 24 (by decide) rfl) (T.g 24 (by decide)) hr rfl (pv 0)) (pa_cons (pe_errAK (T.err 25 (by decide) rfl) (T.g 25 (by decide)) hr rfl (pv 0)) pa_nil))))))
      (pss_cons (ps_set (i := 4) scOth.nd rfl (.inl rfl) (pe_op op_cat (pv 4) (pe_lst (t := tErrs c "limit" [26, 27]) (pa_cons (pe_errAK (T.err 26 (by decide) rfl) (T.g 26 (by decide)) hr rfl (pv 0)) (pa_cons (pe_errAK (T.err 27 (by decide) rfl) (T.g 27 (by decide)) hr rfl (pv 0)) pa_nil)))))
      (pss_one (ps_ret (pe_tup (pa_cons (pe_op op_cat (pv 1) (pv 2)) (pa_cons (pe_op op_cat (pv 3) (pv 4)) pa_nil)))))))))))), ?_⟩
    refine seq_set (lst_step (v := v) rfl (by decide) fun H1 l1 a1 s1 h1 e1 => ?_)
    refine seq_set (lst_step (v := v) rfl (by decide) fun H2 l2 a2 s2 h2 e2 => ?_)
    refine seq_set (cat_step (v := v) rfl rfl h2 e2 (by decide) fun H3 l3 a3 s3 h3 e3 => ?_)
    refine seq_set (lst_step (v := v) rfl (by decide) fun H4 l4 a4 s4 h4 e4 => ?_)
    refine seq_set (cat_step (v := v) rfl rfl h4 e4 (by decide) fun H5 l5 a5 s5 h5 e5 => ?_)
    refine seq_set (lst_step (v := v) rfl (by decide) fun H6 l6 a6 s6 h6 e6 => ?_)
    refine seq_set (cat_step (v := v) rfl rfl h6 e6 (by decide) fun H7 l7 a7 s7 h7 e7 => ?_)
    have t57 : Same H5 H7 := same_trans s6 s7
    have t37 : Same H3 H7 := same_trans s4 (same_trans s5 t57)
    have t17 : Same H1 H7 := same_trans s2 (same_trans s3 t37)
    refine ret_tup (cons_ (cat2_step (v := v) rfl rfl (t17 _ _ h1) (e1.same t17) (t37 _ _ h3) (e3.same t37) (by decide) fun Ha la aa sa ha ea => ?_))
    refine cons_ (cat2_step (v := v) rfl rfl (sa _ _ (t57 _ _ h5)) ((e5.same t57).same sa) (sa _ _ h7) (e7.same sa) (by decide) fun Hb lb ab sb hb eb => ?_)
    refine ⟨(by show 2 ≤ sizeLine; decide), fun p np => ?_⟩
    have sp : Same Hb (upd Hb p (.tup [.ref la, .ref lb])) := same_new (fun _ _ e => e) np
    have s0 : Same H H7 := same_trans s1 t17
    exact q _ p la lb aa ab (same_trans s0 (same_trans sa (same_trans sb sp))) upd_same (sp _ _ (sb _ _ ha)) (sp _ _ hb) ((ea.same sb).same sp) (eb.same sp)
end
end SQ7
namespace SQ7
open PySem L2 SQ
def bits (i : Nat) (js : List Nat) : List Bool := js.map fun j => decide (i = j)
theorem one_true : ∀ i, i < 28 → (bits i [0, 1, 2, 3, 4, 5, 6, 7, 8, 9, 10, 11, 12, 13, 14, 15, 16, 17, 18, 19, 20, 21, 22, 23, 24, 25, 26, 27]).count true = 1 := by decide
/-- isinstance's answers as a new list -/
theorem isB_step {K : PySem.W.Frag} {σ : St} {H : Hp} {Q : VK} {a C : Addr} {cs : List V} (us : List Value) (bs : List Bool) (hσ : σ[0]? = some (some (.ref a))) (he : ErrIs H a C) (hc : IsC K C) (hp : Paired (fun c u => ∀ z, RelV c z → z = u) cs us)
    (hk : us.map (fun u => PySem.W.kitOne K (.ref C) u) = bs.map some) (hl : bs.length ≤ 1000) (h : ∀ (H' : Hp) (p : Addr), Same H H' → H' p = some (.lst (bs.map V.bl)) → Q (.ref p) H') : tLst (tIsis K cs) σ H Q := by
  refine isis_ok hσ he hc cs us bs _ hp hk ⟨Nat.le_of_lt (small1000 (by rw [List.length_map]; exact hl)), fun p np => ?_⟩
  exact h _ p (same_new (fun _ _ e => e) np) upd_same
theorem isBc_step {K : PySem.W.Frag} {σ : St} {H : Hp} {Q : VK} {a C l : Addr} {cs : List V} {j : Nat} {ds : List Bool} (us : List Value) (bs : List Bool) (hσ : σ[0]? = some (some (.ref a))) (hj : σ[j]? = some (some (.ref l))) (hL : H l = some (.lst (ds.map V.bl))) (he : ErrIs H a C) (hc : IsC K C)
    (hp : Paired (fun c u => ∀ z, RelV c z → z = u) cs us) (hk : us.map (fun u => PySem.W.kitOne K (.ref C) u) = bs.map some) (hl : ds.length + bs.length ≤ 1000)
    (h : ∀ (H' : Hp) (p : Addr), Same H H' → H' p = some (.lst ((ds ++ bs).map V.bl)) → Q (.ref p) H') : tOp rCat (tVar j) (tLst (tIsis K cs)) σ H Q := by
  refine ⟨_, hj, ?_⟩
  refine isB_step us bs hσ he hc hp hk (by omega) fun H1 p s1 hp => ?_
  refine ⟨l, p, _, _, rfl, rfl, s1 _ _ hL, hp, Nat.le_of_lt (small1000 (by rw [List.length_map, List.length_map]; omega)), fun p2 np2 => ?_⟩
  refine h _ p2 (same_new s1 np2) ?_
  rw [upd_same, List.map_append]
theorem own_rel {c : Nat → Addr} : ∀ js : List Nat, Paired (fun c u => ∀ z, RelV c z → z = u) (js.map fun j => V.ref (c j)) (js.map fun j => Value.ref (c j))
  | [] => .nil
  | j :: js => .cons (fun z h => h) (own_rel js)
theorem own_kit {K : PySem.W.Frag} {c : Nat → Addr} (kit : ∀ i j, i < 28 → j < 28 → PySem.W.kitOne K (.ref (c i)) (.ref (c j)) = some (decide (i = j))) {i : Nat} (hi : i < 28) : ∀ js : List Nat, js.all (· < 28) = true →
    (js.map fun j => Value.ref (c j)).map (fun u => PySem.W.kitOne K (.ref (c i)) u) = (bits i js).map some
  | [], _ => rfl
  | j :: js, h => by
    rw [List.all_cons, Bool.and_eq_true] at h
    show PySem.W.kitOne K (.ref (c i)) (.ref (c j)) :: _ = some (decide (i = j)) :: _
    rw [kit i j hi (of_decide_eq_true h.1), own_kit kit hi js h.2]
    rfl
theorem isl_step {K : PySem.W.Frag} {c : Nat → Addr} (kit : ∀ i j, i < 28 → j < 28 → PySem.W.kitOne K (.ref (c i)) (.ref (c j)) = some (decide (i = j))) {σ : St} {H : Hp} {Q : VK} {a : Addr} {i : Nat} {js : List Nat} (hc : IsC K (c i)) (hi : i < 28)
    (hσ : σ[0]? = some (some (.ref a))) (he : ErrIs H a (c i)) (hb : (js.all (· < 28) && decide (js.length ≤ 1000)) = true) (h : ∀ (H' : Hp) (p : Addr), Same H H' → H' p = some (.lst ((bits i js).map V.bl)) → Q (.ref p) H') : tLst (tIsis K (js.map fun j => V.ref (c j))) σ H Q := by
  rw [Bool.and_eq_true] at hb
  refine isB_step _ (bits i js) hσ he hc (own_rel js) (own_kit kit hi js hb.1) ?_ h
  unfold bits
  rw [List.length_map]
  exact of_decide_eq_true hb.2
theorem isc_step {K : PySem.W.Frag} {c : Nat → Addr} (kit : ∀ i j, i < 28 → j < 28 → PySem.W.kitOne K (.ref (c i)) (.ref (c j)) = some (decide (i = j))) {σ : St} {H : Hp} {Q : VK} {a l : Addr} {i n : Nat} {js ks : List Nat} (hc : IsC K (c i)) (hi : i < 28)
    (hσ : σ[0]? = some (some (.ref a))) (hj : σ[n]? = some (some (.ref l))) (he : ErrIs H a (c i)) (hL : H l = some (.lst ((bits i ks).map V.bl))) (hb : (js.all (· < 28) && decide (ks.length + js.length ≤ 1000)) = true)
    (h : ∀ (H' : Hp) (p : Addr), Same H H' → H' p = some (.lst ((bits i (ks ++ js)).map V.bl)) → Q (.ref p) H') : tOp rCat (tVar n) (tLst (tIsis K (js.map fun j => V.ref (c j)))) σ H Q := by
  rw [Bool.and_eq_true] at hb
  refine isBc_step _ (bits i js) hσ hj hL he hc (own_rel js) (own_kit kit hi js hb.1) ?_ ?_
  · unfold bits
    rw [List.length_map, List.length_map]
    exact of_decide_eq_true hb.2
  · intro H' p s' hp
    refine h H' p s' ?_
    unfold bits at hp ⊢
    rw [hp]
    simp only [List.map_append]
section
variable {P : Program} {w : World} {K : PySem.W.Frag} {mg : Str → Option Value} {base : Heap} {c cb : Nat → Addr}
theorem scIns : FnScope ["_law_e", "_law_seen"] ["_law_e"] (defScope sIns) := ⟨rfl, rfl, rfl, by decide +kernel, rfl, by decide +kernel, by decide +kernel⟩
theorem ok_ins {f : Addr} {fd : FuncData} (F : Fun K "_law_instances" "_law_instances" sIns f fd) (T : T7 K mg c cb) : FnOk P w K mg base CX0 1 f fd ["_law_e"] (spIns c) := by
  refine F.ok scIns (fun vs H Q E h => ?_) (fun cdv A outer s H vs Q E hr h => ?_)
  · obtain ⟨a, i, rfl, _⟩ := h
    rfl
  · obtain ⟨a, i, rfl, hi, he, q⟩ := h
    refine ⟨_, (pss_cons (ps_set (i := 1) scIns.nd rfl (.inl rfl) (pe_lst (t := tIsis K ([0, 1, 2].map fun j => V.ref (c j))) (pa_cons (pe_callB (cr_isErr T.isf) (by rfl) T.iss (by decide +kernel) (pa_cons (pv 0) (pa_cons (pe_glob (v := .ref (c 0)) rfl (T.g 0 (by decide)) rfl) pa_nil))) (pa_cons (pe_callB (cr_isErr T.isf) (by rfl) T.iss (by decide +kernel) (pa_cons (pv 0) (pa_cons (pe_glob (v := .ref (c 1)) rfl (T.g 1 (by decide)) rfl) pa_nil))) (pa_cons (pe_callB (cr_isErr T.isf) (by rfl) T.iss (by decide +kernel) (pa_cons (pv 0) (pa_cons (pe_glob (v := .ref (c 2)) rfl (T.g 2 (by decide)) rfl) pa_nil))) pa_nil)))))
      (pss_cons (ps_set (i := 1) scIns.nd rfl (.inl rfl) (pe_op op_cat (pv 1) (pe_lst (t := tIsis K ([3, 4, 5].map fun j => V.ref (c j))) (pa_cons (pe_callB (cr_isErr T.isf) (by rfl) T.iss (by decide +kernel) (pa_cons (pv 0) (pa_cons (pe_glob (v := .ref (c 3)) rfl (T.g 3 (by decide)) rfl) pa_nil))) (pa_cons (pe_callB (cr_isErr T.isf) (by rfl) T.iss (by decide +kernel) (pa_cons (pv 0) (pa_cons (pe_glob (v := .ref (c 4)) rfl (T.g 4 (by decide)) rfl) pa_nil))) (pa_cons (pe_callB (cr_isErr T.isf) (by rfl) T.iss (by decide +kernel) (pa_cons (pv 0) (pa_cons (pe_glob (v := .ref (c 5)) rfl (T.g 5 (by decide)) rfl) pa_nil))) pa_nil))))))
      (pss_cons (ps_set (i := 1) scIns.nd rfl (.inl rfl) (pe_op op_cat (pv 1) (pe_lst (t := tIsis K ([6, 7, 8].map fun j => V.ref (c j))) (pa_cons (pe_callB (cr_isErr T.isf) (by rfl) T.iss (by decide +kernel) (pa_cons (pv 0) (pa_cons (pe_glob (v := .ref (c 6)) rfl (T.g 6 (by decide)) rfl) pa_nil))) (pa_cons (pe_callB (cr_isErr T.isf) (by rfl) T.iss (by decide +kernel) (pa_cons (pv 0) (pa_cons (pe_glob (v := .ref (c 7)) rfl (T.g 7 (by decide)) rfl) pa_nil))) (pa_cons (pe_callB (cr_isErr T.isf) (by rfl) T.iss (by decide +kernel) (pa_cons (pv 0) (pa_cons (pe_glob (v := .ref (c 8)) rfl (T.g 8 (by decide)) rfl) pa_nil))) pa_nil))))))
      (pss_cons (ps_set (i := 1) scIns.nd rfl (.inl rfl) (pe_op op_cat (pv 1) (pe_lst (t := tIsis K ([9, 10, 11].map fun j => V.ref (c j))) (pa_cons (pe_callB (cr_isErr T.isf) (by rfl) T.iss (by decide +kernel) (pa_cons (pv 0) (pa_cons (pe_glob (v := .ref (c 9)) rfl (T.g 9 (by decide)) rfl) pa_nil))) (pa_cons (pe_callB (cr_isErr T.isf) (by rfl) T.iss (by decide +kernel) (pa_cons (pv 0) (pa_cons (pe_glob (v := .ref (c 10)) rfl (T.g 10 (by decide)) rfl) pa_nil))) (pa_cons (pe_callB (cr_isErr T.isf) (by rfl) T.iss (by decide +kernel) (pa_cons (pv 0) (pa_cons (pe_glob (v := .ref (c 11)) rfl (T.g 11 (by decide)) rfl) pa_nil))) pa_nil))))))
      (pss_cons (ps_set (i := 1) scIns.nd rfl (.inl rfl) (pe_op op_cat (pv 1) (pe_lst (t := tIsis K ([12, 13, 14].map fun j => V.ref (c j))) (pa_cons (pe_callB (cr_isErr T.isf) (by rfl) T.iss (by decide +kernel) (pa_cons (pv 0) (pa_cons (pe_glob (v := .ref (c 12)) rfl (T.g 12 (by decide)) rfl) pa_nil))) (pa_cons (pe_callB (cr_isErr T.isf) (by rfl) T.iss (by decide +kernel) (pa_cons (pv 0) (pa_cons (pe_glob (v := .ref (c 13)) rfl (T.g 13 (by decide)) rfl) pa_nil))) (pa_cons (pe_callB (cr_isErr T.isf) (by rfl) T.iss (by decide +kernel) (pa_cons (pv 0) (pa_cons (pe_glob (v := .ref (c 14)) rfl (T.g 14 (by decide)) rfl) pa_nil))) pa_nil))))))
      (pss_cons (ps_set (i := 1) scIns.nd rfl (.inl rfl) (pe_op op_cat (pv 1) (pe_lst (t := tIsis K ([15, 16, 17].map fun j => V.ref (c j))) (pa_cons (pe_callB (cr_isErr T.isf) (by rfl) T.iss (by decide +kernel) (pa_cons (pv 0) (pa_cons (pe_glob (v := .ref (c 15)) rfl (T.g 15 (by decide)) rfl) pa_nil))) (pa_cons (pe_callB (cr_isErr T.isf) (by rfl) T.iss (by decide +kernel) (pa_cons (pv 0) (pa_cons (pe_glob (v := .ref (c 16)) rfl (T.g 16 (by decide)) rfl) pa_nil))) (pa_cons (pe_callB (cr_isErr T.isf) (by rfl) T.iss (by decide +kernel) (pa_cons (pv 0) (pa_cons (pe_glob (v := .ref (c 17)) rfl (T.g 17 (by decide)) rfl) pa_nil))) pa_nil))))))
      (pss_cons (ps_set (i := 1) scIns.nd rfl (.inl rfl) (pe_op op_cat (pv 1) (pe_lst (t := tIsis K ([18, 19, 20].map fun j => V.ref (c j))) (pa_cons (pe_callB (cr_isErr T.isf) (by rfl) T.iss (by decide +kernel) (pa_cons (pv 0) (pa_cons (pe_glob (v := .ref (c 18)) rfl (T.g 18 (by decide)) rfl) pa_nil))) (pa_cons (pe_callB (cr_isErr T.isf) (by rfl) T.iss (by decide +kernel) (pa_cons (pv 0) (pa_cons (pe_glob (v := .ref (c 19)) rfl (T.g 19 (by decide)) rfl) pa_nil))) (pa_cons (pe_callB (cr_isErr T.isf) (by rfl) T.iss (by decide +kernel) (pa_cons (pv 0) (pa_cons (pe_glob (v := .ref (c 20)) rfl (T.g 20 (by decide)) rfl) pa_nil))) pa_nil))))))
      (pss_cons (ps_set (i := 1) scIns.nd rfl (.inl rfl) (pe_op op_cat (pv 1) (pe_lst (t := tIsis K ([21, 22, 23, 24].map fun j => V.ref (c j))) (pa_cons (pe_callB (cr_isErr T.isf) (by rfl) T.iss (by decide +kernel) (pa_cons (pv 0) (pa_cons (pe_glob (v := .ref (c 21)) rfl (T.g 21 (by decide)) rfl) pa_nil))) (pa_cons (pe_callB (cr_isErr T.isf) (by rfl) T.iss (by decide +kernel) (pa_cons (pv 0) (pa_cons (pe_glob (v := .ref (c 22)) rfl (T.g 22 (by decide)) rfl) pa_nil))) (pa_cons (pe_callB (cr_isErr T.isf) (by rfl) T.iss (by decide +kernel) (pa_cons (pv 0) (pa_cons (pe_glob (v := .ref (c 23)) rfl (T.g 23 (by decide)) rfl) pa_nil))) (pa_cons (pe_callB (cr_isErr T.isf) (by rfl) T.iss (by decide +kernel) (pa_cons (pv 0) (pa_cons (pe_glob (v := .ref (c 24)) rfl (T.g 24 (by decide)) rfl) pa_nil))) pa_nil)))))))
      (pss_cons (ps_set (i := 1) scIns.nd rfl (.inl rfl) (pe_op op_cat (pv 1) (pe_lst (t := tIsis K ([25, 26, 27].map fun j => V.ref (c j))) (pa_cons (pe_callB (cr_isErr T.isf) (by rfl) T.iss (by decide +kernel) (pa_cons (pv 0) (pa_cons (pe_glob (v := .ref (c 25)) rfl (T.g 25 (by decide)) rfl) pa_nil))) (pa_cons (pe_callB (cr_isErr T.isf) (by rfl) T.iss (by decide +kernel) (pa_cons (pv 0) (pa_cons (pe_glob (v := .ref (c 26)) rfl (T.g 26 (by decide)) rfl) pa_nil))) (pa_cons (pe_callB (cr_isErr T.isf) (by rfl) T.iss (by decide +kernel) (pa_cons (pv 0) (pa_cons (pe_glob (v := .ref (c 27)) rfl (T.g 27 (by decide)) rfl) pa_nil))) pa_nil))))))
      (pss_one (ps_ret (pe_bm PySem.F.plainAttrs_list PySem.F.slot_list_count PySem.F.type_list_count mt_bcount (pv 1) (pa_cons pe_bl pa_nil))))))))))))), ?_⟩
    refine seq_set (isl_step T.kit (T.isc i hi) hi rfl he (by decide) fun H1 l1 s1 h1 => ?_)
    refine seq_set (isc_step T.kit (T.isc i hi) hi rfl rfl (he.same s1) h1 (by decide) fun H2 l2 s2 h2 => ?_)
    have t2 : Same H H2 := same_trans s1 s2
    refine seq_set (isc_step T.kit (T.isc i hi) hi rfl rfl (he.same t2) h2 (by decide) fun H3 l3 s3 h3 => ?_)
    have t3 : Same H H3 := same_trans t2 s3
    refine seq_set (isc_step T.kit (T.isc i hi) hi rfl rfl (he.same t3) h3 (by decide) fun H4 l4 s4 h4 => ?_)
    have t4 : Same H H4 := same_trans t3 s4
    refine seq_set (isc_step T.kit (T.isc i hi) hi rfl rfl (he.same t4) h4 (by decide) fun H5 l5 s5 h5 => ?_)
    have t5 : Same H H5 := same_trans t4 s5
    refine seq_set (isc_step T.kit (T.isc i hi) hi rfl rfl (he.same t5) h5 (by decide) fun H6 l6 s6 h6 => ?_)
    have t6 : Same H H6 := same_trans t5 s6
    refine seq_set (isc_step T.kit (T.isc i hi) hi rfl rfl (he.same t6) h6 (by decide) fun H7 l7 s7 h7 => ?_)
    have t7 : Same H H7 := same_trans t6 s7
    refine seq_set (isc_step T.kit (T.isc i hi) hi rfl rfl (he.same t7) h7 (by decide) fun H8 l8 s8 h8 => ?_)
    have t8 : Same H H8 := same_trans t7 s8
    refine seq_set (isc_step T.kit (T.isc i hi) hi rfl rfl (he.same t8) h8 (by decide) fun H9 l9 s9 h9 => ?_)
    have t9 : Same H H9 := same_trans t8 s9
    refine ⟨_, rfl, .inl ⟨rfl, _, SqL.of h9⟩, l9, _, rfl, rfl, SqL.of h9, ?_⟩
    have e1 := one_true i hi
    have e2 : ((bits i ([0, 1, 2] ++ [3, 4, 5] ++ [6, 7, 8] ++ [9, 10, 11] ++ [12, 13, 14] ++ [15, 16, 17] ++ [18, 19, 20] ++ [21, 22, 23, 24] ++ [25, 26, 27])).count true : Nat) = 1 := e1
    rw [e2]
    exact q H9 t9
def bbits (i : Nat) : List Bool := [decide (grp i = 0), decide (grp i = 1), decide (grp i = 2), decide (grp i = 3), decide (grp i = 0), decide (grp i = 1), decide (grp i = 2), decide (grp i = 3)]
def outB (i k : Nat) : List V := ((List.range k).filter fun j => decide (grp i = j % 4)).map fun (j : Nat) => V.int (j : Int)
theorem bbits_at : ∀ i k, i < 28 → k < 8 → (bbits i)[k]? = some (decide (grp i = k % 4)) := by
  intro i k _ hk
  match k, hk with
  | 0, _ => rfl
  | 1, _ => rfl
  | 2, _ => rfl
  | 3, _ => rfl
  | 4, _ => rfl
  | 5, _ => rfl
  | 6, _ => rfl
  | 7, _ => rfl
theorem outB_end : ∀ i, i < 28 → outB i 8 = [.int (grp i), .int (grp i + 4)] := by decide
theorem outB_next (i k : Nat) : outB i (k + 1) = if decide (grp i = k % 4) = true then outB i k ++ [V.int (k : Int)] else outB i k := by
  unfold outB
  rw [List.range_succ, List.filter_append, List.map_append]
  by_cases h : grp i = k % 4
  · simp [h]
  · simp [h]
theorem outB_len (i k : Nat) : (outB i k).length ≤ k := by
  unfold outB
  rw [List.length_map]
  have h := List.length_filter_le (fun j => decide (grp i = j % 4)) (List.range k)
  rw [List.length_range] at h
  exact h
theorem scBas : FnScope ["_law_e", "_law_seen", "_law_k"] ["_law_e"] (defScope sBas) := ⟨rfl, rfl, rfl, by decide +kernel, rfl, by decide +kernel, by decide +kernel⟩
theorem ok_bas {f : Addr} {fd : FuncData} (F : Fun K "_law_bases" "_law_bases" sBas f fd) (T : T7 K mg c cb) (B : Blt mg) : FnOk P w K mg base CX0 1 f fd ["_law_e"] (spBas c) := by
  refine F.ok scBas (fun vs H Q E h => ?_) (fun cdv A outer s H vs Q E hr h => ?_)
  · obtain ⟨a, i, rfl, _⟩ := h
    rfl
  · obtain ⟨a, i, rfl, hi, he, q⟩ := h
    refine ⟨_, (pss_cons (ps_set (i := 1) scBas.nd rfl (.inr rfl) (pe_lst (t := tIsis K [.ref (cb 0), .ref (cb 1), .ref (cb 2)]) (pa_cons (pe_callB (cr_isErr T.isf) (by rfl) T.iss (by decide +kernel) (pa_cons (pv 0) (pa_cons (pe_glob (v := .ref (cb 0)) rfl (T.gb 0 (by decide)) rfl) pa_nil))) (pa_cons (pe_callB (cr_isErr T.isf) (by rfl) T.iss (by decide +kernel) (pa_cons (pv 0) (pa_cons (pe_glob (v := .ref (cb 1)) rfl (T.gb 1 (by decide)) rfl) pa_nil))) (pa_cons (pe_callB (cr_isErr T.isf) (by rfl) T.iss (by decide +kernel) (pa_cons (pv 0) (pa_cons (pe_glob (v := .ref (cb 2)) rfl (T.gb 2 (by decide)) rfl) pa_nil))) pa_nil)))))
      (pss_cons (ps_set (i := 1) scBas.nd rfl (.inr rfl) (pe_op op_cat (pv 1) (pe_lst (t := tIsis K [.ref (cb 3), .ty (tnm 0), .ty (tnm 1)]) (pa_cons (pe_callB (cr_isErr T.isf) (by rfl) T.iss (by decide +kernel) (pa_cons (pv 0) (pa_cons (pe_glob (v := .ref (cb 3)) rfl (T.gb 3 (by decide)) rfl) pa_nil))) (pa_cons (pe_callB (cr_isErr T.isf) (by rfl) T.iss (by decide +kernel) (pa_cons (pv 0) (pa_cons (pe_bltn (v := .ty (tnm 0)) (by rfl) (T.gt 0 (by decide)) (by decide +kernel) rfl) pa_nil))) (pa_cons (pe_callB (cr_isErr T.isf) (by rfl) T.iss (by decide +kernel) (pa_cons (pv 0) (pa_cons (pe_bltn (v := .ty (tnm 1)) (by rfl) (T.gt 1 (by decide)) (by decide +kernel) rfl) pa_nil))) pa_nil))))))
      (pss_cons (ps_set (i := 1) scBas.nd rfl (.inr rfl) (pe_op op_cat (pv 1) (pe_lst (t := tIsis K [.ty (tnm 2), .ty (tnm 3)]) (pa_cons (pe_callB (cr_isErr T.isf) (by rfl) T.iss (by decide +kernel) (pa_cons (pv 0) (pa_cons (pe_bltn (v := .ty (tnm 2)) (by rfl) (T.gt 2 (by decide)) (by decide +kernel) rfl) pa_nil))) (pa_cons (pe_callB (cr_isErr T.isf) (by rfl) T.iss (by decide +kernel) (pa_cons (pv 0) (pa_cons (pe_bltn (v := .ty (tnm 3)) (by rfl) (T.gt 3 (by decide)) (by decide +kernel) rfl) pa_nil))) pa_nil)))))
      (pss_one (ps_ret (pe_lc (own := [("_law_k", 2)]) (g := gName 2) (tt := tTest (tOp (rIxL K) (tVar 1) (tVar 2))) rfl scBas.nd (pi_range1 (by rfl) B.range (pa_cons pe_int pa_nil)) (blkOk_by (N := ["_law_e", "_law_seen", "_law_k"]) (sc := defScope sBas) (by decide +kernel)) (fun _ _ _ _ _ => pg_name (i := 2) scBas.nd rfl (Or.inl rfl)) (fun _ _ _ _ _ => pts_one (pt_val (pe_ix ix_list (pv 1) (pv 2) (fun _ _ => rfl)))) (fun _ _ _ _ _ => pv 2))))))), ?_⟩
    refine seq_set (isB_step [.ref (cb 0), .ref (cb 1), .ref (cb 2)] [decide (grp i = 0), decide (grp i = 1), decide (grp i = 2)] rfl he (T.isc i hi) (.cons (fun z h => h) (.cons (fun z h => h) (.cons (fun z h => h) .nil)))
      (by dsimp only [List.map]; rw [T.kitb i 0 hi (by decide), T.kitb i 1 hi (by decide), T.kitb i 2 hi (by decide)]) (by show 3 ≤ 1000; decide) fun H1 l1 s1 h1 => ?_)
    refine seq_set (isBc_step [.ref (cb 3), .type (tnm 0), .type (tnm 1)] [decide (grp i = 3), decide (grp i = 0), decide (grp i = 1)] rfl rfl h1 (he.same s1) (T.isc i hi) (.cons (fun z h => h) (.cons (fun z h => h) (.cons (fun z h => h) .nil)))
      (by dsimp only [List.map]; rw [T.kitb i 3 hi (by decide), T.kitt i 0 hi (by decide), T.kitt i 1 hi (by decide)]) (by show 3 + 3 ≤ 1000; decide) fun H2 l2 s2 h2 => ?_)
    have t2 : Same H H2 := same_trans s1 s2
    refine seq_set (isBc_step [.type (tnm 2), .type (tnm 3)] [decide (grp i = 2), decide (grp i = 3)] rfl rfl h2 (he.same t2) (T.isc i hi) (.cons (fun z h => h) (.cons (fun z h => h) .nil))
      (by dsimp only [List.map]; rw [T.kitt i 2 hi (by decide), T.kitt i 3 hi (by decide)]) (by show 6 + 2 ≤ 1000; decide) fun H3 l3 s3 h3 => ?_)
    have t3 : Same H H3 := same_trans t2 s3
    have h3' : H3 l3 = some (.lst ((bbits i).map V.bl)) := h3
    refine ⟨8, rfl, by decide, by decide, fun D hD => ?_⟩
    have nl : l3 ≠ D := ne_of_none h3' hD
    refine lc_range (lo := 0) (n := 8) (fun k H4 => H4 = upd H3 D (.lst (outB i k))) rfl ?_ ?_
    · rintro k H4 hk rfl
      have hb : atI ((bbits i).map V.bl) ((0 : Int) + k) = some (.bl (decide (grp i = k % 4))) := by
        rw [Int.zero_add]
        exact atI_nat (by rw [List.getElem?_map, bbits_at i k hi hk]; rfl)
      refine ⟨rfl, _, rfl, _, rfl, l3, _, _, _, rfl, rfl, SqL.of (by rw [upd_ne nl]; exact h3'), hb, _, rfl, ?_⟩
      have hn := outB_next i k
      refine ite2 (fun hy => ?_) (fun hy => ?_)
      · refine ⟨_, rfl, outB i k, upd_same, small1000 (Nat.le_trans (outB_len i k) (by omega)), ?_⟩
        rw [upd_upd, hn, if_pos hy, Int.zero_add]
      · rw [hn, if_neg hy]
    · rintro H4 rfl
      refine q _ D (same_new t3 hD) (t3.free hD) ?_
      rw [upd_same, outB_end i hi]
end
end SQ7
namespace SQ7
open PySem L2 SQ
/-- the ten things -/
inductive Thing (H : Hp) : V → PyData → Prop
  | non : Thing H .non .none
  | zero : Thing H (.int 0) (.int 0)
  | fls : Thing H (.bl false) (.bool false)
  | x : Thing H (.str "x") (.str "x")
  | two {t : Addr} (h : H t = some (.tup [.int 2, .str "y"])) : Thing H (.ref t) (.tuple [.int 2, .str "y"])
  | three {t : Addr} (h : H t = some (.lst [.int 3])) : Thing H (.ref t) (.list [.int 3])
  | dic {t : Addr} (h : H t = some (.dK [])) : Thing H (.ref t) (.dict [])
  | big : Thing H (.int (10 ^ 19)) (.int (10 ^ 19))
  | emp {t : Addr} (h : H t = some (.tup [])) : Thing H (.ref t) (.tuple [])
  | neg : Thing H (.int (-7)) (.int (-7))
theorem Thing.same {H H' : Hp} {v : V} {d : PyData} (s : Same H H') (h : Thing H v d) : Thing H' v d := by
  cases h with
  | non => exact .non
  | zero => exact .zero
  | fls => exact .fls
  | x => exact .x
  | two h => exact .two (s _ _ h)
  | three h => exact .three (s _ _ h)
  | dic h => exact .dic (s _ _ h)
  | big => exact .big
  | emp h => exact .emp (s _ _ h)
  | neg => exact .neg
theorem dpRep {K : PySem.W.Frag} {H : Hp} {v : V} {d : PyData} (h : Dp K H v d) : ∀ n : Nat, DpAll K H (List.replicate n v) (List.replicate n d)
  | 0 => .nil
  | n + 1 => .cons h (dpRep h n)
theorem flatRep {H : Hp} {v : V} {d : PyData} (h : Flat H v d) : ∀ n : Nat, FlatAll H (List.replicate n v) (List.replicate n d)
  | 0 => .nil
  | n + 1 => .cons h (flatRep h n)
/-- a list of 48 of them can be shown -/
theorem Thing.rep {K : PySem.W.Frag} {H : Hp} {v : V} {d : PyData} (h : Thing H v d) : (DpAll K H (List.replicate 48 v) (List.replicate 48 d) ∨ FlatAll H (List.replicate 48 v) (List.replicate 48 d)) ∧
    (PyData.list (List.replicate 48 d)).showable = true ∧ (PyData.list (List.replicate 48 d)).depth ≤ 60 ∧ (PyData.list (List.replicate 48 d)).shown.length ≤ sizeLine := by
  cases h with
  | non => exact ⟨.inr (flatRep .non 48), by decide +kernel, by decide +kernel, by decide +kernel⟩
  | zero => exact ⟨.inr (flatRep (.int 0) 48), by decide +kernel, by decide +kernel, by decide +kernel⟩
  | fls => exact ⟨.inr (flatRep (.bl false) 48), by decide +kernel, by decide +kernel, by decide +kernel⟩
  | x => exact ⟨.inr (flatRep (.str _) 48), by decide +kernel, by decide +kernel, by decide +kernel⟩
  | two h => exact ⟨.inl (dpRep (.tup (SqT.of h) (.cons (.int 2) (.cons (.str _) .nil))) 48), by decide +kernel, by decide +kernel, by decide +kernel⟩
  | three h => exact ⟨.inl (dpRep (.lst (SqL.of h) (.cons (.int 3) .nil)) 48), by decide +kernel, by decide +kernel, by decide +kernel⟩
  | dic h => exact ⟨.inr (flatRep (.dic h) 48), by decide +kernel, by decide +kernel, by decide +kernel⟩
  | big => exact ⟨.inr (flatRep (.int _) 48), by decide +kernel, by decide +kernel, by decide +kernel⟩
  | emp h => exact ⟨.inl (dpRep (.tup (SqT.of h) .nil) 48), by decide +kernel, by decide +kernel, by decide +kernel⟩
  | neg => exact ⟨.inr (flatRep (.int _) 48), by decide +kernel, by decide +kernel, by decide +kernel⟩
theorem Errs.get {c : Nat → Addr} {H : Hp} {f : Str} {v : V} : ∀ {as : List Addr} {is : List Nat} {i : Nat} {x : V}, Errs c H f v as is → (as.map V.ref)[i]? = some x → ∃ a k, x = .ref a ∧ k ∈ is ∧ ErrAt H a (c k) f v
  | _, _, _, _, .nil, e => by simp at e
  | _, _, 0, x, .cons r t, e => by
    have e' : V.ref _ = x := Option.some.inj e
    exact ⟨_, _, e'.symm, List.mem_cons_self, r⟩
  | _, _, i + 1, x, .cons r t, e => by
    obtain ⟨a, k, h1, h2, h3⟩ := Errs.get (i := i) (x := x) t e
    exact ⟨a, k, h1, List.mem_cons_of_mem _ h2, h3⟩
/-- errors of these classes, whatever they hold -/
def IsErrs (c : Nat → Addr) (H : Hp) (as : List Addr) (is : List Nat) : Prop := Paired (fun a i => i < 28 ∧ ErrIs H a (c i)) as is
theorem Errs.iss {c : Nat → Addr} {H : Hp} {f : Str} {v : V} : ∀ {as : List Addr} {is : List Nat}, Errs c H f v as is → is.all (· < 28) = true → IsErrs c H as is
  | _, _, .nil, _ => .nil
  | _, _, .cons r t, h => by
    rw [List.all_cons, Bool.and_eq_true] at h
    exact .cons ⟨of_decide_eq_true h.1, r.is⟩ (Errs.iss t h.2)
theorem IsErrs.same {c : Nat → Addr} {H H' : Hp} {as : List Addr} {is : List Nat} (s : Same H H') (h : IsErrs c H as is) : IsErrs c H' as is := Paired.mapP h fun a i e => ⟨e.1, e.2.same s⟩
theorem IsErrs.app {c : Nat → Addr} {H : Hp} : ∀ {as bs : List Addr} {is js : List Nat}, IsErrs c H as is → IsErrs c H bs js → IsErrs c H (as ++ bs) (is ++ js)
  | _, _, _, _, .nil, t => t
  | _, _, _, _, .cons r h, t => .cons r (IsErrs.app h t)
theorem IsErrs.len {c : Nat → Addr} {H : Hp} {as : List Addr} {is : List Nat} (h : IsErrs c H as is) : as.length = is.length := Paired.length h
theorem IsErrs.get {c : Nat → Addr} {H : Hp} : ∀ {as : List Addr} {is : List Nat} {i : Nat} {x : V}, IsErrs c H as is → (as.map V.ref)[i]? = some x → ∃ a k, x = .ref a ∧ k ∈ is ∧ k < 28 ∧ ErrIs H a (c k)
  | _, _, _, _, .nil, e => by simp at e
  | _, _, 0, x, .cons r t, e => by
    have e' : V.ref _ = x := Option.some.inj e
    exact ⟨_, _, e'.symm, List.mem_cons_self, r.1, r.2⟩
  | _, _, i + 1, x, .cons r t, e => by
    obtain ⟨a, k, h1, h2, h3⟩ := IsErrs.get (i := i) (x := x) t e
    exact ⟨a, k, h1, List.mem_cons_of_mem _ h2, h3⟩
/-- a group: a pair of a list of errors over one base and of that base's two places -/
def GroupAt (c : Nat → Addr) (H : Hp) (g : Addr) (b : Nat) : Prop := ∃ (L D : Addr) (as : List Addr) (is : List Nat), H g = some (.tup [.ref L, .ref D]) ∧ H L = some (.lst (as.map V.ref)) ∧ IsErrs c H as is ∧ is.all (fun k => grp k == b) = true ∧ is.length ≤ 1000 ∧
  H D = some (.lst [.int (b : Int), .int ((b : Int) + 4)])
theorem GroupAt.same {c : Nat → Addr} {H H' : Hp} {g : Addr} {b : Nat} (s : Same H H') (h : GroupAt c H g b) : GroupAt c H' g b := by
  obtain ⟨L, D, as, is, h1, h2, h3, h4, h5, h6⟩ := h
  exact ⟨L, D, as, is, s _ _ h1, s _ _ h2, h3.same s, h4, h5, s _ _ h6⟩
/-- _law_bases(e) == due and _law_instances(e) == 1 -/
def tEq7 (K : PySem.W.Frag) (c : Nat → Addr) : TE := tAndV (tOp (rEqD K) (tCall (spBas c) [] E0 (tCons (tVar 13) tNil)) (tVar 11)) (tOp rEq (tCall (spIns c) [] E0 (tCons (tVar 13) tNil)) (tC (.int 1)))
/-- the limits -/
structure M7 (mg : Str → Option Value) : Prop where
  m0 : ∃ t, mg "MOST_ENTRIES" = some (.int 8 t)
  m1 : ∃ t, mg "MOST_SIZE" = some (.int 60 t)
  m2 : ∃ t, mg "MOST_NESTED" = some (.int 6 t)
  m3 : ∃ t, mg "MOST_TEXT" = some (.int 2000 t)
  m4 : ∃ t, mg "MOST_CASES" = some (.int 64 t)
  m5 : ∃ t, mg "MOST_SEARCHED" = some (.int 4 t)
  m6 : ∃ t, mg "MOST_DEFINITIONS" = some (.int 20 t)
/-- the helpers stand where they stand -/
structure H7 (K : PySem.W.Frag) (mg : Str → Option Value) (fI fO fN fB : Addr) (dI dO dN dB : FuncData) : Prop where
  gI : mg "_law_input_errors" = some (.ref fI)
  FI : Fun K "_law_input_errors" "_law_input_errors" sIn fI dI
  bI : Binds K dI ["_law_thing"] []
  gO : mg "_law_other_errors" = some (.ref fO)
  FO : Fun K "_law_other_errors" "_law_other_errors" sOth fO dO
  bO : Binds K dO ["_law_thing"] []
  gN : mg "_law_instances" = some (.ref fN)
  FN : Fun K "_law_instances" "_law_instances" sIns fN dN
  bN : Binds K dN ["_law_e"] []
  gB : mg "_law_bases" = some (.ref fB)
  FB : Fun K "_law_bases" "_law_bases" sBas fB dB
  bB : Binds K dB ["_law_e"] []
def nR : List Str := ["_law_urn_here", "_law_thing", "_law_values", "_law_places", "_law_named", "_law_sizes", "_law_faults", "_law_states", "_law_kept", "_law_groups", "_law_group", "_law_due", "_law_told", "_law_e"]
section
variable {P : Program} {w : World} {K : PySem.W.Frag} {mg : Str → Option Value} {base : Heap} {c cb : Nat → Addr}
theorem scR : FnScope ["_law_urn_here", "_law_thing", "_law_values", "_law_places", "_law_named", "_law_sizes", "_law_faults", "_law_states", "_law_kept", "_law_groups", "_law_group", "_law_due", "_law_told", "_law_e"] ["_law_urn_here"] (defScope sRight) := ⟨rfl, rfl, rfl, by decide +kernel, rfl, by decide +kernel, by decide +kernel⟩
/-- the classes whose errors hold f -/
def Has (c : Nat → Addr) (f : Str) (C : Addr) : Prop := ∃ i, i < 28 ∧ bare i = false ∧ fld i = f ∧ C = c i
theorem has_err {f : Str} (T : T7 K mg c cb) (C : Addr) (h : Has c f C) : ∃ bmB newId, ErrC K C f bmB newId := by
  obtain ⟨i, h1, h2, h3, rfl⟩ := h
  obtain ⟨_, B, newId, initId, bmB, fI, _, T', _⟩ := T.err i h1 h2
  rw [h3] at T'
  exact ⟨bmB, newId, T'⟩
end
/-! ### the reading of _law_right, piece by piece -/
def tGet (c : Nat → Addr) (f : Str) : TE := fun σ H Q => tVar 13 σ H fun x H1 => ∃ (a C : Addr) (v : V), x = V.ref a ∧ Has c f C ∧ ErrAt H1 a C f v ∧ Q v H1
def tLen (K : PySem.W.Frag) (i : Nat) : TE := tCB (fun xs H Q => ∃ p ys, xs = [V.ref p] ∧ (SqL K H p ys ∨ SqT K H p ys) ∧ Q (V.int (ys.length : Nat)) H) (tCons (tVar i) tNil)
def tPair (te : TE) (a b : Int) : TE := tTup (tCons te (tCons (tLst (tCons (tC (V.int a)) (tCons (tC (V.int b)) tNil))) tNil))
def tSeven : TA := tCons (tC (V.int 8)) (tCons (tC (V.int 60)) (tCons (tC (V.int 6)) (tCons (tC (V.int 2000)) (tCons (tC (V.int 64)) (tCons (tC (V.int 4)) (tCons (tC (V.int 20)) tNil))))))
def tThings : TE := tLst (tCons (tC .non) (tCons (tC (.int 0)) (tCons (tC (.bl false)) (tCons (tC (.str "x")) (tCons (tTup (tCons (tC (.int 2)) (tCons (tC (.str "y")) tNil))) (tCons (tLst (tCons (tC (.int 3)) tNil)) (tCons tDNewK
  (tCons (tOp (rI CPow fun i j => .int (i ^ j.toNat)) (tC (.int 10)) (tC (.int 19))) (tCons (tTup tNil) (tCons (tUn (rU fun i => .int (-i)) (tC (.int 7))) tNil))))))))))
def tKept (K : PySem.W.Frag) (c : Nat → Addr) : TE := tOp rCat (tOp rCat (tLc (iList K (tOp rCat (tVar 2) (tVar 4))) (gName 13) tYes (tGet c "value") [13])
  (tLc (iList K (tOp rCat (tVar 3) (tSl (rSlL K) (tVar 6) tNoPart (tPart (tC (V.int 2)))))) (gName 13) tYes (tGet c "index") [13])) (tLc (iList K (tVar 5)) (gName 13) tYes (tGet c "limit") [13])
def tGroups : TE := tLst (tCons (tPair (tOp rCat (tVar 2) (tVar 3)) 0 4) (tCons (tPair (tVar 6) 1 5) (tCons (tPair (tOp rCat (tVar 4) (tVar 7)) 2 6) (tCons (tPair (tVar 5) 3 7) tNil))))
def tLoop (K : PySem.W.Frag) (c : Nat → Addr) : TS := tIfS (tNot (tB (tCB (rAll K) (tCons (tLc (iList K (tVar 10)) (gName 13) tYes (tEq7 K c) [13]) tNil)))) (tRet (tC (V.bl false))) tNext
def t7 (K : PySem.W.Frag) (c : Nat → Addr) : TS := tSeq (tAsg (tCall (spOne K) [] E0 (tCons (tVar 0) (tCons tThings tNil))) (gName 1))
  (tSeq (tAsg (tCall (spIn c) [] E0 (tCons (tVar 1) tNil)) (gTup K 2 (gCons (gName 2) (gCons (gName 3) gNil))))
  (tSeq (tAsg (tCall (spOth c) [] E0 (tCons (tVar 1) tNil)) (gTup K 2 (gCons (gName 4) (gCons (gName 5) gNil))))
  (tSeq (tPar 6 7 (tCons (tLst (tCons (tErr (c 13) "index" (tVar 1)) (tCons (tErr (c 13) "index" (tVar 1)) (tCons (tErr0 (c 14)) (tCons (tErr0 (c 15)) tNil))))) (tCons (tLst (tCons (tErr0 (c 20)) (tCons (tErr0 (c 21)) tNil))) tNil)))
  (tSeq (tAsg (tKept K c) (gName 8))
  (tSeq (tIfS (tTest (tOp rNe (tCB (rReprL K) (tCons (tVar 8) tNil)) (tCB (rReprL K) (tCons (tOp rRep (tLst (tCons (tVar 1) tNil)) (tLen K 8)) tNil)))) (tRet (tC (V.bl false))) tNext)
  (tSeq (tIfS (tTest (tOp (rNeD K) (tLst (tCons (tLen K 2) (tCons (tLen K 3) (tCons (tLen K 4) (tCons (tLen K 5) tNil))))) (tLst (tCons (tC (V.int 18)) (tCons (tC (V.int 8)) (tCons (tC (V.int 8)) (tCons (tC (V.int 12)) tNil))))))) (tRet (tC (V.bl false))) tNext)
  (tSeq (tAsg tGroups (gName 9))
  (tSeq (tFor (iList K (tVar 9)) (gTup K 2 (gCons (gName 10) (gCons (gName 11) gNil))) (tLoop K c))
  (tSeq (tAsg (tLst tSeven) (gName 12))
  (tRet (tOp (rEqD K) (tVar 12) (tLst tSeven))))))))))))
end SQ7
namespace SQ7
open PySem L2 SQ
theorem op_ {r : R2} {ta tb : TE} {σ : St} {H : Hp} {Q : VK} (h : ta σ H fun x H1 => tb σ H1 fun y H2 => r x y H2 Q) : tOp r ta tb σ H Q := h
/-- what is left of a comprehension behind its list -/
def LcG (K : PySem.W.Frag) (a : Addr) (g : TG) (tt : TT) (te : TE) (vs : List Nat) (σ : St) (H1 : Hp) (Q : VK) : Prop := tLc (fun _ H R => R (Itl K a) H) g tt te vs σ H1 Q
theorem lc_ {K : PySem.W.Frag} {tl : TE} {g : TG} {tt : TT} {te : TE} {vs : List Nat} {σ : St} {H : Hp} {Q : VK} (h : tl σ H fun x H1 => ∃ a, x = .ref a ∧ (∃ xs, SqL K H1 a xs) ∧ LcG K a g tt te vs σ H1 Q) : tLc (iList K tl) g tt te vs σ H Q := h
theorem keptY {σ : St} {H : Hp} {A B : Hp → Prop} (h : A H) : tYes σ H (fun b H3 => if b = true then A H3 else B H3) := keptT h
theorem set13 {σ : St} {x : V} (h : σ.length = 14) : wipe ((wipe σ [13]).set 13 (some x)) [13] = wipe σ [13] ∧ ((wipe σ [13]).set 13 (some x))[13]? = some (some x) := by
  constructor
  · show (((σ.set 13 none).set 13 (some x)).set 13 none) = σ.set 13 none
    rw [List.set_set, List.set_set]
  · show ((σ.set 13 none).set 13 (some x))[13]? = some (some x)
    rw [List.getElem?_set_self (by rw [List.length_set, h]; decide)]
/-- [e.f for e in ..] -/
theorem get_lc {K : PySem.W.Frag} {c : Nat → Addr} {f : Str} {v : V} {as : List Addr} {is : List Nat} {l : Addr} {σ : St} {H1 : Hp} {Q : VK} (hσ : σ.length = 14) (hL : H1 l = some (.lst (as.map V.ref))) (hE : Errs c H1 f v as is) (hs : is.all (fun k => decide (k < 28) && !bare k && (fld k == f)) = true) (hl : is.length ≤ 1000)
    (h : ∀ (H' : Hp) (D : Addr), Same H1 H' → H' D = some (.lst (List.replicate is.length v)) → Q (.ref D) H') : LcG K l (gName 13) tYes (tGet c f) [13] σ H1 Q := by
  intro D hD
  have hn := hE.len
  refine lc_list (K := K) (a := l) (xs := as.map V.ref) (fun i H2 => Same H1 H2 ∧ H2 D = some (.lst (List.replicate i v))) ⟨same_new (fun _ _ e => e) hD, upd_same⟩ (fun i H2 _ ⟨s2, _⟩ => SqL.of (s2 _ _ hL)) ?_ ?_
  · rintro i x H2 hi ⟨s2, hD2⟩
    have hil : i < (as.map V.ref).length := (List.getElem?_eq_some_iff.mp hi).1
    rw [List.length_map] at hil
    obtain ⟨a, k, rfl, hk, he⟩ := Errs.get hE hi
    have hk2 := List.all_eq_true.mp hs k hk
    simp only [Bool.and_eq_true, decide_eq_true_eq, Bool.not_eq_true', beq_iff_eq] at hk2
    obtain ⟨⟨k1, k2⟩, k3⟩ := hk2
    obtain ⟨w1, w2⟩ := set13 (x := V.ref a) hσ
    refine ⟨w1, keptY ⟨_, w2, a, c k, v, rfl, ⟨k, k1, k2, k3, rfl⟩, he.same s2, _, hD2, small1000 (by rw [List.length_replicate]; omega), fun b o e => ?_, ?_⟩⟩
    · rw [upd_ne (ne_of_none e hD)]
      exact s2 b o e
    · rw [upd_same, List.replicate_succ']
  · rintro H2 ⟨s2, hD2⟩
    refine h H2 D s2 ?_
    rw [hD2, List.length_map, hn]
/-- the group's comprehension -/
theorem eq_lc {K : PySem.W.Frag} {c : Nat → Addr} {b : Nat} {as : List Addr} {is : List Nat} {l dd : Addr} {σ : St} {H1 : Hp} {Q : VK} (hσ : σ.length = 14) (h11 : ∀ x : V, ((wipe σ [13]).set 13 (some x))[11]? = some (some (.ref dd))) (hL : H1 l = some (.lst (as.map V.ref))) (hE : IsErrs c H1 as is)
    (hs : is.all (fun k => grp k == b) = true) (hl : is.length ≤ 1000) (hdd : H1 dd = some (.lst [.int (b : Int), .int ((b : Int) + 4)]))
    (h : ∀ (H' : Hp) (D : Addr), Same H1 H' → H' D = some (.lst ((List.replicate is.length true).map V.bl)) → Q (.ref D) H') : LcG K l (gName 13) tYes (tEq7 K c) [13] σ H1 Q := by
  intro D hD
  have hn := hE.len
  refine lc_list (K := K) (a := l) (xs := as.map V.ref) (fun i H2 => Same H1 H2 ∧ H2 D = some (.lst ((List.replicate i true).map V.bl))) ⟨same_new (fun _ _ e => e) hD, upd_same⟩ (fun i H2 _ ⟨s2, _⟩ => SqL.of (s2 _ _ hL)) ?_ ?_
  · rintro i x H2 hi ⟨s2, hD2⟩
    have hil : i < (as.map V.ref).length := (List.getElem?_eq_some_iff.mp hi).1
    rw [List.length_map] at hil
    obtain ⟨a, k, rfl, hk, hk28, he⟩ := IsErrs.get hE hi
    have hg : grp k = b := beq_iff_eq.mp (List.all_eq_true.mp hs k hk)
    obtain ⟨w1, w2⟩ := set13 (x := V.ref a) hσ
    refine ⟨w1, keptY ?_⟩
    -- _law_bases(e) == due
    refine ⟨_, w2, a, k, rfl, hk28, he.same s2, fun H3 p s3 np hp => ?_⟩
    rw [hg] at hp
    have hdd3 := s3 _ _ (s2 _ _ hdd)
    refine ⟨_, h11 _, .list [.int (b : Int), .int ((b : Int) + 4)], .list [.int (b : Int), .int ((b : Int) + 4)], .lst (SqL.of hp) (.cons (.int _) (.cons (.int _) .nil)), .lst (SqL.of hdd3) (.cons (.int _) (.cons (.int _) .nil)), rfl, rfl, _, rfl, ?_⟩
    have e1 : PyData.eqv (.list [.int (b : Int), .int ((b : Int) + 4)]) (.list [.int (b : Int), .int ((b : Int) + 4)]) = true := SeqAt.eqv_refl _ rfl
    rw [e1]
    refine iteT ?_
    -- _law_instances(e) == 1
    refine ⟨_, w2, a, k, rfl, hk28, (he.same s2).same s3, fun H4 s4 => ?_⟩
    refine ⟨rfl, _, s4 _ _ (s3 _ _ hD2), small1000 (by rw [List.length_map, List.length_replicate]; omega), fun b' o e => ?_, ?_⟩
    · rw [upd_ne (ne_of_none e hD)]
      exact s4 _ _ (s3 _ _ (s2 b' o e))
    · rw [upd_same, List.replicate_succ', List.map_append]
      rfl
  · rintro H2 ⟨s2, hD2⟩
    refine h H2 D s2 ?_
    rw [hD2, List.length_map, hn]
theorem all_true (n : Nat) : (List.replicate n true).all id = true := by
  rw [List.all_eq_true]
  intro x hx
  exact List.eq_of_mem_replicate hx
end SQ7
namespace SQ7
open PySem L2 SQ
section
variable {K : PySem.W.Frag} {c : Nat → Addr}
theorem but_same {u : Addr} {H H1 H2 : Hp} (a : But u H H1) (b : Same H1 H2) : But u H H2 := fun x o e n => b x o (a x o e n)
/-- behind the draw -/
def tRest (K : PySem.W.Frag) (c : Nat → Addr) : TS := 
  (tSeq (tAsg (tCall (spIn c) [] E0 (tCons (tVar 1) tNil)) (gTup K 2 (gCons (gName 2) (gCons (gName 3) gNil))))
  (tSeq (tAsg (tCall (spOth c) [] E0 (tCons (tVar 1) tNil)) (gTup K 2 (gCons (gName 4) (gCons (gName 5) gNil))))
  (tSeq (tPar 6 7 (tCons (tLst (tCons (tErr (c 13) "index" (tVar 1)) (tCons (tErr (c 13) "index" (tVar 1)) (tCons (tErr0 (c 14)) (tCons (tErr0 (c 15)) tNil))))) (tCons (tLst (tCons (tErr0 (c 20)) (tCons (tErr0 (c 21)) tNil))) tNil)))
  (tSeq (tAsg (tKept K c) (gName 8))
  (tSeq (tIfS (tTest (tOp rNe (tCB (rReprL K) (tCons (tVar 8) tNil)) (tCB (rReprL K) (tCons (tOp rRep (tLst (tCons (tVar 1) tNil)) (tLen K 8)) tNil)))) (tRet (tC (V.bl false))) tNext)
  (tSeq (tIfS (tTest (tOp (rNeD K) (tLst (tCons (tLen K 2) (tCons (tLen K 3) (tCons (tLen K 4) (tCons (tLen K 5) tNil))))) (tLst (tCons (tC (V.int 18)) (tCons (tC (V.int 8)) (tCons (tC (V.int 8)) (tCons (tC (V.int 12)) tNil))))))) (tRet (tC (V.bl false))) tNext)
  (tSeq (tAsg tGroups (gName 9))
  (tSeq (tFor (iList K (tVar 9)) (gTup K 2 (gCons (gName 10) (gCons (gName 11) gNil))) (tLoop K c))
  (tSeq (tAsg (tLst tSeven) (gName 12))
  (tRet (tOp (rEqD K) (tVar 12) (tLst tSeven))))))))))))
/-- the end: the limits -/
theorem end7 {D : Ends} {v1 v2 v3 v4 v5 v6 v7 v8 v9 v10 v11 v12 v13 v14 : Option V} {H : Hp} (h : ∀ H', Same H H' → D.rt (.bl true) H') :
    tSeq (tAsg (tLst tSeven) (gName 12)) (tRet (tOp (rEqD K) (tVar 12) (tLst tSeven))) D [v1, v2, v3, v4, v5, v6, v7, v8, v9, v10, v11, v12, v13, v14] H := by
  refine ⟨(by show 7 ≤ sizeLine; decide), fun p np => ?_⟩
  refine ⟨_, rfl, (by show 7 ≤ sizeLine; decide), fun p2 np2 => ?_⟩
  have ne : p ≠ p2 := ne_of_none upd_same np2
  have hp : upd (upd H p (.lst [V.int 8, V.int 60, V.int 6, V.int 2000, V.int 64, V.int 4, V.int 20])) p2 (.lst [V.int 8, V.int 60, V.int 6, V.int 2000, V.int 64, V.int 4, V.int 20]) p = some (.lst [V.int 8, V.int 60, V.int 6, V.int 2000, V.int 64, V.int 4, V.int 20]) := by
    rw [upd_ne ne, upd_same]
  have da : ∀ G : Hp, DpAll K G [V.int 8, V.int 60, V.int 6, V.int 2000, V.int 64, V.int 4, V.int 20] [.int 8, .int 60, .int 6, .int 2000, .int 64, .int 4, .int 20] := fun G =>
    .cons (.int _) (.cons (.int _) (.cons (.int _) (.cons (.int _) (.cons (.int _) (.cons (.int _) (.cons (.int _) .nil))))))
  refine ⟨.list [.int 8, .int 60, .int 6, .int 2000, .int 64, .int 4, .int 20], .list [.int 8, .int 60, .int 6, .int 2000, .int 64, .int 4, .int 20], .lst (SqL.of hp) (da _), .lst (SqL.of upd_same) (da _), rfl, rfl, ?_⟩
  exact h _ (same_new (same_new (fun _ _ e => e) np) np2)
theorem ifall {D : Ends} {σ : St} {H : Hp} (h : tLc (iList K (tVar 10)) (gName 13) tYes (tEq7 K c) [13] σ H (fun x H1 => ∃ (a : Addr) (bs : List Bool), [x] = [V.ref a] ∧ SqL K H1 a (bs.map V.bl) ∧ ∃ b, V.bl (bs.all id) = .bl b ∧
    if (!b) = true then D.rt (.bl false) H1 else D.nx σ H1)) : tLoop K c D σ H := h
/-- the groups, one by one -/
theorem loop7 {D : Ends} {v1 v2 v3 v4 v5 v6 v7 v8 v9 : Option V} {lg g0 g1 g2 g3 : Addr} {H : Hp} (hg : H lg = some (.lst [.ref g0, .ref g1, .ref g2, .ref g3])) (q0 : GroupAt c H g0 0) (q1 : GroupAt c H g1 1) (q2 : GroupAt c H g2 2) (q3 : GroupAt c H g3 3)
    (h : ∀ H', Same H H' → D.rt (.bl true) H') :
    tSeq (tFor (iList K (tVar 9)) (gTup K 2 (gCons (gName 10) (gCons (gName 11) gNil))) (tLoop K c)) (tSeq (tAsg (tLst tSeven) (gName 12)) (tRet (tOp (rEqD K) (tVar 12) (tLst tSeven)))) D [v1, v2, v3, v4, v5, v6, v7, v8, v9, some (.ref lg), none, none, none, none] H := by
  refine ⟨_, rfl, lg, rfl, ⟨_, SqL.of hg⟩, for_list (K := K) (a := lg) (xs := [.ref g0, .ref g1, .ref g2, .ref g3]) (fun i σ H2 => ∃ a b : Option V, σ = [v1, v2, v3, v4, v5, v6, v7, v8, v9, some (.ref lg), a, b, none, none] ∧ Same H H2)
    ⟨none, none, rfl, fun _ _ e => e⟩ (fun i σ H2 _ ⟨_, _, _, s2⟩ => SqL.of (s2 _ _ hg)) ?_ ?_⟩
  · rintro i x σ H2 hi ⟨a, b, rfl, s2⟩
    obtain ⟨g, rfl, G⟩ : ∃ g, x = .ref g ∧ GroupAt c H g i := by
      match i, hi with
      | 0, e => exact ⟨g0, (Option.some.inj e).symm, q0⟩
      | 1, e => exact ⟨g1, (Option.some.inj e).symm, q1⟩
      | 2, e => exact ⟨g2, (Option.some.inj e).symm, q2⟩
      | 3, e => exact ⟨g3, (Option.some.inj e).symm, q3⟩
    obtain ⟨L, dd, as, is, w1, w2, w3, w4, w5, w6⟩ := G.same s2
    refine ⟨g, _, rfl, SqT.of w1, rfl, _, _, rfl, _, _, rfl, rfl, ?_⟩
    refine ifall (σ := [v1, v2, v3, v4, v5, v6, v7, v8, v9, some (.ref lg), some (.ref L), some (.ref dd), none, none]) (lc_ ⟨_, rfl, L, rfl, ⟨_, SqL.of w2⟩, ?_⟩)
    refine eq_lc (b := i) (dd := dd) rfl (fun _ => rfl) w2 w3 w4 w5 w6 fun H3 p s3 hp => ⟨p, _, rfl, SqL.of hp, _, rfl, ?_⟩
    rw [all_true]
    refine iteF ?_
    exact ⟨_, _, rfl, same_trans s2 s3⟩
  · rintro σ H2 ⟨a, b, rfl, s2⟩
    exact end7 fun H' s' => h H' (same_trans s2 s')
theorem rep3 {x : V} {a b d : Nat} : List.replicate a x ++ List.replicate b x ++ List.replicate d x = List.replicate (a + b + d) x := by
  rw [List.replicate_append_replicate, List.replicate_append_replicate]
def tTail (K : PySem.W.Frag) (c : Nat → Addr) : TS := (tSeq (tAsg tGroups (gName 9))
  (tSeq (tFor (iList K (tVar 9)) (gTup K 2 (gCons (gName 10) (gCons (gName 11) gNil))) (tLoop K c))
  (tSeq (tAsg (tLst tSeven) (gName 12))
  (tRet (tOp (rEqD K) (tVar 12) (tLst tSeven))))))
def tIfs (K : PySem.W.Frag) (c : Nat → Addr) : TS := (tSeq (tIfS (tTest (tOp rNe (tCB (rReprL K) (tCons (tVar 8) tNil)) (tCB (rReprL K) (tCons (tOp rRep (tLst (tCons (tVar 1) tNil)) (tLen K 8)) tNil)))) (tRet (tC (V.bl false))) tNext)
  (tSeq (tIfS (tTest (tOp (rNeD K) (tLst (tCons (tLen K 2) (tCons (tLen K 3) (tCons (tLen K 4) (tCons (tLen K 5) tNil))))) (tLst (tCons (tC (V.int 18)) (tCons (tC (V.int 8)) (tCons (tC (V.int 8)) (tCons (tC (V.int 12)) tNil))))))) (tRet (tC (V.bl false))) tNext)
  (tTail K c)))
/-- what is known behind the makings -/
structure Known (c : Nat → Addr) (H : Hp) (x : V) (l1 l2 l3 l4 pf ps : Addr) (as1 as2 as3 as4 : List Addr) (b1 b2 b3 b4 b5 b6 : Addr) : Prop where
  h1 : H l1 = some (.lst (as1.map V.ref))
  h2 : H l2 = some (.lst (as2.map V.ref))
  h3 : H l3 = some (.lst (as3.map V.ref))
  h4 : H l4 = some (.lst (as4.map V.ref))
  e1 : Errs c H "value" x as1 [0, 1, 2, 3, 4, 5, 6, 7, 8, 0, 1, 2, 3, 4, 5, 6, 7, 8]
  e2 : Errs c H "index" x as2 [9, 10, 11, 12, 9, 10, 11, 12]
  e3 : Errs c H "value" x as3 [16, 17, 18, 19, 16, 17, 18, 19]
  e4 : Errs c H "limit" x as4 [22, 23, 24, 25, 26, 27, 22, 23, 24, 25, 26, 27]
  hf : H pf = some (.lst [.ref b1, .ref b2, .ref b3, .ref b4])
  hs : H ps = some (.lst [.ref b5, .ref b6])
  f1 : ErrAt H b1 (c 13) "index" x
  f2 : ErrAt H b2 (c 13) "index" x
  f3 : ErrIs H b3 (c 14)
  f4 : ErrIs H b4 (c 15)
  f5 : ErrIs H b5 (c 20)
  f6 : ErrIs H b6 (c 21)
theorem Known.same {c : Nat → Addr} {H H' : Hp} {x : V} {l1 l2 l3 l4 pf ps : Addr} {as1 as2 as3 as4 : List Addr} {b1 b2 b3 b4 b5 b6 : Addr} (s : Same H H') (k : Known c H x l1 l2 l3 l4 pf ps as1 as2 as3 as4 b1 b2 b3 b4 b5 b6) : Known c H' x l1 l2 l3 l4 pf ps as1 as2 as3 as4 b1 b2 b3 b4 b5 b6 :=
  ⟨s _ _ k.h1, s _ _ k.h2, s _ _ k.h3, s _ _ k.h4, k.e1.same s, k.e2.same s, k.e3.same s, k.e4.same s, s _ _ k.hf, s _ _ k.hs, k.f1.same s, k.f2.same s, k.f3.same s, k.f4.same s, k.f5.same s, k.f6.same s⟩
theorem kept7 {D : Ends} {tb : TS} {u l1 l2 l3 l4 pf ps : Addr} {x : V} {as1 as2 as3 as4 : List Addr} {b1 b2 b3 b4 b5 b6 : Addr} {S0 : Hp} (k : Known c S0 x l1 l2 l3 l4 pf ps as1 as2 as3 as4 b1 b2 b3 b4 b5 b6)
    (h : ∀ (H' : Hp) (pk : Addr), Same S0 H' → H' pk = some (.lst (List.replicate 48 x)) → tb D [some (.ref u), some x, some (.ref l1), some (.ref l2), some (.ref l3), some (.ref l4), some (.ref pf), some (.ref ps), some (.ref pk), none, none, none, none, none] H') :
    tSeq (tAsg (tKept K c) (gName 8)) tb D [some (.ref u), some x, some (.ref l1), some (.ref l2), some (.ref l3), some (.ref l4), some (.ref pf), some (.ref ps), none, none, none, none, none, none] S0 := by
  obtain ⟨hl1', hl2', hl3', hl4', e1', e2', e3', e4', hpf', hps, f1', f2', f3', f4', f5', f6'⟩ := k
  unfold tKept
  refine seq_set (op_ (op_ (lc_ ?_)))
  refine cat2_step (v := x) rfl rfl hl1' e1' hl3' e3' (by decide) fun A1 la aa sa ha ea => ⟨la, rfl, ⟨_, SqL.of ha⟩, ?_⟩
  refine get_lc rfl ha ea (by decide) (by decide) fun A2 d1 sa2 hd1 => lc_ ?_
  have u2 : Same S0 A2 := same_trans sa sa2
  refine ⟨_, rfl, _, rfl, _, rfl, pf, _, rfl, SqL.of (u2 _ _ hpf'), fun pc nc => ?_⟩
  generalize hC : upd A2 pc (HO.lst (cutV [V.ref b1, V.ref b2, V.ref b3, V.ref b4] none (some 2))) = A3
  have sC : Same A2 A3 := by rw [← hC]; exact same_new (fun _ _ e => e) nc
  have hpc : A3 pc = some (.lst ([b1, b2].map V.ref)) := by rw [← hC]; exact upd_same
  have u3 : Same S0 A3 := same_trans u2 sC
  have n2 := e2'.len
  refine ⟨l2, pc, _, _, rfl, rfl, u3 _ _ hl2', hpc, Nat.le_of_lt (small1000 (by rw [List.length_map, List.length_map, n2]; show 8 + 2 ≤ 1000; decide)), fun pq nq => ?_⟩
  generalize hQ : upd A3 pq (HO.lst (as2.map V.ref ++ [b1, b2].map V.ref)) = A4
  have sQ : Same A3 A4 := by rw [← hQ]; exact same_new (fun _ _ e => e) nq
  have hpq : A4 pq = some (.lst ((as2 ++ [b1, b2]).map V.ref)) := by rw [← hQ, List.map_append]; exact upd_same
  have u4 : Same S0 A4 := same_trans u3 sQ
  have eq4 : Errs c A4 "index" x (as2 ++ [b1, b2]) ([9, 10, 11, 12, 9, 10, 11, 12] ++ [13, 13]) := Errs.app (e2'.same u4) (.cons (f1'.same u4) (.cons (f2'.same u4) .nil))
  refine ⟨pq, rfl, ⟨_, SqL.of hpq⟩, ?_⟩
  refine get_lc rfl hpq eq4 (by decide) (by decide) fun A5 d2 sa5 hd2 => ?_
  have hd1' := sa5 _ _ (sQ _ _ (sC _ _ hd1))
  refine ⟨d1, d2, _, _, rfl, rfl, hd1', hd2, Nat.le_of_lt (small1000 (by rw [List.length_replicate, List.length_replicate]; decide)), fun p12 n12 => lc_ ?_⟩
  have u5 : Same S0 A5 := same_trans u4 sa5
  have s12 : Same A5 (upd A5 p12 (HO.lst (List.replicate ([0, 1, 2, 3, 4, 5, 6, 7, 8, 0, 1, 2, 3, 4, 5, 6, 7, 8] ++ [16, 17, 18, 19, 16, 17, 18, 19]).length x ++ List.replicate ([9, 10, 11, 12, 9, 10, 11, 12] ++ [13, 13]).length x))) := same_new (fun _ _ e => e) n12
  have u6 := same_trans u5 s12
  refine ⟨_, rfl, l4, rfl, ⟨_, SqL.of (u6 _ _ hl4')⟩, ?_⟩
  refine get_lc rfl (u6 _ _ hl4') (e4'.same u6) (by decide) (by decide) fun A7 d3 sa7 hd3 => ?_
  refine ⟨p12, d3, _, _, rfl, rfl, sa7 _ _ upd_same, hd3, Nat.le_of_lt (small1000 (by rw [List.length_append, List.length_replicate, List.length_replicate, List.length_replicate]; decide)), fun pk nk => ?_⟩
  refine h _ pk (same_new (same_trans u6 sa7) nk) ?_
  rw [upd_same, rep3]
  rfl
theorem pair_ {te : TE} {a b : Int} {σ : St} {H : Hp} {Q : VK} (h : te σ H fun x H1 => tCons (tLst (tCons (tC (V.int a)) (tCons (tC (V.int b)) tNil))) tNil σ H1 fun xs H2 => (x :: xs).length ≤ sizeLine ∧ ∀ p, H2 p = none → Q (.ref p) (upd H2 p (.tup (x :: xs)))) :
    tPair te a b σ H Q := h
theorem pairE {σ : St} {x : V} {a b : Int} {H1 : Hp} {Q : VK} (h : ∀ (H' : Hp) (g dd : Addr), Same H1 H' → H' g = some (.tup [x, .ref dd]) → H' dd = some (.lst [.int a, .int b]) → Q (.ref g) H') :
    tCons (tLst (tCons (tC (V.int a)) (tCons (tC (V.int b)) tNil))) tNil σ H1 fun xs H2 => (x :: xs).length ≤ sizeLine ∧ ∀ p, H2 p = none → Q (.ref p) (upd H2 p (.tup (x :: xs))) := by
  refine ⟨(by show 2 ≤ sizeLine; decide), fun pd nd => ⟨(by show 2 ≤ sizeLine; decide), fun pt nt => ?_⟩⟩
  have s1 : Same H1 (upd H1 pd (.lst [V.int a, V.int b])) := same_new (fun _ _ e => e) nd
  have s2 : Same (upd H1 pd (.lst [V.int a, V.int b])) (upd (upd H1 pd (.lst [V.int a, V.int b])) pt (.tup [x, .ref pd])) := same_new (fun _ _ e => e) nt
  exact h _ pt pd (same_trans s1 s2) upd_same (s2 _ _ upd_same)
theorem pairV {i : Nat} {L : Addr} {a b : Int} {σ : St} {H : Hp} {Q : VK} (hi : σ[i]? = some (some (.ref L)))
    (h : ∀ (H' : Hp) (g dd : Addr), Same H H' → H' g = some (.tup [.ref L, .ref dd]) → H' dd = some (.lst [.int a, .int b]) → Q (.ref g) H') : tPair (tVar i) a b σ H Q := ⟨_, hi, pairE h⟩
theorem pairC {i j : Nat} {l m : Addr} {xs ys : List V} {a b : Int} {σ : St} {H : Hp} {Q : VK} (hi : σ[i]? = some (some (.ref l))) (hj : σ[j]? = some (some (.ref m))) (hl : H l = some (.lst xs)) (hm : H m = some (.lst ys)) (hz : xs.length + ys.length ≤ 1000)
    (h : ∀ (H' : Hp) (L g dd : Addr), Same H H' → H' L = some (.lst (xs ++ ys)) → H' g = some (.tup [.ref L, .ref dd]) → H' dd = some (.lst [.int a, .int b]) → Q (.ref g) H') : tPair (tOp rCat (tVar i) (tVar j)) a b σ H Q := by
  refine ⟨_, hi, _, hj, l, m, _, _, rfl, rfl, hl, hm, Nat.le_of_lt (small1000 hz), fun p np => ?_⟩
  have s1 : Same H (upd H p (.lst (xs ++ ys))) := same_new (fun _ _ e => e) np
  exact pairE (Q := Q) fun H' g dd s2 hg hd => h H' p g dd (same_trans s1 s2) (s2 _ _ upd_same) hg hd
theorem tail7 {D : Ends} {v1 v2 : Option V} {l1 l2 l3 l4 pf ps pk : Addr} {x : V} {as1 as2 as3 as4 : List Addr} {b1 b2 b3 b4 b5 b6 : Addr} {S0 : Hp} (k : Known c S0 x l1 l2 l3 l4 pf ps as1 as2 as3 as4 b1 b2 b3 b4 b5 b6)
    (h : ∀ H', Same S0 H' → D.rt (.bl true) H') :
    tTail K c D [v1, v2, some (.ref l1), some (.ref l2), some (.ref l3), some (.ref l4), some (.ref pf), some (.ref ps), some (.ref pk), none, none, none, none, none] S0 := by
  have n1 := k.e1.len
  have n2 := k.e2.len
  have n3 := k.e3.len
  have n4 := k.e4.len
  have i1 := Errs.iss k.e1 (by decide)
  have i2 := Errs.iss k.e2 (by decide)
  have i3 := Errs.iss k.e3 (by decide)
  have i4 := Errs.iss k.e4 (by decide)
  have iF : IsErrs c S0 [b1, b2, b3, b4] [13, 13, 14, 15] := .cons ⟨by decide, k.f1.is⟩ (.cons ⟨by decide, k.f2.is⟩ (.cons ⟨by decide, k.f3⟩ (.cons ⟨by decide, k.f4⟩ .nil)))
  have iS : IsErrs c S0 [b5, b6] [20, 21] := .cons ⟨by decide, k.f5⟩ (.cons ⟨by decide, k.f6⟩ .nil)
  unfold tTail tGroups
  refine seq_set (cons_ (pairC rfl rfl k.h1 k.h2 (by rw [List.length_map, List.length_map, n1, n2]; decide) fun H1 pa g0 d0 t1 hpa hg0 hd0 => ?_))
  have q0 : GroupAt c H1 g0 0 := ⟨pa, d0, as1 ++ as2, _, hg0, by rw [List.map_append]; exact hpa, (i1.app i2).same t1, by decide, by decide, hd0⟩
  refine cons_ (pairV rfl fun H2 g1 d1 s2 hg1 hd1 => ?_)
  have t2 : Same S0 H2 := same_trans t1 s2
  have q1 : GroupAt c H2 g1 1 := ⟨pf, d1, [b1, b2, b3, b4], _, hg1, t2 _ _ k.hf, iF.same t2, by decide, by decide, hd1⟩
  refine cons_ (pairC rfl rfl (t2 _ _ k.h3) (t2 _ _ k.hs) (by rw [List.length_map, n3]; show 8 + 2 ≤ 1000; decide) fun H3 pb g2 d2 s3 hpb hg2 hd2 => ?_)
  have t3 : Same S0 H3 := same_trans t2 s3
  have q2 : GroupAt c H3 g2 2 := ⟨pb, d2, as3 ++ [b5, b6], _, hg2, by rw [List.map_append]; exact hpb, (i3.app iS).same t3, by decide, by decide, hd2⟩
  refine cons_ (pairV rfl fun H4 g3 d3 s4 hg3 hd3 => ?_)
  have t4 : Same S0 H4 := same_trans t3 s4
  have q3 : GroupAt c H4 g3 3 := ⟨l4, d3, as4, _, hg3, t4 _ _ k.h4, i4.same t4, by decide, by decide, hd3⟩
  refine ⟨(by show 4 ≤ sizeLine; decide), fun lg ng => ?_⟩
  have sg : Same H4 (upd H4 lg (.lst [V.ref g0, V.ref g1, V.ref g2, V.ref g3])) := same_new (fun _ _ e => e) ng
  have w2 : Same H2 (upd H4 lg (.lst [V.ref g0, V.ref g1, V.ref g2, V.ref g3])) := same_trans s3 (same_trans s4 sg)
  have w1 := same_trans s2 w2
  have w3 := same_trans s4 sg
  exact loop7 upd_same (q0.same w1) (q1.same w2) (q2.same w3) (q3.same sg) fun H' s' => h H' (same_trans t4 (same_trans sg s'))
theorem ifs7 {D : Ends} {u l1 l2 l3 l4 pf ps pk : Addr} {x : V} {d : PyData} {as1 as2 as3 as4 : List Addr} {b1 b2 b3 b4 b5 b6 : Addr} {S0 : Hp} (th : Thing S0 x d) (k : Known c S0 x l1 l2 l3 l4 pf ps as1 as2 as3 as4 b1 b2 b3 b4 b5 b6)
    (hk : S0 pk = some (.lst (List.replicate 48 x))) (h : ∀ H', Same S0 H' → D.rt (.bl true) H') :
    tIfs K c D [some (.ref u), some x, some (.ref l1), some (.ref l2), some (.ref l3), some (.ref l4), some (.ref pf), some (.ref ps), some (.ref pk), none, none, none, none, none] S0 := by
  obtain ⟨r0, r1, r2, r3⟩ := Thing.rep (K := K) th
  -- repr(kept) != repr([thing] * len(kept))
  refine ⟨_, rfl, pk, _, _, rfl, SqL.of hk, r0, r1, r2, r3, ?_⟩
  refine ⟨_, rfl, (by show 1 ≤ sizeLine; decide), fun p1 n1 => ?_⟩
  have s1 : Same S0 (upd S0 p1 (.lst [x])) := same_new (fun _ _ e => e) n1
  refine ⟨_, rfl, pk, _, rfl, .inl (SqL.of (s1 _ _ hk)), p1, _, _, rfl, rfl, upd_same, ?_⟩
  rw [List.length_replicate]
  refine ⟨by decide, by decide, (by show 1 * 48 ≤ sizeLine; decide), fun p2 n2 => ?_⟩
  have ef : (List.replicate ((48 : Nat) : Int).toNat [x]).flatten = List.replicate 48 x := rfl
  rw [ef]
  generalize hG : upd (upd S0 p1 (HO.lst [x])) p2 (HO.lst (List.replicate 48 x)) = G
  have sG : Same S0 G := by rw [← hG]; exact same_new s1 n2
  have hp2 : G p2 = some (.lst (List.replicate 48 x)) := by rw [← hG]; exact upd_same
  obtain ⟨q0, _, _, _⟩ := Thing.rep (K := K) (th.same sG)
  refine ⟨p2, _, _, rfl, SqL.of hp2, q0, r1, r2, r3, rfl, _, rfl, iteNS rfl ?_⟩
  -- the lengths
  have kG := k.same sG
  refine ⟨_, rfl, l1, _, rfl, .inl (SqL.of kG.h1), _, rfl, l2, _, rfl, .inl (SqL.of kG.h2), _, rfl, l3, _, rfl, .inl (SqL.of kG.h3), _, rfl, l4, _, rfl, .inl (SqL.of kG.h4), ?_⟩
  rw [List.length_map, List.length_map, List.length_map, List.length_map, k.e1.len, k.e2.len, k.e3.len, k.e4.len]
  have da : ∀ G : Hp, DpAll K G [V.int 18, V.int 8, V.int 8, V.int 12] [.int 18, .int 8, .int 8, .int 12] := fun G => .cons (.int _) (.cons (.int _) (.cons (.int _) (.cons (.int _) .nil)))
  refine ⟨(by show 4 ≤ sizeLine; decide), fun p3 n3 => ⟨(by show 4 ≤ sizeLine; decide), fun p4 n4 => ?_⟩⟩
  have ne : p3 ≠ p4 := ne_of_none upd_same n4
  have hp3 : upd (upd G p3 (.lst [V.int 18, V.int 8, V.int 8, V.int 12])) p4 (.lst [V.int 18, V.int 8, V.int 8, V.int 12]) p3 = some (.lst [V.int 18, V.int 8, V.int 8, V.int 12]) := by
    rw [upd_ne ne, upd_same]
  refine ⟨.list [.int 18, .int 8, .int 8, .int 12], .list [.int 18, .int 8, .int 8, .int 12], .lst (SqL.of hp3) (da _), .lst (SqL.of upd_same) (da _), rfl, rfl, _, rfl, ?_⟩
  have ee : PyData.eqv (.list [.int 18, .int 8, .int 8, .int 12]) (.list [.int 18, .int 8, .int 8, .int 12]) = true := SeqAt.eqv_refl _ rfl
  rw [ee]
  refine iteF ?_
  have s34 : Same G (upd (upd G p3 (.lst [V.int 18, V.int 8, V.int 8, V.int 12])) p4 (.lst [V.int 18, V.int 8, V.int 8, V.int 12])) := same_new (same_new (fun _ _ e => e) n3) n4
  exact tail7 (kG.same s34) fun H' s' => h H' (same_trans sG (same_trans s34 s'))
theorem rest7 {D : Ends} {u : Addr} {x : V} {d : PyData} {H : Hp} (th : Thing H x d) (h : ∀ H', Same H H' → D.rt (.bl true) H') :
    tRest K c D [some (.ref u), some x, none, none, none, none, none, none, none, none, none, none, none, none] H := by
  -- values, places
  refine ⟨_, rfl, x, rfl, fun H2 p l1 l2 as1 as2 s2 hp hl1 hl2 e1 e2 => ⟨p, _, rfl, SqT.of hp, rfl, _, _, rfl, _, _, rfl, rfl, ?_⟩⟩
  -- named, sizes
  refine ⟨_, rfl, x, rfl, fun H3 p' l3 l4 as3 as4 s3 hp' hl3 hl4 e3 e4 => ⟨p', _, rfl, SqT.of hp', rfl, _, _, rfl, _, _, rfl, rfl, ?_⟩⟩
  -- faults, states
  refine ⟨_, rfl, fun b1 J1 r1 m1 f1 => ⟨_, rfl, fun b2 J2 r2 m2 f2 => fun b3 J3 r3 m3 f3 => fun b4 J4 r4 m4 f4 => ⟨(by show 4 ≤ sizeLine; decide), fun pf nf => ?_⟩⟩⟩
  generalize hF : upd J4 pf (HO.lst [V.ref b1, V.ref b2, V.ref b3, V.ref b4]) = F0
  have sF : Same J4 F0 := by rw [← hF]; exact same_new (fun _ _ e => e) nf
  have hpf : F0 pf = some (.lst [.ref b1, .ref b2, .ref b3, .ref b4]) := by rw [← hF]; exact upd_same
  refine fun b5 J5 r5 m5 f5 => fun b6 J6 r6 m6 f6 => ⟨(by show 2 ≤ sizeLine; decide), fun ps ns => ⟨_, _, rfl, ?_⟩⟩
  generalize hS : upd J6 ps (HO.lst [V.ref b5, V.ref b6]) = S0
  have sS : Same J6 S0 := by rw [← hS]; exact same_new (fun _ _ e => e) ns
  have hps : S0 ps = some (.lst [.ref b5, .ref b6]) := by rw [← hS]; exact upd_same
  have tF : Same F0 S0 := same_trans r5 (same_trans r6 sS)
  have t4 : Same J4 S0 := same_trans sF tF
  have t3 : Same J3 S0 := same_trans r4 t4
  have t2 : Same J2 S0 := same_trans r3 t3
  have t1 : Same J1 S0 := same_trans r2 t2
  have tH3 : Same H3 S0 := same_trans r1 t1
  have tH2 : Same H2 S0 := same_trans s3 tH3
  have tH : Same H S0 := same_trans s2 tH2
  refine kept7 (K := K) (D := D) (tb := tIfs K c) (u := u) ⟨tH2 _ _ hl1, tH2 _ _ hl2, tH3 _ _ hl3, tH3 _ _ hl4, e1.same tH2, e2.same tH2, e3.same tH3, e4.same tH3, tF _ _ hpf, hps, f1.same t1, f2.same t2, f3.same t3, f4.same t4, f5.same (same_trans r6 sS), f6.same sS⟩ ?_
  intro H' pk s' hpk
  have tt : Same H H' := same_trans tH s'
  refine ifs7 (th.same tt) (Known.same s' ⟨tH2 _ _ hl1, tH2 _ _ hl2, tH3 _ _ hl3, tH3 _ _ hl4, e1.same tH2, e2.same tH2, e3.same tH3, e4.same tH3, tF _ _ hpf, hps, f1.same t1, f2.same t2, f3.same t3, f4.same t4, f5.same (same_trans r6 sS), f6.same sS⟩) hpk ?_
  intro H2' s2'
  exact h H2' (same_trans tt s2')
end
end SQ7
namespace SQ7
open PySem L2 SQ
section
variable {P : Program} {w : World} {K : PySem.W.Frag} {mg : Str → Option Value} {base : Heap} {c cb : Nat → Addr}
theorem body7 {fL fOne fI fO fN fB : Addr} {fdL fdOne dI dO dN dB : FuncData} {fR : Addr} (B : Blt mg) (DW : Drw K mg fL fOne fdL fdOne) (T : T7 K mg c cb) (M : M7 mg) (HH : H7 K mg fI fO fN fB dI dO dN dB) (cdv : Value) (A : Around) (outer : List Env) (s : Shared) (H : Hp) (E : XK)
    (hgd : (A.deeper (PyProof.Rows.envOfC "_law_right" (defScope sRight) s.heap.objs.size fR cdv)).guards = some []) (hr : Room 2 (A.deeper (PyProof.Rows.envOfC "_law_right" (defScope sRight) s.heap.objs.size fR cdv))) :
    PSs (cxOf CX0 P w K mg base ["_law_urn_here", "_law_thing", "_law_values", "_law_places", "_law_named", "_law_sizes", "_law_faults", "_law_states", "_law_kept", "_law_groups", "_law_group", "_law_due", "_law_told", "_law_e"] "_law_right" (defScope sRight) fR cdv A outer s H E).nox (defBody sRight) (t7 K c) := by
  have GO1 : FnOk P w K mg base CX0 2 fOne fdOne ["_law_urn_here", "_law_things"] (spOne K) := ok_one DW B
  have GI : FnOk P w K mg base CX0 1 fI dI ["_law_thing"] (spIn c) := ok_in HH.FI T
  have GO : FnOk P w K mg base CX0 1 fO dO ["_law_thing"] (spOth c) := ok_oth HH.FO T
  have GN : FnOk P w K mg base CX0 1 fN dN ["_law_e"] (spIns c) := ok_ins HH.FN T
  have GB : FnOk P w K mg base CX0 1 fB dB ["_law_e"] (spBas c) := ok_bas HH.FB T B
  obtain ⟨t0, m0⟩ := M.m0
  obtain ⟨t1, m1⟩ := M.m1
  obtain ⟨t2, m2⟩ := M.m2
  obtain ⟨t3, m3⟩ := M.m3
  obtain ⟨t4, m4⟩ := M.m4
  obtain ⟨t5, m5⟩ := M.m5
  obtain ⟨t6, m6⟩ := M.m6
  have hr1 : Room 1 (A.deeper (PyProof.Rows.envOfC "_law_right" (defScope sRight) s.heap.objs.size fR cdv)) := hr.mono (by decide)
  exact (pss_cons (ps_set (i := 1) scR.nd rfl (.inl rfl) (pe_call GO1 hr rfl DW.gO DW.FO.kp DW.bO .nil pass0 (pa_cons (pv 0) (pa_cons (pe_lst (pa_cons pe_non (pa_cons pe_int (pa_cons pe_bl (pa_cons pe_str (pa_cons (pe_tup (pa_cons pe_int (pa_cons pe_str pa_nil))) (pa_cons (pe_lst (pa_cons pe_int pa_nil)) (pa_cons pe_dnewK (pa_cons (pe_op op_pow pe_int pe_int) (pa_cons (pe_tup pa_nil) (pa_cons (pe_un un_neg pe_int) pa_nil))))))))))) pa_nil))))
      (pss_cons (ps_asg (pe_call GI hr1 rfl HH.gI HH.FI.kp HH.bI .nil pass0 (pa_cons (pv 1) pa_nil)) (pg_tup rfl (pgs_cons (pg_name (i := 2) scR.nd rfl (Or.inl rfl)) (pgs_cons (pg_name (i := 3) scR.nd rfl (Or.inl rfl)) pgs_nil))))
      (pss_cons (ps_asg (pe_call GO hr1 rfl HH.gO HH.FO.kp HH.bO .nil pass0 (pa_cons (pv 1) pa_nil)) (pg_tup rfl (pgs_cons (pg_name (i := 4) scR.nd rfl (Or.inl rfl)) (pgs_cons (pg_name (i := 5) scR.nd rfl (Or.inl rfl)) pgs_nil))))
      (pss_cons (ps_par (i := 6) (j := 7) rfl scR.nd rfl rfl (by decide) rfl rfl (pa_cons (pe_lst (pa_cons (pe_errA (T.err 13 (by decide) rfl) (T.g 13 (by decide)) hr rfl (pv 1)) (pa_cons (pe_errAK (T.err 13 (by decide) rfl) (T.g 13 (by decide)) hr rfl (pv 1)) (pa_cons (pe_errN (T.non 14 (by decide) rfl) (T.g 14 (by decide)) rfl) (pa_cons (pe_errN (T.non 15 (by decide) rfl) (T.g 15 (by decide)) rfl) pa_nil))))) (pa_cons (pe_lst (pa_cons (pe_errN (T.non 20 (by decide) rfl) (T.g 20 (by decide)) rfl) (pa_cons (pe_errN (T.non 21 (by decide) rfl) (T.g 21 (by decide)) rfl) pa_nil))) pa_nil)) (by rfl))
      (pss_cons (ps_set (i := 8) scR.nd rfl (.inl rfl) (pe_op op_cat (pe_op op_cat (pe_lc (own := [("_law_e", 13)]) (g := gName 13) (tt := tYes) rfl scR.nd (pi_list (pe_op op_cat (pv 2) (pv 4))) (blkOk_by (N := nR) (sc := defScope sRight) (by decide +kernel)) (fun _ _ _ _ _ => pg_name (i := 13) scR.nd rfl (Or.inl rfl)) (fun _ _ _ _ _ => pts_nil) (fun _ _ _ _ _ => (pe_errGet (f := "value") (Has c "value") (has_err T) (pv 13) rfl))) (pe_lc (own := [("_law_e", 13)]) (g := gName 13) (tt := tYes) rfl scR.nd (pi_list (pe_op op_cat (pv 3) (pe_slice sl_list (pv 6) po_none (po_some pe_int)))) (blkOk_by (N := nR) (sc := defScope sRight) (by decide +kernel)) (fun _ _ _ _ _ => pg_name (i := 13) scR.nd rfl (Or.inl rfl)) (fun _ _ _ _ _ => pts_nil) (fun _ _ _ _ _ => (pe_errGet (f := "index") (Has c "index") (has_err T) (pv 13) rfl)))) (pe_lc (own := [("_law_e", 13)]) (g := gName 13) (tt := tYes) rfl scR.nd (pi_list (pv 5)) (blkOk_by (N := nR) (sc := defScope sRight) (by decide +kernel)) (fun _ _ _ _ _ => pg_name (i := 13) scR.nd rfl (Or.inl rfl)) (fun _ _ _ _ _ => pts_nil) (fun _ _ _ _ _ => (pe_errGet (f := "limit") (Has c "limit") (has_err T) (pv 13) rfl)))))
      (pss_cons (ps_if (pt_cmpR op_ne (pe_callB (cr_reprL hgd hr.units) (by rfl) T.rep (by decide +kernel) (pa_cons (pv 8) pa_nil)) (pe_callB (cr_reprL hgd hr.units) (by rfl) T.rep (by decide +kernel) (pa_cons (pe_op op_rep (pe_lst (pa_cons (pv 1) pa_nil)) (pe_callB call_len_seq (by rfl) B.len PySem.boot_len (pa_cons (pv 8) pa_nil))) pa_nil)) (nomark _)) (pss_one (ps_ret pe_bl)) pss_nil)
      (pss_cons (ps_if (pt_cmpR (op_neD hr.units) (pe_lst (pa_cons (pe_callB call_len_seq (by rfl) B.len PySem.boot_len (pa_cons (pv 2) pa_nil)) (pa_cons (pe_callB call_len_seq (by rfl) B.len PySem.boot_len (pa_cons (pv 3) pa_nil)) (pa_cons (pe_callB call_len_seq (by rfl) B.len PySem.boot_len (pa_cons (pv 4) pa_nil)) (pa_cons (pe_callB call_len_seq (by rfl) B.len PySem.boot_len (pa_cons (pv 5) pa_nil)) pa_nil))))) (pe_lst (pa_cons pe_int (pa_cons pe_int (pa_cons pe_int (pa_cons pe_int pa_nil))))) (nomark _)) (pss_one (ps_ret pe_bl)) pss_nil)
      (pss_cons (ps_set (i := 9) scR.nd rfl (.inl rfl) (pe_lst (pa_cons (pe_tup (pa_cons (pe_op op_cat (pv 2) (pv 3)) (pa_cons (pe_lst (pa_cons pe_int (pa_cons pe_int pa_nil))) pa_nil))) (pa_cons (pe_tup (pa_cons (pv 6) (pa_cons (pe_lst (pa_cons pe_int (pa_cons pe_int pa_nil))) pa_nil))) (pa_cons (pe_tup (pa_cons (pe_op op_cat (pv 4) (pv 7)) (pa_cons (pe_lst (pa_cons pe_int (pa_cons pe_int pa_nil))) pa_nil))) (pa_cons (pe_tup (pa_cons (pv 5) (pa_cons (pe_lst (pa_cons pe_int (pa_cons pe_int pa_nil))) pa_nil))) pa_nil))))))
      (pss_cons (ps_for PassesOwn.never rfl (pi_list (pv 9)) (pg_tup rfl (pgs_cons (pg_name (i := 10) scR.nd rfl (Or.inl rfl)) (pgs_cons (pg_name (i := 11) scR.nd rfl (Or.inr rfl)) pgs_nil))) (pss_one (ps_if (pt_not (pt_val (pe_callB (cr_all rfl) (by rfl) B.all (by decide +kernel) (pa_cons (pe_lc (own := [("_law_e", 13)]) (g := gName 13) (tt := tYes) (te := tEq7 K c) rfl scR.nd (pi_list (pv 10)) (blkOk_by (N := nR) (sc := defScope sRight) (by decide +kernel)) (fun _ _ _ _ _ => pg_name (i := 13) scR.nd rfl (Or.inl rfl)) (fun _ _ _ _ _ => pts_nil) (fun _ _ _ _ _ => (pe_and (pe_cmpR (op_eqD hr.units) (pe_call GB hr1 rfl HH.gB HH.FB.kp HH.bB .nil pass0 (pa_cons (pv 13) pa_nil)) (pv 11) (nomark _)) (pe_one (pe_cmpR op_eq (pe_call GN hr1 rfl HH.gN HH.FN.kp HH.bN .nil pass0 (pa_cons (pv 13) pa_nil)) pe_int (nomark _)))))) pa_nil)))) (pss_one (ps_ret pe_bl)) pss_nil)))
      (pss_cons (ps_set (i := 12) scR.nd rfl (.inl rfl) (pe_lst (pa_cons (pe_glob (v := .int 8) rfl m0 ⟨_, rfl⟩) (pa_cons (pe_glob (v := .int 60) rfl m1 ⟨_, rfl⟩) (pa_cons (pe_glob (v := .int 6) rfl m2 ⟨_, rfl⟩) (pa_cons (pe_glob (v := .int 2000) rfl m3 ⟨_, rfl⟩) (pa_cons (pe_glob (v := .int 64) rfl m4 ⟨_, rfl⟩) (pa_cons (pe_glob (v := .int 4) rfl m5 ⟨_, rfl⟩) (pa_cons (pe_glob (v := .int 20) rfl m6 ⟨_, rfl⟩) pa_nil)))))))))
      (pss_one (ps_ret (pe_cmpR (op_eqD hr.units) (pv 12) (pe_lst (pa_cons pe_int (pa_cons pe_int (pa_cons pe_int (pa_cons pe_int (pa_cons pe_int (pa_cons pe_int (pa_cons pe_int pa_nil)))))))) (nomark _))))))))))))))
end
end SQ7
namespace SQ7
open PySem L2 SQ
section
variable {K : PySem.W.Frag} {c : Nat → Addr}
theorem right7 {Q : VK} {D : Ends} {u : Addr} {H : Hp} (hD : D.rt = Q) (hu : urnAt H u) (q : ∀ H' : Hp, But u H H' → Q (.bl true) H') :
    t7 K c D [some (.ref u), none, none, none, none, none, none, none, none, none, none, none, none, none] H := by
  obtain ⟨x0, y0, z0, hu'⟩ := hu
  refine ⟨_, rfl, (by show 2 ≤ sizeLine; decide), fun a1 n1 => ?_⟩
  generalize hG1 : upd H a1 (HO.tup [V.int 2, V.str "y"]) = G1
  have s1 : Same H G1 := by rw [← hG1]; exact same_new (fun _ _ e => e) n1
  have h1 : G1 a1 = some (.tup [.int 2, .str "y"]) := by rw [← hG1]; exact upd_same
  refine ⟨(by show 1 ≤ sizeLine; decide), fun a2 n2 => ?_⟩
  generalize hG2 : upd G1 a2 (HO.lst [V.int 3]) = G2
  have s2 : Same G1 G2 := by rw [← hG2]; exact same_new (fun _ _ e => e) n2
  have h2 : G2 a2 = some (.lst [.int 3]) := by rw [← hG2]; exact upd_same
  intro a3 n3
  generalize hG3 : upd G2 a3 (HO.dK []) = G3
  have s3 : Same G2 G3 := by rw [← hG3]; exact same_new (fun _ _ e => e) n3
  have h3 : G3 a3 = some (.dK []) := by rw [← hG3]; exact upd_same
  refine ⟨_, _, rfl, rfl, ⟨by decide, by decide, by decide⟩, (by show 0 ≤ sizeLine; decide), fun a4 n4 => ?_⟩
  generalize hG4 : upd G3 a4 (HO.tup []) = G4
  have s4 : Same G3 G4 := by rw [← hG4]; exact same_new (fun _ _ e => e) n4
  have h4 : G4 a4 = some (.tup []) := by rw [← hG4]; exact upd_same
  refine ⟨_, rfl, (by show 10 ≤ sizeLine; decide), fun lt nlt => ?_⟩
  have s04 : Same H G4 := same_trans s1 (same_trans s2 (same_trans s3 s4))
  have hu4 := s04 _ _ hu'
  have h1' := s4 _ _ (s3 _ _ (s2 _ _ h1))
  have h2' := s4 _ _ (s3 _ _ h2)
  have h3' := s4 _ _ h3
  have nul : u ≠ lt := ne_of_none hu4 nlt
  refine ⟨u, lt, _, rfl, ⟨x0, y0, z0, by rw [upd_ne nul]; exact hu4⟩, nul, upd_same, (by show 0 < 10; decide), (by show 10 ≤ 1000; decide), fun K1 i x hx hu1 bt => ?_⟩
  have old : ∀ b o, G4 b = some o → b ≠ u → K1 b = some o := fun b o e n => bt b o (by rw [upd_ne (ne_of_none e nlt)]; exact e) n
  obtain ⟨d, th⟩ : ∃ d, Thing K1 x d := by
    match i, hx with
    | 0, e => cases e; exact ⟨_, .non⟩
    | 1, e => cases e; exact ⟨_, .zero⟩
    | 2, e => cases e; exact ⟨_, .fls⟩
    | 3, e => cases e; exact ⟨_, .x⟩
    | 4, e => cases e; exact ⟨_, .two (old _ _ h1' (ne_of h1' hu4 (by intro z; cases z)))⟩
    | 5, e => cases e; exact ⟨_, .three (old _ _ h2' (ne_of h2' hu4 (by intro z; cases z)))⟩
    | 6, e => cases e; exact ⟨_, .dic (old _ _ h3' (ne_of h3' hu4 (by intro z; cases z)))⟩
    | 7, e => cases e; exact ⟨_, .big⟩
    | 8, e => cases e; exact ⟨_, .emp (old _ _ h4 (ne_of h4 hu4 (by intro z; cases z)))⟩
    | 9, e => cases e; exact ⟨_, .neg⟩
  refine rest7 (K := K) (c := c) (D := D) (u := u) th ?_
  intro H' s'
  rw [hD]
  refine q H' fun b o e n => s' _ _ (old b o (s04 _ _ e) n)
end
section
variable {P : Program} {w : World} {K : PySem.W.Frag} {mg : Str → Option Value} {base : Heap} {c cb : Nat → Addr}
theorem ok_right {fR fL fOne fI fO fN fB : Addr} {fdR fdL fdOne dI dO dN dB : FuncData} (F : Fun K "_law_right" "_law_right" sRight fR fdR) (B : Blt mg) (DW : Drw K mg fL fOne fdL fdOne) (T : T7 K mg c cb) (M : M7 mg) (HH : H7 K mg fI fO fN fB dI dO dN dB) :
    FnG P w K mg base CX0 3 fR fdR ["_law_urn_here"] spRight := by
  refine okG F scR (fun vs H Q E h => ?_) (fun cdv A outer s H vs Q E hgd hr h => ?_)
  · obtain ⟨u, rfl, _⟩ := h
    rfl
  · obtain ⟨u, rfl, hu, q⟩ := h
    exact ⟨t7 K c, body7 B DW T M HH cdv A outer s H E hgd hr, right7 rfl hu q⟩
end
end SQ7
namespace SQ7
open PySem L2 SQ
def bmOf (b : Nat) : List Value := [.type (tnm b), .type "Exception", .type "BaseException", .type "object"]
def newOf (b : Nat) : String := (["ValueError.__new__", "TypeError.__new__", "LookupError.__new__", "ArithmeticError.__new__"] : List String).getD b ""
def iniOf (b : Nat) : String := (["ValueError.__init__", "TypeError.__init__", "LookupError.__init__", "ArithmeticError.__init__"] : List String).getD b ""
theorem baseOf : ∀ b, b < 4 → BaseB (tnm b) (newOf b) (iniOf b) (bmOf b)
  | 0, _ => bValue
  | 1, _ => bType
  | 2, _ => bLookup
  | 3, _ => bArith
theorem grp4 : ∀ i, i < 28 → grp i < 4 := by decide
theorem fldF : ∀ i, i < 28 → bare i = false → Fld (fld i) := by
  intro i hi hb
  unfold fld
  repeat' split
  · exact .inl rfl
  · exact .inr (.inl rfl)
  · exact .inl rfl
  · exact .inr (.inr rfl)
/-- all that one look at the written part tells -/
def chk1 (K : PySem.W.Frag) (cs fis : List Addr) (i : Nat) : Bool :=
  if bare i = true then PySem.W.excIn K (cs.getD i 0) (bmOf (grp i)) (newOf (grp i)) && PySem.W.keepIn K (.ref (cs.getD i 0))
  else errOk K (cs.getD i 0) (fld i) (bmOf (grp i)) (newOf (grp i)) && (PySem.W.findIn K (.ref (cs.getD i 0)) "__init__" == some (some (.ref (fis.getD i 0)))) && (PySem.W.typeIn K (.ref (fis.getD i 0)) == some (.type "function"))
def chkK (K : PySem.W.Frag) (cs : List Addr) (i : Nat) : Bool := (List.range 28).all fun j => PySem.W.kitOne K (.ref (cs.getD i 0)) (.ref (cs.getD j 0)) == some (decide (i = j))
def chkB (K : PySem.W.Frag) (cs bs : List Addr) (i : Nat) : Bool := (List.range 4).all fun b => (PySem.W.kitOne K (.ref (cs.getD i 0)) (.ref (bs.getD b 0)) == some (decide (grp i = b))) && (PySem.W.kitOne K (.ref (cs.getD i 0)) (.type (tnm b)) == some (decide (grp i = b)))
def chkF (K : PySem.W.Frag) : Bool := (PySem.W.specialIn K (.builtin "object.__class__") "__get__" == some (some (.builtin "getset_descriptor.__get__"))) && (PySem.W.takesIn K (.builtin "object.__class__") == some true)
def chkA (K : PySem.W.Frag) (cs fis : List Addr) : Bool := (List.range 28).all fun i => chk1 K cs fis i && isOk K (cs.getD i 0)
def chkC (K : PySem.W.Frag) (cs bs : List Addr) : Bool := (List.range 28).all fun i => chkK K cs i && chkB K cs bs i
theorem range_all {n : Nat} {p : Nat → Bool} (h : (List.range n).all p = true) (i : Nat) (hi : i < n) : p i = true := List.all_eq_true.mp h i (List.mem_range.mpr hi)
theorem t7_of {K : PySem.W.Frag} {mg : Str → Option Value} {cs fis bs : List Addr} (hA : chkA K cs fis = true) (hC : chkC K cs bs = true) (hF : chkF K = true) (g : ∀ i, i < 28 → mg (nm i) = some (.ref (cs.getD i 0))) (gb : ∀ b, b < 4 → mg (bnm b) = some (.ref (bs.getD b 0)))
    (gt : ∀ b, b < 4 → mg (tnm b) = none) (iss : mg "isinstance" = none) (rep : mg "repr" = none) (ini : ∀ i, i < 28 → bare i = false → ∃ (qual : Str) (oc : Value) (od : Option Addr) (doc pm : Value) (an : Option Addr) (cdv ct : Value) (osl : Array (Option Value)) (p1 p2 q1 q2 q3 q4 : Pos),
      K.lookup (fis.getD i 0) = some ⟨oc, od, .func (PySem.W.fnOf "__init__" qual (iArgs (fld i) p1 p2) (iBody (fld i) q1 q2 q3 q4) (iScope (fld i)) .none .none doc pm an cdv ct), osl⟩ ∧ PySem.W.codeIn K cdv qual = true) :
    T7 K mg (fun i => cs.getD i 0) (fun b => bs.getD b 0) := by
  have a1 : ∀ i, i < 28 → chk1 K cs fis i = true ∧ isOk K (cs.getD i 0) = true := fun i hi => by
    have := range_all hA i hi
    rwa [Bool.and_eq_true] at this
  have c1 : ∀ i, i < 28 → chkK K cs i = true ∧ chkB K cs bs i = true := fun i hi => by
    have := range_all hC i hi
    rwa [Bool.and_eq_true] at this
  have b1 : ∀ i b, i < 28 → b < 4 → _ := fun i b hi hb => range_all (c1 i hi).2 b hb
  refine ⟨g, gb, gt, iss, rep, fun i hi hb => ?_, fun i hi hb => ?_, fun i hi => IsC.of (a1 i hi).2, ?_, fun i j hi hj => beq_iff_eq.mp (range_all (c1 i hi).1 j hj), fun i b hi hb => ?_, fun i b hi hb => ?_⟩
  · have h := (a1 i hi).1
    unfold chk1 at h
    rw [if_neg (by rw [hb]; decide), Bool.and_eq_true, Bool.and_eq_true, beq_iff_eq, beq_iff_eq] at h
    obtain ⟨⟨h1, h2⟩, h3⟩ := h
    exact ⟨fldF i hi hb, _, _, _, _, _, baseOf _ (grp4 i hi), ErrC.of h1, ⟨h2, h3, ini i hi hb⟩⟩
  · have h := (a1 i hi).1
    unfold chk1 at h
    rw [if_pos hb, Bool.and_eq_true] at h
    exact ⟨_, _, _, _, (baseOf _ (grp4 i hi)).fb, h.1, h.2⟩
  · unfold chkF at hF
    rw [Bool.and_eq_true, beq_iff_eq, beq_iff_eq] at hF
    exact ⟨hF.1, hF.2⟩
  · have h := b1 i b hi hb
    rw [Bool.and_eq_true, beq_iff_eq, beq_iff_eq] at h
    exact h.1
  · have h := b1 i b hi hb
    rw [Bool.and_eq_true, beq_iff_eq, beq_iff_eq] at h
    exact h.2
theorem all_mk {l : PySem.W.OpenLaw} {w : World} {K : PySem.W.Frag} {h : Heap} {mg : Str → Option Value} {fa C0 C1 C2 C3 C4 C5 C6 C7 C8 C9 C10 C11 C12 C13 C14 C15 C16 C17 C18 C19 C20 C21 C22 C23 C24 C25 C26 C27 D0 D1 D2 D3 I0 I1 I2 I3 I4 I5 I6 I7 I8 I9 I10 I11 I12 I13 I16 I17 I18 I19 I22 I23 I24 I25 I26 I27 f_law_urn f_law_lot f_law_one f_law_input_errors f_law_other_errors f_law_instances f_law_bases f_law_right flaw : Addr} {u_0 u_1 u_2 u_3 u_4 u_5 u_6 : Tok}
    {oc0 dc0 pm0 cd0 ct0 : Value} {od0 an0 : Option Addr} {sl0 : Array (Option Value)}
    {oc1 dc1 pm1 cd1 ct1 : Value} {od1 an1 : Option Addr} {sl1 : Array (Option Value)}
    {oc2 dc2 pm2 cd2 ct2 : Value} {od2 an2 : Option Addr} {sl2 : Array (Option Value)}
    {oc3 dc3 pm3 cd3 ct3 : Value} {od3 an3 : Option Addr} {sl3 : Array (Option Value)}
    {oc4 dc4 pm4 cd4 ct4 : Value} {od4 an4 : Option Addr} {sl4 : Array (Option Value)}
    {oc5 dc5 pm5 cd5 ct5 : Value} {od5 an5 : Option Addr} {sl5 : Array (Option Value)}
    {oc6 dc6 pm6 cd6 ct6 : Value} {od6 an6 : Option Addr} {sl6 : Array (Option Value)}
    {oc7 dc7 pm7 cd7 ct7 : Value} {od7 an7 : Option Addr} {sl7 : Array (Option Value)}
    {oc8 dc8 pm8 cd8 ct8 : Value} {od8 an8 : Option Addr} {sl8 : Array (Option Value)}
    {oc9 dc9 pm9 cd9 ct9 : Value} {od9 an9 : Option Addr} {sl9 : Array (Option Value)}
    {oc10 dc10 pm10 cd10 ct10 : Value} {od10 an10 : Option Addr} {sl10 : Array (Option Value)}
    {oc11 dc11 pm11 cd11 ct11 : Value} {od11 an11 : Option Addr} {sl11 : Array (Option Value)}
    {oc12 dc12 pm12 cd12 ct12 : Value} {od12 an12 : Option Addr} {sl12 : Array (Option Value)}
    {oc13 dc13 pm13 cd13 ct13 : Value} {od13 an13 : Option Addr} {sl13 : Array (Option Value)}
    {oc16 dc16 pm16 cd16 ct16 : Value} {od16 an16 : Option Addr} {sl16 : Array (Option Value)}
    {oc17 dc17 pm17 cd17 ct17 : Value} {od17 an17 : Option Addr} {sl17 : Array (Option Value)}
    {oc18 dc18 pm18 cd18 ct18 : Value} {od18 an18 : Option Addr} {sl18 : Array (Option Value)}
    {oc19 dc19 pm19 cd19 ct19 : Value} {od19 an19 : Option Addr} {sl19 : Array (Option Value)}
    {oc22 dc22 pm22 cd22 ct22 : Value} {od22 an22 : Option Addr} {sl22 : Array (Option Value)}
    {oc23 dc23 pm23 cd23 ct23 : Value} {od23 an23 : Option Addr} {sl23 : Array (Option Value)}
    {oc24 dc24 pm24 cd24 ct24 : Value} {od24 an24 : Option Addr} {sl24 : Array (Option Value)}
    {oc25 dc25 pm25 cd25 ct25 : Value} {od25 an25 : Option Addr} {sl25 : Array (Option Value)}
    {oc26 dc26 pm26 cd26 ct26 : Value} {od26 an26 : Option Addr} {sl26 : Array (Option Value)}
    {oc27 dc27 pm27 cd27 ct27 : Value} {od27 an27 : Option Addr} {sl27 : Array (Option Value)}
    {oc_0 kV_0 dc_0 pm_0 cd_0 ct_0 : Value} {od_0 an_0 : Option Addr} {sl_0 : Array (Option Value)}
    {oc_1 kV_1 dc_1 pm_1 cd_1 ct_1 : Value} {od_1 an_1 : Option Addr} {sl_1 : Array (Option Value)}
    {oc_2 kV_2 dc_2 pm_2 cd_2 ct_2 : Value} {od_2 an_2 : Option Addr} {sl_2 : Array (Option Value)}
    {oc_3 kV_3 dc_3 pm_3 cd_3 ct_3 : Value} {od_3 an_3 : Option Addr} {sl_3 : Array (Option Value)}
    {oc_4 kV_4 dc_4 pm_4 cd_4 ct_4 : Value} {od_4 an_4 : Option Addr} {sl_4 : Array (Option Value)}
    {oc_5 kV_5 dc_5 pm_5 cd_5 ct_5 : Value} {od_5 an_5 : Option Addr} {sl_5 : Array (Option Value)}
    {oc_6 kV_6 dc_6 pm_6 cd_6 ct_6 : Value} {od_6 an_6 : Option Addr} {sl_6 : Array (Option Value)}
    {oc_7 kV_7 dc_7 pm_7 cd_7 ct_7 : Value} {od_7 an_7 : Option Addr} {sl_7 : Array (Option Value)}
    {oc_8 kV_8 dc_8 pm_8 cd_8 ct_8 : Value} {od_8 an_8 : Option Addr} {sl_8 : Array (Option Value)}
    (X : K.In h) (G : h.Ns mainGlobals mg) (hfa : mg "law" = some (.ref fa))
    (n0 : PySem.W.nsIn K mainGlobals "NotAVocabulary" = some (some (.ref C0)))
    (n1 : PySem.W.nsIn K mainGlobals "NotAProgram" = some (some (.ref C1)))
    (n2 : PySem.W.nsIn K mainGlobals "NotALibrary" = some (some (.ref C2)))
    (n3 : PySem.W.nsIn K mainGlobals "InvalidText" = some (some (.ref C3)))
    (n4 : PySem.W.nsIn K mainGlobals "InvalidPlace" = some (some (.ref C4)))
    (n5 : PySem.W.nsIn K mainGlobals "InvalidFunctions" = some (some (.ref C5)))
    (n6 : PySem.W.nsIn K mainGlobals "InvalidResult" = some (some (.ref C6)))
    (n7 : PySem.W.nsIn K mainGlobals "InvalidName" = some (some (.ref C7)))
    (n8 : PySem.W.nsIn K mainGlobals "InvalidRow" = some (some (.ref C8)))
    (n9 : PySem.W.nsIn K mainGlobals "InvalidEntries" = some (some (.ref C9)))
    (n10 : PySem.W.nsIn K mainGlobals "InvalidStack" = some (some (.ref C10)))
    (n11 : PySem.W.nsIn K mainGlobals "InvalidWords" = some (some (.ref C11)))
    (n12 : PySem.W.nsIn K mainGlobals "InvalidDeeds" = some (some (.ref C12)))
    (n13 : PySem.W.nsIn K mainGlobals "NoEffect" = some (some (.ref C13)))
    (n14 : PySem.W.nsIn K mainGlobals "Mismatch" = some (some (.ref C14)))
    (n15 : PySem.W.nsIn K mainGlobals "HigherOrder" = some (some (.ref C15)))
    (n16 : PySem.W.nsIn K mainGlobals "NameTaken" = some (some (.ref C16)))
    (n17 : PySem.W.nsIn K mainGlobals "NameMissing" = some (some (.ref C17)))
    (n18 : PySem.W.nsIn K mainGlobals "NameUsed" = some (some (.ref C18)))
    (n19 : PySem.W.nsIn K mainGlobals "NotEquivalent" = some (some (.ref C19)))
    (n20 : PySem.W.nsIn K mainGlobals "NothingToUndo" = some (some (.ref C20)))
    (n21 : PySem.W.nsIn K mainGlobals "Busy" = some (some (.ref C21)))
    (n22 : PySem.W.nsIn K mainGlobals "TooLarge" = some (some (.ref C22)))
    (n23 : PySem.W.nsIn K mainGlobals "TooDeep" = some (some (.ref C23)))
    (n24 : PySem.W.nsIn K mainGlobals "TooLong" = some (some (.ref C24)))
    (n25 : PySem.W.nsIn K mainGlobals "TooManyCases" = some (some (.ref C25)))
    (n26 : PySem.W.nsIn K mainGlobals "TooManyDefinitions" = some (some (.ref C26)))
    (n27 : PySem.W.nsIn K mainGlobals "TooShort" = some (some (.ref C27)))
    (o0 : PySem.W.nsIn K mainGlobals "InputError" = some (some (.ref D0)))
    (o1 : PySem.W.nsIn K mainGlobals "ProgramError" = some (some (.ref D1)))
    (o2 : PySem.W.nsIn K mainGlobals "LibraryError" = some (some (.ref D2)))
    (o3 : PySem.W.nsIn K mainGlobals "SizeError" = some (some (.ref D3)))
    (x0 : PySem.W.findIn K (.ref C0) "__init__" = some (some (.ref I0)))
    (l0 : K.lookup I0 = some ⟨oc0, od0, .func (PySem.W.fnOf "__init__" "NotAVocabulary.__init__" (iArgs "value" ⟨6, 17, 6, 21⟩ ⟨6, 23, 6, 28⟩) (iBody "value" ⟨7, 8, 7, 12⟩ ⟨7, 8, 7, 18⟩ ⟨7, 21, 7, 26⟩ ⟨7, 8, 7, 26⟩) (iScope "value") .none .none dc0 pm0 an0 cd0 ct0), sl0⟩)
    (y0 : PySem.W.codeIn K cd0 "NotAVocabulary.__init__" = true)
    (x1 : PySem.W.findIn K (.ref C1) "__init__" = some (some (.ref I1)))
    (l1 : K.lookup I1 = some ⟨oc1, od1, .func (PySem.W.fnOf "__init__" "NotAProgram.__init__" (iArgs "value" ⟨10, 17, 10, 21⟩ ⟨10, 23, 10, 28⟩) (iBody "value" ⟨11, 8, 11, 12⟩ ⟨11, 8, 11, 18⟩ ⟨11, 21, 11, 26⟩ ⟨11, 8, 11, 26⟩) (iScope "value") .none .none dc1 pm1 an1 cd1 ct1), sl1⟩)
    (y1 : PySem.W.codeIn K cd1 "NotAProgram.__init__" = true)
    (x2 : PySem.W.findIn K (.ref C2) "__init__" = some (some (.ref I2)))
    (l2 : K.lookup I2 = some ⟨oc2, od2, .func (PySem.W.fnOf "__init__" "NotALibrary.__init__" (iArgs "value" ⟨14, 17, 14, 21⟩ ⟨14, 23, 14, 28⟩) (iBody "value" ⟨15, 8, 15, 12⟩ ⟨15, 8, 15, 18⟩ ⟨15, 21, 15, 26⟩ ⟨15, 8, 15, 26⟩) (iScope "value") .none .none dc2 pm2 an2 cd2 ct2), sl2⟩)
    (y2 : PySem.W.codeIn K cd2 "NotALibrary.__init__" = true)
    (x3 : PySem.W.findIn K (.ref C3) "__init__" = some (some (.ref I3)))
    (l3 : K.lookup I3 = some ⟨oc3, od3, .func (PySem.W.fnOf "__init__" "InvalidText.__init__" (iArgs "value" ⟨18, 17, 18, 21⟩ ⟨18, 23, 18, 28⟩) (iBody "value" ⟨19, 8, 19, 12⟩ ⟨19, 8, 19, 18⟩ ⟨19, 21, 19, 26⟩ ⟨19, 8, 19, 26⟩) (iScope "value") .none .none dc3 pm3 an3 cd3 ct3), sl3⟩)
    (y3 : PySem.W.codeIn K cd3 "InvalidText.__init__" = true)
    (x4 : PySem.W.findIn K (.ref C4) "__init__" = some (some (.ref I4)))
    (l4 : K.lookup I4 = some ⟨oc4, od4, .func (PySem.W.fnOf "__init__" "InvalidPlace.__init__" (iArgs "value" ⟨22, 17, 22, 21⟩ ⟨22, 23, 22, 28⟩) (iBody "value" ⟨23, 8, 23, 12⟩ ⟨23, 8, 23, 18⟩ ⟨23, 21, 23, 26⟩ ⟨23, 8, 23, 26⟩) (iScope "value") .none .none dc4 pm4 an4 cd4 ct4), sl4⟩)
    (y4 : PySem.W.codeIn K cd4 "InvalidPlace.__init__" = true)
    (x5 : PySem.W.findIn K (.ref C5) "__init__" = some (some (.ref I5)))
    (l5 : K.lookup I5 = some ⟨oc5, od5, .func (PySem.W.fnOf "__init__" "InvalidFunctions.__init__" (iArgs "value" ⟨26, 17, 26, 21⟩ ⟨26, 23, 26, 28⟩) (iBody "value" ⟨27, 8, 27, 12⟩ ⟨27, 8, 27, 18⟩ ⟨27, 21, 27, 26⟩ ⟨27, 8, 27, 26⟩) (iScope "value") .none .none dc5 pm5 an5 cd5 ct5), sl5⟩)
    (y5 : PySem.W.codeIn K cd5 "InvalidFunctions.__init__" = true)
    (x6 : PySem.W.findIn K (.ref C6) "__init__" = some (some (.ref I6)))
    (l6 : K.lookup I6 = some ⟨oc6, od6, .func (PySem.W.fnOf "__init__" "InvalidResult.__init__" (iArgs "value" ⟨30, 17, 30, 21⟩ ⟨30, 23, 30, 28⟩) (iBody "value" ⟨31, 8, 31, 12⟩ ⟨31, 8, 31, 18⟩ ⟨31, 21, 31, 26⟩ ⟨31, 8, 31, 26⟩) (iScope "value") .none .none dc6 pm6 an6 cd6 ct6), sl6⟩)
    (y6 : PySem.W.codeIn K cd6 "InvalidResult.__init__" = true)
    (x7 : PySem.W.findIn K (.ref C7) "__init__" = some (some (.ref I7)))
    (l7 : K.lookup I7 = some ⟨oc7, od7, .func (PySem.W.fnOf "__init__" "InvalidName.__init__" (iArgs "value" ⟨34, 17, 34, 21⟩ ⟨34, 23, 34, 28⟩) (iBody "value" ⟨35, 8, 35, 12⟩ ⟨35, 8, 35, 18⟩ ⟨35, 21, 35, 26⟩ ⟨35, 8, 35, 26⟩) (iScope "value") .none .none dc7 pm7 an7 cd7 ct7), sl7⟩)
    (y7 : PySem.W.codeIn K cd7 "InvalidName.__init__" = true)
    (x8 : PySem.W.findIn K (.ref C8) "__init__" = some (some (.ref I8)))
    (l8 : K.lookup I8 = some ⟨oc8, od8, .func (PySem.W.fnOf "__init__" "InvalidRow.__init__" (iArgs "value" ⟨38, 17, 38, 21⟩ ⟨38, 23, 38, 28⟩) (iBody "value" ⟨39, 8, 39, 12⟩ ⟨39, 8, 39, 18⟩ ⟨39, 21, 39, 26⟩ ⟨39, 8, 39, 26⟩) (iScope "value") .none .none dc8 pm8 an8 cd8 ct8), sl8⟩)
    (y8 : PySem.W.codeIn K cd8 "InvalidRow.__init__" = true)
    (x9 : PySem.W.findIn K (.ref C9) "__init__" = some (some (.ref I9)))
    (l9 : K.lookup I9 = some ⟨oc9, od9, .func (PySem.W.fnOf "__init__" "InvalidEntries.__init__" (iArgs "index" ⟨42, 17, 42, 21⟩ ⟨42, 23, 42, 28⟩) (iBody "index" ⟨43, 8, 43, 12⟩ ⟨43, 8, 43, 18⟩ ⟨43, 21, 43, 26⟩ ⟨43, 8, 43, 26⟩) (iScope "index") .none .none dc9 pm9 an9 cd9 ct9), sl9⟩)
    (y9 : PySem.W.codeIn K cd9 "InvalidEntries.__init__" = true)
    (x10 : PySem.W.findIn K (.ref C10) "__init__" = some (some (.ref I10)))
    (l10 : K.lookup I10 = some ⟨oc10, od10, .func (PySem.W.fnOf "__init__" "InvalidStack.__init__" (iArgs "index" ⟨46, 17, 46, 21⟩ ⟨46, 23, 46, 28⟩) (iBody "index" ⟨47, 8, 47, 12⟩ ⟨47, 8, 47, 18⟩ ⟨47, 21, 47, 26⟩ ⟨47, 8, 47, 26⟩) (iScope "index") .none .none dc10 pm10 an10 cd10 ct10), sl10⟩)
    (y10 : PySem.W.codeIn K cd10 "InvalidStack.__init__" = true)
    (x11 : PySem.W.findIn K (.ref C11) "__init__" = some (some (.ref I11)))
    (l11 : K.lookup I11 = some ⟨oc11, od11, .func (PySem.W.fnOf "__init__" "InvalidWords.__init__" (iArgs "index" ⟨50, 17, 50, 21⟩ ⟨50, 23, 50, 28⟩) (iBody "index" ⟨51, 8, 51, 12⟩ ⟨51, 8, 51, 18⟩ ⟨51, 21, 51, 26⟩ ⟨51, 8, 51, 26⟩) (iScope "index") .none .none dc11 pm11 an11 cd11 ct11), sl11⟩)
    (y11 : PySem.W.codeIn K cd11 "InvalidWords.__init__" = true)
    (x12 : PySem.W.findIn K (.ref C12) "__init__" = some (some (.ref I12)))
    (l12 : K.lookup I12 = some ⟨oc12, od12, .func (PySem.W.fnOf "__init__" "InvalidDeeds.__init__" (iArgs "index" ⟨54, 17, 54, 21⟩ ⟨54, 23, 54, 28⟩) (iBody "index" ⟨55, 8, 55, 12⟩ ⟨55, 8, 55, 18⟩ ⟨55, 21, 55, 26⟩ ⟨55, 8, 55, 26⟩) (iScope "index") .none .none dc12 pm12 an12 cd12 ct12), sl12⟩)
    (y12 : PySem.W.codeIn K cd12 "InvalidDeeds.__init__" = true)
    (x13 : PySem.W.findIn K (.ref C13) "__init__" = some (some (.ref I13)))
    (l13 : K.lookup I13 = some ⟨oc13, od13, .func (PySem.W.fnOf "__init__" "NoEffect.__init__" (iArgs "index" ⟨60, 17, 60, 21⟩ ⟨60, 23, 60, 28⟩) (iBody "index" ⟨61, 8, 61, 12⟩ ⟨61, 8, 61, 18⟩ ⟨61, 21, 61, 26⟩ ⟨61, 8, 61, 26⟩) (iScope "index") .none .none dc13 pm13 an13 cd13 ct13), sl13⟩)
    (y13 : PySem.W.codeIn K cd13 "NoEffect.__init__" = true)
    (x16 : PySem.W.findIn K (.ref C16) "__init__" = some (some (.ref I16)))
    (l16 : K.lookup I16 = some ⟨oc16, od16, .func (PySem.W.fnOf "__init__" "NameTaken.__init__" (iArgs "value" ⟨70, 17, 70, 21⟩ ⟨70, 23, 70, 28⟩) (iBody "value" ⟨71, 8, 71, 12⟩ ⟨71, 8, 71, 18⟩ ⟨71, 21, 71, 26⟩ ⟨71, 8, 71, 26⟩) (iScope "value") .none .none dc16 pm16 an16 cd16 ct16), sl16⟩)
    (y16 : PySem.W.codeIn K cd16 "NameTaken.__init__" = true)
    (x17 : PySem.W.findIn K (.ref C17) "__init__" = some (some (.ref I17)))
    (l17 : K.lookup I17 = some ⟨oc17, od17, .func (PySem.W.fnOf "__init__" "NameMissing.__init__" (iArgs "value" ⟨74, 17, 74, 21⟩ ⟨74, 23, 74, 28⟩) (iBody "value" ⟨75, 8, 75, 12⟩ ⟨75, 8, 75, 18⟩ ⟨75, 21, 75, 26⟩ ⟨75, 8, 75, 26⟩) (iScope "value") .none .none dc17 pm17 an17 cd17 ct17), sl17⟩)
    (y17 : PySem.W.codeIn K cd17 "NameMissing.__init__" = true)
    (x18 : PySem.W.findIn K (.ref C18) "__init__" = some (some (.ref I18)))
    (l18 : K.lookup I18 = some ⟨oc18, od18, .func (PySem.W.fnOf "__init__" "NameUsed.__init__" (iArgs "value" ⟨78, 17, 78, 21⟩ ⟨78, 23, 78, 28⟩) (iBody "value" ⟨79, 8, 79, 12⟩ ⟨79, 8, 79, 18⟩ ⟨79, 21, 79, 26⟩ ⟨79, 8, 79, 26⟩) (iScope "value") .none .none dc18 pm18 an18 cd18 ct18), sl18⟩)
    (y18 : PySem.W.codeIn K cd18 "NameUsed.__init__" = true)
    (x19 : PySem.W.findIn K (.ref C19) "__init__" = some (some (.ref I19)))
    (l19 : K.lookup I19 = some ⟨oc19, od19, .func (PySem.W.fnOf "__init__" "NotEquivalent.__init__" (iArgs "value" ⟨82, 17, 82, 21⟩ ⟨82, 23, 82, 28⟩) (iBody "value" ⟨83, 8, 83, 12⟩ ⟨83, 8, 83, 18⟩ ⟨83, 21, 83, 26⟩ ⟨83, 8, 83, 26⟩) (iScope "value") .none .none dc19 pm19 an19 cd19 ct19), sl19⟩)
    (y19 : PySem.W.codeIn K cd19 "NotEquivalent.__init__" = true)
    (x22 : PySem.W.findIn K (.ref C22) "__init__" = some (some (.ref I22)))
    (l22 : K.lookup I22 = some ⟨oc22, od22, .func (PySem.W.fnOf "__init__" "TooLarge.__init__" (iArgs "limit" ⟨92, 17, 92, 21⟩ ⟨92, 23, 92, 28⟩) (iBody "limit" ⟨93, 8, 93, 12⟩ ⟨93, 8, 93, 18⟩ ⟨93, 21, 93, 26⟩ ⟨93, 8, 93, 26⟩) (iScope "limit") .none .none dc22 pm22 an22 cd22 ct22), sl22⟩)
    (y22 : PySem.W.codeIn K cd22 "TooLarge.__init__" = true)
    (x23 : PySem.W.findIn K (.ref C23) "__init__" = some (some (.ref I23)))
    (l23 : K.lookup I23 = some ⟨oc23, od23, .func (PySem.W.fnOf "__init__" "TooDeep.__init__" (iArgs "limit" ⟨96, 17, 96, 21⟩ ⟨96, 23, 96, 28⟩) (iBody "limit" ⟨97, 8, 97, 12⟩ ⟨97, 8, 97, 18⟩ ⟨97, 21, 97, 26⟩ ⟨97, 8, 97, 26⟩) (iScope "limit") .none .none dc23 pm23 an23 cd23 ct23), sl23⟩)
    (y23 : PySem.W.codeIn K cd23 "TooDeep.__init__" = true)
    (x24 : PySem.W.findIn K (.ref C24) "__init__" = some (some (.ref I24)))
    (l24 : K.lookup I24 = some ⟨oc24, od24, .func (PySem.W.fnOf "__init__" "TooLong.__init__" (iArgs "limit" ⟨100, 17, 100, 21⟩ ⟨100, 23, 100, 28⟩) (iBody "limit" ⟨101, 8, 101, 12⟩ ⟨101, 8, 101, 18⟩ ⟨101, 21, 101, 26⟩ ⟨101, 8, 101, 26⟩) (iScope "limit") .none .none dc24 pm24 an24 cd24 ct24), sl24⟩)
    (y24 : PySem.W.codeIn K cd24 "TooLong.__init__" = true)
    (x25 : PySem.W.findIn K (.ref C25) "__init__" = some (some (.ref I25)))
    (l25 : K.lookup I25 = some ⟨oc25, od25, .func (PySem.W.fnOf "__init__" "TooManyCases.__init__" (iArgs "limit" ⟨104, 17, 104, 21⟩ ⟨104, 23, 104, 28⟩) (iBody "limit" ⟨105, 8, 105, 12⟩ ⟨105, 8, 105, 18⟩ ⟨105, 21, 105, 26⟩ ⟨105, 8, 105, 26⟩) (iScope "limit") .none .none dc25 pm25 an25 cd25 ct25), sl25⟩)
    (y25 : PySem.W.codeIn K cd25 "TooManyCases.__init__" = true)
    (x26 : PySem.W.findIn K (.ref C26) "__init__" = some (some (.ref I26)))
    (l26 : K.lookup I26 = some ⟨oc26, od26, .func (PySem.W.fnOf "__init__" "TooManyDefinitions.__init__" (iArgs "limit" ⟨108, 17, 108, 21⟩ ⟨108, 23, 108, 28⟩) (iBody "limit" ⟨109, 8, 109, 12⟩ ⟨109, 8, 109, 18⟩ ⟨109, 21, 109, 26⟩ ⟨109, 8, 109, 26⟩) (iScope "limit") .none .none dc26 pm26 an26 cd26 ct26), sl26⟩)
    (y26 : PySem.W.codeIn K cd26 "TooManyDefinitions.__init__" = true)
    (x27 : PySem.W.findIn K (.ref C27) "__init__" = some (some (.ref I27)))
    (l27 : K.lookup I27 = some ⟨oc27, od27, .func (PySem.W.fnOf "__init__" "TooShort.__init__" (iArgs "limit" ⟨112, 17, 112, 21⟩ ⟨112, 23, 112, 28⟩) (iBody "limit" ⟨113, 8, 113, 12⟩ ⟨113, 8, 113, 18⟩ ⟨113, 21, 113, 26⟩ ⟨113, 8, 113, 26⟩) (iScope "limit") .none .none dc27 pm27 an27 cd27 ct27), sl27⟩)
    (y27 : PySem.W.codeIn K cd27 "TooShort.__init__" = true)
    (a_0 : PySem.W.nsIn K mainGlobals "_law_urn" = some (some (.ref f_law_urn)))
    (l_0 : K.lookup f_law_urn = some ⟨oc_0, od_0, .func (PySem.W.fnOf "_law_urn" "_law_urn" (defArgs sUrn) (defBody sUrn) (defScope sUrn) .none kV_0 dc_0 pm_0 an_0 cd_0 ct_0), sl_0⟩)
    (c_0 : PySem.W.codeIn K cd_0 "_law_urn" = true)
    (k_0 : PySem.W.keepIn K (.ref f_law_urn) = true)
    (a_1 : PySem.W.nsIn K mainGlobals "_law_lot" = some (some (.ref f_law_lot)))
    (l_1 : K.lookup f_law_lot = some ⟨oc_1, od_1, .func (PySem.W.fnOf "_law_lot" "_law_lot" (defArgs sLot) (defBody sLot) (defScope sLot) .none kV_1 dc_1 pm_1 an_1 cd_1 ct_1), sl_1⟩)
    (c_1 : PySem.W.codeIn K cd_1 "_law_lot" = true)
    (k_1 : PySem.W.keepIn K (.ref f_law_lot) = true)
    (a_2 : PySem.W.nsIn K mainGlobals "_law_one" = some (some (.ref f_law_one)))
    (l_2 : K.lookup f_law_one = some ⟨oc_2, od_2, .func (PySem.W.fnOf "_law_one" "_law_one" (defArgs sOne) (defBody sOne) (defScope sOne) .none kV_2 dc_2 pm_2 an_2 cd_2 ct_2), sl_2⟩)
    (c_2 : PySem.W.codeIn K cd_2 "_law_one" = true)
    (k_2 : PySem.W.keepIn K (.ref f_law_one) = true)
    (a_3 : PySem.W.nsIn K mainGlobals "_law_input_errors" = some (some (.ref f_law_input_errors)))
    (l_3 : K.lookup f_law_input_errors = some ⟨oc_3, od_3, .func (PySem.W.fnOf "_law_input_errors" "_law_input_errors" (defArgs sIn) (defBody sIn) (defScope sIn) .none kV_3 dc_3 pm_3 an_3 cd_3 ct_3), sl_3⟩)
    (c_3 : PySem.W.codeIn K cd_3 "_law_input_errors" = true)
    (k_3 : PySem.W.keepIn K (.ref f_law_input_errors) = true)
    (a_4 : PySem.W.nsIn K mainGlobals "_law_other_errors" = some (some (.ref f_law_other_errors)))
    (l_4 : K.lookup f_law_other_errors = some ⟨oc_4, od_4, .func (PySem.W.fnOf "_law_other_errors" "_law_other_errors" (defArgs sOth) (defBody sOth) (defScope sOth) .none kV_4 dc_4 pm_4 an_4 cd_4 ct_4), sl_4⟩)
    (c_4 : PySem.W.codeIn K cd_4 "_law_other_errors" = true)
    (k_4 : PySem.W.keepIn K (.ref f_law_other_errors) = true)
    (a_5 : PySem.W.nsIn K mainGlobals "_law_instances" = some (some (.ref f_law_instances)))
    (l_5 : K.lookup f_law_instances = some ⟨oc_5, od_5, .func (PySem.W.fnOf "_law_instances" "_law_instances" (defArgs sIns) (defBody sIns) (defScope sIns) .none kV_5 dc_5 pm_5 an_5 cd_5 ct_5), sl_5⟩)
    (c_5 : PySem.W.codeIn K cd_5 "_law_instances" = true)
    (k_5 : PySem.W.keepIn K (.ref f_law_instances) = true)
    (a_6 : PySem.W.nsIn K mainGlobals "_law_bases" = some (some (.ref f_law_bases)))
    (l_6 : K.lookup f_law_bases = some ⟨oc_6, od_6, .func (PySem.W.fnOf "_law_bases" "_law_bases" (defArgs sBas) (defBody sBas) (defScope sBas) .none kV_6 dc_6 pm_6 an_6 cd_6 ct_6), sl_6⟩)
    (c_6 : PySem.W.codeIn K cd_6 "_law_bases" = true)
    (k_6 : PySem.W.keepIn K (.ref f_law_bases) = true)
    (a_7 : PySem.W.nsIn K mainGlobals "_law_right" = some (some (.ref f_law_right)))
    (l_7 : K.lookup f_law_right = some ⟨oc_7, od_7, .func (PySem.W.fnOf "_law_right" "_law_right" (defArgs sRight) (defBody sRight) (defScope sRight) .none kV_7 dc_7 pm_7 an_7 cd_7 ct_7), sl_7⟩)
    (c_7 : PySem.W.codeIn K cd_7 "_law_right" = true)
    (k_7 : PySem.W.keepIn K (.ref f_law_right) = true)
    (a_8 : PySem.W.nsIn K mainGlobals "law" = some (some (.ref flaw)))
    (l_8 : K.lookup flaw = some ⟨oc_8, od_8, .func (PySem.W.fnOf "law" "law" (defArgs sLaw) (defBody sLaw) (defScope sLaw) .none kV_8 dc_8 pm_8 an_8 cd_8 ct_8), sl_8⟩)
    (c_8 : PySem.W.codeIn K cd_8 "law" = true)
    (k_8 : PySem.W.keepIn K (.ref flaw) = true)
    (z_int : PySem.W.nsIn K mainGlobals "int" = some none)
    (z_len : PySem.W.nsIn K mainGlobals "len" = some none)
    (z_abs : PySem.W.nsIn K mainGlobals "abs" = some none)
    (z_divmod : PySem.W.nsIn K mainGlobals "divmod" = some none)
    (z_max : PySem.W.nsIn K mainGlobals "max" = some none)
    (z_min : PySem.W.nsIn K mainGlobals "min" = some none)
    (z_range : PySem.W.nsIn K mainGlobals "range" = some none)
    (z_all : PySem.W.nsIn K mainGlobals "all" = some none)
    (z_isinstance : PySem.W.nsIn K mainGlobals "isinstance" = some none)
    (z_repr : PySem.W.nsIn K mainGlobals "repr" = some none)
    (z_ValueError : PySem.W.nsIn K mainGlobals "ValueError" = some none)
    (z_TypeError : PySem.W.nsIn K mainGlobals "TypeError" = some none)
    (z_LookupError : PySem.W.nsIn K mainGlobals "LookupError" = some none)
    (z_ArithmeticError : PySem.W.nsIn K mainGlobals "ArithmeticError" = some none)
    (w_0 : PySem.W.nsIn K mainGlobals "MOST_ENTRIES" = some (some (.int 8 u_0)))
    (w_1 : PySem.W.nsIn K mainGlobals "MOST_SIZE" = some (some (.int 60 u_1)))
    (w_2 : PySem.W.nsIn K mainGlobals "MOST_NESTED" = some (some (.int 6 u_2)))
    (w_3 : PySem.W.nsIn K mainGlobals "MOST_TEXT" = some (some (.int 2000 u_3)))
    (w_4 : PySem.W.nsIn K mainGlobals "MOST_CASES" = some (some (.int 64 u_4)))
    (w_5 : PySem.W.nsIn K mainGlobals "MOST_SEARCHED" = some (some (.int 4 u_5)))
    (w_6 : PySem.W.nsIn K mainGlobals "MOST_DEFINITIONS" = some (some (.int 20 u_6)))
    (hA : chkA K [C0, C1, C2, C3, C4, C5, C6, C7, C8, C9, C10, C11, C12, C13, C14, C15, C16, C17, C18, C19, C20, C21, C22, C23, C24, C25, C26, C27] [I0, I1, I2, I3, I4, I5, I6, I7, I8, I9, I10, I11, I12, I13, 0, 0, I16, I17, I18, I19, 0, 0, I22, I23, I24, I25, I26, I27] = true)
    (hC : chkC K [C0, C1, C2, C3, C4, C5, C6, C7, C8, C9, C10, C11, C12, C13, C14, C15, C16, C17, C18, C19, C20, C21, C22, C23, C24, C25, C26, C27] [D0, D1, D2, D3] = true)
    (hF : chkF K = true) :
    ∃ fd : FuncData, (∀ (s : Shared) (v : Value), BindsTo s fd ⟨[v], []⟩ [("_law_script", v)]) ∧ ∀ base : Heap, K.In base → base.Ns mainGlobals mg → FnG l.prog w K mg base CX0 4 fa fd ["_law_script"] (spLaw K) := by
  have e := hfa.symm.trans (PySem.W.mg_of X G a_8)
  cases e
  have B : Blt mg := ⟨PySem.W.mg_none_of X G z_int, PySem.W.mg_none_of X G z_len, PySem.W.mg_none_of X G z_abs, PySem.W.mg_none_of X G z_divmod, PySem.W.mg_none_of X G z_max, PySem.W.mg_none_of X G z_min, PySem.W.mg_none_of X G z_range, PySem.W.mg_none_of X G z_all⟩
  have T : T7 K mg (fun i => ([C0, C1, C2, C3, C4, C5, C6, C7, C8, C9, C10, C11, C12, C13, C14, C15, C16, C17, C18, C19, C20, C21, C22, C23, C24, C25, C26, C27] : List Addr).getD i 0) (fun b => ([D0, D1, D2, D3] : List Addr).getD b 0) := by
    refine t7_of (fis := [I0, I1, I2, I3, I4, I5, I6, I7, I8, I9, I10, I11, I12, I13, 0, 0, I16, I17, I18, I19, 0, 0, I22, I23, I24, I25, I26, I27]) hA hC hF ?_ ?_ ?_ (PySem.W.mg_none_of X G z_isinstance) (PySem.W.mg_none_of X G z_repr) ?_
    · intro i hi
      match i, hi with
      | 0, _ => exact PySem.W.mg_of X G n0
      | 1, _ => exact PySem.W.mg_of X G n1
      | 2, _ => exact PySem.W.mg_of X G n2
      | 3, _ => exact PySem.W.mg_of X G n3
      | 4, _ => exact PySem.W.mg_of X G n4
      | 5, _ => exact PySem.W.mg_of X G n5
      | 6, _ => exact PySem.W.mg_of X G n6
      | 7, _ => exact PySem.W.mg_of X G n7
      | 8, _ => exact PySem.W.mg_of X G n8
      | 9, _ => exact PySem.W.mg_of X G n9
      | 10, _ => exact PySem.W.mg_of X G n10
      | 11, _ => exact PySem.W.mg_of X G n11
      | 12, _ => exact PySem.W.mg_of X G n12
      | 13, _ => exact PySem.W.mg_of X G n13
      | 14, _ => exact PySem.W.mg_of X G n14
      | 15, _ => exact PySem.W.mg_of X G n15
      | 16, _ => exact PySem.W.mg_of X G n16
      | 17, _ => exact PySem.W.mg_of X G n17
      | 18, _ => exact PySem.W.mg_of X G n18
      | 19, _ => exact PySem.W.mg_of X G n19
      | 20, _ => exact PySem.W.mg_of X G n20
      | 21, _ => exact PySem.W.mg_of X G n21
      | 22, _ => exact PySem.W.mg_of X G n22
      | 23, _ => exact PySem.W.mg_of X G n23
      | 24, _ => exact PySem.W.mg_of X G n24
      | 25, _ => exact PySem.W.mg_of X G n25
      | 26, _ => exact PySem.W.mg_of X G n26
      | 27, _ => exact PySem.W.mg_of X G n27
      | n + 28, hi => exact absurd hi (by omega)
    · intro i hi
      match i, hi with
      | 0, _ => exact PySem.W.mg_of X G o0
      | 1, _ => exact PySem.W.mg_of X G o1
      | 2, _ => exact PySem.W.mg_of X G o2
      | 3, _ => exact PySem.W.mg_of X G o3
    · intro i hi
      match i, hi with
      | 0, _ => exact PySem.W.mg_none_of X G z_ValueError
      | 1, _ => exact PySem.W.mg_none_of X G z_TypeError
      | 2, _ => exact PySem.W.mg_none_of X G z_LookupError
      | 3, _ => exact PySem.W.mg_none_of X G z_ArithmeticError
    · intro i hi hb
      match i, hi, hb with
      | 0, _, _ => exact ⟨_, _, _, _, _, _, _, _, _, _, _, _, _, _, _, l0, y0⟩
      | 1, _, _ => exact ⟨_, _, _, _, _, _, _, _, _, _, _, _, _, _, _, l1, y1⟩
      | 2, _, _ => exact ⟨_, _, _, _, _, _, _, _, _, _, _, _, _, _, _, l2, y2⟩
      | 3, _, _ => exact ⟨_, _, _, _, _, _, _, _, _, _, _, _, _, _, _, l3, y3⟩
      | 4, _, _ => exact ⟨_, _, _, _, _, _, _, _, _, _, _, _, _, _, _, l4, y4⟩
      | 5, _, _ => exact ⟨_, _, _, _, _, _, _, _, _, _, _, _, _, _, _, l5, y5⟩
      | 6, _, _ => exact ⟨_, _, _, _, _, _, _, _, _, _, _, _, _, _, _, l6, y6⟩
      | 7, _, _ => exact ⟨_, _, _, _, _, _, _, _, _, _, _, _, _, _, _, l7, y7⟩
      | 8, _, _ => exact ⟨_, _, _, _, _, _, _, _, _, _, _, _, _, _, _, l8, y8⟩
      | 9, _, _ => exact ⟨_, _, _, _, _, _, _, _, _, _, _, _, _, _, _, l9, y9⟩
      | 10, _, _ => exact ⟨_, _, _, _, _, _, _, _, _, _, _, _, _, _, _, l10, y10⟩
      | 11, _, _ => exact ⟨_, _, _, _, _, _, _, _, _, _, _, _, _, _, _, l11, y11⟩
      | 12, _, _ => exact ⟨_, _, _, _, _, _, _, _, _, _, _, _, _, _, _, l12, y12⟩
      | 13, _, _ => exact ⟨_, _, _, _, _, _, _, _, _, _, _, _, _, _, _, l13, y13⟩
      | 14, _, hb => exact absurd hb (by decide)
      | 15, _, hb => exact absurd hb (by decide)
      | 16, _, _ => exact ⟨_, _, _, _, _, _, _, _, _, _, _, _, _, _, _, l16, y16⟩
      | 17, _, _ => exact ⟨_, _, _, _, _, _, _, _, _, _, _, _, _, _, _, l17, y17⟩
      | 18, _, _ => exact ⟨_, _, _, _, _, _, _, _, _, _, _, _, _, _, _, l18, y18⟩
      | 19, _, _ => exact ⟨_, _, _, _, _, _, _, _, _, _, _, _, _, _, _, l19, y19⟩
      | 20, _, hb => exact absurd hb (by decide)
      | 21, _, hb => exact absurd hb (by decide)
      | 22, _, _ => exact ⟨_, _, _, _, _, _, _, _, _, _, _, _, _, _, _, l22, y22⟩
      | 23, _, _ => exact ⟨_, _, _, _, _, _, _, _, _, _, _, _, _, _, _, l23, y23⟩
      | 24, _, _ => exact ⟨_, _, _, _, _, _, _, _, _, _, _, _, _, _, _, l24, y24⟩
      | 25, _, _ => exact ⟨_, _, _, _, _, _, _, _, _, _, _, _, _, _, _, l25, y25⟩
      | 26, _, _ => exact ⟨_, _, _, _, _, _, _, _, _, _, _, _, _, _, _, l26, y26⟩
      | 27, _, _ => exact ⟨_, _, _, _, _, _, _, _, _, _, _, _, _, _, _, l27, y27⟩
      | n + 28, hi, _ => exact absurd hi (by omega)
  have M : M7 mg := ⟨⟨_, PySem.W.mg_of X G w_0⟩, ⟨_, PySem.W.mg_of X G w_1⟩, ⟨_, PySem.W.mg_of X G w_2⟩, ⟨_, PySem.W.mg_of X G w_3⟩, ⟨_, PySem.W.mg_of X G w_4⟩, ⟨_, PySem.W.mg_of X G w_5⟩, ⟨_, PySem.W.mg_of X G w_6⟩⟩
  have F_0 := fun_mk (st := sUrn) l_0 c_0 k_0
  have F_1 := fun_mk (st := sLot) l_1 c_1 k_1
  have F_2 := fun_mk (st := sOne) l_2 c_2 k_2
  have F_3 := fun_mk (st := sIn) l_3 c_3 k_3
  have F_4 := fun_mk (st := sOth) l_4 c_4 k_4
  have F_5 := fun_mk (st := sIns) l_5 c_5 k_5
  have F_6 := fun_mk (st := sBas) l_6 c_6 k_6
  have F_7 := fun_mk (st := sRight) l_7 c_7 k_7
  have F_8 := fun_mk (st := sLaw) l_8 c_8 k_8
  have b_0 := F_0.binds (ps := ["_law_script", "_law_k"]) fun _ _ _ _ _ _ us hl => match us, hl with | [_, _], _ => rfl
  have b_1 := F_1.binds (ps := ["_law_urn_here", "_law_many"]) fun _ _ _ _ _ _ us hl => match us, hl with | [_, _], _ => rfl
  have b_2 := F_2.binds (ps := ["_law_urn_here", "_law_things"]) fun _ _ _ _ _ _ us hl => match us, hl with | [_, _], _ => rfl
  have b_3 := F_3.binds (ps := ["_law_thing"]) fun _ _ _ _ _ _ us hl => match us, hl with | [_], _ => rfl
  have b_4 := F_4.binds (ps := ["_law_thing"]) fun _ _ _ _ _ _ us hl => match us, hl with | [_], _ => rfl
  have b_5 := F_5.binds (ps := ["_law_e"]) fun _ _ _ _ _ _ us hl => match us, hl with | [_], _ => rfl
  have b_6 := F_6.binds (ps := ["_law_e"]) fun _ _ _ _ _ _ us hl => match us, hl with | [_], _ => rfl
  have b_7 := F_7.binds (ps := ["_law_urn_here"]) fun _ _ _ _ _ _ us hl => match us, hl with | [_], _ => rfl
  have DW : Drw K mg _ _ _ _ := ⟨PySem.W.mg_of X G a_1, F_1, b_1, PySem.W.mg_of X G a_2, F_2, b_2⟩
  have HH : H7 K mg _ _ _ _ _ _ _ _ := ⟨PySem.W.mg_of X G a_3, F_3, b_3, PySem.W.mg_of X G a_4, F_4, b_4, PySem.W.mg_of X G a_5, F_5, b_5, PySem.W.mg_of X G a_6, F_6, b_6⟩
  exact ⟨PySem.W.fnOf "law" "law" (defArgs sLaw) (defBody sLaw) (defScope sLaw) .none kV_8 dc_8 pm_8 an_8 cd_8 ct_8, fun s v => .of_eq rfl, fun base _ _ => ok_law F_8 B (PySem.W.mg_of X G a_0) F_0 b_0 (PySem.W.mg_of X G a_7) F_7.kp b_7 (ok_right F_7 B DW T M HH)⟩
end SQ7
open PySem PySem.W PyProof.Rows
set_option maxRecDepth 100000 in
set_option maxHeartbeats 0 in
theorem PySem.Challenge.cw_stackquotes_k07_errors_and_limits_holds : PySem.Challenge.rw_stackquotes_k07_errors_and_limits.Holds := by
  w_on; o_law; k_head; (case hw => w_witness2)
  k_fill
  refine SQ.walkG (l := PySem.Challenge.rw_stackquotes_k07_errors_and_limits) (n := 63) (k := 4) (x := "_law_script") (CX := L2.CX0) (sp := SQ7.spLaw) rfl (by decide) rfl ⟨rfl, by decide, by decide⟩ (fun w h Y => PySem.W.kIn_of Y) ?F (fun K H a ns hl _ hS => ⟨a, ns, rfl, hS, hl, fun _ => rfl⟩) (fun _ _ _ _ z => z)
  case F =>
    intro w mg fa h KX G hmg
    refine' SQ7.all_mk KX G hmg ?n0 ?n1 ?n2 ?n3 ?n4 ?n5 ?n6 ?n7 ?n8 ?n9 ?n10 ?n11 ?n12 ?n13 ?n14 ?n15 ?n16 ?n17 ?n18 ?n19 ?n20 ?n21 ?n22 ?n23 ?n24 ?n25 ?n26 ?n27 ?o0 ?o1 ?o2 ?o3 ?x0 ?l0 ?y0 ?x1 ?l1 ?y1 ?x2 ?l2 ?y2 ?x3 ?l3 ?y3 ?x4 ?l4 ?y4 ?x5 ?l5 ?y5 ?x6 ?l6 ?y6 ?x7 ?l7 ?y7 ?x8 ?l8 ?y8 ?x9 ?l9 ?y9 ?x10 ?l10 ?y10 ?x11 ?l11 ?y11 ?x12 ?l12 ?y12 ?x13 ?l13 ?y13 ?x16 ?l16 ?y16 ?x17 ?l17 ?y17 ?x18 ?l18 ?y18 ?x19 ?l19 ?y19 ?x22 ?l22 ?y22 ?x23 ?l23 ?y23 ?x24 ?l24 ?y24 ?x25 ?l25 ?y25 ?x26 ?l26 ?y26 ?x27 ?l27 ?y27 ?a_0 ?l_0 ?c_0 ?k_0 ?a_1 ?l_1 ?c_1 ?k_1 ?a_2 ?l_2 ?c_2 ?k_2 ?a_3 ?l_3 ?c_3 ?k_3 ?a_4 ?l_4 ?c_4 ?k_4 ?a_5 ?l_5 ?c_5 ?k_5 ?a_6 ?l_6 ?c_6 ?k_6 ?a_7 ?l_7 ?c_7 ?k_7 ?a_8 ?l_8 ?c_8 ?k_8 ?z_int ?z_len ?z_abs ?z_divmod ?z_max ?z_min ?z_range ?z_all ?z_isinstance ?z_repr ?z_ValueError ?z_TypeError ?z_LookupError ?z_ArithmeticError ?w_0 ?w_1 ?w_2 ?w_3 ?w_4 ?w_5 ?w_6 ?hA ?hC ?hF
    (case n0 => k_is)
    (case n1 => k_is)
    (case n2 => k_is)
    (case n3 => k_is)
    (case n4 => k_is)
    (case n5 => k_is)
    (case n6 => k_is)
    (case n7 => k_is)
    (case n8 => k_is)
    (case n9 => k_is)
    (case n10 => k_is)
    (case n11 => k_is)
    (case n12 => k_is)
    (case n13 => k_is)
    (case n14 => k_is)
    (case n15 => k_is)
    (case n16 => k_is)
    (case n17 => k_is)
    (case n18 => k_is)
    (case n19 => k_is)
    (case n20 => k_is)
    (case n21 => k_is)
    (case n22 => k_is)
    (case n23 => k_is)
    (case n24 => k_is)
    (case n25 => k_is)
    (case n26 => k_is)
    (case n27 => k_is)
    (case o0 => k_is)
    (case o1 => k_is)
    (case o2 => k_is)
    (case o3 => k_is)
    (case x0 => k_is)
    (case l0 => k_is)
    (case y0 => k_is)
    (case x1 => k_is)
    (case l1 => k_is)
    (case y1 => k_is)
    (case x2 => k_is)
    (case l2 => k_is)
    (case y2 => k_is)
    (case x3 => k_is)
    (case l3 => k_is)
    (case y3 => k_is)
    (case x4 => k_is)
    (case l4 => k_is)
    (case y4 => k_is)
    (case x5 => k_is)
    (case l5 => k_is)
    (case y5 => k_is)
    (case x6 => k_is)
    (case l6 => k_is)
    (case y6 => k_is)
    (case x7 => k_is)
    (case l7 => k_is)
    (case y7 => k_is)
    (case x8 => k_is)
    (case l8 => k_is)
    (case y8 => k_is)
    (case x9 => k_is)
    (case l9 => k_is)
    (case y9 => k_is)
    (case x10 => k_is)
    (case l10 => k_is)
    (case y10 => k_is)
    (case x11 => k_is)
    (case l11 => k_is)
    (case y11 => k_is)
    (case x12 => k_is)
    (case l12 => k_is)
    (case y12 => k_is)
    (case x13 => k_is)
    (case l13 => k_is)
    (case y13 => k_is)
    (case x16 => k_is)
    (case l16 => k_is)
    (case y16 => k_is)
    (case x17 => k_is)
    (case l17 => k_is)
    (case y17 => k_is)
    (case x18 => k_is)
    (case l18 => k_is)
    (case y18 => k_is)
    (case x19 => k_is)
    (case l19 => k_is)
    (case y19 => k_is)
    (case x22 => k_is)
    (case l22 => k_is)
    (case y22 => k_is)
    (case x23 => k_is)
    (case l23 => k_is)
    (case y23 => k_is)
    (case x24 => k_is)
    (case l24 => k_is)
    (case y24 => k_is)
    (case x25 => k_is)
    (case l25 => k_is)
    (case y25 => k_is)
    (case x26 => k_is)
    (case l26 => k_is)
    (case y26 => k_is)
    (case x27 => k_is)
    (case l27 => k_is)
    (case y27 => k_is)
    (case a_0 => k_is)
    (case l_0 => k_is)
    (case c_0 => k_is)
    (case k_0 => k_is)
    (case a_1 => k_is)
    (case l_1 => k_is)
    (case c_1 => k_is)
    (case k_1 => k_is)
    (case a_2 => k_is)
    (case l_2 => k_is)
    (case c_2 => k_is)
    (case k_2 => k_is)
    (case a_3 => k_is)
    (case l_3 => k_is)
    (case c_3 => k_is)
    (case k_3 => k_is)
    (case a_4 => k_is)
    (case l_4 => k_is)
    (case c_4 => k_is)
    (case k_4 => k_is)
    (case a_5 => k_is)
    (case l_5 => k_is)
    (case c_5 => k_is)
    (case k_5 => k_is)
    (case a_6 => k_is)
    (case l_6 => k_is)
    (case c_6 => k_is)
    (case k_6 => k_is)
    (case a_7 => k_is)
    (case l_7 => k_is)
    (case c_7 => k_is)
    (case k_7 => k_is)
    (case a_8 => k_is)
    (case l_8 => k_is)
    (case c_8 => k_is)
    (case k_8 => k_is)
    (case z_int => k_is)
    (case z_len => k_is)
    (case z_abs => k_is)
    (case z_divmod => k_is)
    (case z_max => k_is)
    (case z_min => k_is)
    (case z_range => k_is)
    (case z_all => k_is)
    (case z_isinstance => k_is)
    (case z_repr => k_is)
    (case z_ValueError => k_is)
    (case z_TypeError => k_is)
    (case z_LookupError => k_is)
    (case z_ArithmeticError => k_is)
    (case w_0 => k_is)
    (case w_1 => k_is)
    (case w_2 => k_is)
    (case w_3 => k_is)
    (case w_4 => k_is)
    (case w_5 => k_is)
    (case w_6 => k_is)
    (case hA => kernel_rfl)
    (case hC => kernel_rfl)
    (case hF => kernel_rfl)
