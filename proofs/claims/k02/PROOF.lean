import PyProof.Rows.All
import Wide.All
import OpenK.AllK
import Wide.FinOn
import HandS.ForMost
import PyProof.ReprRoads
import KE.KExcInit
import KE.KIsAll
import HandS.ForExc
import HandS.ExcInit
import HandS.ExcIs
import KE.KExcIs
import HandS.ExcValue
import HandS.TryOnly
import KE.GoesEnum
import KE.GoesMore
import HandS.Lambda
import HandS.EndBits
import HandS.IsInst
import HandS.Walk
import HandS.SetKeys
import HandS.WordsExc
import HandS.FStr
import HandS.DictComp
import HandS.Star
import HandS.More
import HandS.RaiseMore
import KE.KCallOwn
import PyProof.Rows.StrMeet
import PySem.Challenge.RW_stackquotes_k02_vocabularies_refused
set_option Elab.async false
set_option linter.all false
set_option maxRecDepth 100000
set_option maxHeartbeats 4000000
/-! Promises of defs that ask for a repr: they hold where no repr is under way (no guard on the stack). -/
namespace SQ
open PySem PySem.Spec PyProof.Rows L2

/-- what a def keeps when it is called where nothing guards -/
structure FnG (P : Program) (w : World) (K : PySem.W.Frag) (mg : Str → Option Value)
    (base : Heap) (CX : CXT) (k : Nat) (f : Addr) (fd : FuncData) (ps : List Str) (sp : Sp) : Prop where
  len : ∀ vs H Q E, sp vs H Q E → vs.length = ps.length
  go : ∀ (A : Around), A.guards = some [] → ∀ (outer : List Env) (s : Shared) (H : Hp)
    (args : Args) (us : List Value) (vs : List V) (Q : VK) (E : XK), Room k A →
    Env0 P w K mg base A outer s H → BindsTo s fd args (ps.zip us) → Vals vs us →
    sp vs H Q E → codeAny (model P w) A (.call (.ref f) args) (CR CX outer P w H s Q E) s
theorem FnG.of {P : Program} {w : World} {K : PySem.W.Frag} {mg : Str → Option Value} {base : Heap} {CX : CXT} {k : Nat} {f : Addr}
    {fd : FuncData} {ps : List Str} {sp : Sp} (F : FnOk P w K mg base CX k f fd ps sp) : FnG P w K mg base CX k f fd ps sp :=
  ⟨F.len, fun A _ outer s H args us vs Q E => F.run A outer s H args us vs Q E⟩

theorem deeper_guards {A : Around} {e : Env} (h : A.guards = some []) : (A.deeper e).guards = some [] := by
  first
    | exact h
    | (unfold Around.deeper; exact h)
    | simpa [Around.deeper] using h

section
variable {P : Program} {w : World} {K : PySem.W.Frag} {mg : Str → Option Value} {base : Heap}
/-- a def of the text, by its body: nothing leaves it as an error -/
theorem okG {x qual : Str} {st : Stmt} {f : Addr} {fd : FuncData} {N ps : List Str} {k : Nat} {sp : Sp}
    (F : Fun K x qual st f fd) (S : FnScope N ps (defScope st))
    (len : ∀ vs H Q E, sp vs H Q E → vs.length = ps.length)
    (hb : ∀ (cdv : Value) (A : Around) (outer : List Env) (s : Shared) (H : Hp) (vs : List V) (Q : VK) (E : XK),
      (A.deeper (envOfC qual (defScope st) s.heap.objs.size f cdv)).guards = some [] →
      Room k (A.deeper (envOfC qual (defScope st) s.heap.objs.size f cdv)) → sp vs H Q E →
      ∃ t, PSs (cxOf CX0 P w K mg base N qual (defScope st) f cdv A outer s H E).nox (defBody st) t ∧
        t { nx := fun _ H' => Q .non H', rt := Q } (start N vs) H) :
    FnG P w K mg base CX0 (k + 1) f fd ps sp := by
  obtain ⟨oc, od, kV, doc, pm, an, cdv, ct, osl, rfl, lk, hcd⟩ := F.ex
  refine ⟨len, fun A hgd outer s H args us vs Q E hroom en bnd rel hsp => ?_⟩
  have nargs := len _ _ _ _ hsp
  have old : ∀ b o, base.get? b = some o → s.heap.get? b = some o := fun b o q => (en.bs b o q).1
  have kin := en.mod.kin.keeps old
  have nol := en.mod.nolimit.keeps old
  have kinds : ∀ y ∈ ps.zip us, (defScope st).names.lookup y.1 = some .local ∨
      ((defScope st).names.lookup y.1 = some .cell ∧
        ((cellsFrom (s.heap.objs.size + 1) (defScope st).names []).lookup y.1).isSome = true) := by
    rintro ⟨n, v⟩ hy
    rcases S.par n (List.of_mem_zip hy).1 with q | q
    · exact Or.inl q
    · exact Or.inr ⟨q, PySem.W.cellsFrom_some _ _ _ (Or.inl q)⟩
  refine codeAny_call_function hroom.depth (kin _ _ lk) rfl S.co S.gen rfl
    (PySem.W.codeRec_of kin hcd) (bnd _ _ _ _ ?_)
  refine wpAny_newFunctionEnv_cells S.kind kinds ?_
  intro env he s1 ic
  subst he
  refine ⟨nol.keeps ic.toInCall.keep, codeAny_func ?_⟩
  obtain ⟨t, ht, hq⟩ := hb cdv A outer s H vs Q E (deeper_guards hgd) (hroom.deeper _) hsp
  have inv := inv_start (CX := CX0) (E := E) S hroom.hd en nargs rel ic
  refine wpAny_mono (ht.nox.run [] s1 (start N vs) H _ inv hq) ?_ fun e s' hs => hs
  intro fl s' hs
  cases fl with
  | ret u =>
    obtain ⟨v, σ', H', J, rv, q⟩ := hs
    exact ⟨v, H', J.os, J.bare, J.base, J.hok, rv, q⟩
  | next =>
    obtain ⟨σ', H', J, q⟩ := hs
    exact ⟨V.non, H', J.os, J.bare, J.base, J.hok, rfl, q⟩
  | brk =>
    obtain ⟨_, _, _, q⟩ := hs
    exact q.elim
  | cont =>
    obtain ⟨_, _, _, q⟩ := hs
    exact q.elim
end

section
variable {X : Cx} {CX : CXT} {k : Nat} {f : Addr} {fd : FuncData} {ps : List Str} {sp : Sp} {E : XK}
  {x : Str} {p pos : Pos} {e : Expr} {es : List Expr} {t : TA}
/-- f(e, ..), f such a def -/
theorem pe_callG (F : FnG X.prog X.w X.K X.mg X.base CX k f fd ps sp) (hgd : X.A.guards = some []) (hr : Room k X.A)
    (hg : Gl X x) (hm : X.mg x = some (.ref f)) (hk : PySem.W.keepIn X.K (.ref f) = true) (hb : Binds X.K fd ps [])
    (hx : Passes CX X E) (ha : PA X (e :: es) t) (hdb : (x == ("__debug__" : Str)) = false := by decide)
    (he : starEach (e :: es) X.env = (false, eval e X.env) :: starEach es X.env := by rfl)
    (hpl : (backTo pos (starEach es X.env)).any (·.1) = false := by rfl) :
    PE X (.Call (.Name x p) (e :: es) [] pos) (tCall sp [] E t) := by
  constructor
  intro pins s σ H Q I h
  refine wpAny_Call_Name_kw (ld_glob I hg hm ?_ hdb)
  refine PySem.W.callWith_K (h₀ := X.base) I.ok.mod.kin hk (thn (ha.run pos pins s σ H _ I h) ?_) he hpl
  intro us s1 ⟨vs, H1, I1, r, q⟩
  refine ⟨I1.kIn, ?_⟩
  have r2 : Vals (vs ++ []) (us ++ []) := r.append .nil
  have hl : (us ++ []).length = ps.length := by
    rw [← r2.length]
    exact F.len _ _ _ _ q
  show wpAny _ _ (call (.ref f) us) _ _ _
  refine wpAny_call (codeAny_mono (F.go X.A hgd X.stack s1 H1 ⟨us, []⟩ (us ++ []) (vs ++ []) Q E hr I1.env0
    (hb s1 us I1.kIn hl) r2 q) ?_)
  intro r s' hq
  rcases r with er | (_ | _ | _ | u)
  · exact hx pins σ H1 s1 er s' I1 hq
  · exact hq.elim
  · exact hq.elim
  · exact hq.elim
  · exact I1.after hq
end

/-- the law's call, by such a promise -/
theorem lawG {P : Program} {w : World} {K : PySem.W.Frag} {mg mb : Str → Option Value} {CX : CXT} {k : Nat} {fa a : Addr}
    {fd : FuncData} {x : Str} {sp : Sp} {s₁ : Shared} {vs : List Value} {ns : List Int}
    (KX : K.In s₁.heap) (hns : s₁.heap.Ns mainGlobals mg) (hb : s₁.heap.Ns builtinsNs mb)
    (hbb : ∀ x : Str, x ≠ "__name__" → mb x = bootBuiltins x) (hlim : s₁.heap.NoLimit) (hg : s₁.gens = #[])
    (ha : s₁.heap.get? a = some { cls := .type "list", data := .seq vs.toArray }) (hi : IntsAre vs ns)
    (hl : ns.length ≤ sizeLine) (hr : Room k callerA)
    (F : ∀ base : Heap, K.In base → base.Ns mainGlobals mg → FnG P w K mg base CX k fa fd [x] sp)
    (hbind : ∀ (s : Shared) (u : Value), BindsTo s fd ⟨[u], []⟩ [(x, u)])
    (hsp : ∀ H : Hp, Only H → SqL K H a (ns.map V.int) → sp [.ref a] H (fun v _ => v = .bl true) fun _ _ _ => False)
    (hCX : ∀ H e s', CX [] H s₁ (fun _ _ _ => False) e s' → False) :
    codeAny (model P w) callerA (.call (.ref fa) ⟨[.ref a], []⟩)
      (fun r s' => r = .ok (.ret (.bool true)) ∧ OldK s₁.heap s'.heap ∧ s'.os = s₁.os ∧ AllBare s'.gens) s₁ := by
  have rv := vals_ints hi
  have key : ∀ H : Hp, Only H → SqL K H a (ns.map V.int) → HOk P w H s₁.heap → (∀ b, H b ≠ none → b = a) →
      (H a ≠ none → K.lookup a = none) →
      codeAny (model P w) callerA (.call (.ref fa) ⟨[.ref a], []⟩)
        (fun r s' => r = .ok (.ret (.bool true)) ∧ OldK s₁.heap s'.heap ∧ s'.os = s₁.os ∧ AllBare s'.gens) s₁ := by
    intro H hO hS hok hA hK
    have only : ∀ {b : Addr} {u : HO}, H b = some u → b = a := fun {b u} q => hA b (by rw [q]; exact fun z => nomatch z)
    have free : ∀ {b : Addr} {o : Obj} {es : Array DictEntry} {ep : Nat}, s₁.heap.get? b = some o → o.data = .dict es ep → H b = none := by
      intro b o es ep q d
      cases z : H b with
      | none => rfl
      | some u =>
        have e' := only z
        subst e'
        rw [ha] at q
        cases q
        cases (show Data.seq vs.toArray _ = Data.dict es ep from d)
    have nsB : ∀ {b : Addr} {m : Str → Option Value}, s₁.heap.Ns b m → (hidT s₁.heap H).Ns b m := by
      rintro b m ⟨o, es, ep, q, d, r⟩
      exact ⟨o, es, ep, hidT_get q (free q d), d, r⟩
    have kB : K.In (hidT s₁.heap H) := by
      intro b o q
      refine hidT_get (KX b o q) ?_
      cases z : H b with
      | none => rfl
      | some u =>
        have e' := only z
        subst e'
        rw [hK (by rw [z]; exact fun y => nomatch y)] at q
        cases q
    have md : Mod K mg (hidT s₁.heap H) := by
      refine ⟨kB, nsB hns, ⟨mb, nsB hb, hbb⟩, ?_⟩
      obtain ⟨mc, h1, h2⟩ := hlim
      exact ⟨mc, nsB h1, h2⟩
    have en : Env0 P w K mg (hidT s₁.heap H) callerA [] s₁ H := {
      frames := rfl
      mod := md
      bs := fun b o q => of_hidT q
      bsz := Nat.le_of_eq (hidT_size _ _)
      funs := trivial
      frf := fun b hb => absurd (show b ∈ ([] : List Addr) from hb) (by simp)
      hok := hok
      bare := .of_eq hg }
    refine codeAny_mono ((F _ kB (nsB hns)).go callerA rfl [] s₁ H ⟨[.ref a], []⟩ [.ref a] [.ref a] _ _ hr en
      (hbind s₁ (.ref a)) (.cons rfl .nil) (hsp H hO hS)) ?_
    intro r s' h
    rcases r with er | (_ | _ | _ | u)
    · exact (hCX H er s' h).elim
    · exact h.elim
    · exact h.elim
    · exact h.elim
    · obtain ⟨v, H', os, bare, un, hok', r', q⟩ := h
      have q' : v = .bl true := q
      subst q'
      obtain rfl : u = Value.bool true := r'
      refine ⟨rfl, OldK.of_keep ?_, os, bare⟩
      intro b o q
      cases z : H b with
      | none => exact un.keep b o q z (fun y => absurd (show b ∈ ([] : List Addr) from y) (by simp)) (by simp)
      | some u =>
        rcases hO b with y | ⟨ob, xs, y⟩
        · rw [z] at y
          cases y
        · obtain ⟨e1, _⟩ := hok b _ y
          obtain ⟨e2, _⟩ := hok' b _ (un.frzs b ob _ y)
          rw [q] at e1
          cases e1
          exact e2
  cases hk : K.lookup a with
  | some o =>
    have q := KX a o hk
    rw [ha] at q
    cases q
    refine key (fun _ => none) (fun _ => .inl rfl) (.inr ⟨_, vs.toArray, _, hk, rfl, rfl, rfl, ?_, by simpa using rv⟩) ?_ (fun b z => absurd rfl z) fun z => absurd rfl z
    · rw [List.size_toArray, hi.length]
      exact hl
    · intro b u z
      cases (show (none : Option HO) = some u from z)
  | none =>
    let o0 : Obj := { cls := .type "list", data := .seq vs.toArray }
    let H0 : Hp := upd (fun _ => none) a (.frz o0 (.lst (ns.map V.int)))
    have h0 : ∀ b u, H0 b = some u → b = a ∧ u = .frz o0 (.lst (ns.map V.int)) := by
      intro b u z
      by_cases hb : b = a
      · subst hb
        refine ⟨rfl, ?_⟩
        rw [show H0 b = _ from upd_same] at z
        exact (Option.some.inj z).symm
      · rw [show H0 b = _ from upd_ne hb] at z
        cases z
    refine key H0 (fun b => ?_) (.inl (.inr ⟨o0, upd_same⟩)) (fun b u z => ?_) (fun b z => ?_) fun _ => hk
    · by_cases hb : b = a
      · subst hb
        exact .inr ⟨_, _, upd_same⟩
      · exact .inl (upd_ne hb)
    · obtain ⟨rfl, rfl⟩ := h0 b u z
      exact ⟨ha, by rw [List.length_map]; exact hl, vs, _, rv, ha⟩
    · cases q : H0 b with
      | none => exact absurd q z
      | some u => exact (h0 b u q).1
/-- the goal that the head leaves -/
theorem walkG {l : PySem.W.OpenLaw} {n k : Nat} {q : Program} {loose : List Str} {XP : (Str → Option Value) → Heap → Prop}
    {YP : World → Heap → Prop} {d : DefRec} {K : Params → PySem.W.Frag} {CX : CXT} {sp : PySem.W.Frag → Sp} {x : Str}
    (hn : l.most = some n) (hn2 : n ≤ sizeLine) (hdf : d.params.defaults = []) (hr : Room k callerA)
    (hY : ∀ (w : World) (h : Heap), YP w h → (K w.params).In h)
    (F : ∀ (w : World) (mg : Str → Option Value) (fa : Addr) (h : Heap), (K w.params).In h → h.Ns mainGlobals mg →
      mg d.name = some (.ref fa) → ∃ fd : FuncData, (∀ (s : Shared) (u : Value), BindsTo s fd ⟨[u], []⟩ [(x, u)]) ∧
        ∀ base : Heap, (K w.params).In base → base.Ns mainGlobals mg →
          FnG l.prog w (K w.params) mg base CX k fa fd [x] (sp (K w.params)))
    (hsp : ∀ (K : PySem.W.Frag) (H : Hp) (a : Addr) (ns : List Int), ns.length ≤ n → Only H → SqL K H a (ns.map V.int) →
      sp K [.ref a] H (fun v _ => v = .bl true) fun _ _ _ => False)
    (hCX : ∀ (H : Hp) (s : Shared) (e : Value) (s' : Shared), CX [] H s (fun _ _ _ => False) e s' → False) :
    PySem.W.WalkO q loose XP YP l.row.toRowW d [] (fun f vs => PySem.call f vs) := by
  refine Att.attach_call hn hdf ?_
  intro w s₀ s₁ mg mb fa o pm cd doc a vs ns G Y ho hd hcd hmg hobj hints hlen hg
  have KX := hY w _ Y
  obtain ⟨fd, hb, hF⟩ := F w mg fa _ KX G.T.g hmg
  exact lawG KX G.T.g G.T.b G.T.builtins G.T.nolimit hg hobj hints (Nat.le_trans hlen hn2) hr hF hb
    (fun H hO hS => hsp _ H a ns hlen hO hS) fun H e s' => hCX H s₁ e s'
end SQ
/-! repr of a list of data. -/
namespace SQ
open PySem PySem.Spec PyProof.Rows L2

mutual
theorem dp_plain {K : PySem.W.Frag} {H : Hp} : ∀ (d : PyData) (v : V), Dp K H v d → d.hasDict = false
  | .none, _, _ => by simp only [PyData.hasDict]
  | .bool _, _, _ => by simp only [PyData.hasDict]
  | .int _, _, _ => by simp only [PyData.hasDict]
  | .str _, _, _ => by simp only [PyData.hasDict]
  | .list ds, _, h => by
    cases h with
    | lst _ ha =>
      simp only [PyData.hasDict]
      exact dpAll_plain ds _ ha
  | .tuple ds, _, h => by
    cases h with
    | tup _ ha =>
      simp only [PyData.hasDict]
      exact dpAll_plain ds _ ha
  | .dict _, _, h => nomatch h
theorem dpAll_plain {K : PySem.W.Frag} {H : Hp} : ∀ (ds : List PyData) (vs : List V), DpAll K H vs ds → PyData.hasDictAll ds = false
  | [], _, _ => by simp only [PyData.hasDictAll]
  | d :: ds, _, h => by
    cases h with
    | cons h1 h2 =>
      simp only [PyData.hasDictAll, dp_plain d _ h1, dpAll_plain ds _ h2, Bool.or_false]
end

/-- None, a bool, an int, a text, an empty dict -/
inductive Flat (H : Hp) : V → PyData → Prop
  | non : Flat H .non .none
  | bl (b : Bool) : Flat H (.bl b) (.bool b)
  | int (i : Int) : Flat H (.int i) (.int i)
  | str (x : Str) : Flat H (.str x) (.str x)
  | dic {a : Addr} (h : H a = some (.dK [])) : Flat H (.ref a) (.dict [])
inductive FlatAll (H : Hp) : List V → List PyData → Prop
  | nil : FlatAll H [] []
  | cons {v : V} {vs : List V} {d : PyData} {ds : List PyData} : Flat H v d → FlatAll H vs ds → FlatAll H (v :: vs) (d :: ds)

section
variable {X : Cx} {pins : List (Addr × Obj)} {σ : L2.St} {H : Hp} {s : Shared}
theorem flat_reads (I : Inv X pins σ H s) {d : PyData} {v : V} {u : Value} (h : Flat H v d) (r : RelV v u) :
    ∃ as, Reads s.heap u d as ∧ sysModules ∉ as := by
  cases h with
  | non =>
    obtain rfl : u = Value.none := r
    exact ⟨_, Reads.none, by simp⟩
  | bl b =>
    obtain rfl : u = Value.bool b := r
    exact ⟨_, Reads.bool b, by simp⟩
  | int i =>
    obtain ⟨t, rfl⟩ := r
    exact ⟨_, Reads.int i t, by simp⟩
  | str x =>
    obtain ⟨t, rfl⟩ := r
    exact ⟨_, Reads.str x t, by simp⟩
  | @dic a ha =>
    obtain rfl : u = Value.ref a := r
    obtain ⟨_, na, vs, kv, o, es, ep, h1, h2, h3, h4⟩ := (show ObjOk X.prog X.w H s.heap a (.dK []) from I.hok a _ ha)
    cases kv
    have he : es.toList = [] := by
      have h5 := h4.2.1
      generalize es.toList = l at h5
      cases h5
      rfl
    refine ⟨a :: [] ++ [], Reads.dict (kvs := []) h1 h2.1 h3 (by rw [he]; exact .nil) (by rw [he]; exact .nil), ?_⟩
    intro hm
    have e : sysModules = a := by simpa using hm
    rw [← e] at na
    exact absurd na (by decide)
theorem flatAll_reads (I : Inv X pins σ H s) : ∀ {ds : List PyData} {vs : List V} {us : List Value}, FlatAll H vs ds → Vals vs us →
    ∃ as, ReadsAll s.heap us ds as ∧ sysModules ∉ as
  | _, _, _, .nil, .nil => ⟨[], .nil, by simp⟩
  | _, _, _, .cons h hs, .cons r rs => by
    obtain ⟨as, a1, a2⟩ := flat_reads I h r
    obtain ⟨bs, b1, b2⟩ := flatAll_reads I hs rs
    exact ⟨_, .cons a1 b1, fun hm => (List.mem_append.mp hm).elim a2 b2⟩
end

/-- repr of a list, its items ds -/
def rReprL (K : PySem.W.Frag) : List V → Hp → VK → Prop := fun xs H Q => ∃ (a : Addr) (vs : List V) (ds : List PyData), xs = [.ref a] ∧ SqL K H a vs ∧
  (DpAll K H vs ds ∨ FlatAll H vs ds) ∧ (PyData.list ds).showable = true ∧ (PyData.list ds).depth ≤ 60 ∧ (PyData.list ds).shown.length ≤ sizeLine ∧ Q (.str (PyData.list ds).shown) H
theorem cr_reprL {X : Cx} (hg : X.A.guards = some []) (hu : X.A.units + 64 < cLine) : CallR X (.builtin "repr") (rReprL X.K) := by
  intro pins s σ H xs us Q I r h
  obtain ⟨a, vs, ds, rfl, hL, hd, hs, hdp, hz, q⟩ := h
  obtain ⟨its, rv, ⟨o, n, e, c, _, dt⟩, _⟩ := I.list hL
  rw [Vals.ref1 r]
  have fin : ∀ (h' : Heap) (u tk : Nat), (∀ b o, s.heap.get? b = some o → h'.get? b = some o) → EP X pins σ Q (.str (PyData.list ds).shown u) { s with heap := h', toks := tk } :=
    fun h' u tk hk => ⟨.str _, H, I.kept hk, ⟨u, rfl⟩, q⟩
  rcases hd with hd | hd
  · obtain ⟨as, rd⟩ := Dp.reads I (.list ds) (.ref a) (.ref a) (.lst hL hd) rfl
    exact repr_of_reads' (h₀ := s.heap) rd hs (PyData.noDict_hsm (dp_plain _ _ (Dp.lst hL hd))) hg (by omega) (fun _ _ z => z) fin hz
  · obtain ⟨as, h4, hno⟩ := flatAll_reads I hd rv
    have hz' : (listText (PyData.shownAll ds)).length ≤ sizeLine := by simpa only [PyData.shown] using hz
    have hs' : PyData.showableAll ds = true := by simpa [PyData.showable] using hs
    obtain ⟨bs, hb, hk⟩ := ReprAllK.of_readsAll (prog := X.prog) (w := X.w) h4 hs' (fun _ => hno) (fun t ht => Nat.le_trans (listText_mem_le ht) hz')
    have whole : Reads s.heap (.ref a) (.list ds) (a :: as) := .list (vs := its.toArray) e c dt (by simpa using h4)
    have hna : a ∉ bs := not_mem_of_deeper whole (by simp only [PyData.depth]; omega) hb
    refine call_repr_slot (by omega) ⟨o, e, c⟩ F.slot_list_repr.toG ?_
    simp only [PyData.depth] at hdp
    have fin' : ∀ (h' : Heap) (u tk : Nat), (∀ b o, s.heap.get? b = some o → h'.get? b = some o) →
        (∃ x t, Value.str (listText (PyData.shownAll ds)) u = .str x t ∧ EP X pins σ Q (.str (listText (PyData.shownAll ds)) u) { s with heap := h', toks := tk }) :=
      fun h' u tk z => ⟨_, _, rfl, by have := fin h' u tk z; simpa only [PyData.shown] using this⟩
    cases its with
    | nil =>
      cases h4
      simp only [PyData.shownAll, listText_nil] at fin'
      exact call_list_repr_empty ⟨o, e, c⟩ e dt (fin' s.heap _ _ fun _ _ z => z)
    | cons y l =>
      exact call_list_reprK (h₀ := s.heap) e c dt hna (by simpa using hk.length_eq) (fun i y e => hk.item i y (by simpa using e)) hg (fun b _ => Clear.nil b)
        (by show X.A.units + 1 + (PyData.depthAll ds + 1) < cLine; omega) (fun _ _ z => z) fin' hz'
end SQ
/-! Own exceptions over any of the built-in bases, made as values (by position, by keyword, without arguments), read, and asked for their class. -/
namespace SQ
open PySem PySem.Spec PyProof.Rows L2
open PySem.W (Looks)
section
variable {prog : Program} {w : World} {A : Around} {E : Value → Shared → Prop} {R : Result → Shared → Prop}
  {h : Heap} {g : Array GenState} {d : Drawn} {t : Nat} {os : OsState}
  {nm q : Str} {C N : Addr} {bs bm bmB : List Value} {hdct : Bool} {sn : List Str} {sub : List Value} {ab : Bool}
  {col : Option Bool} {dd : Option Addr} {k0 k1 k2 k3 k5 : Option Value} {B newId initId : String} {kw : List (Str × Value)}

theorem chk_new (FB : ExcBaseFacts B newId initId bmB) (hT : ∀ X : String, bm.contains (.type X) = bmB.contains (.type X))
    {rest : List Value} {Q : Unit → Shared → Prop}
    (hC : h.get? C = some (excClassObj nm q C N bs bm hdct sn sub ab col dd k0 k1 k2 k3 k5 newId))
    (hq : Q () ⟨h, g, d, t, os⟩) :
    wpAny (model prog w) A (checkBuiltinCall newId ⟨.ref C :: rest, kw⟩) Q E ⟨h, g, d, t, os⟩ := by
  have inB : (Value.ref C :: bm).contains (.type B) = true := by
    rw [List.contains_cons, hT, FB.hasB, Bool.or_true]
  have nostar := FB.noStar
  simp only [checkBuiltinCall, FB.newKind, FB.newSplit, FB.newRow]
  repeat (first
    | refine wpAny_loadPart_at hC ?_
    | (refine wpAny_isSubtype_exc hC ?_; rw [inB])
    | refine wpAny_staticBase_exc hC ?_
    | refine wpAny_madeBy_exc hC ?_
    | simp only [bne_self_eq_false, Bool.false_eq_true, if_false]
    | wp_step)
  exact hq
theorem run_new (FB : ExcBaseFacts B newId initId bmB) (hT : ∀ X : String, bm.contains (.type X) = bmB.contains (.type X))
    {rest : List Value} (hC : h.get? C = some (excClassObj nm q C N bs bm hdct sn sub ab col dd k0 k1 k2 k3 k5 newId))
    (hrest : rest.length ≤ sizeLine)
    (hq : R (.ok (.ret (.ref (h.objs.size + 1)))) ⟨(h.push (PySem.W.kdv_tup rest)).push (PySem.HandSPX.excO C h.objs.size), g, d, t, os⟩) :
    codeAny (model prog w) A (.builtin newId ⟨.ref C :: rest, kw⟩) R ⟨h, g, d, t, os⟩ := by
  have en := FB.ends
  have inB : (Value.ref C :: bm).contains (.type B) = true := by
    rw [List.contains_cons, hT, FB.hasB, Bool.or_true]
  have inA : (Value.ref C :: bm).contains (.type "AttributeError") = false := by
    rw [List.contains_cons, hT, FB.noAttr]
    rfl
  have inN : (Value.ref C :: bm).contains (.type "NameError") = false := by
    rw [List.contains_cons, hT, FB.noName]
    rfl
  refine codeAny_builtinAt FB.entry ?_
  unfold Builtin.«BaseException.__new__»
  refine PySem.wpAt_bind ?_
  show PySem.wpAt _ _ _ (stack >>= _) _ _ _
  refine PySem.wpAt_bind (PySem.wpAt_stack fun p below => PySem.wpAt_of_wpAny ?_)
  wp_walk
  refine PySem.wpAt_of_wpAny ?_
  rw [FB.owner]
  repeat (first
    | with_reducible refine wpAny_madeHere_exc FB.canon hC ?_
    | with_reducible refine wpAny_loadPart_at hC ?_
    | (with_reducible refine wpAny_isSubtype_exc hC ?_; first | rw [inB] | rw [inA] | rw [inN])
    | wp_step)
  show R _ _
  rw [Heap.size_push]
  exact hq
theorem run_tcall (FB : ExcBaseFacts B newId initId bmB) (hT : ∀ X : String, bm.contains (.type X) = bmB.contains (.type X))
    {rest : List Value} {fI : Addr} {Q : Fin → Shared → Prop}
    (hC : h.get? C = some (excClassObj nm q C N bs bm hdct sn sub ab col dd k0 k1 k2 k3 k5 newId))
    (hi : Looks (model prog w) h (typeLookup (.ref C) "__init__") (some (.ref fI)))
    (hb : ∀ self, Looks (model prog w) h (bindSpecial (.ref fI) self) (.ref fI, [self])) (hrest : rest.length ≤ sizeLine)
    (hq : codeAny (model prog w) A (.call (.ref fI) ⟨.ref (h.objs.size + 1) :: rest, kw⟩)
      (fun r s' => match r with
        | .ok (.ret v) => v = .none ∧ Q (.done (.ret (.ref (h.objs.size + 1)))) s'
        | .ok _ => False
        | .error e => E e s')
      ⟨(h.push (PySem.W.kdv_tup rest)).push (PySem.HandSPX.excO C h.objs.size), g, d, t, os⟩) :
    wpAny (model prog w) A (Builtin.«type.__call__» ⟨.ref C :: rest, kw⟩) Q E ⟨h, g, d, t, os⟩ := by
  repeat (first
    | with_reducible refine wpAny_loadPart_at hC ?_
    | with_reducible refine wpAny_madeBy_exc hC ?_
    | wp_step)
  refine codeAny_call_builtin_code (Code.quiet_builtin _ FB.quiet) (chk_new FB hT hC ?_)
  refine run_new FB hT hC hrest ?_
  show wpAny _ _ _ _ _ _
  have keep : ∀ b o, h.get? b = some o → ((h.push (PySem.W.kdv_tup rest)).push (PySem.HandSPX.excO C h.objs.size)).get? b = some o :=
    fun b o e => Heap.get?_push_of_some _ (Heap.get?_push_of_some _ e)
  have hC1 := keep _ _ hC
  have got : ((h.push (PySem.W.kdv_tup rest)).push (PySem.HandSPX.excO C h.objs.size)).get? (h.objs.size + 1) = some (PySem.HandSPX.excO C h.objs.size) := by heap_get
  have inC : (Value.ref C :: bm).contains (.ref C) = true := by simp
  have i1 := hi.keeps keep
  have b1 := (hb (.ref (h.objs.size + 1))).keeps keep
  unfold isInstance
  repeat (first
    | with_reducible refine wpAny_loadPart_at got ?_
    | (with_reducible refine wpAny_isSubtype_exc hC1 ?_; rw [inC])
    | wp_step)
  show wpAny _ _ (typeLookup (.ref C) _) _ _ _
  refine i1.at ?_
  refine wpAny_holding (wpAny_bind (b1.at ?_))
  refine wpAny_bind (wpAny_call (codeAny_mono hq fun r s' z => ?_))
  rcases r with e | (_ | _ | _ | v) <;> first | exact z | exact z.elim | skip
  obtain ⟨rfl, z⟩ := z
  first
    | exact wpAny_pure (wpAny_pure z)
    | (wp_walk; exact z)
theorem run_ccall (FB : ExcBaseFacts B newId initId bmB) (hT : ∀ X : String, bm.contains (.type X) = bmB.contains (.type X))
    {rest : List Value} {fI : Addr}
    (hC : h.get? C = some (excClassObj nm q C N bs bm hdct sn sub ab col dd k0 k1 k2 k3 k5 newId))
    (hi : Looks (model prog w) h (typeLookup (.ref C) "__init__") (some (.ref fI)))
    (hb : ∀ self, Looks (model prog w) h (bindSpecial (.ref fI) self) (.ref fI, [self])) (hrest : rest.length ≤ sizeLine)
    (hq : codeAny (model prog w) (A.under (.builtin "type.__call__" ⟨.ref C :: rest, kw⟩)) (.call (.ref fI) ⟨.ref (h.objs.size + 1) :: rest, kw⟩)
      (PySem.W.InitBack (h.objs.size + 1) R)
      ⟨(h.push (PySem.W.kdv_tup rest)).push (PySem.HandSPX.excO C h.objs.size), g, d, t, os⟩) :
    codeAny (model prog w) A (.call (.ref C) ⟨rest, kw⟩) R ⟨h, g, d, t, os⟩ := by
  have f1 := tc_lookup
  have f2 := tc_bind (.ref C)
  have hTy : (⟨h, g, d, t, os⟩ : Shared).TypeIs (.ref C) "type" := ⟨_, hC, rfl⟩
  refine codeAny_of_tree ?_
  show wpAny _ _ (callAny (.ref C) _) _ _ _
  repeat (any_goals (first | assumption | with_reducible refine wpAny_loadPart_at hC ?_ | wp_step))
  refine ⟨rfl, ?_⟩
  refine codeAny_call_builtin_at (Code.quiet_builtin _ (by decide +kernel)) entry_typeCall (wpAny_check_type_call_sub hC (run_tcall FB hT hC hi hb hrest ?_))
  refine codeAny_mono hq fun r s' z => ?_
  rcases r with e | (_ | _ | _ | v) <;> exact z
end
end SQ
namespace SQ
open PySem PySem.Spec PyProof.Rows L2

/-! ### what the written part says of an error's class -/
/-- the text of «def __init__(self, f): self.f = f» -/
def iArgs (f : Str) (p1 p2 : Pos) : Arguments := { posonlyargs := [], args := [{ arg := "self", annotation := none, pos := p1 }, { arg := f, annotation := none, pos := p2 }], vararg := none, kwonlyargs := [], kw_defaults := [], kwarg := none, defaults := [] }
def iBody (f : Str) (q1 q2 q3 q4 : Pos) : List Stmt := [.Assign [.Attribute (.Name "self" q1) f q2] (.Name f q3) q4]
def iScope (f : Str) : Scope := { kind := .function, names := [(PySem.Str.ofString "self", .local), (f, .local)], isGenerator := false, isCoroutine := false, more := [] }
/-- a built-in base: its name, its makers, its mro -/
structure BaseB (B newId initId : String) (bmB : List Value) : Prop where
  fb : ExcBaseFacts B newId initId bmB
  sf : StoreFacts B bmB "object.__setattr__" "object"
theorem bValue : BaseB "ValueError" "ValueError.__new__" "ValueError.__init__" [.type "ValueError", .type "Exception", .type "BaseException", .type "object"] := ⟨F.excBase_ValueError, F.store_ValueError⟩
theorem bType : BaseB "TypeError" "TypeError.__new__" "TypeError.__init__" [.type "TypeError", .type "Exception", .type "BaseException", .type "object"] := ⟨F.excBase_TypeError, F.store_TypeError⟩
theorem bLookup : BaseB "LookupError" "LookupError.__new__" "LookupError.__init__" [.type "LookupError", .type "Exception", .type "BaseException", .type "object"] := ⟨F.excBase_LookupError, F.store_LookupError⟩
theorem bArith : BaseB "ArithmeticError" "ArithmeticError.__new__" "ArithmeticError.__init__" [.type "ArithmeticError", .type "Exception", .type "BaseException", .type "object"] := ⟨F.excBase_ArithmeticError, F.store_ArithmeticError⟩

/-- the facts that one check finds (a class at C; its field f) -/
def errOk (K : PySem.W.Frag) (C : Addr) (f : Str) (bmB : List Value) (newId : String) : Bool :=
  PySem.W.excInitIn K C bmB newId && PySem.W.excOver K C bmB && PySem.W.hasDictIn K C && PySem.W.keepIn K (.ref C) &&
  (PySem.W.findIn K (.ref C) "__setattr__" == some (some (.builtin "object.__setattr__"))) &&
  (PySem.W.findIn K (.ref C) "__getattribute__" == some (some (.builtin "BaseException.__getattribute__"))) &&
  (PySem.W.findIn K (.ref C) "__getattr__" == some none) && (PySem.W.findIn K (.ref C) f == some none) &&
  (PySem.W.subIn K (.ref C) (.type "BaseException") == some true) && (PySem.W.clsIn K C).isSome &&
  (PySem.W.findIn K (.ref C) "__class__" == some (some (.builtin "object.__class__"))) && (PySem.W.mroIn K C (.type "object") == some true)
structure ErrC (K : PySem.W.Frag) (C : Addr) (f : Str) (bmB : List Value) (newId : String) : Prop where
  ini : PySem.W.excInitIn K C bmB newId = true
  ov : PySem.W.excOver K C bmB = true
  hd : PySem.W.hasDictIn K C = true
  kp : PySem.W.keepIn K (.ref C) = true
  sa : PySem.W.findIn K (.ref C) "__setattr__" = some (some (.builtin "object.__setattr__"))
  ga : PySem.W.findIn K (.ref C) "__getattribute__" = some (some (.builtin "BaseException.__getattribute__"))
  gg : PySem.W.findIn K (.ref C) "__getattr__" = some none
  no : PySem.W.findIn K (.ref C) f = some none
  ex : PySem.W.subIn K (.ref C) (.type "BaseException") = some true
  cl : (PySem.W.clsIn K C).isSome = true
  ca : PySem.W.findIn K (.ref C) "__class__" = some (some (.builtin "object.__class__"))
  ob : PySem.W.mroIn K C (.type "object") = some true
theorem ErrC.of {K : PySem.W.Frag} {C : Addr} {f : Str} {bmB : List Value} {newId : String} (h : errOk K C f bmB newId = true) : ErrC K C f bmB newId := by
  unfold errOk at h
  simp only [Bool.and_eq_true, beq_iff_eq] at h
  obtain ⟨⟨⟨⟨⟨⟨⟨⟨⟨⟨⟨h1, h2⟩, h3⟩, h4⟩, h5⟩, h6⟩, h7⟩, h8⟩, h9⟩, h10⟩, h11⟩, h12⟩ := h
  exact ⟨h1, h2, h3, h4, h5, h6, h7, h8, h9, h10, h11, h12⟩
/-- .. and of its __init__ -/
structure ErrI (K : PySem.W.Frag) (C fI : Addr) (f : Str) : Prop where
  at_ : PySem.W.findIn K (.ref C) "__init__" = some (some (.ref fI))
  ty : PySem.W.typeIn K (.ref fI) = some (.type "function")
  fn : ∃ (qual : Str) (oc : Value) (od : Option Addr) (doc pm : Value) (an : Option Addr) (cdv ct : Value) (osl : Array (Option Value)) (p1 p2 q1 q2 q3 q4 : Pos),
    K.lookup fI = some ⟨oc, od, .func (PySem.W.fnOf "__init__" qual (iArgs f p1 p2) (iBody f q1 q2 q3 q4) (iScope f) .none .none doc pm an cdv ct), osl⟩ ∧ PySem.W.codeIn K cdv qual = true
/-- the three fields -/
def Fld (f : Str) : Prop := f = "value" ∨ f = "index" ∨ f = "limit"

section
variable {prog : Program} {w : World} {A : Around} {E : Value → Shared → Prop} {R : Result → Shared → Prop} {hp : Heap} {g : Array GenState} {d : Drawn} {t : Nat} {os : OsState}
  {K : PySem.W.Frag} {B newId initId : String} {bmB : List Value} {C fI : Addr} {f : Str}
/-- self.f = v on an exception that has no dict yet -/
theorem store_first (SF : StoreFacts B bmB "object.__setattr__" "object") (T : ErrC K C f bmB newId) {x t0 : Addr} {tk : Tok} {v : Value} (X : K.In hp) (hx : hp.get? x = some (PySem.HandSPX.excO C t0))
    (hq : ∀ h' tk' dx, (∀ b o, b ≠ x → hp.get? b = some o → h'.get? b = some o) → hp.objs.size ≤ dx → dx ≠ x →
      h'.get? x = some { cls := .ref C, dict := some dx, data := .fields #[.ref t0, .none, .none, .none, .bool false, .none] } →
      h'.Ns1 dx (fun y => if y = f then some v else none) → R (.ok (.ret .none)) ⟨h', g, d, tk', os⟩) :
    codeAny (model prog w) A (.call (.builtin "object.__setattr__") ⟨[.ref x, .str f tk, v], []⟩) R ⟨hp, g, d, t, os⟩ := by
  have ht : PySem.W.takerIn K C f = some none := by
    unfold PySem.W.takerIn
    rw [T.no]
    rfl
  have ne : x ≠ hp.objs.size := Nat.ne_of_lt (Heap.lt_size hx)
  refine PySem.W.osa_openX (od := none) SF X ⟨hx, rfl, rfl, trivial⟩ T.ov ht fun b => ?_
  obtain ⟨cd, hc, hd'⟩ := PySem.W.any_some T.hd
  refine wpAny_bind (wpAny_pure (wpAny_bind (PySem.W.instanceDict_exc (c2 := .none) hx (PySem.W.looks_clsIn X hc) hd' ?_)))
  show wpAny _ _ (Builtin.ObjectAttr.storeInDict hp.objs.size (.str f tk) f v) _ _ _
  refine PySem.HandSPX.store_in_new ?_ ?_
  · exact ⟨_, #[], _, (Heap.get?_update_ne _ _ _ _ ne.symm).trans (Heap.get?_push_at rfl rfl), rfl, fun e he => absurd he (by simp), fun _ => rfl⟩
  · intro h' tk' hn' hs
    have hx1 : (hp.push { cls := .type "dict", data := .dict #[] }).get? x = some (PySem.HandSPX.excO C t0) := Heap.get?_push_of_some _ hx
    refine hq h' tk' hp.objs.size (fun b o hb ho => ?_) (Nat.le_refl _) ne.symm ?_ hn'
    · exact (hs.2 b (Nat.ne_of_lt (Heap.lt_size ho))).trans ((Heap.get?_update_ne _ _ _ _ hb).trans (Heap.get?_push_of_some _ ho))
    · exact (hs.2 x ne).trans (Heap.get?_update_self _ hx1 rfl)
end
/-- an error made: its object at e, its dict at dx, both new -/
structure Made (h h' : Heap) (e C dx : Addr) (f : Str) (v : Value) : Prop where
  keep : ∀ b o, h.get? b = some o → h'.get? b = some o
  new : h.objs.size ≤ e
  obj : ∃ t1 : Addr, h'.get? e = some ({ cls := .ref C, dict := some dx, data := .fields #[.ref t1, .none, .none, .none, .bool false, .none] } : Obj)
  dbig : h.objs.size ≤ dx
  dne : dx ≠ e
  ns : h'.Ns1 dx (fun y => if y = f then some v else none)
theorem ld_loc {M : Model} {s : Shared} {name : Str} {scope : Scope} {L a : Addr} {cd : Value} {m : Str → Option Value} {x : Str} {pos : Pos} {v : Value} {Q : Value → Shared → Prop} {A : Around} {E : Value → Shared → Prop} (hn : s.heap.Ns L m) (hv : m x = some v) (h : Q v s)
    (hk : scope.kind = .function := by rfl) (hl : (envOfC name scope L a cd).kindOf x = some .local := by rfl) (hd : (x == ("__debug__" : Str)) = false := by decide) :
    wpAny M A (eval (.Name x pos) (envOfC name scope L a cd)) Q E s := wpAny_Name (wpAny_loadName_local hk hl hn hv h) hd
section
variable {prog : Program} {w : World} {A : Around} {E : Value → Shared → Prop} {R : Result → Shared → Prop} {s : Shared}
  {K : PySem.W.Frag} {B newId initId : String} {bmB : List Value} {C fI : Addr} {f : Str}
/-- the run of __init__, the value coming by position or by keyword -/
theorem run_init (hf : Fld f) (SF : StoreFacts B bmB "object.__setattr__" "object") (T : ErrC K C f bmB newId) (J : ErrI K C fI f) {x t0 : Addr} {v : Value} {args : Args} (ha : args = ⟨[.ref x, v], []⟩ ∨ args = ⟨[.ref x], [(f, v)]⟩)
    (X : K.In s.heap) (hlim : s.heap.NoLimit) (hx : s.heap.get? x = some (PySem.HandSPX.excO C t0)) (hroom : A.depth < recursionLimit)
    (hq : ∀ h' tk dx, (∀ b o, b ≠ x → s.heap.get? b = some o → h'.get? b = some o) → s.heap.objs.size ≤ dx → dx ≠ x →
      h'.get? x = some { cls := .ref C, dict := some dx, data := .fields #[.ref t0, .none, .none, .none, .bool false, .none] } →
      h'.Ns1 dx (fun y => if y = f then some v else none) → R (.ok (.ret .none)) { s with heap := h', toks := tk }) :
    codeAny (model prog w) A (.call (.ref fI) args) R s := by
  obtain ⟨qual, oc, od, doc, pm, an, cdv, ct, osl, p1, p2, q1, q2, q3, q4, ho, hcd⟩ := J.fn
  have key : ∀ (bnd : BindsTo s (PySem.W.fnOf "__init__" qual (iArgs f p1 p2) (iBody f q1 q2 q3 q4) (iScope f) .none .none doc pm an cdv ct) args [("self", .ref x), (f, v)]), codeAny (model prog w) A (.call (.ref fI) args) R s := by
    intro bnd
    rcases hf with rfl | rfl | rfl
    all_goals
      refine Att.call_fn X hlim ho hcd hroom bnd (by first | rfl | decide | with_unfolding_all rfl) (fun s₁ IC => ?_) rfl rfl rfl
      obtain ⟨h₁, tk₁, rfl⟩ := IC.toInCall.same
      have k : ∀ b o, s.heap.get? b = some o → h₁.get? b = some o := IC.toInCall.keep
      have hn := IC.toInCall.ns
      have X₁ : K.In h₁ := X.keeps k
      have hx₁ := k _ _ hx
      show wpAny _ _ (execs _ _) _ _ _
      refine wpAny_execs_cons (plainObj_wpAny_Assign_Attribute ?_)
      refine ld_loc (v := v) hn (by first | rfl | with_unfolding_all rfl | kernel_rfl) (ld_loc (v := .ref x) hn (by first | rfl | with_unfolding_all rfl | kernel_rfl) ?_)
      refine PySem.W.set_plain X₁ (ox := PySem.HandSPX.excO C t0) (od := none) ⟨hx₁, rfl, rfl, trivial⟩ T.sa ?_
      refine store_first SF T X₁ hx₁ (fun h₃ tk₃ dx k₃ dn dne hx₃ hn₃ => ?_)
      show wpAny _ _ (execs _ _) _ _ _
      have z : s.heap.objs.size < h₁.objs.size := hn.lt
      exact wpAny_execs_nil (hq h₃ tk₃ dx (fun b o hb e => k₃ b o hb (k b o e)) (Nat.le_of_lt (Nat.lt_of_lt_of_le z dn)) dne hx₃ hn₃)
  refine key ?_
  rcases hf with rfl | rfl | rfl
  all_goals
    rcases ha with rfl | rfl
    · exact BindsTo.of_eq (by first | rfl | with_unfolding_all rfl | kernel_rfl)
    · exact BindsTo.of_eq (by first | rfl | with_unfolding_all rfl | kernel_rfl)
/-- C(v), C(f=v) -/
theorem run_made (hf : Fld f) (BB : BaseB B newId initId bmB) (T : ErrC K C f bmB newId) (J : ErrI K C fI f) {v : Value} {pos : List Value} {kw : List (Str × Value)} (ha : (pos = [v] ∧ kw = []) ∨ (pos = [] ∧ kw = [(f, v)]))
    (X : K.In s.heap) (hlim : s.heap.NoLimit) (hroom : A.depth + 1 < recursionLimit)
    (hq : ∀ h' tk e dx, Made s.heap h' e C dx f v → R (.ok (.ret (.ref e))) { s with heap := h', toks := tk }) :
    codeAny (model prog w) A (.call (.ref C) ⟨pos, kw⟩) R s := by
  obtain ⟨nm, N, qn, bs, bm, hdct, sn, sub, ab, col, dd, k0, k1, k2, k3, k5, hC, hT⟩ := PySem.W.excInit_of X T.ini
  obtain ⟨hp, g, dr, tk, os⟩ := s
  have k : ∀ b o, hp.get? b = some o → ((hp.push (PySem.W.kdv_tup pos)).push (PySem.HandSPX.excO C hp.objs.size)).get? b = some o := fun b o e => Heap.get?_push_of_some _ (Heap.get?_push_of_some _ e)
  have hget : ((hp.push (PySem.W.kdv_tup pos)).push (PySem.HandSPX.excO C hp.objs.size)).get? (hp.objs.size + 1) = some (PySem.HandSPX.excO C hp.objs.size) := by heap_get
  have hpos : pos.length ≤ sizeLine := by
    rcases ha with ⟨rfl, _⟩ | ⟨rfl, _⟩
    · show 1 ≤ sizeLine
      decide
    · show 0 ≤ sizeLine
      decide
  refine run_ccall BB.fb hT hC (PySem.W.looks_findIn X J.at_) (fun self => PySem.W.bind_fn X self J.ty) hpos ?_
  refine run_init (s := ⟨(hp.push (PySem.W.kdv_tup pos)).push (PySem.HandSPX.excO C hp.objs.size), g, dr, tk, os⟩) (v := v) hf BB.sf T J ?_ (X.keeps k) (hlim.keeps k) hget ?_ ?_
  · rcases ha with ⟨rfl, rfl⟩ | ⟨rfl, rfl⟩
    · exact .inl rfl
    · exact .inr rfl
  · rw [make_depth]
    exact hroom
  · intro h' tk' dx k' dn dne hx hns
    have old : ∀ b o, hp.get? b = some o → h'.get? b = some o := fun b o e => k' b o (Nat.ne_of_lt (Nat.lt_succ_of_lt (Heap.lt_size e))) (k b o e)
    have z : hp.objs.size + 1 + 1 ≤ dx := by
      have q := dn
      first
        | exact q
        | (simpa only [Heap.size_push] using q)
    exact ⟨rfl, hq h' tk' (hp.objs.size + 1) dx ⟨old, Nat.le_succ _, ⟨_, hx⟩, Nat.le_trans (Nat.le_trans (Nat.le_succ _) (Nat.le_succ _)) z, dne, hns⟩⟩
end
/-! ### the rules over the layer -/
section
variable {X : Cx} {pins : List (Addr × Obj)} {σ : L2.St} {H : Hp} {s : Shared}
/-- two new objects laid and tracked -/
theorem laid_two (I : Inv X pins σ H s) {h' : Heap} {a d : Addr} {o u : HO} {t' : Nat} (k : ∀ b z, s.heap.get? b = some z → h'.get? b = some z) (ha : s.heap.objs.size ≤ a) (hd : s.heap.objs.size ≤ d) (ne : d ≠ a)
    (oka : ObjOk X.prog X.w (upd (upd H d u) a o) h' a o) (okd : ObjOk X.prog X.w (upd (upd H d u) a o) h' d u) : Inv X pins σ (upd (upd H d u) a o) { s with heap := h', toks := t' } := by
  have na : H a = none := I.hok.fresh ha
  have nd : H d = none := I.hok.fresh hd
  have far : ∀ {b : Addr} {z : Obj}, s.heap.get? b = some z → b ≠ a ∧ b ≠ d := fun {b z} q =>
    ⟨Nat.ne_of_lt (Nat.lt_of_lt_of_le (Heap.lt_size q) ha), Nat.ne_of_lt (Nat.lt_of_lt_of_le (Heap.lt_size q) hd)⟩
  have same : ∀ {b : Addr} {z : HO}, H b = some z → upd (upd H d u) a o b = some z := fun {b z} q => by
    rw [upd_ne (ne_of_none q na), upd_ne (ne_of_none q nd)]
    exact q
  refine I.un (t' := t') ⟨fun b z q _ _ _ => k b z q, fun b z q _ _ _ => ⟨z.slots, k b z q⟩, fun b z q n _ => ?_, fun b z q _ => ⟨z, k b z q⟩, fun b xs q => same q, fun b z xs q => same q, fun b ps q => ⟨#[], by rw [same q]; simp⟩⟩ ?_
  · rw [upd_ne (far q).1, upd_ne (far q).2]
    exact n
  · intro b z q
    by_cases hb : b = a
    · subst hb
      rw [upd_same] at q
      cases q
      exact oka
    · rw [upd_ne hb] at q
      by_cases hb2 : b = d
      · subst hb2
        rw [upd_same] at q
        cases q
        exact okd
      · rw [upd_ne hb2] at q
        exact (I.hok b z q).stay (fun c y _ r => k c y r) (fun c r => same r) fun c xs r => same r
end
/-- at a: an error of the class at C whose field f holds v -/
def ErrAt (H : Hp) (a C : Addr) (f : Str) (v : V) : Prop := ∃ d, H a = some (exo a C (some d)) ∧ H d = some (exd d [(f, v)])
/-- at a: an error of the class at C, with a dict or without -/
def ErrIs (H : Hp) (a C : Addr) : Prop := ∃ d, H a = some (exo a C d)  ∧ ∀ x, d = some x → ∃ fs, H x = some (exd x fs)
theorem ErrAt.is {H : Hp} {a C : Addr} {f : Str} {v : V} (h : ErrAt H a C f v) : ErrIs H a C := by
  obtain ⟨d, h1, h2⟩ := h
  exact ⟨some d, h1, fun x e => by cases e; exact ⟨_, h2⟩⟩
theorem ErrAt.same {H H' : Hp} {a C : Addr} {f : Str} {v : V} (s : Same H H') (h : ErrAt H a C f v) : ErrAt H' a C f v := by
  obtain ⟨d, h1, h2⟩ := h
  exact ⟨d, s _ _ h1, s _ _ h2⟩
theorem ErrIs.same {H H' : Hp} {a C : Addr} (s : Same H H') (h : ErrIs H a C) : ErrIs H' a C := by
  obtain ⟨d, h1, h2⟩ := h
  refine ⟨d, s _ _ h1, fun x e => ?_⟩
  obtain ⟨fs, h3⟩ := h2 x e
  exact ⟨fs, s _ _ h3⟩
/-- C(e) and C(f=e): a new error -/
def tErr (C : Addr) (f : Str) (te : TE) : TE := fun σ H Q => te σ H fun v H1 => ∀ (a : Addr) (H' : Hp), Same H1 H' → H1 a = none → ErrAt H' a C f v → Q (.ref a) H'
/-- C() -/
def tErr0 (C : Addr) : TE := fun σ H Q => ∀ (a : Addr) (H' : Hp), Same H H' → H a = none → ErrIs H' a C → Q (.ref a) H'
section
variable {X : Cx} {B newId initId : String} {bmB : List Value} {C fI : Addr} {f x : Str} {e : Expr} {te : TE} {p pos kpos : Pos} {k : Nat}
theorem made_end {pins : List (Addr × Obj)} {σ : L2.St} {H : Hp} {s : Shared} {Q : VK} {v : V} {v' : Value} (I : Inv X pins σ H s) (rv : RelV v v') {h' : Heap} {tk : Nat} {a dx : Addr} (M : Made s.heap h' a C dx f v')
    (q : ∀ (a : Addr) (H' : Hp), Same H H' → H a = none → ErrAt H' a C f v → Q (.ref a) H') : EP X pins σ Q (.ref a) { s with heap := h', toks := tk } := by
  obtain ⟨t1, ho⟩ := M.obj
  have na : H a = none := I.hok.fresh M.new
  have nd : H dx = none := I.hok.fresh M.dbig
  have J : Inv X pins σ (upd (upd H dx (exd dx [(f, v)])) a (exo a C (some dx))) { s with heap := h', toks := tk } :=
    laid_two I M.keep M.new M.dbig M.dne (exo_ok ho) (exd_ok M.ns (relO_put (fs := []) rv fun g => True.intro))
  refine ⟨.ref a, _, J, rfl, q a _ (fun b o z => ?_) na ⟨dx, upd_same, ?_⟩⟩
  · rw [upd_ne (ne_of_none z na), upd_ne (ne_of_none z nd)]
    exact z
  · rw [upd_ne M.dne, upd_same]
theorem pe_err (hf : Fld f) (BB : BaseB B newId initId bmB) (T : ErrC X.K C f bmB newId) (J : ErrI X.K C fI f) (gC : X.mg x = some (.ref C)) (hr : Room k X.A) (hg : Gl X x) (he : PE X e te)
    (hdb : (x == ("__debug__" : Str)) = false := by decide) (hs : starEach [e] X.env = (false, eval e X.env) :: starEach [] X.env := by rfl) : PE X (.Call (.Name x p) [e] [] pos) (tErr C f te) := by
  constructor
  intro pins s σ H Q I h
  refine wpAny_Call_Name_kw (ld_glob I hg gC ?_ hdb)
  refine PySem.W.callWith_K (h₀ := X.base) I.ok.mod.kin T.kp ?_ hs (by rfl)
  rw [hs]
  show wpAny _ _ (spliced ((false, eval e X.env) :: backTo pos (starEach [] X.env))) _ _ s
  refine Calls.spliced_cons (thn (he.run pins s σ H _ I h) fun u s1 ⟨v, H1, I1, r1, q1⟩ => ?_)
  refine Calls.spliced_nil ⟨I1.kIn, ?_⟩
  show wpAny _ _ (call (.ref C) [u]) _ _ _
  exact wpAny_call (run_made (pos := [u]) (kw := []) hf BB T J (.inl ⟨rfl, rfl⟩) I1.kIn I1.nolimit (by have := hr.dp; omega) fun h' tk a dx M => made_end I1 r1 M q1)
theorem pe_errK (hf : Fld f) (BB : BaseB B newId initId bmB) (T : ErrC X.K C f bmB newId) (J : ErrI X.K C fI f) (gC : X.mg x = some (.ref C)) (hr : Room k X.A) (hg : Gl X x) (he : PE X e te)
    (hdb : (x == ("__debug__" : Str)) = false := by decide) : PE X (.Call (.Name x p) [] [⟨some f, e, kpos⟩] pos) (tErr C f te) := by
  constructor
  intro pins s σ H Q I h
  refine wpAny_Call_Name_kw (ld_glob I hg gC ?_ hdb)
  refine PySem.W.callWith_KW0 (h₀ := X.base) I.ok.mod.kin T.kp rfl ?_
  have hk : PK X [⟨some f, e, kpos⟩] (tCons te tNil) := pk_cons he pk_nil
  have h2 : tCons te tNil σ H (fun zs H1 => match zs with
      | [v] => ∀ (a : Addr) (H' : Hp), Same H1 H' → H1 a = none → ErrAt H' a C f v → Q (.ref a) H'
      | _ => False) := h
  refine thn (hk.run pos pins s σ H _ I h2) ?_
  intro us s1 ⟨zs, H1, I1, r1, q1⟩
  refine ⟨I1.kIn, ?_⟩
  cases r1 with
  | nil => exact q1.elim
  | cons rv rr =>
    cases rr with
    | cons _ _ => exact q1.elim
    | nil =>
      rename_i u
      show wpAny _ _ (call (.ref C) [] [(f, u)]) _ _ _
      exact wpAny_call (run_made (pos := []) (kw := [(f, u)]) hf BB T J (.inr ⟨rfl, rfl⟩) I1.kIn I1.nolimit (by have := hr.dp; omega) fun h' tk a dx M => made_end I1 rv M q1)
/-- the facts of a class without an __init__ of its own -/
theorem pe_err0 {bmB : List Value} (FB : ExcBaseFacts B newId initId bmB) (q : PySem.W.excIn X.K C bmB newId = true) (gC : X.mg x = some (.ref C)) (kC : PySem.W.keepIn X.K (.ref C) = true) (hg : Gl X x)
    (hdb : (x == ("__debug__" : Str)) = false := by decide) : PE X (.Call (.Name x p) [] [] pos) (tErr0 C) := by
  constructor
  intro pins s σ H Q I h
  refine wpAny_Call_Name_kw (ld_glob I hg gC ?_ hdb)
  refine PySem.W.callWith_K0 I.kIn kC ?_
  show wpAny _ _ (call (.ref C) []) _ _ _
  obtain ⟨bm, N, nm, qn, bs, hdct, sn, sub, ab, col, dd, k0, k1, k2, k3, k5, mN, hC, hN, hni, T⟩ := exc_obj I.kIn q
  refine wpAny_call_exc_subT FB T hC hN hni (fun h' a hm => ?_) (by show 0 ≤ sizeLine; decide)
  have hn : H a = none := I.hok.gone hm.new
  obtain ⟨t, ht, _, _⟩ := hm.there
  refine ⟨.ref a, upd H a (exo a C none), I.laidN hm.keeps hm.new hn (exo_ok (t1 := t) ht), rfl, h a _ (fun b o z => ?_) hn ⟨none, upd_same, fun x e => nomatch e⟩⟩
  rw [upd_ne (ne_of_none z hn)]
  exact z
/-- err.f -/
def tErrGet (C : Addr) (f : Str) (te : TE) : TE := fun σ H Q => te σ H fun x H1 => ∃ (a : Addr) (v : V), x = .ref a ∧ ErrAt H1 a C f v ∧ Q v H1
theorem pe_errGet (Cs : Addr → Prop) (T : ∀ C, Cs C → ∃ bmB newId, ErrC X.K C f bmB newId) (he : PE X e te) (hb : attributeBase e f X.env (eval e X.env) = eval e X.env) :
    PE X (.Attribute e f pos) (fun σ H Q => te σ H fun x H1 => ∃ (a C : Addr) (v : V), x = .ref a ∧ Cs C ∧ ErrAt H1 a C f v ∧ Q v H1) := by
  constructor
  intro pins s σ H Q I h
  refine attr_of hb (thn (he.run pins s σ H _ I h) ?_)
  intro u s1 ⟨x, H1, I1, rx, a, C, v, ex, hC, ⟨d, ha, hd⟩, q⟩
  subst ex
  obtain rfl : u = Value.ref a := rx
  obtain ⟨bmB, newId, T⟩ := T C hC
  obtain ⟨t1, ho⟩ := exo_at I1.hok ha
  obtain ⟨mA, hns, hr⟩ := exd_at I1.hok hd
  obtain ⟨od, hod, hl⟩ := lookIn_ns hns
  have l : List.lookup f [(f, v)] = some v := by simp [List.lookup]
  obtain ⟨u, hu, ru⟩ := RelO.some_of (v := v) (o := mA f) (by rw [← l]; exact hr f)
  have J : PySem.W.InstAt s1.heap a { cls := .ref C, dict := some d, data := .fields #[.ref t1, .none, .none, .none, .bool false, .none] } C (some od) := ⟨ho, rfl, rfl, hod⟩
  exact HandSPX.exc_get I1.kIn J T.ga T.gg T.ex (PySem.W.findObj_own T.hd T.no rfl (by rw [hl, hu])) (handed_of ru) ⟨v, H1, I1.tok _, ru, q⟩
end
/-! ### isinstance of an error -/
structure IsF (K : PySem.W.Frag) : Prop where
  gt : PySem.W.specialIn K (.builtin "object.__class__") "__get__" = some (some (.builtin "getset_descriptor.__get__"))
  tk : PySem.W.takesIn K (.builtin "object.__class__") = some true
/-- what isinstance asks of the class -/
structure IsC (K : PySem.W.Frag) (C : Addr) : Prop where
  ga : PySem.W.findIn K (.ref C) "__getattribute__" = some (some (.builtin "BaseException.__getattribute__"))
  gg : PySem.W.findIn K (.ref C) "__getattr__" = some none
  ex : PySem.W.subIn K (.ref C) (.type "BaseException") = some true
  cl : (PySem.W.clsIn K C).isSome = true
  ca : PySem.W.findIn K (.ref C) "__class__" = some (some (.builtin "object.__class__"))
  ob : PySem.W.mroIn K C (.type "object") = some true
theorem ErrC.isc {K : PySem.W.Frag} {C : Addr} {f : Str} {bmB : List Value} {newId : String} (T : ErrC K C f bmB newId) : IsC K C := ⟨T.ga, T.gg, T.ex, T.cl, T.ca, T.ob⟩
def isOk (K : PySem.W.Frag) (C : Addr) : Bool := (PySem.W.findIn K (.ref C) "__getattribute__" == some (some (.builtin "BaseException.__getattribute__"))) &&
  (PySem.W.findIn K (.ref C) "__getattr__" == some none) && (PySem.W.subIn K (.ref C) (.type "BaseException") == some true) && (PySem.W.clsIn K C).isSome &&
  (PySem.W.findIn K (.ref C) "__class__" == some (some (.builtin "object.__class__"))) && (PySem.W.mroIn K C (.type "object") == some true)
theorem IsC.of {K : PySem.W.Frag} {C : Addr} (h : isOk K C = true) : IsC K C := by
  unfold isOk at h
  simp only [Bool.and_eq_true, beq_iff_eq] at h
  obtain ⟨⟨⟨⟨⟨h1, h2⟩, h3⟩, h4⟩, h5⟩, h6⟩ := h
  exact ⟨h1, h2, h3, h4, h5, h6⟩
def rIsErr (K : PySem.W.Frag) : List V → Hp → VK → Prop := fun xs H Q => ∃ (a C : Addr) (c : V) (u : Value) (b : Bool), xs = [.ref a, c] ∧ ErrIs H a C ∧ IsC K C ∧ (∀ z, RelV c z → z = u) ∧ PySem.W.kitOne K (.ref C) u = some b ∧ Q (.bl b) H
theorem cr_isErr {X : Cx} (W : IsF X.K) : CallR X (.builtin "isinstance") (rIsErr X.K) := by
  intro pins s σ H xs us Q I r h
  obtain ⟨a, C, c, u, b, rfl, ⟨d, ha, hd⟩, T, hc, e, q⟩ := h
  obtain ⟨u1, u2, rfl, r1, r2⟩ := vals2 r
  obtain rfl : u1 = Value.ref a := r1
  have e2 := hc _ r2
  subst e2
  obtain ⟨t1, ho⟩ := exo_at I.hok ha
  have J : ∃ od, PySem.W.InstAt s.heap a { cls := .ref C, dict := d, data := .fields #[.ref t1, .none, .none, .none, .bool false, .none] } C od := by
    cases d with
    | none => exact ⟨none, ho, rfl, rfl, trivial⟩
    | some x =>
      obtain ⟨fs, hx⟩ := hd x rfl
      obtain ⟨mA, hns, _⟩ := exd_at I.hok hx
      obtain ⟨od, hod, _⟩ := lookIn_ns hns
      exact ⟨some od, ho, rfl, rfl, hod⟩
  obtain ⟨od, J⟩ := J
  exact PySem.W.kia_one (PySem.W.kitx_exc T.cl T.ga T.gg T.ex T.ca W.gt W.tk T.ob) I.kIn J e (fun z => nomatch z) fun tk => ⟨.bl b, H, I.tok tk, rfl, q⟩
end SQ
/-! Such errors raised, caught, read and asked in the suite. -/
namespace SQ
open PySem PySem.Spec PyProof.Rows L2
section
variable {X : Cx} {B newId initId : String} {bmB : List Value} {C fI : Addr} {f x : Str} {e : Expr} {te : TE} {p pos : Pos} {k : Nat}
/-- C(e), to be raised -/
theorem pmk_err (hf : Fld f) (BB : BaseB B newId initId bmB) (T : ErrC X.K C f bmB newId) (J : ErrI X.K C fI f) (ty : PySem.W.typeIn X.K (.ref C) = some (.type "type")) (gC : X.mg x = some (.ref C)) (hr : Room k X.A) (hg : Gl X x) (he : PE X e te)
    (hdb : (x == ("__debug__" : Str)) = false := by decide) (hs : starEach [e] X.env = (false, eval e X.env) :: starEach [] X.env := by rfl) :
    PMk X (.Call (.Name x p) [e] [] pos) (fun σ H Q => te σ H fun v H1 => ∀ d, H1 d = none → Q (.ref C) (some d) (upd H1 d (.xd [(f, v)]))) := by
  intro pins s σ H Q I h
  refine wpAny_Call_Name_kw (ld_glob I hg gC ?_ hdb)
  refine PySem.W.callWith_K (h₀ := X.base) I.ok.mod.kin T.kp ?_ hs (by rfl)
  rw [hs]
  show wpAny _ _ (spliced ((false, eval e X.env) :: backTo pos (starEach [] X.env))) _ _ s
  refine Calls.spliced_cons (thn (he.run pins s σ H _ I h) fun u s1 ⟨v, H1, I1, r1, q1⟩ => ?_)
  refine Calls.spliced_nil ⟨I1.kIn, ?_⟩
  show wpAny _ _ (call (.ref C) [u]) _ _ _
  have hlim := I1.nolimit
  obtain ⟨hp, g, dr, tk, os⟩ := s1
  refine wpAny_call (run_made (pos := [u]) (kw := []) hf BB T J (.inl ⟨rfl, rfl⟩) I1.kIn hlim (by have := hr.dp; omega) fun h' tk' a dx M => ?_)
  show MkP X pins σ Q (.ref a) ⟨h', g, dr, tk', os⟩
  obtain ⟨t1, ho⟩ := M.obj
  obtain ⟨G', g1, g2⟩ := restrict h' fun b => decide (b ≠ a)
  have gk : ∀ b, b ≠ a → G'.get? b = h'.get? b := fun b hb => g1 b (decide_eq_true hb)
  have ge : G'.get? a = none := g2 a (by simp)
  have old : ∀ b o, hp.get? b = some o → G'.get? b = some o := fun b o q =>
    (gk b (Nat.ne_of_lt (Nat.lt_of_lt_of_le (Heap.lt_size q) M.new))).trans (M.keep b o q)
  have ob : ObjOk X.prog X.w (upd H1 dx (.xd [(f, v)])) G' dx (.xd [(f, v)]) :=
    ⟨_, M.ns.at (fun o q => (gk dx M.dne).trans q), fun y => relO_put (fs := []) (mA := fun _ => none) r1 (fun g => True.intro) y⟩
  have J1 : Inv X pins σ (upd H1 dx (.xd [(f, v)])) ⟨G', g, dr, tk', os⟩ := I1.laid (t' := tk') old M.dbig ob
  refine ⟨a, _, _, ⟨G', g, dr, tk', os⟩, _, .ref C, some dx, rfl, J1, fun b o q => ?_, ge, ho, ⟨rfl, rfl⟩, rfl, rfl, ?_, rfl, I1.bare, raises_own T.ex ty, q1 dx (I1.hok.fresh M.dbig)⟩
  · by_cases hb : b = a
    · have q' : G'.get? b = some o := q
      rw [hb, ge] at q'
      cases q'
    · exact (gk b hb).symm.trans q
  · rw [upd_ne (Ne.symm M.dne)]
    exact I1.hok.fresh M.new
end
section
variable {X : Cx} {a : Addr} {oe : Obj} {cls : Value} {d : Option Addr} {pn : List (Addr × Obj)} {f : Str} {e : Expr} {te : TE} {pos : Pos}
/-- what is known of the error that a suite holds -/
def Held (K : PySem.W.Frag) (H : Hp) (cls : Value) (d : Option Addr) (C : Addr) (f : Str) (v : V) : Prop := cls = .ref C ∧ ∃ dd, d = some dd ∧ H dd = some (.xd [(f, v)])
theorem held_at {pins : List (Addr × Obj)} {σ : L2.St} {H : Hp} {s : Shared} {C : Addr} {v : V} (I : Inv (X.suite a ((a, oe) :: pn)) pins σ H s) (hz : Zc cls d oe) (hf : ∃ vs, oe.data = .fields vs) (h : Held X.K H cls d C f v) :
    ∃ (od : Obj) (u : Value), PySem.W.InstAt s.heap a oe C (some od) ∧ PySem.W.lookIn f od = some (some u) ∧ RelV v u := by
  obtain ⟨rfl, dd, rfl, hd⟩ := h
  obtain ⟨ha, _⟩ := I.pin (a, oe) (List.mem_append_left _ List.mem_cons_self)
  obtain ⟨vs, hv⟩ := hf
  have hx : ObjOk X.prog X.w H s.heap dd (.xd [(f, v)]) := I.hok dd _ hd
  obtain ⟨mA, hns, hr⟩ := hx
  obtain ⟨od, ho, hl⟩ := lookIn_ns hns
  have l : List.lookup f [(f, v)] = some v := by simp [List.lookup]
  obtain ⟨u, hu, ru⟩ := RelO.some_of (v := v) (o := mA f) (by rw [← l]; exact hr f)
  exact ⟨od, u, ⟨ha, hz.1, by unfold PySem.W.notCls; rw [hv] <;> rfl, by rw [hz.2]; exact ho⟩, by rw [hl, hu], ru⟩
/-- err.f, err the error that the suite holds -/
theorem pe_heldGet (hz : Zc cls d oe) (hf : ∃ vs, oe.data = .fields vs) (he : PE (X.suite a ((a, oe) :: pn)) e te) (hb : attributeBase e f X.env (eval e X.env) = eval e X.env := by rfl) :
    PE (X.suite a ((a, oe) :: pn)) (.Attribute e f pos) (fun σ H Q => te σ H fun y H1 => y = .ref a ∧ ∃ (C : Addr) (v : V) (bmB : List Value) (newId : String), Held X.K H1 cls d C f v ∧ ErrC X.K C f bmB newId ∧ Q v H1) := by
  constructor
  intro pins s σ H Q I h
  refine attr_of hb (thn (he.run pins s σ H _ I h) ?_)
  intro u s1 ⟨y, H1, I1, ry, ey, C, v, bmB, newId, hh, T, q⟩
  subst ey
  obtain rfl : u = Value.ref a := ry
  obtain ⟨od, u, J, hl, ru⟩ := held_at I1 hz hf hh
  exact HandSPX.exc_get I1.kIn J T.ga T.gg T.ex (PySem.W.findObj_own T.hd T.no rfl hl) (handed_of ru) ⟨v, H1, I1.tok _, ru, q⟩
/-- isinstance(err, c) -/
theorem cr_heldIs (W : IsF X.K) (hz : Zc cls d oe) (hf : ∃ vs, oe.data = .fields vs) : CallR (X.suite a ((a, oe) :: pn)) (.builtin "isinstance")
    (fun xs H Q => ∃ (c : V) (u : Value) (b : Bool) (C : Addr) (v : V) (f : Str), xs = [.ref a, c] ∧ Held X.K H cls d C f v ∧ IsC X.K C ∧ (∀ z, RelV c z → z = u) ∧ PySem.W.kitOne X.K (.ref C) u = some b ∧ Q (.bl b) H) := by
  intro pins s σ H xs us Q I r h
  obtain ⟨c, u, b, C, v, f, rfl, hh, T, hc, e, q⟩ := h
  obtain ⟨u1, u2, rfl, r1, r2⟩ := vals2 r
  obtain rfl : u1 = Value.ref a := r1
  have e2 := hc _ r2
  subst e2
  obtain ⟨od, _, J, _, _⟩ := held_at I hz hf hh
  exact PySem.W.kia_one (PySem.W.kitx_exc T.cl T.ga T.gg T.ex T.ca W.gt W.tk T.ob) I.kIn J e (fun z => nomatch z) fun tk => ⟨.bl b, H, I.tok tk, rfl, q⟩
end
end SQ
/-! for i, x in enumerate(a tuple) -/
namespace SQ
open PySem PySem.Spec PyProof.Rows L2
def ItT (K : PySem.W.Frag) (a : Addr) : It :=
  ⟨fun i H => ∃ (xs : List V) (x : V), SqT K H a xs ∧ xs[i]? = some x,
    fun i H v H' => ∃ T x, v = .ref T ∧ H T = none ∧ H' = upd H T (.tup [.int (i : Nat), x]) ∧ ∀ xs, SqT K H a xs → xs[i]? = some x,
    fun i H => ∃ xs : List V, SqT K H a xs ∧ xs.length = i⟩
/-- the makings of enumerate(v) -/
theorem meets_enum1 {v : Value} {o : Obj} {G : Heap → Prop} (B : Begins v o G) :
    Meets (Builtin.«enumerate.__new__» ⟨[.type "enumerate", v], []⟩) (fun _ R s => G s.heap ∧
      R (.ok (.ret (.ref (s.heap.push o).objs.size))) { s with heap := (s.heap.push o).push ({ cls := .type "enumerate", data := .fields #[.none, .bool false, .ref s.heap.objs.size, rawInt 0, .none, .none] } : Obj) }) := by
  refine .of_wp fun prog w A R s h => ?_
  obtain ⟨hp, g, d, tk, os⟩ := s
  obtain ⟨hG, hR⟩ := h
  have isSub := sub_enumerate
  have it : ∀ {A' : Around} {E : Value → Shared → Prop} {Q : Value → Shared → Prop}, Q (.ref hp.objs.size) ⟨hp.push o, g, d, tk, os⟩ →
      wpAny (model prog w) A' (pyIter v) Q E ⟨hp, g, d, tk, os⟩ := fun q => B.iter prog w _ _ ⟨hp, g, d, tk, os⟩ _ hG q
  wp_walk using it
  refine wpAny_stack_any fun st => wpAny_pure ?_
  split
  · rename_i c _ _ _ _ _
    cases (c == Value.type "enumerate") <;>
    · wp_walk using it
      exact ⟨_, rfl, hR⟩
  · wp_walk using it
    exact ⟨_, rfl, hR⟩
section
variable {prog : Program} {w : World} {A : Around} {E : Value → Shared → Prop} {s : Shared}
theorem enum_of {v : Value} {o : Obj} {G : Heap → Prop} {Q : Value → Shared → Prop} (B : Begins v o G) (hG : G s.heap)
    (h : ∀ h', IsEnum h' (s.heap.objs.size + 1) s.heap.objs.size 0 .none → h'.get? s.heap.objs.size = some o →
      (∀ b u, s.heap.get? b = some u → h'.get? b = some u) → Q (.ref (s.heap.objs.size + 1)) { s with heap := h' }) :
    wpAny (model prog w) A (call (.type "enumerate") [v]) Q E s := by
  refine callType_new F.called_enumerate (by decide) (F.typeCall_enumerate_1 _) (F.newCall_enumerate_1 _) (fun obj => F.args_object_init_2 obj _)
    F.entry_enumerate_new (meets_enum1 B) ⟨hG, ?_⟩
  have hz : (s.heap.push o).objs.size = s.heap.objs.size + 1 := Heap.size_push ..
  show _ ∧ _
  rw [hz]
  have got := Heap.get?_push_size (s.heap.push o)
    (o := { cls := .type "enumerate", data := .fields #[.none, .bool false, .ref s.heap.objs.size, rawInt 0, .none, .none] }) rfl
  rw [hz] at got
  exact ⟨⟨_, got, rfl⟩, h _ got (Heap.get?_push_of_some _ (Heap.get?_push_size _ B.free)) fun b u x => Heap.get?_push_of_some _ (Heap.get?_push_of_some _ x)⟩
end
theorem tup_of {h : Heap} {a : Addr} {its : List Value} (p : IsTup h a its.toArray) : h.IsTuple a its.toArray := by
  obtain ⟨o, e, c, n, d⟩ := p
  exact ⟨o, e, c, n, d⟩
theorem turn_enumT {P : Program} {w : World} {K : PySem.W.Frag} {elts : List Expr} {kk : Nat} {tpos : Pos} (a e it : Addr) :
    Turn P w K (.Tuple elts kk tpos) (ItT K a) [e, it] e (fun i h => (∃ old, IsEnum h e it ((i : Nat) : Int) old) ∧ h.IsTupleIter it a i ∧ e ≠ it ∧ a ≠ it ∧ e ≠ a) where
  mem := by simp
  obj := fun i h ⟨⟨old, he⟩, ⟨o, ho, hc, hd⟩, _⟩ b hb => by
    rcases (show b = e ∨ b = it by simpa using hb) with z | z
    · rw [z]
      exact ⟨_, he, fun v q => nomatch q⟩
    · rw [z]
      exact ⟨o, ho, fun v q => by rw [hd] at q; cases q⟩
  keep := fun i h h' ⟨⟨old, he⟩, ⟨o, ho, r⟩, ne⟩ k => ⟨⟨old, k e (by simp) _ he⟩, ⟨o, k it (by simp) _ ho, r⟩, ne⟩
  item := by
    intro X hP hw hK hc i pins s σ H E I hf ⟨⟨old, he⟩, hit, ne1, ne2, ne3⟩ ⟨xs, x, hq, hx⟩
    subst hP hw hK
    obtain ⟨its, rv, p, hz⟩ := I.tuple hq
    obtain ⟨u, hu, ru⟩ := rv.get hx
    have hel : e < s.heap.objs.size := Heap.lt_size he
    have hil : it < s.heap.objs.size := by
      obtain ⟨_, q, _⟩ := hit
      exact Heap.lt_size q
    have hd : X.A.in1.handled = none := I.ok.hd hc
    have hlt : i < its.toArray.size := by
      have := (List.getElem?_eq_some_iff.mp hu).1
      simpa using this
    refine wpAny_pyNext_enum_itemD (Draws.tuple (prog := X.prog) (w := X.w) (A := X.A.in1) hd it a ne2 its.toArray) he ⟨hit, tup_of p⟩ hlt ne1 (by simp [ne1, ne3]) ?_
    intro u' h' tk hu' ho ⟨hit', _⟩ hT hsz hk
    have eu : u' = u := by
      have h1 : its[i]? = some u' := by simpa using hu'
      rw [hu] at h1
      exact (Option.some.inj h1).symm
    subst eu
    refine ⟨_, rfl, wpAny_letOwnedTupleGo_enum (s := { s with heap := h', toks := tk + 1 }) ho fun h'' he' sb => ?_⟩
    have hT2 : h''.get? s.heap.objs.size = some { cls := .type "tuple", data := .seq #[.int i tk, u'] } := (sb.2 _ (Nat.ne_of_gt hel)).trans hT
    have new : ObjOk X.prog X.w (upd H s.heap.objs.size (.tup [.int (i : Nat), x])) h'' s.heap.objs.size (.tup [.int (i : Nat), x]) :=
      ⟨by show 2 ≤ sizeLine; decide, [.int i tk, u'], .cons ⟨_, rfl⟩ (.cons ru .nil), ⟨_, hT2, rfl, _, rfl⟩⟩
    have I1 : Inv X pins σ (upd H s.heap.objs.size (.tup [.int (i : Nat), x])) { s with heap := h'', toks := tk + 1 } :=
      I.turnedNew (ch := [e, it]) (fun b ob hb q => (sb.2 b (fun z => hb (by simp [z]))).trans (hk b ob (fun z => hb (by simp [z])) (fun z => hb (by simp [z])) q)) hf (Nat.le_refl _) new
    refine ⟨.ref s.heap.objs.size, _, I1, rfl, ⟨_, x, rfl, I.hok.fresh (Nat.le_refl _), rfl, fun ys hy => by rw [I.tuple_inj hy hq]; exact hx⟩, ⟨⟨u', ?_⟩, ?_, ne1, ne2, ne3⟩, fun b hb => ?_⟩
    · rw [show ((i + 1 : Nat) : Int) = (i : Int) + 1 by omega]
      exact he'
    · obtain ⟨o, q, r⟩ := hit'
      exact ⟨o, (sb.2 it (Ne.symm ne1)).trans q, r⟩
    · have hb' : b < s.heap.objs.size := by
        rcases (show b = e ∨ b = it by simpa using hb) with z | z
        · rw [z]
          exact hel
        · rw [z]
          exact hil
      rw [upd_ne (Nat.ne_of_lt hb')]
      exact (hf b hb).1
  done := by
    intro X hP hw hK hc i pins s σ H E I hf ⟨⟨old, he⟩, hit, ne1, ne2, ne3⟩ ⟨xs, hq, hx⟩
    subst hP hw hK
    obtain ⟨its, rv, p, hz⟩ := I.tuple hq
    obtain ⟨f0, f1, f2, f3, f4, f5⟩ := hf it (by simp)
    have hl := rv.length
    have hd : X.A.in1.handled = none := I.ok.hd hc
    have hn : its.toArray.size = i := by
      rw [List.size_toArray]
      omega
    refine wpAny_pyNext_enum_endD (Draws.tuple (prog := X.prog) (w := X.w) (A := X.A.in1) hd it a ne2 its.toArray) he ?_ ?_
    · rw [hn]
      exact ⟨hit, tup_of p⟩
    · intro h' eb
      exact ⟨rfl, I.turned (t' := s.toks) (fun b o hb q => eb b o hb q) f0 f1 f3 f4 f5⟩
  self := fun A i s Q E ⟨⟨_, he⟩, _⟩ h => wpAny_pyIter_enum he h
def iEnumT (K : PySem.W.Frag) (ta : TA) : TI := fun σ H R => ta σ H fun vs H1 => ∃ a xs, vs = [.ref a] ∧ SqT K H1 a xs ∧ R (ItT K a) H1
theorem pi_enumT {X : Cx} {e : Expr} {ta : TA} {p pos tpos : Pos} {elts : List Expr} {kk : Nat} (hg : Gl X "enumerate") (hm : X.mg "enumerate" = none) (ha : PA X [e] ta)
    (hs : starEach [e] X.env = [(false, eval e X.env)] := by rfl) : PI X (.Tuple elts kk tpos) (.Call (.Name "enumerate" p) [e] [] pos) (iEnumT X.K ta) := by
  constructor
  intro pins s σ H R I h
  refine Call_ (ld_blt I hg hm boot_enumerate (PyProof.Rows.callWith_type1 (thn (ha.run pos pins s σ H _ I h) ?_) hs rfl))
  intro us s1 ⟨vs, H1, I1, r1, a, xs, ex, hq, q⟩
  subst ex
  cases r1 with
  | cons r rr =>
    cases rr
    cases r
    obtain ⟨its, rv, p', hz⟩ := I1.tuple hq
    have hal : a < s1.heap.objs.size := by
      obtain ⟨o, e', _⟩ := p'
      exact Heap.lt_size e'
    refine enum_of (begins_tuple a its.toArray) (tup_of p') fun h' he hit hk => wpAny_pyIter_enum he ?_
    have I2 : Inv X pins σ H1 { s1 with heap := h' } := I1.kept (t' := s1.toks) hk
    refine ⟨s1.heap.objs.size + 1, [s1.heap.objs.size + 1, s1.heap.objs.size], _, _, H1, rfl, I2, turn_enumT a (s1.heap.objs.size + 1) s1.heap.objs.size,
      ⟨⟨.none, he⟩, ⟨_, hit, rfl, rfl⟩, Nat.succ_ne_self _, Nat.ne_of_lt hal, Nat.ne_of_gt (Nat.lt_succ_of_lt hal)⟩, fun b hb => ?_, q⟩
    have hle : s1.heap.objs.size ≤ b := by
      rcases (show b = s1.heap.objs.size + 1 ∨ b = s1.heap.objs.size by simpa using hb) with z | z
      · rw [z]
        exact Nat.le_succ _
      · rw [z]
        exact Nat.le_refl _
    exact I1.fpOk hle (I1.hok.fresh hle)
end SQ
namespace SQ2
open PySem L2 SQ
/-! ### the law's frame: the urn, the draws, the law itself -/
def top (i : Nat) : Stmt := PySem.Challenge.pw_stackquotes_k02_vocabularies_refused.main.body.getD i (.Pass ⟨0, 0, 0, 0⟩)
abbrev sUrn : Stmt := top 24
abbrev sLot : Stmt := top 25
abbrev sOne : Stmt := top 26
abbrev sRight : Stmt := top 28
abbrev sLaw : Stmt := top 29
/-- the built-ins' names are still theirs -/
structure Blt (mg : Str → Option Value) : Prop where
  int : mg "int" = none
  len : mg "len" = none
  abs : mg "abs" = none
  divmod : mg "divmod" = none
  max : mg "max" = none
  min : mg "min" = none
  range : mg "range" = none
  all : mg "all" = none
/-- all that stood stands, but at u -/
def But (u : Addr) (H H' : Hp) : Prop := ∀ b o, H b = some o → b ≠ u → H' b = some o
theorem But.refl {u : Addr} {H : Hp} : But u H H := fun _ _ e _ => e
theorem But.trans {u : Addr} {H H1 H2 : Hp} (a : But u H H1) (b : But u H1 H2) : But u H H2 := fun c o e n => b c o (a c o e n) n
theorem But.new {u p : Addr} {H H' : Hp} {o : HO} (a : But u H H') (h : H' p = none) : But u H (upd H' p o) := fun c x e n => by
  have e1 := a c x e n
  rw [upd_ne (ne_of_none e1 h)]
  exact e1
theorem But.put {u : Addr} {H H' : Hp} {o : HO} (a : But u H H') : But u H (upd H' u o) := fun c x e n => by
  rw [upd_ne n]
  exact a c x e n
theorem Same.but {u : Addr} {H H' : Hp} (a : Same H H') : But u H H' := fun c x e _ => a c x e
theorem same_new {p : Addr} {H H' : Hp} {o : HO} (a : Same H H') (h : H' p = none) : Same H (upd H' p o) := fun c x e => by
  have e1 := a c x e
  rw [upd_ne (ne_of_none e1 h)]
  exact e1
theorem keptT {σ : St} {H : Hp} {A B : Hp → Prop} (h : A H) : tYes σ H (fun b H3 => if b = true then A H3 else B H3) := by
  show (if true = true then A H else B H)
  rw [if_pos rfl]
  exact h
def urnAt (H : Hp) (u : Addr) : Prop := ∃ x y z : Int, H u = some (.lst [.int x, .int y, .int z])
def spUrn (K : PySem.W.Frag) : Sp := fun vs H Q _ => ∃ (a : Addr) (ns : List Int) (k : Nat), vs = [.ref a, .int k] ∧ SqL K H a (ns.map V.int) ∧ k ≤ 63 ∧
  ∀ (H' : Hp) (p : Addr), Same H H' → H p = none → urnAt H' p → Q (.ref p) H'
def spLot : Sp := fun vs H Q _ => ∃ (u : Addr) (m : Int), vs = [.ref u, .int m] ∧ urnAt H u ∧ 0 < m ∧ m < 1073741824 ∧
  ∀ (H' : Hp) (d : Int), 0 ≤ d → d < m → urnAt H' u → But u H H' → Q (.int d) H'
def spOne (K : PySem.W.Frag) : Sp := fun vs H Q _ => ∃ (u t : Addr) (xs : List V), vs = [.ref u, .ref t] ∧ urnAt H u ∧ u ≠ t ∧ H t = some (.lst xs) ∧ 0 < xs.length ∧ xs.length ≤ 1000 ∧
  ∀ (H' : Hp) (i : Nat) (x : V), xs[i]? = some x → urnAt H' u → But u H H' → Q x H'
def spRight : Sp := fun vs H Q _ => ∃ u : Addr, vs = [.ref u] ∧ urnAt H u ∧ ∀ H' : Hp, But u H H' → Q (.bl true) H'
def spLaw (K : PySem.W.Frag) : Sp := fun vs H Q _ => ∃ (a : Addr) (ns : List Int), vs = [.ref a] ∧ SqL K H a (ns.map V.int) ∧ ns.length ≤ 63 ∧ ∀ H', Q (.bl true) H'
section
variable {P : Program} {w : World} {K : PySem.W.Frag} {mg : Str → Option Value} {base : Heap}
theorem scU : FnScope ["_law_script", "_law_k", "_law_mixed", "_law_entry", "_law_own"] ["_law_script", "_law_k"] (defScope sUrn) := ⟨rfl, rfl, rfl, by decide +kernel, rfl, by decide +kernel, by decide +kernel⟩
theorem ok_urn {f : Addr} {fd : FuncData} (F : Fun K "_law_urn" "_law_urn" sUrn f fd) (B : Blt mg) : FnOk P w K mg base CX0 1 f fd ["_law_script", "_law_k"] (spUrn K) := by
  refine F.ok scU (fun vs H Q E h => ?_) (fun cdv A outer s H vs Q E hr h => ?_)
  · obtain ⟨a, ns, k, rfl, _⟩ := h
    rfl
  · obtain ⟨a, ns, k, rfl, hS, hk, q⟩ := h
    refine ⟨_, pss_cons (ps_set (i := 2) scU.nd rfl (.inl rfl) (pe_op op_add pe_int (pe_op op_mul pe_int (pv 1))))
      (pss_cons (ps_for PassesOwn.never rfl (pi_list (pe_slice sl_list (pv 0) po_none (po_some pe_int))) (pg_name (i := 3) scU.nd rfl (.inl rfl))
        (pss_one (ps_set (i := 2) scU.nd rfl (.inl rfl) (pe_op op_mod (pe_callTy call_int1 (by rfl) B.int (by decide +kernel)
          (pa_cons (pe_op op_add (pe_op op_mul (pv 2) pe_int) (pe_op op_mod (pe_callTy call_int1 (by rfl) B.int (by decide +kernel) (pa_cons (pv 3) pa_nil)) pe_int)) pa_nil)) pe_int))))
      (pss_cons (ps_set (i := 4) scU.nd rfl (.inl rfl) (pe_ifExp (pt_cmpR op_lt (pv 1) (pe_callB call_len_seq (by rfl) B.len PySem.boot_len (pa_cons (pv 0) pa_nil)) (nomark _))
        (pe_callTy call_int1 (by rfl) B.int (by decide +kernel) (pa_cons (pe_ix ix_list (pv 0) (pv 1) (fun _ _ => rfl)) pa_nil))
        (pe_op op_add (pe_op op_mul pe_int (pv 1)) pe_int)))
      (pss_one (ps_ret (pe_lst (pa_cons (pe_ifExp (PW.pt (pw_or (pt_cmpR op_lt (pv 4) pe_int (nomark _)) (pw_or1 (pt_cmpR op_ge (pv 4) (pe_op op_pow pe_int pe_int) (nomark _)))))
          (pe_callB call_abs (by rfl) B.abs (by decide +kernel) (pa_cons (pv 4) pa_nil)) pe_int)
        (pa_cons (pe_op op_mod (pe_callTy call_int1 (by rfl) B.int (by decide +kernel) (pa_cons (pe_op op_add (pe_op op_mul (pv 2) pe_int) (pe_op op_mod (pv 4) pe_int)) pa_nil)) pe_int)
        (pa_cons pe_int pa_nil)))))))), ?_⟩
    -- mixed
    refine ⟨_, rfl, _, _, rfl, rfl, .inl ⟨by decide, by decide⟩, _, _, rfl, rfl, ?_⟩
    -- the slice
    refine ⟨_, rfl, _, rfl, a, _, rfl, hS, fun p hp => ?_⟩
    have hp' : SqL K (upd H p (.lst (cutV (ns.map V.int) none (some 14)))) p (cutV (ns.map V.int) none (some 14)) := SqL.of upd_same
    have s1 : Same H (upd H p (.lst (cutV (ns.map V.int) none (some 14)))) := same_new (fun _ _ e => e) hp
    refine ⟨p, rfl, ⟨_, hp'⟩, for_list (K := K) (a := p) (xs := cutV (ns.map V.int) none (some 14))
      (fun i σ H2 => ∃ (m : Int) (v : Option V), σ = [some (.ref a), some (.int k), some (.int m), v, none] ∧ H2 = upd H p (.lst (cutV (ns.map V.int) none (some 14))))
      ⟨_, _, rfl, rfl⟩ (fun i σ H2 _ ⟨_, _, _, e2⟩ => by rw [e2]; exact hp') ?_ ?_⟩
    · rintro i y σ H2 hi ⟨m, v, rfl, rfl⟩
      obtain ⟨z, rfl⟩ : ∃ z, y = V.int z := by
        have hm : y ∈ ns.map V.int := List.mem_of_mem_drop (List.mem_of_mem_take (List.mem_of_getElem? hi))
        obtain ⟨z, _, e⟩ := List.mem_map.mp hm
        exact ⟨z, e.symm⟩
      refine ⟨_, rfl, _, _, rfl, rfl, .inr ⟨by decide, by decide⟩, _, rfl, .inl ⟨_, rfl, _, _, rfl, rfl, (by show (0 : Int) < 1999999973; decide), _, _, rfl, rfl, .inl ⟨_, rfl, _, _, rfl, rfl, (by show (0 : Int) < 1999999973; decide), ?_⟩⟩⟩
      exact ⟨_, _, rfl, rfl⟩
    · rintro σ H2 ⟨m, v, rfl, rfl⟩
      have hS2 := s1.seq hS
      -- own
      refine ⟨_, rfl, _, rfl, a, _, rfl, .inl hS2, _, _, rfl, rfl, _, rfl, ?_⟩
      refine ite2 (fun hlt => ?_) (fun _ => ?_)
      · have hlt' : (k : Int) < ((ns.map V.int).length : Int) := of_decide_eq_true hlt
        have hk2 : k < ns.length := by rw [List.length_map] at hlt'; omega
        refine ⟨_, rfl, _, rfl, a, _, _, _, rfl, rfl, hS2, atI_nat (by rw [List.getElem?_map, List.getElem?_eq_getElem hk2]; rfl), .inl ⟨_, rfl, ?_⟩⟩
        refine ⟨_, rfl, _, _, rfl, rfl, _, rfl, ?_⟩
        refine ite2 (fun _ => iteT ?_) (fun _ => ⟨_, rfl, _, _, rfl, rfl, ⟨by decide, by decide, by decide⟩, _, _, rfl, rfl, _, rfl, ite2 (fun _ => ?_) (fun _ => ?_)⟩)
        · refine ⟨_, rfl, _, rfl, ?_⟩
          exact ⟨_, rfl, _, _, rfl, rfl, .inr ⟨by decide, by decide⟩, _, rfl, _, _, rfl, rfl, (by show (0 : Int) < 1999999973; decide), _, _, rfl, rfl, .inl ⟨_, rfl, _, _, rfl, rfl, (by show (0 : Int) < 1999999973; decide),
            (by show 3 ≤ sizeLine; decide), fun p2 hp2 => q _ p2 (same_new s1 hp2) (s1.free hp2) ⟨_, _, _, upd_same⟩⟩⟩
        · refine ⟨_, rfl, _, rfl, ?_⟩
          exact ⟨_, rfl, _, _, rfl, rfl, .inr ⟨by decide, by decide⟩, _, rfl, _, _, rfl, rfl, (by show (0 : Int) < 1999999973; decide), _, _, rfl, rfl, .inl ⟨_, rfl, _, _, rfl, rfl, (by show (0 : Int) < 1999999973; decide),
            (by show 3 ≤ sizeLine; decide), fun p2 hp2 => q _ p2 (same_new s1 hp2) (s1.free hp2) ⟨_, _, _, upd_same⟩⟩⟩
        · exact ⟨_, rfl, _, _, rfl, rfl, .inr ⟨by decide, by decide⟩, _, rfl, _, _, rfl, rfl, (by show (0 : Int) < 1999999973; decide), _, _, rfl, rfl, .inl ⟨_, rfl, _, _, rfl, rfl, (by show (0 : Int) < 1999999973; decide),
            (by show 3 ≤ sizeLine; decide), fun p2 hp2 => q _ p2 (same_new s1 hp2) (s1.free hp2) ⟨_, _, _, upd_same⟩⟩⟩
      · refine ⟨_, rfl, _, _, rfl, rfl, .inl ⟨by decide, by decide⟩, _, _, rfl, rfl, ?_⟩
        refine ⟨_, rfl, _, _, rfl, rfl, _, rfl, ?_⟩
        refine ite2 (fun _ => iteT ?_) (fun _ => ⟨_, rfl, _, _, rfl, rfl, ⟨by decide, by decide, by decide⟩, _, _, rfl, rfl, _, rfl, ite2 (fun _ => ?_) (fun _ => ?_)⟩)
        · refine ⟨_, rfl, _, rfl, ?_⟩
          exact ⟨_, rfl, _, _, rfl, rfl, .inr ⟨by decide, by decide⟩, _, rfl, _, _, rfl, rfl, (by show (0 : Int) < 1999999973; decide), _, _, rfl, rfl, .inl ⟨_, rfl, _, _, rfl, rfl, (by show (0 : Int) < 1999999973; decide),
            (by show 3 ≤ sizeLine; decide), fun p2 hp2 => q _ p2 (same_new s1 hp2) (s1.free hp2) ⟨_, _, _, upd_same⟩⟩⟩
        · refine ⟨_, rfl, _, rfl, ?_⟩
          exact ⟨_, rfl, _, _, rfl, rfl, .inr ⟨by decide, by decide⟩, _, rfl, _, _, rfl, rfl, (by show (0 : Int) < 1999999973; decide), _, _, rfl, rfl, .inl ⟨_, rfl, _, _, rfl, rfl, (by show (0 : Int) < 1999999973; decide),
            (by show 3 ≤ sizeLine; decide), fun p2 hp2 => q _ p2 (same_new s1 hp2) (s1.free hp2) ⟨_, _, _, upd_same⟩⟩⟩
        · exact ⟨_, rfl, _, _, rfl, rfl, .inr ⟨by decide, by decide⟩, _, rfl, _, _, rfl, rfl, (by show (0 : Int) < 1999999973; decide), _, _, rfl, rfl, .inl ⟨_, rfl, _, _, rfl, rfl, (by show (0 : Int) < 1999999973; decide),
            (by show 3 ≤ sizeLine; decide), fun p2 hp2 => q _ p2 (same_new s1 hp2) (s1.free hp2) ⟨_, _, _, upd_same⟩⟩⟩
theorem scLo : FnScope ["_law_urn_here", "_law_many", "_law_digit"] ["_law_urn_here", "_law_many"] (defScope sLot) := ⟨rfl, rfl, rfl, by decide +kernel, rfl, by decide +kernel, by decide +kernel⟩
theorem ok_lot {f : Addr} {fd : FuncData} (F : Fun K "_law_lot" "_law_lot" sLot f fd) (B : Blt mg) : FnOk P w K mg base CX0 1 f fd ["_law_urn_here", "_law_many"] spLot := by
  refine F.ok scLo (fun vs H Q E h => ?_) (fun cdv A outer s H vs Q E hr h => ?_)
  · obtain ⟨u, m, rfl, _⟩ := h
    rfl
  · obtain ⟨u, m, rfl, ⟨x, y, z, hu⟩, m0, m1, q⟩ := h
    refine ⟨_, pss_cons (ps_if (pt_cmpR op_gt (pe_ix ix_list (pv 0) pe_int (fun _ _ => rfl)) pe_int (nomark _))
        (pss_cons (ps_asg (pe_callB call_divmod (by rfl) B.divmod (by decide +kernel) (pa_cons (pe_callTy call_int1 (by rfl) B.int (by decide +kernel) (pa_cons (pe_ix ix_list (pv 0) pe_int (fun _ _ => rfl)) pa_nil)) (pa_cons (pv 1) pa_nil)))
          (pg_tup rfl (pgs_cons (pg_sub (pv 0) pe_int set_list) (pgs_cons (pg_name (i := 2) scLo.nd rfl (.inl rfl)) pgs_nil))))
        (pss_one (ps_ret (pv 2)))) pss_nil)
      (pss_cons (ps_asg (pe_op op_add (pe_ix ix_list (pv 0) pe_int (fun _ _ => rfl)) pe_int) (pg_sub (pv 0) pe_int set_list))
      (pss_cons (ps_asg (pe_op op_mod (pe_callTy call_int1 (by rfl) B.int (by decide +kernel) (pa_cons (pe_op op_add (pe_op op_add (pe_op op_mul (pe_ix ix_list (pv 0) pe_int (fun _ _ => rfl)) pe_int)
          (pe_op op_mul (pe_op op_fdiv (pe_ix ix_list (pv 0) pe_int (fun _ _ => rfl)) pe_int) pe_int)) (pe_op op_mul pe_int (pe_ix ix_list (pv 0) pe_int (fun _ _ => rfl)))) pa_nil)) pe_int) (pg_sub (pv 0) pe_int set_list))
      (pss_one (ps_ret (pe_op op_mod (pe_callTy call_int1 (by rfl) B.int (by decide +kernel) (pa_cons (pe_op op_fdiv (pe_ix ix_list (pv 0) pe_int (fun _ _ => rfl)) pe_int) pa_nil)) (pv 1)))))), ?_⟩
    refine ⟨_, rfl, u, _, _, _, rfl, rfl, SqL.of hu, rfl, _, _, rfl, rfl, _, rfl, ?_⟩
    refine ite2 (fun _ => ?_) (fun _ => ?_)
    · refine ⟨_, rfl, u, _, _, _, rfl, rfl, SqL.of hu, rfl, .inl ⟨_, rfl, _, rfl, _, _, rfl, ⟨m0, m1⟩, fun p hp => ?_⟩⟩
      have hup : u ≠ p := ne_of_none hu hp
      refine ⟨p, _, rfl, SqT.of upd_same, rfl, _, _, rfl, ⟨_, rfl, u, _, _, 0, rfl, rfl, by rw [upd_ne hup]; exact hu, rfl, _, _, rfl, rfl, ?_⟩⟩
      refine ⟨_, rfl, q _ _ (Int.emod_nonneg _ (by omega)) (Int.emod_lt_of_pos _ m0) ⟨_, _, _, upd_same⟩ ((But.refl.new hp).put)⟩
    · refine ⟨_, rfl, u, _, _, _, rfl, rfl, SqL.of hu, rfl, _, _, rfl, rfl, _, rfl, u, _, _, 2, rfl, rfl, hu, rfl, ?_⟩
      have h1 : (upd H u (.lst ([V.int x, V.int y, V.int z].set 2 (V.int (z + 1))))) u = some (.lst [V.int x, V.int y, V.int (z + 1)]) := upd_same
      refine ⟨_, rfl, u, _, _, _, rfl, rfl, SqL.of h1, rfl, _, _, rfl, rfl, .inr ⟨by decide, by decide⟩,
        _, rfl, u, _, _, _, rfl, rfl, SqL.of h1, rfl, _, _, rfl, rfl, ⟨by decide, by decide⟩, _, _, rfl, rfl, .inr ⟨by decide, by decide⟩, _, _, rfl, rfl,
        _, rfl, u, _, _, _, rfl, rfl, SqL.of h1, rfl, _, _, rfl, rfl, .inl ⟨by decide, by decide⟩, _, _, rfl, rfl,
        .inl ⟨_, rfl, _, _, rfl, rfl, (by show (0 : Int) < 1999999973; decide), _, rfl, u, _, _, 1, rfl, rfl, h1, rfl, ?_⟩⟩
      refine ⟨_, rfl, u, _, _, _, rfl, rfl, SqL.of upd_same, rfl, _, _, rfl, rfl, ⟨by decide, by decide⟩, .inl ⟨_, rfl, _, rfl, _, _, rfl, rfl, m0, ?_⟩⟩
      exact q _ _ (Int.emod_nonneg _ (by omega)) (Int.emod_lt_of_pos _ m0) ⟨_, _, _, upd_same⟩ (But.refl.put.put)
theorem scO : FnScope ["_law_urn_here", "_law_things"] ["_law_urn_here", "_law_things"] (defScope sOne) := ⟨rfl, rfl, rfl, by decide +kernel, rfl, by decide +kernel, by decide +kernel⟩
/-- the draws stand where they stand -/
structure Drw (K : PySem.W.Frag) (mg : Str → Option Value) (fL fO : Addr) (fdL fdO : FuncData) : Prop where
  gL : mg "_law_lot" = some (.ref fL)
  FL : Fun K "_law_lot" "_law_lot" sLot fL fdL
  bL : Binds K fdL ["_law_urn_here", "_law_many"] []
  gO : mg "_law_one" = some (.ref fO)
  FO : Fun K "_law_one" "_law_one" sOne fO fdO
  bO : Binds K fdO ["_law_urn_here", "_law_things"] []
theorem ok_one {fL fO : Addr} {fdL fdO : FuncData} (D : Drw K mg fL fO fdL fdO) (B : Blt mg) : FnOk P w K mg base CX0 2 fO fdO ["_law_urn_here", "_law_things"] (spOne K) := by
  have GL : FnOk P w K mg base CX0 1 fL fdL ["_law_urn_here", "_law_many"] spLot := ok_lot D.FL B
  refine D.FO.ok scO (fun vs H Q E h => ?_) (fun cdv A outer s H vs Q E hr h => ?_)
  · obtain ⟨u, t, xs, rfl, _⟩ := h
    rfl
  · obtain ⟨u, t, xs, rfl, hu, nut, ht, x0, x1, q⟩ := h
    refine ⟨_, pss_one (ps_ret (pe_ix ix_list (pv 1) (pe_call GL hr rfl D.gL D.FL.kp D.bL .nil pass0 (pa_cons (pv 0) (pa_cons (pe_callB call_len_seq (by rfl) B.len PySem.boot_len (pa_cons (pv 1) pa_nil)) pa_nil))) (fun _ _ => rfl))), ?_⟩
    refine ⟨_, rfl, _, rfl, _, rfl, t, xs, rfl, .inl (SqL.of ht), u, _, rfl, hu, by omega, by omega, fun H1 d d0 d1 hu1 bt => ?_⟩
    have ht1 := bt t _ ht (Ne.symm nut)
    obtain ⟨i, rfl⟩ : ∃ i : Nat, d = i := ⟨d.toNat, by omega⟩
    have hi : i < xs.length := by omega
    have hx : xs[i]? = some xs[i] := List.getElem?_eq_getElem hi
    exact ⟨t, xs, _, _, rfl, rfl, SqL.of ht1, atI_nat hx, q H1 i _ hx hu1 bt⟩
theorem scLaw : FnScope ["_law_script", "_law_k"] ["_law_script"] (defScope sLaw) := ⟨rfl, rfl, rfl, by decide +kernel, rfl, by decide +kernel, by decide +kernel⟩
theorem ok_law {f fU fR : Addr} {fd fdU fdR : FuncData} {j : Nat} (F : Fun K "law" "law" sLaw f fd) (B : Blt mg) (gU : mg "_law_urn" = some (.ref fU)) (FU : Fun K "_law_urn" "_law_urn" sUrn fU fdU) (bU : Binds K fdU ["_law_script", "_law_k"] [])
    (gR : mg "_law_right" = some (.ref fR)) (kR : PySem.W.keepIn K (.ref fR) = true) (bR : Binds K fdR ["_law_urn_here"] []) (GR : FnG P w K mg base CX0 (j + 1) fR fdR ["_law_urn_here"] spRight) : FnG P w K mg base CX0 (j + 2) f fd ["_law_script"] (spLaw K) := by
  have GU : FnOk P w K mg base CX0 1 fU fdU ["_law_script", "_law_k"] (spUrn K) := ok_urn FU B
  refine okG F scLaw (fun vs H Q E h => ?_) (fun cdv A outer s H vs Q E hgd hr h => ?_)
  · obtain ⟨a, ns, rfl, _⟩ := h
    rfl
  · obtain ⟨a, ns, rfl, hS, hlen, q⟩ := h
    refine ⟨_, pss_one (ps_ret (pe_callB (cr_all rfl) (by rfl) B.all (by decide +kernel) (pa_cons (pe_lc (own := [("_law_k", 1)]) (g := gName 1) (tt := tYes) rfl scLaw.nd
      (pi_range1 (by rfl) B.range (pa_cons (pe_callB (call_max2 rfl) (by rfl) B.max (by decide +kernel) (pa_cons pe_int (pa_cons (pe_callB (call_min2 rfl) (by rfl) B.min (by decide +kernel)
        (pa_cons (pe_callB call_len_seq (by rfl) B.len PySem.boot_len (pa_cons (pv 0) pa_nil)) (pa_cons pe_int pa_nil))) pa_nil))) pa_nil))
      (blkOk_by (N := ["_law_script", "_law_k"]) (sc := defScope sLaw) (by decide +kernel)) (fun _ _ _ _ _ => pg_name (i := 1) scLaw.nd rfl (Or.inl rfl)) (fun _ _ _ _ _ => pts_nil)
      (fun _ _ _ _ _ => pe_callG GR hgd hr rfl gR kR bR pass0 (pa_cons (pe_call GU (hr.mono (by omega)) rfl gU FU.kp bU .nil pass0 (pa_cons (pv 0) (pa_cons (pv 1) pa_nil))) pa_nil))) pa_nil))), ?_⟩
    refine ⟨_, rfl, a, _, rfl, .inl hS, _, _, rfl, _, _, rfl, ?_⟩
    generalize hj : (if (if (6 : Int) < ((ns.map V.int).length : Int) then (6 : Int) else ((ns.map V.int).length : Int)) > 2 then (if (6 : Int) < ((ns.map V.int).length : Int) then (6 : Int) else ((ns.map V.int).length : Int)) else 2) = n
    have hn : 0 ≤ n ∧ n ≤ 6 := by
      rw [← hj]
      split <;> split <;> omega
    refine ⟨n, rfl, by omega, by omega, fun D hD => ?_⟩
    refine lc_range (lo := 0) (n := n.toNat) (fun i H2 => Same H H2 ∧ H2 D = some (.lst ((List.replicate i true).map V.bl))) ⟨same_new (fun _ _ e => e) hD, upd_same⟩ ?_ ?_
    · rintro i H2 hi ⟨s2, hD2⟩
      refine ⟨rfl, keptT ?_⟩
      refine ⟨_, rfl, _, rfl, a, ns, i, by rw [Int.zero_add]; rfl, s2.seq hS, by omega, fun H3 p s3 np hp => ?_⟩
      refine ⟨p, rfl, hp, fun H4 b4 => ?_⟩
      have hD4 : H4 D = some (.lst ((List.replicate i true).map V.bl)) := b4 D _ (s3 D _ hD2) (ne_of_none hD2 np)
      refine ⟨_, hD4, small1000 (by rw [List.length_map, List.length_replicate]; omega), fun b o e => ?_, ?_⟩
      · have hb : b ≠ D := ne_of_none e hD
        have e2 := s2 b o e
        rw [upd_ne hb]
        exact b4 b o (s3 b o e2) (ne_of_none e2 np)
      · rw [upd_same, List.replicate_succ', List.map_append]
        rfl
    · rintro H2 ⟨s2, hD2⟩
      refine ⟨D, _, rfl, SqL.of hD2, ?_⟩
      have e : (List.replicate n.toNat true).all id = true := by
        rw [List.all_eq_true]
        intro x hx
        exact (List.eq_of_mem_replicate hx)
      rw [e]
      exact q H2
end
end SQ2
/-! The law's end for promises as in SqG where code objects are made: their tables are tracked. -/
namespace SQ
open PySem PySem.Spec PyProof.Rows L2
abbrev tab0 : Obj := { cls := .none, data := .fields #[] }
abbrev lst0 (vs : List Value) : Obj := { cls := .type "list", data := .seq vs.toArray }
/-- what may be tracked at the law's call: the script, the tables -/
def Trk (a : Addr) (ts : List Addr) (H : Hp) : Prop := ∀ b u, H b = some u → (b = a ∧ ∃ o xs, u = .frz o (.lst xs)) ∨ (b ∈ ts ∧ u = .tbl #[])
section
variable {P : Program} {w : World} {K : PySem.W.Frag} {mg mb : Str → Option Value} {s : Shared} {a : Addr} {cs : List (Addr × Addr)} {vs : List Value} {H : Hp}
theorem trk_data (ha : s.heap.get? a = some (lst0 vs)) (hT : ∀ p ∈ cs, s.heap.get? p.2 = some tab0) (tr : Trk a (cs.map (·.2)) H) {b : Addr} {o : Obj} (q : s.heap.get? b = some o)
    (n1 : ∀ l n, o.data ≠ .seq l n) (n2 : o.data ≠ .fields #[]) : H b = none := by
  cases z : H b with
  | none => rfl
  | some u =>
    rcases tr b u z with ⟨rfl, _⟩ | ⟨hm, _⟩
    · rw [ha] at q
      cases q
      exact absurd rfl (n1 _ _)
    · obtain ⟨p, hp, rfl⟩ := List.mem_map.mp hm
      rw [hT p hp] at q
      cases q
      exact absurd rfl n2
theorem trk_ns (ha : s.heap.get? a = some (lst0 vs)) (hT : ∀ p ∈ cs, s.heap.get? p.2 = some tab0) (tr : Trk a (cs.map (·.2)) H) {b : Addr} {m : Str → Option Value} : s.heap.Ns b m → (hidT s.heap H).Ns b m := by
  rintro ⟨o, es, ep, q, d, r⟩
  refine ⟨o, es, ep, hidT_get q (trk_data ha hT tr q (fun l n z => ?_) fun z => ?_), d, r⟩ <;> (rw [d] at z; cases z)
theorem trk_in (KX : K.In s.heap) (nT : ∀ p ∈ cs, K.lookup p.2 = none) (nA : H a ≠ none → K.lookup a = none) (tr : Trk a (cs.map (·.2)) H) : K.In (hidT s.heap H) := by
  intro b o q
  refine hidT_get (KX b o q) ?_
  cases z : H b with
  | none => rfl
  | some u =>
    rcases tr b u z with ⟨rfl, _⟩ | ⟨hm, _⟩
    · rw [nA (by rw [z]; simp)] at q
      cases q
    · obtain ⟨p, hp, rfl⟩ := List.mem_map.mp hm
      rw [nT p hp] at q
      cases q
theorem trk_tab (hns : s.heap.Ns mainGlobals mg) (ha : s.heap.get? a = some (lst0 vs)) (hT : ∀ p ∈ cs, s.heap.get? p.2 = some tab0) (C : ∀ p ∈ cs, PySem.W.CodeHd s.heap p.1 p.2)
    (hbm : ∃ (bm : Addr) (ob : Obj), mg "__builtins__" = some (.ref bm) ∧ bm ≠ builtinsNs ∧ s.heap.get? bm = some ob ∧ ob.cls = .type "module" ∧ ob.dict = some builtinsNs ∧ ob.data = .plain)
    (tr : Trk a (cs.map (·.2)) H) : ∀ p ∈ cs, LamX.TabB (hidT s.heap H) mg p.1 p.2 := by
  intro p hp
  have tp := hT p hp
  have nm : mainGlobals ≠ p.2 := by
    intro z
    obtain ⟨o, es, ep, q, d, _⟩ := hns
    rw [z, tp] at q
    cases q
    cases d
  refine ⟨?_, ?_, nm⟩
  · obtain ⟨o, us, fi, t1, fl, t2, b, tx, t3, q, r1, r2, r3, rest⟩ := C p hp
    refine ⟨o, us, fi, t1, fl, t2, b, tx, t3, hidT_get q (trk_data ha hT tr q (fun l n z => ?_) fun z => ?_), r1, r2, r3, rest⟩
    · rw [r2] at z
      cases z
    · rw [r2] at z
      cases z
      simp at r3
  · obtain ⟨bm, ob, b1, b2, b3, b4, b5, b6⟩ := hbm
    refine ⟨bm, ob, b1, b2, ?_, ?_, hidT_get b3 (trk_data ha hT tr b3 (fun l n z => ?_) fun z => ?_), b4, b5, b6⟩
    · rintro rfl
      obtain ⟨o, es, ep, q, d, _⟩ := hns
      rw [q] at b3
      cases b3
      rw [d] at b6
      cases b6
    · rintro rfl
      rw [tp] at b3
      cases b3
      cases b6
    · rw [b6] at z
      cases z
    · rw [b6] at z
      cases z
end
/-- the law's call: such a promise, tables tracked -/
theorem lawGT {P : Program} {w : World} {K : PySem.W.Frag} {mg mb : Str → Option Value} {k : Nat} {fa a : Addr} {cs : List (Addr × Addr)}
    {fd : FuncData} {x : Str} {sp : Sp} {s : Shared} {vs : List Value} {ns : List Int}
    (KX : K.In s.heap) (hns : s.heap.Ns mainGlobals mg) (hb : s.heap.Ns builtinsNs mb) (hbb : ∀ y : Str, y ≠ "__name__" → mb y = bootBuiltins y) (hlim : s.heap.NoLimit) (hg : s.gens = #[])
    (hT : ∀ p ∈ cs, s.heap.get? p.2 = some tab0) (nT : ∀ p ∈ cs, K.lookup p.2 = none) (C : ∀ p ∈ cs, PySem.W.CodeHd s.heap p.1 p.2)
    (hbm : ∃ (bm : Addr) (ob : Obj), mg "__builtins__" = some (.ref bm) ∧ bm ≠ builtinsNs ∧ s.heap.get? bm = some ob ∧ ob.cls = .type "module" ∧ ob.dict = some builtinsNs ∧ ob.data = .plain)
    (ha : s.heap.get? a = some (lst0 vs)) (hi : IntsAre vs ns) (hl : ns.length ≤ sizeLine) (hr : Room k callerA)
    (F : ∀ base : Heap, K.In base → base.Ns mainGlobals mg → (∀ p ∈ cs, LamX.TabB base mg p.1 p.2) → FnG P w K mg base CX0 k fa fd [x] sp)
    (hbind : ∀ (t : Shared) (u : Value), BindsTo t fd ⟨[u], []⟩ [(x, u)])
    (hsp : ∀ G : Hp, (∀ p ∈ cs, G p.2 = some (.tbl #[])) → SqL K G a (ns.map V.int) → sp [.ref a] G (fun v _ => v = .bl true) E0) :
    codeAny (model P w) callerA (.call (.ref fa) ⟨[.ref a], []⟩) (fun r t => r = .ok (.ret (.bool true)) ∧ OldK s.heap t.heap ∧ t.os = s.os ∧ AllBare t.gens) s := by
  have rv := vals_ints hi
  have inT : ∀ p ∈ cs, p.2 ∈ cs.map (·.2) := fun p hp => List.mem_map.mpr ⟨p, hp, rfl⟩
  have aT : a ∉ cs.map (·.2) := by
    intro z
    obtain ⟨p, hp, e⟩ := List.mem_map.mp z
    have e' : p.2 = a := e
    have t := hT p hp
    rw [e', ha] at t
    have t' : (lst0 vs).data = tab0.data := congrArg Obj.data (Option.some.inj t)
    cases t'
  have go : ∀ H : Hp, (∀ p ∈ cs, H p.2 = some (.tbl #[])) → Trk a (cs.map (·.2)) H → SqL K H a (ns.map V.int) → HOk P w H s.heap → (H a ≠ none → K.lookup a = none) →
      codeAny (model P w) callerA (.call (.ref fa) ⟨[.ref a], []⟩) (fun r t => r = .ok (.ret (.bool true)) ∧ OldK s.heap t.heap ∧ t.os = s.os ∧ AllBare t.gens) s := by
    intro H hH tr hS hok nA
    have kB := trk_in KX nT nA tr
    have gB := trk_ns ha hT tr hns
    have md : Mod K mg (hidT s.heap H) := ⟨kB, gB, ⟨mb, trk_ns ha hT tr hb, hbb⟩, by
      obtain ⟨mc, h1, h2⟩ := hlim
      exact ⟨mc, trk_ns ha hT tr h1, h2⟩⟩
    have en : Env0 P w K mg (hidT s.heap H) callerA [] s H := {
      frames := rfl
      mod := md
      bs := fun b o q => of_hidT q
      bsz := Nat.le_of_eq (hidT_size _ _)
      funs := trivial
      frf := fun b z => nomatch (show b ∈ ([] : List Addr) from z)
      hok := hok
      bare := .of_eq hg }
    refine codeAny_mono ((F _ kB gB (trk_tab hns ha hT C hbm tr)).go callerA rfl [] s H ⟨[.ref a], []⟩ [.ref a] [.ref a] _ _ hr en (hbind s (.ref a)) (.cons rfl .nil) (hsp H hH hS)) ?_
    intro r t h
    rcases r with er | (_ | _ | _ | u)
    · exact (show False from h).elim
    · exact h.elim
    · exact h.elim
    · exact h.elim
    · obtain ⟨v, H', os, bare, un, hok', r', q⟩ := h
      have q' : v = .bl true := q
      subst q'
      obtain rfl : u = Value.bool true := r'
      have kept : ∀ b o, b ∉ cs.map (·.2) → s.heap.get? b = some o → t.heap.get? b = some o := by
        intro b o nb e
        cases z : H b with
        | none => exact un.keep b o e z (fun y => nomatch (show b ∈ ([] : List Addr) from y)) (fun y => nomatch y)
        | some u =>
          rcases tr b u z with ⟨_, ob, xs, rfl⟩ | ⟨hm, _⟩
          · obtain ⟨e1, _⟩ := hok b _ z
            obtain ⟨e2, _⟩ := hok' b _ (un.frzs b ob _ z)
            rw [e] at e1
            cases e1
            exact e2
          · exact absurd hm nb
      have grew : ∀ p ∈ cs, ∃ more : Array Value, t.heap.get? p.2 = some { cls := .none, data := .fields more } := by
        intro p hp
        obtain ⟨m, z⟩ := un.tbls p.2 #[] (hH p hp)
        exact ⟨_, hok' p.2 _ z⟩
      refine ⟨rfl, ⟨fun b o e => ?_, fun b o e => ?_⟩, os, bare⟩
      all_goals
        by_cases hm : b ∈ cs.map (·.2)
      · obtain ⟨p, hp, rfl⟩ := List.mem_map.mp hm
        obtain ⟨m, hm2⟩ := grew p hp
        rw [hT p hp] at e
        cases e
        refine .inr (.inl ⟨((C p hp).tab (hT p hp)).isCodeTable, rfl, #[], m, rfl, ?_⟩)
        rw [Array.empty_append]
        exact hm2
      · exact .inl (kept b o hm e)
      · obtain ⟨p, hp, rfl⟩ := List.mem_map.mp hm
        obtain ⟨m, hm2⟩ := grew p hp
        exact ⟨_, hm2⟩
      · exact ⟨o, kept b o hm e⟩
  let G0 : Hp := fun b => if b ∈ cs.map (·.2) then some (.tbl #[]) else none
  have gT : ∀ b, b ∈ cs.map (·.2) → G0 b = some (.tbl #[]) := fun b hm => if_pos hm
  have gN : ∀ b, b ∉ cs.map (·.2) → G0 b = none := fun b hm => if_neg hm
  have okT : ∀ (X : Hp) b, b ∈ cs.map (·.2) → ObjOk P w X s.heap b (.tbl #[]) := by
    intro X b hm
    obtain ⟨p, hp, rfl⟩ := List.mem_map.mp hm
    exact hT p hp
  cases hk : K.lookup a with
  | some o =>
    have q := KX a o hk
    rw [ha] at q
    cases q
    refine go G0 (fun p hp => gT _ (inT p hp)) (fun b u z => ?_) (.inr ⟨_, vs.toArray, _, hk, rfl, rfl, rfl, ?_, by simpa using rv⟩) (fun b u z => ?_) (fun z => absurd (gN a aT) z)
    · by_cases hm : b ∈ cs.map (·.2)
      · rw [gT b hm] at z
        exact .inr ⟨hm, (Option.some.inj z).symm⟩
      · rw [gN b hm] at z
        cases z
    · rw [List.size_toArray, hi.length]
      exact hl
    · by_cases hm : b ∈ cs.map (·.2)
      · rw [gT b hm] at z
        cases z
        exact okT _ b hm
      · rw [gN b hm] at z
        cases z
  | none =>
    have hu : ∀ b u, upd G0 a (.frz (lst0 vs) (.lst (ns.map V.int))) b = some u → (b = a ∧ u = .frz (lst0 vs) (.lst (ns.map V.int))) ∨ (b ∈ cs.map (·.2) ∧ u = .tbl #[]) := by
      intro b u z
      by_cases hb : b = a
      · subst hb
        rw [upd_same] at z
        exact .inl ⟨rfl, (Option.some.inj z).symm⟩
      · rw [upd_ne hb] at z
        by_cases hm : b ∈ cs.map (·.2)
        · rw [gT b hm] at z
          exact .inr ⟨hm, (Option.some.inj z).symm⟩
        · rw [gN b hm] at z
          cases z
    refine go (upd G0 a (.frz (lst0 vs) (.lst (ns.map V.int)))) (fun p hp => ?_) (fun b u z => ?_) (.inl (.inr ⟨lst0 vs, upd_same⟩)) (fun b u z => ?_) (fun _ => hk)
    · have ne : p.2 ≠ a := fun e => aT (by rw [← e]; exact inT p hp)
      rw [upd_ne ne]
      exact gT _ (inT p hp)
    · rcases hu b u z with ⟨e1, e2⟩ | e
      · exact .inl ⟨e1, _, _, e2⟩
      · exact .inr e
    · rcases hu b u z with ⟨rfl, rfl⟩ | ⟨hm, rfl⟩
      · exact ⟨ha, by rw [List.length_map]; exact hl, vs, _, rv, ha⟩
      · exact okT _ b hm
/-- what is to be known of the law at the head's heap -/
def AtG (l : PySem.W.OpenLaw) (w : World) (K : PySem.W.Frag) (k n : Nat) (x : Str) (mg : Str → Option Value) (fa : Addr) (h : Heap) : Prop :=
  ∃ (fd : FuncData) (cs : List (Addr × Addr)) (sp : Sp), (∀ p ∈ cs, h.get? p.2 = some tab0 ∧ K.lookup p.2 = none ∧ PySem.W.CodeHd h p.1 p.2) ∧ (∀ (s : Shared) (u : Value), BindsTo s fd ⟨[u], []⟩ [(x, u)]) ∧
    (∀ (H : Hp) (a : Addr) (ns : List Int), ns.length ≤ n → (∀ z ∈ ns, Builtin.Int.intBits z ≤ 1048576) → (∀ p ∈ cs, H p.2 = some (.tbl #[])) → SqL K H a (ns.map V.int) → sp [.ref a] H (fun v _ => v = .bl true) E0) ∧
    ∀ base : Heap, K.In base → base.Ns mainGlobals mg → (∀ p ∈ cs, LamX.TabB base mg p.1 p.2) → FnG l.prog w K mg base CX0 k fa fd [x] sp
theorem walkGT {l : PySem.W.OpenLaw} {n k : Nat} {q : Program} {loose : List Str} {XP : (Str → Option Value) → Heap → Prop} {YP : World → Heap → Prop} {d : DefRec} {K : Params → PySem.W.Frag} {x : Str}
    (hn : l.most = some n) (hn2 : n ≤ sizeLine) (hdf : d.params.defaults = []) (hr : Room k callerA) (hY : ∀ (w : World) (h : Heap), YP w h → (K w.params).In h)
    (F : ∀ (w : World) (mg : Str → Option Value) (fa : Addr) (h : Heap), YP w h → (K w.params).In h → h.Ns mainGlobals mg → mg d.name = some (.ref fa) → AtG l w (K w.params) k n x mg fa h) :
    PySem.W.WalkO q loose XP YP l.row.toRowW d [] (fun f vs => PySem.call f vs) := by
  refine Att.attach_callB hn hdf ?_
  intro w s0 s1 mg mb fa o pm cd doc a vs ns G Y ho hd hcd hmg hobj hints hlen hbits hg
  have KX := hY w _ Y
  obtain ⟨fd, cs, sp, hc, hb, hsp, hF⟩ := F w mg fa _ Y KX G.T.g hmg
  exact lawGT KX G.T.g G.T.b G.T.builtins G.T.nolimit hg (fun p hp => (hc p hp).1) (fun p hp => (hc p hp).2.1) (fun p hp => (hc p hp).2.2) G.T.bmain hobj hints (Nat.le_trans hlen hn2) hr hF hb
    (fun H hH hS => hsp H a ns hlen hbits hH hS)
end SQ
namespace SQ2
open PySem L2 SQ
/-- all stands but what is at u, and the tables -/
def ButT (u : Addr) (H H' : Hp) : Prop := ∀ b o, H b = some o → b ≠ u → (∀ ps, o ≠ .tbl ps) → H' b = some o
theorem ButT.of {u : Addr} {H H' : Hp} (a : But u H H') : ButT u H H' := fun b o e n _ => a b o e n
theorem ButT.ofN {u : Addr} {H H' : Hp} (a : LamX.ExtN H H') : ButT u H H' := fun b o e _ t => a b o e t
theorem ButT.trans {u : Addr} {H H1 H2 : Hp} (a : ButT u H H1) (b : ButT u H1 H2) : ButT u H H2 := fun c o e n t => b c o (a c o e n t) n t
theorem ext_new {p : Addr} {H H' : Hp} {o : HO} (a : LamX.ExtN H H') (h : H' p = none) : LamX.ExtN H (upd H' p o) := fun c x e t => by
  have e1 := a c x e t
  rw [upd_ne (ne_of_none e1 h)]
  exact e1
theorem ext_seq {K : PySem.W.Frag} {H H' : Hp} {a : Addr} {xs : List V} (e : LamX.ExtN H H') (h : SqL K H a xs) : SqL K H' a xs := by
  rcases h with (h | ⟨o, h⟩) | h
  · exact .inl (.inl (e _ _ h (fun ps z => nomatch z)))
  · exact .inl (.inr ⟨o, e _ _ h (fun ps z => nomatch z)⟩)
  · exact .inr h
abbrev TL := List (Addr × Str)
def spRightT (T : TL) : Sp := fun vs H Q _ => ∃ u : Addr, vs = [.ref u] ∧ urnAt H u ∧ LamX.Tabs T H ∧ ∀ H' : Hp, ButT u H H' → LamX.Tabs T H' → Q (.bl true) H'
def spLawT (K : PySem.W.Frag) (T : TL) : Sp := fun vs H Q _ => ∃ (a : Addr) (ns : List Int), vs = [.ref a] ∧ SqL K H a (ns.map V.int) ∧ ns.length ≤ 63 ∧ LamX.Tabs T H ∧ ∀ H', Q (.bl true) H'
theorem tabs_put {T : TL} {H : Hp} {D : Addr} {xs ys : List V} (t : LamX.Tabs T H) (hD : H D = some (.lst xs)) : LamX.Tabs T (upd H D (.lst ys)) := by
  intro p hp
  obtain ⟨ps, h1, h2, h3⟩ := t p hp
  refine ⟨ps, ?_, h2, fun pos cv hc => ?_⟩
  · rw [upd_ne (ne_of h1 hD (by intro z; cases z))]
    exact h1
  · obtain ⟨c, e1, e2⟩ := h3 pos cv hc
    refine ⟨c, e1, ?_⟩
    rw [upd_ne (ne_of e2 hD (by intro z; unfold LamX.CodeO at z; cases z))]
    exact e2
section
variable {P : Program} {w : World} {K : PySem.W.Frag} {mg : Str → Option Value} {base : Heap}
theorem ok_lawT {T : TL} {f fU fR : Addr} {fd fdU fdR : FuncData} {j : Nat} (F : Fun K "law" "law" sLaw f fd) (B : Blt mg) (gU : mg "_law_urn" = some (.ref fU)) (FU : Fun K "_law_urn" "_law_urn" sUrn fU fdU) (bU : Binds K fdU ["_law_script", "_law_k"] [])
    (gR : mg "_law_right" = some (.ref fR)) (kR : PySem.W.keepIn K (.ref fR) = true) (bR : Binds K fdR ["_law_urn_here"] []) (GR : FnG P w K mg base CX0 (j + 1) fR fdR ["_law_urn_here"] (spRightT T)) : FnG P w K mg base CX0 (j + 2) f fd ["_law_script"] (spLawT K T) := by
  have GU : FnOk P w K mg base CX0 1 fU fdU ["_law_script", "_law_k"] (spUrn K) := ok_urn FU B
  refine okG F scLaw (fun vs H Q E h => ?_) (fun cdv A outer s H vs Q E hgd hr h => ?_)
  · obtain ⟨a, ns, rfl, _⟩ := h
    rfl
  · obtain ⟨a, ns, rfl, hS, hlen, hT, q⟩ := h
    refine ⟨_, pss_one (ps_ret (pe_callB (cr_all rfl) (by rfl) B.all (by decide +kernel) (pa_cons (pe_lc (own := [("_law_k", 1)]) (g := gName 1) (tt := tYes) rfl scLaw.nd
      (pi_range1 (by rfl) B.range (pa_cons (pe_callB (call_max2 rfl) (by rfl) B.max (by decide +kernel) (pa_cons pe_int (pa_cons (pe_callB (call_min2 rfl) (by rfl) B.min (by decide +kernel)
        (pa_cons (pe_callB call_len_seq (by rfl) B.len PySem.boot_len (pa_cons (pv 0) pa_nil)) (pa_cons pe_int pa_nil))) pa_nil))) pa_nil))
      (blkOk_by (N := ["_law_script", "_law_k"]) (sc := defScope sLaw) (by decide +kernel)) (fun _ _ _ _ _ => pg_name (i := 1) scLaw.nd rfl (Or.inl rfl)) (fun _ _ _ _ _ => pts_nil)
      (fun _ _ _ _ _ => pe_callG GR hgd hr rfl gR kR bR pass0 (pa_cons (pe_call GU (hr.mono (by omega)) rfl gU FU.kp bU .nil pass0 (pa_cons (pv 0) (pa_cons (pv 1) pa_nil))) pa_nil))) pa_nil))), ?_⟩
    refine ⟨_, rfl, a, _, rfl, .inl hS, _, _, rfl, _, _, rfl, ?_⟩
    generalize hj : (if (if (6 : Int) < ((ns.map V.int).length : Int) then (6 : Int) else ((ns.map V.int).length : Int)) > 2 then (if (6 : Int) < ((ns.map V.int).length : Int) then (6 : Int) else ((ns.map V.int).length : Int)) else 2) = n
    have hn : 0 ≤ n ∧ n ≤ 6 := by
      rw [← hj]
      split <;> split <;> omega
    refine ⟨n, rfl, by omega, by omega, fun D hD => ?_⟩
    refine lc_range (lo := 0) (n := n.toNat) (fun i H2 => LamX.ExtN H H2 ∧ LamX.Tabs T H2 ∧ H2 D = some (.lst ((List.replicate i true).map V.bl))) ⟨ext_new (LamX.ExtN.refl H) hD, hT.ext (same_new (fun _ _ e => e) hD), upd_same⟩ ?_ ?_
    · rintro i H2 hi ⟨s2, t2, hD2⟩
      refine ⟨rfl, keptT ?_⟩
      refine ⟨_, rfl, _, rfl, a, ns, i, by rw [Int.zero_add]; rfl, ext_seq s2 hS, by omega, fun H3 p s3 np hp => ?_⟩
      refine ⟨p, rfl, hp, t2.ext s3, fun H4 b4 t4 => ?_⟩
      have hD4 : H4 D = some (.lst ((List.replicate i true).map V.bl)) := b4 D _ (s3 D _ hD2) (ne_of_none hD2 np) (fun ps z => nomatch z)
      refine ⟨_, hD4, small1000 (by rw [List.length_map, List.length_replicate]; omega), fun b o e t => ?_, tabs_put t4 hD4, ?_⟩
      · have hb : b ≠ D := ne_of_none e hD
        have e2 := s2 b o e t
        rw [upd_ne hb]
        exact b4 b o (s3 b o e2) (ne_of_none e2 np) t
      · rw [upd_same, List.replicate_succ', List.map_append]
        rfl
    · rintro H2 ⟨s2, t2, hD2⟩
      refine ⟨D, _, rfl, SqL.of hD2, ?_⟩
      have e : (List.replicate n.toNat true).all id = true := by
        rw [List.all_eq_true]
        intro x hx
        exact (List.eq_of_mem_replicate hx)
      rw [e]
      exact q H2
end
end SQ2
namespace SQ2
open PySem L2 SQ
abbrev sPI : Stmt := top 9
abbrev sNm : Stmt := top 10
abbrev sFN : Stmt := top 11
abbrev sAr : Stmt := top 16
abbrev sEn : Stmt := top 17
/-- the kinds of values that come here -/
inductive Kd (H : Hp) : V → String → Prop
  | non : Kd H .non "NoneType"
  | bl (b : Bool) : Kd H (.bl b) "bool"
  | int (i : Int) : Kd H (.int i) "int"
  | str (x : Str) (h : x.length ≤ 1000) : Kd H (.str x) "str"
  | lst {a : Addr} {xs : List V} (e : H a = some (.lst xs)) : Kd H (.ref a) "list"
  | tup {a : Addr} {xs : List V} (e : H a = some (.tup xs)) : Kd H (.ref a) "tuple"
  | dic {a : Addr} {kvs : List (Key × V)} (e : H a = some (.dK kvs)) : Kd H (.ref a) "dict"
theorem Kd.ty {K : PySem.W.Frag} {H : Hp} {v : V} {t : String} (k : Kd H v t) : TyX K H v (.type t) := by
  cases k with
  | non => exact .base .non
  | bl b => exact .base (.bl b)
  | int i => exact .base (.int i)
  | str x h => exact .base (.str x)
  | lst e => exact .base (.lst e)
  | tup e => exact .base (.tup e)
  | dic e => exact .base (.dK e)
theorem Kd.same {H H' : Hp} {v : V} {t : String} (s : Same H H') (k : Kd H v t) : Kd H' v t := by
  cases k with
  | non => exact .non
  | bl b => exact .bl b
  | int i => exact .int i
  | str x h => exact .str x h
  | lst e => exact .lst (s _ _ e)
  | tup e => exact .tup (s _ _ e)
  | dic e => exact .dic (s _ _ e)
/-- isinstance(x, n) -/
theorem isi_ok {K : PySem.W.Frag} {H : Hp} {v : V} {t n : String} {b : Bool} {Q : VK} (k : Kd H v t) (h : kitB t n = some b) (q : Q (.bl b) H) : rIsi K [v, .ty n] H Q := ⟨v, .ty n, .type t, .type n, b, rfl, .ty n, k.ty, kit_ty h, q⟩
def isInt : V → Bool
  | .int _ => true
  | _ => false
def letters : List Nat := [97, 98, 99, 100, 101, 102, 103, 104, 105, 106, 107, 108, 109, 110, 111, 112, 113, 114, 115, 116, 117, 118, 119, 120, 121, 122]
def nameOk (n : Str) : Bool := decide (1 ≤ (n.length : Int)) && decide ((n.length : Int) ≤ 8) && n.cps.toList.all fun c => decide (c ∈ letters)
def isNm : V → Bool
  | .str n => nameOk n
  | _ => false
def cores : List Str := ["call", "dip", "curry", "compose", "choose"]
def isFree : V → Bool
  | .str n => nameOk n && !decide (n ∈ cores)
  | _ => false
def isAr : V → Bool
  | .int i => decide (0 ≤ i) && decide (i ≤ 3)
  | _ => false
structure B2 (mg : Str → Option Value) : Prop where
  isi : mg "isinstance" = none
  int : mg "int" = none
  bool : mg "bool" = none
  str : mg "str" = none
  tuple : mg "tuple" = none
  len : mg "len" = none
  all : mg "all" = none
  lets : ∃ t, mg "LETTERS" = some (.str "abcdefghijklmnopqrstuvwxyz" t)
  longest : ∃ t, mg "LONGEST_NAME" = some (.int 8 t)
  ar : ∃ t, mg "MOST_ARITY" = some (.int 3 t)
section
variable {P : Program} {w : World} {K : PySem.W.Frag} {mg : Str → Option Value} {base : Heap}
def spV (f : V → Bool) : Sp := fun vs H Q _ => ∃ (v : V) (t : String), vs = [v] ∧ Kd H v t ∧ ∀ H', Same H H' → Q (.bl (f v)) H'
theorem scPI : FnScope ["value"] ["value"] (defScope sPI) := ⟨rfl, rfl, rfl, by decide +kernel, rfl, by decide +kernel, by decide +kernel⟩
theorem ok_pi {f : Addr} {fd : FuncData} (F : Fun K "is_plain_integer" "is_plain_integer" sPI f fd) (B : B2 mg) : FnOk P w K mg base CX0 1 f fd ["value"] (spV isInt) := by
  refine F.ok scPI (fun vs H Q E h => ?_) (fun cdv A outer s H vs Q E hr h => ?_)
  · obtain ⟨v, t, rfl, _⟩ := h
    rfl
  · obtain ⟨v, t, rfl, k, q⟩ := h
    have q0 := q H (fun _ _ e => e)
    refine ⟨_, pss_one (ps_ret (pe_and (pe_callB call_isi (by rfl) B.isi (by decide +kernel) (pa_cons (pv 0) (pa_cons (pe_bltn (v := .ty "int") (by rfl) B.int (by decide +kernel) rfl) pa_nil)))
      (pe_one (pe_not (pe_callB call_isi (by rfl) B.isi (by decide +kernel) (pa_cons (pv 0) (pa_cons (pe_bltn (v := .ty "bool") (by rfl) B.bool (by decide +kernel) rfl) pa_nil))))))), ?_⟩
    refine ⟨_, rfl, ?_⟩
    cases k with
    | non => exact ⟨_, _, _, _, false, rfl, .ty "int", Kd.non.ty, kit_ty (by decide +kernel), _, rfl, iteF q0⟩
    | bl b => exact ⟨_, _, _, _, true, rfl, .ty "int", (Kd.bl b).ty, kit_ty (by decide +kernel), _, rfl, iteT ⟨_, rfl, _, _, _, _, true, rfl, .ty "bool", (Kd.bl b).ty, kit_ty (by decide +kernel), _, rfl, q0⟩⟩
    | int i => exact ⟨_, _, _, _, true, rfl, .ty "int", (Kd.int i).ty, kit_ty (by decide +kernel), _, rfl, iteT ⟨_, rfl, _, _, _, _, false, rfl, .ty "bool", (Kd.int i).ty, kit_ty (by decide +kernel), _, rfl, q0⟩⟩
    | str x hx => exact ⟨_, _, _, _, false, rfl, .ty "int", (Kd.str x hx).ty, kit_ty (by decide +kernel), _, rfl, iteF q0⟩
    | lst e => exact ⟨_, _, _, _, false, rfl, .ty "int", (Kd.lst e).ty, kit_ty (by decide +kernel), _, rfl, iteF q0⟩
    | tup e => exact ⟨_, _, _, _, false, rfl, .ty "int", (Kd.tup e).ty, kit_ty (by decide +kernel), _, rfl, iteF q0⟩
    | dic e => exact ⟨_, _, _, _, false, rfl, .ty "int", (Kd.dic e).ty, kit_ty (by decide +kernel), _, rfl, iteF q0⟩
theorem scNm : FnScope ["value", "letter"] ["value"] (defScope sNm) := ⟨rfl, rfl, rfl, by decide +kernel, rfl, by decide +kernel, by decide +kernel⟩
theorem ok_nm {f : Addr} {fd : FuncData} (F : Fun K "is_name" "is_name" sNm f fd) (B : B2 mg) : FnOk P w K mg base CX0 1 f fd ["value"] (spV isNm) := by
  obtain ⟨t1, hlet⟩ := B.lets
  obtain ⟨t2, hlon⟩ := B.longest
  refine F.ok scNm (fun vs H Q E h => ?_) (fun cdv A outer s H vs Q E hr h => ?_)
  · obtain ⟨v, t, rfl, _⟩ := h
    rfl
  · obtain ⟨v, t, rfl, k, q⟩ := h
    have q0 := q H (fun _ _ e => e)
    refine ⟨_, pss_cons (ps_if (PW.pt (pw_or (pt_not (pt_val (pe_callB call_isi (by rfl) B.isi (by decide +kernel) (pa_cons (pv 0) (pa_cons (pe_bltn (v := .ty "str") (by rfl) B.str (by decide +kernel) rfl) pa_nil)))))
        (pw_or1 (pt_not (pt_chain op_le op_le pe_int (pe_callB call_len_str (by rfl) B.len PySem.boot_len (pa_cons (pv 0) pa_nil)) (pe_glob (v := .int 8) rfl hlon ⟨_, rfl⟩))))))
        (pss_one (ps_ret pe_bl)) pss_nil)
      (pss_one (ps_ret (pe_callB (cr_all rfl) (by rfl) B.all (by decide +kernel) (pa_cons (pe_lc (own := [("letter", 1)]) (g := gName 1) (tt := tYes) rfl scNm.nd (pi_str (pv 0)) (blkOk_by (N := ["value", "letter"]) (sc := defScope sNm) (by decide +kernel))
        (fun _ _ _ _ _ => pg_name (i := 1) scNm.nd rfl (Or.inl rfl)) (fun _ _ _ _ _ => pts_nil) (fun _ _ _ _ _ => pe_cmpR op_in_sign (pv 1) (pe_glob (v := .str "abcdefghijklmnopqrstuvwxyz") rfl hlet ⟨_, rfl⟩) rfl)) pa_nil)))), ?_⟩
    refine ⟨_, rfl, ?_⟩
    cases k with
    | non => exact ⟨_, _, _, _, false, rfl, .ty "str", Kd.non.ty, kit_ty (by decide +kernel), _, rfl, iteT (iteT q0)⟩
    | bl b => exact ⟨_, _, _, _, false, rfl, .ty "str", (Kd.bl b).ty, kit_ty (by decide +kernel), _, rfl, iteT (iteT q0)⟩
    | int i => exact ⟨_, _, _, _, false, rfl, .ty "str", (Kd.int i).ty, kit_ty (by decide +kernel), _, rfl, iteT (iteT q0)⟩
    | lst e => exact ⟨_, _, _, _, false, rfl, .ty "str", (Kd.lst e).ty, kit_ty (by decide +kernel), _, rfl, iteT (iteT q0)⟩
    | tup e => exact ⟨_, _, _, _, false, rfl, .ty "str", (Kd.tup e).ty, kit_ty (by decide +kernel), _, rfl, iteT (iteT q0)⟩
    | dic e => exact ⟨_, _, _, _, false, rfl, .ty "str", (Kd.dic e).ty, kit_ty (by decide +kernel), _, rfl, iteT (iteT q0)⟩
    | str x hx =>
      refine ⟨_, _, _, _, true, rfl, .ty "str", (Kd.str x hx).ty, kit_ty (by decide +kernel), _, rfl, iteF ?_⟩
      have hx' : x.length ≤ sizeLine := Nat.le_of_lt (small1000 hx)
      refine ⟨_, rfl, x, rfl, hx', _, _, rfl, rfl, _, rfl, ?_⟩
      refine ite2 (fun h1 => ⟨_, _, rfl, rfl, _, rfl, ?_⟩) (fun h1 => ⟨_, rfl, iteT ?_⟩)
      · by_cases h8 : (x.length : Int) ≤ 8
        · rw [decide_eq_true h8]
          refine iteF ?_
          have hq : isNm (.str x) = x.cps.toList.all fun c => decide (c ∈ letters) := by
            show (decide (1 ≤ (x.length : Int)) && decide ((x.length : Int) ≤ 8) && x.cps.toList.all fun c => decide (c ∈ letters)) = _
            rw [h1, decide_eq_true h8]
            rfl
          rw [hq] at q
          refine ⟨_, rfl, x, rfl, fun D hD => ?_⟩
          refine lc_it (walk_str (z := x)) (fun i H2 => H2 = upd H D (.lst (((x.cps.toList.take i).map fun c => decide (c ∈ letters)).map V.bl))) rfl (fun _ _ _ _ => trivial) ?_ ?_
          · rintro i v H2 H3 hi rfl ⟨rfl, c, hc, rfl⟩
            refine ⟨rfl, keptT ⟨_, rfl, c, _, rfl, rfl, _, upd_same, small1000 ?_, ?_⟩⟩
            · have hz : x.cps.toList.length ≤ 1000 := hx
              rw [List.length_map, List.length_map, List.length_take]
              exact Nat.le_trans (Nat.min_le_right _ _) hz
            · have e1 : (("abcdefghijklmnopqrstuvwxyz" : Str).cps.toList) = letters := by decide +kernel
              have e2 : x.cps.toList.take (i + 1) = x.cps.toList.take i ++ [c] := by
                rw [List.take_add_one]
                have : x.cps.toList[i]? = some c := by simpa using hc
                rw [this]
                rfl
              rw [upd_upd, e1, e2, List.map_append, List.map_append]
              rfl
          · rintro H2 rfl
            refine ⟨D, _, rfl, SqL.of upd_same, ?_⟩
            have e3 : ((x.cps.toList.take x.cps.size).map fun c => decide (c ∈ letters)).all id = x.cps.toList.all fun c => decide (c ∈ letters) := by
              rw [List.all_map, show x.cps.size = x.cps.toList.length from rfl, List.take_length]
              rfl
            rw [e3]
            exact q _ (same_new (fun _ _ e => e) hD)
        · rw [decide_eq_false h8]
          refine iteT ?_
          have hq : isNm (.str x) = false := by
            show (decide (1 ≤ (x.length : Int)) && decide ((x.length : Int) ≤ 8) && x.cps.toList.all fun c => decide (c ∈ letters)) = _
            rw [decide_eq_false h8, Bool.and_false]
            rfl
          rw [hq] at q0
          exact q0
      · have h1' : decide (1 ≤ (x.length : Int)) = false := Bool.eq_false_iff.mpr h1
        have hq : isNm (.str x) = false := by
          show (decide (1 ≤ (x.length : Int)) && decide ((x.length : Int) ≤ 8) && x.cps.toList.all fun c => decide (c ∈ letters)) = _
          rw [h1']
          rfl
        rw [hq] at q0
        exact q0
/-- where the helpers stand -/
structure D2 (K : PySem.W.Frag) (mg : Str → Option Value) (fP fN fF fA fE : Addr) (dP dN dF dA dE : FuncData) : Prop where
  gP : mg "is_plain_integer" = some (.ref fP)
  FP : Fun K "is_plain_integer" "is_plain_integer" sPI fP dP
  bP : Binds K dP ["value"] []
  gN : mg "is_name" = some (.ref fN)
  FN : Fun K "is_name" "is_name" sNm fN dN
  bN : Binds K dN ["value"] []
  gF : mg "is_free_name" = some (.ref fF)
  FF : Fun K "is_free_name" "is_free_name" sFN fF dF
  bF : Binds K dF ["value"] []
  gA : mg "is_arity" = some (.ref fA)
  FA : Fun K "is_arity" "is_arity" sAr fA dA
  bA : Binds K dA ["value"] []
  gE : mg "is_entry" = some (.ref fE)
  FE : Fun K "is_entry" "is_entry" sEn fE dE
  bE : Binds K dE ["value"] []
/-- CORE_WORDS -/
structure Core (K : PySem.W.Frag) (mg : Str → Option Value) (tC : Addr) : Prop where
  g : mg "CORE_WORDS" = some (.ref tC)
  at_ : ∀ H : Hp, SqT K H tC (cores.map V.str)
theorem inV_strs (x : Str) : ∀ l : List Str, inV (.str x) (l.map V.str) = decide (x ∈ l)
  | [] => rfl
  | y :: l => by
    have ih := inV_strs x l
    unfold inV at ih ⊢
    rw [List.map_cons, List.any_cons, ih]
    by_cases h : y = x
    · subst h
      simp [eqV]
    · have h' : ¬ x = y := fun e => h e.symm
      simp [eqV, h, h']
theorem inV_cores {x : Str} : inV (.str x) (cores.map V.str) = decide (x ∈ cores) := inV_strs x cores
variable {fP fN fF fA fE tC : Addr} {dP dN dF dA dE : FuncData}
theorem scFN : FnScope ["value"] ["value"] (defScope sFN) := ⟨rfl, rfl, rfl, by decide +kernel, rfl, by decide +kernel, by decide +kernel⟩
theorem ok_fn (D : D2 K mg fP fN fF fA fE dP dN dF dA dE) (B : B2 mg) (C : Core K mg tC) : FnOk P w K mg base CX0 2 fF dF ["value"] (spV isFree) := by
  have GN : FnOk P w K mg base CX0 1 fN dN ["value"] (spV isNm) := ok_nm D.FN B
  refine D.FF.ok scFN (fun vs H Q E h => ?_) (fun cdv A outer s H vs Q E hr h => ?_)
  · obtain ⟨v, t, rfl, _⟩ := h
    rfl
  · obtain ⟨v, t, rfl, k, q⟩ := h
    refine ⟨_, pss_one (ps_ret (pe_and (pe_call GN hr rfl D.gN D.FN.kp D.bN .nil pass0 (pa_cons (pv 0) pa_nil)) (pe_one (pe_cmpR op_notIn_seq (pv 0) (pe_glob (v := .ref tC) rfl C.g rfl) (by rfl))))), ?_⟩
    refine ⟨_, rfl, v, t, rfl, k, fun H1 s1 => ⟨_, rfl, ?_⟩⟩
    have q1 := q H1 s1
    cases k with
    | str x hx =>
      cases hn : nameOk x with
      | false =>
        have e : isFree (.str x) = false := by
          show (nameOk x && !decide (x ∈ cores)) = false
          rw [hn]
          rfl
        rw [e] at q1
        rw [show isNm (.str x) = false from hn]
        exact iteF q1
      | true =>
        rw [show isNm (.str x) = true from hn]
        refine iteT ⟨_, rfl, tC, _, rfl, .inr (C.at_ H1), rfl, ?_, ?_⟩
        · decide
        · have e : (!inV (.str x) (cores.map V.str)) = isFree (.str x) := by
            show _ = (nameOk x && !decide (x ∈ cores))
            rw [hn, Bool.true_and]
            rw [inV_cores]
          show Q (.bl (!inV (.str x) (cores.map V.str))) H1
          rw [e]
          exact q1
    | non => exact iteF q1
    | bl b => exact iteF q1
    | int i => exact iteF q1
    | lst e => exact iteF q1
    | tup e => exact iteF q1
    | dic e => exact iteF q1
theorem scAr : FnScope ["value"] ["value"] (defScope sAr) := ⟨rfl, rfl, rfl, by decide +kernel, rfl, by decide +kernel, by decide +kernel⟩
theorem ok_ar (D : D2 K mg fP fN fF fA fE dP dN dF dA dE) (B : B2 mg) : FnOk P w K mg base CX0 2 fA dA ["value"] (spV isAr) := by
  have GP : FnOk P w K mg base CX0 1 fP dP ["value"] (spV isInt) := ok_pi D.FP B
  obtain ⟨t3, har⟩ := B.ar
  refine D.FA.ok scAr (fun vs H Q E h => ?_) (fun cdv A outer s H vs Q E hr h => ?_)
  · obtain ⟨v, t, rfl, _⟩ := h
    rfl
  · obtain ⟨v, t, rfl, k, q⟩ := h
    refine ⟨_, pss_one (ps_ret (pe_and (pe_call GP hr rfl D.gP D.FP.kp D.bP .nil pass0 (pa_cons (pv 0) pa_nil)) (pe_one (pe_chain op_le op_le pe_int (pv 0) (pe_glob (v := .int 3) rfl har ⟨_, rfl⟩))))), ?_⟩
    refine ⟨_, rfl, v, t, rfl, k, fun H1 s1 => ⟨_, rfl, ?_⟩⟩
    have q1 := q H1 s1
    cases k with
    | int i =>
      refine iteT ⟨_, rfl, _, _, rfl, rfl, _, rfl, ite2 (fun h0 => ⟨_, _, rfl, rfl, ?_⟩) (fun h0 => ?_)⟩
      · have e : decide (i ≤ 3) = isAr (.int i) := by
          show _ = (decide (0 ≤ i) && decide (i ≤ 3))
          rw [h0, Bool.true_and]
        show Q (.bl (decide (i ≤ 3))) H1
        rw [e]
        exact q1
      · have e : isAr (.int i) = false := by
          show (decide (0 ≤ i) && decide (i ≤ 3)) = false
          rw [Bool.eq_false_iff.mpr h0]
          rfl
        rw [e] at q1
        exact q1
    | str x hx => exact iteF q1
    | non => exact iteF q1
    | bl b => exact iteF q1
    | lst e => exact iteF q1
    | tup e => exact iteF q1
    | dic e => exact iteF q1
end
end SQ2
namespace SQ2
open PySem L2 SQ
/-- what is_entry makes of a value -/
inductive Ent (H : Hp) : V → Option (Str × Int × Int) → Prop
  | no {v : V} {t : String} (k : Kd H v t) (ht : (t == "tuple") = false) : Ent H v none
  | len {a : Addr} {xs : List V} (e : H a = some (.tup xs)) (h : ((xs.length : Int) == 3) = false) : Ent H (.ref a) none
  | bad {a : Addr} {x y z : V} {tx ty tz : String} (e : H a = some (.tup [x, y, z])) (kx : Kd H x tx) (ky : Kd H y ty) (kz : Kd H z tz) (h : (isFree x && (isAr y && isAr z)) = false) : Ent H (.ref a) none
  | good {a : Addr} {n : Str} {i j : Int} (e : H a = some (.tup [.str n, .int i, .int j])) (hn : n.length ≤ 1000) (h : (isFree (.str n) && (isAr (.int i) && isAr (.int j))) = true) : Ent H (.ref a) (some (n, i, j))
theorem Ent.same {H H' : Hp} {v : V} {o : Option (Str × Int × Int)} (s : Same H H') (k : Ent H v o) : Ent H' v o := by
  cases k with
  | no k ht => exact .no (k.same s) ht
  | len e h => exact .len (s _ _ e) h
  | bad e kx ky kz h => exact .bad (s _ _ e) (kx.same s) (ky.same s) (kz.same s) h
  | good e hn h => exact .good (s _ _ e) hn h
section
variable {P : Program} {w : World} {K : PySem.W.Frag} {mg : Str → Option Value} {base : Heap} {fP fN fF fA fE tC : Addr} {dP dN dF dA dE : FuncData}
def spEn : Sp := fun vs H Q _ => ∃ (v : V) (o : Option (Str × Int × Int)), vs = [v] ∧ Ent H v o ∧ ∀ H', Same H H' → Q (.bl o.isSome) H'
theorem scEn : FnScope ["value", "name", "inputs", "outputs"] ["value"] (defScope sEn) := ⟨rfl, rfl, rfl, by decide +kernel, rfl, by decide +kernel, by decide +kernel⟩
theorem st {H H1 H2 : Hp} (a : Same H H1) (b : Same H1 H2) : Same H H2 := fun x o e => b x o (a x o e)
theorem ok_en (D : D2 K mg fP fN fF fA fE dP dN dF dA dE) (B : B2 mg) (C : Core K mg tC) : FnOk P w K mg base CX0 3 fE dE ["value"] spEn := by
  have GF : FnOk P w K mg base CX0 2 fF dF ["value"] (spV isFree) := ok_fn D B C
  have GA : FnOk P w K mg base CX0 2 fA dA ["value"] (spV isAr) := ok_ar D B
  refine D.FE.ok scEn (fun vs H Q E h => ?_) (fun cdv A outer s H vs Q E hr h => ?_)
  · obtain ⟨v, o, rfl, _⟩ := h
    rfl
  · obtain ⟨v, o, rfl, k, q⟩ := h
    refine ⟨_, pss_cons (ps_if (PW.pt (pw_or (pt_not (pt_val (pe_callB call_isi (by rfl) B.isi (by decide +kernel) (pa_cons (pv 0) (pa_cons (pe_bltn (v := .ty "tuple") (by rfl) B.tuple (by decide +kernel) rfl) pa_nil)))))
        (pw_or1 (pt_cmpR op_ne (pe_callB call_len_seq (by rfl) B.len PySem.boot_len (pa_cons (pv 0) pa_nil)) pe_int (nomark _))))) (pss_one (ps_ret pe_bl)) pss_nil)
      (pss_cons (ps_asg (pv 0) (pg_tup rfl (pgs_cons (pg_name (i := 1) scEn.nd rfl (.inl rfl)) (pgs_cons (pg_name (i := 2) scEn.nd rfl (.inl rfl)) (pgs_cons (pg_name (i := 3) scEn.nd rfl (.inl rfl)) pgs_nil)))))
      (pss_one (ps_ret (pe_and (pe_call GF hr rfl D.gF D.FF.kp D.bF .nil pass0 (pa_cons (pv 1) pa_nil)) (pe_and (pe_call GA hr rfl D.gA D.FA.kp D.bA .nil pass0 (pa_cons (pv 2) pa_nil))
        (pe_one (pe_call GA hr rfl D.gA D.FA.kp D.bA .nil pass0 (pa_cons (pv 3) pa_nil)))))))), ?_⟩
    refine ⟨_, rfl, ?_⟩
    have q0 := q H (fun _ _ e => e)
    cases k with
    | no k ht =>
      have fin : ∀ t, (t == "tuple") = false → Kd H v t → kitB t "tuple" = some false := by
        intro t h k
        cases k
        · decide +kernel
        · decide +kernel
        · decide +kernel
        · decide +kernel
        · decide +kernel
        · exact absurd h (by decide)
        · decide +kernel
      exact ⟨_, _, _, _, false, rfl, .ty "tuple", k.ty, kit_ty (fin _ ht k), _, rfl, iteT (iteT q0)⟩
    | @len a xs e h =>
      refine ⟨_, _, _, _, true, rfl, .ty "tuple", (Kd.tup e).ty, kit_ty (by decide +kernel), _, rfl, iteF ?_⟩
      refine ⟨_, rfl, a, xs, rfl, .inr (SqT.of e), rfl, _, rfl, ?_⟩
      have ne : ¬ (V.int (xs.length : Int) = V.int 3) := fun z => by
        have z' : (xs.length : Int) = 3 := V.int.inj z
        rw [z'] at h
        exact absurd h (by decide)
      rw [decide_eq_false ne]
      exact iteT q0
    | @bad a x y z tx ty tz e kx ky kz h =>
      refine ⟨_, _, _, _, true, rfl, .ty "tuple", (Kd.tup e).ty, kit_ty (by decide +kernel), _, rfl, iteF ?_⟩
      refine ⟨_, rfl, a, _, rfl, .inr (SqT.of e), rfl, _, rfl, iteNS rfl ?_⟩
      refine ⟨_, rfl, a, _, rfl, SqT.of e, rfl, _, _, rfl, _, _, rfl, _, _, rfl, rfl, ?_⟩
      refine ⟨_, rfl, x, tx, rfl, kx, fun H1 s1 => ⟨_, rfl, ?_⟩⟩
      cases hx : isFree x with
      | false => exact iteF (q H1 s1)
      | true =>
        rw [hx, Bool.true_and] at h
        refine iteT ⟨_, rfl, y, ty, rfl, ky.same s1, fun H2 s2 => ⟨_, rfl, ?_⟩⟩
        cases hy : isAr y with
        | false => exact iteF (q H2 (st s1 s2))
        | true =>
          rw [hy, Bool.true_and] at h
          refine iteT ⟨_, rfl, z, tz, rfl, (kz.same s1).same s2, fun H3 s3 => ?_⟩
          rw [h]
          exact q H3 (st s1 (st s2 s3))
    | @good a n i j e hn h =>
      refine ⟨_, _, _, _, true, rfl, .ty "tuple", (Kd.tup e).ty, kit_ty (by decide +kernel), _, rfl, iteF ?_⟩
      refine ⟨_, rfl, a, _, rfl, .inr (SqT.of e), rfl, _, rfl, iteNS rfl ?_⟩
      refine ⟨_, rfl, a, _, rfl, SqT.of e, rfl, _, _, rfl, _, _, rfl, _, _, rfl, rfl, ?_⟩
      rw [Bool.and_eq_true, Bool.and_eq_true] at h
      obtain ⟨h1, h2, h3⟩ := h
      refine ⟨_, rfl, .str n, _, rfl, .str n hn, fun H1 s1 => ⟨_, rfl, ?_⟩⟩
      rw [h1]
      refine iteT ⟨_, rfl, .int i, _, rfl, .int i, fun H2 s2 => ⟨_, rfl, ?_⟩⟩
      rw [h2]
      refine iteT ⟨_, rfl, .int j, _, rfl, .int j, fun H3 s3 => ?_⟩
      rw [h3]
      exact q H3 (st s1 (st s2 s3))
end
end SQ2
namespace SQ2
open PySem L2 SQ
abbrev sChk : Stmt := top 18
abbrev En := Option (Str × Int × Int)
abbrev Ents (H : Hp) (xs : List V) (os : List En) : Prop := Paired (Ent H) xs os
theorem Ents.same {H H' : Hp} {xs : List V} {os : List En} (s : Same H H') (h : Ents H xs os) : Ents H' xs os := Paired.mapP h fun a b e => e.same s
/-- the first place that is refused, what stands ahead of i having the names seen -/
def firstBad (seen : List Str) (i : Nat) : List En → Option Nat
  | [] => none
  | none :: _ => some i
  | some (n, _, _) :: os => if n ∈ seen then some i else firstBad (n :: seen) (i + 1) os
/-- what the error's index holds, if there is one -/
def verdict (os : List En) : Option V := if 8 < os.length then some .non else (firstBad [] 0 os).map fun i => .int (i : Nat)
/-- the error's class as the top has made it -/
structure EC (K : PySem.W.Frag) (mg : Str → Option Value) (CE fI : Addr) : Prop where
  g : mg "InvalidEntries" = some (.ref CE)
  T : ErrC K CE "index" [.type "ValueError", .type "Exception", .type "BaseException", .type "object"] "ValueError.__new__"
  J : ErrI K CE fI "index"
  ty : PySem.W.typeIn K (.ref CE) = some (.type "type")
structure B3 (mg : Str → Option Value) : Prop where
  set : mg "set" = none
  enumerate : mg "enumerate" = none
  most : ∃ t, mg "MOST_ENTRIES" = some (.int 8 t)
def spChk (CE : Addr) : Sp := fun vs H Q E => ∃ (t : Addr) (xs : List V) (os : List En), vs = [.ref t] ∧ H t = some (.tup xs) ∧ Ents H xs os ∧ xs.length ≤ 100 ∧
  (∀ idx, verdict os = some idx → ∀ (d : Addr) (H' : Hp), Same H H' → H' d = some (.xd [("index", idx)]) → E (.ref CE) (some d) H') ∧ (verdict os = none → ∀ H', Same H H' → Q .non H')
section
variable {P : Program} {w : World} {K : PySem.W.Frag} {mg : Str → Option Value} {base : Heap} {fP fN fF fA fE tC CE fI : Addr} {dP dN dF dA dE : FuncData}
theorem scCk : FnScope ["entries", "taken", "place", "entry"] ["entries"] (defScope sChk) := ⟨rfl, rfl, rfl, by decide +kernel, rfl, by decide +kernel, by decide +kernel⟩
theorem walk_enumT {a : Addr} {xs : List V} : Walk (ItT K a) xs.length (fun H => SqT K H a xs) (YPair (fun i => some (.int (i : Nat))) (fun i => xs[i]?)) := by
  refine ⟨fun i _ hi q => ⟨xs, xs[i], q, by simp [hi]⟩, fun _ q => ⟨xs, q, rfl⟩, fun i H v H' _ q y => ?_⟩
  obtain ⟨T, x, h1, h2, h3, h4⟩ := y
  exact ⟨T, .int (i : Nat), x, h1, h2, h3, rfl, h4 xs q⟩
theorem Ents.get {H : Hp} : ∀ {xs : List V} {os : List En} {i : Nat} {x : V}, Ents H xs os → xs[i]? = some x → ∃ o, os[i]? = some o ∧ Ent H x o
  | _, _, _, _, .nil, e => by simp at e
  | _, _, 0, x, .cons r t, e => by
    cases e
    exact ⟨_, rfl, r⟩
  | _, _, i + 1, x, .cons r t, e => Ents.get (i := i) (x := x) t e
theorem drop_at {α : Type} : ∀ {l : List α} {i : Nat} {x : α}, l[i]? = some x → l.drop i = x :: l.drop (i + 1)
  | [], i, x, h => by simp at h
  | a :: l, 0, x, h => by
    cases h
    rfl
  | a :: l, i + 1, x, h => drop_at (l := l) (i := i) h
theorem ok_chk {f : Addr} {fd : FuncData} (F : Fun K "check_entries" "check_entries" sChk f fd) (D : D2 K mg fP fN fF fA fE dP dN dF dA dE) (B : B2 mg) (C : Core K mg tC) (Z : EC K mg CE fI) (BB : B3 mg) : FnOk P w K mg base (L2.CX P w) 4 f fd ["entries"] (spChk CE) := by
  have GE : FnOk P w K mg base CX0 3 fE dE ["value"] spEn := ok_en D B C
  obtain ⟨tM, hM⟩ := BB.most
  refine F.okX scCk (fun vs H Q E h => ?_) (fun cdv A outer s H vs Q E hr h => ?_)
  · obtain ⟨t, xs, os, rfl, _⟩ := h
    rfl
  · obtain ⟨t, xs, os, rfl, ht, he, hlen, kE, kQ⟩ := h
    have hl : xs.length = os.length := Paired.length he
    refine ⟨_, pss_cons (ps_if (pt_cmpR op_gt (pe_callB call_len_seq (by rfl) B.len PySem.boot_len (pa_cons (pv 0) pa_nil)) (pe_glob (v := .int 8) rfl hM ⟨_, rfl⟩) (nomark _))
        (pss_one (ps_raise rfl (takes_of rfl rfl rfl rfl) (pmk_err (.inr (.inl rfl)) bValue Z.T Z.J Z.ty Z.g hr rfl pe_non))) pss_nil)
      (pss_cons (ps_set (i := 1) scCk.nd rfl (.inl rfl) (pe_callTy0 cr_set0K (by rfl) BB.set (by decide +kernel)))
      (pss_one (ps_for (passes_of rfl) rfl (pi_enumT (by rfl) BB.enumerate (pa_cons (pv 0) pa_nil)) (pg_tup rfl (pgs_cons (pg_name (i := 2) scCk.nd rfl (.inl rfl)) (pgs_cons (pg_name (i := 3) scCk.nd rfl (.inl rfl)) pgs_nil)))
        (pss_cons (ps_if (PW.pt (pw_or (pt_not (pt_val (pe_call GE hr rfl D.gE D.FE.kp D.bE .nil pass0 (pa_cons (pv 3) pa_nil)))) (pw_or1 (pt_cmpR or_sinK (pe_ix ix_tup (pv 3) pe_int (fun _ _ => rfl)) (pv 1) (by rfl)))))
          (pss_one (ps_raise rfl (takes_of rfl rfl rfl rfl) (pmk_err (.inr (.inl rfl)) bValue Z.T Z.J Z.ty Z.g hr rfl (pv 2)))) pss_nil)
        (pss_one (ps_expr (pe_saddK (pv 1) (pa_cons (pe_ix ix_tup (pv 3) pe_int (fun _ _ => rfl)) pa_nil)))))))), ?_⟩
    refine ⟨_, rfl, t, xs, rfl, .inr (SqT.of ht), _, _, rfl, rfl, _, rfl, ?_⟩
    by_cases h8 : (8 : Int) < (xs.length : Int)
    · rw [decide_eq_true h8]
      refine iteT fun d nd => ?_
      exact kE .non (by unfold verdict; rw [if_pos (by omega)]) d _ (same_new (fun _ _ e => e) nd) upd_same
    · rw [decide_eq_false h8]
      refine iteF ⟨rfl, fun p np => ?_⟩
      have sP : Same H (upd H p (SetK P w p (fun _ => false) 0)) := same_new (fun _ _ e => e) np
      have hv : verdict os = (firstBad [] 0 os).map fun i => .int (i : Nat) := by
        unfold verdict
        rw [if_neg (by omega)]
      refine ⟨_, rfl, t, xs, rfl, SqT.of (sP _ _ ht), for_it walk_enumT (fun i σ H2 => ∃ (S : Key → Bool) (n : Nat) (seen : List Str) (v2 v3 : Option V), σ = [some (.ref t), some (.ref p), v2, v3] ∧ Same H H2 ∧ H2 p = some (SetK P w p S n) ∧ n ≤ i ∧
          (∀ k : Str, S (Sum.inr k) = decide (k ∈ seen)) ∧ firstBad [] 0 os = firstBad seen i (os.drop i))
        ⟨_, 0, [], none, none, rfl, sP, upd_same, Nat.le_refl _, fun k => by simp, rfl⟩ (fun i σ H2 _ ⟨_, _, _, _, _, _, s2, _⟩ => SqT.of (s2 _ _ ht)) ?_ ?_⟩
      · rintro i v σ H2 H3 hi ⟨S, n, seen, v2, v3, rfl, s2, hp2, hn, hS, hF⟩ ⟨T, x, y, rfl, nT, rfl, e1, e2⟩
        cases e1
        obtain ⟨o, ho, en⟩ := Ents.get he e2
        have s3 : Same H2 (upd H2 T (.tup [.int (i : Nat), y])) := same_new (fun _ _ e => e) nT
        have hT : upd H2 T (.tup [.int (i : Nat), y]) T = some (.tup [.int (i : Nat), y]) := upd_same
        have hp3 := s3 _ _ hp2
        rw [drop_at ho] at hF
        generalize hG : upd H2 T (HO.tup [V.int (i : Nat), y]) = G at hT hp3 s3 ⊢
        have s23 : Same H G := st s2 s3
        refine ⟨T, _, rfl, SqT.of hT, rfl, _, _, rfl, _, _, rfl, rfl, ?_⟩
        refine ⟨_, rfl, y, o, rfl, en.same s23, fun G1 sg => ⟨_, rfl, ?_⟩⟩
        have s4 : Same H G1 := st s23 sg
        have hp4 := sg _ _ hp3
        cases o with
        | none =>
          refine iteT (iteT ⟨_, rfl, fun d nd => ?_⟩)
          refine kE (.int (i : Nat)) ?_ d _ (same_new s4 nd) upd_same
          rw [hv, hF]
          rfl
        | some o3 =>
          obtain ⟨nm, a1, a2⟩ := o3
          refine iteF ?_
          have en4 := en.same s4
          cases en4 with
          | @good ea _ _ _ eE hnm hok =>
            refine ⟨_, rfl, ea, _, _, _, rfl, rfl, SqT.of eE, rfl, _, rfl, Sum.inr nm, p, S, n, rfl, rfl, hp4, _, rfl, ?_⟩
            show (if S (Sum.inr nm) = true then _ else _)
            rw [hS nm]
            by_cases hm : nm ∈ seen
            · rw [decide_eq_true hm]
              refine iteT ⟨_, rfl, fun d nd => ?_⟩
              refine kE (.int (i : Nat)) ?_ d _ (same_new s4 nd) upd_same
              rw [hv, hF]
              show (if nm ∈ seen then some i else _).map _ = _
              rw [if_pos hm]
              rfl
            · rw [decide_eq_false hm]
              refine iteF ?_
              refine ⟨_, rfl, ⟨p, S, n, rfl, hp4⟩, _, rfl, ea, _, _, _, rfl, rfl, SqT.of eE, rfl, p, Sum.inr nm, S, n, rfl, rfl, hp4, ?_, ?_⟩
              · show n + 1 < 4096
                omega
              · refine ⟨_, _, nm :: seen, _, _, rfl, ?_, upd_same, ?_, ?_, ?_⟩
                · intro b ob e
                  rw [upd_ne (ne_of_none e np)]
                  exact s4 _ _ e
                · split <;> omega
                · intro k
                  show (S (Sum.inr k) || decide ((Sum.inr k : Key) = Sum.inr nm)) = decide (k ∈ nm :: seen)
                  rw [hS k, key_rr]
                  by_cases hk : k = nm
                  · subst hk
                    simp
                  · simp [hk]
                · rw [hF]
                  show (if nm ∈ seen then some i else firstBad (nm :: seen) (i + 1) (os.drop (i + 1))) = _
                  rw [if_neg hm]
      · rintro σ H2 ⟨S, n, seen, v2, v3, rfl, s2, hp2, hn, hS, hF⟩
        refine kQ ?_ H2 s2
        rw [hv, hF, hl, List.drop_length]
        rfl
end
end SQ2
namespace SQ2
open PySem L2 SQ
abbrev sTx : Stmt := top 19
abbrev sIni : Stmt := inClass (top 22) 0
def etext (n : Str) (i j : Int) : Str := Str.empty ++ n ++ " " ++ (toString i) ++ " " ++ (toString j)
def spTx : Sp := fun vs H Q _ => ∃ (n : Str) (t : Addr) (i j : Int), vs = [.str n, .ref t] ∧ H t = some (.tup [.int i, .int j]) ∧ n.length ≤ 1000 ∧ 0 ≤ i ∧ i ≤ 3 ∧ 0 ≤ j ∧ j ≤ 3 ∧ Q (.str (etext n i j)) H
section
variable {P : Program} {w : World} {K : PySem.W.Frag} {mg : Str → Option Value} {base : Heap} {fP fN fF fA fE tC CE fI : Addr} {dP dN dF dA dE : FuncData}
theorem scTx : FnScope ["name", "arity", "inputs", "outputs"] ["name", "arity"] (defScope sTx) := ⟨rfl, rfl, rfl, by decide +kernel, rfl, by decide +kernel, by decide +kernel⟩
theorem four {i : Int} (h0 : 0 ≤ i) (h1 : i ≤ 3) : i = 0 ∨ i = 1 ∨ i = 2 ∨ i = 3 := by omega
theorem small_log {i : Int} (h0 : 0 ≤ i) (h1 : i ≤ 3) : i.natAbs.log2 < 1920 := by
  rcases four h0 h1 with rfl | rfl | rfl | rfl <;> decide
theorem len_num {i : Int} (h0 : 0 ≤ i) (h1 : i ≤ 3) : ((toString i : String) : Str).length = 1 := by
  rcases four h0 h1 with rfl | rfl | rfl | rfl <;> decide +kernel
theorem len_app (a b : Str) : (a ++ b).length = a.length + b.length := by
  show (a.cps ++ b.cps).size = a.cps.size + b.cps.size
  exact Array.size_append
theorem ok_tx {f : Addr} {fd : FuncData} (F : Fun K "entry_text" "entry_text" sTx f fd) : FnOk P w K mg base CX0 1 f fd ["name", "arity"] spTx := by
  refine F.ok scTx (fun vs H Q E h => ?_) (fun cdv A outer s H vs Q E hr h => ?_)
  · obtain ⟨n, t, i, j, rfl, _⟩ := h
    rfl
  · obtain ⟨n, t, i, j, rfl, ht, hn, i0, i3, j0, j3, q⟩ := h
    refine ⟨_, pss_cons (ps_asg (pv 1) (pg_tup rfl (pgs_cons (pg_name (i := 2) scTx.nd rfl (.inl rfl)) (pgs_cons (pg_name (i := 3) scTx.nd rfl (.inl rfl)) pgs_nil))))
      (pss_one (ps_ret (pe_joined (.cons (pe_fmt (pv 0)) (.cons pe_str (.cons (pe_fmt (pv 2)) (.cons pe_str (.cons (pe_fmt (pv 3)) .nil)))))))), ?_⟩
    have line : ∀ {k : Nat}, k ≤ 2000 → k ≤ sizeLine := fun h => Nat.le_trans h (by decide)
    have l0 : (Str.empty).length = 0 := rfl
    have l1 : ((" " : String) : Str).length = 1 := by decide +kernel
    have li := len_num i0 i3
    have lj := len_num j0 j3
    refine ⟨_, rfl, t, _, rfl, SqT.of ht, rfl, _, _, rfl, _, _, rfl, rfl, ?_⟩
    refine ⟨_, rfl, .inl ⟨n, rfl, line (by omega), n, rfl, line (by rw [len_app]; omega), _, rfl, line (by rw [len_app, len_app]; omega), _, rfl, .inr ⟨i, rfl, small_log i0 i3, _, rfl, line (by rw [len_app, len_app, len_app, li]; omega), _, rfl, line (by rw [len_app, len_app, len_app, len_app, li]; omega), _, rfl,
      .inr ⟨j, rfl, small_log j0 j3, _, rfl, line (by rw [len_app, len_app, len_app, len_app, len_app, li, lj]; omega), q⟩⟩⟩⟩
end
end SQ2
namespace SQ2
open PySem L2 SQ
abbrev G3 := Str × Int × Int
def gnames (gs : List G3) : List Str := gs.map (·.1)
/-- nothing is refused: all are entries, the names differ -/
theorem none_bad : ∀ (os : List En) (seen : List Str) (i : Nat), firstBad seen i os = none → ∃ gs : List G3, os = gs.map some ∧ (gnames gs).Nodup ∧ ∀ n ∈ gnames gs, n ∉ seen
  | [], _, _, _ => ⟨[], rfl, List.nodup_nil, fun n h => nomatch h⟩
  | none :: _, _, _, h => nomatch h
  | some (n, a, b) :: os, seen, i, h => by
    have h' : (if n ∈ seen then some i else firstBad (n :: seen) (i + 1) os) = none := h
    by_cases hm : n ∈ seen
    · rw [if_pos hm] at h'
      cases h'
    · rw [if_neg hm] at h'
      obtain ⟨gs, e, nd, ns⟩ := none_bad os (n :: seen) (i + 1) h'
      refine ⟨(n, a, b) :: gs, by rw [e]; rfl, ?_, ?_⟩
      · refine List.nodup_cons.mpr ⟨fun hn => ns n hn List.mem_cons_self, nd⟩
      · intro m hm2
        rcases List.mem_cons.mp hm2 with e2 | e2
        · rw [e2]
          exact hm
        · exact fun z => ns m e2 (List.mem_cons_of_mem _ z)
theorem verdict_none {os : List En} (h : verdict os = none) : ∃ gs : List G3, os = gs.map some ∧ (gnames gs).Nodup ∧ gs.length ≤ 8 := by
  unfold verdict at h
  by_cases h8 : 8 < os.length
  · rw [if_pos h8] at h
    cases h
  · rw [if_neg h8, Option.map_eq_none_iff] at h
    obtain ⟨gs, e, nd, _⟩ := none_bad os [] 0 h
    refine ⟨gs, e, nd, ?_⟩
    rw [e, List.length_map] at h8
    omega
/-- the numbers of a name -/
def arOf (gs : List G3) (n : Str) : Int × Int := ((gs.find? fun g => decide (g.1 = n)).map (·.2)).getD (0, 0)
def vtext (gs : List G3) (ys : List Str) : Str := Txt.join ", " (ys.map fun n => etext n (arOf gs n).1 (arOf gs n).2)
/-- the dict of the numbers -/
def Kvs (H : Hp) (kvs : List (Key × V)) (gs : List G3) : Prop := Paired (fun kv g => kv.1 = Sum.inr g.1 ∧ ∃ t, kv.2 = .ref t ∧ H t = some (.tup [.int g.2.1, .int g.2.2])) kvs gs
theorem Kvs.same {H H' : Hp} {kvs : List (Key × V)} {gs : List G3} (s : Same H H') (h : Kvs H kvs gs) : Kvs H' kvs gs := Paired.mapP h fun a b e => ⟨e.1, let ⟨t, h1, h2⟩ := e.2; ⟨t, h1, s _ _ h2⟩⟩
theorem Kvs.names {H : Hp} : ∀ {kvs : List (Key × V)} {gs : List G3}, Kvs H kvs gs → kvs.map (·.1) = (gnames gs).map Sum.inr
  | _, _, .nil => rfl
  | _, _, .cons r t => by
    exact congr (congrArg List.cons r.1) (Kvs.names t)
theorem Kvs.no {H : Hp} {n : Str} : ∀ {kvs : List (Key × V)} {gs : List G3}, Kvs H kvs gs → n ∉ gnames gs → valV kvs (Sum.inr n) = none
  | _, _, .nil, _ => rfl
  | _, _, .cons (a := kv) (b := g) r t, hn => by
    have h1 : ¬ kv.1 = Sum.inr n := fun z => hn (by rw [r.1] at z; rw [← Sum.inr.inj z]; exact List.mem_cons_self)
    rw [valV_neg h1]
    exact Kvs.no t fun z => hn (List.mem_cons_of_mem _ z)
theorem Kvs.at {H : Hp} {n : Str} : ∀ {kvs : List (Key × V)} {gs : List G3}, Kvs H kvs gs → n ∈ gnames gs → ∃ t, valV kvs (Sum.inr n) = some (.ref t) ∧ H t = some (.tup [.int (arOf gs n).1, .int (arOf gs n).2])
  | _, _, .nil, h => nomatch h
  | _, _, .cons (a := kv) (b := g) (l₂ := gs) r t, hn => by
    by_cases h1 : g.1 = n
    · obtain ⟨t0, e1, e2⟩ := r.2
      refine ⟨t0, ?_, ?_⟩
      · rw [valV_pos (by rw [r.1, h1]), e1]
      · unfold arOf
        rw [List.find?_cons_of_pos (by simpa using h1)]
        exact e2
    · have h2 : ¬ kv.1 = Sum.inr n := fun z => h1 (by rw [r.1] at z; exact Sum.inr.inj z)
      have hn' : n ∈ gnames gs := by
        rcases List.mem_cons.mp hn with z | z
        · exact absurd z.symm h1
        · exact z
      obtain ⟨t0, e1, e2⟩ := Kvs.at t hn'
      refine ⟨t0, ?_, ?_⟩
      · rw [valV_neg h2]
        exact e1
      · unfold arOf at e2 ⊢
        rw [List.find?_cons_of_neg (by simpa using h1)]
        exact e2
theorem Kvs.snoc {H : Hp} : ∀ {kvs : List (Key × V)} {gs : List G3} {kv : Key × V} {g : G3}, Kvs H kvs gs → (kv.1 = Sum.inr g.1 ∧ ∃ t, kv.2 = .ref t ∧ H t = some (.tup [.int g.2.1, .int g.2.2])) → Kvs H (kvs ++ [kv]) (gs ++ [g])
  | _, _, _, _, .nil, h => .cons h .nil
  | _, _, _, _, .cons r t, h => .cons r (Kvs.snoc t h)
end SQ2
namespace SQ2
open PySem L2 SQ
/-- the class of the vocabularies -/
structure VC (K : PySem.W.Frag) (mg : Str → Option Value) (C : Addr) : Prop where
  g : mg "Vocabulary" = some (.ref C)
  cl : Cls K C
  nA : NoAttr K C "arities"
  nN : NoAttr K C "names"
  nT : NoAttr K C "text"
structure B4 (mg : Str → Option Value) : Prop where
  sorted : mg "sorted" = none
def flds (dA tN : Addr) (z : Str) : List (Str × V) := putF "text" (.str z) (putF "names" (.ref tN) (putF "arities" (.ref dA) []))
/-- what __init__ promises, once the entries lie in a tuple -/
def spIni0 (C CE : Addr) : Sp := fun vs H Q E => ∃ (x dx t : Addr) (xs : List V) (os : List En), vs = [.ref x, .ref t] ∧ H x = some (.ins C dx []) ∧ H t = some (.tup xs) ∧ Ents H xs os ∧ xs.length ≤ 100 ∧
  (∀ idx, verdict os = some idx → ∀ (d : Addr) (H' : Hp), Same H H' → H' d = some (.xd [("index", idx)]) → E (.ref CE) (some d) H') ∧
  (verdict os = none → ∀ gs : List G3, os = gs.map some → ∀ (H' : Hp) (dA tN : Addr) (ys : List Str), ys.Perm (gnames gs) → PyProof.Rows.sortedS ys = true → But x H H' → (∃ dx', H' x = some (.ins C dx' (flds dA tN (vtext gs ys)))) → Q .non H')
section
variable {P : Program} {w : World} {K : PySem.W.Frag} {mg : Str → Option Value} {base : Heap} {fP fN fF fA fE tC CE fI C fC fX : Addr} {dP dN dF dA dE dC dX : FuncData}
theorem scIni : FnScope ["self", "entries", "arities", "name", "inputs", "outputs"] ((["self"] : List Str) ++ (["entries"] : List Str)) (defScope sIni) := ⟨rfl, rfl, rfl, by decide +kernel, rfl, by decide +kernel, by decide +kernel⟩
structure I2 (K : PySem.W.Frag) (mg : Str → Option Value) (fC fX : Addr) (dC dX : FuncData) : Prop where
  gC : mg "check_entries" = some (.ref fC)
  FC : Fun K "check_entries" "check_entries" sChk fC dC
  bC : Binds K dC ["entries"] []
  gX : mg "entry_text" = some (.ref fX)
  FX : Fun K "entry_text" "entry_text" sTx fX dX
  bX : Binds K dX ["name", "arity"] []
theorem nodup_take {α : Type} : ∀ {l : List α} {i : Nat} {x : α}, l.Nodup → l[i]? = some x → x ∉ l.take i
  | [], i, x, _, h => by simp at h
  | a :: l, 0, x, _, h => by simp
  | a :: l, i + 1, x, nd, h => by
    have h' : l[i]? = some x := h
    obtain ⟨n1, n2⟩ := List.nodup_cons.mp nd
    rw [List.take_succ_cons]
    intro hm
    rcases List.mem_cons.mp hm with e | e
    · exact n1 (e ▸ List.mem_of_getElem? h')
    · exact nodup_take n2 h' e
theorem take_more {α : Type} {l : List α} {i : Nat} {x : α} (h : l[i]? = some x) : l.take (i + 1) = l.take i ++ [x] := by
  rw [List.take_add_one, h]
  rfl
theorem ents_good {H : Hp} : ∀ {xs : List V} {gs : List G3}, Ents H xs (gs.map some) → ∀ g ∈ gs, (isFree (.str g.1) && (isAr (.int g.2.1) && isAr (.int g.2.2))) = true
  | _, [], _, g, h => nomatch h
  | _, g0 :: gs, .cons r t, g, h => by
    rcases List.mem_cons.mp h with e | e
    · subst e
      cases r with
      | good _ _ hq => exact hq
    · exact ents_good t g e
theorem ar_mem {gs : List G3} {n : Str} (h : n ∈ gnames gs) : ∃ g ∈ gs, g.1 = n ∧ arOf gs n = g.2 := by
  unfold arOf
  cases hf : gs.find? (fun g => decide (g.1 = n)) with
  | none =>
    obtain ⟨g, hg, e⟩ := List.mem_map.mp h
    have := List.find?_eq_none.mp hf g hg
    exact absurd (by simpa using e) (by simpa using this)
  | some g => exact ⟨g, List.mem_of_find?_eq_some hf, by simpa using List.find?_some hf, rfl⟩
theorem ar_ok {i : Int} (h : isAr (.int i) = true) : 0 ≤ i ∧ i ≤ 3 := by
  have h' : (decide (0 ≤ i) && decide (i ≤ 3)) = true := h
  rw [Bool.and_eq_true] at h'
  exact ⟨of_decide_eq_true h'.1, of_decide_eq_true h'.2⟩
theorem free_len {n : Str} (h : isFree (.str n) = true) : n.length ≤ 8 := by
  have h' : (nameOk n && !decide (n ∈ cores)) = true := h
  rw [Bool.and_eq_true] at h'
  have h2 := h'.1
  unfold nameOk at h2
  rw [Bool.and_eq_true, Bool.and_eq_true] at h2
  have := of_decide_eq_true h2.1.2
  omega
/-- what is known of a name's numbers -/
theorem good_at {H : Hp} {xs : List V} {gs : List G3} {n : Str} (he : Ents H xs (gs.map some)) (h : n ∈ gnames gs) : n.length ≤ 8 ∧ (0 ≤ (arOf gs n).1 ∧ (arOf gs n).1 ≤ 3) ∧ 0 ≤ (arOf gs n).2 ∧ (arOf gs n).2 ≤ 3 := by
  obtain ⟨g, hg, rfl, e⟩ := ar_mem h
  have hh := ents_good he g hg
  rw [Bool.and_eq_true, Bool.and_eq_true] at hh
  rw [e]
  exact ⟨free_len hh.1, ar_ok hh.2.1, ar_ok hh.2.2⟩
theorem etext_len {n : Str} {i j : Int} (hn : n.length ≤ 8) (i0 : 0 ≤ i) (i3 : i ≤ 3) (j0 : 0 ≤ j) (j3 : j ≤ 3) : (etext n i j).length ≤ 12 := by
  unfold etext
  have l0 : (Str.empty).length = 0 := rfl
  have l1 : ((" " : String) : Str).length = 1 := by decide +kernel
  rw [len_app, len_app, len_app, len_app, len_app, len_num i0 i3, len_num j0 j3, l1, l0]
  omega
theorem sum_le {α : Type} (f : α → Nat) (b : Nat) : ∀ l : List α, (∀ x ∈ l, f x ≤ b) → (l.map f).sum ≤ l.length * b
  | [], _ => by simp
  | x :: l, h => by
    have h1 := h x List.mem_cons_self
    have h2 := sum_le f b l fun y hy => h y (List.mem_cons_of_mem _ hy)
    rw [List.map_cons, List.sum_cons, List.length_cons, Nat.add_mul]
    omega
theorem keptD {σ : St} {H : Hp} {A B : Hp → Prop} (h : A H) : tYes σ H (fun b H3 => if b = true then A H3 else B H3) := keptT h
theorem body_ini (I : I2 K mg fC fX dC dX) (D : D2 K mg fP fN fF fA fE dP dN dF dA dE) (B : B2 mg) (CW : Core K mg tC) (Z : EC K mg CE fI) (BB : B3 mg) (B4' : B4 mg) (VV : VC K mg C) {f : Addr} (cdv : Value) (A : Around) (outer : List Env) (s : Shared) (H : Hp) (vs : List V) (Q : VK) (E : XK)
    (hr : Room 4 (A.deeper (PyProof.Rows.envOfC "Vocabulary.__init__" (defScope sIni) s.heap.objs.size f cdv))) (h : spIni0 C CE vs H Q E) :
    ∃ t, PSs (cxOf (L2.CX P w) P w K mg base ["self", "entries", "arities", "name", "inputs", "outputs"] "Vocabulary.__init__" (defScope sIni) f cdv A outer s H E) (defBody sIni) t ∧ t { nx := fun _ H' => Q .non H', rt := Q } (start ["self", "entries", "arities", "name", "inputs", "outputs"] vs) H := by
  have GC : FnOk P w K mg base (L2.CX P w) 4 fC dC ["entries"] (spChk CE) := ok_chk I.FC D B CW Z BB
  have GX : FnOk P w K mg base CX0 1 fX dX ["name", "arity"] spTx := ok_tx I.FX
  obtain ⟨x, dx, t, xs, os, rfl, hx, ht, he, hlen, kE, kQ⟩ := h
  have hu := hu_of hr
  refine ⟨_, pss_cons (ps_expr (pe_call GC hr rfl I.gC I.FC.kp I.bC .nil (passes_call (takes_of rfl rfl rfl rfl) (fun _ _ _ _ h => h)) (pa_cons (pv 1) pa_nil)))
    (pss_cons (ps_set (i := 2) scIni.nd rfl (.inr rfl) (pe_dc (own := [("name", 3), ("inputs", 4), ("outputs", 5)]) (g := gTup K 3 (gCons (gName 3) (gCons (gName 4) (gCons (gName 5) gNil)))) (tt := tYes) rfl scIni.nd (pi_tup (pv 1)) (blkOk_by (N := ["self", "entries", "arities", "name", "inputs", "outputs"]) (sc := defScope sIni) (by decide +kernel))
      (fun _ _ _ _ _ => pg_tup rfl (pgs_cons (pg_name (i := 3) scIni.nd rfl (.inl rfl)) (pgs_cons (pg_name (i := 4) scIni.nd rfl (.inl rfl)) (pgs_cons (pg_name (i := 5) scIni.nd rfl (.inl rfl)) pgs_nil)))) (fun _ _ _ _ _ => pts_nil) (fun _ _ _ _ _ => pv 3) (fun _ _ _ _ _ => pe_tup (pa_cons (pv 4) (pa_cons (pv 5) pa_nil)))))
    (pss_cons (ps_fld (pv 0) (pv 2) rfl)
    (pss_cons (ps_fld (pv 0) (pe_callTy call_tuple_of (by rfl) B.tuple (by decide +kernel) (pa_cons (pe_callB (call_sortedD rfl) (by rfl) B4'.sorted (by decide +kernel) (pa_cons (pv 2) pa_nil)) pa_nil)) rfl)
    (pss_one (ps_fld (pv 0) (pe_join pe_str (pe_lc (own := [("name", 3)]) (g := gName 3) (tt := tYes) rfl scIni.nd (pi_tup (pe_fld (pv 0) rfl)) (blkOk_by (N := ["self", "entries", "arities", "name", "inputs", "outputs"]) (sc := defScope sIni) (by decide +kernel))
      (fun _ _ _ _ _ => pg_name (i := 3) scIni.nd rfl (.inl rfl)) (fun _ _ _ _ _ => pts_nil) (fun _ _ _ _ _ => pe_call GX (hr.mono (by decide)) rfl I.gX I.FX.kp I.bX .nil pass0 (pa_cons (pv 3) (pa_cons (pe_dget hu (pv 2) (pv 3) (fun _ _ => rfl)) pa_nil))))) rfl))))), ?_⟩
  refine ⟨_, rfl, t, xs, os, rfl, ht, he, hlen, kE, fun hv H1 s1 => ?_⟩
  obtain ⟨gs, rfl, nd, h8⟩ := verdict_none hv
  have hl : xs.length = gs.length := by
    have := Paired.length he
    rw [List.length_map] at this
    exact this
  -- arities = {..}
  refine ⟨_, rfl, t, rfl, ⟨_, SqT.of (s1 _ _ ht)⟩, fun D hD => ?_⟩
  refine dc_tup (K := K) (a := t) (xs := xs) (fun i H2 => ∃ kvs, H2 D = some (.dK kvs) ∧ Kvs H2 kvs (gs.take i) ∧ Same H1 H2) ⟨[], upd_same, .nil, same_new (fun _ _ e => e) hD⟩ (fun i H2 _ ⟨_, _, _, s2⟩ => SqT.of (s2 _ _ (s1 _ _ ht))) ?_ ?_
  · rintro i v H2 hi ⟨kvs, hD2, hk, s2⟩
    obtain ⟨o, ho, en⟩ := Ents.get he hi
    rw [List.getElem?_map] at ho
    cases hg : gs[i]? with
    | none =>
      rw [hg] at ho
      cases ho
    | some g =>
      rw [hg] at ho
      cases ho
      obtain ⟨n, a1, a2⟩ := g
      cases en with
      | @good ea _ _ _ eE hnm hok =>
        have eE2 := s2 _ _ (s1 _ _ eE)
        refine ⟨ea, _, rfl, SqT.of eE2, rfl, _, _, rfl, _, _, rfl, _, _, rfl, rfl, rfl, keptD ?_⟩
        refine ⟨_, rfl, _, rfl, _, rfl, (by show 2 ≤ sizeLine; decide), fun T nT => ?_⟩
        have hDT : D ≠ T := ne_of_none hD2 nT
        have hno : n ∉ gnames (gs.take i) := by
          have e1 : gnames (gs.take i) = (gnames gs).take i := by
            unfold gnames
            rw [List.map_take]
          rw [e1]
          exact nodup_take nd (by unfold gnames; rw [List.getElem?_map, hg]; rfl)
        have hl2 : kvs.length = (gs.take i).length := Paired.length hk
        refine ⟨kvs, Sum.inr n, rfl, by rw [upd_ne hDT]; exact hD2, small1000 (by rw [hl2, List.length_take]; omega), ?_⟩
        refine ⟨_, upd_same, ?_, ?_⟩
        · rw [putK_new _ (hk.no hno), take_more hg]
          have s3 : Same H2 (upd H2 T (.tup [.int a1, .int a2])) := same_new (fun _ _ e => e) nT
          have kk : Kvs (upd H2 T (.tup [.int a1, .int a2])) (kvs ++ [(Sum.inr n, .ref T)]) (gs.take i ++ [(n, a1, a2)]) := (hk.same s3).snoc ⟨rfl, T, rfl, upd_same⟩
          refine Paired.mapP kk fun kv g ⟨h1, t0, h2, h3⟩ => ⟨h1, t0, h2, ?_⟩
          rw [upd_ne (ne_of h3 (show upd H2 T (.tup [.int a1, .int a2]) D = some (.dK kvs) by rw [upd_ne hDT]; exact hD2) (by intro z; cases z))]
          exact h3
        · intro b ob e
          rw [upd_ne (ne_of_none e hD), upd_ne (ne_of_none (s2 _ _ e) nT)]
          exact s2 _ _ e
  · rintro H2 ⟨kvs, hD2, hk, s2⟩
    rw [hl, List.take_length] at hk
    have hx2 : H2 x = some (.ins C dx []) := s2 _ _ (s1 _ _ hx)
    have sH2 : Same H H2 := st s1 s2
    -- self.arities = arities
    refine ⟨_, rfl, _, rfl, x, C, dx, [], rfl, hx2, VV.cl, VV.nA, (by show 0 < 1000; decide), ?_⟩
    have hxD : x ≠ D := ne_of hx2 hD2 (by intro z; cases z)
    generalize hG3 : upd H2 x (HO.ins C dx (putF "arities" (.ref D) [])) = H3
    have b3 : But x H2 H3 := by rw [← hG3]; exact But.refl.put
    have hx3 : H3 x = some (.ins C dx (putF "arities" (.ref D) [])) := by rw [← hG3]; exact upd_same
    have hD3 : H3 D = some (.dK kvs) := b3 _ _ hD2 (Ne.symm hxD)
    have hk3 : Kvs H3 kvs gs := Paired.mapP hk fun kv g ⟨h1, t0, h2, h3⟩ => ⟨h1, t0, h2, b3 _ _ h3 (ne_of h3 hx2 (by intro z; cases z))⟩
    have hln : (gnames gs).length ≤ 8 := by
      unfold gnames
      rw [List.length_map]
      exact h8
    -- self.names = tuple(sorted(arities))
    refine ⟨_, rfl, D, kvs, gnames gs, rfl, .inl hD3, hk3.names, (by omega), fun ys p hperm hsort np => ⟨p, ys.map V.str, rfl, .inl ⟨SqL.of upd_same, fun l nl => ?_⟩⟩⟩
    have s4 : Same H3 (upd (upd H3 p (.lst (ys.map V.str))) l (.tup (ys.map V.str))) := same_new (same_new (fun _ _ e => e) np) nl
    generalize hG4 : upd (upd H3 p (HO.lst (ys.map V.str))) l (HO.tup (ys.map V.str)) = H4 at s4
    have hl4 : H4 l = some (.tup (ys.map V.str)) := by rw [← hG4]; exact upd_same
    have hx4 := s4 _ _ hx3
    refine ⟨_, rfl, x, C, dx, _, rfl, hx4, VV.cl, VV.nN, (by show 1 < 1000; decide), ?_⟩
    generalize hG5 : upd H4 x (HO.ins C dx (putF "names" (.ref l) (putF "arities" (.ref D) []))) = H5
    have b5 : But x H4 H5 := by rw [← hG5]; exact But.refl.put
    have hx5 : H5 x = some (.ins C dx (putF "names" (.ref l) (putF "arities" (.ref D) []))) := by rw [← hG5]; exact upd_same
    have hl5 : H5 l = some (.tup (ys.map V.str)) := b5 _ _ hl4 (ne_of hl4 hx4 (by intro z; cases z))
    have hD5 : H5 D = some (.dK kvs) := b5 _ _ (s4 _ _ hD3) (Ne.symm hxD)
    have hk5 : Kvs H5 kvs gs := Paired.mapP (hk3.same s4) fun kv g ⟨h1, t0, h2, h3⟩ => ⟨h1, t0, h2, b5 _ _ h3 (ne_of h3 hx4 (by intro z; cases z))⟩
    have bt : But x H H5 := ((Same.but sH2).trans b3).trans ((Same.but s4).trans b5)
    have mem : ∀ n ∈ ys, n ∈ gnames gs := fun n hn => hperm.mem_iff.mp hn
    have hly : ys.length ≤ 8 := by
      rw [hperm.length_eq]
      exact hln
    -- self.text = ', '.join(..)
    refine ⟨⟨_, rfl⟩, _, rfl, x, C, dx, _, _, rfl, hx5, VV.cl, VV.nN, rfl, l, rfl, ⟨_, SqT.of hl5⟩, fun D2 hD2' => ?_⟩
    refine lc_tup (K := K) (a := l) (xs := ys.map V.str) (fun i H6 => H6 = upd H5 D2 (.lst (((ys.take i).map fun n => etext n (arOf gs n).1 (arOf gs n).2).map V.str))) rfl (fun i H6 _ e => by rw [e]; exact SqT.of (by rw [upd_ne (ne_of_none hl5 hD2')]; exact hl5)) ?_ ?_
    · rintro i v H6 hi rfl
      rw [List.getElem?_map] at hi
      cases hy : ys[i]? with
      | none =>
        rw [hy] at hi
        cases hi
      | some n =>
        rw [hy] at hi
        cases hi
        have hn := mem n (List.mem_of_getElem? hy)
        obtain ⟨g1, ⟨g2, g3⟩, g4, g5⟩ := good_at he hn
        obtain ⟨t0, v1, v2⟩ := hk5.at hn
        refine ⟨rfl, keptT ⟨_, rfl, _, rfl, _, rfl, D, .ref t0, rfl, ?_, n, t0, _, _, rfl, ?_, by omega, g2, g3, g4, g5, _, upd_same, small1000 ?_, ?_⟩⟩
        · rw [← v1]
          exact DGet.k (k := Sum.inr n) (by rw [upd_ne (ne_of_none hD5 hD2')]; exact hD5)
        · rw [upd_ne (ne_of_none v2 hD2')]
          exact v2
        · rw [List.length_map, List.length_map, List.length_take]
          omega
        · rw [upd_upd, take_more hy, List.map_append, List.map_append]
          rfl
    · rintro H6 rfl
      rw [List.length_map, List.take_length]
      refine ⟨_, D2, _, rfl, rfl, .inl (SqL.of upd_same), ?_, ?_⟩
      · rw [List.map_map, List.length_map]
        have := sum_le ((fun z : Str => z.length) ∘ fun n => etext n (arOf gs n).1 (arOf gs n).2) 12 ys (fun n hn => by
          obtain ⟨g1, ⟨g2, g3⟩, g4, g5⟩ := good_at he (mem n hn)
          exact etext_len g1 g2 g3 g4 g5)
        have l2 : (", " : Str).length = 2 := by decide +kernel
        rw [l2]
        omega
      · have hx6 : upd H5 D2 (.lst ((ys.map fun n => etext n (arOf gs n).1 (arOf gs n).2).map V.str)) x = some (.ins C dx (putF "names" (.ref l) (putF "arities" (.ref D) []))) := by
          rw [upd_ne (ne_of_none hx5 hD2')]
          exact hx5
        refine ⟨_, rfl, x, C, dx, _, rfl, hx6, VV.cl, VV.nT, (by show 2 < 1000; decide), ?_⟩
        exact kQ hv gs rfl _ D l ys hperm hsort ((bt.new hD2').put) ⟨dx, upd_same⟩
end
end SQ2
namespace SQ2
open PySem L2 SQ
abbrev sStr : Stmt := inClass (top 22) 5
def spInit (C CE : Addr) : Sp := fun vs H Q E => ∃ ws rest, vs = ws ++ rest ∧ ws.length = (["self"] : List Str).length ∧ rest.length ≤ sizeLine ∧ ∀ p, H p = Option.none → spIni0 C CE (ws ++ [V.ref p]) (upd H p (.tup rest)) Q E
def spStr (C : Addr) : Sp := fun vs H Q _ => ∃ (x dx dA tN : Addr) (z : Str), vs = [.ref x] ∧ H x = some (.ins C dx (flds dA tN z)) ∧ Q (.str z) H
section
variable {P : Program} {w : World} {K : PySem.W.Frag} {mg : Str → Option Value} {base : Heap} {fP fN fF fA fE tC CE fI C fC fX : Addr} {dP dN dF dA dE dC dX : FuncData}
theorem ok_ini (I : I2 K mg fC fX dC dX) (D : D2 K mg fP fN fF fA fE dP dN dF dA dE) (B : B2 mg) (CW : Core K mg tC) (Z : EC K mg CE fI) (BB : B3 mg) (B4' : B4 mg) (VV : VC K mg C) {f : Addr} {fd : FuncData} (F : Fun K "__init__" "Vocabulary.__init__" sIni f fd) :
    FnR P w K mg base (L2.CX P w) 5 f (spInit C CE) := by
  obtain ⟨oc, od, kV, doc, pm, an, cdv, ct, osl, rfl, lk, hcd⟩ := F.ex
  exact StX.fn_star (ps := ["self"]) (pv := "entries") lk hcd scIni StX.cxUp (StX.bind_star1 (B := fun vs => bindArgs (PySem.W.fnOf "__init__" "Vocabulary.__init__" (defArgs sIni) (defBody sIni) (defScope sIni) .none kV doc pm an cdv ct) ⟨vs, []⟩) (fun a => rfl) (fun a r rs => rfl)) (fun A outer s H vs Q E hr h => body_ini I D B CW Z BB B4' VV cdv A outer s H vs Q E hr h)
theorem scStr : FnScope ["self"] ["self"] (defScope sStr) := ⟨rfl, rfl, rfl, by decide +kernel, rfl, by decide +kernel, by decide +kernel⟩
theorem ok_str {f : Addr} {fd : FuncData} (F : Fun K "__str__" "Vocabulary.__str__" sStr f fd) (B : B2 mg) (VV : VC K mg C) : FnOk P w K mg base CX0 1 f fd ["self"] (spStr C) := by
  refine F.ok scStr (fun vs H Q E h => ?_) (fun cdv A outer s H vs Q E hr h => ?_)
  · obtain ⟨x, dx, dA, tN, z, rfl, _⟩ := h
    rfl
  · obtain ⟨x, dx, dA, tN, z, rfl, hx, q⟩ := h
    refine ⟨_, pss_one (ps_ret (pe_callTy SkE.call_str_str (by rfl) B.str (by decide +kernel) (pa_cons (pe_fld (pv 0) rfl) pa_nil))), ?_⟩
    exact ⟨_, rfl, x, C, dx, _, _, rfl, hx, VV.cl, VV.nT, rfl, z, rfl, q⟩
end
end SQ2
namespace SQ
open PySem PySem.Spec PyProof.Rows L2
section
variable {X : Cx} {k : Nat} {f C : Addr} {fd : FuncData} {ps : List Str} {sp : Sp}
/-- str(o), o an instance whose class has __str__ -/
theorem cr_strOwn (F : FnR X.prog X.w X.K X.mg X.base CX0 k f sp) (hr : Room (k + 2) X.A) (hs : PySem.W.findIn X.K (.ref C) "__str__" = some (some (.ref f))) (hf : PySem.W.isFn X.K (.ref f) = true) :
    CallR X (.type "str") (fun xs H Q => ∃ (x dx : Addr) (fs : List (Str × V)), xs = [.ref x] ∧ H x = some (.ins C dx fs) ∧ sp [.ref x] H (fun v H' => ∃ z, v = .str z ∧ Q v H') E0) := by
  intro pins s σ H xs us Q I r h
  obtain ⟨x, dx, fs, rfl, hx, q⟩ := h
  obtain ⟨u, rfl, r1⟩ := vals1 r
  obtain rfl : u = Value.ref x := r1
  obtain ⟨mA, O, _⟩ := ins_get I.hok hx
  obtain ⟨od, J, _⟩ := O.look
  have hr2 : Room k X.A.in1.in1 := Room.in1 (Room.in1 hr)
  refine PySem.W.kso_call hr2.units0 I.kIn J hs hf (wpAny_call (codeAny_mono (F X.A.in1.in1 X.stack s H [.ref x] [.ref x] _ _ hr2 I.env0.in1.in1 (.cons rfl .nil) q) fun r s' hq => ?_))
  cases r with
  | error e => exact (show False from hq).elim
  | ok fl =>
    cases fl with
    | next => exact False.elim hq
    | brk => exact False.elim hq
    | cont => exact False.elim hq
    | ret u =>
      obtain ⟨v, H', I', rv, z, rfl, q'⟩ := I.after hq
      obtain ⟨t, rfl⟩ := rv
      exact ⟨.str z, H', I', ⟨t, rfl⟩, q'⟩
end
end SQ
namespace SQ2
open PySem L2 SQ
abbrev sHad : Stmt := top 27
theorem takes_len {X : Cx} {W : WX} (t : Takes X W) : Takes X (fun c d σ H => σ.length = X.N.length → W c d σ H) := fun u s' ⟨a, B, sI, pins, σ, H, cls, d, e, I, nb, up, sky, na, os, ag, w⟩ =>
  t u s' ⟨a, B, sI, pins, σ, H, cls, d, e, I, nb, up, sky, na, os, ag, w I.len⟩
theorem pe_wk {X : Cx} {e : Expr} {t : TE} (h : PE X e t) : PE X e (fun σ H Q => ∃ R : VK, (∀ v H', R v H' → Q v H') ∧ t σ H R) := ⟨fun pins s σ H Q I ⟨R, hR, ht⟩ =>
  thn (h.run pins s σ H R I ht) fun u s1 ⟨v, H1, I1, r, q⟩ => ⟨v, H1, I1, r, hR v H1 q⟩⟩
/-- what _law_had makes of the lambda's reading -/
def THad (CE : Addr) : (XK → Hp → VK → Prop) → Hp → VK → Prop := fun tl H Q =>
  tl (fun cls d H' => ∃ (dd : Addr) (idx : V), cls = .ref CE ∧ d = some dd ∧ H' dd = some (.xd [("index", idx)]) ∧ ∀ p, H' p = none → Q (.ref p) (upd H' p (.lst [.str "InvalidEntries", idx, .bl true]))) H
    (fun v H' => ∀ p, H' p = none → Q (.ref p) (upd H' p (.lst [.str "given", v])))
structure HadF (K : PySem.W.Frag) (mg : Str → Option Value) (CE CI : Addr) : Prop where
  isf : IsF K
  gI : mg "InputError" = some (.ref CI)
  gV : mg "ValueError" = none
  ex : PySem.W.exmOne K (.ref CE) (.ref CE) = some true
  k1 : PySem.W.kitOne K (.ref CE) (.ref CI) = some true
  k2 : PySem.W.kitOne K (.ref CE) (.type "ValueError") = some true
abbrev nHad : List Str := ["_law_ask", "_law_given", "e"]
theorem scHad : FnScope nHad ["_law_ask"] (defScope sHad) := ⟨rfl, rfl, rfl, by decide +kernel, rfl, by decide +kernel, by decide +kernel⟩
theorem had_gives {X : Cx} {g CE CI fI : Addr} {cdg : Value} {q : Str} (B : B2 X.mg) (Z : EC X.K X.mg CE fI) (F : HadF X.K X.mg CE CI) : LamX.GivesTo X nHad "_law_had" (defScope sHad) g cdg (defBody sHad) "_law_ask" q (THad CE) := by
  intro f c' s H Q tl act hc h
  refine ⟨_, pss_cons (ps_try_as (X := (cxOf C8.CX0 X.prog X.w X.K X.mg X.base nHad "_law_had" (defScope sHad) g cdg X.A X.stack s H C8.E0).nox) (c := .ref CE) (i := 2)
      (tb := fun W D σ H => ∃ Ech : XK, (∀ cls d σ' H', Ech cls d H' → σ'.length = 3 → W cls d σ' H') ∧ σ[0]? = some (some (.ref f)) ∧ H c' = some (LamX.CodeO c' q) ∧ ∃ R : VK, (∀ v H', R v H' → D.nx (σ.set 1 (some v)) H') ∧ tl Ech H R)
      (Wout := fun _ _ _ _ => False)
      rfl rfl scHad.nd rfl rfl ⟨rfl, by decide, .inl Z.g⟩ LamX.takes0 (fun W pn xe tk _ => ?_)
      (fun a oe cls d pn hz hf => pss_one (ps_ret (pe_lst (pa_cons pe_str (pa_cons (pe_heldGet hz hf (pv 2)) (pa_cons (pe_and (pe_callB (cr_heldIs F.isf hz hf) (by rfl) B.isi (by decide +kernel) (pa_cons (pv 2) (pa_cons (pe_glob (v := .ref CI) rfl F.gI rfl) pa_nil)))
        (pe_one (pe_callB (cr_heldIs F.isf hz hf) (by rfl) B.isi (by decide +kernel) (pa_cons (pv 2) (pa_cons (pe_bltn (v := .ty "ValueError") (by rfl) F.gV (by decide +kernel) rfl) pa_nil))))) pa_nil)))))))
    (pss_one (ps_ret (pe_lst (pa_cons pe_str (pa_cons (pv 1) pa_nil))))), ?_⟩
  · refine ⟨fun pins s' σ H' D I h' => ?_⟩
    obtain ⟨Ech, hW, h1, h2, R, hR, h3⟩ := h'
    exact (pss_one (ps_set (i := 1) scHad.nd rfl (.inl rfl) (pe_wk (act _ pn xe Ech _ _ (takes_len tk) (fun cls d σ' H' e hl => hW cls d σ' H' e hl))))).run pins s' σ H' D I ⟨R, hR, h1, h2, h3⟩
  · refine ⟨_, ?_, rfl, hc, _, ?_, h⟩
    rotate_left
    · intro v H' k
      exact ⟨_, rfl, (by show 2 ≤ sizeLine; decide), fun p hp => k p hp⟩
    rintro cls d σ' H' ⟨dd, idx, rfl, rfl, hd, k⟩ hl
    refine ⟨true, F.ex, fun _ a ha => ?_, fun z => nomatch z⟩
    have h2 : (σ'.set 2 (some (V.ref a)))[2]? = some (some (V.ref a)) := by
      rw [List.getElem?_set_self (by omega)]
    refine ⟨_, h2, rfl, CE, idx, _, _, ⟨rfl, dd, rfl, hd⟩, Z.T, _, h2, _, _, true, CE, idx, "index", rfl, ⟨rfl, dd, rfl, hd⟩, Z.T.isc, fun z e => ?_, F.k1, _, rfl, iteT ?_⟩
    · exact e
    · refine ⟨_, h2, _, _, true, CE, idx, "index", rfl, ⟨rfl, dd, rfl, hd⟩, Z.T.isc, fun z e => e, F.k2, ?_, fun p hp => ?_⟩
      · show 3 ≤ sizeLine
        decide
      · exact k p hp
end SQ2
namespace SQ2
open PySem L2 SQ
/-! ### sorted texts are unique -/
theorem rising_pw : ∀ (l : List Str) (p : Str), PyProof.Rows.risingS p l = true → (p :: l).Pairwise fun a b => a.cps.toList ≤ b.cps.toList
  | [], p, _ => List.pairwise_singleton _ _
  | x :: l, p, h => by
    have h' : (!Spec.ltCps x.cps.toList p.cps.toList && PyProof.Rows.risingS x l) = true := h
    rw [Bool.and_eq_true, PyProof.Rows.ltCps_eq] at h'
    have h1 : p.cps.toList ≤ x.cps.toList := by
      have := h'.1
      simp only [Bool.not_eq_true', decide_eq_false_iff_not] at this
      exact List.not_lt.mp this
    have h2 := rising_pw l x h'.2
    refine List.pairwise_cons.mpr ⟨fun y hy => ?_, h2⟩
    rcases List.mem_cons.mp hy with rfl | hy
    · exact h1
    · exact List.le_trans h1 ((List.pairwise_cons.mp h2).1 y hy)
theorem sorted_pw {l : List Str} (h : PyProof.Rows.sortedS l = true) : l.Pairwise fun a b => a.cps.toList ≤ b.cps.toList := by
  cases l with
  | nil => exact List.Pairwise.nil
  | cons x l => exact rising_pw l x h
theorem sorted_one {l m : List Str} (hl : PyProof.Rows.sortedS l = true) (hm : PyProof.Rows.sortedS m = true) (p : l.Perm m) : l = m := by
  refine List.Perm.eq_of_pairwise (fun a b _ _ h1 h2 => ?_) (sorted_pw hl) (sorted_pw hm) p
  have e := List.le_antisymm h1 h2
  obtain ⟨ca⟩ := a
  obtain ⟨cb⟩ := b
  have e' : ca = cb := Array.toList_inj.mp e
  rw [e']
/-! ### what is kept of data -/
structure Keep (H H' : Hp) : Prop where
  tup : ∀ a xs, H a = some (.tup xs) → H' a = some (.tup xs)
  lst : ∀ a xs, H a = some (.lst xs) → ∃ ys, H' a = some (.lst ys)
  dK : ∀ a kvs, H a = some (.dK kvs) → H' a = some (.dK kvs)
theorem Keep.same {H H' : Hp} (s : Same H H') : Keep H H' := ⟨fun a _ e => s a _ e, fun a xs e => ⟨xs, s a _ e⟩, fun a _ e => s a _ e⟩
theorem Keep.ext {H H' : Hp} (s : LamX.ExtN H H') : Keep H H' := ⟨fun a _ e => s a _ e (fun _ z => nomatch z), fun a xs e => ⟨xs, s a _ e (fun _ z => nomatch z)⟩, fun a _ e => s a _ e (fun _ z => nomatch z)⟩
theorem Keep.but {u : Addr} {H H' : Hp} (b : But u H H') (hu : urnAt H u) (hu' : urnAt H' u) : Keep H H' := by
  obtain ⟨x, y, z, e0⟩ := hu
  obtain ⟨x', y', z', e1⟩ := hu'
  refine ⟨fun a xs e => b a _ e ?_, fun a xs e => ?_, fun a kvs e => b a _ e ?_⟩
  · exact ne_of e e0 (by intro z; cases z)
  · by_cases h : a = u
    · subst h
      exact ⟨_, e1⟩
    · exact ⟨xs, b a _ e h⟩
  · exact ne_of e e0 (by intro z; cases z)
theorem Keep.trans {H H1 H2 : Hp} (a : Keep H H1) (b : Keep H1 H2) : Keep H H2 := ⟨fun x xs e => b.tup _ _ (a.tup _ _ e), fun x xs e => let ⟨_, e1⟩ := a.lst _ _ e; b.lst _ _ e1, fun x k e => b.dK _ _ (a.dK _ _ e)⟩
theorem Kd.keep {H H' : Hp} {v : V} {t : String} (s : Keep H H') (k : Kd H v t) : Kd H' v t := by
  cases k with
  | non => exact .non
  | bl b => exact .bl b
  | int i => exact .int i
  | str x h => exact .str x h
  | lst e =>
    obtain ⟨ys, e1⟩ := s.lst _ _ e
    exact .lst e1
  | tup e => exact .tup (s.tup _ _ e)
  | dic e => exact .dic (s.dK _ _ e)
theorem Ent.keep {H H' : Hp} {v : V} {o : En} (s : Keep H H') (k : Ent H v o) : Ent H' v o := by
  cases k with
  | no k ht => exact .no (k.keep s) ht
  | len e h => exact .len (s.tup _ _ e) h
  | bad e kx ky kz h => exact .bad (s.tup _ _ e) (kx.keep s) (ky.keep s) (kz.keep s) h
  | good e hn h => exact .good (s.tup _ _ e) hn h
/-! ### expressions that give such data -/
def GV (te : TE) (p : V → Prop) (t : String) : Prop := ∀ σ H Q, (∀ v H', Same H H' → Kd H' v t → p v → Q v H') → te σ H Q
def GB (te : TE) : Prop := ∀ σ H Q, (∀ v H', Same H H' → Ent H' v none → Q v H') → te σ H Q
def GBs (ta : TA) (n : Nat) : Prop := ∀ σ H Q, (∀ vs H', Same H H' → vs.length = n → (∀ v ∈ vs, Ent H' v none) → Q vs H') → ta σ H Q
theorem gv_str {x : Str} (h : x.length ≤ 1000) : GV (tC (.str x)) (· = .str x) "str" := fun σ H Q q => q _ H (fun _ _ e => e) (.str x h) rfl
theorem gv_int {i : Int} : GV (tC (.int i)) (· = .int i) "int" := fun σ H Q q => q _ H (fun _ _ e => e) (.int i) rfl
theorem gv_bl {b : Bool} : GV (tC (.bl b)) (· = .bl b) "bool" := fun σ H Q q => q _ H (fun _ _ e => e) (.bl b) rfl
theorem gv_non : GV (tC .non) (· = .non) "NoneType" := fun σ H Q q => q _ H (fun _ _ e => e) .non rfl
theorem gv_neg {i : Int} : GV (tUn (rU fun i => .int (-i)) (tC (.int i))) (· = .int (-i)) "int" := fun σ H Q q => ⟨i, rfl, q _ H (fun _ _ e => e) (.int (-i)) rfl⟩
theorem gv_nil : GV (tLst tNil) (fun v => isFree v = false) "list" := fun σ H Q q => ⟨by show 0 ≤ sizeLine; decide, fun p hp => q _ _ (same_new (fun _ _ e => e) hp) (.lst upd_same) rfl⟩
theorem gv_dic : GV tDNewK (fun v => isFree v = false) "dict" := fun σ H Q q p hp => q _ _ (same_new (fun _ _ e => e) hp) (.dic upd_same) rfl
theorem gb_of {te : TE} {p : V → Prop} {t : String} (h : GV te p t) (ht : (t == "tuple") = false) : GB te := fun σ H Q q => h σ H Q fun v H' s k _ => q v H' s (.no k ht)
theorem gb_tup3 {t1 t2 t3 : TE} {p1 p2 p3 : V → Prop} {k1 k2 k3 : String} (h1 : GV t1 p1 k1) (h2 : GV t2 p2 k2) (h3 : GV t3 p3 k3) (h : ∀ x y z, p1 x → p2 y → p3 z → (isFree x && (isAr y && isAr z)) = false) : GB (tTup (tCons t1 (tCons t2 (tCons t3 tNil)))) := by
  intro σ H Q q
  refine h1 σ H _ fun x H1 s1 kx px => h2 σ H1 _ fun y H2 s2 ky py => h3 σ H2 _ fun z H3 s3 kz pz => ⟨by show 3 ≤ sizeLine; decide, fun p hp => ?_⟩
  have s4 : Same H3 (upd H3 p (.tup [x, y, z])) := same_new (fun _ _ e => e) hp
  exact q _ _ (st s1 (st s2 (st s3 s4))) (.bad upd_same ((kx.same (st s2 s3)).same s4) ((ky.same s3).same s4) (kz.same s4) (h x y z px py pz))
theorem gb_tup0 : GB (tTup tNil) := fun σ H Q q => ⟨by show 0 ≤ sizeLine; decide, fun p hp => q _ _ (same_new (fun _ _ e => e) hp) (.len upd_same (by decide))⟩
theorem gb_tup2 {a b : V} : GB (tTup (tCons (tC a) (tCons (tC b) tNil))) := fun σ H Q q => ⟨by show 2 ≤ sizeLine; decide, fun p hp => q _ _ (same_new (fun _ _ e => e) hp) (.len upd_same (by show ((2 : Int) == 3) = false; decide))⟩
theorem gb_tup4 {a b c d : V} : GB (tTup (tCons (tC a) (tCons (tC b) (tCons (tC c) (tCons (tC d) tNil))))) := fun σ H Q q => ⟨by show 4 ≤ sizeLine; decide, fun p hp => q _ _ (same_new (fun _ _ e => e) hp) (.len upd_same (by show ((4 : Int) == 3) = false; decide))⟩
theorem gb_lst3 {a b c : V} : GB (tLst (tCons (tC a) (tCons (tC b) (tCons (tC c) tNil)))) := fun σ H Q q => ⟨by show 3 ≤ sizeLine; decide, fun p hp => q _ _ (same_new (fun _ _ e => e) hp) (.no (.lst upd_same) (by decide))⟩
theorem gbs_nil : GBs tNil 0 := fun σ H Q q => q [] H (fun _ _ e => e) rfl (fun v h => nomatch h)
theorem gbs_cons {te : TE} {ta : TA} {n : Nat} (h : GB te) (hs : GBs ta n) : GBs (tCons te ta) (n + 1) := fun σ H Q q => h σ H _ fun v H1 s1 k1 => hs σ H1 _ fun vs H2 s2 l2 k2 => q _ H2 (st s1 s2) (by rw [List.length_cons, l2]) fun x hx => by
  rcases List.mem_cons.mp hx with rfl | hx
  · exact k1.same s2
  · exact k2 x hx
/-- a new list of such -/
theorem gbs_lst {ta : TA} {n : Nat} (h : GBs ta n) (hn : n ≤ 1000) {σ : St} {H : Hp} {Q : VK} (q : ∀ (p : Addr) (vs : List V) (H' : Hp), Same H H' → H p = none → H' p = some (.lst vs) → vs.length = n → (∀ v ∈ vs, Ent H' v none) → Q (.ref p) H') : tLst ta σ H Q :=
  h σ H _ fun vs H1 s1 l1 k1 => ⟨by rw [l1]; exact Nat.le_of_lt (small1000 hn), fun p hp => by
    have s2 : Same H1 (upd H1 p (.lst vs)) := same_new (fun _ _ e => e) hp
    exact q p vs _ (st s1 s2) (s1.free hp) upd_same l1 fun v hv => (k1 v hv).same s2⟩
/-- a new entry -/
theorem g3 {n : Str} {i j : Int} {σ : St} {H : Hp} {Q : VK} (q : ∀ (p : Addr) (H' : Hp), Same H H' → H' p = some (.tup [.str n, .int i, .int j]) → Q (.ref p) H') : tTup (tCons (tC (.str n)) (tCons (tC (.int i)) (tCons (tC (.int j)) tNil))) σ H Q :=
  ⟨by show 3 ≤ sizeLine; decide, fun p hp => q p _ (same_new (fun _ _ e => e) hp) upd_same⟩
end SQ2
namespace SQ2
open PySem L2 SQ
theorem some_inj {α : Type} : ∀ {a b : List α}, a.map some = b.map some → a = b
  | [], [], _ => rfl
  | [], _ :: _, h => nomatch h
  | _ :: _, [], h => nomatch h
  | x :: a, y :: b, h => by
    rw [List.map_cons, List.map_cons, List.cons.injEq] at h
    rw [Option.some.inj h.1, some_inj h.2]
section
variable {C CE : Addr} {H2 : Hp} {vs : List V} {os : List En} {E : XK}
theorem new_ins {x dx : Addr} {H : Hp} (nx : H x = none) (ndx : H dx = none) (ne : dx ≠ x) : Same H (upd (upd H dx (.own x)) x (.ins C dx [])) := same_new (same_new (fun _ _ e => e) ndx) (by rw [upd_ne (Ne.symm ne)]; exact nx)
/-- Vocabulary(..) of refused entries -/
theorem init_bad {idx : V} {R : Addr → VK} (hes : Ents H2 vs os) (hv : verdict os = some idx) (hl : vs.length ≤ 100) (kE : ∀ d H', Same H2 H' → H' d = some (.xd [("index", idx)]) → E (.ref CE) (some d) H') :
    ∀ x dx, H2 x = none → H2 dx = none → dx ≠ x → spInit C CE (V.ref x :: vs) (upd (upd H2 dx (.own x)) x (.ins C dx [])) (R x) E := by
  intro x dx nx ndx ne
  have s1 : Same H2 (upd (upd H2 dx (.own x)) x (.ins C dx [])) := new_ins nx ndx ne
  refine ⟨[.ref x], vs, rfl, rfl, Nat.le_trans hl (by decide), fun p hp => ?_⟩
  have s2 : Same (upd (upd H2 dx (.own x)) x (.ins C dx [])) (upd (upd (upd H2 dx (.own x)) x (.ins C dx [])) p (.tup vs)) := same_new (fun _ _ e => e) hp
  refine ⟨x, dx, p, vs, os, rfl, s2 _ _ upd_same, upd_same, hes.same (st s1 s2), hl, fun idx' h' d H' s' hd => ?_, fun h' => ?_⟩
  · rw [hv] at h'
    cases h'
    exact kE d H' (st s1 (st s2 s')) hd
  · rw [hv] at h'
    cases h'
/-- Vocabulary(..) of good ones -/
theorem init_good {gs : List G3} {R : Hp → Prop} {x dx : Addr} (nx : H2 x = none) (ndx : H2 dx = none) (ne : dx ≠ x) (hes : Ents H2 vs (gs.map some)) (hv : verdict (gs.map some) = none) (hl : vs.length ≤ 100)
    (kQ : ∀ (H' : Hp) (ys : List Str) (dx dA tN : Addr), ys.Perm (gnames gs) → PyProof.Rows.sortedS ys = true → Same H2 H' → H' x = some (.ins C dx (flds dA tN (vtext gs ys))) → R H') :
    spInit C CE (V.ref x :: vs) (upd (upd H2 dx (.own x)) x (.ins C dx [])) (fun v H' => v = .non ∧ R H') E := by
  have s1 : Same H2 (upd (upd H2 dx (.own x)) x (.ins C dx [])) := new_ins nx ndx ne
  refine ⟨[.ref x], vs, rfl, rfl, Nat.le_trans hl (by decide), fun p hp => ?_⟩
  have s2 : Same (upd (upd H2 dx (.own x)) x (.ins C dx [])) (upd (upd (upd H2 dx (.own x)) x (.ins C dx [])) p (.tup vs)) := same_new (fun _ _ e => e) hp
  refine ⟨x, dx, p, vs, _, rfl, s2 _ _ upd_same, upd_same, hes.same (st s1 s2), hl, fun idx' h' => ?_, fun _ gs' eg H' dA tN ys hp' hs' bt hx => ?_⟩
  · rw [hv] at h'
    cases h'
  · have eg' : gs' = gs := some_inj eg.symm
    subst eg'
    obtain ⟨dx', hx⟩ := hx
    exact ⟨rfl, kQ H' ys dx' dA tN hp' hs' (fun b o e => bt b o (s2 _ _ (s1 _ _ e)) (ne_of_none e nx)) hx⟩
end
/-! ### the answers -/
abbrev ansL (idx : V) : HO := .lst [.str "InvalidEntries", idx, .bl true]
abbrev AnsP (H : Hp) (l : Addr) (rs idxs : List V) : Prop := Paired (fun v idx => ∃ p, v = V.ref p ∧ p ≠ l ∧ H p = some (ansL idx)) rs idxs
structure AnsI (T : TL) (HA H : Hp) (l : Addr) (rs idxs : List V) : Prop where
  ext : LamX.ExtN HA H
  tabs : LamX.Tabs T H
  at_ : H l = some (.lst rs)
  new : ∀ o, HA l = some o → (∀ ps, o ≠ .tbl ps) → False
  ans : AnsP H l rs idxs
section
variable {T : TL} {HA H H1 H' : Hp} {l p : Addr} {rs idxs : List V} {idx : V}
theorem AnsI.first (e1 : LamX.ExtN HA H1) (t1 : LamX.Tabs T H1) (s' : Same H1 H') (np : H' p = none) (nl : upd H' p (ansL idx) l = none) : AnsI T HA (upd (upd H' p (ansL idx)) l (.lst [.ref p])) l [.ref p] [idx] := by
  have sp : Same H' (upd H' p (ansL idx)) := same_new (fun _ _ e => e) np
  have sl : Same (upd H' p (ansL idx)) (upd (upd H' p (ansL idx)) l (.lst [.ref p])) := same_new (fun _ _ e => e) nl
  have pl : p ≠ l := fun z => by
    rw [← z, upd_same] at nl
    cases nl
  have sA : Same H1 (upd (upd H' p (ansL idx)) l (.lst [.ref p])) := st s' (st sp sl)
  refine ⟨fun b o e t => sA _ _ (e1 b o e t), t1.ext sA, upd_same, fun o e t => ?_, .cons ⟨p, rfl, pl, sl _ _ upd_same⟩ .nil⟩
  have z := sp _ _ (s' _ _ (e1 l o e t))
  rw [nl] at z
  cases z
theorem AnsI.more (A : AnsI T HA H l rs idxs) (e1 : LamX.ExtN H H1) (t1 : LamX.Tabs T H1) (s' : Same H1 H') (np : H' p = none) :
    AnsI T HA (upd (upd H' p (ansL idx)) l (.lst (rs ++ [.ref p]))) l (rs ++ [.ref p]) (idxs ++ [idx]) ∧ upd H' p (ansL idx) l = some (.lst rs) := by
  have hl : H' l = some (.lst rs) := s' _ _ (e1 _ _ A.at_ (fun _ z => nomatch z))
  have pl : p ≠ l := (ne_of_none hl np).symm
  have sp : Same H' (upd H' p (ansL idx)) := same_new (fun _ _ e => e) np
  have hl2 : upd H' p (ansL idx) l = some (.lst rs) := sp _ _ hl
  have keep : ∀ b o, b ≠ l → H1 b = some o → upd (upd H' p (ansL idx)) l (.lst (rs ++ [.ref p])) b = some o := fun b o n e => by
    rw [upd_ne n]
    exact sp _ _ (s' _ _ e)
  refine ⟨⟨fun b o e t => keep b o (fun z => A.new o (z ▸ e) t) (e1 _ _ (A.ext b o e t) t), tabs_put (t1.ext (st s' sp)) hl2, upd_same, A.new, Paired.snoc ?_ ⟨p, rfl, pl, ?_⟩⟩, hl2⟩
  · exact Paired.mapP A.ans fun v i ⟨q, h1, h2, h3⟩ => ⟨q, h1, h2, keep q _ h2 (e1 _ _ h3 (fun _ z => nomatch z))⟩
  · rw [upd_ne pl]
    exact upd_same
def dOf : V → PyData
  | .int i => .int i
  | .bl b => .bool b
  | .str x => .str x
  | _ => .none
def dAns (idxs : List V) : List PyData := idxs.map fun v => .list [.str "InvalidEntries", dOf v, .bool true]
def smallV : V → Prop
  | .int _ => True
  | .non => True
  | _ => False
theorem dp_small {K : PySem.W.Frag} {v : V} (h : smallV v) : Dp K H v (dOf v) := by
  cases v with
  | int i => exact .int i
  | non => exact .non
  | _ => exact h.elim
theorem ans_dp {K : PySem.W.Frag} : ∀ {rs idxs : List V}, AnsP H l rs idxs → (∀ v ∈ idxs, smallV v) → DpAll K H rs (dAns idxs)
  | _, _, .nil, _ => .nil
  | _, _, .cons r t, h => by
    obtain ⟨p, rfl, _, hp⟩ := r
    exact .cons (.lst (SqL.of hp) (.cons (.str _) (.cons (dp_small (h _ List.mem_cons_self)) (.cons (.bl true) .nil)))) (ans_dp t fun v hv => h v (List.mem_cons_of_mem _ hv))
end
end SQ2
namespace SQ
open PySem PySem.Spec PyProof.Rows L2
/-- a def of the text, its code object at c -/
structure FunC (K : PySem.W.Frag) (x qual : Str) (st : Stmt) (f : Addr) (fd : FuncData) (c : Addr) : Prop where
  ex : ∃ (oc : Value) (od : Option Addr) (kV doc pm : Value) (an : Option Addr) (ct : Value) (osl : Array (Option Value)),
    fd = PySem.W.fnOf x qual (defArgs st) (defBody st) (defScope st) .none kV doc pm an (.ref c) ct ∧ K.lookup f = some ⟨oc, od, .func fd, osl⟩ ∧ PySem.W.codeIn K (.ref c) qual = true
  kp : PySem.W.keepIn K (.ref f) = true
theorem FunC.f {K : PySem.W.Frag} {x qual : Str} {st : Stmt} {f : Addr} {fd : FuncData} {c : Addr} (F : FunC K x qual st f fd c) : Fun K x qual st f fd := by
  obtain ⟨oc, od, kV, doc, pm, an, ct, osl, e, l, q⟩ := F.ex
  exact ⟨⟨oc, od, kV, doc, pm, an, .ref c, ct, osl, e, l, q⟩, F.kp⟩
section
variable {P : Program} {w : World} {K : PySem.W.Frag} {mg : Str → Option Value} {base : Heap}
/-- okG where the code object is known -/
theorem okGc {x qual : Str} {st : Stmt} {f c : Addr} {fd : FuncData} {N ps : List Str} {k : Nat} {sp : Sp}
    (F : FunC K x qual st f fd c) (S : FnScope N ps (defScope st))
    (len : ∀ vs H Q E, sp vs H Q E → vs.length = ps.length)
    (hb : ∀ (A : Around) (outer : List Env) (s : Shared) (H : Hp) (vs : List V) (Q : VK) (E : XK),
      (A.deeper (envOfC qual (defScope st) s.heap.objs.size f (.ref c))).guards = some [] →
      Room k (A.deeper (envOfC qual (defScope st) s.heap.objs.size f (.ref c))) → sp vs H Q E →
      ∃ t, PSs (cxOf CX0 P w K mg base N qual (defScope st) f (.ref c) A outer s H E).nox (defBody st) t ∧
        t { nx := fun _ H' => Q .non H', rt := Q } (start N vs) H) :
    FnG P w K mg base CX0 (k + 1) f fd ps sp := by
  obtain ⟨oc, od, kV, doc, pm, an, ct, osl, rfl, lk, hcd⟩ := F.ex
  refine ⟨len, fun A hgd outer s H args us vs Q E hroom en bnd rel hsp => ?_⟩
  have nargs := len _ _ _ _ hsp
  have old : ∀ b o, base.get? b = some o → s.heap.get? b = some o := fun b o q => (en.bs b o q).1
  have kin := en.mod.kin.keeps old
  have nol := en.mod.nolimit.keeps old
  have kinds : ∀ y ∈ ps.zip us, (defScope st).names.lookup y.1 = some .local ∨
      ((defScope st).names.lookup y.1 = some .cell ∧
        ((cellsFrom (s.heap.objs.size + 1) (defScope st).names []).lookup y.1).isSome = true) := by
    rintro ⟨n, v⟩ hy
    rcases S.par n (List.of_mem_zip hy).1 with q | q
    · exact Or.inl q
    · exact Or.inr ⟨q, PySem.W.cellsFrom_some _ _ _ (Or.inl q)⟩
  refine codeAny_call_function hroom.depth (kin _ _ lk) rfl S.co S.gen rfl
    (PySem.W.codeRec_of kin hcd) (bnd _ _ _ _ ?_)
  refine wpAny_newFunctionEnv_cells S.kind kinds ?_
  intro env he s1 ic
  subst he
  refine ⟨nol.keeps ic.toInCall.keep, codeAny_func ?_⟩
  obtain ⟨t, ht, hq⟩ := hb A outer s H vs Q E (deeper_guards hgd) (hroom.deeper _) hsp
  have inv := inv_start (CX := CX0) (E := E) S hroom.hd en nargs rel ic
  refine wpAny_mono (ht.nox.run [] s1 (start N vs) H _ inv hq) ?_ fun e s' hs => hs
  intro fl s' hs
  cases fl with
  | ret u =>
    obtain ⟨v, σ', H', J, rv, q⟩ := hs
    exact ⟨v, H', J.os, J.bare, J.base, J.hok, rv, q⟩
  | next =>
    obtain ⟨σ', H', J, q⟩ := hs
    exact ⟨V.non, H', J.os, J.bare, J.base, J.hok, rfl, q⟩
  | brk =>
    obtain ⟨_, _, _, q⟩ := hs
    exact q.elim
  | cont =>
    obtain ⟨_, _, _, q⟩ := hs
    exact q.elim
end
end SQ
namespace SQ2
open PySem L2 SQ
abbrev nR : List Str := ["_law_urn_here", "_law_some", "_law_more", "_law_low", "_law_answers", "_law_due", "_law_told", "_law_line", "_law_b", "_law_bad", "_law_c", "_law_d", "_law_odd", "_law_one_here", "_law_two", "_law_wrong", "_law_place_here"]
theorem scR : FnScope nR ["_law_urn_here"] (defScope sRight) := ⟨rfl, rfl, rfl, by decide +kernel, rfl, by decide +kernel, by decide +kernel⟩
structure HadD (K : PySem.W.Frag) (mg : Str → Option Value) (fH : Addr) (dH : FuncData) : Prop where
  g : mg "_law_had" = some (.ref fH)
  F : Fun K "_law_had" "_law_had" sHad fH dH
  b : Binds K dH ["_law_ask"] []
theorem pe_had {X : Cx} {T : TL} {fH CE CI fI c Pt : Addr} {dH : FuncData} {k : Nat} {params : Arguments} {body : Expr} {scope : Scope} {t : XK → TE} {p lpos pos : Pos} (HD : HadD X.K X.mg fH dH) (B : B2 X.mg) (Z : EC X.K X.mg CE fI) (HF : HadF X.K X.mg CE CI) (TB : LamX.TabB X.base X.mg c Pt) (hcode : X.env.code = .ref c)
    (hmT : (Pt, X.env.qual ++ "<lambda>") ∈ T) (huT : ∀ p ∈ T, p.1 = Pt → p.2 = X.env.qual ++ "<lambda>") (hr : Room (k + 2) X.A) (L : LamX.LamS X.env.scope scope) (hdef : defaultsOf params X.env = ([], []))
    (hbind : ∀ (q : Str) (cl : List (Str × Addr)) (pm cv ctv : Value), bindArgs (PySem.W.kla_fn "<lambda>" q params body scope cl pm cv ctv) ⟨[], []⟩ = pure [])
    (hbody : ∀ (A : Around) (outer : List Env) (s : Shared) (H : Hp) (E : XK) (f c' : Addr), Room k (A.deeper (LamX.lamEnv X scope s.heap.objs.size f c')) → PE (LamX.lamCx X A outer s H E scope f c') body (t E)) (hg : Gl X "_law_had" := by rfl) :
    PE X (.Call (.Name "_law_had" p) [.Lambda params body scope lpos] [] pos) (LamX.tLam T (THad CE) t) := by
  obtain ⟨oc, od, kV, doc, pm, an, cdv, ct, osl, rfl, lk, hcd⟩ := HD.F.ex
  exact LamX.pe_lamcall (Ng := nHad) (a := "_law_ask") hg HD.g HD.F.kp lk hcd HD.b scHad rfl (.inl rfl) (had_gives B Z HF) TB hcode hmT huT hr L hdef hbind hbody
structure StrO (K : PySem.W.Frag) (C fS : Addr) : Prop where
  f : PySem.W.findIn K (.ref C) "__str__" = some (some (.ref fS))
  fn : PySem.W.isFn K (.ref fS) = true
theorem rd_set {te : TE} {i : Nat} {rest : TS} {D : Ends} {σ : St} {H : Hp} (h : te σ H fun v H1 => rest D (σ.set i (some v)) H1) : tSeq (tAsg te (gName i)) rest D σ H := h
theorem rd_tgt {te : TE} {g : TG} {rest : TS} {D : Ends} {σ : St} {H : Hp} (h : te σ H fun v H1 => g v σ H1 (rest D)) : tSeq (tAsg te g) rest D σ H := h
theorem rd_if {c : TT} {t u : TS} {rest : TS} {D : Ends} {σ : St} {H : Hp} (h : c σ H fun b H1 => if b = true then t { D with nx := rest D } σ H1 else u { D with nx := rest D } σ H1) : tSeq (tIfS c t u) rest D σ H := h
theorem rd_call2 {sp : Sp} {E : XK} {t1 t2 : TE} {σ : St} {H : Hp} {Q : VK} (h : t1 σ H fun x H1 => t2 σ H1 fun y H2 => sp [x, y] H2 Q E) : tCall sp [] E (tCons t1 (tCons t2 tNil)) σ H Q := h
theorem tabs_but {T : TL} {u : Addr} {H H' : Hp} (t : LamX.Tabs T H) (hu : urnAt H u) (b : But u H H') : LamX.Tabs T H' := by
  obtain ⟨x, y, z, e0⟩ := hu
  intro p hp
  obtain ⟨ps, h1, h2, h3⟩ := t p hp
  refine ⟨ps, b _ _ h1 (ne_of h1 e0 (by intro z; cases z)), h2, fun pos cv hc => ?_⟩
  obtain ⟨c, e1, e2⟩ := h3 pos cv hc
  exact ⟨c, e1, b _ _ e2 (ne_of e2 e0 (by intro z; unfold LamX.CodeO at z; cases z))⟩
theorem urn_same {u : Addr} {H H' : Hp} (s : Same H H') (h : urnAt H u) : urnAt H' u := by
  obtain ⟨x, y, z, e⟩ := h
  exact ⟨x, y, z, s _ _ e⟩
theorem urn_ne {u p : Addr} {H : Hp} (h : urnAt H u) (n : H p = none) : u ≠ p := by
  obtain ⟨x, y, z, e⟩ := h
  exact ne_of_none e n
theorem rd_ex {te : TE} {rest : TS} {D : Ends} {σ : St} {H : Hp} (h : te σ H fun _ H1 => rest D σ H1) : tSeq (tDrop te) rest D σ H := h
abbrev lamN : Str := ("_law_right" : Str) ++ ".<locals>." ++ "<lambda>"
end SQ2
namespace SQ2
open PySem L2 SQ
abbrev line2 : Str := "a 3 0, abcdefgh 0 3, b 0 0, c 1 2, callx 0 1, d 3 3, dipp 1 1, e 2 2"
abbrev idx7 : List V := [.int 0, .int 0, .int 1, .int 2, .int 2, .non, .non]
abbrev c3 (n : Str) (i j : Int) : TE := tTup (tCons (tC (.str n)) (tCons (tC (.int i)) (tCons (tC (.int j)) tNil)))
abbrev tDue (K : PySem.W.Frag) : TE := tLc (iList K (tLst (tCons (tC (.int 0)) (tCons (tC (.int 0)) (tCons (tC (.int 1)) (tCons (tC (.int 2)) (tCons (tC (.int 2)) (tCons (tC .non) (tCons (tC .non) tNil))))))))) (gName 16) tYes (tLst (tCons (tC (.str "InvalidEntries")) (tCons (tVar 16) (tCons (tC (.bl true)) tNil)))) [16]
abbrev tTold (C CE Pt : Addr) : TE := LamX.tLam [(Pt, lamN)] (THad CE) fun E => tCB (fun xs H Q => ∃ (x dx : Addr) (fs : List (Str × V)), xs = [V.ref x] ∧ H x = some (HO.ins C dx fs) ∧ spStr C [V.ref x] H (fun v H' => ∃ z, v = V.str z ∧ Q v H') E0)
  (tCons (StX.tMakeR C (spInit C CE) E (tCons (tVar 14) (tCons (tVar 11) (tCons (tVar 13) (tCons (tVar 10) (tCons (tVar 8) (tCons (c3 "e" 2 2) (tCons (c3 "dipp" 1 1) (tCons (c3 "callx" 0 1) tNil))))))))) tNil)
abbrev tTail1 (K : PySem.W.Frag) (C CE Pt : Addr) : TS := tSeq (tAsg (tTup (tCons (c3 "b" 0 0) (tCons (c3 "c" 1 2) (tCons (c3 "d" 3 3) tNil)))) (gTup K 3 (gCons (gName 8) (gCons (gName 10) (gCons (gName 11) gNil)))))
  (tSeq (tAsg (tTold C CE Pt) (gName 6)) (tSeq (tAsg (tC (.str line2)) (gName 7)) (tRet (tOp (rEqD K) (tVar 6) (tLst (tCons (tC (.str "given")) (tCons (tVar 7) tNil)))))))
abbrev tTail (K : PySem.W.Frag) (C CE Pt : Addr) : TS := tSeq (tAsg (tDue K) (gName 5)) (tSeq (tIfS (tTest (tOp rNe (tCB (rReprL K) (tCons (tVar 4) tNil)) (tCB (rReprL K) (tCons (tVar 5) tNil)))) (tRet (tC (.bl false))) tNext) (tTail1 K C CE Pt))
def gs8 : List G3 := [("abcdefgh", 0, 3), ("d", 3, 3), ("a", 3, 0), ("c", 1, 2), ("b", 0, 0), ("e", 2, 2), ("dipp", 1, 1), ("callx", 0, 1)]
def ys8 : List Str := ["a", "abcdefgh", "b", "c", "callx", "d", "dipp", "e"]
theorem ys8_perm : ys8.Perm (gnames gs8) := by
  have h : (ys8.isPerm (gnames gs8)) = true := by decide +kernel
  exact List.isPerm_iff.mp h
theorem ys8_sorted : PyProof.Rows.sortedS ys8 = true := by decide +kernel
theorem text8 : vtext gs8 ys8 = line2 := by decide +kernel
theorem verdict8 : verdict (gs8.map some) = none := by rfl
theorem idx7_small : ∀ v ∈ idx7, smallV v := by
  intro v hv
  simp only [List.mem_cons, List.not_mem_nil, or_false] at hv
  rcases hv with rfl | rfl | rfl | rfl | rfl | rfl | rfl <;> trivial
theorem show7 : (PyData.list (dAns idx7)).showable = true ∧ (PyData.list (dAns idx7)).depth ≤ 60 ∧ (PyData.list (dAns idx7)).shown.length ≤ sizeLine := by
  refine ⟨by decide +kernel, by decide +kernel, ?_⟩
  exact Nat.le_trans (show _ ≤ 1000 by decide +kernel) (by decide)
theorem eq7 : PyData.eqv (.list [.str "given", .str line2]) (.list [.str "given", .str line2]) = true := by decide +kernel
section
variable {K : PySem.W.Frag} {C CE Pt u p1 p2 on tw l : Addr} {low bad odd wrong : V} {D : Ends} {HA H : Hp} {rs : List V}
theorem tail1 {du : Addr} (t0 : LamX.Tabs [(Pt, lamN)] H) (hon : H on = some (.tup [.str "a", .int 3, .int 0])) (htw : H tw = some (.tup [.str "abcdefgh", .int 0, .int 3]))
    (q : ∀ H', LamX.ExtN H H' → LamX.Tabs [(Pt, lamN)] H' → D.rt (.bl true) H') :
    tTail1 K C CE Pt D [some (.ref u), some (.ref p1), some (.ref p2), some low, some (.ref l), some (.ref du), none, none, none, some bad, none, none, some odd, some (.ref on), some (.ref tw), some wrong, none] H := by
  refine rd_tgt ?_
  refine ⟨(by show 3 ≤ sizeLine; decide), fun b nb => ⟨(by show 3 ≤ sizeLine; decide), fun c nc => ⟨(by show 3 ≤ sizeLine; decide), fun d nd => ⟨(by show 3 ≤ sizeLine; decide), fun t nt => ⟨t, _, rfl, SqT.of upd_same, rfl, _, _, rfl, _, _, rfl, _, _, rfl, rfl, ?_⟩⟩⟩⟩⟩
  have s1 : Same H (upd H b (.tup [.str "b", .int 0, .int 0])) := same_new (fun _ _ e => e) nb
  have h1 : upd H b (.tup [.str "b", .int 0, .int 0]) b = some (.tup [.str "b", .int 0, .int 0]) := upd_same
  generalize upd H b (.tup [.str "b", .int 0, .int 0]) = H1 at s1 h1 nc nd nt ⊢
  have s2 : Same H1 (upd H1 c (.tup [.str "c", .int 1, .int 2])) := same_new (fun _ _ e => e) nc
  have h2 : upd H1 c (.tup [.str "c", .int 1, .int 2]) c = some (.tup [.str "c", .int 1, .int 2]) := upd_same
  generalize upd H1 c (.tup [.str "c", .int 1, .int 2]) = H2 at s2 h2 nd nt ⊢
  have s3 : Same H2 (upd H2 d (.tup [.str "d", .int 3, .int 3])) := same_new (fun _ _ e => e) nd
  have h3 : upd H2 d (.tup [.str "d", .int 3, .int 3]) d = some (.tup [.str "d", .int 3, .int 3]) := upd_same
  generalize upd H2 d (.tup [.str "d", .int 3, .int 3]) = H3 at s3 h3 nt ⊢
  have s4 : Same H3 (upd H3 t (.tup [.ref b, .ref c, .ref d])) := same_new (fun _ _ e => e) nt
  generalize upd H3 t (.tup [.ref b, .ref c, .ref d]) = H4 at s4 ⊢
  have s04 : Same H H4 := st s1 (st s2 (st s3 s4))
  refine rd_set ?_
  refine ⟨t0.ext s04, fun G x1 t1 => ⟨_, rfl, _, rfl, _, rfl, _, rfl, _, rfl, (by show 3 ≤ sizeLine; decide), fun e6 n6 => ⟨(by show 3 ≤ sizeLine; decide), fun e7 n7 => ⟨(by show 3 ≤ sizeLine; decide), fun e8 n8 => ?_⟩⟩⟩⟩
  have hb : G b = some (.tup [.str "b", .int 0, .int 0]) := x1 _ _ (s4 _ _ (s3 _ _ (s2 _ _ h1))) (fun _ z => nomatch z)
  have hc : G c = some (.tup [.str "c", .int 1, .int 2]) := x1 _ _ (s4 _ _ (s3 _ _ h2)) (fun _ z => nomatch z)
  have hd : G d = some (.tup [.str "d", .int 3, .int 3]) := x1 _ _ (s4 _ _ h3) (fun _ z => nomatch z)
  have ho : G on = some (.tup [.str "a", .int 3, .int 0]) := x1 _ _ (s04 _ _ hon) (fun _ z => nomatch z)
  have hw : G tw = some (.tup [.str "abcdefgh", .int 0, .int 3]) := x1 _ _ (s04 _ _ htw) (fun _ z => nomatch z)
  have s6 : Same G (upd G e6 (.tup [.str "e", .int 2, .int 2])) := same_new (fun _ _ e => e) n6
  have h6 : upd G e6 (.tup [.str "e", .int 2, .int 2]) e6 = some (.tup [.str "e", .int 2, .int 2]) := upd_same
  generalize upd G e6 (.tup [.str "e", .int 2, .int 2]) = G6 at s6 h6 n7 n8 ⊢
  have s7 : Same G6 (upd G6 e7 (.tup [.str "dipp", .int 1, .int 1])) := same_new (fun _ _ e => e) n7
  have h7 : upd G6 e7 (.tup [.str "dipp", .int 1, .int 1]) e7 = some (.tup [.str "dipp", .int 1, .int 1]) := upd_same
  generalize upd G6 e7 (.tup [.str "dipp", .int 1, .int 1]) = G7 at s7 h7 n8 ⊢
  have s8 : Same G7 (upd G7 e8 (.tup [.str "callx", .int 0, .int 1])) := same_new (fun _ _ e => e) n8
  have h8 : upd G7 e8 (.tup [.str "callx", .int 0, .int 1]) e8 = some (.tup [.str "callx", .int 0, .int 1]) := upd_same
  generalize upd G7 e8 (.tup [.str "callx", .int 0, .int 1]) = G8 at s8 h8 ⊢
  have sG : Same G G8 := st s6 (st s7 s8)
  have hes : Ents G8 [.ref tw, .ref d, .ref on, .ref c, .ref b, .ref e6, .ref e7, .ref e8] (gs8.map some) :=
    .cons (.good (sG _ _ hw) (by decide +kernel) (by decide +kernel)) (.cons (.good (sG _ _ hd) (by decide +kernel) (by decide +kernel)) (.cons (.good (sG _ _ ho) (by decide +kernel) (by decide +kernel)) (.cons (.good (sG _ _ hc) (by decide +kernel) (by decide +kernel))
      (.cons (.good (sG _ _ hb) (by decide +kernel) (by decide +kernel)) (.cons (.good (s8 _ _ (s7 _ _ h6)) (by decide +kernel) (by decide +kernel)) (.cons (.good (s8 _ _ h7) (by decide +kernel) (by decide +kernel)) (.cons (.good h8 (by decide +kernel) (by decide +kernel)) .nil)))))))
  intro x dx0 nx0 nd0 ne0
  refine init_good (gs := gs8) nx0 nd0 ne0 hes verdict8 (by show 8 ≤ 100; decide) fun H' ys dx dA tN hp hs s' hx => ?_
  have ey : ys = ys8 := sorted_one hs ys8_sorted (hp.trans ys8_perm.symm)
  subst ey
  rw [text8] at hx
  refine ⟨x, dx, _, rfl, hx, x, dx, dA, tN, _, rfl, hx, _, rfl, fun p np => ?_⟩
  have s9 : Same H' (upd H' p (.lst [.str "given", .str line2])) := same_new (fun _ _ e => e) np
  have h9 : upd H' p (.lst [.str "given", .str line2]) p = some (.lst [.str "given", .str line2]) := upd_same
  generalize upd H' p (.lst [.str "given", .str line2]) = H9 at s9 h9 ⊢
  refine rd_set ?_
  refine ⟨_, rfl, _, rfl, (by show 2 ≤ sizeLine; decide), fun r nr => ?_⟩
  have s10 : Same H9 (upd H9 r (.lst [.str "given", .str line2])) := same_new (fun _ _ e => e) nr
  refine ⟨.list [.str "given", .str line2], .list [.str "given", .str line2], .lst (SqL.of (s10 _ _ h9)) (.cons (.str _) (.cons (.str _) .nil)), .lst (SqL.of upd_same) (.cons (.str _) (.cons (.str _) .nil)), (by decide +kernel), (by decide +kernel), ?_⟩
  rw [eq7]
  have sE : Same G (upd H9 r (.lst [.str "given", .str line2])) := st sG (st s' (st s9 s10))
  exact q _ (fun b o e n => sE _ _ (x1 _ _ (s04 _ _ e) n)) (t1.ext sE)
theorem tail2 (A : AnsI [(Pt, lamN)] HA H l rs idx7) (hon : HA on = some (.tup [.str "a", .int 3, .int 0])) (htw : HA tw = some (.tup [.str "abcdefgh", .int 0, .int 3]))
    (q : ∀ H', LamX.ExtN H H' → LamX.Tabs [(Pt, lamN)] H' → D.rt (.bl true) H') :
    tTail K C CE Pt D [some (.ref u), some (.ref p1), some (.ref p2), some low, some (.ref l), none, none, none, none, some bad, none, none, some odd, some (.ref on), some (.ref tw), some wrong, none] H := by
  refine rd_set ?_
  refine ⟨(by show 7 ≤ sizeLine; decide), fun k nk => ⟨k, rfl, ⟨_, SqL.of upd_same⟩, fun Dd hD => ?_⟩⟩
  have s1 : Same H (upd H k (.lst idx7)) := same_new (fun _ _ e => e) nk
  have h1 : upd H k (.lst idx7) k = some (.lst idx7) := upd_same
  generalize upd H k (.lst idx7) = H1 at s1 h1 hD ⊢
  refine lc_list (K := K) (a := k) (xs := idx7) (fun i H2 => ∃ ds, H2 Dd = some (.lst ds) ∧ AnsP H2 Dd ds (idx7.take i) ∧ Same H1 H2) ⟨[], upd_same, .nil, same_new (fun _ _ e => e) hD⟩ (fun i H2 _ ⟨_, _, _, s2⟩ => SqL.of (s2 _ _ h1)) ?_ ?_
  · rintro i x H2 hi ⟨ds, hD2, an, s2⟩
    refine ⟨rfl, keptT ⟨_, rfl, (by show 3 ≤ sizeLine; decide), fun p np => ?_⟩⟩
    have hpD : p ≠ Dd := (ne_of_none hD2 np).symm
    have hl := Paired.length an
    refine ⟨ds, by rw [upd_ne (Ne.symm hpD)]; exact hD2, small1000 (by rw [hl, List.length_take]; show min i 7 ≤ 1000; omega), ds ++ [.ref p], upd_same, ?_, ?_⟩
    · rw [take_more hi]
      refine Paired.snoc (Paired.mapP an fun v j ⟨z, e1, e2, e3⟩ => ⟨z, e1, e2, ?_⟩) ⟨p, rfl, hpD, ?_⟩
      · rw [upd_ne e2, upd_ne (ne_of_none e3 np)]
        exact e3
      · rw [upd_ne hpD]
        exact upd_same
    · intro b o e
      have e2 := s2 _ _ e
      rw [upd_ne (ne_of_none e hD), upd_ne (ne_of_none e2 np)]
      exact e2
  · rintro H2 ⟨ds, hD2, an, s2⟩
    have s02 : Same H H2 := st s1 s2
    refine rd_if ?_
    have an' : AnsP H2 Dd ds idx7 := an
    have aA : AnsP H2 l rs idx7 := Paired.mapP A.ans fun v j ⟨z, e1, e2, e3⟩ => ⟨z, e1, e2, s02 _ _ e3⟩
    refine ⟨_, rfl, l, rs, dAns idx7, rfl, SqL.of (s02 _ _ A.at_), .inl (ans_dp aA idx7_small), show7.1, show7.2.1, show7.2.2, _, rfl, Dd, ds, dAns idx7, rfl, SqL.of hD2, .inl (ans_dp an' idx7_small), show7.1, show7.2.1, show7.2.2, rfl, _, rfl, iteNS rfl ?_⟩
    refine tail1 (D := D) (A.tabs.ext s02) (s02 _ _ (A.ext _ _ hon (fun _ z => nomatch z))) (s02 _ _ (A.ext _ _ htw (fun _ z => nomatch z))) fun H' e t => q H' (fun b o eb n => e _ _ (s02 _ _ eb) n) t
end
end SQ2
namespace SQ2
open PySem L2 SQ
section
variable {P : Program} {w : World} {K : PySem.W.Frag} {mg : Str → Option Value} {base : Heap}

theorem ok_right {fR fL fO fH CE CI fI C fIn fS c Pt : Addr} {fdR fdL fdO dH : FuncData} (F : FunC K "_law_right" "_law_right" sRight fR fdR c) (BL : Blt mg) (B : B2 mg) (DW : Drw K mg fL fO fdL fdO) (HD : HadD K mg fH dH) (Z : EC K mg CE fI) (HF : HadF K mg CE CI) (VV : VC K mg C) (MK : Mk K C fIn)
    (GI : FnR P w K mg base (L2.CX P w) 5 fIn (spInit C CE)) (GS : FnR P w K mg base CX0 1 fS (spStr C)) (SO : StrO K C fS) (RP : mg "repr" = none) (TB : LamX.TabB base mg c Pt) : FnG P w K mg base CX0 9 fR fdR ["_law_urn_here"] (spRightT [(Pt, lamN)]) := by
  have GO : FnOk P w K mg base CX0 2 fO fdO ["_law_urn_here", "_law_things"] (spOne K) := ok_one DW BL
  have hmT : (Pt, lamN) ∈ [(Pt, lamN)] := List.mem_singleton.mpr rfl
  have huT : ∀ p ∈ [(Pt, lamN)], p.1 = Pt → p.2 = lamN := fun p hp _ => by
    rw [List.mem_singleton.mp hp]
  refine okGc F scR (fun vs H Q E h => ?_) (fun A outer s H vs Q E hgd hr h => ?_)
  · obtain ⟨u, rfl, _⟩ := h
    rfl
  · obtain ⟨u, rfl, hu, hT, q⟩ := h
    refine ⟨_, (pss_cons (ps_set (i := 1) scR.nd rfl (.inl rfl) (pe_lst (pa_cons pe_non (pa_cons pe_bl (pa_cons pe_str (pa_cons (pe_lst (pa_cons pe_str (pa_cons pe_int (pa_cons pe_int pa_nil)))) (pa_cons (pe_tup (pa_cons pe_str (pa_cons pe_int pa_nil))) (pa_cons (pe_tup (pa_cons pe_str (pa_cons pe_int (pa_cons pe_int (pa_cons pe_int pa_nil))))) (pa_cons (pe_tup pa_nil) (pa_cons (pe_tup (pa_cons pe_str (pa_cons pe_int (pa_cons pe_int pa_nil)))) (pa_cons (pe_tup (pa_cons pe_str (pa_cons pe_int (pa_cons pe_int pa_nil)))) (pa_cons (pe_tup (pa_cons (pe_lst pa_nil) (pa_cons pe_int (pa_cons pe_int pa_nil)))) pa_nil))))))))))))
      (pss_cons (ps_set (i := 2) scR.nd rfl (.inl rfl) (pe_lst (pa_cons (pe_tup (pa_cons pe_str (pa_cons pe_int (pa_cons pe_int pa_nil)))) (pa_cons (pe_tup (pa_cons pe_str (pa_cons pe_int (pa_cons pe_int pa_nil)))) (pa_cons (pe_tup (pa_cons pe_str (pa_cons pe_int (pa_cons pe_int pa_nil)))) (pa_cons (pe_tup (pa_cons pe_str (pa_cons pe_int (pa_cons pe_int pa_nil)))) (pa_cons (pe_tup (pa_cons pe_str (pa_cons pe_int (pa_cons pe_int pa_nil)))) (pa_cons (pe_tup (pa_cons pe_str (pa_cons (pe_un un_neg pe_int) (pa_cons pe_int pa_nil)))) (pa_cons pe_dnewK (pa_cons (pe_tup (pa_cons pe_dnewK (pa_cons pe_int (pa_cons pe_int pa_nil)))) pa_nil))))))))))
      (pss_cons (ps_asg (pe_tup (pa_cons (pe_call GO (hr.mono (by decide)) rfl DW.gO DW.FO.kp DW.bO .nil pass0 (pa_cons (pv 0) (pa_cons (pv 1) pa_nil))) (pa_cons (pe_call GO (hr.mono (by decide)) rfl DW.gO DW.FO.kp DW.bO .nil pass0 (pa_cons (pv 0) (pa_cons (pv 2) pa_nil))) pa_nil))) (pg_tup rfl (pgs_cons (pg_name (i := 9) scR.nd rfl (.inr rfl)) (pgs_cons (pg_name (i := 12) scR.nd rfl (.inr rfl)) pgs_nil))))
      (pss_cons (ps_set (i := 3) scR.nd rfl (.inl rfl) (pe_call GO (hr.mono (by decide)) rfl DW.gO DW.FO.kp DW.bO .nil pass0 (pa_cons (pv 0) (pa_cons (pe_lst (pa_cons (pe_tup (pa_cons pe_str (pa_cons pe_bl (pa_cons pe_int pa_nil)))) (pa_cons (pe_tup (pa_cons pe_str (pa_cons pe_int (pa_cons pe_non pa_nil)))) (pa_cons (pe_tup (pa_cons pe_int (pa_cons pe_int (pa_cons pe_int pa_nil)))) (pa_cons (pe_tup (pa_cons pe_str (pa_cons pe_int (pa_cons pe_int pa_nil)))) (pa_cons (pe_tup (pa_cons pe_str (pa_cons pe_int (pa_cons pe_int pa_nil)))) (pa_cons (pe_tup (pa_cons pe_str (pa_cons pe_str (pa_cons pe_int pa_nil)))) pa_nil))))))) pa_nil))))
      (pss_cons (ps_set (i := 15) scR.nd rfl (.inr rfl) (pe_call GO (hr.mono (by decide)) rfl DW.gO DW.FO.kp DW.bO .nil pass0 (pa_cons (pv 0) (pa_cons (pe_lst (pa_cons (pv 9) (pa_cons (pv 12) (pa_cons (pv 3) pa_nil)))) pa_nil))))
      (pss_cons (ps_asg (pe_tup (pa_cons (pe_tup (pa_cons pe_str (pa_cons pe_int (pa_cons pe_int pa_nil)))) (pa_cons (pe_tup (pa_cons pe_str (pa_cons pe_int (pa_cons pe_int pa_nil)))) pa_nil))) (pg_tup rfl (pgs_cons (pg_name (i := 13) scR.nd rfl (.inr rfl)) (pgs_cons (pg_name (i := 14) scR.nd rfl (.inr rfl)) pgs_nil))))
      (pss_cons (ps_set (i := 4) scR.nd rfl (.inl rfl) (pe_lst (pa_cons (pe_had HD B Z HF TB rfl hmT huT hr (LamX.lamS_by (sc := defScope sRight) (by decide +kernel)) rfl (fun _ _ _ _ _ => rfl) (fun A outer s H E f c' hr => (StX.pe_makeR MK GI hr rfl VV.g (passes_call (takes_of rfl rfl rfl rfl) (fun _ _ _ _ h => h)) (pa_cons (pv 15) pa_nil)))) pa_nil)))
      (pss_cons (ps_expr (pe_bm PySem.F.plainAttrs_list PySem.F.slot_list_append PySem.F.type_list_append mt_append (pv 4) (pa_cons (pe_had HD B Z HF TB rfl hmT huT hr (LamX.lamS_by (sc := defScope sRight) (by decide +kernel)) rfl (fun _ _ _ _ _ => rfl) (fun A outer s H E f c' hr => (StX.pe_makeR MK GI hr rfl VV.g (passes_call (takes_of rfl rfl rfl rfl) (fun _ _ _ _ h => h)) (pa_cons (pv 15) (pa_cons (pv 9) (pa_cons (pv 13) pa_nil)))))) pa_nil)))
      (pss_cons (ps_expr (pe_bm PySem.F.plainAttrs_list PySem.F.slot_list_append PySem.F.type_list_append mt_append (pv 4) (pa_cons (pe_had HD B Z HF TB rfl hmT huT hr (LamX.lamS_by (sc := defScope sRight) (by decide +kernel)) rfl (fun _ _ _ _ _ => rfl) (fun A outer s H E f c' hr => (StX.pe_makeR MK GI hr rfl VV.g (passes_call (takes_of rfl rfl rfl rfl) (fun _ _ _ _ h => h)) (pa_cons (pv 13) (pa_cons (pv 15) (pa_cons (pv 12) pa_nil)))))) pa_nil)))
      (pss_cons (ps_expr (pe_bm PySem.F.plainAttrs_list PySem.F.slot_list_append PySem.F.type_list_append mt_append (pv 4) (pa_cons (pe_had HD B Z HF TB rfl hmT huT hr (LamX.lamS_by (sc := defScope sRight) (by decide +kernel)) rfl (fun _ _ _ _ _ => rfl) (fun A outer s H E f c' hr => (StX.pe_makeR MK GI hr rfl VV.g (passes_call (takes_of rfl rfl rfl rfl) (fun _ _ _ _ h => h)) (pa_cons (pv 13) (pa_cons (pv 14) (pa_cons (pe_tup (pa_cons pe_str (pa_cons pe_int (pa_cons pe_int pa_nil)))) (pa_cons (pv 15) pa_nil))))))) pa_nil)))
      (pss_cons (ps_expr (pe_bm PySem.F.plainAttrs_list PySem.F.slot_list_append PySem.F.type_list_append mt_append (pv 4) (pa_cons (pe_had HD B Z HF TB rfl hmT huT hr (LamX.lamS_by (sc := defScope sRight) (by decide +kernel)) rfl (fun _ _ _ _ _ => rfl) (fun A outer s H E f c' hr => (StX.pe_makeR MK GI hr rfl VV.g (passes_call (takes_of rfl rfl rfl rfl) (fun _ _ _ _ h => h)) (pa_cons (pv 13) (pa_cons (pv 14) (pa_cons (pv 15) (pa_cons (pe_tup (pa_cons pe_str (pa_cons pe_int (pa_cons pe_int pa_nil)))) pa_nil))))))) pa_nil)))
      (pss_cons (ps_expr (pe_bm PySem.F.plainAttrs_list PySem.F.slot_list_append PySem.F.type_list_append mt_append (pv 4) (pa_cons (pe_had HD B Z HF TB rfl hmT huT hr (LamX.lamS_by (sc := defScope sRight) (by decide +kernel)) rfl (fun _ _ _ _ _ => rfl) (fun A outer s H E f c' hr => (StX.pe_makeR MK GI hr rfl VV.g (passes_call (takes_of rfl rfl rfl rfl) (fun _ _ _ _ h => h)) (pa_cons (pv 13) (pa_cons (pv 13) (pa_cons (pv 13) (pa_cons (pv 13) (pa_cons (pv 13) (pa_cons (pv 13) (pa_cons (pv 13) (pa_cons (pv 13) (pa_cons (pv 15) pa_nil)))))))))))) pa_nil)))
      (pss_cons (ps_expr (pe_bm PySem.F.plainAttrs_list PySem.F.slot_list_append PySem.F.type_list_append mt_append (pv 4) (pa_cons (pe_had HD B Z HF TB rfl hmT huT hr (LamX.lamS_by (sc := defScope sRight) (by decide +kernel)) rfl (fun _ _ _ _ _ => rfl) (fun A outer s H E f c' hr => (StX.pe_makeR MK GI hr rfl VV.g (passes_call (takes_of rfl rfl rfl rfl) (fun _ _ _ _ h => h)) (pa_cons (pv 13) (pa_cons (pv 13) (pa_cons (pv 13) (pa_cons (pv 13) (pa_cons (pv 13) (pa_cons (pv 13) (pa_cons (pv 13) (pa_cons (pv 13) (pa_cons (pv 13) pa_nil)))))))))))) pa_nil)))
      (pss_cons (ps_setLc (i := 5) (own := [("_law_place_here", 16)]) (g := gName 16) (tt := tYes) rfl scR.nd rfl rfl (sw_true rfl rfl rfl rfl) (pi_list (pe_lst (pa_cons pe_int (pa_cons pe_int (pa_cons pe_int (pa_cons pe_int (pa_cons pe_int (pa_cons pe_non (pa_cons pe_non pa_nil))))))))) (blkOk_by (N := nR) (sc := defScope sRight) (by decide +kernel)) (fun _ _ _ _ _ => pg_name (i := 16) scR.nd rfl (.inl rfl)) (fun _ _ _ _ _ => pts_nil) (fun _ _ _ _ _ => (pe_lst (pa_cons pe_str (pa_cons (pv 16) (pa_cons pe_bl pa_nil))))))
      (pss_cons (ps_if (pt_cmpR op_ne (pe_callB (cr_reprL hgd hr.units) (by rfl) RP (by decide +kernel) (pa_cons (pv 4) pa_nil)) (pe_callB (cr_reprL hgd hr.units) (by rfl) RP (by decide +kernel) (pa_cons (pv 5) pa_nil)) (nomark _)) (pss_one (ps_ret pe_bl)) pss_nil)
      (pss_cons (ps_asg (pe_tup (pa_cons (pe_tup (pa_cons pe_str (pa_cons pe_int (pa_cons pe_int pa_nil)))) (pa_cons (pe_tup (pa_cons pe_str (pa_cons pe_int (pa_cons pe_int pa_nil)))) (pa_cons (pe_tup (pa_cons pe_str (pa_cons pe_int (pa_cons pe_int pa_nil)))) pa_nil)))) (pg_tup rfl (pgs_cons (pg_name (i := 8) scR.nd rfl (.inr rfl)) (pgs_cons (pg_name (i := 10) scR.nd rfl (.inr rfl)) (pgs_cons (pg_name (i := 11) scR.nd rfl (.inr rfl)) pgs_nil)))))
      (pss_cons (ps_set (i := 6) scR.nd rfl (.inl rfl) (pe_had HD B Z HF TB rfl hmT huT hr (LamX.lamS_by (sc := defScope sRight) (by decide +kernel)) rfl (fun _ _ _ _ _ => rfl) (fun A outer s H E f c' hr => (pe_callTy (cr_strOwn GS (hr.mono (by decide)) SO.f SO.fn) (by rfl) B.str (by decide +kernel) (pa_cons (StX.pe_makeR MK GI hr rfl VV.g (passes_call (takes_of rfl rfl rfl rfl) (fun _ _ _ _ h => h)) (pa_cons (pv 14) (pa_cons (pv 11) (pa_cons (pv 13) (pa_cons (pv 10) (pa_cons (pv 8) (pa_cons (pe_tup (pa_cons pe_str (pa_cons pe_int (pa_cons pe_int pa_nil)))) (pa_cons (pe_tup (pa_cons pe_str (pa_cons pe_int (pa_cons pe_int pa_nil)))) (pa_cons (pe_tup (pa_cons pe_str (pa_cons pe_int (pa_cons pe_int pa_nil)))) pa_nil))))))))) pa_nil)))))
      (pss_cons (ps_set (i := 7) scR.nd rfl (.inl rfl) pe_str)
      (pss_one (ps_ret (pe_cmpR (op_eqD hr.units) (pv 6) (pe_lst (pa_cons pe_str (pa_cons (pv 7) pa_nil))) rfl))))))))))))))))))))), ?_⟩
    refine rd_set (gbs_lst (n := 10) (gbs_cons (gb_of gv_non (by decide)) (gbs_cons (gb_of gv_bl (by decide)) (gbs_cons (gb_of (gv_str (by decide +kernel)) (by decide)) (gbs_cons gb_lst3 (gbs_cons gb_tup2 (gbs_cons gb_tup4 (gbs_cons gb_tup0 (gbs_cons (gb_tup3 (gv_str (by decide +kernel)) gv_int gv_int (by rintro x y z rfl rfl rfl; decide +kernel)) (gbs_cons (gb_tup3 (gv_str (by decide +kernel)) gv_int gv_int (by rintro x y z rfl rfl rfl; decide +kernel)) (gbs_cons (gb_tup3 gv_nil gv_int gv_int (by rintro x y z h rfl rfl; rw [h]; rfl)) gbs_nil)))))))))) (by decide) fun p1 vs1 H1 s1 n1 hp1 l1 k1 => ?_)
    refine rd_set (gbs_lst (n := 8) (gbs_cons (gb_tup3 (gv_str (by decide +kernel)) gv_int gv_int (by rintro x y z rfl rfl rfl; decide +kernel)) (gbs_cons (gb_tup3 (gv_str (by decide +kernel)) gv_int gv_int (by rintro x y z rfl rfl rfl; decide +kernel)) (gbs_cons (gb_tup3 (gv_str (by decide +kernel)) gv_int gv_int (by rintro x y z rfl rfl rfl; decide +kernel)) (gbs_cons (gb_tup3 (gv_str (by decide +kernel)) gv_int gv_int (by rintro x y z rfl rfl rfl; decide +kernel)) (gbs_cons (gb_tup3 (gv_str (by decide +kernel)) gv_int gv_int (by rintro x y z rfl rfl rfl; decide +kernel)) (gbs_cons (gb_tup3 (gv_str (by decide +kernel)) gv_neg gv_int (by rintro x y z rfl rfl rfl; decide +kernel)) (gbs_cons (gb_of gv_dic (by decide)) (gbs_cons (gb_tup3 gv_dic gv_int gv_int (by rintro x y z h rfl rfl; rw [h]; rfl)) gbs_nil)))))))) (by decide) fun p2 vs2 H2 s2 n2 hp2 l2 k2 => ?_)
    have hu1 := urn_same s1 hu
    have hu2 := urn_same s2 hu1
    have u1 : u ≠ p1 := urn_ne hu n1
    have u2 : u ≠ p2 := urn_ne hu1 n2
    refine rd_tgt ?_
    refine ⟨_, rfl, _, rfl, u, p1, vs1, rfl, hu2, u1, s2 _ _ hp1, by rw [l1]; decide, by rw [l1]; decide, fun H3 i3 bad e3 hu3 b3 => ?_⟩
    have kp3 : Keep H2 H3 := Keep.but b3 hu2 hu3
    have bad3 : Ent H3 bad none := ((k1 bad (List.mem_of_getElem? e3)).same s2).keep kp3
    refine ⟨_, rfl, _, rfl, u, p2, vs2, rfl, hu3, u2, b3 _ _ hp2 (Ne.symm u2), by rw [l2]; decide, by rw [l2]; decide, fun H4 i4 odd e4 hu4 b4 => ?_⟩
    have kp4 : Keep H3 H4 := Keep.but b4 hu3 hu4
    have odd4 : Ent H4 odd none := ((k2 odd (List.mem_of_getElem? e4)).keep kp3).keep kp4
    have bad4 := bad3.keep kp4
    have t4 : LamX.Tabs [(Pt, lamN)] H4 := tabs_but (tabs_but (hT.ext (st s1 s2)) hu2 b3) hu3 b4
    have bt4 : But u H H4 := (Same.but (st s1 s2)).trans (b3.trans b4)
    refine ⟨(by show 2 ≤ sizeLine; decide), fun t nt => ⟨t, _, rfl, SqT.of upd_same, rfl, _, _, rfl, _, _, rfl, rfl, ?_⟩⟩
    have s5 : Same H4 (upd H4 t (.tup [bad, odd])) := same_new (fun _ _ e => e) nt
    generalize upd H4 t (.tup [bad, odd]) = H5 at s5 ⊢
    have hu5 := urn_same s5 hu4
    refine rd_set ?_
    refine rd_call2 ?_
    refine ⟨_, rfl, ?_⟩
    refine gbs_lst (n := 6) (gbs_cons (gb_tup3 (gv_str (by decide +kernel)) gv_bl gv_int (by rintro x y z rfl rfl rfl; decide +kernel)) (gbs_cons (gb_tup3 (gv_str (by decide +kernel)) gv_int gv_non (by rintro x y z rfl rfl rfl; decide +kernel)) (gbs_cons (gb_tup3 gv_int gv_int gv_int (by rintro x y z rfl rfl rfl; decide +kernel)) (gbs_cons (gb_tup3 (gv_str (by decide +kernel)) gv_int gv_int (by rintro x y z rfl rfl rfl; decide +kernel)) (gbs_cons (gb_tup3 (gv_str (by decide +kernel)) gv_int gv_int (by rintro x y z rfl rfl rfl; decide +kernel)) (gbs_cons (gb_tup3 (gv_str (by decide +kernel)) (gv_str (by decide +kernel)) gv_int (by rintro x y z rfl rfl rfl; decide +kernel)) gbs_nil)))))) (by decide) fun p3 vs3 H6 s6 n6 hp6 l6 k6 => ?_
    have hu6 := urn_same s6 hu5
    have u3 : u ≠ p3 := urn_ne hu5 n6
    refine ⟨u, p3, vs3, rfl, hu6, u3, hp6, by rw [l6]; decide, by rw [l6]; decide, fun H7 i7 low e7 hu7 b7 => ?_⟩
    have kp7 : Keep H6 H7 := Keep.but b7 hu6 hu7
    have low7 : Ent H7 low none := (k6 low (List.mem_of_getElem? e7)).keep kp7
    have kp47 : Keep H4 H7 := (Keep.same (st s5 s6)).trans kp7
    have bad7 := bad4.keep kp47
    have odd7 := odd4.keep kp47
    have t7 : LamX.Tabs [(Pt, lamN)] H7 := tabs_but (t4.ext (st s5 s6)) hu6 b7
    have bt7 : But u H H7 := bt4.trans ((Same.but (st s5 s6)).trans b7)
    refine rd_set ?_
    refine rd_call2 ?_
    refine ⟨_, rfl, _, rfl, _, rfl, _, rfl, (by show 3 ≤ sizeLine; decide), fun p4 n4 => ?_⟩
    have s8 : Same H7 (upd H7 p4 (.lst [bad, odd, low])) := same_new (fun _ _ e => e) n4
    have hp8 : upd H7 p4 (.lst [bad, odd, low]) p4 = some (.lst [bad, odd, low]) := upd_same
    generalize upd H7 p4 (.lst [bad, odd, low]) = H8 at s8 hp8 ⊢
    have hu8 := urn_same s8 hu7
    refine ⟨u, p4, [bad, odd, low], rfl, hu8, urn_ne hu7 n4, hp8, by show 0 < 3; decide, by show 3 ≤ 1000; decide, fun H9 i9 wrong e9 hu9 b9 => ?_⟩
    have kp9 : Keep H7 H9 := (Keep.same s8).trans (Keep.but b9 hu8 hu9)
    have bad9 := bad7.keep kp9
    have odd9 := odd7.keep kp9
    have wrong9 : Ent H9 wrong none := by
      have hm : wrong ∈ [bad, odd, low] := List.mem_of_getElem? e9
      rcases List.mem_cons.mp hm with rfl | hm
      · exact bad9
      rcases List.mem_cons.mp hm with rfl | hm
      · exact odd9
      rw [List.mem_singleton.mp hm]
      exact low7.keep kp9
    have t9 : LamX.Tabs [(Pt, lamN)] H9 := tabs_but (t7.ext s8) hu8 b9
    have bt9 : But u H H9 := bt7.trans ((Same.but s8).trans b9)
    refine rd_tgt ?_
    refine ⟨(by show 3 ≤ sizeLine; decide), fun on n10 => ⟨(by show 3 ≤ sizeLine; decide), fun tw n11 => ⟨(by show 2 ≤ sizeLine; decide), fun tt n12 => ⟨tt, _, rfl, SqT.of upd_same, rfl, _, _, rfl, _, _, rfl, rfl, ?_⟩⟩⟩⟩
    have s10 : Same H9 (upd H9 on (.tup [.str "a", .int 3, .int 0])) := same_new (fun _ _ e => e) n10
    have h10 : upd H9 on (.tup [.str "a", .int 3, .int 0]) on = some (.tup [.str "a", .int 3, .int 0]) := upd_same
    generalize upd H9 on (.tup [.str "a", .int 3, .int 0]) = H10 at s10 h10 n11 n12 ⊢
    have s11 : Same H10 (upd H10 tw (.tup [.str "abcdefgh", .int 0, .int 3])) := same_new (fun _ _ e => e) n11
    have h11 : upd H10 tw (.tup [.str "abcdefgh", .int 0, .int 3]) tw = some (.tup [.str "abcdefgh", .int 0, .int 3]) := upd_same
    generalize upd H10 tw (.tup [.str "abcdefgh", .int 0, .int 3]) = H11 at s11 h11 n12 ⊢
    have s12 : Same H11 (upd H11 tt (.tup [.ref on, .ref tw])) := same_new (fun _ _ e => e) n12
    generalize upd H11 tt (.tup [.ref on, .ref tw]) = HA at s12 ⊢
    have sA : Same H9 HA := st s10 (st s11 s12)
    have hon : HA on = some (.tup [.str "a", .int 3, .int 0]) := s12 _ _ (s11 _ _ h10)
    have htw : HA tw = some (.tup [.str "abcdefgh", .int 0, .int 3]) := s12 _ _ h11
    have badA := bad9.same sA
    have oddA := odd9.same sA
    have wrongA := wrong9.same sA
    have tA := t9.ext sA
    have btA : But u H HA := bt9.trans (Same.but sA)
    have nt : ∀ {o : HO}, (∀ ps, o ≠ .tbl ps) → ∀ ps, o ≠ .tbl ps := fun h => h
    have eO : ∀ G, LamX.ExtN HA G → Ent G (.ref on) (some ("a", 3, 0)) := fun G x => .good (x on _ hon (fun _ z => nomatch z)) (by decide +kernel) (by decide +kernel)
    have eT : ∀ G, LamX.ExtN HA G → Ent G (.ref tw) (some ("abcdefgh", 0, 3)) := fun G x => .good (x tw _ htw (fun _ z => nomatch z)) (by decide +kernel) (by decide +kernel)
    have eW : ∀ G, LamX.ExtN HA G → Ent G wrong none := fun G x => wrongA.keep (Keep.ext x)
    have eB : ∀ G, LamX.ExtN HA G → Ent G bad none := fun G x => badA.keep (Keep.ext x)
    have eD : ∀ G, LamX.ExtN HA G → Ent G odd none := fun G x => oddA.keep (Keep.ext x)
    clear wrongA badA oddA
    refine rd_set ?_
    refine ⟨tA, fun G1 x1 t1 => ⟨_, rfl, init_bad (os := [none]) (idx := .int 0) (.cons (eW G1 x1) .nil) rfl (by show 1 ≤ 100; decide) fun d1 J1 j1 hd1 => ⟨d1, _, rfl, rfl, hd1, fun q1 nq1 => ⟨(by show 1 ≤ sizeLine; decide), fun l nl => ?_⟩⟩⟩⟩
    have A1 := AnsI.first x1 t1 j1 nq1 nl
    generalize upd (upd J1 q1 (ansL (.int 0))) l (.lst [.ref q1]) = K1 at A1 ⊢
    refine rd_ex ?_
    refine ⟨_, rfl, .inl ⟨rfl, _, SqL.of A1.at_⟩, A1.tabs, fun G2 x2 t2' => ⟨_, rfl, _, rfl, _, rfl, init_bad (H2 := G2) (os := [none, none, some ("a", 3, 0)]) (idx := (.int 0)) (.cons (eW _ (A1.ext.trans x2)) (.cons (eB _ (A1.ext.trans x2)) (.cons (eO _ (A1.ext.trans x2)) .nil))) (by rfl) (by show 3 ≤ 100; decide) fun d2 J2 j2 hd2 => ⟨d2, _, rfl, rfl, hd2, fun q2 nq2 => ⟨l, _, _, rfl, rfl, (A1.more x2 t2' j2 nq2).2, (by show 1 < sizeLine; decide), ?_⟩⟩⟩⟩
    have A2 := (A1.more (idx := (.int 0)) x2 t2' j2 nq2).1
    revert A2
    generalize upd (upd J2 q2 (ansL (.int 0))) l (.lst (_ ++ [.ref q2])) = K2
    intro A2
    refine rd_ex ?_
    refine ⟨_, rfl, .inl ⟨rfl, _, SqL.of A2.at_⟩, A2.tabs, fun G3 x3 t3' => ⟨_, rfl, _, rfl, _, rfl, init_bad (H2 := G3) (os := [some ("a", 3, 0), none, none]) (idx := (.int 1)) (.cons (eO _ (A2.ext.trans x3)) (.cons (eW _ (A2.ext.trans x3)) (.cons (eD _ (A2.ext.trans x3)) .nil))) (by rfl) (by show 3 ≤ 100; decide) fun d3 J3 j3 hd3 => ⟨d3, _, rfl, rfl, hd3, fun q3 nq3 => ⟨l, _, _, rfl, rfl, (A2.more x3 t3' j3 nq3).2, (by show 2 < sizeLine; decide), ?_⟩⟩⟩⟩
    have A3 := (A2.more (idx := (.int 1)) x3 t3' j3 nq3).1
    revert A3
    generalize upd (upd J3 q3 (ansL (.int 1))) l (.lst (_ ++ [.ref q3])) = K3
    intro A3
    refine rd_ex ?_
    refine ⟨_, rfl, .inl ⟨rfl, _, SqL.of A3.at_⟩, A3.tabs, fun G4 x4 t4' => ⟨_, rfl, _, rfl, (by show 3 ≤ sizeLine; decide), fun t4 nt4 => ⟨_, rfl, init_bad (H2 := (upd G4 t4 (.tup [.str "a", .int 1, .int 1]))) (os := [some ("a", 3, 0), some ("abcdefgh", 0, 3), some ("a", 1, 1), none]) (idx := (.int 2)) (.cons (eO _ (ext_new (A3.ext.trans x4) nt4)) (.cons (eT _ (ext_new (A3.ext.trans x4) nt4)) (.cons (.good upd_same (by decide +kernel) (by decide +kernel)) (.cons (eW _ (ext_new (A3.ext.trans x4) nt4)) .nil)))) (by rfl) (by show 4 ≤ 100; decide) fun d4 J4 j4 hd4 => ⟨d4, _, rfl, rfl, hd4, fun q4 nq4 => ⟨l, _, _, rfl, rfl, (A3.more x4 t4' (st (same_new (fun _ _ e => e) nt4) j4) nq4).2, (by show 3 < sizeLine; decide), ?_⟩⟩⟩⟩⟩
    have A4 := (A3.more (idx := (.int 2)) x4 t4' (st (same_new (fun _ _ e => e) nt4) j4) nq4).1
    revert A4
    generalize upd (upd J4 q4 (ansL (.int 2))) l (.lst (_ ++ [.ref q4])) = K4
    intro A4
    refine rd_ex ?_
    refine ⟨_, rfl, .inl ⟨rfl, _, SqL.of A4.at_⟩, A4.tabs, fun G5 x5 t5' => ⟨_, rfl, _, rfl, _, rfl, (by show 3 ≤ sizeLine; decide), fun t5 nt5 => init_bad (H2 := (upd G5 t5 (.tup [.str "a", .int 3, .int 0]))) (os := [some ("a", 3, 0), some ("abcdefgh", 0, 3), none, some ("a", 3, 0)]) (idx := (.int 2)) (.cons (eO _ (ext_new (A4.ext.trans x5) nt5)) (.cons (eT _ (ext_new (A4.ext.trans x5) nt5)) (.cons (eW _ (ext_new (A4.ext.trans x5) nt5)) (.cons (.good upd_same (by decide +kernel) (by decide +kernel)) .nil)))) (by rfl) (by show 4 ≤ 100; decide) fun d5 J5 j5 hd5 => ⟨d5, _, rfl, rfl, hd5, fun q5 nq5 => ⟨l, _, _, rfl, rfl, (A4.more x5 t5' (st (same_new (fun _ _ e => e) nt5) j5) nq5).2, (by show 4 < sizeLine; decide), ?_⟩⟩⟩⟩
    have A5 := (A4.more (idx := (.int 2)) x5 t5' (st (same_new (fun _ _ e => e) nt5) j5) nq5).1
    revert A5
    generalize upd (upd J5 q5 (ansL (.int 2))) l (.lst (_ ++ [.ref q5])) = K5
    intro A5
    refine rd_ex ?_
    refine ⟨_, rfl, .inl ⟨rfl, _, SqL.of A5.at_⟩, A5.tabs, fun G6 x6 t6' => ⟨_, rfl, _, rfl, _, rfl, _, rfl, _, rfl, _, rfl, _, rfl, _, rfl, _, rfl, init_bad (H2 := G6) (os := [some ("a", 3, 0), some ("a", 3, 0), some ("a", 3, 0), some ("a", 3, 0), some ("a", 3, 0), some ("a", 3, 0), some ("a", 3, 0), some ("a", 3, 0), none]) (idx := .non) (.cons (eO _ (A5.ext.trans x6)) (.cons (eO _ (A5.ext.trans x6)) (.cons (eO _ (A5.ext.trans x6)) (.cons (eO _ (A5.ext.trans x6)) (.cons (eO _ (A5.ext.trans x6)) (.cons (eO _ (A5.ext.trans x6)) (.cons (eO _ (A5.ext.trans x6)) (.cons (eO _ (A5.ext.trans x6)) (.cons (eW _ (A5.ext.trans x6)) .nil))))))))) (by rfl) (by show 9 ≤ 100; decide) fun d6 J6 j6 hd6 => ⟨d6, _, rfl, rfl, hd6, fun q6 nq6 => ⟨l, _, _, rfl, rfl, (A5.more x6 t6' j6 nq6).2, (by show 5 < sizeLine; decide), ?_⟩⟩⟩⟩
    have A6 := (A5.more (idx := .non) x6 t6' j6 nq6).1
    revert A6
    generalize upd (upd J6 q6 (ansL .non)) l (.lst (_ ++ [.ref q6])) = K6
    intro A6
    refine rd_ex ?_
    refine ⟨_, rfl, .inl ⟨rfl, _, SqL.of A6.at_⟩, A6.tabs, fun G7 x7 t7' => ⟨_, rfl, _, rfl, _, rfl, _, rfl, _, rfl, _, rfl, _, rfl, _, rfl, _, rfl, init_bad (H2 := G7) (os := [some ("a", 3, 0), some ("a", 3, 0), some ("a", 3, 0), some ("a", 3, 0), some ("a", 3, 0), some ("a", 3, 0), some ("a", 3, 0), some ("a", 3, 0), some ("a", 3, 0)]) (idx := .non) (.cons (eO _ (A6.ext.trans x7)) (.cons (eO _ (A6.ext.trans x7)) (.cons (eO _ (A6.ext.trans x7)) (.cons (eO _ (A6.ext.trans x7)) (.cons (eO _ (A6.ext.trans x7)) (.cons (eO _ (A6.ext.trans x7)) (.cons (eO _ (A6.ext.trans x7)) (.cons (eO _ (A6.ext.trans x7)) (.cons (eO _ (A6.ext.trans x7)) .nil))))))))) (by rfl) (by show 9 ≤ 100; decide) fun d7 J7 j7 hd7 => ⟨d7, _, rfl, rfl, hd7, fun q7 nq7 => ⟨l, _, _, rfl, rfl, (A6.more x7 t7' j7 nq7).2, (by show 6 < sizeLine; decide), ?_⟩⟩⟩⟩
    have A7 := (A6.more (idx := .non) x7 t7' j7 nq7).1
    revert A7
    generalize upd (upd J7 q7 (ansL .non)) l (.lst (_ ++ [.ref q7])) = K7
    intro A7
    exact tail2 (HA := HA) A7 hon htw fun H' e t => q H' ((ButT.of btA).trans (ButT.ofN (A7.ext.trans e))) t
end
end SQ2
namespace SQ2
open PySem L2 SQ
abbrev bmV : List Value := [.type "ValueError", .type "Exception", .type "BaseException", .type "object"]
/-- all that one look at the written part tells -/
def chkA (K : PySem.W.Frag) (CE fI CI C fIn fS cR Pt : Addr) : Bool :=
  errOk K CE "index" bmV "ValueError.__new__" && ((PySem.W.typeIn K (.ref fI) == some (.type "function")) && ((PySem.W.typeIn K (.ref CE) == some (.type "type")) &&
  ((PySem.W.specialIn K (.builtin "object.__class__") "__get__" == some (some (.builtin "getset_descriptor.__get__"))) && ((PySem.W.takesIn K (.builtin "object.__class__") == some true) &&
  ((PySem.W.exmOne K (.ref CE) (.ref CE) == some true) && ((PySem.W.kitOne K (.ref CE) (.ref CI) == some true) && ((PySem.W.kitOne K (.ref CE) (.type "ValueError") == some true) &&
  (PySem.W.plainGet K C Str.empty && (PySem.W.hasDictIn K C && (PySem.W.plainOver K C && ((PySem.W.findIn K (.ref C) "__setattr__" == some (some (.builtin "object.__setattr__"))) &&
  ((PySem.W.findIn K (.ref C) "arities" == some none) && ((PySem.W.findIn K (.ref C) "names" == some none) && ((PySem.W.findIn K (.ref C) "text" == some none) &&
  (PySem.W.makesIn K C && (PySem.W.isFn K (.ref fIn) && (PySem.W.keepIn K (.ref C) && (PySem.W.isFn K (.ref fS) && (PySem.W.codeHdIn K cR Pt && (K.lookup Pt).isNone)))))))))))))))))))
theorem all_mk {l : PySem.W.OpenLaw} {w : World} {K : PySem.W.Frag} {h : Heap} {mg : Str → Option Value} {fa CE CI fI C tC Pt cR fIn fS f_0 f_1 f_2 f_3 f_4 f_5 f_6 f_7 f_8 f_9 f_10 f_11 f_12 : Addr}
    {odC : Option Addr} {u1 u2 u3 u4 u5 : Tok} {nn : Nat} {slC : Array (Option Value)}
    {ocE dcE pmE cdE ctE : Value} {odE anE : Option Addr} {slE : Array (Option Value)}
    {oc_0 kV_0 dc_0 pm_0 cd_0 ct_0 : Value} {od_0 an_0 : Option Addr} {sl_0 : Array (Option Value)}
    {oc_1 kV_1 dc_1 pm_1 cd_1 ct_1 : Value} {od_1 an_1 : Option Addr} {sl_1 : Array (Option Value)}
    {oc_2 kV_2 dc_2 pm_2 cd_2 ct_2 : Value} {od_2 an_2 : Option Addr} {sl_2 : Array (Option Value)}
    {oc_3 kV_3 dc_3 pm_3 cd_3 ct_3 : Value} {od_3 an_3 : Option Addr} {sl_3 : Array (Option Value)}
    {oc_4 kV_4 dc_4 pm_4 cd_4 ct_4 : Value} {od_4 an_4 : Option Addr} {sl_4 : Array (Option Value)}
    {oc_5 kV_5 dc_5 pm_5 cd_5 ct_5 : Value} {od_5 an_5 : Option Addr} {sl_5 : Array (Option Value)}
    {oc_6 kV_6 dc_6 pm_6 cd_6 ct_6 : Value} {od_6 an_6 : Option Addr} {sl_6 : Array (Option Value)}
    {oc_7 kV_7 dc_7 pm_7 cd_7 ct_7 : Value} {od_7 an_7 : Option Addr} {sl_7 : Array (Option Value)}
    {oc_8 kV_8 dc_8 pm_8 cd_8 ct_8 : Value} {od_8 an_8 : Option Addr} {sl_8 : Array (Option Value)}
    {oc_9 kV_9 dc_9 pm_9 cd_9 ct_9 : Value} {od_9 an_9 : Option Addr} {sl_9 : Array (Option Value)}
    {oc_10 kV_10 dc_10 pm_10 cd_10 ct_10 : Value} {od_10 an_10 : Option Addr} {sl_10 : Array (Option Value)}
    {oc_11 kV_11 dc_11 pm_11 ct_11 : Value} {od_11 an_11 : Option Addr} {sl_11 : Array (Option Value)}
    {oc_12 kV_12 dc_12 pm_12 cd_12 ct_12 : Value} {od_12 an_12 : Option Addr} {sl_12 : Array (Option Value)}
    {ocI kVI dcI pmI cdI ctI : Value} {odI anI : Option Addr} {slI : Array (Option Value)}
    {ocS kVS dcS pmS cdS ctS : Value} {odS anS : Option Addr} {slS : Array (Option Value)}
    {v0 v1 v2 v3 : Tok}
    (X : K.In h) (G : h.Ns mainGlobals mg) (hfa : mg "law" = some (.ref fa)) (hT : h.get? Pt = some tab0)
    (nE : PySem.W.nsIn K mainGlobals "InvalidEntries" = some (some (.ref CE)))
    (nI : PySem.W.nsIn K mainGlobals "InputError" = some (some (.ref CI)))
    (nV : PySem.W.nsIn K mainGlobals "Vocabulary" = some (some (.ref C)))
    (nC : PySem.W.nsIn K mainGlobals "CORE_WORDS" = some (some (.ref tC)))
    (lC : K.lookup tC = some ⟨.type "tuple", odC, .seq #[.str "call" u1, .str "dip" u2, .str "curry" u3, .str "compose" u4, .str "choose" u5] nn, slC⟩)
    (xE : PySem.W.findIn K (.ref CE) "__init__" = some (some (.ref fI)))
    (lE : K.lookup fI = some ⟨ocE, odE, .func (PySem.W.fnOf "__init__" "InvalidEntries.__init__" (iArgs "index" ⟨14, 17, 14, 21⟩ ⟨14, 23, 14, 28⟩) (iBody "index" ⟨15, 8, 15, 12⟩ ⟨15, 8, 15, 18⟩ ⟨15, 21, 15, 26⟩ ⟨15, 8, 15, 26⟩) (iScope "index") .none .none dcE pmE anE cdE ctE), slE⟩)
    (yE : PySem.W.codeIn K cdE "InvalidEntries.__init__" = true)
    (a_0 : PySem.W.nsIn K mainGlobals "is_plain_integer" = some (some (.ref f_0)))
    (l_0 : K.lookup f_0 = some ⟨oc_0, od_0, .func (PySem.W.fnOf "is_plain_integer" "is_plain_integer" (defArgs sPI) (defBody sPI) (defScope sPI) .none kV_0 dc_0 pm_0 an_0 cd_0 ct_0), sl_0⟩)
    (c_0 : PySem.W.codeIn K cd_0 "is_plain_integer" = true)
    (k_0 : PySem.W.keepIn K (.ref f_0) = true)
    (a_1 : PySem.W.nsIn K mainGlobals "is_name" = some (some (.ref f_1)))
    (l_1 : K.lookup f_1 = some ⟨oc_1, od_1, .func (PySem.W.fnOf "is_name" "is_name" (defArgs sNm) (defBody sNm) (defScope sNm) .none kV_1 dc_1 pm_1 an_1 cd_1 ct_1), sl_1⟩)
    (c_1 : PySem.W.codeIn K cd_1 "is_name" = true)
    (k_1 : PySem.W.keepIn K (.ref f_1) = true)
    (a_2 : PySem.W.nsIn K mainGlobals "is_free_name" = some (some (.ref f_2)))
    (l_2 : K.lookup f_2 = some ⟨oc_2, od_2, .func (PySem.W.fnOf "is_free_name" "is_free_name" (defArgs sFN) (defBody sFN) (defScope sFN) .none kV_2 dc_2 pm_2 an_2 cd_2 ct_2), sl_2⟩)
    (c_2 : PySem.W.codeIn K cd_2 "is_free_name" = true)
    (k_2 : PySem.W.keepIn K (.ref f_2) = true)
    (a_3 : PySem.W.nsIn K mainGlobals "is_arity" = some (some (.ref f_3)))
    (l_3 : K.lookup f_3 = some ⟨oc_3, od_3, .func (PySem.W.fnOf "is_arity" "is_arity" (defArgs sAr) (defBody sAr) (defScope sAr) .none kV_3 dc_3 pm_3 an_3 cd_3 ct_3), sl_3⟩)
    (c_3 : PySem.W.codeIn K cd_3 "is_arity" = true)
    (k_3 : PySem.W.keepIn K (.ref f_3) = true)
    (a_4 : PySem.W.nsIn K mainGlobals "is_entry" = some (some (.ref f_4)))
    (l_4 : K.lookup f_4 = some ⟨oc_4, od_4, .func (PySem.W.fnOf "is_entry" "is_entry" (defArgs sEn) (defBody sEn) (defScope sEn) .none kV_4 dc_4 pm_4 an_4 cd_4 ct_4), sl_4⟩)
    (c_4 : PySem.W.codeIn K cd_4 "is_entry" = true)
    (k_4 : PySem.W.keepIn K (.ref f_4) = true)
    (a_5 : PySem.W.nsIn K mainGlobals "check_entries" = some (some (.ref f_5)))
    (l_5 : K.lookup f_5 = some ⟨oc_5, od_5, .func (PySem.W.fnOf "check_entries" "check_entries" (defArgs sChk) (defBody sChk) (defScope sChk) .none kV_5 dc_5 pm_5 an_5 cd_5 ct_5), sl_5⟩)
    (c_5 : PySem.W.codeIn K cd_5 "check_entries" = true)
    (k_5 : PySem.W.keepIn K (.ref f_5) = true)
    (a_6 : PySem.W.nsIn K mainGlobals "entry_text" = some (some (.ref f_6)))
    (l_6 : K.lookup f_6 = some ⟨oc_6, od_6, .func (PySem.W.fnOf "entry_text" "entry_text" (defArgs sTx) (defBody sTx) (defScope sTx) .none kV_6 dc_6 pm_6 an_6 cd_6 ct_6), sl_6⟩)
    (c_6 : PySem.W.codeIn K cd_6 "entry_text" = true)
    (k_6 : PySem.W.keepIn K (.ref f_6) = true)
    (a_7 : PySem.W.nsIn K mainGlobals "_law_urn" = some (some (.ref f_7)))
    (l_7 : K.lookup f_7 = some ⟨oc_7, od_7, .func (PySem.W.fnOf "_law_urn" "_law_urn" (defArgs sUrn) (defBody sUrn) (defScope sUrn) .none kV_7 dc_7 pm_7 an_7 cd_7 ct_7), sl_7⟩)
    (c_7 : PySem.W.codeIn K cd_7 "_law_urn" = true)
    (k_7 : PySem.W.keepIn K (.ref f_7) = true)
    (a_8 : PySem.W.nsIn K mainGlobals "_law_lot" = some (some (.ref f_8)))
    (l_8 : K.lookup f_8 = some ⟨oc_8, od_8, .func (PySem.W.fnOf "_law_lot" "_law_lot" (defArgs sLot) (defBody sLot) (defScope sLot) .none kV_8 dc_8 pm_8 an_8 cd_8 ct_8), sl_8⟩)
    (c_8 : PySem.W.codeIn K cd_8 "_law_lot" = true)
    (k_8 : PySem.W.keepIn K (.ref f_8) = true)
    (a_9 : PySem.W.nsIn K mainGlobals "_law_one" = some (some (.ref f_9)))
    (l_9 : K.lookup f_9 = some ⟨oc_9, od_9, .func (PySem.W.fnOf "_law_one" "_law_one" (defArgs sOne) (defBody sOne) (defScope sOne) .none kV_9 dc_9 pm_9 an_9 cd_9 ct_9), sl_9⟩)
    (c_9 : PySem.W.codeIn K cd_9 "_law_one" = true)
    (k_9 : PySem.W.keepIn K (.ref f_9) = true)
    (a_10 : PySem.W.nsIn K mainGlobals "_law_had" = some (some (.ref f_10)))
    (l_10 : K.lookup f_10 = some ⟨oc_10, od_10, .func (PySem.W.fnOf "_law_had" "_law_had" (defArgs sHad) (defBody sHad) (defScope sHad) .none kV_10 dc_10 pm_10 an_10 cd_10 ct_10), sl_10⟩)
    (c_10 : PySem.W.codeIn K cd_10 "_law_had" = true)
    (k_10 : PySem.W.keepIn K (.ref f_10) = true)
    (a_11 : PySem.W.nsIn K mainGlobals "_law_right" = some (some (.ref f_11)))
    (l_11 : K.lookup f_11 = some ⟨oc_11, od_11, .func (PySem.W.fnOf "_law_right" "_law_right" (defArgs sRight) (defBody sRight) (defScope sRight) .none kV_11 dc_11 pm_11 an_11 (.ref cR) ct_11), sl_11⟩)
    (c_11 : PySem.W.codeIn K (.ref cR) "_law_right" = true)
    (k_11 : PySem.W.keepIn K (.ref f_11) = true)
    (a_12 : PySem.W.nsIn K mainGlobals "law" = some (some (.ref f_12)))
    (l_12 : K.lookup f_12 = some ⟨oc_12, od_12, .func (PySem.W.fnOf "law" "law" (defArgs sLaw) (defBody sLaw) (defScope sLaw) .none kV_12 dc_12 pm_12 an_12 cd_12 ct_12), sl_12⟩)
    (c_12 : PySem.W.codeIn K cd_12 "law" = true)
    (k_12 : PySem.W.keepIn K (.ref f_12) = true)
    (mI : PySem.W.findIn K (.ref C) "__init__" = some (some (.ref fIn)))
    (lI : K.lookup fIn = some ⟨ocI, odI, .func (PySem.W.fnOf "__init__" "Vocabulary.__init__" (defArgs sIni) (defBody sIni) (defScope sIni) .none kVI dcI pmI anI cdI ctI), slI⟩)
    (cI : PySem.W.codeIn K cdI "Vocabulary.__init__" = true)
    (kI : PySem.W.keepIn K (.ref fIn) = true)
    (mS : PySem.W.findIn K (.ref C) "__str__" = some (some (.ref fS)))
    (lS : K.lookup fS = some ⟨ocS, odS, .func (PySem.W.fnOf "__str__" "Vocabulary.__str__" (defArgs sStr) (defBody sStr) (defScope sStr) .none kVS dcS pmS anS cdS ctS), slS⟩)
    (cS : PySem.W.codeIn K cdS "Vocabulary.__str__" = true)
    (kS : PySem.W.keepIn K (.ref fS) = true)
    (z_int : PySem.W.nsIn K mainGlobals "int" = some none)
    (z_len : PySem.W.nsIn K mainGlobals "len" = some none)
    (z_abs : PySem.W.nsIn K mainGlobals "abs" = some none)
    (z_divmod : PySem.W.nsIn K mainGlobals "divmod" = some none)
    (z_max : PySem.W.nsIn K mainGlobals "max" = some none)
    (z_min : PySem.W.nsIn K mainGlobals "min" = some none)
    (z_range : PySem.W.nsIn K mainGlobals "range" = some none)
    (z_all : PySem.W.nsIn K mainGlobals "all" = some none)
    (z_isinstance : PySem.W.nsIn K mainGlobals "isinstance" = some none)
    (z_bool : PySem.W.nsIn K mainGlobals "bool" = some none)
    (z_str : PySem.W.nsIn K mainGlobals "str" = some none)
    (z_tuple : PySem.W.nsIn K mainGlobals "tuple" = some none)
    (z_set : PySem.W.nsIn K mainGlobals "set" = some none)
    (z_enumerate : PySem.W.nsIn K mainGlobals "enumerate" = some none)
    (z_sorted : PySem.W.nsIn K mainGlobals "sorted" = some none)
    (z_repr : PySem.W.nsIn K mainGlobals "repr" = some none)
    (z_ValueError : PySem.W.nsIn K mainGlobals "ValueError" = some none)
    (w_0 : PySem.W.nsIn K mainGlobals "LETTERS" = some (some (.str "abcdefghijklmnopqrstuvwxyz" v0)))
    (w_1 : PySem.W.nsIn K mainGlobals "LONGEST_NAME" = some (some (.int 8 v1)))
    (w_2 : PySem.W.nsIn K mainGlobals "MOST_ARITY" = some (some (.int 3 v2)))
    (w_3 : PySem.W.nsIn K mainGlobals "MOST_ENTRIES" = some (some (.int 8 v3)))
    (hA : chkA K CE fI CI C fIn fS cR Pt = true) :
    AtG l w K 10 63 "_law_script" mg fa h := by
  have e := hfa.symm.trans (PySem.W.mg_of X G a_12)
  cases e
  unfold chkA at hA
  simp only [Bool.and_eq_true, beq_iff_eq] at hA
  obtain ⟨e1, e2, e3, e4, e5, e6, e7, e8, e9, e10, e11, e12, e13, e14, e15, e16, e17, e18, e19, e20, e21⟩ := hA
  have BL : Blt mg := ⟨(PySem.W.mg_none_of X G z_int), (PySem.W.mg_none_of X G z_len), (PySem.W.mg_none_of X G z_abs), (PySem.W.mg_none_of X G z_divmod), (PySem.W.mg_none_of X G z_max), (PySem.W.mg_none_of X G z_min), (PySem.W.mg_none_of X G z_range), (PySem.W.mg_none_of X G z_all)⟩
  have B : B2 mg := ⟨(PySem.W.mg_none_of X G z_isinstance), (PySem.W.mg_none_of X G z_int), (PySem.W.mg_none_of X G z_bool), (PySem.W.mg_none_of X G z_str), (PySem.W.mg_none_of X G z_tuple), (PySem.W.mg_none_of X G z_len), (PySem.W.mg_none_of X G z_all), ⟨_, (PySem.W.mg_of X G w_0)⟩, ⟨_, (PySem.W.mg_of X G w_1)⟩, ⟨_, (PySem.W.mg_of X G w_2)⟩⟩
  have BB : B3 mg := ⟨(PySem.W.mg_none_of X G z_set), (PySem.W.mg_none_of X G z_enumerate), ⟨_, (PySem.W.mg_of X G w_3)⟩⟩
  have B4' : B4 mg := ⟨(PySem.W.mg_none_of X G z_sorted)⟩
  have CW : Core K mg tC := ⟨PySem.W.mg_of X G nC, fun H => .inr ⟨_, _, _, lC, rfl, rfl, (by show 5 ≤ sizeLine; decide), .cons ⟨_, rfl⟩ (.cons ⟨_, rfl⟩ (.cons ⟨_, rfl⟩ (.cons ⟨_, rfl⟩ (.cons ⟨_, rfl⟩ .nil))))⟩⟩
  have F_0 := fun_mk (st := sPI) l_0 c_0 k_0
  have b_0 := F_0.binds (ps := ["value"]) fun _ _ _ _ _ _ us hl => match us, hl with | [_], _ => rfl
  have F_1 := fun_mk (st := sNm) l_1 c_1 k_1
  have b_1 := F_1.binds (ps := ["value"]) fun _ _ _ _ _ _ us hl => match us, hl with | [_], _ => rfl
  have F_2 := fun_mk (st := sFN) l_2 c_2 k_2
  have b_2 := F_2.binds (ps := ["value"]) fun _ _ _ _ _ _ us hl => match us, hl with | [_], _ => rfl
  have F_3 := fun_mk (st := sAr) l_3 c_3 k_3
  have b_3 := F_3.binds (ps := ["value"]) fun _ _ _ _ _ _ us hl => match us, hl with | [_], _ => rfl
  have F_4 := fun_mk (st := sEn) l_4 c_4 k_4
  have b_4 := F_4.binds (ps := ["value"]) fun _ _ _ _ _ _ us hl => match us, hl with | [_], _ => rfl
  have F_5 := fun_mk (st := sChk) l_5 c_5 k_5
  have b_5 := F_5.binds (ps := ["entries"]) fun _ _ _ _ _ _ us hl => match us, hl with | [_], _ => rfl
  have F_6 := fun_mk (st := sTx) l_6 c_6 k_6
  have b_6 := F_6.binds (ps := ["name", "arity"]) fun _ _ _ _ _ _ us hl => match us, hl with | [_, _], _ => rfl
  have F_7 := fun_mk (st := sUrn) l_7 c_7 k_7
  have b_7 := F_7.binds (ps := ["_law_script", "_law_k"]) fun _ _ _ _ _ _ us hl => match us, hl with | [_, _], _ => rfl
  have F_8 := fun_mk (st := sLot) l_8 c_8 k_8
  have b_8 := F_8.binds (ps := ["_law_urn_here", "_law_many"]) fun _ _ _ _ _ _ us hl => match us, hl with | [_, _], _ => rfl
  have F_9 := fun_mk (st := sOne) l_9 c_9 k_9
  have b_9 := F_9.binds (ps := ["_law_urn_here", "_law_things"]) fun _ _ _ _ _ _ us hl => match us, hl with | [_, _], _ => rfl
  have F_10 := fun_mk (st := sHad) l_10 c_10 k_10
  have b_10 := F_10.binds (ps := ["_law_ask"]) fun _ _ _ _ _ _ us hl => match us, hl with | [_], _ => rfl
  have F_11 : FunC K "_law_right" "_law_right" sRight f_11 _ cR := ⟨⟨_, _, _, _, _, _, _, _, rfl, l_11, c_11⟩, k_11⟩
  have b_11 := F_11.f.binds (ps := ["_law_urn_here"]) fun _ _ _ _ _ _ us hl => match us, hl with | [_], _ => rfl
  have F_12 := fun_mk (st := sLaw) l_12 c_12 k_12
  have b_12 := F_12.binds (ps := ["_law_script"]) fun _ _ _ _ _ _ us hl => match us, hl with | [_], _ => rfl
  have FI := fun_mk (st := sIni) lI cI kI
  have FS := fun_mk (st := sStr) lS cS kS
  have bS := FS.binds (ps := ["self"]) fun _ _ _ _ _ _ us hl => match us, hl with | [_], _ => rfl
  have D : D2 K mg _ _ _ _ _ _ _ _ _ _ := ⟨PySem.W.mg_of X G a_0, F_0, b_0, PySem.W.mg_of X G a_1, F_1, b_1, PySem.W.mg_of X G a_2, F_2, b_2, PySem.W.mg_of X G a_3, F_3, b_3, PySem.W.mg_of X G a_4, F_4, b_4⟩
  have I : I2 K mg _ _ _ _ := ⟨PySem.W.mg_of X G a_5, F_5, b_5, PySem.W.mg_of X G a_6, F_6, b_6⟩
  have Z : EC K mg CE fI := ⟨PySem.W.mg_of X G nE, ErrC.of e1, ⟨xE, e2, _, _, _, _, _, _, _, _, _, _, _, _, _, _, _, lE, yE⟩, e3⟩
  have HF : HadF K mg CE CI := ⟨⟨e4, e5⟩, PySem.W.mg_of X G nI, PySem.W.mg_none_of X G z_ValueError, e6, e7, e8⟩
  have VV : VC K mg C := ⟨PySem.W.mg_of X G nV, ⟨e9, e10, e11, e12⟩, e13, e14, e15⟩
  have MK : Mk K C fIn := ⟨e16, mI, e17, e18⟩
  have SO : StrO K C fS := ⟨mS, e19⟩
  have DW : Drw K mg _ _ _ _ := ⟨PySem.W.mg_of X G a_8, F_8, b_8, PySem.W.mg_of X G a_9, F_9, b_9⟩
  have HD : HadD K mg _ _ := ⟨PySem.W.mg_of X G a_10, F_10, b_10⟩
  have hN : K.lookup Pt = none := Option.isNone_iff_eq_none.mp e21
  refine ⟨PySem.W.fnOf "law" "law" (defArgs sLaw) (defBody sLaw) (defScope sLaw) .none kV_12 dc_12 pm_12 an_12 cd_12 ct_12, [(cR, Pt)], spLawT K [(Pt, lamN)], fun p hp => ?_, fun s v => .of_eq rfl, fun H a ns hl _ hH hS => ⟨a, ns, rfl, hS, hl, fun p hp => ?_, fun _ => rfl⟩, fun base _ _ hTB => ?_⟩
  · rw [List.mem_singleton.mp hp]
    exact ⟨hT, hN, PySem.W.codeHd_of_K X e20⟩
  · rw [List.mem_singleton.mp hp]
    exact LamX.TabS.nil (hH (cR, Pt) (List.mem_singleton.mpr rfl))
  · have GS : FnR l.prog w K mg base CX0 1 fS (spStr C) := ((ok_str FS B VV).raw bS .nil).imp fun vs H Q E hs => by rw [List.append_nil]; exact hs
    exact ok_lawT (j := 8) F_12 BL (PySem.W.mg_of X G a_7) F_7 b_7 (PySem.W.mg_of X G a_11) F_11.kp b_11 (ok_right F_11 BL B DW HD Z HF VV MK (ok_ini I D B CW Z BB B4' VV FI) GS SO (PySem.W.mg_none_of X G z_repr) (hTB (cR, Pt) (List.mem_singleton.mpr rfl)))
end SQ2
open PySem PySem.W PyProof.Rows
set_option maxRecDepth 100000 in
set_option maxHeartbeats 0 in
theorem PySem.Challenge.cw_stackquotes_k02_vocabularies_refused_holds : PySem.Challenge.rw_stackquotes_k02_vocabularies_refused.Holds := by
  w_on; o_law; k_head; (case hw => w_witness2)
  k_fill
  refine SQ.walkGT (l := PySem.Challenge.rw_stackquotes_k02_vocabularies_refused) (n := 63) (k := 10) (x := "_law_script") rfl (by decide) rfl ⟨rfl, by decide, by decide⟩ (fun w h Y => PySem.W.km_in_of Y) ?F
  case F =>
    intro w mg fa h Y KX G hmg
    have TX := PySem.W.km_tabs_of Y
    refine' SQ2.all_mk (Pt := 239) KX G hmg (TX 239 (by decide)) ?nE ?nI ?nV ?nC ?lC ?xE ?lE ?yE ?a_0 ?l_0 ?c_0 ?k_0 ?a_1 ?l_1 ?c_1 ?k_1 ?a_2 ?l_2 ?c_2 ?k_2 ?a_3 ?l_3 ?c_3 ?k_3 ?a_4 ?l_4 ?c_4 ?k_4 ?a_5 ?l_5 ?c_5 ?k_5 ?a_6 ?l_6 ?c_6 ?k_6 ?a_7 ?l_7 ?c_7 ?k_7 ?a_8 ?l_8 ?c_8 ?k_8 ?a_9 ?l_9 ?c_9 ?k_9 ?a_10 ?l_10 ?c_10 ?k_10 ?a_11 ?l_11 ?c_11 ?k_11 ?a_12 ?l_12 ?c_12 ?k_12 ?mI ?lI ?cI ?kI ?mS ?lS ?cS ?kS ?z_int ?z_len ?z_abs ?z_divmod ?z_max ?z_min ?z_range ?z_all ?z_isinstance ?z_bool ?z_str ?z_tuple ?z_set ?z_enumerate ?z_sorted ?z_repr ?z_ValueError ?w_0 ?w_1 ?w_2 ?w_3 ?hA
    (case nE => k_is)
    (case nI => k_is)
    (case nV => k_is)
    (case nC => k_is)
    (case lC => k_is)
    (case xE => k_is)
    (case lE => k_is)
    (case yE => k_is)
    (case a_0 => k_is)
    (case l_0 => k_is)
    (case c_0 => k_is)
    (case k_0 => k_is)
    (case a_1 => k_is)
    (case l_1 => k_is)
    (case c_1 => k_is)
    (case k_1 => k_is)
    (case a_2 => k_is)
    (case l_2 => k_is)
    (case c_2 => k_is)
    (case k_2 => k_is)
    (case a_3 => k_is)
    (case l_3 => k_is)
    (case c_3 => k_is)
    (case k_3 => k_is)
    (case a_4 => k_is)
    (case l_4 => k_is)
    (case c_4 => k_is)
    (case k_4 => k_is)
    (case a_5 => k_is)
    (case l_5 => k_is)
    (case c_5 => k_is)
    (case k_5 => k_is)
    (case a_6 => k_is)
    (case l_6 => k_is)
    (case c_6 => k_is)
    (case k_6 => k_is)
    (case a_7 => k_is)
    (case l_7 => k_is)
    (case c_7 => k_is)
    (case k_7 => k_is)
    (case a_8 => k_is)
    (case l_8 => k_is)
    (case c_8 => k_is)
    (case k_8 => k_is)
    (case a_9 => k_is)
    (case l_9 => k_is)
    (case c_9 => k_is)
    (case k_9 => k_is)
    (case a_10 => k_is)
    (case l_10 => k_is)
    (case c_10 => k_is)
    (case k_10 => k_is)
    (case a_11 => k_is)
    (case l_11 => k_is)
    (case c_11 => k_is)
    (case k_11 => k_is)
    (case a_12 => k_is)
    (case l_12 => k_is)
    (case c_12 => k_is)
    (case k_12 => k_is)
    (case mI => k_is)
    (case lI => k_is)
    (case cI => k_is)
    (case kI => k_is)
    (case mS => k_is)
    (case lS => k_is)
    (case cS => k_is)
    (case kS => k_is)
    (case z_int => k_is)
    (case z_len => k_is)
    (case z_abs => k_is)
    (case z_divmod => k_is)
    (case z_max => k_is)
    (case z_min => k_is)
    (case z_range => k_is)
    (case z_all => k_is)
    (case z_isinstance => k_is)
    (case z_bool => k_is)
    (case z_str => k_is)
    (case z_tuple => k_is)
    (case z_set => k_is)
    (case z_enumerate => k_is)
    (case z_sorted => k_is)
    (case z_repr => k_is)
    (case z_ValueError => k_is)
    (case w_0 => k_is)
    (case w_1 => k_is)
    (case w_2 => k_is)
    (case w_3 => k_is)
    (case hA => kernel_rfl)
