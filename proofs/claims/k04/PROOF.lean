import PyProof.Rows.All
import Wide.All
import OpenK.AllK
import Wide.FinOn
import HandS.ForMost
import PyProof.ReprRoads
import HandS.IsInst
import HandS.Walk
import KE.KExcInit
import KE.KIsAll
import HandS.ForExc
import HandS.ExcInit
import HandS.ExcIs
import KE.KExcIs
import HandS.ExcValue
import HandS.TryOnly
import HandS.RaiseFrom
import HandS.SuiteRaise
import HandS.WordsExc
import HandS.Star
import KE.GoesEnum
import KE.GoesMore
import HandS.SetKeys
import HandS.FStr
import HandS.DictComp
import HandS.More
import HandS.RaiseMore
import KE.KCallOwn
import HandS.Lambda
import HandS.EndBits
import PyProof.StrLawsChain
import PyProof.StrLawsTight
import PyProof.Rows.StrMeet
import HandS.ClsMeth
import HandS.OwnEq
import PyProof.InstEq
import PyProof.ReprNest
import PyProof.ReprDict
import HandS.SetFor
import HandS.TupAny
import PyProof.SeqRoads2
import HandS.Sort
import HandS.SortOrd
import HandS.SortRule
import PyProof.Rows.SortKeyStr
import PyProof.StrOps
import PyProof.Conv_bool
import HandS.Flow
import HandS.Text
import HandS.SetTxt0
import PyProof.ListNew
import PyProof.StrWalks
import PyProof.SetRoads
import HandS.Replace
import HandS.Style
import HandS.Iter
import KE.DataMinMax
import KE.KIntText
import PyProof.Rows.StrSplitAre
import PySem.Challenge.RW_stackquotes_k04_programs_made
set_option Elab.async false
set_option linter.all false
set_option maxRecDepth 100000
set_option maxHeartbeats 4000000
/-! Promises of defs that ask for a repr: they hold where no repr is under way (no guard on the stack). -/
namespace SQ
open PySem PySem.Spec PyProof.Rows L2

/-- what a def keeps when it is called where nothing guards -/
structure FnG (P : Program) (w : World) (K : PySem.W.Frag) (mg : Str → Option Value)
    (base : Heap) (CX : CXT) (k : Nat) (f : Addr) (fd : FuncData) (ps : List Str) (sp : Sp) : Prop where
  len : ∀ vs H Q E, sp vs H Q E → vs.length = ps.length
  go : ∀ (A : Around), A.guards = some [] → ∀ (outer : List Env) (s : Shared) (H : Hp)
    (args : Args) (us : List Value) (vs : List V) (Q : VK) (E : XK), Room k A →
    Env0 P w K mg base A outer s H → BindsTo s fd args (ps.zip us) → Vals vs us →
    sp vs H Q E → codeAny (model P w) A (.call (.ref f) args) (CR CX outer P w H s Q E) s
theorem FnG.of {P : Program} {w : World} {K : PySem.W.Frag} {mg : Str → Option Value} {base : Heap} {CX : CXT} {k : Nat} {f : Addr}
    {fd : FuncData} {ps : List Str} {sp : Sp} (F : FnOk P w K mg base CX k f fd ps sp) : FnG P w K mg base CX k f fd ps sp :=
  ⟨F.len, fun A _ outer s H args us vs Q E => F.run A outer s H args us vs Q E⟩

theorem deeper_guards {A : Around} {e : Env} (h : A.guards = some []) : (A.deeper e).guards = some [] := by
  first
    | exact h
    | (unfold Around.deeper; exact h)
    | simpa [Around.deeper] using h

section
variable {P : Program} {w : World} {K : PySem.W.Frag} {mg : Str → Option Value} {base : Heap}
/-- a def of the text, by its body: nothing leaves it as an error -/
theorem okG {x qual : Str} {st : Stmt} {f : Addr} {fd : FuncData} {N ps : List Str} {k : Nat} {sp : Sp}
    (F : Fun K x qual st f fd) (S : FnScope N ps (defScope st))
    (len : ∀ vs H Q E, sp vs H Q E → vs.length = ps.length)
    (hb : ∀ (cdv : Value) (A : Around) (outer : List Env) (s : Shared) (H : Hp) (vs : List V) (Q : VK) (E : XK),
      (A.deeper (envOfC qual (defScope st) s.heap.objs.size f cdv)).guards = some [] →
      Room k (A.deeper (envOfC qual (defScope st) s.heap.objs.size f cdv)) → sp vs H Q E →
      ∃ t, PSs (cxOf CX0 P w K mg base N qual (defScope st) f cdv A outer s H E).nox (defBody st) t ∧
        t { nx := fun _ H' => Q .non H', rt := Q } (start N vs) H) :
    FnG P w K mg base CX0 (k + 1) f fd ps sp := by
  obtain ⟨oc, od, kV, doc, pm, an, cdv, ct, osl, rfl, lk, hcd⟩ := F.ex
  refine ⟨len, fun A hgd outer s H args us vs Q E hroom en bnd rel hsp => ?_⟩
  have nargs := len _ _ _ _ hsp
  have old : ∀ b o, base.get? b = some o → s.heap.get? b = some o := fun b o q => (en.bs b o q).1
  have kin := en.mod.kin.keeps old
  have nol := en.mod.nolimit.keeps old
  have kinds : ∀ y ∈ ps.zip us, (defScope st).names.lookup y.1 = some .local ∨
      ((defScope st).names.lookup y.1 = some .cell ∧
        ((cellsFrom (s.heap.objs.size + 1) (defScope st).names []).lookup y.1).isSome = true) := by
    rintro ⟨n, v⟩ hy
    rcases S.par n (List.of_mem_zip hy).1 with q | q
    · exact Or.inl q
    · exact Or.inr ⟨q, PySem.W.cellsFrom_some _ _ _ (Or.inl q)⟩
  refine codeAny_call_function hroom.depth (kin _ _ lk) rfl S.co S.gen rfl
    (PySem.W.codeRec_of kin hcd) (bnd _ _ _ _ ?_)
  refine wpAny_newFunctionEnv_cells S.kind kinds ?_
  intro env he s1 ic
  subst he
  refine ⟨nol.keeps ic.toInCall.keep, codeAny_func ?_⟩
  obtain ⟨t, ht, hq⟩ := hb cdv A outer s H vs Q E (deeper_guards hgd) (hroom.deeper _) hsp
  have inv := inv_start (CX := CX0) (E := E) S hroom.hd en nargs rel ic
  refine wpAny_mono (ht.nox.run [] s1 (start N vs) H _ inv hq) ?_ fun e s' hs => hs
  intro fl s' hs
  cases fl with
  | ret u =>
    obtain ⟨v, σ', H', J, rv, q⟩ := hs
    exact ⟨v, H', J.os, J.bare, J.base, J.hok, rv, q⟩
  | next =>
    obtain ⟨σ', H', J, q⟩ := hs
    exact ⟨V.non, H', J.os, J.bare, J.base, J.hok, rfl, q⟩
  | brk =>
    obtain ⟨_, _, _, q⟩ := hs
    exact q.elim
  | cont =>
    obtain ⟨_, _, _, q⟩ := hs
    exact q.elim
end

section
variable {X : Cx} {CX : CXT} {k : Nat} {f : Addr} {fd : FuncData} {ps : List Str} {sp : Sp} {E : XK}
  {x : Str} {p pos : Pos} {e : Expr} {es : List Expr} {t : TA}
/-- f(e, ..), f such a def -/
theorem pe_callG (F : FnG X.prog X.w X.K X.mg X.base CX k f fd ps sp) (hgd : X.A.guards = some []) (hr : Room k X.A)
    (hg : Gl X x) (hm : X.mg x = some (.ref f)) (hk : PySem.W.keepIn X.K (.ref f) = true) (hb : Binds X.K fd ps [])
    (hx : Passes CX X E) (ha : PA X (e :: es) t) (hdb : (x == ("__debug__" : Str)) = false := by decide)
    (he : starEach (e :: es) X.env = (false, eval e X.env) :: starEach es X.env := by rfl)
    (hpl : (backTo pos (starEach es X.env)).any (·.1) = false := by rfl) :
    PE X (.Call (.Name x p) (e :: es) [] pos) (tCall sp [] E t) := by
  constructor
  intro pins s σ H Q I h
  refine wpAny_Call_Name_kw (ld_glob I hg hm ?_ hdb)
  refine PySem.W.callWith_K (h₀ := X.base) I.ok.mod.kin hk (thn (ha.run pos pins s σ H _ I h) ?_) he hpl
  intro us s1 ⟨vs, H1, I1, r, q⟩
  refine ⟨I1.kIn, ?_⟩
  have r2 : Vals (vs ++ []) (us ++ []) := r.append .nil
  have hl : (us ++ []).length = ps.length := by
    rw [← r2.length]
    exact F.len _ _ _ _ q
  show wpAny _ _ (call (.ref f) us) _ _ _
  refine wpAny_call (codeAny_mono (F.go X.A hgd X.stack s1 H1 ⟨us, []⟩ (us ++ []) (vs ++ []) Q E hr I1.env0
    (hb s1 us I1.kIn hl) r2 q) ?_)
  intro r s' hq
  rcases r with er | (_ | _ | _ | u)
  · exact hx pins σ H1 s1 er s' I1 hq
  · exact hq.elim
  · exact hq.elim
  · exact hq.elim
  · exact I1.after hq
end

end SQ
/-! repr of a list of data. -/
namespace SQ
open PySem PySem.Spec PyProof.Rows L2

mutual
theorem dp_plain {K : PySem.W.Frag} {H : Hp} : ∀ (d : PyData) (v : V), Dp K H v d → d.hasDict = false
  | .none, _, _ => by simp only [PyData.hasDict]
  | .bool _, _, _ => by simp only [PyData.hasDict]
  | .int _, _, _ => by simp only [PyData.hasDict]
  | .str _, _, _ => by simp only [PyData.hasDict]
  | .list ds, _, h => by
    cases h with
    | lst _ ha =>
      simp only [PyData.hasDict]
      exact dpAll_plain ds _ ha
  | .tuple ds, _, h => by
    cases h with
    | tup _ ha =>
      simp only [PyData.hasDict]
      exact dpAll_plain ds _ ha
  | .dict _, _, h => nomatch h
theorem dpAll_plain {K : PySem.W.Frag} {H : Hp} : ∀ (ds : List PyData) (vs : List V), DpAll K H vs ds → PyData.hasDictAll ds = false
  | [], _, _ => by simp only [PyData.hasDictAll]
  | d :: ds, _, h => by
    cases h with
    | cons h1 h2 =>
      simp only [PyData.hasDictAll, dp_plain d _ h1, dpAll_plain ds _ h2, Bool.or_false]
end

/-- None, a bool, an int, a text, an empty dict -/
inductive Flat (H : Hp) : V → PyData → Prop
  | non : Flat H .non .none
  | bl (b : Bool) : Flat H (.bl b) (.bool b)
  | int (i : Int) : Flat H (.int i) (.int i)
  | str (x : Str) : Flat H (.str x) (.str x)
  | dic {a : Addr} (h : H a = some (.dK [])) : Flat H (.ref a) (.dict [])
inductive FlatAll (H : Hp) : List V → List PyData → Prop
  | nil : FlatAll H [] []
  | cons {v : V} {vs : List V} {d : PyData} {ds : List PyData} : Flat H v d → FlatAll H vs ds → FlatAll H (v :: vs) (d :: ds)

section
variable {X : Cx} {pins : List (Addr × Obj)} {σ : L2.St} {H : Hp} {s : Shared}
theorem flat_reads (I : Inv X pins σ H s) {d : PyData} {v : V} {u : Value} (h : Flat H v d) (r : RelV v u) :
    ∃ as, Reads s.heap u d as ∧ sysModules ∉ as := by
  cases h with
  | non =>
    obtain rfl : u = Value.none := r
    exact ⟨_, Reads.none, by simp⟩
  | bl b =>
    obtain rfl : u = Value.bool b := r
    exact ⟨_, Reads.bool b, by simp⟩
  | int i =>
    obtain ⟨t, rfl⟩ := r
    exact ⟨_, Reads.int i t, by simp⟩
  | str x =>
    obtain ⟨t, rfl⟩ := r
    exact ⟨_, Reads.str x t, by simp⟩
  | @dic a ha =>
    obtain rfl : u = Value.ref a := r
    obtain ⟨_, na, vs, kv, o, es, ep, h1, h2, h3, h4⟩ := (show ObjOk X.prog X.w H s.heap a (.dK []) from I.hok a _ ha)
    cases kv
    have he : es.toList = [] := by
      have h5 := h4.2.1
      generalize es.toList = l at h5
      cases h5
      rfl
    refine ⟨a :: [] ++ [], Reads.dict (kvs := []) h1 h2.1 h3 (by rw [he]; exact .nil) (by rw [he]; exact .nil), ?_⟩
    intro hm
    have e : sysModules = a := by simpa using hm
    rw [← e] at na
    exact absurd na (by decide)
theorem flatAll_reads (I : Inv X pins σ H s) : ∀ {ds : List PyData} {vs : List V} {us : List Value}, FlatAll H vs ds → Vals vs us →
    ∃ as, ReadsAll s.heap us ds as ∧ sysModules ∉ as
  | _, _, _, .nil, .nil => ⟨[], .nil, by simp⟩
  | _, _, _, .cons h hs, .cons r rs => by
    obtain ⟨as, a1, a2⟩ := flat_reads I h r
    obtain ⟨bs, b1, b2⟩ := flatAll_reads I hs rs
    exact ⟨_, .cons a1 b1, fun hm => (List.mem_append.mp hm).elim a2 b2⟩
end

/-- repr of a list, its items ds -/
def rReprL (K : PySem.W.Frag) : List V → Hp → VK → Prop := fun xs H Q => ∃ (a : Addr) (vs : List V) (ds : List PyData), xs = [.ref a] ∧ SqL K H a vs ∧
  (DpAll K H vs ds ∨ FlatAll H vs ds) ∧ (PyData.list ds).showable = true ∧ (PyData.list ds).depth ≤ 60 ∧ (PyData.list ds).shown.length ≤ sizeLine ∧ Q (.str (PyData.list ds).shown) H
theorem cr_reprL {X : Cx} (hg : X.A.guards = some []) (hu : X.A.units + 64 < cLine) : CallR X (.builtin "repr") (rReprL X.K) := by
  intro pins s σ H xs us Q I r h
  obtain ⟨a, vs, ds, rfl, hL, hd, hs, hdp, hz, q⟩ := h
  obtain ⟨its, rv, ⟨o, n, e, c, _, dt⟩, _⟩ := I.list hL
  rw [Vals.ref1 r]
  have fin : ∀ (h' : Heap) (u tk : Nat), (∀ b o, s.heap.get? b = some o → h'.get? b = some o) → EP X pins σ Q (.str (PyData.list ds).shown u) { s with heap := h', toks := tk } :=
    fun h' u tk hk => ⟨.str _, H, I.kept hk, ⟨u, rfl⟩, q⟩
  rcases hd with hd | hd
  · obtain ⟨as, rd⟩ := Dp.reads I (.list ds) (.ref a) (.ref a) (.lst hL hd) rfl
    exact repr_of_reads' (h₀ := s.heap) rd hs (PyData.noDict_hsm (dp_plain _ _ (Dp.lst hL hd))) hg (by omega) (fun _ _ z => z) fin hz
  · obtain ⟨as, h4, hno⟩ := flatAll_reads I hd rv
    have hz' : (listText (PyData.shownAll ds)).length ≤ sizeLine := by simpa only [PyData.shown] using hz
    have hs' : PyData.showableAll ds = true := by simpa [PyData.showable] using hs
    obtain ⟨bs, hb, hk⟩ := ReprAllK.of_readsAll (prog := X.prog) (w := X.w) h4 hs' (fun _ => hno) (fun t ht => Nat.le_trans (listText_mem_le ht) hz')
    have whole : Reads s.heap (.ref a) (.list ds) (a :: as) := .list (vs := its.toArray) e c dt (by simpa using h4)
    have hna : a ∉ bs := not_mem_of_deeper whole (by simp only [PyData.depth]; omega) hb
    refine call_repr_slot (by omega) ⟨o, e, c⟩ F.slot_list_repr.toG ?_
    simp only [PyData.depth] at hdp
    have fin' : ∀ (h' : Heap) (u tk : Nat), (∀ b o, s.heap.get? b = some o → h'.get? b = some o) →
        (∃ x t, Value.str (listText (PyData.shownAll ds)) u = .str x t ∧ EP X pins σ Q (.str (listText (PyData.shownAll ds)) u) { s with heap := h', toks := tk }) :=
      fun h' u tk z => ⟨_, _, rfl, by have := fin h' u tk z; simpa only [PyData.shown] using this⟩
    cases its with
    | nil =>
      cases h4
      simp only [PyData.shownAll, listText_nil] at fin'
      exact call_list_repr_empty ⟨o, e, c⟩ e dt (fin' s.heap _ _ fun _ _ z => z)
    | cons y l =>
      exact call_list_reprK (h₀ := s.heap) e c dt hna (by simpa using hk.length_eq) (fun i y e => hk.item i y (by simpa using e)) hg (fun b _ => Clear.nil b)
        (by show X.A.units + 1 + (PyData.depthAll ds + 1) < cLine; omega) (fun _ _ z => z) fin' hz'
end SQ
namespace SQ4
open PySem L2 SQ
/-! ### the law's frame: the urn, the draws, the law itself -/
def top (i : Nat) : Stmt := PySem.Challenge.pw_stackquotes_k04_programs_made.main.body.getD i (.Pass ⟨0, 0, 0, 0⟩)
abbrev sUrn : Stmt := top 61
abbrev sLot : Stmt := top 62
abbrev sOne : Stmt := top 63
abbrev sRight : Stmt := top 77
abbrev sLaw : Stmt := top 78
/-- the built-ins' names are still theirs -/
structure Blt (mg : Str → Option Value) : Prop where
  int : mg "int" = none
  len : mg "len" = none
  abs : mg "abs" = none
  divmod : mg "divmod" = none
  max : mg "max" = none
  min : mg "min" = none
  range : mg "range" = none
  all : mg "all" = none
/-- all that stood stands, but at u -/
def But (u : Addr) (H H' : Hp) : Prop := ∀ b o, H b = some o → b ≠ u → H' b = some o
theorem But.refl {u : Addr} {H : Hp} : But u H H := fun _ _ e _ => e
theorem But.trans {u : Addr} {H H1 H2 : Hp} (a : But u H H1) (b : But u H1 H2) : But u H H2 := fun c o e n => b c o (a c o e n) n
theorem But.new {u p : Addr} {H H' : Hp} {o : HO} (a : But u H H') (h : H' p = none) : But u H (upd H' p o) := fun c x e n => by
  have e1 := a c x e n
  rw [upd_ne (ne_of_none e1 h)]
  exact e1
theorem But.put {u : Addr} {H H' : Hp} {o : HO} (a : But u H H') : But u H (upd H' u o) := fun c x e n => by
  rw [upd_ne n]
  exact a c x e n
theorem Same.but {u : Addr} {H H' : Hp} (a : Same H H') : But u H H' := fun c x e _ => a c x e
theorem same_new {p : Addr} {H H' : Hp} {o : HO} (a : Same H H') (h : H' p = none) : Same H (upd H' p o) := fun c x e => by
  have e1 := a c x e
  rw [upd_ne (ne_of_none e1 h)]
  exact e1
theorem keptT {σ : St} {H : Hp} {A B : Hp → Prop} (h : A H) : tYes σ H (fun b H3 => if b = true then A H3 else B H3) := by
  show (if true = true then A H else B H)
  rw [if_pos rfl]
  exact h
def urnAt (H : Hp) (u : Addr) : Prop := ∃ x y z : Int, H u = some (.lst [.int x, .int y, .int z])
def spUrn (K : PySem.W.Frag) : Sp := fun vs H Q _ => ∃ (a : Addr) (ns : List Int) (k : Nat), vs = [.ref a, .int k] ∧ SqL K H a (ns.map V.int) ∧ k ≤ 63 ∧
  ∀ (H' : Hp) (p : Addr), Same H H' → H p = none → urnAt H' p → Q (.ref p) H'
def spLot : Sp := fun vs H Q _ => ∃ (u : Addr) (m : Int), vs = [.ref u, .int m] ∧ urnAt H u ∧ 0 < m ∧ m < 1073741824 ∧
  ∀ (H' : Hp) (d : Int), 0 ≤ d → d < m → urnAt H' u → But u H H' → Q (.int d) H'
def spOne (K : PySem.W.Frag) : Sp := fun vs H Q _ => ∃ (u t : Addr) (xs : List V), vs = [.ref u, .ref t] ∧ urnAt H u ∧ u ≠ t ∧ H t = some (.lst xs) ∧ 0 < xs.length ∧ xs.length ≤ 1000 ∧
  ∀ (H' : Hp) (i : Nat) (x : V), xs[i]? = some x → urnAt H' u → But u H H' → Q x H'
def spRight : Sp := fun vs H Q _ => ∃ u : Addr, vs = [.ref u] ∧ urnAt H u ∧ ∀ H' : Hp, But u H H' → Q (.bl true) H'
def spLaw (K : PySem.W.Frag) : Sp := fun vs H Q _ => ∃ (a : Addr) (ns : List Int), vs = [.ref a] ∧ SqL K H a (ns.map V.int) ∧ ns.length ≤ 63 ∧ ∀ H', Q (.bl true) H'
section
variable {P : Program} {w : World} {K : PySem.W.Frag} {mg : Str → Option Value} {base : Heap}
theorem scU : FnScope ["_law_script", "_law_k", "_law_mixed_here", "_law_entry", "_law_own"] ["_law_script", "_law_k"] (defScope sUrn) := ⟨rfl, rfl, rfl, by decide +kernel, rfl, by decide +kernel, by decide +kernel⟩
theorem ok_urn {f : Addr} {fd : FuncData} (F : Fun K "_law_urn" "_law_urn" sUrn f fd) (B : Blt mg) : FnOk P w K mg base CX0 1 f fd ["_law_script", "_law_k"] (spUrn K) := by
  refine F.ok scU (fun vs H Q E h => ?_) (fun cdv A outer s H vs Q E hr h => ?_)
  · obtain ⟨a, ns, k, rfl, _⟩ := h
    rfl
  · obtain ⟨a, ns, k, rfl, hS, hk, q⟩ := h
    refine ⟨_, pss_cons (ps_set (i := 2) scU.nd rfl (.inl rfl) (pe_op op_add pe_int (pe_op op_mul pe_int (pv 1))))
      (pss_cons (ps_for PassesOwn.never rfl (pi_list (pe_slice sl_list (pv 0) po_none (po_some pe_int))) (pg_name (i := 3) scU.nd rfl (.inl rfl))
        (pss_one (ps_set (i := 2) scU.nd rfl (.inl rfl) (pe_op op_mod (pe_callTy call_int1 (by rfl) B.int (by decide +kernel)
          (pa_cons (pe_op op_add (pe_op op_mul (pv 2) pe_int) (pe_op op_mod (pe_callTy call_int1 (by rfl) B.int (by decide +kernel) (pa_cons (pv 3) pa_nil)) pe_int)) pa_nil)) pe_int))))
      (pss_cons (ps_set (i := 4) scU.nd rfl (.inl rfl) (pe_ifExp (pt_cmpR op_lt (pv 1) (pe_callB call_len_seq (by rfl) B.len PySem.boot_len (pa_cons (pv 0) pa_nil)) (nomark _))
        (pe_callTy call_int1 (by rfl) B.int (by decide +kernel) (pa_cons (pe_ix ix_list (pv 0) (pv 1) (fun _ _ => rfl)) pa_nil))
        (pe_op op_add (pe_op op_mul pe_int (pv 1)) pe_int)))
      (pss_one (ps_ret (pe_lst (pa_cons (pe_ifExp (PW.pt (pw_or (pt_cmpR op_lt (pv 4) pe_int (nomark _)) (pw_or1 (pt_cmpR op_ge (pv 4) (pe_op op_pow pe_int pe_int) (nomark _)))))
          (pe_callB call_abs (by rfl) B.abs (by decide +kernel) (pa_cons (pv 4) pa_nil)) pe_int)
        (pa_cons (pe_op op_mod (pe_callTy call_int1 (by rfl) B.int (by decide +kernel) (pa_cons (pe_op op_add (pe_op op_mul (pv 2) pe_int) (pe_op op_mod (pv 4) pe_int)) pa_nil)) pe_int)
        (pa_cons pe_int pa_nil)))))))), ?_⟩
    -- mixed
    refine ⟨_, rfl, _, _, rfl, rfl, .inl ⟨by decide, by decide⟩, _, _, rfl, rfl, ?_⟩
    -- the slice
    refine ⟨_, rfl, _, rfl, a, _, rfl, hS, fun p hp => ?_⟩
    have hp' : SqL K (upd H p (.lst (cutV (ns.map V.int) none (some 14)))) p (cutV (ns.map V.int) none (some 14)) := SqL.of upd_same
    have s1 : Same H (upd H p (.lst (cutV (ns.map V.int) none (some 14)))) := same_new (fun _ _ e => e) hp
    refine ⟨p, rfl, ⟨_, hp'⟩, for_list (K := K) (a := p) (xs := cutV (ns.map V.int) none (some 14))
      (fun i σ H2 => ∃ (m : Int) (v : Option V), σ = [some (.ref a), some (.int k), some (.int m), v, none] ∧ H2 = upd H p (.lst (cutV (ns.map V.int) none (some 14))))
      ⟨_, _, rfl, rfl⟩ (fun i σ H2 _ ⟨_, _, _, e2⟩ => by rw [e2]; exact hp') ?_ ?_⟩
    · rintro i y σ H2 hi ⟨m, v, rfl, rfl⟩
      obtain ⟨z, rfl⟩ : ∃ z, y = V.int z := by
        have hm : y ∈ ns.map V.int := List.mem_of_mem_drop (List.mem_of_mem_take (List.mem_of_getElem? hi))
        obtain ⟨z, _, e⟩ := List.mem_map.mp hm
        exact ⟨z, e.symm⟩
      refine ⟨_, rfl, _, _, rfl, rfl, .inr ⟨by decide, by decide⟩, _, rfl, .inl ⟨_, rfl, _, _, rfl, rfl, (by show (0 : Int) < 1999999973; decide), _, _, rfl, rfl, .inl ⟨_, rfl, _, _, rfl, rfl, (by show (0 : Int) < 1999999973; decide), ?_⟩⟩⟩
      exact ⟨_, _, rfl, rfl⟩
    · rintro σ H2 ⟨m, v, rfl, rfl⟩
      have hS2 := s1.seq hS
      -- own
      refine ⟨_, rfl, _, rfl, a, _, rfl, .inl hS2, _, _, rfl, rfl, _, rfl, ?_⟩
      refine ite2 (fun hlt => ?_) (fun _ => ?_)
      · have hlt' : (k : Int) < ((ns.map V.int).length : Int) := of_decide_eq_true hlt
        have hk2 : k < ns.length := by rw [List.length_map] at hlt'; omega
        refine ⟨_, rfl, _, rfl, a, _, _, _, rfl, rfl, hS2, atI_nat (by rw [List.getElem?_map, List.getElem?_eq_getElem hk2]; rfl), .inl ⟨_, rfl, ?_⟩⟩
        refine ⟨_, rfl, _, _, rfl, rfl, _, rfl, ?_⟩
        refine ite2 (fun _ => iteT ?_) (fun _ => ⟨_, rfl, _, _, rfl, rfl, ⟨by decide, by decide, by decide⟩, _, _, rfl, rfl, _, rfl, ite2 (fun _ => ?_) (fun _ => ?_)⟩)
        · refine ⟨_, rfl, _, rfl, ?_⟩
          exact ⟨_, rfl, _, _, rfl, rfl, .inr ⟨by decide, by decide⟩, _, rfl, _, _, rfl, rfl, (by show (0 : Int) < 1999999973; decide), _, _, rfl, rfl, .inl ⟨_, rfl, _, _, rfl, rfl, (by show (0 : Int) < 1999999973; decide),
            (by show 3 ≤ sizeLine; decide), fun p2 hp2 => q _ p2 (same_new s1 hp2) (s1.free hp2) ⟨_, _, _, upd_same⟩⟩⟩
        · refine ⟨_, rfl, _, rfl, ?_⟩
          exact ⟨_, rfl, _, _, rfl, rfl, .inr ⟨by decide, by decide⟩, _, rfl, _, _, rfl, rfl, (by show (0 : Int) < 1999999973; decide), _, _, rfl, rfl, .inl ⟨_, rfl, _, _, rfl, rfl, (by show (0 : Int) < 1999999973; decide),
            (by show 3 ≤ sizeLine; decide), fun p2 hp2 => q _ p2 (same_new s1 hp2) (s1.free hp2) ⟨_, _, _, upd_same⟩⟩⟩
        · exact ⟨_, rfl, _, _, rfl, rfl, .inr ⟨by decide, by decide⟩, _, rfl, _, _, rfl, rfl, (by show (0 : Int) < 1999999973; decide), _, _, rfl, rfl, .inl ⟨_, rfl, _, _, rfl, rfl, (by show (0 : Int) < 1999999973; decide),
            (by show 3 ≤ sizeLine; decide), fun p2 hp2 => q _ p2 (same_new s1 hp2) (s1.free hp2) ⟨_, _, _, upd_same⟩⟩⟩
      · refine ⟨_, rfl, _, _, rfl, rfl, .inl ⟨by decide, by decide⟩, _, _, rfl, rfl, ?_⟩
        refine ⟨_, rfl, _, _, rfl, rfl, _, rfl, ?_⟩
        refine ite2 (fun _ => iteT ?_) (fun _ => ⟨_, rfl, _, _, rfl, rfl, ⟨by decide, by decide, by decide⟩, _, _, rfl, rfl, _, rfl, ite2 (fun _ => ?_) (fun _ => ?_)⟩)
        · refine ⟨_, rfl, _, rfl, ?_⟩
          exact ⟨_, rfl, _, _, rfl, rfl, .inr ⟨by decide, by decide⟩, _, rfl, _, _, rfl, rfl, (by show (0 : Int) < 1999999973; decide), _, _, rfl, rfl, .inl ⟨_, rfl, _, _, rfl, rfl, (by show (0 : Int) < 1999999973; decide),
            (by show 3 ≤ sizeLine; decide), fun p2 hp2 => q _ p2 (same_new s1 hp2) (s1.free hp2) ⟨_, _, _, upd_same⟩⟩⟩
        · refine ⟨_, rfl, _, rfl, ?_⟩
          exact ⟨_, rfl, _, _, rfl, rfl, .inr ⟨by decide, by decide⟩, _, rfl, _, _, rfl, rfl, (by show (0 : Int) < 1999999973; decide), _, _, rfl, rfl, .inl ⟨_, rfl, _, _, rfl, rfl, (by show (0 : Int) < 1999999973; decide),
            (by show 3 ≤ sizeLine; decide), fun p2 hp2 => q _ p2 (same_new s1 hp2) (s1.free hp2) ⟨_, _, _, upd_same⟩⟩⟩
        · exact ⟨_, rfl, _, _, rfl, rfl, .inr ⟨by decide, by decide⟩, _, rfl, _, _, rfl, rfl, (by show (0 : Int) < 1999999973; decide), _, _, rfl, rfl, .inl ⟨_, rfl, _, _, rfl, rfl, (by show (0 : Int) < 1999999973; decide),
            (by show 3 ≤ sizeLine; decide), fun p2 hp2 => q _ p2 (same_new s1 hp2) (s1.free hp2) ⟨_, _, _, upd_same⟩⟩⟩
theorem scLo : FnScope ["_law_urn_here", "_law_many", "_law_digit"] ["_law_urn_here", "_law_many"] (defScope sLot) := ⟨rfl, rfl, rfl, by decide +kernel, rfl, by decide +kernel, by decide +kernel⟩
theorem ok_lot {f : Addr} {fd : FuncData} (F : Fun K "_law_lot" "_law_lot" sLot f fd) (B : Blt mg) : FnOk P w K mg base CX0 1 f fd ["_law_urn_here", "_law_many"] spLot := by
  refine F.ok scLo (fun vs H Q E h => ?_) (fun cdv A outer s H vs Q E hr h => ?_)
  · obtain ⟨u, m, rfl, _⟩ := h
    rfl
  · obtain ⟨u, m, rfl, ⟨x, y, z, hu⟩, m0, m1, q⟩ := h
    refine ⟨_, pss_cons (ps_if (pt_cmpR op_gt (pe_ix ix_list (pv 0) pe_int (fun _ _ => rfl)) pe_int (nomark _))
        (pss_cons (ps_asg (pe_callB call_divmod (by rfl) B.divmod (by decide +kernel) (pa_cons (pe_callTy call_int1 (by rfl) B.int (by decide +kernel) (pa_cons (pe_ix ix_list (pv 0) pe_int (fun _ _ => rfl)) pa_nil)) (pa_cons (pv 1) pa_nil)))
          (pg_tup rfl (pgs_cons (pg_sub (pv 0) pe_int set_list) (pgs_cons (pg_name (i := 2) scLo.nd rfl (.inl rfl)) pgs_nil))))
        (pss_one (ps_ret (pv 2)))) pss_nil)
      (pss_cons (ps_asg (pe_op op_add (pe_ix ix_list (pv 0) pe_int (fun _ _ => rfl)) pe_int) (pg_sub (pv 0) pe_int set_list))
      (pss_cons (ps_asg (pe_op op_mod (pe_callTy call_int1 (by rfl) B.int (by decide +kernel) (pa_cons (pe_op op_add (pe_op op_add (pe_op op_mul (pe_ix ix_list (pv 0) pe_int (fun _ _ => rfl)) pe_int)
          (pe_op op_mul (pe_op op_fdiv (pe_ix ix_list (pv 0) pe_int (fun _ _ => rfl)) pe_int) pe_int)) (pe_op op_mul pe_int (pe_ix ix_list (pv 0) pe_int (fun _ _ => rfl)))) pa_nil)) pe_int) (pg_sub (pv 0) pe_int set_list))
      (pss_one (ps_ret (pe_op op_mod (pe_callTy call_int1 (by rfl) B.int (by decide +kernel) (pa_cons (pe_op op_fdiv (pe_ix ix_list (pv 0) pe_int (fun _ _ => rfl)) pe_int) pa_nil)) (pv 1)))))), ?_⟩
    refine ⟨_, rfl, u, _, _, _, rfl, rfl, SqL.of hu, rfl, _, _, rfl, rfl, _, rfl, ?_⟩
    refine ite2 (fun _ => ?_) (fun _ => ?_)
    · refine ⟨_, rfl, u, _, _, _, rfl, rfl, SqL.of hu, rfl, .inl ⟨_, rfl, _, rfl, _, _, rfl, ⟨m0, m1⟩, fun p hp => ?_⟩⟩
      have hup : u ≠ p := ne_of_none hu hp
      refine ⟨p, _, rfl, SqT.of upd_same, rfl, _, _, rfl, ⟨_, rfl, u, _, _, 0, rfl, rfl, by rw [upd_ne hup]; exact hu, rfl, _, _, rfl, rfl, ?_⟩⟩
      refine ⟨_, rfl, q _ _ (Int.emod_nonneg _ (by omega)) (Int.emod_lt_of_pos _ m0) ⟨_, _, _, upd_same⟩ ((But.refl.new hp).put)⟩
    · refine ⟨_, rfl, u, _, _, _, rfl, rfl, SqL.of hu, rfl, _, _, rfl, rfl, _, rfl, u, _, _, 2, rfl, rfl, hu, rfl, ?_⟩
      have h1 : (upd H u (.lst ([V.int x, V.int y, V.int z].set 2 (V.int (z + 1))))) u = some (.lst [V.int x, V.int y, V.int (z + 1)]) := upd_same
      refine ⟨_, rfl, u, _, _, _, rfl, rfl, SqL.of h1, rfl, _, _, rfl, rfl, .inr ⟨by decide, by decide⟩,
        _, rfl, u, _, _, _, rfl, rfl, SqL.of h1, rfl, _, _, rfl, rfl, ⟨by decide, by decide⟩, _, _, rfl, rfl, .inr ⟨by decide, by decide⟩, _, _, rfl, rfl,
        _, rfl, u, _, _, _, rfl, rfl, SqL.of h1, rfl, _, _, rfl, rfl, .inl ⟨by decide, by decide⟩, _, _, rfl, rfl,
        .inl ⟨_, rfl, _, _, rfl, rfl, (by show (0 : Int) < 1999999973; decide), _, rfl, u, _, _, 1, rfl, rfl, h1, rfl, ?_⟩⟩
      refine ⟨_, rfl, u, _, _, _, rfl, rfl, SqL.of upd_same, rfl, _, _, rfl, rfl, ⟨by decide, by decide⟩, .inl ⟨_, rfl, _, rfl, _, _, rfl, rfl, m0, ?_⟩⟩
      exact q _ _ (Int.emod_nonneg _ (by omega)) (Int.emod_lt_of_pos _ m0) ⟨_, _, _, upd_same⟩ (But.refl.put.put)
theorem scO : FnScope ["_law_urn_here", "_law_things"] ["_law_urn_here", "_law_things"] (defScope sOne) := ⟨rfl, rfl, rfl, by decide +kernel, rfl, by decide +kernel, by decide +kernel⟩
/-- the draws stand where they stand -/
structure Drw (K : PySem.W.Frag) (mg : Str → Option Value) (fL fO : Addr) (fdL fdO : FuncData) : Prop where
  gL : mg "_law_lot" = some (.ref fL)
  FL : Fun K "_law_lot" "_law_lot" sLot fL fdL
  bL : Binds K fdL ["_law_urn_here", "_law_many"] []
  gO : mg "_law_one" = some (.ref fO)
  FO : Fun K "_law_one" "_law_one" sOne fO fdO
  bO : Binds K fdO ["_law_urn_here", "_law_things"] []
theorem ok_one {fL fO : Addr} {fdL fdO : FuncData} (D : Drw K mg fL fO fdL fdO) (B : Blt mg) : FnOk P w K mg base CX0 2 fO fdO ["_law_urn_here", "_law_things"] (spOne K) := by
  have GL : FnOk P w K mg base CX0 1 fL fdL ["_law_urn_here", "_law_many"] spLot := ok_lot D.FL B
  refine D.FO.ok scO (fun vs H Q E h => ?_) (fun cdv A outer s H vs Q E hr h => ?_)
  · obtain ⟨u, t, xs, rfl, _⟩ := h
    rfl
  · obtain ⟨u, t, xs, rfl, hu, nut, ht, x0, x1, q⟩ := h
    refine ⟨_, pss_one (ps_ret (pe_ix ix_list (pv 1) (pe_call GL hr rfl D.gL D.FL.kp D.bL .nil pass0 (pa_cons (pv 0) (pa_cons (pe_callB call_len_seq (by rfl) B.len PySem.boot_len (pa_cons (pv 1) pa_nil)) pa_nil))) (fun _ _ => rfl))), ?_⟩
    refine ⟨_, rfl, _, rfl, _, rfl, t, xs, rfl, .inl (SqL.of ht), u, _, rfl, hu, by omega, by omega, fun H1 d d0 d1 hu1 bt => ?_⟩
    have ht1 := bt t _ ht (Ne.symm nut)
    obtain ⟨i, rfl⟩ : ∃ i : Nat, d = i := ⟨d.toNat, by omega⟩
    have hi : i < xs.length := by omega
    have hx : xs[i]? = some xs[i] := List.getElem?_eq_getElem hi
    exact ⟨t, xs, _, _, rfl, rfl, SqL.of ht1, atI_nat hx, q H1 i _ hx hu1 bt⟩
theorem scLaw : FnScope ["_law_script", "_law_k"] ["_law_script"] (defScope sLaw) := ⟨rfl, rfl, rfl, by decide +kernel, rfl, by decide +kernel, by decide +kernel⟩
theorem ok_law {f fU fR : Addr} {fd fdU fdR : FuncData} {j : Nat} (F : Fun K "law" "law" sLaw f fd) (B : Blt mg) (gU : mg "_law_urn" = some (.ref fU)) (FU : Fun K "_law_urn" "_law_urn" sUrn fU fdU) (bU : Binds K fdU ["_law_script", "_law_k"] [])
    (gR : mg "_law_right" = some (.ref fR)) (kR : PySem.W.keepIn K (.ref fR) = true) (bR : Binds K fdR ["_law_urn_here"] []) (GR : FnG P w K mg base CX0 (j + 1) fR fdR ["_law_urn_here"] spRight) : FnG P w K mg base CX0 (j + 2) f fd ["_law_script"] (spLaw K) := by
  have GU : FnOk P w K mg base CX0 1 fU fdU ["_law_script", "_law_k"] (spUrn K) := ok_urn FU B
  refine okG F scLaw (fun vs H Q E h => ?_) (fun cdv A outer s H vs Q E hgd hr h => ?_)
  · obtain ⟨a, ns, rfl, _⟩ := h
    rfl
  · obtain ⟨a, ns, rfl, hS, hlen, q⟩ := h
    refine ⟨_, pss_one (ps_ret (pe_callB (cr_all rfl) (by rfl) B.all (by decide +kernel) (pa_cons (pe_lc (own := [("_law_k", 1)]) (g := gName 1) (tt := tYes) rfl scLaw.nd
      (pi_range1 (by rfl) B.range (pa_cons (pe_callB (call_max2 rfl) (by rfl) B.max (by decide +kernel) (pa_cons pe_int (pa_cons (pe_callB (call_min2 rfl) (by rfl) B.min (by decide +kernel)
        (pa_cons (pe_callB call_len_seq (by rfl) B.len PySem.boot_len (pa_cons (pv 0) pa_nil)) (pa_cons pe_int pa_nil))) pa_nil))) pa_nil))
      (blkOk_by (N := ["_law_script", "_law_k"]) (sc := defScope sLaw) (by decide +kernel)) (fun _ _ _ _ _ => pg_name (i := 1) scLaw.nd rfl (Or.inl rfl)) (fun _ _ _ _ _ => pts_nil)
      (fun _ _ _ _ _ => pe_callG GR hgd hr rfl gR kR bR pass0 (pa_cons (pe_call GU (hr.mono (by omega)) rfl gU FU.kp bU .nil pass0 (pa_cons (pv 0) (pa_cons (pv 1) pa_nil))) pa_nil))) pa_nil))), ?_⟩
    refine ⟨_, rfl, a, _, rfl, .inl hS, _, _, rfl, _, _, rfl, ?_⟩
    generalize hj : (if (if (6 : Int) < ((ns.map V.int).length : Int) then (6 : Int) else ((ns.map V.int).length : Int)) > 2 then (if (6 : Int) < ((ns.map V.int).length : Int) then (6 : Int) else ((ns.map V.int).length : Int)) else 2) = n
    have hn : 0 ≤ n ∧ n ≤ 6 := by
      rw [← hj]
      split <;> split <;> omega
    refine ⟨n, rfl, by omega, by omega, fun D hD => ?_⟩
    refine lc_range (lo := 0) (n := n.toNat) (fun i H2 => Same H H2 ∧ H2 D = some (.lst ((List.replicate i true).map V.bl))) ⟨same_new (fun _ _ e => e) hD, upd_same⟩ ?_ ?_
    · rintro i H2 hi ⟨s2, hD2⟩
      refine ⟨rfl, keptT ?_⟩
      refine ⟨_, rfl, _, rfl, a, ns, i, by rw [Int.zero_add]; rfl, s2.seq hS, by omega, fun H3 p s3 np hp => ?_⟩
      refine ⟨p, rfl, hp, fun H4 b4 => ?_⟩
      have hD4 : H4 D = some (.lst ((List.replicate i true).map V.bl)) := b4 D _ (s3 D _ hD2) (ne_of_none hD2 np)
      refine ⟨_, hD4, small1000 (by rw [List.length_map, List.length_replicate]; omega), fun b o e => ?_, ?_⟩
      · have hb : b ≠ D := ne_of_none e hD
        have e2 := s2 b o e
        rw [upd_ne hb]
        exact b4 b o (s3 b o e2) (ne_of_none e2 np)
      · rw [upd_same, List.replicate_succ', List.map_append]
        rfl
    · rintro H2 ⟨s2, hD2⟩
      refine ⟨D, _, rfl, SqL.of hD2, ?_⟩
      have e : (List.replicate n.toNat true).all id = true := by
        rw [List.all_eq_true]
        intro x hx
        exact (List.eq_of_mem_replicate hx)
      rw [e]
      exact q H2
end
end SQ4
namespace SQ4
open PySem L2 SQ
abbrev sPI : Stmt := top 17
abbrev sNm : Stmt := top 18
abbrev sFN : Stmt := top 19
abbrev sAr : Stmt := top 26
abbrev sEn : Stmt := top 27
/-- the kinds of values that come here -/
inductive Kd (H : Hp) : V → String → Prop
  | non : Kd H .non "NoneType"
  | bl (b : Bool) : Kd H (.bl b) "bool"
  | int (i : Int) : Kd H (.int i) "int"
  | str (x : Str) (h : x.length ≤ 1000) : Kd H (.str x) "str"
  | lst {a : Addr} {xs : List V} (e : H a = some (.lst xs)) : Kd H (.ref a) "list"
  | tup {a : Addr} {xs : List V} (e : H a = some (.tup xs)) : Kd H (.ref a) "tuple"
  | dic {a : Addr} {kvs : List (Key × V)} (e : H a = some (.dK kvs)) : Kd H (.ref a) "dict"
theorem Kd.ty {K : PySem.W.Frag} {H : Hp} {v : V} {t : String} (k : Kd H v t) : TyX K H v (.type t) := by
  cases k with
  | non => exact .base .non
  | bl b => exact .base (.bl b)
  | int i => exact .base (.int i)
  | str x h => exact .base (.str x)
  | lst e => exact .base (.lst e)
  | tup e => exact .base (.tup e)
  | dic e => exact .base (.dK e)
theorem Kd.same {H H' : Hp} {v : V} {t : String} (s : Same H H') (k : Kd H v t) : Kd H' v t := by
  cases k with
  | non => exact .non
  | bl b => exact .bl b
  | int i => exact .int i
  | str x h => exact .str x h
  | lst e => exact .lst (s _ _ e)
  | tup e => exact .tup (s _ _ e)
  | dic e => exact .dic (s _ _ e)
/-- isinstance(x, n) -/
theorem isi_ok {K : PySem.W.Frag} {H : Hp} {v : V} {t n : String} {b : Bool} {Q : VK} (k : Kd H v t) (h : kitB t n = some b) (q : Q (.bl b) H) : rIsi K [v, .ty n] H Q := ⟨v, .ty n, .type t, .type n, b, rfl, .ty n, k.ty, kit_ty h, q⟩
def isInt : V → Bool
  | .int _ => true
  | _ => false
def letters : List Nat := [97, 98, 99, 100, 101, 102, 103, 104, 105, 106, 107, 108, 109, 110, 111, 112, 113, 114, 115, 116, 117, 118, 119, 120, 121, 122]
def nameOk (n : Str) : Bool := decide (1 ≤ (n.length : Int)) && decide ((n.length : Int) ≤ 8) && n.cps.toList.all fun c => decide (c ∈ letters)
def isNm : V → Bool
  | .str n => nameOk n
  | _ => false
def cores : List Str := ["call", "dip", "curry", "compose", "choose"]
def isFree : V → Bool
  | .str n => nameOk n && !decide (n ∈ cores)
  | _ => false
def isAr : V → Bool
  | .int i => decide (0 ≤ i) && decide (i ≤ 3)
  | _ => false
structure B2 (mg : Str → Option Value) : Prop where
  isi : mg "isinstance" = none
  int : mg "int" = none
  bool : mg "bool" = none
  str : mg "str" = none
  tuple : mg "tuple" = none
  len : mg "len" = none
  all : mg "all" = none
  lets : ∃ t, mg "LETTERS" = some (.str "abcdefghijklmnopqrstuvwxyz" t)
  longest : ∃ t, mg "LONGEST_NAME" = some (.int 8 t)
  ar : ∃ t, mg "MOST_ARITY" = some (.int 3 t)
section
variable {P : Program} {w : World} {K : PySem.W.Frag} {mg : Str → Option Value} {base : Heap}
def spV (f : V → Bool) : Sp := fun vs H Q _ => ∃ (v : V) (t : String), vs = [v] ∧ Kd H v t ∧ ∀ H', Same H H' → Q (.bl (f v)) H'
theorem scPI : FnScope ["value"] ["value"] (defScope sPI) := ⟨rfl, rfl, rfl, by decide +kernel, rfl, by decide +kernel, by decide +kernel⟩
theorem ok_pi {f : Addr} {fd : FuncData} (F : Fun K "is_plain_integer" "is_plain_integer" sPI f fd) (B : B2 mg) : FnOk P w K mg base CX0 1 f fd ["value"] (spV isInt) := by
  refine F.ok scPI (fun vs H Q E h => ?_) (fun cdv A outer s H vs Q E hr h => ?_)
  · obtain ⟨v, t, rfl, _⟩ := h
    rfl
  · obtain ⟨v, t, rfl, k, q⟩ := h
    have q0 := q H (fun _ _ e => e)
    refine ⟨_, pss_one (ps_ret (pe_and (pe_callB call_isi (by rfl) B.isi (by decide +kernel) (pa_cons (pv 0) (pa_cons (pe_bltn (v := .ty "int") (by rfl) B.int (by decide +kernel) rfl) pa_nil)))
      (pe_one (pe_not (pe_callB call_isi (by rfl) B.isi (by decide +kernel) (pa_cons (pv 0) (pa_cons (pe_bltn (v := .ty "bool") (by rfl) B.bool (by decide +kernel) rfl) pa_nil))))))), ?_⟩
    refine ⟨_, rfl, ?_⟩
    cases k with
    | non => exact ⟨_, _, _, _, false, rfl, .ty "int", Kd.non.ty, kit_ty (by decide +kernel), _, rfl, iteF q0⟩
    | bl b => exact ⟨_, _, _, _, true, rfl, .ty "int", (Kd.bl b).ty, kit_ty (by decide +kernel), _, rfl, iteT ⟨_, rfl, _, _, _, _, true, rfl, .ty "bool", (Kd.bl b).ty, kit_ty (by decide +kernel), _, rfl, q0⟩⟩
    | int i => exact ⟨_, _, _, _, true, rfl, .ty "int", (Kd.int i).ty, kit_ty (by decide +kernel), _, rfl, iteT ⟨_, rfl, _, _, _, _, false, rfl, .ty "bool", (Kd.int i).ty, kit_ty (by decide +kernel), _, rfl, q0⟩⟩
    | str x hx => exact ⟨_, _, _, _, false, rfl, .ty "int", (Kd.str x hx).ty, kit_ty (by decide +kernel), _, rfl, iteF q0⟩
    | lst e => exact ⟨_, _, _, _, false, rfl, .ty "int", (Kd.lst e).ty, kit_ty (by decide +kernel), _, rfl, iteF q0⟩
    | tup e => exact ⟨_, _, _, _, false, rfl, .ty "int", (Kd.tup e).ty, kit_ty (by decide +kernel), _, rfl, iteF q0⟩
    | dic e => exact ⟨_, _, _, _, false, rfl, .ty "int", (Kd.dic e).ty, kit_ty (by decide +kernel), _, rfl, iteF q0⟩
theorem scNm : FnScope ["value", "letter"] ["value"] (defScope sNm) := ⟨rfl, rfl, rfl, by decide +kernel, rfl, by decide +kernel, by decide +kernel⟩
theorem ok_nm {f : Addr} {fd : FuncData} (F : Fun K "is_name" "is_name" sNm f fd) (B : B2 mg) : FnOk P w K mg base CX0 1 f fd ["value"] (spV isNm) := by
  obtain ⟨t1, hlet⟩ := B.lets
  obtain ⟨t2, hlon⟩ := B.longest
  refine F.ok scNm (fun vs H Q E h => ?_) (fun cdv A outer s H vs Q E hr h => ?_)
  · obtain ⟨v, t, rfl, _⟩ := h
    rfl
  · obtain ⟨v, t, rfl, k, q⟩ := h
    have q0 := q H (fun _ _ e => e)
    refine ⟨_, pss_cons (ps_if (PW.pt (pw_or (pt_not (pt_val (pe_callB call_isi (by rfl) B.isi (by decide +kernel) (pa_cons (pv 0) (pa_cons (pe_bltn (v := .ty "str") (by rfl) B.str (by decide +kernel) rfl) pa_nil)))))
        (pw_or1 (pt_not (pt_chain op_le op_le pe_int (pe_callB call_len_str (by rfl) B.len PySem.boot_len (pa_cons (pv 0) pa_nil)) (pe_glob (v := .int 8) rfl hlon ⟨_, rfl⟩))))))
        (pss_one (ps_ret pe_bl)) pss_nil)
      (pss_one (ps_ret (pe_callB (cr_all rfl) (by rfl) B.all (by decide +kernel) (pa_cons (pe_lc (own := [("letter", 1)]) (g := gName 1) (tt := tYes) rfl scNm.nd (pi_str (pv 0)) (blkOk_by (N := ["value", "letter"]) (sc := defScope sNm) (by decide +kernel))
        (fun _ _ _ _ _ => pg_name (i := 1) scNm.nd rfl (Or.inl rfl)) (fun _ _ _ _ _ => pts_nil) (fun _ _ _ _ _ => pe_cmpR op_in_sign (pv 1) (pe_glob (v := .str "abcdefghijklmnopqrstuvwxyz") rfl hlet ⟨_, rfl⟩) rfl)) pa_nil)))), ?_⟩
    refine ⟨_, rfl, ?_⟩
    cases k with
    | non => exact ⟨_, _, _, _, false, rfl, .ty "str", Kd.non.ty, kit_ty (by decide +kernel), _, rfl, iteT (iteT q0)⟩
    | bl b => exact ⟨_, _, _, _, false, rfl, .ty "str", (Kd.bl b).ty, kit_ty (by decide +kernel), _, rfl, iteT (iteT q0)⟩
    | int i => exact ⟨_, _, _, _, false, rfl, .ty "str", (Kd.int i).ty, kit_ty (by decide +kernel), _, rfl, iteT (iteT q0)⟩
    | lst e => exact ⟨_, _, _, _, false, rfl, .ty "str", (Kd.lst e).ty, kit_ty (by decide +kernel), _, rfl, iteT (iteT q0)⟩
    | tup e => exact ⟨_, _, _, _, false, rfl, .ty "str", (Kd.tup e).ty, kit_ty (by decide +kernel), _, rfl, iteT (iteT q0)⟩
    | dic e => exact ⟨_, _, _, _, false, rfl, .ty "str", (Kd.dic e).ty, kit_ty (by decide +kernel), _, rfl, iteT (iteT q0)⟩
    | str x hx =>
      refine ⟨_, _, _, _, true, rfl, .ty "str", (Kd.str x hx).ty, kit_ty (by decide +kernel), _, rfl, iteF ?_⟩
      have hx' : x.length ≤ sizeLine := Nat.le_of_lt (small1000 hx)
      refine ⟨_, rfl, x, rfl, hx', _, _, rfl, rfl, _, rfl, ?_⟩
      refine ite2 (fun h1 => ⟨_, _, rfl, rfl, _, rfl, ?_⟩) (fun h1 => ⟨_, rfl, iteT ?_⟩)
      · by_cases h8 : (x.length : Int) ≤ 8
        · rw [decide_eq_true h8]
          refine iteF ?_
          have hq : isNm (.str x) = x.cps.toList.all fun c => decide (c ∈ letters) := by
            show (decide (1 ≤ (x.length : Int)) && decide ((x.length : Int) ≤ 8) && x.cps.toList.all fun c => decide (c ∈ letters)) = _
            rw [h1, decide_eq_true h8]
            rfl
          rw [hq] at q
          refine ⟨_, rfl, x, rfl, fun D hD => ?_⟩
          refine lc_it (walk_str (z := x)) (fun i H2 => H2 = upd H D (.lst (((x.cps.toList.take i).map fun c => decide (c ∈ letters)).map V.bl))) rfl (fun _ _ _ _ => trivial) ?_ ?_
          · rintro i v H2 H3 hi rfl ⟨rfl, c, hc, rfl⟩
            refine ⟨rfl, keptT ⟨_, rfl, c, _, rfl, rfl, _, upd_same, small1000 ?_, ?_⟩⟩
            · have hz : x.cps.toList.length ≤ 1000 := hx
              rw [List.length_map, List.length_map, List.length_take]
              exact Nat.le_trans (Nat.min_le_right _ _) hz
            · have e1 : (("abcdefghijklmnopqrstuvwxyz" : Str).cps.toList) = letters := by decide +kernel
              have e2 : x.cps.toList.take (i + 1) = x.cps.toList.take i ++ [c] := by
                rw [List.take_add_one]
                have : x.cps.toList[i]? = some c := by simpa using hc
                rw [this]
                rfl
              rw [upd_upd, e1, e2, List.map_append, List.map_append]
              rfl
          · rintro H2 rfl
            refine ⟨D, _, rfl, SqL.of upd_same, ?_⟩
            have e3 : ((x.cps.toList.take x.cps.size).map fun c => decide (c ∈ letters)).all id = x.cps.toList.all fun c => decide (c ∈ letters) := by
              rw [List.all_map, show x.cps.size = x.cps.toList.length from rfl, List.take_length]
              rfl
            rw [e3]
            exact q _ (same_new (fun _ _ e => e) hD)
        · rw [decide_eq_false h8]
          refine iteT ?_
          have hq : isNm (.str x) = false := by
            show (decide (1 ≤ (x.length : Int)) && decide ((x.length : Int) ≤ 8) && x.cps.toList.all fun c => decide (c ∈ letters)) = _
            rw [decide_eq_false h8, Bool.and_false]
            rfl
          rw [hq] at q0
          exact q0
      · have h1' : decide (1 ≤ (x.length : Int)) = false := Bool.eq_false_iff.mpr h1
        have hq : isNm (.str x) = false := by
          show (decide (1 ≤ (x.length : Int)) && decide ((x.length : Int) ≤ 8) && x.cps.toList.all fun c => decide (c ∈ letters)) = _
          rw [h1']
          rfl
        rw [hq] at q0
        exact q0
/-- where the helpers stand -/
structure D2 (K : PySem.W.Frag) (mg : Str → Option Value) (fP fN fF fA fE : Addr) (dP dN dF dA dE : FuncData) : Prop where
  gP : mg "is_plain_integer" = some (.ref fP)
  FP : Fun K "is_plain_integer" "is_plain_integer" sPI fP dP
  bP : Binds K dP ["value"] []
  gN : mg "is_name" = some (.ref fN)
  FN : Fun K "is_name" "is_name" sNm fN dN
  bN : Binds K dN ["value"] []
  gF : mg "is_free_name" = some (.ref fF)
  FF : Fun K "is_free_name" "is_free_name" sFN fF dF
  bF : Binds K dF ["value"] []
  gA : mg "is_arity" = some (.ref fA)
  FA : Fun K "is_arity" "is_arity" sAr fA dA
  bA : Binds K dA ["value"] []
  gE : mg "is_entry" = some (.ref fE)
  FE : Fun K "is_entry" "is_entry" sEn fE dE
  bE : Binds K dE ["value"] []
/-- CORE_WORDS -/
structure Core (K : PySem.W.Frag) (mg : Str → Option Value) (tC : Addr) : Prop where
  g : mg "CORE_WORDS" = some (.ref tC)
  at_ : ∀ H : Hp, SqT K H tC (cores.map V.str)
theorem inV_strs (x : Str) : ∀ l : List Str, inV (.str x) (l.map V.str) = decide (x ∈ l)
  | [] => rfl
  | y :: l => by
    have ih := inV_strs x l
    unfold inV at ih ⊢
    rw [List.map_cons, List.any_cons, ih]
    by_cases h : y = x
    · subst h
      simp [eqV]
    · have h' : ¬ x = y := fun e => h e.symm
      simp [eqV, h, h']
theorem inV_cores {x : Str} : inV (.str x) (cores.map V.str) = decide (x ∈ cores) := inV_strs x cores
variable {fP fN fF fA fE tC : Addr} {dP dN dF dA dE : FuncData}
theorem scFN : FnScope ["value"] ["value"] (defScope sFN) := ⟨rfl, rfl, rfl, by decide +kernel, rfl, by decide +kernel, by decide +kernel⟩
theorem ok_fn (D : D2 K mg fP fN fF fA fE dP dN dF dA dE) (B : B2 mg) (C : Core K mg tC) : FnOk P w K mg base CX0 2 fF dF ["value"] (spV isFree) := by
  have GN : FnOk P w K mg base CX0 1 fN dN ["value"] (spV isNm) := ok_nm D.FN B
  refine D.FF.ok scFN (fun vs H Q E h => ?_) (fun cdv A outer s H vs Q E hr h => ?_)
  · obtain ⟨v, t, rfl, _⟩ := h
    rfl
  · obtain ⟨v, t, rfl, k, q⟩ := h
    refine ⟨_, pss_one (ps_ret (pe_and (pe_call GN hr rfl D.gN D.FN.kp D.bN .nil pass0 (pa_cons (pv 0) pa_nil)) (pe_one (pe_cmpR op_notIn_seq (pv 0) (pe_glob (v := .ref tC) rfl C.g rfl) (by rfl))))), ?_⟩
    refine ⟨_, rfl, v, t, rfl, k, fun H1 s1 => ⟨_, rfl, ?_⟩⟩
    have q1 := q H1 s1
    cases k with
    | str x hx =>
      cases hn : nameOk x with
      | false =>
        have e : isFree (.str x) = false := by
          show (nameOk x && !decide (x ∈ cores)) = false
          rw [hn]
          rfl
        rw [e] at q1
        rw [show isNm (.str x) = false from hn]
        exact iteF q1
      | true =>
        rw [show isNm (.str x) = true from hn]
        refine iteT ⟨_, rfl, tC, _, rfl, .inr (C.at_ H1), rfl, ?_, ?_⟩
        · decide
        · have e : (!inV (.str x) (cores.map V.str)) = isFree (.str x) := by
            show _ = (nameOk x && !decide (x ∈ cores))
            rw [hn, Bool.true_and]
            rw [inV_cores]
          show Q (.bl (!inV (.str x) (cores.map V.str))) H1
          rw [e]
          exact q1
    | non => exact iteF q1
    | bl b => exact iteF q1
    | int i => exact iteF q1
    | lst e => exact iteF q1
    | tup e => exact iteF q1
    | dic e => exact iteF q1
theorem scAr : FnScope ["value"] ["value"] (defScope sAr) := ⟨rfl, rfl, rfl, by decide +kernel, rfl, by decide +kernel, by decide +kernel⟩
theorem ok_ar (D : D2 K mg fP fN fF fA fE dP dN dF dA dE) (B : B2 mg) : FnOk P w K mg base CX0 2 fA dA ["value"] (spV isAr) := by
  have GP : FnOk P w K mg base CX0 1 fP dP ["value"] (spV isInt) := ok_pi D.FP B
  obtain ⟨t3, har⟩ := B.ar
  refine D.FA.ok scAr (fun vs H Q E h => ?_) (fun cdv A outer s H vs Q E hr h => ?_)
  · obtain ⟨v, t, rfl, _⟩ := h
    rfl
  · obtain ⟨v, t, rfl, k, q⟩ := h
    refine ⟨_, pss_one (ps_ret (pe_and (pe_call GP hr rfl D.gP D.FP.kp D.bP .nil pass0 (pa_cons (pv 0) pa_nil)) (pe_one (pe_chain op_le op_le pe_int (pv 0) (pe_glob (v := .int 3) rfl har ⟨_, rfl⟩))))), ?_⟩
    refine ⟨_, rfl, v, t, rfl, k, fun H1 s1 => ⟨_, rfl, ?_⟩⟩
    have q1 := q H1 s1
    cases k with
    | int i =>
      refine iteT ⟨_, rfl, _, _, rfl, rfl, _, rfl, ite2 (fun h0 => ⟨_, _, rfl, rfl, ?_⟩) (fun h0 => ?_)⟩
      · have e : decide (i ≤ 3) = isAr (.int i) := by
          show _ = (decide (0 ≤ i) && decide (i ≤ 3))
          rw [h0, Bool.true_and]
        show Q (.bl (decide (i ≤ 3))) H1
        rw [e]
        exact q1
      · have e : isAr (.int i) = false := by
          show (decide (0 ≤ i) && decide (i ≤ 3)) = false
          rw [Bool.eq_false_iff.mpr h0]
          rfl
        rw [e] at q1
        exact q1
    | str x hx => exact iteF q1
    | non => exact iteF q1
    | bl b => exact iteF q1
    | lst e => exact iteF q1
    | tup e => exact iteF q1
    | dic e => exact iteF q1
end
end SQ4
namespace SQ4
open PySem L2 SQ
/-- what is_entry makes of a value -/
inductive Ent (H : Hp) : V → Option (Str × Int × Int) → Prop
  | no {v : V} {t : String} (k : Kd H v t) (ht : (t == "tuple") = false) : Ent H v none
  | len {a : Addr} {xs : List V} (e : H a = some (.tup xs)) (h : ((xs.length : Int) == 3) = false) : Ent H (.ref a) none
  | bad {a : Addr} {x y z : V} {tx ty tz : String} (e : H a = some (.tup [x, y, z])) (kx : Kd H x tx) (ky : Kd H y ty) (kz : Kd H z tz) (h : (isFree x && (isAr y && isAr z)) = false) : Ent H (.ref a) none
  | good {a : Addr} {n : Str} {i j : Int} (e : H a = some (.tup [.str n, .int i, .int j])) (hn : n.length ≤ 1000) (h : (isFree (.str n) && (isAr (.int i) && isAr (.int j))) = true) : Ent H (.ref a) (some (n, i, j))
theorem Ent.same {H H' : Hp} {v : V} {o : Option (Str × Int × Int)} (s : Same H H') (k : Ent H v o) : Ent H' v o := by
  cases k with
  | no k ht => exact .no (k.same s) ht
  | len e h => exact .len (s _ _ e) h
  | bad e kx ky kz h => exact .bad (s _ _ e) (kx.same s) (ky.same s) (kz.same s) h
  | good e hn h => exact .good (s _ _ e) hn h
section
variable {P : Program} {w : World} {K : PySem.W.Frag} {mg : Str → Option Value} {base : Heap} {fP fN fF fA fE tC : Addr} {dP dN dF dA dE : FuncData}
def spEn : Sp := fun vs H Q _ => ∃ (v : V) (o : Option (Str × Int × Int)), vs = [v] ∧ Ent H v o ∧ ∀ H', Same H H' → Q (.bl o.isSome) H'
theorem scEn : FnScope ["value", "name", "inputs", "outputs"] ["value"] (defScope sEn) := ⟨rfl, rfl, rfl, by decide +kernel, rfl, by decide +kernel, by decide +kernel⟩
theorem st {H H1 H2 : Hp} (a : Same H H1) (b : Same H1 H2) : Same H H2 := fun x o e => b x o (a x o e)
theorem ok_en (D : D2 K mg fP fN fF fA fE dP dN dF dA dE) (B : B2 mg) (C : Core K mg tC) : FnOk P w K mg base CX0 3 fE dE ["value"] spEn := by
  have GF : FnOk P w K mg base CX0 2 fF dF ["value"] (spV isFree) := ok_fn D B C
  have GA : FnOk P w K mg base CX0 2 fA dA ["value"] (spV isAr) := ok_ar D B
  refine D.FE.ok scEn (fun vs H Q E h => ?_) (fun cdv A outer s H vs Q E hr h => ?_)
  · obtain ⟨v, o, rfl, _⟩ := h
    rfl
  · obtain ⟨v, o, rfl, k, q⟩ := h
    refine ⟨_, pss_cons (ps_if (PW.pt (pw_or (pt_not (pt_val (pe_callB call_isi (by rfl) B.isi (by decide +kernel) (pa_cons (pv 0) (pa_cons (pe_bltn (v := .ty "tuple") (by rfl) B.tuple (by decide +kernel) rfl) pa_nil)))))
        (pw_or1 (pt_cmpR op_ne (pe_callB call_len_seq (by rfl) B.len PySem.boot_len (pa_cons (pv 0) pa_nil)) pe_int (nomark _))))) (pss_one (ps_ret pe_bl)) pss_nil)
      (pss_cons (ps_asg (pv 0) (pg_tup rfl (pgs_cons (pg_name (i := 1) scEn.nd rfl (.inl rfl)) (pgs_cons (pg_name (i := 2) scEn.nd rfl (.inl rfl)) (pgs_cons (pg_name (i := 3) scEn.nd rfl (.inl rfl)) pgs_nil)))))
      (pss_one (ps_ret (pe_and (pe_call GF hr rfl D.gF D.FF.kp D.bF .nil pass0 (pa_cons (pv 1) pa_nil)) (pe_and (pe_call GA hr rfl D.gA D.FA.kp D.bA .nil pass0 (pa_cons (pv 2) pa_nil))
        (pe_one (pe_call GA hr rfl D.gA D.FA.kp D.bA .nil pass0 (pa_cons (pv 3) pa_nil)))))))), ?_⟩
    refine ⟨_, rfl, ?_⟩
    have q0 := q H (fun _ _ e => e)
    cases k with
    | no k ht =>
      have fin : ∀ t, (t == "tuple") = false → Kd H v t → kitB t "tuple" = some false := by
        intro t h k
        cases k
        · decide +kernel
        · decide +kernel
        · decide +kernel
        · decide +kernel
        · decide +kernel
        · exact absurd h (by decide)
        · decide +kernel
      exact ⟨_, _, _, _, false, rfl, .ty "tuple", k.ty, kit_ty (fin _ ht k), _, rfl, iteT (iteT q0)⟩
    | @len a xs e h =>
      refine ⟨_, _, _, _, true, rfl, .ty "tuple", (Kd.tup e).ty, kit_ty (by decide +kernel), _, rfl, iteF ?_⟩
      refine ⟨_, rfl, a, xs, rfl, .inr (SqT.of e), rfl, _, rfl, ?_⟩
      have ne : ¬ (V.int (xs.length : Int) = V.int 3) := fun z => by
        have z' : (xs.length : Int) = 3 := V.int.inj z
        rw [z'] at h
        exact absurd h (by decide)
      rw [decide_eq_false ne]
      exact iteT q0
    | @bad a x y z tx ty tz e kx ky kz h =>
      refine ⟨_, _, _, _, true, rfl, .ty "tuple", (Kd.tup e).ty, kit_ty (by decide +kernel), _, rfl, iteF ?_⟩
      refine ⟨_, rfl, a, _, rfl, .inr (SqT.of e), rfl, _, rfl, iteNS rfl ?_⟩
      refine ⟨_, rfl, a, _, rfl, SqT.of e, rfl, _, _, rfl, _, _, rfl, _, _, rfl, rfl, ?_⟩
      refine ⟨_, rfl, x, tx, rfl, kx, fun H1 s1 => ⟨_, rfl, ?_⟩⟩
      cases hx : isFree x with
      | false => exact iteF (q H1 s1)
      | true =>
        rw [hx, Bool.true_and] at h
        refine iteT ⟨_, rfl, y, ty, rfl, ky.same s1, fun H2 s2 => ⟨_, rfl, ?_⟩⟩
        cases hy : isAr y with
        | false => exact iteF (q H2 (st s1 s2))
        | true =>
          rw [hy, Bool.true_and] at h
          refine iteT ⟨_, rfl, z, tz, rfl, (kz.same s1).same s2, fun H3 s3 => ?_⟩
          rw [h]
          exact q H3 (st s1 (st s2 s3))
    | @good a n i j e hn h =>
      refine ⟨_, _, _, _, true, rfl, .ty "tuple", (Kd.tup e).ty, kit_ty (by decide +kernel), _, rfl, iteF ?_⟩
      refine ⟨_, rfl, a, _, rfl, .inr (SqT.of e), rfl, _, rfl, iteNS rfl ?_⟩
      refine ⟨_, rfl, a, _, rfl, SqT.of e, rfl, _, _, rfl, _, _, rfl, _, _, rfl, rfl, ?_⟩
      rw [Bool.and_eq_true, Bool.and_eq_true] at h
      obtain ⟨h1, h2, h3⟩ := h
      refine ⟨_, rfl, .str n, _, rfl, .str n hn, fun H1 s1 => ⟨_, rfl, ?_⟩⟩
      rw [h1]
      refine iteT ⟨_, rfl, .int i, _, rfl, .int i, fun H2 s2 => ⟨_, rfl, ?_⟩⟩
      rw [h2]
      refine iteT ⟨_, rfl, .int j, _, rfl, .int j, fun H3 s3 => ?_⟩
      rw [h3]
      exact q H3 (st s1 (st s2 s3))
end
end SQ4
/-! Own exceptions over any of the built-in bases, made as values (by position, by keyword, without arguments), read, and asked for their class. -/
namespace SQ
open PySem PySem.Spec PyProof.Rows L2
open PySem.W (Looks)
section
variable {prog : Program} {w : World} {A : Around} {E : Value → Shared → Prop} {R : Result → Shared → Prop}
  {h : Heap} {g : Array GenState} {d : Drawn} {t : Nat} {os : OsState}
  {nm q : Str} {C N : Addr} {bs bm bmB : List Value} {hdct : Bool} {sn : List Str} {sub : List Value} {ab : Bool}
  {col : Option Bool} {dd : Option Addr} {k0 k1 k2 k3 k5 : Option Value} {B newId initId : String} {kw : List (Str × Value)}

theorem chk_new (FB : ExcBaseFacts B newId initId bmB) (hT : ∀ X : String, bm.contains (.type X) = bmB.contains (.type X))
    {rest : List Value} {Q : Unit → Shared → Prop}
    (hC : h.get? C = some (excClassObj nm q C N bs bm hdct sn sub ab col dd k0 k1 k2 k3 k5 newId))
    (hq : Q () ⟨h, g, d, t, os⟩) :
    wpAny (model prog w) A (checkBuiltinCall newId ⟨.ref C :: rest, kw⟩) Q E ⟨h, g, d, t, os⟩ := by
  have inB : (Value.ref C :: bm).contains (.type B) = true := by
    rw [List.contains_cons, hT, FB.hasB, Bool.or_true]
  have nostar := FB.noStar
  simp only [checkBuiltinCall, FB.newKind, FB.newSplit, FB.newRow]
  repeat (first
    | refine wpAny_loadPart_at hC ?_
    | (refine wpAny_isSubtype_exc hC ?_; rw [inB])
    | refine wpAny_staticBase_exc hC ?_
    | refine wpAny_madeBy_exc hC ?_
    | simp only [bne_self_eq_false, Bool.false_eq_true, if_false]
    | wp_step)
  exact hq
theorem run_new (FB : ExcBaseFacts B newId initId bmB) (hT : ∀ X : String, bm.contains (.type X) = bmB.contains (.type X))
    {rest : List Value} (hC : h.get? C = some (excClassObj nm q C N bs bm hdct sn sub ab col dd k0 k1 k2 k3 k5 newId))
    (hrest : rest.length ≤ sizeLine)
    (hq : R (.ok (.ret (.ref (h.objs.size + 1)))) ⟨(h.push (PySem.W.kdv_tup rest)).push (PySem.HandSPX.excO C h.objs.size), g, d, t, os⟩) :
    codeAny (model prog w) A (.builtin newId ⟨.ref C :: rest, kw⟩) R ⟨h, g, d, t, os⟩ := by
  have en := FB.ends
  have inB : (Value.ref C :: bm).contains (.type B) = true := by
    rw [List.contains_cons, hT, FB.hasB, Bool.or_true]
  have inA : (Value.ref C :: bm).contains (.type "AttributeError") = false := by
    rw [List.contains_cons, hT, FB.noAttr]
    rfl
  have inN : (Value.ref C :: bm).contains (.type "NameError") = false := by
    rw [List.contains_cons, hT, FB.noName]
    rfl
  refine codeAny_builtinAt FB.entry ?_
  unfold Builtin.«BaseException.__new__»
  refine PySem.wpAt_bind ?_
  show PySem.wpAt _ _ _ (stack >>= _) _ _ _
  refine PySem.wpAt_bind (PySem.wpAt_stack fun p below => PySem.wpAt_of_wpAny ?_)
  wp_walk
  refine PySem.wpAt_of_wpAny ?_
  rw [FB.owner]
  repeat (first
    | with_reducible refine wpAny_madeHere_exc FB.canon hC ?_
    | with_reducible refine wpAny_loadPart_at hC ?_
    | (with_reducible refine wpAny_isSubtype_exc hC ?_; first | rw [inB] | rw [inA] | rw [inN])
    | wp_step)
  show R _ _
  rw [Heap.size_push]
  exact hq
theorem run_tcall (FB : ExcBaseFacts B newId initId bmB) (hT : ∀ X : String, bm.contains (.type X) = bmB.contains (.type X))
    {rest : List Value} {fI : Addr} {Q : Fin → Shared → Prop}
    (hC : h.get? C = some (excClassObj nm q C N bs bm hdct sn sub ab col dd k0 k1 k2 k3 k5 newId))
    (hi : Looks (model prog w) h (typeLookup (.ref C) "__init__") (some (.ref fI)))
    (hb : ∀ self, Looks (model prog w) h (bindSpecial (.ref fI) self) (.ref fI, [self])) (hrest : rest.length ≤ sizeLine)
    (hq : codeAny (model prog w) A (.call (.ref fI) ⟨.ref (h.objs.size + 1) :: rest, kw⟩)
      (fun r s' => match r with
        | .ok (.ret v) => v = .none ∧ Q (.done (.ret (.ref (h.objs.size + 1)))) s'
        | .ok _ => False
        | .error e => E e s')
      ⟨(h.push (PySem.W.kdv_tup rest)).push (PySem.HandSPX.excO C h.objs.size), g, d, t, os⟩) :
    wpAny (model prog w) A (Builtin.«type.__call__» ⟨.ref C :: rest, kw⟩) Q E ⟨h, g, d, t, os⟩ := by
  repeat (first
    | with_reducible refine wpAny_loadPart_at hC ?_
    | with_reducible refine wpAny_madeBy_exc hC ?_
    | wp_step)
  refine codeAny_call_builtin_code (Code.quiet_builtin _ FB.quiet) (chk_new FB hT hC ?_)
  refine run_new FB hT hC hrest ?_
  show wpAny _ _ _ _ _ _
  have keep : ∀ b o, h.get? b = some o → ((h.push (PySem.W.kdv_tup rest)).push (PySem.HandSPX.excO C h.objs.size)).get? b = some o :=
    fun b o e => Heap.get?_push_of_some _ (Heap.get?_push_of_some _ e)
  have hC1 := keep _ _ hC
  have got : ((h.push (PySem.W.kdv_tup rest)).push (PySem.HandSPX.excO C h.objs.size)).get? (h.objs.size + 1) = some (PySem.HandSPX.excO C h.objs.size) := by heap_get
  have inC : (Value.ref C :: bm).contains (.ref C) = true := by simp
  have i1 := hi.keeps keep
  have b1 := (hb (.ref (h.objs.size + 1))).keeps keep
  unfold isInstance
  repeat (first
    | with_reducible refine wpAny_loadPart_at got ?_
    | (with_reducible refine wpAny_isSubtype_exc hC1 ?_; rw [inC])
    | wp_step)
  show wpAny _ _ (typeLookup (.ref C) _) _ _ _
  refine i1.at ?_
  refine wpAny_holding (wpAny_bind (b1.at ?_))
  refine wpAny_bind (wpAny_call (codeAny_mono hq fun r s' z => ?_))
  rcases r with e | (_ | _ | _ | v) <;> first | exact z | exact z.elim | skip
  obtain ⟨rfl, z⟩ := z
  first
    | exact wpAny_pure (wpAny_pure z)
    | (wp_walk; exact z)
theorem run_ccall (FB : ExcBaseFacts B newId initId bmB) (hT : ∀ X : String, bm.contains (.type X) = bmB.contains (.type X))
    {rest : List Value} {fI : Addr}
    (hC : h.get? C = some (excClassObj nm q C N bs bm hdct sn sub ab col dd k0 k1 k2 k3 k5 newId))
    (hi : Looks (model prog w) h (typeLookup (.ref C) "__init__") (some (.ref fI)))
    (hb : ∀ self, Looks (model prog w) h (bindSpecial (.ref fI) self) (.ref fI, [self])) (hrest : rest.length ≤ sizeLine)
    (hq : codeAny (model prog w) (A.under (.builtin "type.__call__" ⟨.ref C :: rest, kw⟩)) (.call (.ref fI) ⟨.ref (h.objs.size + 1) :: rest, kw⟩)
      (PySem.W.InitBack (h.objs.size + 1) R)
      ⟨(h.push (PySem.W.kdv_tup rest)).push (PySem.HandSPX.excO C h.objs.size), g, d, t, os⟩) :
    codeAny (model prog w) A (.call (.ref C) ⟨rest, kw⟩) R ⟨h, g, d, t, os⟩ := by
  have f1 := tc_lookup
  have f2 := tc_bind (.ref C)
  have hTy : (⟨h, g, d, t, os⟩ : Shared).TypeIs (.ref C) "type" := ⟨_, hC, rfl⟩
  refine codeAny_of_tree ?_
  show wpAny _ _ (callAny (.ref C) _) _ _ _
  repeat (any_goals (first | assumption | with_reducible refine wpAny_loadPart_at hC ?_ | wp_step))
  refine ⟨rfl, ?_⟩
  refine codeAny_call_builtin_at (Code.quiet_builtin _ (by decide +kernel)) entry_typeCall (wpAny_check_type_call_sub hC (run_tcall FB hT hC hi hb hrest ?_))
  refine codeAny_mono hq fun r s' z => ?_
  rcases r with e | (_ | _ | _ | v) <;> exact z
end
end SQ
namespace SQ
open PySem PySem.Spec PyProof.Rows L2

/-! ### what the written part says of an error's class -/
/-- the text of «def __init__(self, f): self.f = f» -/
def iArgs (f : Str) (p1 p2 : Pos) : Arguments := { posonlyargs := [], args := [{ arg := "self", annotation := none, pos := p1 }, { arg := f, annotation := none, pos := p2 }], vararg := none, kwonlyargs := [], kw_defaults := [], kwarg := none, defaults := [] }
def iBody (f : Str) (q1 q2 q3 q4 : Pos) : List Stmt := [.Assign [.Attribute (.Name "self" q1) f q2] (.Name f q3) q4]
def iScope (f : Str) : Scope := { kind := .function, names := [(PySem.Str.ofString "self", .local), (f, .local)], isGenerator := false, isCoroutine := false, more := [] }
/-- a built-in base: its name, its makers, its mro -/
structure BaseB (B newId initId : String) (bmB : List Value) : Prop where
  fb : ExcBaseFacts B newId initId bmB
  sf : StoreFacts B bmB "object.__setattr__" "object"
theorem bValue : BaseB "ValueError" "ValueError.__new__" "ValueError.__init__" [.type "ValueError", .type "Exception", .type "BaseException", .type "object"] := ⟨F.excBase_ValueError, F.store_ValueError⟩
theorem bType : BaseB "TypeError" "TypeError.__new__" "TypeError.__init__" [.type "TypeError", .type "Exception", .type "BaseException", .type "object"] := ⟨F.excBase_TypeError, F.store_TypeError⟩
theorem bLookup : BaseB "LookupError" "LookupError.__new__" "LookupError.__init__" [.type "LookupError", .type "Exception", .type "BaseException", .type "object"] := ⟨F.excBase_LookupError, F.store_LookupError⟩
theorem bArith : BaseB "ArithmeticError" "ArithmeticError.__new__" "ArithmeticError.__init__" [.type "ArithmeticError", .type "Exception", .type "BaseException", .type "object"] := ⟨F.excBase_ArithmeticError, F.store_ArithmeticError⟩

/-- the facts that one check finds (a class at C; its field f) -/
def errOk (K : PySem.W.Frag) (C : Addr) (f : Str) (bmB : List Value) (newId : String) : Bool :=
  PySem.W.excInitIn K C bmB newId && PySem.W.excOver K C bmB && PySem.W.hasDictIn K C && PySem.W.keepIn K (.ref C) &&
  (PySem.W.findIn K (.ref C) "__setattr__" == some (some (.builtin "object.__setattr__"))) &&
  (PySem.W.findIn K (.ref C) "__getattribute__" == some (some (.builtin "BaseException.__getattribute__"))) &&
  (PySem.W.findIn K (.ref C) "__getattr__" == some none) && (PySem.W.findIn K (.ref C) f == some none) &&
  (PySem.W.subIn K (.ref C) (.type "BaseException") == some true) && (PySem.W.clsIn K C).isSome &&
  (PySem.W.findIn K (.ref C) "__class__" == some (some (.builtin "object.__class__"))) && (PySem.W.mroIn K C (.type "object") == some true)
structure ErrC (K : PySem.W.Frag) (C : Addr) (f : Str) (bmB : List Value) (newId : String) : Prop where
  ini : PySem.W.excInitIn K C bmB newId = true
  ov : PySem.W.excOver K C bmB = true
  hd : PySem.W.hasDictIn K C = true
  kp : PySem.W.keepIn K (.ref C) = true
  sa : PySem.W.findIn K (.ref C) "__setattr__" = some (some (.builtin "object.__setattr__"))
  ga : PySem.W.findIn K (.ref C) "__getattribute__" = some (some (.builtin "BaseException.__getattribute__"))
  gg : PySem.W.findIn K (.ref C) "__getattr__" = some none
  no : PySem.W.findIn K (.ref C) f = some none
  ex : PySem.W.subIn K (.ref C) (.type "BaseException") = some true
  cl : (PySem.W.clsIn K C).isSome = true
  ca : PySem.W.findIn K (.ref C) "__class__" = some (some (.builtin "object.__class__"))
  ob : PySem.W.mroIn K C (.type "object") = some true
theorem ErrC.of {K : PySem.W.Frag} {C : Addr} {f : Str} {bmB : List Value} {newId : String} (h : errOk K C f bmB newId = true) : ErrC K C f bmB newId := by
  unfold errOk at h
  simp only [Bool.and_eq_true, beq_iff_eq] at h
  obtain ⟨⟨⟨⟨⟨⟨⟨⟨⟨⟨⟨h1, h2⟩, h3⟩, h4⟩, h5⟩, h6⟩, h7⟩, h8⟩, h9⟩, h10⟩, h11⟩, h12⟩ := h
  exact ⟨h1, h2, h3, h4, h5, h6, h7, h8, h9, h10, h11, h12⟩
/-- .. and of its __init__ -/
structure ErrI (K : PySem.W.Frag) (C fI : Addr) (f : Str) : Prop where
  at_ : PySem.W.findIn K (.ref C) "__init__" = some (some (.ref fI))
  ty : PySem.W.typeIn K (.ref fI) = some (.type "function")
  fn : ∃ (qual : Str) (oc : Value) (od : Option Addr) (doc pm : Value) (an : Option Addr) (cdv ct : Value) (osl : Array (Option Value)) (p1 p2 q1 q2 q3 q4 : Pos),
    K.lookup fI = some ⟨oc, od, .func (PySem.W.fnOf "__init__" qual (iArgs f p1 p2) (iBody f q1 q2 q3 q4) (iScope f) .none .none doc pm an cdv ct), osl⟩ ∧ PySem.W.codeIn K cdv qual = true
/-- the three fields -/
def Fld (f : Str) : Prop := f = "value" ∨ f = "index" ∨ f = "limit"

section
variable {prog : Program} {w : World} {A : Around} {E : Value → Shared → Prop} {R : Result → Shared → Prop} {hp : Heap} {g : Array GenState} {d : Drawn} {t : Nat} {os : OsState}
  {K : PySem.W.Frag} {B newId initId : String} {bmB : List Value} {C fI : Addr} {f : Str}
/-- self.f = v on an exception that has no dict yet -/
theorem store_first (SF : StoreFacts B bmB "object.__setattr__" "object") (T : ErrC K C f bmB newId) {x t0 : Addr} {tk : Tok} {v : Value} (X : K.In hp) (hx : hp.get? x = some (PySem.HandSPX.excO C t0))
    (hq : ∀ h' tk' dx, (∀ b o, b ≠ x → hp.get? b = some o → h'.get? b = some o) → hp.objs.size ≤ dx → dx ≠ x →
      h'.get? x = some { cls := .ref C, dict := some dx, data := .fields #[.ref t0, .none, .none, .none, .bool false, .none] } →
      h'.Ns1 dx (fun y => if y = f then some v else none) → R (.ok (.ret .none)) ⟨h', g, d, tk', os⟩) :
    codeAny (model prog w) A (.call (.builtin "object.__setattr__") ⟨[.ref x, .str f tk, v], []⟩) R ⟨hp, g, d, t, os⟩ := by
  have ht : PySem.W.takerIn K C f = some none := by
    unfold PySem.W.takerIn
    rw [T.no]
    rfl
  have ne : x ≠ hp.objs.size := Nat.ne_of_lt (Heap.lt_size hx)
  refine PySem.W.osa_openX (od := none) SF X ⟨hx, rfl, rfl, trivial⟩ T.ov ht fun b => ?_
  obtain ⟨cd, hc, hd'⟩ := PySem.W.any_some T.hd
  refine wpAny_bind (wpAny_pure (wpAny_bind (PySem.W.instanceDict_exc (c2 := .none) hx (PySem.W.looks_clsIn X hc) hd' ?_)))
  show wpAny _ _ (Builtin.ObjectAttr.storeInDict hp.objs.size (.str f tk) f v) _ _ _
  refine PySem.HandSPX.store_in_new ?_ ?_
  · exact ⟨_, #[], _, (Heap.get?_update_ne _ _ _ _ ne.symm).trans (Heap.get?_push_at rfl rfl), rfl, fun e he => absurd he (by simp), fun _ => rfl⟩
  · intro h' tk' hn' hs
    have hx1 : (hp.push { cls := .type "dict", data := .dict #[] }).get? x = some (PySem.HandSPX.excO C t0) := Heap.get?_push_of_some _ hx
    refine hq h' tk' hp.objs.size (fun b o hb ho => ?_) (Nat.le_refl _) ne.symm ?_ hn'
    · exact (hs.2 b (Nat.ne_of_lt (Heap.lt_size ho))).trans ((Heap.get?_update_ne _ _ _ _ hb).trans (Heap.get?_push_of_some _ ho))
    · exact (hs.2 x ne).trans (Heap.get?_update_self _ hx1 rfl)
end
/-- an error made: its object at e, its dict at dx, both new -/
structure Made (h h' : Heap) (e C dx : Addr) (f : Str) (v : Value) : Prop where
  keep : ∀ b o, h.get? b = some o → h'.get? b = some o
  new : h.objs.size ≤ e
  obj : ∃ t1 : Addr, h'.get? e = some ({ cls := .ref C, dict := some dx, data := .fields #[.ref t1, .none, .none, .none, .bool false, .none] } : Obj)
  dbig : h.objs.size ≤ dx
  dne : dx ≠ e
  ns : h'.Ns1 dx (fun y => if y = f then some v else none)
theorem ld_loc {M : Model} {s : Shared} {name : Str} {scope : Scope} {L a : Addr} {cd : Value} {m : Str → Option Value} {x : Str} {pos : Pos} {v : Value} {Q : Value → Shared → Prop} {A : Around} {E : Value → Shared → Prop} (hn : s.heap.Ns L m) (hv : m x = some v) (h : Q v s)
    (hk : scope.kind = .function := by rfl) (hl : (envOfC name scope L a cd).kindOf x = some .local := by rfl) (hd : (x == ("__debug__" : Str)) = false := by decide) :
    wpAny M A (eval (.Name x pos) (envOfC name scope L a cd)) Q E s := wpAny_Name (wpAny_loadName_local hk hl hn hv h) hd
section
variable {prog : Program} {w : World} {A : Around} {E : Value → Shared → Prop} {R : Result → Shared → Prop} {s : Shared}
  {K : PySem.W.Frag} {B newId initId : String} {bmB : List Value} {C fI : Addr} {f : Str}
/-- the run of __init__, the value coming by position or by keyword -/
theorem run_init (hf : Fld f) (SF : StoreFacts B bmB "object.__setattr__" "object") (T : ErrC K C f bmB newId) (J : ErrI K C fI f) {x t0 : Addr} {v : Value} {args : Args} (ha : args = ⟨[.ref x, v], []⟩ ∨ args = ⟨[.ref x], [(f, v)]⟩)
    (X : K.In s.heap) (hlim : s.heap.NoLimit) (hx : s.heap.get? x = some (PySem.HandSPX.excO C t0)) (hroom : A.depth < recursionLimit)
    (hq : ∀ h' tk dx, (∀ b o, b ≠ x → s.heap.get? b = some o → h'.get? b = some o) → s.heap.objs.size ≤ dx → dx ≠ x →
      h'.get? x = some { cls := .ref C, dict := some dx, data := .fields #[.ref t0, .none, .none, .none, .bool false, .none] } →
      h'.Ns1 dx (fun y => if y = f then some v else none) → R (.ok (.ret .none)) { s with heap := h', toks := tk }) :
    codeAny (model prog w) A (.call (.ref fI) args) R s := by
  obtain ⟨qual, oc, od, doc, pm, an, cdv, ct, osl, p1, p2, q1, q2, q3, q4, ho, hcd⟩ := J.fn
  have key : ∀ (bnd : BindsTo s (PySem.W.fnOf "__init__" qual (iArgs f p1 p2) (iBody f q1 q2 q3 q4) (iScope f) .none .none doc pm an cdv ct) args [("self", .ref x), (f, v)]), codeAny (model prog w) A (.call (.ref fI) args) R s := by
    intro bnd
    rcases hf with rfl | rfl | rfl
    all_goals
      refine Att.call_fn X hlim ho hcd hroom bnd (by first | rfl | decide | with_unfolding_all rfl) (fun s₁ IC => ?_) rfl rfl rfl
      obtain ⟨h₁, tk₁, rfl⟩ := IC.toInCall.same
      have k : ∀ b o, s.heap.get? b = some o → h₁.get? b = some o := IC.toInCall.keep
      have hn := IC.toInCall.ns
      have X₁ : K.In h₁ := X.keeps k
      have hx₁ := k _ _ hx
      show wpAny _ _ (execs _ _) _ _ _
      refine wpAny_execs_cons (plainObj_wpAny_Assign_Attribute ?_)
      refine ld_loc (v := v) hn (by first | rfl | with_unfolding_all rfl | kernel_rfl) (ld_loc (v := .ref x) hn (by first | rfl | with_unfolding_all rfl | kernel_rfl) ?_)
      refine PySem.W.set_plain X₁ (ox := PySem.HandSPX.excO C t0) (od := none) ⟨hx₁, rfl, rfl, trivial⟩ T.sa ?_
      refine store_first SF T X₁ hx₁ (fun h₃ tk₃ dx k₃ dn dne hx₃ hn₃ => ?_)
      show wpAny _ _ (execs _ _) _ _ _
      have z : s.heap.objs.size < h₁.objs.size := hn.lt
      exact wpAny_execs_nil (hq h₃ tk₃ dx (fun b o hb e => k₃ b o hb (k b o e)) (Nat.le_of_lt (Nat.lt_of_lt_of_le z dn)) dne hx₃ hn₃)
  refine key ?_
  rcases hf with rfl | rfl | rfl
  all_goals
    rcases ha with rfl | rfl
    · exact BindsTo.of_eq (by first | rfl | with_unfolding_all rfl | kernel_rfl)
    · exact BindsTo.of_eq (by first | rfl | with_unfolding_all rfl | kernel_rfl)
/-- C(v), C(f=v) -/
theorem run_made (hf : Fld f) (BB : BaseB B newId initId bmB) (T : ErrC K C f bmB newId) (J : ErrI K C fI f) {v : Value} {pos : List Value} {kw : List (Str × Value)} (ha : (pos = [v] ∧ kw = []) ∨ (pos = [] ∧ kw = [(f, v)]))
    (X : K.In s.heap) (hlim : s.heap.NoLimit) (hroom : A.depth + 1 < recursionLimit)
    (hq : ∀ h' tk e dx, Made s.heap h' e C dx f v → R (.ok (.ret (.ref e))) { s with heap := h', toks := tk }) :
    codeAny (model prog w) A (.call (.ref C) ⟨pos, kw⟩) R s := by
  obtain ⟨nm, N, qn, bs, bm, hdct, sn, sub, ab, col, dd, k0, k1, k2, k3, k5, hC, hT⟩ := PySem.W.excInit_of X T.ini
  obtain ⟨hp, g, dr, tk, os⟩ := s
  have k : ∀ b o, hp.get? b = some o → ((hp.push (PySem.W.kdv_tup pos)).push (PySem.HandSPX.excO C hp.objs.size)).get? b = some o := fun b o e => Heap.get?_push_of_some _ (Heap.get?_push_of_some _ e)
  have hget : ((hp.push (PySem.W.kdv_tup pos)).push (PySem.HandSPX.excO C hp.objs.size)).get? (hp.objs.size + 1) = some (PySem.HandSPX.excO C hp.objs.size) := by heap_get
  have hpos : pos.length ≤ sizeLine := by
    rcases ha with ⟨rfl, _⟩ | ⟨rfl, _⟩
    · show 1 ≤ sizeLine
      decide
    · show 0 ≤ sizeLine
      decide
  refine run_ccall BB.fb hT hC (PySem.W.looks_findIn X J.at_) (fun self => PySem.W.bind_fn X self J.ty) hpos ?_
  refine run_init (s := ⟨(hp.push (PySem.W.kdv_tup pos)).push (PySem.HandSPX.excO C hp.objs.size), g, dr, tk, os⟩) (v := v) hf BB.sf T J ?_ (X.keeps k) (hlim.keeps k) hget ?_ ?_
  · rcases ha with ⟨rfl, rfl⟩ | ⟨rfl, rfl⟩
    · exact .inl rfl
    · exact .inr rfl
  · rw [make_depth]
    exact hroom
  · intro h' tk' dx k' dn dne hx hns
    have old : ∀ b o, hp.get? b = some o → h'.get? b = some o := fun b o e => k' b o (Nat.ne_of_lt (Nat.lt_succ_of_lt (Heap.lt_size e))) (k b o e)
    have z : hp.objs.size + 1 + 1 ≤ dx := by
      have q := dn
      first
        | exact q
        | (simpa only [Heap.size_push] using q)
    exact ⟨rfl, hq h' tk' (hp.objs.size + 1) dx ⟨old, Nat.le_succ _, ⟨_, hx⟩, Nat.le_trans (Nat.le_trans (Nat.le_succ _) (Nat.le_succ _)) z, dne, hns⟩⟩
end
/-! ### the rules over the layer -/
section
variable {X : Cx} {pins : List (Addr × Obj)} {σ : L2.St} {H : Hp} {s : Shared}
end
/-- at a: an error of the class at C whose field f holds v -/
def ErrAt (H : Hp) (a C : Addr) (f : Str) (v : V) : Prop := ∃ d, H a = some (exo a C (some d)) ∧ H d = some (exd d [(f, v)])
/-- at a: an error of the class at C, with a dict or without -/
def ErrIs (H : Hp) (a C : Addr) : Prop := ∃ d, H a = some (exo a C d)  ∧ ∀ x, d = some x → ∃ fs, H x = some (exd x fs)
theorem ErrAt.is {H : Hp} {a C : Addr} {f : Str} {v : V} (h : ErrAt H a C f v) : ErrIs H a C := by
  obtain ⟨d, h1, h2⟩ := h
  exact ⟨some d, h1, fun x e => by cases e; exact ⟨_, h2⟩⟩
theorem ErrAt.same {H H' : Hp} {a C : Addr} {f : Str} {v : V} (s : Same H H') (h : ErrAt H a C f v) : ErrAt H' a C f v := by
  obtain ⟨d, h1, h2⟩ := h
  exact ⟨d, s _ _ h1, s _ _ h2⟩
theorem ErrIs.same {H H' : Hp} {a C : Addr} (s : Same H H') (h : ErrIs H a C) : ErrIs H' a C := by
  obtain ⟨d, h1, h2⟩ := h
  refine ⟨d, s _ _ h1, fun x e => ?_⟩
  obtain ⟨fs, h3⟩ := h2 x e
  exact ⟨fs, s _ _ h3⟩
section
variable {X : Cx} {B newId initId : String} {bmB : List Value} {C fI : Addr} {f x : Str} {e : Expr} {te : TE} {p pos kpos : Pos} {k : Nat}
end
/-! ### isinstance of an error -/
structure IsF (K : PySem.W.Frag) : Prop where
  gt : PySem.W.specialIn K (.builtin "object.__class__") "__get__" = some (some (.builtin "getset_descriptor.__get__"))
  tk : PySem.W.takesIn K (.builtin "object.__class__") = some true
/-- what isinstance asks of the class -/
structure IsC (K : PySem.W.Frag) (C : Addr) : Prop where
  ga : PySem.W.findIn K (.ref C) "__getattribute__" = some (some (.builtin "BaseException.__getattribute__"))
  gg : PySem.W.findIn K (.ref C) "__getattr__" = some none
  ex : PySem.W.subIn K (.ref C) (.type "BaseException") = some true
  cl : (PySem.W.clsIn K C).isSome = true
  ca : PySem.W.findIn K (.ref C) "__class__" = some (some (.builtin "object.__class__"))
  ob : PySem.W.mroIn K C (.type "object") = some true
theorem ErrC.isc {K : PySem.W.Frag} {C : Addr} {f : Str} {bmB : List Value} {newId : String} (T : ErrC K C f bmB newId) : IsC K C := ⟨T.ga, T.gg, T.ex, T.cl, T.ca, T.ob⟩
def isOk (K : PySem.W.Frag) (C : Addr) : Bool := (PySem.W.findIn K (.ref C) "__getattribute__" == some (some (.builtin "BaseException.__getattribute__"))) &&
  (PySem.W.findIn K (.ref C) "__getattr__" == some none) && (PySem.W.subIn K (.ref C) (.type "BaseException") == some true) && (PySem.W.clsIn K C).isSome &&
  (PySem.W.findIn K (.ref C) "__class__" == some (some (.builtin "object.__class__"))) && (PySem.W.mroIn K C (.type "object") == some true)
theorem IsC.of {K : PySem.W.Frag} {C : Addr} (h : isOk K C = true) : IsC K C := by
  unfold isOk at h
  simp only [Bool.and_eq_true, beq_iff_eq] at h
  obtain ⟨⟨⟨⟨⟨h1, h2⟩, h3⟩, h4⟩, h5⟩, h6⟩ := h
  exact ⟨h1, h2, h3, h4, h5, h6⟩
def rIsErr (K : PySem.W.Frag) : List V → Hp → VK → Prop := fun xs H Q => ∃ (a C : Addr) (c : V) (u : Value) (b : Bool), xs = [.ref a, c] ∧ ErrIs H a C ∧ IsC K C ∧ (∀ z, RelV c z → z = u) ∧ PySem.W.kitOne K (.ref C) u = some b ∧ Q (.bl b) H
theorem cr_isErr {X : Cx} (W : IsF X.K) : CallR X (.builtin "isinstance") (rIsErr X.K) := by
  intro pins s σ H xs us Q I r h
  obtain ⟨a, C, c, u, b, rfl, ⟨d, ha, hd⟩, T, hc, e, q⟩ := h
  obtain ⟨u1, u2, rfl, r1, r2⟩ := vals2 r
  obtain rfl : u1 = Value.ref a := r1
  have e2 := hc _ r2
  subst e2
  obtain ⟨t1, ho⟩ := exo_at I.hok ha
  have J : ∃ od, PySem.W.InstAt s.heap a { cls := .ref C, dict := d, data := .fields #[.ref t1, .none, .none, .none, .bool false, .none] } C od := by
    cases d with
    | none => exact ⟨none, ho, rfl, rfl, trivial⟩
    | some x =>
      obtain ⟨fs, hx⟩ := hd x rfl
      obtain ⟨mA, hns, _⟩ := exd_at I.hok hx
      obtain ⟨od, hod, _⟩ := lookIn_ns hns
      exact ⟨some od, ho, rfl, rfl, hod⟩
  obtain ⟨od, J⟩ := J
  exact PySem.W.kia_one (PySem.W.kitx_exc T.cl T.ga T.gg T.ex T.ca W.gt W.tk T.ob) I.kIn J e (fun z => nomatch z) fun tk => ⟨.bl b, H, I.tok tk, rfl, q⟩
end SQ
/-! Such errors raised, caught, read and asked in the suite. -/
namespace SQ
open PySem PySem.Spec PyProof.Rows L2
section
variable {X : Cx} {B newId initId : String} {bmB : List Value} {C fI : Addr} {f x : Str} {e : Expr} {te : TE} {p pos : Pos} {k : Nat}
end
section
variable {X : Cx} {a : Addr} {oe : Obj} {cls : Value} {d : Option Addr} {pn : List (Addr × Obj)} {f : Str} {e : Expr} {te : TE} {pos : Pos}
end
end SQ
/-! Such errors made anywhere (also in an except suite); promises that say that the error has no context. -/
namespace SQ
open PySem PySem.Spec PyProof.Rows L2
section
variable {X : Cx} {B newId initId : String} {bmB : List Value} {C fI : Addr} {f x : Str} {e : Expr} {te : TE} {p pos : Pos} {k : Nat}
/-- C(e), to be raised -/
theorem pmk5_err (hf : Fld f) (BB : BaseB B newId initId bmB) (T : ErrC X.K C f bmB newId) (J : ErrI X.K C fI f) (ty : PySem.W.typeIn X.K (.ref C) = some (.type "type")) (gC : X.mg x = some (.ref C)) (hr : X.A.depth + 1 < recursionLimit) (hg : Gl X x) (he : PE X e te)
    (hdb : (x == ("__debug__" : Str)) = false := by decide) (hs : starEach [e] X.env = (false, eval e X.env) :: starEach [] X.env := by rfl) :
    L2H.PMk5 X (.Call (.Name x p) [e] [] pos) (fun σ H Q => te σ H fun v H1 => ∀ d, H1 d = none → Q (.ref C) (some d) (upd H1 d (.xd [(f, v)]))) := by
  intro pins s σ H Q I h
  refine wpAny_Call_Name_kw (ld_glob I hg gC ?_ hdb)
  refine PySem.W.callWith_K (h₀ := X.base) I.ok.mod.kin T.kp ?_ hs (by rfl)
  rw [hs]
  show wpAny _ _ (spliced ((false, eval e X.env) :: backTo pos (starEach [] X.env))) _ _ s
  refine Calls.spliced_cons (thn (he.run pins s σ H _ I h) fun u s1 ⟨v, H1, I1, r1, q1⟩ => ?_)
  refine Calls.spliced_nil ⟨I1.kIn, ?_⟩
  show wpAny _ _ (call (.ref C) [u]) _ _ _
  have hlim := I1.nolimit
  obtain ⟨hp, g, dr, tk, os⟩ := s1
  refine wpAny_call (run_made (pos := [u]) (kw := []) hf BB T J (.inl ⟨rfl, rfl⟩) I1.kIn hlim hr fun h' tk' a dx M => ?_)
  show L2N.MkP X pins σ Q (.ref a) ⟨h', g, dr, tk', os⟩ ∧ L2H.Six (.ref a) ⟨h', g, dr, tk', os⟩
  obtain ⟨t1, ho⟩ := M.obj
  obtain ⟨G', g1, g2⟩ := restrict h' fun b => decide (b ≠ a)
  have gk : ∀ b, b ≠ a → G'.get? b = h'.get? b := fun b hb => g1 b (decide_eq_true hb)
  have ge : G'.get? a = none := g2 a (by simp)
  have old : ∀ b o, hp.get? b = some o → G'.get? b = some o := fun b o q =>
    (gk b (Nat.ne_of_lt (Nat.lt_of_lt_of_le (Heap.lt_size q) M.new))).trans (M.keep b o q)
  have ob : ObjOk X.prog X.w (upd H1 dx (.xd [(f, v)])) G' dx (.xd [(f, v)]) :=
    ⟨_, M.ns.at (fun o q => (gk dx M.dne).trans q), fun y => relO_put (fs := []) (mA := fun _ => none) r1 (fun g => True.intro) y⟩
  have J1 : Inv X pins σ (upd H1 dx (.xd [(f, v)])) ⟨G', g, dr, tk', os⟩ := I1.laid (t' := tk') old M.dbig ob
  refine ⟨⟨a, _, _, ⟨G', g, dr, tk', os⟩, _, .ref C, some dx, rfl, J1, fun b o q => ?_, ge, ho, ⟨rfl, rfl, fun vs z => by cases z; rfl⟩, rfl, rfl, ?_, rfl, I1.bare, raises_own T.ex ty, q1 dx (I1.hok.fresh M.dbig)⟩, ?_⟩
  · by_cases hb : b = a
    · have q' : G'.get? b = some o := q
      rw [hb, ge] at q'
      cases q'
    · exact (gk b hb).symm.trans q
  · rw [upd_ne (Ne.symm M.dne)]
    exact I1.hok.fresh M.new
  · intro a' oe vs ea hg hd
    cases ea
    have hg' : h'.get? a = some oe := hg
    rw [ho] at hg'
    cases hg'
    cases hd
    show (4 : Nat) < 6
    decide
theorem pmk_of5 {t : L2.St → Hp → XK → Prop} (h : L2H.PMk5 X e t) : L2.PMk X e t := fun pins s σ H Q I q => thn (h pins s σ H Q I q) fun u s' ⟨⟨a, oe, vs, sI, H', cls, d, r0, J, k, hne, ha, hz, rest⟩, _⟩ =>
  ⟨a, oe, vs, sI, H', cls, d, r0, J, k, hne, ha, hz.zc, rest⟩
end
theorem cxUpN {P : Program} {w : World} : StX.CXUp (L2N.CX P w) := by
  rintro outer s H s2 H2 E e t un kp ho ⟨a, B, H', cls, d, ea, fl, hok, ub, na, os, ag, he⟩
  have ub2 : UB (frs outer) H H' s.heap B t.heap := by
    constructor
    · exact fun b o q n hb => ub.keep b o (kp b o q) (un.free b o q n (fun z => nomatch z)) hb
    · exact fun b o q hb => ub.slot b o (kp b o q) hb
    · exact fun b o q n => ub.free b o (kp b o q) (un.free b o q n (fun z => nomatch z))
    · exact fun b o q hb => ub.there b o (kp b o q) hb
    · exact fun b xs q => ub.tups b xs (un.tups b xs q)
    · exact fun b o xs q => ub.frzs b o xs (un.frzs b o xs q)
    · intro b ps q
      obtain ⟨m1, e1⟩ := un.tbls b ps q
      obtain ⟨m2, e2⟩ := ub.tbls b _ e1
      refine ⟨m1 ++ m2, ?_⟩
      rw [e2, Array.append_assoc]
  exact ⟨a, B, H', cls, d, ea, fl, hok, ub2, na, os.trans ho, ag, he⟩
section
variable {P : Program} {w : World} {K : PySem.W.Frag} {mg : Str → Option Value} {base : Heap}
/-- a def that may raise, its error without context -/
theorem okN {x qual : Str} {st : Stmt} {f : Addr} {fd : FuncData} {N ps : List Str} {k : Nat} {sp : Sp} (F : Fun K x qual st f fd) (S : FnScope N ps (defScope st)) (len : ∀ vs H Q E, sp vs H Q E → vs.length = ps.length)
    (hb : ∀ (cdv : Value) (A : Around) (outer : List Env) (s : Shared) (H : Hp) (vs : List V) (Q : VK) (E : XK), Room k (A.deeper (envOfC qual (defScope st) s.heap.objs.size f cdv)) → sp vs H Q E →
      ∃ t, PSs (cxOf (L2N.CX P w) P w K mg base N qual (defScope st) f cdv A outer s H E) (defBody st) t ∧ t { nx := fun _ H' => Q .non H', rt := Q } (start N vs) H) : FnOk P w K mg base (L2N.CX P w) (k + 1) f fd ps sp := by
  obtain ⟨oc, od, kV, doc, pm, an, cdv, ct, osl, rfl, lk, hcd⟩ := F.ex
  exact fn_of lk hcd S len fun A outer s H vs Q E hr hsp => hb cdv A outer s H vs Q E hr hsp
end
end SQ
/-! for i, x in enumerate(a tuple) -/
namespace SQ
open PySem PySem.Spec PyProof.Rows L2
def ItT (K : PySem.W.Frag) (a : Addr) : It :=
  ⟨fun i H => ∃ (xs : List V) (x : V), SqT K H a xs ∧ xs[i]? = some x,
    fun i H v H' => ∃ T x, v = .ref T ∧ H T = none ∧ H' = upd H T (.tup [.int (i : Nat), x]) ∧ ∀ xs, SqT K H a xs → xs[i]? = some x,
    fun i H => ∃ xs : List V, SqT K H a xs ∧ xs.length = i⟩
/-- the makings of enumerate(v) -/
theorem meets_enum1 {v : Value} {o : Obj} {G : Heap → Prop} (B : Begins v o G) :
    Meets (Builtin.«enumerate.__new__» ⟨[.type "enumerate", v], []⟩) (fun _ R s => G s.heap ∧
      R (.ok (.ret (.ref (s.heap.push o).objs.size))) { s with heap := (s.heap.push o).push ({ cls := .type "enumerate", data := .fields #[.none, .bool false, .ref s.heap.objs.size, rawInt 0, .none, .none] } : Obj) }) := by
  refine .of_wp fun prog w A R s h => ?_
  obtain ⟨hp, g, d, tk, os⟩ := s
  obtain ⟨hG, hR⟩ := h
  have isSub := sub_enumerate
  have it : ∀ {A' : Around} {E : Value → Shared → Prop} {Q : Value → Shared → Prop}, Q (.ref hp.objs.size) ⟨hp.push o, g, d, tk, os⟩ →
      wpAny (model prog w) A' (pyIter v) Q E ⟨hp, g, d, tk, os⟩ := fun q => B.iter prog w _ _ ⟨hp, g, d, tk, os⟩ _ hG q
  wp_walk using it
  refine wpAny_stack_any fun st => wpAny_pure ?_
  split
  · rename_i c _ _ _ _ _
    cases (c == Value.type "enumerate") <;>
    · wp_walk using it
      exact ⟨_, rfl, hR⟩
  · wp_walk using it
    exact ⟨_, rfl, hR⟩
section
variable {prog : Program} {w : World} {A : Around} {E : Value → Shared → Prop} {s : Shared}
theorem enum_of {v : Value} {o : Obj} {G : Heap → Prop} {Q : Value → Shared → Prop} (B : Begins v o G) (hG : G s.heap)
    (h : ∀ h', IsEnum h' (s.heap.objs.size + 1) s.heap.objs.size 0 .none → h'.get? s.heap.objs.size = some o →
      (∀ b u, s.heap.get? b = some u → h'.get? b = some u) → Q (.ref (s.heap.objs.size + 1)) { s with heap := h' }) :
    wpAny (model prog w) A (call (.type "enumerate") [v]) Q E s := by
  refine callType_new F.called_enumerate (by decide) (F.typeCall_enumerate_1 _) (F.newCall_enumerate_1 _) (fun obj => F.args_object_init_2 obj _)
    F.entry_enumerate_new (meets_enum1 B) ⟨hG, ?_⟩
  have hz : (s.heap.push o).objs.size = s.heap.objs.size + 1 := Heap.size_push ..
  show _ ∧ _
  rw [hz]
  have got := Heap.get?_push_size (s.heap.push o)
    (o := { cls := .type "enumerate", data := .fields #[.none, .bool false, .ref s.heap.objs.size, rawInt 0, .none, .none] }) rfl
  rw [hz] at got
  exact ⟨⟨_, got, rfl⟩, h _ got (Heap.get?_push_of_some _ (Heap.get?_push_size _ B.free)) fun b u x => Heap.get?_push_of_some _ (Heap.get?_push_of_some _ x)⟩
end
theorem tup_of {h : Heap} {a : Addr} {its : List Value} (p : IsTup h a its.toArray) : h.IsTuple a its.toArray := by
  obtain ⟨o, e, c, n, d⟩ := p
  exact ⟨o, e, c, n, d⟩
theorem turn_enumT {P : Program} {w : World} {K : PySem.W.Frag} {elts : List Expr} {kk : Nat} {tpos : Pos} (a e it : Addr) :
    Turn P w K (.Tuple elts kk tpos) (ItT K a) [e, it] e (fun i h => (∃ old, IsEnum h e it ((i : Nat) : Int) old) ∧ h.IsTupleIter it a i ∧ e ≠ it ∧ a ≠ it ∧ e ≠ a) where
  mem := by simp
  obj := fun i h ⟨⟨old, he⟩, ⟨o, ho, hc, hd⟩, _⟩ b hb => by
    rcases (show b = e ∨ b = it by simpa using hb) with z | z
    · rw [z]
      exact ⟨_, he, fun v q => nomatch q⟩
    · rw [z]
      exact ⟨o, ho, fun v q => by rw [hd] at q; cases q⟩
  keep := fun i h h' ⟨⟨old, he⟩, ⟨o, ho, r⟩, ne⟩ k => ⟨⟨old, k e (by simp) _ he⟩, ⟨o, k it (by simp) _ ho, r⟩, ne⟩
  item := by
    intro X hP hw hK hc i pins s σ H E I hf ⟨⟨old, he⟩, hit, ne1, ne2, ne3⟩ ⟨xs, x, hq, hx⟩
    subst hP hw hK
    obtain ⟨its, rv, p, hz⟩ := I.tuple hq
    obtain ⟨u, hu, ru⟩ := rv.get hx
    have hel : e < s.heap.objs.size := Heap.lt_size he
    have hil : it < s.heap.objs.size := by
      obtain ⟨_, q, _⟩ := hit
      exact Heap.lt_size q
    have hd : X.A.in1.handled = none := I.ok.hd hc
    have hlt : i < its.toArray.size := by
      have := (List.getElem?_eq_some_iff.mp hu).1
      simpa using this
    refine wpAny_pyNext_enum_itemD (Draws.tuple (prog := X.prog) (w := X.w) (A := X.A.in1) hd it a ne2 its.toArray) he ⟨hit, tup_of p⟩ hlt ne1 (by simp [ne1, ne3]) ?_
    intro u' h' tk hu' ho ⟨hit', _⟩ hT hsz hk
    have eu : u' = u := by
      have h1 : its[i]? = some u' := by simpa using hu'
      rw [hu] at h1
      exact (Option.some.inj h1).symm
    subst eu
    refine ⟨_, rfl, wpAny_letOwnedTupleGo_enum (s := { s with heap := h', toks := tk + 1 }) ho fun h'' he' sb => ?_⟩
    have hT2 : h''.get? s.heap.objs.size = some { cls := .type "tuple", data := .seq #[.int i tk, u'] } := (sb.2 _ (Nat.ne_of_gt hel)).trans hT
    have new : ObjOk X.prog X.w (upd H s.heap.objs.size (.tup [.int (i : Nat), x])) h'' s.heap.objs.size (.tup [.int (i : Nat), x]) :=
      ⟨by show 2 ≤ sizeLine; decide, [.int i tk, u'], .cons ⟨_, rfl⟩ (.cons ru .nil), ⟨_, hT2, rfl, _, rfl⟩⟩
    have I1 : Inv X pins σ (upd H s.heap.objs.size (.tup [.int (i : Nat), x])) { s with heap := h'', toks := tk + 1 } :=
      I.turnedNew (ch := [e, it]) (fun b ob hb q => (sb.2 b (fun z => hb (by simp [z]))).trans (hk b ob (fun z => hb (by simp [z])) (fun z => hb (by simp [z])) q)) hf (Nat.le_refl _) new
    refine ⟨.ref s.heap.objs.size, _, I1, rfl, ⟨_, x, rfl, I.hok.fresh (Nat.le_refl _), rfl, fun ys hy => by rw [I.tuple_inj hy hq]; exact hx⟩, ⟨⟨u', ?_⟩, ?_, ne1, ne2, ne3⟩, fun b hb => ?_⟩
    · rw [show ((i + 1 : Nat) : Int) = (i : Int) + 1 by omega]
      exact he'
    · obtain ⟨o, q, r⟩ := hit'
      exact ⟨o, (sb.2 it (Ne.symm ne1)).trans q, r⟩
    · have hb' : b < s.heap.objs.size := by
        rcases (show b = e ∨ b = it by simpa using hb) with z | z
        · rw [z]
          exact hel
        · rw [z]
          exact hil
      rw [upd_ne (Nat.ne_of_lt hb')]
      exact (hf b hb).1
  done := by
    intro X hP hw hK hc i pins s σ H E I hf ⟨⟨old, he⟩, hit, ne1, ne2, ne3⟩ ⟨xs, hq, hx⟩
    subst hP hw hK
    obtain ⟨its, rv, p, hz⟩ := I.tuple hq
    obtain ⟨f0, f1, f2, f3, f4, f5⟩ := hf it (by simp)
    have hl := rv.length
    have hd : X.A.in1.handled = none := I.ok.hd hc
    have hn : its.toArray.size = i := by
      rw [List.size_toArray]
      omega
    refine wpAny_pyNext_enum_endD (Draws.tuple (prog := X.prog) (w := X.w) (A := X.A.in1) hd it a ne2 its.toArray) he ?_ ?_
    · rw [hn]
      exact ⟨hit, tup_of p⟩
    · intro h' eb
      exact ⟨rfl, I.turned (t' := s.toks) (fun b o hb q => eb b o hb q) f0 f1 f3 f4 f5⟩
  self := fun A i s Q E ⟨⟨_, he⟩, _⟩ h => wpAny_pyIter_enum he h
def iEnumT (K : PySem.W.Frag) (ta : TA) : TI := fun σ H R => ta σ H fun vs H1 => ∃ a xs, vs = [.ref a] ∧ SqT K H1 a xs ∧ R (ItT K a) H1
theorem pi_enumT {X : Cx} {e : Expr} {ta : TA} {p pos tpos : Pos} {elts : List Expr} {kk : Nat} (hg : Gl X "enumerate") (hm : X.mg "enumerate" = none) (ha : PA X [e] ta)
    (hs : starEach [e] X.env = [(false, eval e X.env)] := by rfl) : PI X (.Tuple elts kk tpos) (.Call (.Name "enumerate" p) [e] [] pos) (iEnumT X.K ta) := by
  constructor
  intro pins s σ H R I h
  refine Call_ (ld_blt I hg hm boot_enumerate (PyProof.Rows.callWith_type1 (thn (ha.run pos pins s σ H _ I h) ?_) hs rfl))
  intro us s1 ⟨vs, H1, I1, r1, a, xs, ex, hq, q⟩
  subst ex
  cases r1 with
  | cons r rr =>
    cases rr
    cases r
    obtain ⟨its, rv, p', hz⟩ := I1.tuple hq
    have hal : a < s1.heap.objs.size := by
      obtain ⟨o, e', _⟩ := p'
      exact Heap.lt_size e'
    refine enum_of (begins_tuple a its.toArray) (tup_of p') fun h' he hit hk => wpAny_pyIter_enum he ?_
    have I2 : Inv X pins σ H1 { s1 with heap := h' } := I1.kept (t' := s1.toks) hk
    refine ⟨s1.heap.objs.size + 1, [s1.heap.objs.size + 1, s1.heap.objs.size], _, _, H1, rfl, I2, turn_enumT a (s1.heap.objs.size + 1) s1.heap.objs.size,
      ⟨⟨.none, he⟩, ⟨_, hit, rfl, rfl⟩, Nat.succ_ne_self _, Nat.ne_of_lt hal, Nat.ne_of_gt (Nat.lt_succ_of_lt hal)⟩, fun b hb => ?_, q⟩
    have hle : s1.heap.objs.size ≤ b := by
      rcases (show b = s1.heap.objs.size + 1 ∨ b = s1.heap.objs.size by simpa using hb) with z | z
      · rw [z]
        exact Nat.le_succ _
      · rw [z]
        exact Nat.le_refl _
    exact I1.fpOk hle (I1.hok.fresh hle)
end SQ
namespace SQ4
open PySem L2 SQ
abbrev sChk : Stmt := top 28
theorem dp_of {k : Nat} {A : Around} (hr : Room k A) : A.depth + 1 < recursionLimit := by
  have := hr.dp
  omega
abbrev En := Option (Str × Int × Int)
abbrev Ents (H : Hp) (xs : List V) (os : List En) : Prop := Paired (Ent H) xs os
theorem Ents.same {H H' : Hp} {xs : List V} {os : List En} (s : Same H H') (h : Ents H xs os) : Ents H' xs os := Paired.mapP h fun a b e => e.same s
/-- the first place that is refused, what stands ahead of i having the names seen -/
def firstBad (seen : List Str) (i : Nat) : List En → Option Nat
  | [] => none
  | none :: _ => some i
  | some (n, _, _) :: os => if n ∈ seen then some i else firstBad (n :: seen) (i + 1) os
/-- what the error's index holds, if there is one -/
def verdict (os : List En) : Option V := if 8 < os.length then some .non else (firstBad [] 0 os).map fun i => .int (i : Nat)
/-- the error's class as the top has made it -/
structure EC (K : PySem.W.Frag) (mg : Str → Option Value) (CE fI : Addr) : Prop where
  g : mg "InvalidEntries" = some (.ref CE)
  T : ErrC K CE "index" [.type "ValueError", .type "Exception", .type "BaseException", .type "object"] "ValueError.__new__"
  J : ErrI K CE fI "index"
  ty : PySem.W.typeIn K (.ref CE) = some (.type "type")
structure B3 (mg : Str → Option Value) : Prop where
  set : mg "set" = none
  enumerate : mg "enumerate" = none
  most : ∃ t, mg "MOST_ENTRIES" = some (.int 8 t)
def spChk (CE : Addr) : Sp := fun vs H Q E => ∃ (t : Addr) (xs : List V) (os : List En), vs = [.ref t] ∧ H t = some (.tup xs) ∧ Ents H xs os ∧ xs.length ≤ 2000 ∧
  (∀ idx, verdict os = some idx → ∀ (d : Addr) (H' : Hp), Same H H' → H' d = some (.xd [("index", idx)]) → E (.ref CE) (some d) H') ∧ (verdict os = none → ∀ H', Same H H' → Q .non H')
section
variable {P : Program} {w : World} {K : PySem.W.Frag} {mg : Str → Option Value} {base : Heap} {fP fN fF fA fE tC CE fI : Addr} {dP dN dF dA dE : FuncData}
theorem scCk : FnScope ["entries", "taken", "place", "entry"] ["entries"] (defScope sChk) := ⟨rfl, rfl, rfl, by decide +kernel, rfl, by decide +kernel, by decide +kernel⟩
theorem walk_enumT {a : Addr} {xs : List V} : Walk (ItT K a) xs.length (fun H => SqT K H a xs) (YPair (fun i => some (.int (i : Nat))) (fun i => xs[i]?)) := by
  refine ⟨fun i _ hi q => ⟨xs, xs[i], q, by simp [hi]⟩, fun _ q => ⟨xs, q, rfl⟩, fun i H v H' _ q y => ?_⟩
  obtain ⟨T, x, h1, h2, h3, h4⟩ := y
  exact ⟨T, .int (i : Nat), x, h1, h2, h3, rfl, h4 xs q⟩
theorem Ents.get {H : Hp} : ∀ {xs : List V} {os : List En} {i : Nat} {x : V}, Ents H xs os → xs[i]? = some x → ∃ o, os[i]? = some o ∧ Ent H x o
  | _, _, _, _, .nil, e => by simp at e
  | _, _, 0, x, .cons r t, e => by
    cases e
    exact ⟨_, rfl, r⟩
  | _, _, i + 1, x, .cons r t, e => Ents.get (i := i) (x := x) t e
theorem drop_at {α : Type} : ∀ {l : List α} {i : Nat} {x : α}, l[i]? = some x → l.drop i = x :: l.drop (i + 1)
  | [], i, x, h => by simp at h
  | a :: l, 0, x, h => by
    cases h
    rfl
  | a :: l, i + 1, x, h => drop_at (l := l) (i := i) h
theorem ok_chk {f : Addr} {fd : FuncData} (F : Fun K "check_entries" "check_entries" sChk f fd) (D : D2 K mg fP fN fF fA fE dP dN dF dA dE) (B : B2 mg) (C : Core K mg tC) (Z : EC K mg CE fI) (BB : B3 mg) : FnOk P w K mg base (L2N.CX P w) 4 f fd ["entries"] (spChk CE) := by
  have GE : FnOk P w K mg base CX0 3 fE dE ["value"] spEn := ok_en D B C
  obtain ⟨tM, hM⟩ := BB.most
  refine okN F scCk (fun vs H Q E h => ?_) (fun cdv A outer s H vs Q E hr h => ?_)
  · obtain ⟨t, xs, os, rfl, _⟩ := h
    rfl
  · obtain ⟨t, xs, os, rfl, ht, he, hlen, kE, kQ⟩ := h
    have hl : xs.length = os.length := Paired.length he
    refine ⟨_, pss_cons (ps_if (pt_cmpR op_gt (pe_callB call_len_seq (by rfl) B.len PySem.boot_len (pa_cons (pv 0) pa_nil)) (pe_glob (v := .int 8) rfl hM ⟨_, rfl⟩) (nomark _))
        (pss_one (L2N.ps_raise rfl (L2N.takes_of rfl rfl rfl rfl) (L2H.PMk5.pmk (pmk5_err (.inr (.inl rfl)) bValue Z.T Z.J Z.ty Z.g (dp_of hr) rfl pe_non)))) pss_nil)
      (pss_cons (ps_set (i := 1) scCk.nd rfl (.inl rfl) (pe_callTy0 cr_set0K (by rfl) BB.set (by decide +kernel)))
      (pss_one (ps_for (passes_of rfl) rfl (pi_enumT (by rfl) BB.enumerate (pa_cons (pv 0) pa_nil)) (pg_tup rfl (pgs_cons (pg_name (i := 2) scCk.nd rfl (.inl rfl)) (pgs_cons (pg_name (i := 3) scCk.nd rfl (.inl rfl)) pgs_nil)))
        (pss_cons (ps_if (PW.pt (pw_or (pt_not (pt_val (pe_call GE hr rfl D.gE D.FE.kp D.bE .nil pass0 (pa_cons (pv 3) pa_nil)))) (pw_or1 (pt_cmpR or_sinK (pe_ix ix_tup (pv 3) pe_int (fun _ _ => rfl)) (pv 1) (by rfl)))))
          (pss_one (L2N.ps_raise rfl (L2N.takes_of rfl rfl rfl rfl) (L2H.PMk5.pmk (pmk5_err (.inr (.inl rfl)) bValue Z.T Z.J Z.ty Z.g (dp_of hr) rfl (pv 2))))) pss_nil)
        (pss_one (ps_expr (pe_saddK (pv 1) (pa_cons (pe_ix ix_tup (pv 3) pe_int (fun _ _ => rfl)) pa_nil)))))))), ?_⟩
    refine ⟨_, rfl, t, xs, rfl, .inr (SqT.of ht), _, _, rfl, rfl, _, rfl, ?_⟩
    by_cases h8 : (8 : Int) < (xs.length : Int)
    · rw [decide_eq_true h8]
      refine iteT fun d nd => ?_
      exact kE .non (by unfold verdict; rw [if_pos (by omega)]) d _ (same_new (fun _ _ e => e) nd) upd_same
    · rw [decide_eq_false h8]
      refine iteF ⟨rfl, fun p np => ?_⟩
      have sP : Same H (upd H p (SetK P w p (fun _ => false) 0)) := same_new (fun _ _ e => e) np
      have hv : verdict os = (firstBad [] 0 os).map fun i => .int (i : Nat) := by
        unfold verdict
        rw [if_neg (by omega)]
      refine ⟨_, rfl, t, xs, rfl, SqT.of (sP _ _ ht), for_it walk_enumT (fun i σ H2 => ∃ (S : Key → Bool) (n : Nat) (seen : List Str) (v2 v3 : Option V), σ = [some (.ref t), some (.ref p), v2, v3] ∧ Same H H2 ∧ H2 p = some (SetK P w p S n) ∧ n ≤ i ∧
          (∀ k : Str, S (Sum.inr k) = decide (k ∈ seen)) ∧ firstBad [] 0 os = firstBad seen i (os.drop i))
        ⟨_, 0, [], none, none, rfl, sP, upd_same, Nat.le_refl _, fun k => by simp, rfl⟩ (fun i σ H2 _ ⟨_, _, _, _, _, _, s2, _⟩ => SqT.of (s2 _ _ ht)) ?_ ?_⟩
      · rintro i v σ H2 H3 hi ⟨S, n, seen, v2, v3, rfl, s2, hp2, hn, hS, hF⟩ ⟨T, x, y, rfl, nT, rfl, e1, e2⟩
        cases e1
        obtain ⟨o, ho, en⟩ := Ents.get he e2
        have s3 : Same H2 (upd H2 T (.tup [.int (i : Nat), y])) := same_new (fun _ _ e => e) nT
        have hT : upd H2 T (.tup [.int (i : Nat), y]) T = some (.tup [.int (i : Nat), y]) := upd_same
        have hp3 := s3 _ _ hp2
        rw [drop_at ho] at hF
        generalize hG : upd H2 T (HO.tup [V.int (i : Nat), y]) = G at hT hp3 s3 ⊢
        have s23 : Same H G := st s2 s3
        refine ⟨T, _, rfl, SqT.of hT, rfl, _, _, rfl, _, _, rfl, rfl, ?_⟩
        refine ⟨_, rfl, y, o, rfl, en.same s23, fun G1 sg => ⟨_, rfl, ?_⟩⟩
        have s4 : Same H G1 := st s23 sg
        have hp4 := sg _ _ hp3
        cases o with
        | none =>
          refine iteT (iteT ⟨_, rfl, fun d nd => ?_⟩)
          refine kE (.int (i : Nat)) ?_ d _ (same_new s4 nd) upd_same
          rw [hv, hF]
          rfl
        | some o3 =>
          obtain ⟨nm, a1, a2⟩ := o3
          refine iteF ?_
          have en4 := en.same s4
          cases en4 with
          | @good ea _ _ _ eE hnm hok =>
            refine ⟨_, rfl, ea, _, _, _, rfl, rfl, SqT.of eE, rfl, _, rfl, Sum.inr nm, p, S, n, rfl, rfl, hp4, _, rfl, ?_⟩
            show (if S (Sum.inr nm) = true then _ else _)
            rw [hS nm]
            by_cases hm : nm ∈ seen
            · rw [decide_eq_true hm]
              refine iteT ⟨_, rfl, fun d nd => ?_⟩
              refine kE (.int (i : Nat)) ?_ d _ (same_new s4 nd) upd_same
              rw [hv, hF]
              show (if nm ∈ seen then some i else _).map _ = _
              rw [if_pos hm]
              rfl
            · rw [decide_eq_false hm]
              refine iteF ?_
              refine ⟨_, rfl, ⟨p, S, n, rfl, hp4⟩, _, rfl, ea, _, _, _, rfl, rfl, SqT.of eE, rfl, p, Sum.inr nm, S, n, rfl, rfl, hp4, ?_, ?_⟩
              · show n + 1 < 4096
                omega
              · refine ⟨_, _, nm :: seen, _, _, rfl, ?_, upd_same, ?_, ?_, ?_⟩
                · intro b ob e
                  rw [upd_ne (ne_of_none e np)]
                  exact s4 _ _ e
                · split <;> omega
                · intro k
                  show (S (Sum.inr k) || decide ((Sum.inr k : Key) = Sum.inr nm)) = decide (k ∈ nm :: seen)
                  rw [hS k, key_rr]
                  by_cases hk : k = nm
                  · subst hk
                    simp
                  · simp [hk]
                · rw [hF]
                  show (if nm ∈ seen then some i else firstBad (nm :: seen) (i + 1) (os.drop (i + 1))) = _
                  rw [if_neg hm]
      · rintro σ H2 ⟨S, n, seen, v2, v3, rfl, s2, hp2, hn, hS, hF⟩
        refine kQ ?_ H2 s2
        rw [hv, hF, hl, List.drop_length]
        rfl
end
end SQ4
namespace SQ4
open PySem L2 SQ
abbrev sTx : Stmt := top 29
abbrev sIni : Stmt := inClass (top 32) 0
def etext (n : Str) (i j : Int) : Str := Str.empty ++ n ++ " " ++ (toString i) ++ " " ++ (toString j)
def spTx : Sp := fun vs H Q _ => ∃ (n : Str) (t : Addr) (i j : Int), vs = [.str n, .ref t] ∧ H t = some (.tup [.int i, .int j]) ∧ n.length ≤ 1000 ∧ 0 ≤ i ∧ i ≤ 3 ∧ 0 ≤ j ∧ j ≤ 3 ∧ Q (.str (etext n i j)) H
section
variable {P : Program} {w : World} {K : PySem.W.Frag} {mg : Str → Option Value} {base : Heap} {fP fN fF fA fE tC CE fI : Addr} {dP dN dF dA dE : FuncData}
theorem scTx : FnScope ["name", "arity", "inputs", "outputs"] ["name", "arity"] (defScope sTx) := ⟨rfl, rfl, rfl, by decide +kernel, rfl, by decide +kernel, by decide +kernel⟩
theorem four {i : Int} (h0 : 0 ≤ i) (h1 : i ≤ 3) : i = 0 ∨ i = 1 ∨ i = 2 ∨ i = 3 := by omega
theorem small_log {i : Int} (h0 : 0 ≤ i) (h1 : i ≤ 3) : i.natAbs.log2 < 1920 := by
  rcases four h0 h1 with rfl | rfl | rfl | rfl <;> decide
theorem len_num {i : Int} (h0 : 0 ≤ i) (h1 : i ≤ 3) : ((toString i : String) : Str).length = 1 := by
  rcases four h0 h1 with rfl | rfl | rfl | rfl <;> decide +kernel
theorem len_app (a b : Str) : (a ++ b).length = a.length + b.length := by
  show (a.cps ++ b.cps).size = a.cps.size + b.cps.size
  exact Array.size_append
theorem ok_tx {f : Addr} {fd : FuncData} (F : Fun K "entry_text" "entry_text" sTx f fd) : FnOk P w K mg base CX0 1 f fd ["name", "arity"] spTx := by
  refine F.ok scTx (fun vs H Q E h => ?_) (fun cdv A outer s H vs Q E hr h => ?_)
  · obtain ⟨n, t, i, j, rfl, _⟩ := h
    rfl
  · obtain ⟨n, t, i, j, rfl, ht, hn, i0, i3, j0, j3, q⟩ := h
    refine ⟨_, pss_cons (ps_asg (pv 1) (pg_tup rfl (pgs_cons (pg_name (i := 2) scTx.nd rfl (.inl rfl)) (pgs_cons (pg_name (i := 3) scTx.nd rfl (.inl rfl)) pgs_nil))))
      (pss_one (ps_ret (pe_joined (.cons (pe_fmt (pv 0)) (.cons pe_str (.cons (pe_fmt (pv 2)) (.cons pe_str (.cons (pe_fmt (pv 3)) .nil)))))))), ?_⟩
    have line : ∀ {k : Nat}, k ≤ 2000 → k ≤ sizeLine := fun h => Nat.le_trans h (by decide)
    have l0 : (Str.empty).length = 0 := rfl
    have l1 : ((" " : String) : Str).length = 1 := by decide +kernel
    have li := len_num i0 i3
    have lj := len_num j0 j3
    refine ⟨_, rfl, t, _, rfl, SqT.of ht, rfl, _, _, rfl, _, _, rfl, rfl, ?_⟩
    refine ⟨_, rfl, .inl ⟨n, rfl, line (by omega), n, rfl, line (by rw [len_app]; omega), _, rfl, line (by rw [len_app, len_app]; omega), _, rfl, .inr ⟨i, rfl, small_log i0 i3, _, rfl, line (by rw [len_app, len_app, len_app, li]; omega), _, rfl, line (by rw [len_app, len_app, len_app, len_app, li]; omega), _, rfl,
      .inr ⟨j, rfl, small_log j0 j3, _, rfl, line (by rw [len_app, len_app, len_app, len_app, len_app, li, lj]; omega), q⟩⟩⟩⟩
end
end SQ4
namespace SQ4
open PySem L2 SQ
abbrev G3 := Str × Int × Int
def gnames (gs : List G3) : List Str := gs.map (·.1)
/-- nothing is refused: all are entries, the names differ -/
theorem none_bad : ∀ (os : List En) (seen : List Str) (i : Nat), firstBad seen i os = none → ∃ gs : List G3, os = gs.map some ∧ (gnames gs).Nodup ∧ ∀ n ∈ gnames gs, n ∉ seen
  | [], _, _, _ => ⟨[], rfl, List.nodup_nil, fun n h => nomatch h⟩
  | none :: _, _, _, h => nomatch h
  | some (n, a, b) :: os, seen, i, h => by
    have h' : (if n ∈ seen then some i else firstBad (n :: seen) (i + 1) os) = none := h
    by_cases hm : n ∈ seen
    · rw [if_pos hm] at h'
      cases h'
    · rw [if_neg hm] at h'
      obtain ⟨gs, e, nd, ns⟩ := none_bad os (n :: seen) (i + 1) h'
      refine ⟨(n, a, b) :: gs, by rw [e]; rfl, ?_, ?_⟩
      · refine List.nodup_cons.mpr ⟨fun hn => ns n hn List.mem_cons_self, nd⟩
      · intro m hm2
        rcases List.mem_cons.mp hm2 with e2 | e2
        · rw [e2]
          exact hm
        · exact fun z => ns m e2 (List.mem_cons_of_mem _ z)
theorem verdict_none {os : List En} (h : verdict os = none) : ∃ gs : List G3, os = gs.map some ∧ (gnames gs).Nodup ∧ gs.length ≤ 8 := by
  unfold verdict at h
  by_cases h8 : 8 < os.length
  · rw [if_pos h8] at h
    cases h
  · rw [if_neg h8, Option.map_eq_none_iff] at h
    obtain ⟨gs, e, nd, _⟩ := none_bad os [] 0 h
    refine ⟨gs, e, nd, ?_⟩
    rw [e, List.length_map] at h8
    omega
/-- the numbers of a name -/
def arOf (gs : List G3) (n : Str) : Int × Int := ((gs.find? fun g => decide (g.1 = n)).map (·.2)).getD (0, 0)
def vtext (gs : List G3) (ys : List Str) : Str := Txt.join ", " (ys.map fun n => etext n (arOf gs n).1 (arOf gs n).2)
/-- the dict of the numbers -/
def Kvs (H : Hp) (kvs : List (Key × V)) (gs : List G3) : Prop := Paired (fun kv g => kv.1 = Sum.inr g.1 ∧ ∃ t, kv.2 = .ref t ∧ H t = some (.tup [.int g.2.1, .int g.2.2])) kvs gs
theorem Kvs.same {H H' : Hp} {kvs : List (Key × V)} {gs : List G3} (s : Same H H') (h : Kvs H kvs gs) : Kvs H' kvs gs := Paired.mapP h fun a b e => ⟨e.1, let ⟨t, h1, h2⟩ := e.2; ⟨t, h1, s _ _ h2⟩⟩
theorem Kvs.names {H : Hp} : ∀ {kvs : List (Key × V)} {gs : List G3}, Kvs H kvs gs → kvs.map (·.1) = (gnames gs).map Sum.inr
  | _, _, .nil => rfl
  | _, _, .cons r t => by
    exact congr (congrArg List.cons r.1) (Kvs.names t)
theorem Kvs.no {H : Hp} {n : Str} : ∀ {kvs : List (Key × V)} {gs : List G3}, Kvs H kvs gs → n ∉ gnames gs → valV kvs (Sum.inr n) = none
  | _, _, .nil, _ => rfl
  | _, _, .cons (a := kv) (b := g) r t, hn => by
    have h1 : ¬ kv.1 = Sum.inr n := fun z => hn (by rw [r.1] at z; rw [← Sum.inr.inj z]; exact List.mem_cons_self)
    rw [valV_neg h1]
    exact Kvs.no t fun z => hn (List.mem_cons_of_mem _ z)
theorem Kvs.at {H : Hp} {n : Str} : ∀ {kvs : List (Key × V)} {gs : List G3}, Kvs H kvs gs → n ∈ gnames gs → ∃ t, valV kvs (Sum.inr n) = some (.ref t) ∧ H t = some (.tup [.int (arOf gs n).1, .int (arOf gs n).2])
  | _, _, .nil, h => nomatch h
  | _, _, .cons (a := kv) (b := g) (l₂ := gs) r t, hn => by
    by_cases h1 : g.1 = n
    · obtain ⟨t0, e1, e2⟩ := r.2
      refine ⟨t0, ?_, ?_⟩
      · rw [valV_pos (by rw [r.1, h1]), e1]
      · unfold arOf
        rw [List.find?_cons_of_pos (by simpa using h1)]
        exact e2
    · have h2 : ¬ kv.1 = Sum.inr n := fun z => h1 (by rw [r.1] at z; exact Sum.inr.inj z)
      have hn' : n ∈ gnames gs := by
        rcases List.mem_cons.mp hn with z | z
        · exact absurd z.symm h1
        · exact z
      obtain ⟨t0, e1, e2⟩ := Kvs.at t hn'
      refine ⟨t0, ?_, ?_⟩
      · rw [valV_neg h2]
        exact e1
      · unfold arOf at e2 ⊢
        rw [List.find?_cons_of_neg (by simpa using h1)]
        exact e2
theorem Kvs.snoc {H : Hp} : ∀ {kvs : List (Key × V)} {gs : List G3} {kv : Key × V} {g : G3}, Kvs H kvs gs → (kv.1 = Sum.inr g.1 ∧ ∃ t, kv.2 = .ref t ∧ H t = some (.tup [.int g.2.1, .int g.2.2])) → Kvs H (kvs ++ [kv]) (gs ++ [g])
  | _, _, _, _, .nil, h => .cons h .nil
  | _, _, _, _, .cons r t, h => .cons r (Kvs.snoc t h)
end SQ4
namespace SQ4
open PySem L2 SQ
/-- the class of the vocabularies -/
structure VC (K : PySem.W.Frag) (mg : Str → Option Value) (C : Addr) : Prop where
  g : mg "Vocabulary" = some (.ref C)
  cl : Cls K C
  nA : NoAttr K C "arities"
  nN : NoAttr K C "names"
  nT : NoAttr K C "text"
structure B4 (mg : Str → Option Value) : Prop where
  sorted : mg "sorted" = none
def flds (dA tN : Addr) (z : Str) : List (Str × V) := putF "text" (.str z) (putF "names" (.ref tN) (putF "arities" (.ref dA) []))
/-- a vocabulary at x, with the entries gs, the names ys -/
def Vc (C : Addr) (H : Hp) (x : Addr) (gs : List G3) (ys : List Str) : Prop := ∃ (dx dA tN : Addr) (kvs : List (Key × V)), H x = some (.ins C dx (flds dA tN (vtext gs ys))) ∧ H tN = some (.tup (ys.map V.str)) ∧ H dA = some (.dK kvs) ∧ Kvs H kvs gs
/-- what __init__ promises, once the entries lie in a tuple -/
def spIni0 (C CE : Addr) : Sp := fun vs H Q E => ∃ (x dx t : Addr) (xs : List V) (os : List En), vs = [.ref x, .ref t] ∧ H x = some (.ins C dx []) ∧ H t = some (.tup xs) ∧ Ents H xs os ∧ xs.length ≤ 2000 ∧
  (∀ idx, verdict os = some idx → ∀ (d : Addr) (H' : Hp), Same H H' → H' d = some (.xd [("index", idx)]) → E (.ref CE) (some d) H') ∧
  (verdict os = none → ∀ gs : List G3, os = gs.map some → ∀ (H' : Hp) (ys : List Str), ys.Perm (gnames gs) → PyProof.Rows.sortedS ys = true → But x H H' → Vc C H' x gs ys → Q .non H')
section
variable {P : Program} {w : World} {K : PySem.W.Frag} {mg : Str → Option Value} {base : Heap} {fP fN fF fA fE tC CE fI C fC fX : Addr} {dP dN dF dA dE dC dX : FuncData}
theorem scIni : FnScope ["self", "entries", "arities", "name", "inputs", "outputs"] ((["self"] : List Str) ++ (["entries"] : List Str)) (defScope sIni) := ⟨rfl, rfl, rfl, by decide +kernel, rfl, by decide +kernel, by decide +kernel⟩
structure I2 (K : PySem.W.Frag) (mg : Str → Option Value) (fC fX : Addr) (dC dX : FuncData) : Prop where
  gC : mg "check_entries" = some (.ref fC)
  FC : Fun K "check_entries" "check_entries" sChk fC dC
  bC : Binds K dC ["entries"] []
  gX : mg "entry_text" = some (.ref fX)
  FX : Fun K "entry_text" "entry_text" sTx fX dX
  bX : Binds K dX ["name", "arity"] []
theorem nodup_take {α : Type} : ∀ {l : List α} {i : Nat} {x : α}, l.Nodup → l[i]? = some x → x ∉ l.take i
  | [], i, x, _, h => by simp at h
  | a :: l, 0, x, _, h => by simp
  | a :: l, i + 1, x, nd, h => by
    have h' : l[i]? = some x := h
    obtain ⟨n1, n2⟩ := List.nodup_cons.mp nd
    rw [List.take_succ_cons]
    intro hm
    rcases List.mem_cons.mp hm with e | e
    · exact n1 (e ▸ List.mem_of_getElem? h')
    · exact nodup_take n2 h' e
theorem take_more {α : Type} {l : List α} {i : Nat} {x : α} (h : l[i]? = some x) : l.take (i + 1) = l.take i ++ [x] := by
  rw [List.take_add_one, h]
  rfl
theorem ents_good {H : Hp} : ∀ {xs : List V} {gs : List G3}, Ents H xs (gs.map some) → ∀ g ∈ gs, (isFree (.str g.1) && (isAr (.int g.2.1) && isAr (.int g.2.2))) = true
  | _, [], _, g, h => nomatch h
  | _, g0 :: gs, .cons r t, g, h => by
    rcases List.mem_cons.mp h with e | e
    · subst e
      cases r with
      | good _ _ hq => exact hq
    · exact ents_good t g e
theorem ar_mem {gs : List G3} {n : Str} (h : n ∈ gnames gs) : ∃ g ∈ gs, g.1 = n ∧ arOf gs n = g.2 := by
  unfold arOf
  cases hf : gs.find? (fun g => decide (g.1 = n)) with
  | none =>
    obtain ⟨g, hg, e⟩ := List.mem_map.mp h
    have := List.find?_eq_none.mp hf g hg
    exact absurd (by simpa using e) (by simpa using this)
  | some g => exact ⟨g, List.mem_of_find?_eq_some hf, by simpa using List.find?_some hf, rfl⟩
theorem ar_ok {i : Int} (h : isAr (.int i) = true) : 0 ≤ i ∧ i ≤ 3 := by
  have h' : (decide (0 ≤ i) && decide (i ≤ 3)) = true := h
  rw [Bool.and_eq_true] at h'
  exact ⟨of_decide_eq_true h'.1, of_decide_eq_true h'.2⟩
theorem free_len {n : Str} (h : isFree (.str n) = true) : n.length ≤ 8 := by
  have h' : (nameOk n && !decide (n ∈ cores)) = true := h
  rw [Bool.and_eq_true] at h'
  have h2 := h'.1
  unfold nameOk at h2
  rw [Bool.and_eq_true, Bool.and_eq_true] at h2
  have := of_decide_eq_true h2.1.2
  omega
/-- what is known of a name's numbers -/
theorem good_at {H : Hp} {xs : List V} {gs : List G3} {n : Str} (he : Ents H xs (gs.map some)) (h : n ∈ gnames gs) : n.length ≤ 8 ∧ (0 ≤ (arOf gs n).1 ∧ (arOf gs n).1 ≤ 3) ∧ 0 ≤ (arOf gs n).2 ∧ (arOf gs n).2 ≤ 3 := by
  obtain ⟨g, hg, rfl, e⟩ := ar_mem h
  have hh := ents_good he g hg
  rw [Bool.and_eq_true, Bool.and_eq_true] at hh
  rw [e]
  exact ⟨free_len hh.1, ar_ok hh.2.1, ar_ok hh.2.2⟩
theorem etext_len {n : Str} {i j : Int} (hn : n.length ≤ 8) (i0 : 0 ≤ i) (i3 : i ≤ 3) (j0 : 0 ≤ j) (j3 : j ≤ 3) : (etext n i j).length ≤ 12 := by
  unfold etext
  have l0 : (Str.empty).length = 0 := rfl
  have l1 : ((" " : String) : Str).length = 1 := by decide +kernel
  rw [len_app, len_app, len_app, len_app, len_app, len_num i0 i3, len_num j0 j3, l1, l0]
  omega
theorem sum_le {α : Type} (f : α → Nat) (b : Nat) : ∀ l : List α, (∀ x ∈ l, f x ≤ b) → (l.map f).sum ≤ l.length * b
  | [], _ => by simp
  | x :: l, h => by
    have h1 := h x List.mem_cons_self
    have h2 := sum_le f b l fun y hy => h y (List.mem_cons_of_mem _ hy)
    rw [List.map_cons, List.sum_cons, List.length_cons, Nat.add_mul]
    omega
theorem keptD {σ : St} {H : Hp} {A B : Hp → Prop} (h : A H) : tYes σ H (fun b H3 => if b = true then A H3 else B H3) := keptT h
theorem body_ini (I : I2 K mg fC fX dC dX) (D : D2 K mg fP fN fF fA fE dP dN dF dA dE) (B : B2 mg) (CW : Core K mg tC) (Z : EC K mg CE fI) (BB : B3 mg) (B4' : B4 mg) (VV : VC K mg C) {f : Addr} (cdv : Value) (A : Around) (outer : List Env) (s : Shared) (H : Hp) (vs : List V) (Q : VK) (E : XK)
    (hr : Room 4 (A.deeper (PyProof.Rows.envOfC "Vocabulary.__init__" (defScope sIni) s.heap.objs.size f cdv))) (h : spIni0 C CE vs H Q E) :
    ∃ t, PSs (cxOf (L2N.CX P w) P w K mg base ["self", "entries", "arities", "name", "inputs", "outputs"] "Vocabulary.__init__" (defScope sIni) f cdv A outer s H E) (defBody sIni) t ∧ t { nx := fun _ H' => Q .non H', rt := Q } (start ["self", "entries", "arities", "name", "inputs", "outputs"] vs) H := by
  have GC : FnOk P w K mg base (L2N.CX P w) 4 fC dC ["entries"] (spChk CE) := ok_chk I.FC D B CW Z BB
  have GX : FnOk P w K mg base CX0 1 fX dX ["name", "arity"] spTx := ok_tx I.FX
  obtain ⟨x, dx, t, xs, os, rfl, hx, ht, he, hlen, kE, kQ⟩ := h
  have hu := hu_of hr
  refine ⟨_, pss_cons (ps_expr (pe_call GC hr rfl I.gC I.FC.kp I.bC .nil (L2N.passes_call (L2N.takes_of rfl rfl rfl rfl) (fun _ _ _ _ h => h)) (pa_cons (pv 1) pa_nil)))
    (pss_cons (ps_set (i := 2) scIni.nd rfl (.inr rfl) (pe_dc (own := [("name", 3), ("inputs", 4), ("outputs", 5)]) (g := gTup K 3 (gCons (gName 3) (gCons (gName 4) (gCons (gName 5) gNil)))) (tt := tYes) rfl scIni.nd (pi_tup (pv 1)) (blkOk_by (N := ["self", "entries", "arities", "name", "inputs", "outputs"]) (sc := defScope sIni) (by decide +kernel))
      (fun _ _ _ _ _ => pg_tup rfl (pgs_cons (pg_name (i := 3) scIni.nd rfl (.inl rfl)) (pgs_cons (pg_name (i := 4) scIni.nd rfl (.inl rfl)) (pgs_cons (pg_name (i := 5) scIni.nd rfl (.inl rfl)) pgs_nil)))) (fun _ _ _ _ _ => pts_nil) (fun _ _ _ _ _ => pv 3) (fun _ _ _ _ _ => pe_tup (pa_cons (pv 4) (pa_cons (pv 5) pa_nil)))))
    (pss_cons (ps_fld (pv 0) (pv 2) rfl)
    (pss_cons (ps_fld (pv 0) (pe_callTy call_tuple_of (by rfl) B.tuple (by decide +kernel) (pa_cons (pe_callB (call_sortedD rfl) (by rfl) B4'.sorted (by decide +kernel) (pa_cons (pv 2) pa_nil)) pa_nil)) rfl)
    (pss_one (ps_fld (pv 0) (pe_join pe_str (pe_lc (own := [("name", 3)]) (g := gName 3) (tt := tYes) rfl scIni.nd (pi_tup (pe_fld (pv 0) rfl)) (blkOk_by (N := ["self", "entries", "arities", "name", "inputs", "outputs"]) (sc := defScope sIni) (by decide +kernel))
      (fun _ _ _ _ _ => pg_name (i := 3) scIni.nd rfl (.inl rfl)) (fun _ _ _ _ _ => pts_nil) (fun _ _ _ _ _ => pe_call GX (hr.mono (by decide)) rfl I.gX I.FX.kp I.bX .nil pass0 (pa_cons (pv 3) (pa_cons (pe_dget hu (pv 2) (pv 3) (fun _ _ => rfl)) pa_nil))))) rfl))))), ?_⟩
  refine ⟨_, rfl, t, xs, os, rfl, ht, he, hlen, kE, fun hv H1 s1 => ?_⟩
  obtain ⟨gs, rfl, nd, h8⟩ := verdict_none hv
  have hl : xs.length = gs.length := by
    have := Paired.length he
    rw [List.length_map] at this
    exact this
  -- arities = {..}
  refine ⟨_, rfl, t, rfl, ⟨_, SqT.of (s1 _ _ ht)⟩, fun D hD => ?_⟩
  refine dc_tup (K := K) (a := t) (xs := xs) (fun i H2 => ∃ kvs, H2 D = some (.dK kvs) ∧ Kvs H2 kvs (gs.take i) ∧ Same H1 H2) ⟨[], upd_same, .nil, same_new (fun _ _ e => e) hD⟩ (fun i H2 _ ⟨_, _, _, s2⟩ => SqT.of (s2 _ _ (s1 _ _ ht))) ?_ ?_
  · rintro i v H2 hi ⟨kvs, hD2, hk, s2⟩
    obtain ⟨o, ho, en⟩ := Ents.get he hi
    rw [List.getElem?_map] at ho
    cases hg : gs[i]? with
    | none =>
      rw [hg] at ho
      cases ho
    | some g =>
      rw [hg] at ho
      cases ho
      obtain ⟨n, a1, a2⟩ := g
      cases en with
      | @good ea _ _ _ eE hnm hok =>
        have eE2 := s2 _ _ (s1 _ _ eE)
        refine ⟨ea, _, rfl, SqT.of eE2, rfl, _, _, rfl, _, _, rfl, _, _, rfl, rfl, rfl, keptD ?_⟩
        refine ⟨_, rfl, _, rfl, _, rfl, (by show 2 ≤ sizeLine; decide), fun T nT => ?_⟩
        have hDT : D ≠ T := ne_of_none hD2 nT
        have hno : n ∉ gnames (gs.take i) := by
          have e1 : gnames (gs.take i) = (gnames gs).take i := by
            unfold gnames
            rw [List.map_take]
          rw [e1]
          exact nodup_take nd (by unfold gnames; rw [List.getElem?_map, hg]; rfl)
        have hl2 : kvs.length = (gs.take i).length := Paired.length hk
        refine ⟨kvs, Sum.inr n, rfl, by rw [upd_ne hDT]; exact hD2, small1000 (by rw [hl2, List.length_take]; omega), ?_⟩
        refine ⟨_, upd_same, ?_, ?_⟩
        · rw [putK_new _ (hk.no hno), take_more hg]
          have s3 : Same H2 (upd H2 T (.tup [.int a1, .int a2])) := same_new (fun _ _ e => e) nT
          have kk : Kvs (upd H2 T (.tup [.int a1, .int a2])) (kvs ++ [(Sum.inr n, .ref T)]) (gs.take i ++ [(n, a1, a2)]) := (hk.same s3).snoc ⟨rfl, T, rfl, upd_same⟩
          refine Paired.mapP kk fun kv g ⟨h1, t0, h2, h3⟩ => ⟨h1, t0, h2, ?_⟩
          rw [upd_ne (ne_of h3 (show upd H2 T (.tup [.int a1, .int a2]) D = some (.dK kvs) by rw [upd_ne hDT]; exact hD2) (by intro z; cases z))]
          exact h3
        · intro b ob e
          rw [upd_ne (ne_of_none e hD), upd_ne (ne_of_none (s2 _ _ e) nT)]
          exact s2 _ _ e
  · rintro H2 ⟨kvs, hD2, hk, s2⟩
    rw [hl, List.take_length] at hk
    have hx2 : H2 x = some (.ins C dx []) := s2 _ _ (s1 _ _ hx)
    have sH2 : Same H H2 := st s1 s2
    -- self.arities = arities
    refine ⟨_, rfl, _, rfl, x, C, dx, [], rfl, hx2, VV.cl, VV.nA, (by show 0 < 1000; decide), ?_⟩
    have hxD : x ≠ D := ne_of hx2 hD2 (by intro z; cases z)
    generalize hG3 : upd H2 x (HO.ins C dx (putF "arities" (.ref D) [])) = H3
    have b3 : But x H2 H3 := by rw [← hG3]; exact But.refl.put
    have hx3 : H3 x = some (.ins C dx (putF "arities" (.ref D) [])) := by rw [← hG3]; exact upd_same
    have hD3 : H3 D = some (.dK kvs) := b3 _ _ hD2 (Ne.symm hxD)
    have hk3 : Kvs H3 kvs gs := Paired.mapP hk fun kv g ⟨h1, t0, h2, h3⟩ => ⟨h1, t0, h2, b3 _ _ h3 (ne_of h3 hx2 (by intro z; cases z))⟩
    have hln : (gnames gs).length ≤ 8 := by
      unfold gnames
      rw [List.length_map]
      exact h8
    -- self.names = tuple(sorted(arities))
    refine ⟨_, rfl, D, kvs, gnames gs, rfl, .inl hD3, hk3.names, (by omega), fun ys p hperm hsort np => ⟨p, ys.map V.str, rfl, .inl ⟨SqL.of upd_same, fun l nl => ?_⟩⟩⟩
    have s4 : Same H3 (upd (upd H3 p (.lst (ys.map V.str))) l (.tup (ys.map V.str))) := same_new (same_new (fun _ _ e => e) np) nl
    generalize hG4 : upd (upd H3 p (HO.lst (ys.map V.str))) l (HO.tup (ys.map V.str)) = H4 at s4
    have hl4 : H4 l = some (.tup (ys.map V.str)) := by rw [← hG4]; exact upd_same
    have hx4 := s4 _ _ hx3
    refine ⟨_, rfl, x, C, dx, _, rfl, hx4, VV.cl, VV.nN, (by show 1 < 1000; decide), ?_⟩
    generalize hG5 : upd H4 x (HO.ins C dx (putF "names" (.ref l) (putF "arities" (.ref D) []))) = H5
    have b5 : But x H4 H5 := by rw [← hG5]; exact But.refl.put
    have hx5 : H5 x = some (.ins C dx (putF "names" (.ref l) (putF "arities" (.ref D) []))) := by rw [← hG5]; exact upd_same
    have hl5 : H5 l = some (.tup (ys.map V.str)) := b5 _ _ hl4 (ne_of hl4 hx4 (by intro z; cases z))
    have hD5 : H5 D = some (.dK kvs) := b5 _ _ (s4 _ _ hD3) (Ne.symm hxD)
    have hk5 : Kvs H5 kvs gs := Paired.mapP (hk3.same s4) fun kv g ⟨h1, t0, h2, h3⟩ => ⟨h1, t0, h2, b5 _ _ h3 (ne_of h3 hx4 (by intro z; cases z))⟩
    have bt : But x H H5 := ((Same.but sH2).trans b3).trans ((Same.but s4).trans b5)
    have mem : ∀ n ∈ ys, n ∈ gnames gs := fun n hn => hperm.mem_iff.mp hn
    have hly : ys.length ≤ 8 := by
      rw [hperm.length_eq]
      exact hln
    -- self.text = ', '.join(..)
    refine ⟨⟨_, rfl⟩, _, rfl, x, C, dx, _, _, rfl, hx5, VV.cl, VV.nN, rfl, l, rfl, ⟨_, SqT.of hl5⟩, fun D2 hD2' => ?_⟩
    refine lc_tup (K := K) (a := l) (xs := ys.map V.str) (fun i H6 => H6 = upd H5 D2 (.lst (((ys.take i).map fun n => etext n (arOf gs n).1 (arOf gs n).2).map V.str))) rfl (fun i H6 _ e => by rw [e]; exact SqT.of (by rw [upd_ne (ne_of_none hl5 hD2')]; exact hl5)) ?_ ?_
    · rintro i v H6 hi rfl
      rw [List.getElem?_map] at hi
      cases hy : ys[i]? with
      | none =>
        rw [hy] at hi
        cases hi
      | some n =>
        rw [hy] at hi
        cases hi
        have hn := mem n (List.mem_of_getElem? hy)
        obtain ⟨g1, ⟨g2, g3⟩, g4, g5⟩ := good_at he hn
        obtain ⟨t0, v1, v2⟩ := hk5.at hn
        refine ⟨rfl, keptT ⟨_, rfl, _, rfl, _, rfl, D, .ref t0, rfl, ?_, n, t0, _, _, rfl, ?_, by omega, g2, g3, g4, g5, _, upd_same, small1000 ?_, ?_⟩⟩
        · rw [← v1]
          exact DGet.k (k := Sum.inr n) (by rw [upd_ne (ne_of_none hD5 hD2')]; exact hD5)
        · rw [upd_ne (ne_of_none v2 hD2')]
          exact v2
        · rw [List.length_map, List.length_map, List.length_take]
          omega
        · rw [upd_upd, take_more hy, List.map_append, List.map_append]
          rfl
    · rintro H6 rfl
      rw [List.length_map, List.take_length]
      refine ⟨_, D2, _, rfl, rfl, .inl (SqL.of upd_same), ?_, ?_⟩
      · rw [List.map_map, List.length_map]
        have := sum_le ((fun z : Str => z.length) ∘ fun n => etext n (arOf gs n).1 (arOf gs n).2) 12 ys (fun n hn => by
          obtain ⟨g1, ⟨g2, g3⟩, g4, g5⟩ := good_at he (mem n hn)
          exact etext_len g1 g2 g3 g4 g5)
        have l2 : (", " : Str).length = 2 := by decide +kernel
        rw [l2]
        omega
      · have hx6 : upd H5 D2 (.lst ((ys.map fun n => etext n (arOf gs n).1 (arOf gs n).2).map V.str)) x = some (.ins C dx (putF "names" (.ref l) (putF "arities" (.ref D) []))) := by
          rw [upd_ne (ne_of_none hx5 hD2')]
          exact hx5
        refine ⟨_, rfl, x, C, dx, _, rfl, hx6, VV.cl, VV.nT, (by show 2 < 1000; decide), ?_⟩
        have lx : l ≠ x := ne_of hl5 hx5 (by intro z; cases z)
        refine kQ hv gs rfl _ ys hperm hsort ((bt.new hD2').put) ⟨dx, D, l, kvs, upd_same, ?_, ?_, ?_⟩
        · rw [upd_ne lx, upd_ne (ne_of_none hl5 hD2')]
          exact hl5
        · rw [upd_ne (Ne.symm hxD), upd_ne (ne_of_none hD5 hD2')]
          exact hD5
        · refine Paired.mapP hk5 fun kv g ⟨h1, t0, h2, h3⟩ => ⟨h1, t0, h2, ?_⟩
          rw [upd_ne (ne_of h3 hx5 (by intro z; cases z)), upd_ne (ne_of_none h3 hD2')]
          exact h3
end
end SQ4
namespace SQ4
open PySem L2 SQ
def spInit (C CE : Addr) : Sp := fun vs H Q E => ∃ ws rest, vs = ws ++ rest ∧ ws.length = (["self"] : List Str).length ∧ rest.length ≤ sizeLine ∧ ∀ p, H p = Option.none → spIni0 C CE (ws ++ [V.ref p]) (upd H p (.tup rest)) Q E
section
variable {P : Program} {w : World} {K : PySem.W.Frag} {mg : Str → Option Value} {base : Heap} {fP fN fF fA fE tC CE fI C fC fX : Addr} {dP dN dF dA dE dC dX : FuncData}
theorem ok_ini (I : I2 K mg fC fX dC dX) (D : D2 K mg fP fN fF fA fE dP dN dF dA dE) (B : B2 mg) (CW : Core K mg tC) (Z : EC K mg CE fI) (BB : B3 mg) (B4' : B4 mg) (VV : VC K mg C) {f : Addr} {fd : FuncData} (F : Fun K "__init__" "Vocabulary.__init__" sIni f fd) :
    FnR P w K mg base (L2N.CX P w) 5 f (spInit C CE) := by
  obtain ⟨oc, od, kV, doc, pm, an, cdv, ct, osl, rfl, lk, hcd⟩ := F.ex
  exact StX.fn_star (ps := ["self"]) (pv := "entries") lk hcd scIni cxUpN (StX.bind_star1 (B := fun vs => bindArgs (PySem.W.fnOf "__init__" "Vocabulary.__init__" (defArgs sIni) (defBody sIni) (defScope sIni) .none kV doc pm an cdv ct) ⟨vs, []⟩) (fun a => rfl) (fun a r rs => rfl)) (fun A outer s H vs Q E hr h => body_ini I D B CW Z BB B4' VV cdv A outer s H vs Q E hr h)
end
end SQ4
namespace SQ
open PySem PySem.Spec PyProof.Rows L2
section
variable {X : Cx} {k : Nat} {f C : Addr} {fd : FuncData} {ps : List Str} {sp : Sp}
/-- str(o), o an instance whose class has __str__ -/
theorem cr_strOwn (F : FnR X.prog X.w X.K X.mg X.base CX0 k f sp) (hr : Room (k + 2) X.A) (hs : PySem.W.findIn X.K (.ref C) "__str__" = some (some (.ref f))) (hf : PySem.W.isFn X.K (.ref f) = true) :
    CallR X (.type "str") (fun xs H Q => ∃ (x dx : Addr) (fs : List (Str × V)), xs = [.ref x] ∧ H x = some (.ins C dx fs) ∧ sp [.ref x] H (fun v H' => ∃ z, v = .str z ∧ Q v H') E0) := by
  intro pins s σ H xs us Q I r h
  obtain ⟨x, dx, fs, rfl, hx, q⟩ := h
  obtain ⟨u, rfl, r1⟩ := vals1 r
  obtain rfl : u = Value.ref x := r1
  obtain ⟨mA, O, _⟩ := ins_get I.hok hx
  obtain ⟨od, J, _⟩ := O.look
  have hr2 : Room k X.A.in1.in1 := Room.in1 (Room.in1 hr)
  refine PySem.W.kso_call hr2.units0 I.kIn J hs hf (wpAny_call (codeAny_mono (F X.A.in1.in1 X.stack s H [.ref x] [.ref x] _ _ hr2 I.env0.in1.in1 (.cons rfl .nil) q) fun r s' hq => ?_))
  cases r with
  | error e => exact (show False from hq).elim
  | ok fl =>
    cases fl with
    | next => exact False.elim hq
    | brk => exact False.elim hq
    | cont => exact False.elim hq
    | ret u =>
      obtain ⟨v, H', I', rv, z, rfl, q'⟩ := I.after hq
      obtain ⟨t, rfl⟩ := rv
      exact ⟨.str z, H', I', ⟨t, rfl⟩, q'⟩
end
end SQ
/-! The law's end for promises as in SqG where code objects are made: their tables are tracked. -/
namespace SQ
open PySem PySem.Spec PyProof.Rows L2
abbrev tab0 : Obj := { cls := .none, data := .fields #[] }
abbrev lst0 (vs : List Value) : Obj := { cls := .type "list", data := .seq vs.toArray }
/-- what may be tracked at the law's call: the script, the tables -/
def Trk (a : Addr) (ts : List Addr) (H : Hp) : Prop := ∀ b u, H b = some u → (b = a ∧ ∃ o xs, u = .frz o (.lst xs)) ∨ (b ∈ ts ∧ u = .tbl #[])
section
variable {P : Program} {w : World} {K : PySem.W.Frag} {mg mb : Str → Option Value} {s : Shared} {a : Addr} {cs : List (Addr × Addr)} {vs : List Value} {H : Hp}
theorem trk_data (ha : s.heap.get? a = some (lst0 vs)) (hT : ∀ p ∈ cs, s.heap.get? p.2 = some tab0) (tr : Trk a (cs.map (·.2)) H) {b : Addr} {o : Obj} (q : s.heap.get? b = some o)
    (n1 : ∀ l n, o.data ≠ .seq l n) (n2 : o.data ≠ .fields #[]) : H b = none := by
  cases z : H b with
  | none => rfl
  | some u =>
    rcases tr b u z with ⟨rfl, _⟩ | ⟨hm, _⟩
    · rw [ha] at q
      cases q
      exact absurd rfl (n1 _ _)
    · obtain ⟨p, hp, rfl⟩ := List.mem_map.mp hm
      rw [hT p hp] at q
      cases q
      exact absurd rfl n2
theorem trk_ns (ha : s.heap.get? a = some (lst0 vs)) (hT : ∀ p ∈ cs, s.heap.get? p.2 = some tab0) (tr : Trk a (cs.map (·.2)) H) {b : Addr} {m : Str → Option Value} : s.heap.Ns b m → (hidT s.heap H).Ns b m := by
  rintro ⟨o, es, ep, q, d, r⟩
  refine ⟨o, es, ep, hidT_get q (trk_data ha hT tr q (fun l n z => ?_) fun z => ?_), d, r⟩ <;> (rw [d] at z; cases z)
theorem trk_in (KX : K.In s.heap) (nT : ∀ p ∈ cs, K.lookup p.2 = none) (nA : H a ≠ none → K.lookup a = none) (tr : Trk a (cs.map (·.2)) H) : K.In (hidT s.heap H) := by
  intro b o q
  refine hidT_get (KX b o q) ?_
  cases z : H b with
  | none => rfl
  | some u =>
    rcases tr b u z with ⟨rfl, _⟩ | ⟨hm, _⟩
    · rw [nA (by rw [z]; simp)] at q
      cases q
    · obtain ⟨p, hp, rfl⟩ := List.mem_map.mp hm
      rw [nT p hp] at q
      cases q
theorem trk_tab (hns : s.heap.Ns mainGlobals mg) (ha : s.heap.get? a = some (lst0 vs)) (hT : ∀ p ∈ cs, s.heap.get? p.2 = some tab0) (C : ∀ p ∈ cs, PySem.W.CodeHd s.heap p.1 p.2)
    (hbm : ∃ (bm : Addr) (ob : Obj), mg "__builtins__" = some (.ref bm) ∧ bm ≠ builtinsNs ∧ s.heap.get? bm = some ob ∧ ob.cls = .type "module" ∧ ob.dict = some builtinsNs ∧ ob.data = .plain)
    (tr : Trk a (cs.map (·.2)) H) : ∀ p ∈ cs, LamX.TabB (hidT s.heap H) mg p.1 p.2 := by
  intro p hp
  have tp := hT p hp
  have nm : mainGlobals ≠ p.2 := by
    intro z
    obtain ⟨o, es, ep, q, d, _⟩ := hns
    rw [z, tp] at q
    cases q
    cases d
  refine ⟨?_, ?_, nm⟩
  · obtain ⟨o, us, fi, t1, fl, t2, b, tx, t3, q, r1, r2, r3, rest⟩ := C p hp
    refine ⟨o, us, fi, t1, fl, t2, b, tx, t3, hidT_get q (trk_data ha hT tr q (fun l n z => ?_) fun z => ?_), r1, r2, r3, rest⟩
    · rw [r2] at z
      cases z
    · rw [r2] at z
      cases z
      simp at r3
  · obtain ⟨bm, ob, b1, b2, b3, b4, b5, b6⟩ := hbm
    refine ⟨bm, ob, b1, b2, ?_, ?_, hidT_get b3 (trk_data ha hT tr b3 (fun l n z => ?_) fun z => ?_), b4, b5, b6⟩
    · rintro rfl
      obtain ⟨o, es, ep, q, d, _⟩ := hns
      rw [q] at b3
      cases b3
      rw [d] at b6
      cases b6
    · rintro rfl
      rw [tp] at b3
      cases b3
      cases b6
    · rw [b6] at z
      cases z
    · rw [b6] at z
      cases z
end
/-- the law's call: such a promise, tables tracked -/
theorem lawGT {P : Program} {w : World} {K : PySem.W.Frag} {mg mb : Str → Option Value} {k : Nat} {fa a : Addr} {cs : List (Addr × Addr)}
    {fd : FuncData} {x : Str} {sp : Sp} {s : Shared} {vs : List Value} {ns : List Int}
    (KX : K.In s.heap) (hns : s.heap.Ns mainGlobals mg) (hb : s.heap.Ns builtinsNs mb) (hbb : ∀ y : Str, y ≠ "__name__" → mb y = bootBuiltins y) (hlim : s.heap.NoLimit) (hg : s.gens = #[])
    (hT : ∀ p ∈ cs, s.heap.get? p.2 = some tab0) (nT : ∀ p ∈ cs, K.lookup p.2 = none) (C : ∀ p ∈ cs, PySem.W.CodeHd s.heap p.1 p.2)
    (hbm : ∃ (bm : Addr) (ob : Obj), mg "__builtins__" = some (.ref bm) ∧ bm ≠ builtinsNs ∧ s.heap.get? bm = some ob ∧ ob.cls = .type "module" ∧ ob.dict = some builtinsNs ∧ ob.data = .plain)
    (ha : s.heap.get? a = some (lst0 vs)) (hi : IntsAre vs ns) (hl : ns.length ≤ sizeLine) (hr : Room k callerA)
    (F : ∀ base : Heap, K.In base → base.Ns mainGlobals mg → (∀ p ∈ cs, LamX.TabB base mg p.1 p.2) → FnG P w K mg base CX0 k fa fd [x] sp)
    (hbind : ∀ (t : Shared) (u : Value), BindsTo t fd ⟨[u], []⟩ [(x, u)])
    (hsp : ∀ G : Hp, (∀ p ∈ cs, G p.2 = some (.tbl #[])) → SqL K G a (ns.map V.int) → sp [.ref a] G (fun v _ => v = .bl true) E0) :
    codeAny (model P w) callerA (.call (.ref fa) ⟨[.ref a], []⟩) (fun r t => r = .ok (.ret (.bool true)) ∧ OldK s.heap t.heap ∧ t.os = s.os ∧ AllBare t.gens) s := by
  have rv := vals_ints hi
  have inT : ∀ p ∈ cs, p.2 ∈ cs.map (·.2) := fun p hp => List.mem_map.mpr ⟨p, hp, rfl⟩
  have aT : a ∉ cs.map (·.2) := by
    intro z
    obtain ⟨p, hp, e⟩ := List.mem_map.mp z
    have e' : p.2 = a := e
    have t := hT p hp
    rw [e', ha] at t
    have t' : (lst0 vs).data = tab0.data := congrArg Obj.data (Option.some.inj t)
    cases t'
  have go : ∀ H : Hp, (∀ p ∈ cs, H p.2 = some (.tbl #[])) → Trk a (cs.map (·.2)) H → SqL K H a (ns.map V.int) → HOk P w H s.heap → (H a ≠ none → K.lookup a = none) →
      codeAny (model P w) callerA (.call (.ref fa) ⟨[.ref a], []⟩) (fun r t => r = .ok (.ret (.bool true)) ∧ OldK s.heap t.heap ∧ t.os = s.os ∧ AllBare t.gens) s := by
    intro H hH tr hS hok nA
    have kB := trk_in KX nT nA tr
    have gB := trk_ns ha hT tr hns
    have md : Mod K mg (hidT s.heap H) := ⟨kB, gB, ⟨mb, trk_ns ha hT tr hb, hbb⟩, by
      obtain ⟨mc, h1, h2⟩ := hlim
      exact ⟨mc, trk_ns ha hT tr h1, h2⟩⟩
    have en : Env0 P w K mg (hidT s.heap H) callerA [] s H := {
      frames := rfl
      mod := md
      bs := fun b o q => of_hidT q
      bsz := Nat.le_of_eq (hidT_size _ _)
      funs := trivial
      frf := fun b z => nomatch (show b ∈ ([] : List Addr) from z)
      hok := hok
      bare := .of_eq hg }
    refine codeAny_mono ((F _ kB gB (trk_tab hns ha hT C hbm tr)).go callerA rfl [] s H ⟨[.ref a], []⟩ [.ref a] [.ref a] _ _ hr en (hbind s (.ref a)) (.cons rfl .nil) (hsp H hH hS)) ?_
    intro r t h
    rcases r with er | (_ | _ | _ | u)
    · exact (show False from h).elim
    · exact h.elim
    · exact h.elim
    · exact h.elim
    · obtain ⟨v, H', os, bare, un, hok', r', q⟩ := h
      have q' : v = .bl true := q
      subst q'
      obtain rfl : u = Value.bool true := r'
      have kept : ∀ b o, b ∉ cs.map (·.2) → s.heap.get? b = some o → t.heap.get? b = some o := by
        intro b o nb e
        cases z : H b with
        | none => exact un.keep b o e z (fun y => nomatch (show b ∈ ([] : List Addr) from y)) (fun y => nomatch y)
        | some u =>
          rcases tr b u z with ⟨_, ob, xs, rfl⟩ | ⟨hm, _⟩
          · obtain ⟨e1, _⟩ := hok b _ z
            obtain ⟨e2, _⟩ := hok' b _ (un.frzs b ob _ z)
            rw [e] at e1
            cases e1
            exact e2
          · exact absurd hm nb
      have grew : ∀ p ∈ cs, ∃ more : Array Value, t.heap.get? p.2 = some { cls := .none, data := .fields more } := by
        intro p hp
        obtain ⟨m, z⟩ := un.tbls p.2 #[] (hH p hp)
        exact ⟨_, hok' p.2 _ z⟩
      refine ⟨rfl, ⟨fun b o e => ?_, fun b o e => ?_⟩, os, bare⟩
      all_goals
        by_cases hm : b ∈ cs.map (·.2)
      · obtain ⟨p, hp, rfl⟩ := List.mem_map.mp hm
        obtain ⟨m, hm2⟩ := grew p hp
        rw [hT p hp] at e
        cases e
        refine .inr (.inl ⟨((C p hp).tab (hT p hp)).isCodeTable, rfl, #[], m, rfl, ?_⟩)
        rw [Array.empty_append]
        exact hm2
      · exact .inl (kept b o hm e)
      · obtain ⟨p, hp, rfl⟩ := List.mem_map.mp hm
        obtain ⟨m, hm2⟩ := grew p hp
        exact ⟨_, hm2⟩
      · exact ⟨o, kept b o hm e⟩
  let G0 : Hp := fun b => if b ∈ cs.map (·.2) then some (.tbl #[]) else none
  have gT : ∀ b, b ∈ cs.map (·.2) → G0 b = some (.tbl #[]) := fun b hm => if_pos hm
  have gN : ∀ b, b ∉ cs.map (·.2) → G0 b = none := fun b hm => if_neg hm
  have okT : ∀ (X : Hp) b, b ∈ cs.map (·.2) → ObjOk P w X s.heap b (.tbl #[]) := by
    intro X b hm
    obtain ⟨p, hp, rfl⟩ := List.mem_map.mp hm
    exact hT p hp
  cases hk : K.lookup a with
  | some o =>
    have q := KX a o hk
    rw [ha] at q
    cases q
    refine go G0 (fun p hp => gT _ (inT p hp)) (fun b u z => ?_) (.inr ⟨_, vs.toArray, _, hk, rfl, rfl, rfl, ?_, by simpa using rv⟩) (fun b u z => ?_) (fun z => absurd (gN a aT) z)
    · by_cases hm : b ∈ cs.map (·.2)
      · rw [gT b hm] at z
        exact .inr ⟨hm, (Option.some.inj z).symm⟩
      · rw [gN b hm] at z
        cases z
    · rw [List.size_toArray, hi.length]
      exact hl
    · by_cases hm : b ∈ cs.map (·.2)
      · rw [gT b hm] at z
        cases z
        exact okT _ b hm
      · rw [gN b hm] at z
        cases z
  | none =>
    have hu : ∀ b u, upd G0 a (.frz (lst0 vs) (.lst (ns.map V.int))) b = some u → (b = a ∧ u = .frz (lst0 vs) (.lst (ns.map V.int))) ∨ (b ∈ cs.map (·.2) ∧ u = .tbl #[]) := by
      intro b u z
      by_cases hb : b = a
      · subst hb
        rw [upd_same] at z
        exact .inl ⟨rfl, (Option.some.inj z).symm⟩
      · rw [upd_ne hb] at z
        by_cases hm : b ∈ cs.map (·.2)
        · rw [gT b hm] at z
          exact .inr ⟨hm, (Option.some.inj z).symm⟩
        · rw [gN b hm] at z
          cases z
    refine go (upd G0 a (.frz (lst0 vs) (.lst (ns.map V.int)))) (fun p hp => ?_) (fun b u z => ?_) (.inl (.inr ⟨lst0 vs, upd_same⟩)) (fun b u z => ?_) (fun _ => hk)
    · have ne : p.2 ≠ a := fun e => aT (by rw [← e]; exact inT p hp)
      rw [upd_ne ne]
      exact gT _ (inT p hp)
    · rcases hu b u z with ⟨e1, e2⟩ | e
      · exact .inl ⟨e1, _, _, e2⟩
      · exact .inr e
    · rcases hu b u z with ⟨rfl, rfl⟩ | ⟨hm, rfl⟩
      · exact ⟨ha, by rw [List.length_map]; exact hl, vs, _, rv, ha⟩
      · exact okT _ b hm
/-- what is to be known of the law at the head's heap -/
def AtG (l : PySem.W.OpenLaw) (w : World) (K : PySem.W.Frag) (k n : Nat) (x : Str) (mg : Str → Option Value) (fa : Addr) (h : Heap) : Prop :=
  ∃ (fd : FuncData) (cs : List (Addr × Addr)) (sp : Sp), (∀ p ∈ cs, h.get? p.2 = some tab0 ∧ K.lookup p.2 = none ∧ PySem.W.CodeHd h p.1 p.2) ∧ (∀ (s : Shared) (u : Value), BindsTo s fd ⟨[u], []⟩ [(x, u)]) ∧
    (∀ (H : Hp) (a : Addr) (ns : List Int), ns.length ≤ n → (∀ z ∈ ns, Builtin.Int.intBits z ≤ 1048576) → (∀ p ∈ cs, H p.2 = some (.tbl #[])) → SqL K H a (ns.map V.int) → sp [.ref a] H (fun v _ => v = .bl true) E0) ∧
    ∀ base : Heap, K.In base → base.Ns mainGlobals mg → (∀ p ∈ cs, LamX.TabB base mg p.1 p.2) → FnG l.prog w K mg base CX0 k fa fd [x] sp
theorem walkGT {l : PySem.W.OpenLaw} {n k : Nat} {q : Program} {loose : List Str} {XP : (Str → Option Value) → Heap → Prop} {YP : World → Heap → Prop} {d : DefRec} {K : Params → PySem.W.Frag} {x : Str}
    (hn : l.most = some n) (hn2 : n ≤ sizeLine) (hdf : d.params.defaults = []) (hr : Room k callerA) (hY : ∀ (w : World) (h : Heap), YP w h → (K w.params).In h)
    (F : ∀ (w : World) (mg : Str → Option Value) (fa : Addr) (h : Heap), YP w h → (K w.params).In h → h.Ns mainGlobals mg → mg d.name = some (.ref fa) → AtG l w (K w.params) k n x mg fa h) :
    PySem.W.WalkO q loose XP YP l.row.toRowW d [] (fun f vs => PySem.call f vs) := by
  refine Att.attach_callB hn hdf ?_
  intro w s0 s1 mg mb fa o pm cd doc a vs ns G Y ho hd hcd hmg hobj hints hlen hbits hg
  have KX := hY w _ Y
  obtain ⟨fd, cs, sp, hc, hb, hsp, hF⟩ := F w mg fa _ Y KX G.T.g hmg
  exact lawGT KX G.T.g G.T.b G.T.builtins G.T.nolimit hg (fun p hp => (hc p hp).1) (fun p hp => (hc p hp).2.1) (fun p hp => (hc p hp).2.2) G.T.bmain hobj hints (Nat.le_trans hlen hn2) hr hF hb
    (fun H hH hS => hsp H a ns hlen hbits hH hS)
end SQ
namespace SQ4
open PySem L2 SQ
/-- all stands but what is at u, and the tables -/
def ButT (u : Addr) (H H' : Hp) : Prop := ∀ b o, H b = some o → b ≠ u → (∀ ps, o ≠ .tbl ps) → H' b = some o
theorem ButT.of {u : Addr} {H H' : Hp} (a : But u H H') : ButT u H H' := fun b o e n _ => a b o e n
theorem ButT.ofN {u : Addr} {H H' : Hp} (a : LamX.ExtN H H') : ButT u H H' := fun b o e _ t => a b o e t
theorem ButT.trans {u : Addr} {H H1 H2 : Hp} (a : ButT u H H1) (b : ButT u H1 H2) : ButT u H H2 := fun c o e n t => b c o (a c o e n t) n t
theorem ext_new {p : Addr} {H H' : Hp} {o : HO} (a : LamX.ExtN H H') (h : H' p = none) : LamX.ExtN H (upd H' p o) := fun c x e t => by
  have e1 := a c x e t
  rw [upd_ne (ne_of_none e1 h)]
  exact e1
theorem ext_seq {K : PySem.W.Frag} {H H' : Hp} {a : Addr} {xs : List V} (e : LamX.ExtN H H') (h : SqL K H a xs) : SqL K H' a xs := by
  rcases h with (h | ⟨o, h⟩) | h
  · exact .inl (.inl (e _ _ h (fun ps z => nomatch z)))
  · exact .inl (.inr ⟨o, e _ _ h (fun ps z => nomatch z)⟩)
  · exact .inr h
abbrev TL := List (Addr × Str)
def spRightT (T : TL) : Sp := fun vs H Q _ => ∃ u : Addr, vs = [.ref u] ∧ urnAt H u ∧ LamX.Tabs T H ∧ ∀ H' : Hp, ButT u H H' → LamX.Tabs T H' → Q (.bl true) H'
def spLawT (K : PySem.W.Frag) (T : TL) : Sp := fun vs H Q _ => ∃ (a : Addr) (ns : List Int), vs = [.ref a] ∧ SqL K H a (ns.map V.int) ∧ ns.length ≤ 63 ∧ LamX.Tabs T H ∧ ∀ H', Q (.bl true) H'
theorem tabs_put {T : TL} {H : Hp} {D : Addr} {xs ys : List V} (t : LamX.Tabs T H) (hD : H D = some (.lst xs)) : LamX.Tabs T (upd H D (.lst ys)) := by
  intro p hp
  obtain ⟨ps, h1, h2, h3⟩ := t p hp
  refine ⟨ps, ?_, h2, fun pos cv hc => ?_⟩
  · rw [upd_ne (ne_of h1 hD (by intro z; cases z))]
    exact h1
  · obtain ⟨c, e1, e2⟩ := h3 pos cv hc
    refine ⟨c, e1, ?_⟩
    rw [upd_ne (ne_of e2 hD (by intro z; unfold LamX.CodeO at z; cases z))]
    exact e2
section
variable {P : Program} {w : World} {K : PySem.W.Frag} {mg : Str → Option Value} {base : Heap}
end
end SQ4
/-! Texts cut at a separator and put together again. -/
namespace SQ
open PySem L2
theorem str_ext {a b : Str} (h : a.cps.toList = b.cps.toList) : a = b := by
  obtain ⟨ca⟩ := a
  obtain ⟨cb⟩ := b
  have e : ca = cb := Array.toList_inj.mp h
  rw [e]
theorem str_app (a b : Str) : (a ++ b).cps.toList = a.cps.toList ++ b.cps.toList := by
  show (a.cps ++ b.cps).toList = _
  exact Array.toList_append
/-- signs put together -/
def jn (S : List Nat) : List (List Nat) → List Nat
  | [] => []
  | [x] => x
  | x :: y :: r => x ++ (S ++ jn S (y :: r))
theorem tl_join (sep : Str) : ∀ l : List Str, (Str.join sep l).cps.toList = jn sep.cps.toList (l.map fun x => x.cps.toList)
  | [] => rfl
  | [x] => rfl
  | x :: y :: r => by
    have h := tl_join sep (y :: r)
    show (x ++ sep ++ Str.join sep (y :: r)).cps.toList = _
    rw [str_app, str_app, h, List.append_assoc]
    rfl
theorem spl_free {c : Nat} {S : List Nat} : ∀ (p acc r : List Nat), c ∉ p → TL.spl (c :: S) 0 acc (p ++ r) = TL.spl (c :: S) 0 (acc ++ p) r
  | [], acc, r, _ => by rw [List.append_nil]; rfl
  | x :: p, acc, r, h => by
    have hx : x ≠ c := fun e => h (e ▸ List.mem_cons_self)
    have hp : c ∉ p := fun e => h (List.mem_cons_of_mem _ e)
    rw [List.cons_append, TL.spl_miss (TL.pre_of_head S (p ++ r) hx), spl_free p _ r hp, List.append_assoc]
    rfl
theorem spl_jn {c : Nat} {S : List Nat} : ∀ (ps : List (List Nat)) (p acc : List Nat), c ∉ p → (∀ x ∈ ps, c ∉ x) → TL.spl (c :: S) 0 acc (jn (c :: S) (p :: ps)) = (acc ++ p) :: ps
  | [], p, acc, h, _ => by
    have e := spl_free (S := S) p acc [] h
    rw [List.append_nil, TL.spl_nil] at e
    exact e
  | q :: ps, p, acc, h, hs => by
    have e := spl_free (S := S) p acc ((c :: S) ++ jn (c :: S) (q :: ps)) h
    show TL.spl (c :: S) 0 acc (p ++ ((c :: S) ++ jn (c :: S) (q :: ps))) = _
    have hp : TL.pre (c :: S) (c :: (S ++ jn (c :: S) (q :: ps))) = true := TL.pre_self (c :: S) _
    rw [e, List.cons_append, TL.spl_hit hp, TL.spl_pass]
    have e2 : (S ++ jn (c :: S) (q :: ps)).drop ((c :: S).length - 1) = jn (c :: S) (q :: ps) := by
      show (S ++ jn (c :: S) (q :: ps)).drop S.length = _
      exact List.drop_left
    rw [e2, spl_jn ps q [] (hs q List.mem_cons_self) fun x hx => hs x (List.mem_cons_of_mem _ hx)]
    rfl
theorem map_tl_inj : ∀ {a b : List Str}, a.map (fun x => x.cps.toList) = b.map (fun x => x.cps.toList) → a = b
  | [], [], _ => rfl
  | [], _ :: _, h => nomatch h
  | _ :: _, [], h => nomatch h
  | x :: a, y :: b, h => by
    rw [List.map_cons, List.map_cons, List.cons.injEq] at h
    rw [str_ext h.1, map_tl_inj h.2]
/-- cut where it was put together -/
theorem split_join {sep : Str} {c : Nat} {S : List Nat} (hs : sep.cps.toList = c :: S) (hk : sep.cps.all (· < 256) = true) {ps : List Str} (hn : ps ≠ []) (hf : ∀ p ∈ ps, c ∉ p.cps.toList) : Txt.split (Str.join sep ps) sep = ps := by
  refine map_tl_inj ?_
  have hy : TL.tl sep ≠ [] := by
    show sep.cps.toList ≠ []
    rw [hs]
    exact fun z => nomatch z
  have e := TL.split_spl (Str.join sep ps) sep hy (TL.kind_ok hk)
  refine e.trans ?_
  show TL.spl sep.cps.toList 0 [] (Str.join sep ps).cps.toList = _
  rw [tl_join, hs]
  cases ps with
  | nil => exact absurd rfl hn
  | cons p ps =>
    rw [List.map_cons, spl_jn _ _ _ (hf p List.mem_cons_self) (fun x hx => by
      obtain ⟨y, hy, rfl⟩ := List.mem_map.mp hx
      exact hf y (List.mem_cons_of_mem _ hy))]
    rfl
theorem join_split (x y : Str) : Str.join y (Txt.split x y) = x := StrLaws.join_split x y
theorem split_ne (x y : Str) : Txt.split x y ≠ [] := by
  have h := PyProof.Rows.split_pos x y
  intro e
  rw [e] at h
  exact absurd h (by decide)
end SQ
/-! Static methods, called by position and by keyword; instances made with a starred list or nothing. -/
namespace SQ
open PySem PySem.Spec PyProof.Rows L2
structure SMet (K : PySem.W.Frag) (C : Addr) (mc : Value) (m : Str) (p g : Addr) : Prop where
  rd : PySem.W.readsIn K C mc = true
  ga : PySem.W.specialIn K (.ref C) "__getattribute__" = some (some (.builtin "type.__getattribute__"))
  at_ : PySem.W.findCls K (.ref C) mc m = some (.get (.builtin "staticmethod.__get__") (.ref p) .none (.ref C))
  rc : ∃ rest, PySem.W.recIn K p "staticmethod" = some (.ref g :: rest)
  kp : PySem.W.keepIn K (.ref g) = true
section
variable {X : Cx} {CX : CXT} {k : Nat} {C p g : Addr} {mc : Value} {sp : Sp} {E : XK} {o e : Expr} {es : List Expr} {x m : Str} {pos apos kpos sp_ : Pos} {ta te : TE} {t : TA} {pl : Sem Bool}
theorem getsm_ok {pins : List (Addr × Obj)} {σ : L2.St} {H : Hp} {s : Shared} {A : Around} {E : Value → Shared → Prop} {Q : Value × List Value → Shared → Prop} (I : Inv X pins σ H s) (c : SMet X.K C mc m p g)
    (h : ∀ t, Inv X pins σ H t → Q (.ref g, []) t) : wpAny (model X.prog X.w) A (getMethod (.ref C) m pl) Q E s := by
  obtain ⟨rest, hp⟩ := c.rc
  refine PySem.W.method_cls I.kIn c.ga (PySem.W.cls_bind I.kIn c.rd c.at_ ?_)
  exact wpAny_call (PySem.W.sm_get (s := { s with toks := s.toks + 1 }) I.kIn hp (PySem.W.handed_on rfl (h _ (I.tok _))))
/-- C.m(e, ..) -/
theorem pe_smeth (he : PE X o ta) (c : SMet X.K C mc m p g) (F : FnR X.prog X.w X.K X.mg X.base CX k g sp) (hr : Room k X.A) (hx : Passes CX X E) (ha : PA X (e :: es) t)
    (hst : starEach (e :: es) X.env = (false, eval e X.env) :: starEach es X.env := by rfl) (hpl : (backTo pos (starEach es X.env)).any (·.1) = false := by rfl)
    (ht : eval (.Call (.Attribute o m apos) (e :: es) [] pos) X.env = (do
      let v ← eval o X.env
      standAt apos.atName
      let (fn, pre) ← holding [v] (getMethod v m pl)
      callWith pos fn pre (backTo pos (starEach (e :: es) X.env)) (backToKw pos (keywordEach [] X.env))) := by rfl) :
    PE X (.Call (.Attribute o m apos) (e :: es) [] pos) (fun σ H Q => ta σ H fun y H1 => y = .ref C ∧ t σ H1 fun vs H2 => sp vs H2 Q E) := by
  constructor
  intro pins s σ H Q I h
  refine PySem.W.methodCall_KW (pl := pl) (thn (he.run pins s σ H _ I h) fun u s1 ⟨y, H1, I1, ry, ey, q⟩ => ?_) ht
  subst ey
  obtain rfl : u = Value.ref C := ry
  refine getsm_ok I1 c fun s2 I2 => ?_
  refine PySem.W.callWith_K (h₀ := X.base) I2.ok.mod.kin c.kp (thn (ha.run pos pins s2 σ H1 _ I2 q) fun us s3 ⟨vs, H2, I3, rv, q2⟩ => ⟨I3.kIn, ?_⟩) hst hpl
  exact wpAny_call (run_fnR F hr hx I3 rv q2)
/-- the instance is made, what __init__ lets out being taken at these slots -/
theorem make_at {f : Addr} {pins : List (Addr × Obj)} {σ : L2.St} {H : Hp} {s : Shared} {Q : VK} {us : List Value} {vs : List V} (M : Mk X.K C f) (F : FnR X.prog X.w X.K X.mg X.base CX k f sp) (hr : Room (k + 1) X.A) (hx : PassesAt CX X σ E) (I : Inv X pins σ H s) (r : Vals vs us)
    (h : ∀ q dx, H q = none → H dx = none → dx ≠ q → sp (V.ref q :: vs) (upd (upd H dx (.own q)) q (.ins C dx [])) (fun v H2 => v = .non ∧ Q (.ref q) H2) E) :
    wpAny (model X.prog X.w) X.A (call (.ref C) us) (EP X pins σ Q) X.xe s := by
  have J := Inv.made (C := C) I
  have hsp := h (s.heap.objs.size + 1) s.heap.objs.size (I.hok.fresh (Nat.le_succ _)) (I.hok.fresh (Nat.le_refl _)) (fun z => Nat.succ_ne_self _ z.symm)
  have rs : Vals (V.ref (s.heap.objs.size + 1) :: vs) (Value.ref (s.heap.objs.size + 1) :: us) := .cons rfl r
  refine wpAny_call (make_map (f := f) I.kIn M.makes M.init (beq_iff_eq.mp M.fn) ?_)
  refine codeAny_mono (F _ X.stack _ _ _ _ _ E (hr.make C us []) (J.env0.make C us []) rs hsp) ?_
  intro r t ht
  rcases r with er | (_ | _ | _ | u)
  · exact hx pins _ _ er t J ht
  · exact ht.elim
  · exact ht.elim
  · exact ht.elim
  · obtain ⟨v, G, J2, rv, rfl, q2⟩ := J.after ht
    exact ⟨rv, V.ref (s.heap.objs.size + 1), G, J2, rfl, q2⟩
/-- C(*e) in a try -/
theorem pe_makeST {f : Addr} {E : L2.St → XK} (Kx : PySem.W.Frag) (hK : X.K = Kx) (M : Mk X.K C f) (F : FnR X.prog X.w X.K X.mg X.base CX k f sp) (hr : Room (k + 1) X.A) (hg : Gl X x) (hm : X.mg x = some (.ref C)) (hx : ∀ σ, PassesAt CX X σ (E σ)) (he : PE X e te) (hdb : (x == ("__debug__" : Str)) = false := by decide)
    (hst : starEach [.Starred e sp_] X.env = [(true, eval e X.env)] := by rfl) :
    PE X (.Call (.Name x apos) [.Starred e sp_] [] pos) (fun σ H Q => te σ H fun y H1 => ∃ a xs, y = V.ref a ∧ (SqT Kx H1 a xs ∨ SqL Kx H1 a xs) ∧ ∀ q dx, H1 q = none → H1 dx = none → dx ≠ q → sp (V.ref q :: xs) (upd (upd H1 dx (.own q)) q (.ins C dx [])) (fun v H2 => v = .non ∧ Q (.ref q) H2) (E σ)) := by
  subst hK
  constructor
  intro pins s σ H Q I h
  refine wpAny_Call_Name_kw (ld_glob I hg hm ?_ hdb)
  refine PySem.W.callWith_S (h₀ := X.base) I.ok.mod.kin M.kp (thn (he.run pins s σ H _ I h) fun v s1 ⟨y, H1, I1, ry, a, xs, ey, hxs, q⟩ => ?_) hst
  subst ey
  obtain rfl : v = Value.ref a := ry
  exact StX.star_any I1 hxs fun us s2 I2 rv => ⟨I2.kIn, make_at M F hr (hx σ) I2 rv q⟩
end
end SQ
namespace SQ
open PySem PySem.Spec PyProof.Rows L2
abbrev Suite := Addr → Value → Option Addr → TS
section
variable {X : Cx} {n : Str} {i : Nat} {body : List Stmt} {hd0 : ExceptHandler} {hds : List ExceptHandler} {l : List (Value × Suite)} {pos : Pos} {tb : WX → TS}
/-- an error that the clauses look at; sI: the state without it -/
structure Aloft (X : Cx) (pins : List (Addr × Obj)) (B : Heap) (a : Addr) (cls : Value) (d : Option Addr) (σ : L2.St) (H : Hp) (sI s : Shared) : Prop where
  inv : Inv X pins σ H sI
  nb : ∀ b o, sI.heap.get? b = some o → b ∉ frs X.stack → B.get? b = some o
  up : sI.heap.UpToSlots s.heap
  fly : HandSPX.FlyingZ B X.stack a (Zc cls d) s.heap
  na : H a = none
  os : s.os = sI.os
  ag : AllBare s.gens
section
variable {pins : List (Addr × Obj)} {B : Heap} {a : Addr} {cls : Value} {d : Option Addr} {σ : L2.St} {H : Hp} {sI s : Shared} {D : Ends}
theorem Aloft.here (L : Aloft X pins B a cls d σ H sI s) : Inv X pins σ H s := L.inv.landed L.nb L.fly.1 L.up L.os L.ag
theorem Aloft.again {h : Heap} (L : Aloft X pins B a cls d σ H sI s) (f : HandSPX.FlyingZ B X.stack a (Zc cls d) h) (u : s.heap.UpToSlots h) : Aloft X pins B a cls d σ H sI { s with heap := h } := ⟨L.inv, L.nb, L.up.trans u, f, L.na, L.os, L.ag⟩
end
end
end SQ
/-! != of instances whose class has its own == and no !=. -/
namespace SQ
open PySem PySem.Spec PyProof.Rows L2
open PySem.W (InstAt findIn isFn subIn)
theorem slot_one : Slot "object" "__ne__" "object.__ne__" :=
  .of (owner := "object") (n := "__ne__") (by rw [typeLookup_type, builtinLookup_eq_fast]; kernel_rfl) (by decide +kernel) (by decide +kernel) (by decide +kernel)
    (.inl (by decide +kernel)) (by rw [isSubtype_type]; kernel_rfl)
section
variable {prog : Program} {w : World} {A : Around} {E : Value → Shared → Prop} {s : Shared} {K : PySem.W.Frag} {x y C f : Addr} {ox oy : Obj} {od oe : Option Obj}
theorem ifBound_ne {M : Model} {b : Value} {Q : Option Value → Shared → Prop} (X : K.In s.heap) (I : InstAt s.heap x ox C od) (hs : findIn K (.ref C) "__ne__" = some (some (.builtin "object.__ne__")))
    (h : wpAny M A (call (.builtin "object.__ne__") [.ref x, b]) (fun v => Q (some v)) E s) : wpAny M A (callSpecialIfBound? (.ref x) "__ne__" [b]) Q E s := by
  simp only [callSpecialIfBound?, bindSpecialIfBound?]
  refine wpAny_holding (wpAny_bind (wpAny_bind (wpAny_bind (I.type.here ((PySem.W.looks_findIn X hs).here ?_)))))
  refine wpAny_bind (wpAny_askSetting (wpAny_ite ?_))
  have fin : wpAny M A (call (.builtin "object.__ne__") ([.ref x] ++ [b]) >>= fun v => pure (some v)) Q E s := wpAny_bind (wpAny_mono h (fun v s' z => wpAny_pure z) fun _ _ z => z)
  have bd : bindSpecial (.builtin "object.__ne__") (.ref x) = pure (.builtin "object.__ne__", [.ref x]) := slot_one.bind (.ref x)
  rw [bd]
  split
  · exact wpAny_bind (wpAny_pure (wpAny_pure (by exact fin)))
  · exact wpAny_tryCatch (wpAny_bind (wpAny_pure (wpAny_pure (by exact fin))))
theorem chk_ne {M : Model} {b : Value} {Q : Unit → Shared → Prop} (X : K.In s.heap) (I : InstAt s.heap x ox C od) (ho : subIn K (.ref C) (.type "object") = some true) (h : Q () s) :
    wpAny M A (checkBuiltinCall "object.__ne__" ⟨[.ref x, b], []⟩) Q E s := by
  have ha := PySem.F.cmpArgs_ne (.ref x) b
  simp only [checkBuiltinCall, PySem.F.cmpKind_ne, PySem.F.cmpSplit_ne]
  refine wpAny_bind ?_
  unfold isInstance
  refine wpAny_bind (I.type.here ((PySem.W.looks_subIn X ho).here ?_))
  simp only [Bool.not_true, Bool.false_eq_true, if_false]
  cases hsig : Manifest.signature? "object.__ne__" with
  | none => exact wpAny_pure h
  | some sig =>
    simp only [argsOk, hsig] at ha
    show wpAny M A (Bind.checkArgs "object.__ne__" sig ⟨[.ref x, b], []⟩) Q E _
    have h2 : Bind.checkArgs "object.__ne__" sig ⟨[.ref x, b], []⟩ = pure () := ha
    rw [h2]
    exact wpAny_pure h
def NeBack (Q : Value → Shared → Prop) (v : Value) (s' : Shared) : Prop := ∃ b, v = .bool b ∧ Q (.bool (!b)) s'
theorem call_ne {Q : Value → Shared → Prop} (X : K.In s.heap) (I : InstAt s.heap x ox C od) (hu : A.in1.units < cLine) (ho : subIn K (.ref C) (.type "object") = some true) (he : findIn K (.ref C) "__eq__" = some (some (.ref f))) (hf : isFn K (.ref f) = true)
    (h : wpAny (model prog w) A.in1 (call (.ref f) [.ref x, .ref y]) (NeBack Q) E s) : wpAny (model prog w) A (call (.builtin "object.__ne__") [.ref x, .ref y]) Q E s := by
  refine wpAny_call (codeAny_call_builtin slot_one.plain PySem.F.cmpEntry_ne (chk_ne X I ho ?_))
  unfold Builtin.«object.__ne__»
  refine wpAny_bind (m := slotArgs "__ne__" 1 _) (wpAny_pure ?_)
  refine wpAny_bind (wpAny_cRoomFor hu ?_)
  refine wpAny_bind (PySem.W.ifBound_K X I he hf (wpAny_mono h (fun v s' z => ?_) fun _ _ z => z))
  obtain ⟨b, rfl, q⟩ := z
  refine wpAny_bind (wpAny_truthy_bool ?_)
  exact wpAny_pure q
theorem rc_ne {Q : Value → Shared → Prop} (X : K.In s.heap) (I : InstAt s.heap x ox C od) (J : InstAt s.heap y oy C oe) (hu0 : A.units < cLine) (hu : A.in1.units < cLine) (ho : subIn K (.ref C) (.type "object") = some true)
    (hs : findIn K (.ref C) "__ne__" = some (some (.builtin "object.__ne__"))) (he : findIn K (.ref C) "__eq__" = some (some (.ref f))) (hf : isFn K (.ref f) = true)
    (h : wpAny (model prog w) A.in1 (call (.ref f) [.ref x, .ref y]) (NeBack Q) E s) : wpAny (model prog w) A (richCompare .NotEq (.ref x) (.ref y)) Q E s := by
  have one : wpAny (model prog w) A (tryCompare (.ref x) "__ne__" (.ref y)) (fun r s' => ∃ b, r = some (.bool b) ∧ Q (.bool b) s') E s := by
    unfold tryCompare
    have g := call_ne (prog := prog) (w := w) (A := A) (E := E) (Q := fun v s' => ∃ b, v = .bool b ∧ Q v s') X I hu ho he hf (wpAny_mono h (fun v s' z => by
      obtain ⟨b, rfl, q⟩ := z
      exact ⟨b, rfl, _, rfl, q⟩) fun _ _ z => z)
    refine wpAny_bind (ifBound_ne X I hs (wpAny_mono g (fun v s' z => ?_) fun _ _ z => z))
    obtain ⟨b, rfl, q⟩ := z
    exact wpAny_pure ⟨b, rfl, q⟩
  unfold richCompare
  simp only [oneThing_ref]
  refine wpAny_holding (wpAny_bind (wpAny_cRoomFor hu0 ?_))
  refine wpAny_bind (I.type.here (wpAny_bind (J.type.here ?_)))
  rw [show (Value.ref C != Value.ref C) = false from by simp]
  simp only [Bool.false_eq_true, if_false]
  refine wpAny_bind (wpAny_pure ?_)
  simp only [Bool.false_eq_true, if_false]
  refine wpAny_bind (wpAny_mono one (fun r s' z => ?_) fun _ _ z => z)
  obtain ⟨b, rfl, q⟩ := z
  exact wpAny_pure q
end
/-- how the class at C compares -/
structure CmpC (K : PySem.W.Frag) (C f : Addr) : Prop where
  ob : subIn K (.ref C) (.type "object") = some true
  ne : findIn K (.ref C) "__ne__" = some (some (.builtin "object.__ne__"))
  eq : findIn K (.ref C) "__eq__" = some (some (.ref f))
  fn : isFn K (.ref f) = true
theorem op_neOwn {X : Cx} {k : Nat} {f C : Addr} {sp : Sp} (F : FnR X.prog X.w X.K X.mg X.base CX0 k f sp) (hr : Room (k + 2) X.A) (T : CmpC X.K C f) :
    OpR X (compareOp .NotEq) (fun x y H Q => ∃ (a b dx dy : Addr) (fs gs : List (Str × V)), x = .ref a ∧ y = .ref b ∧ H a = some (.ins C dx fs) ∧ H b = some (.ins C dy gs) ∧ sp [.ref a, .ref b] H (fun v H' => ∃ r, v = .bl r ∧ Q (.bl (!r)) H') E0) := by
  intro pins s σ H x y v u Q I rx ry h
  obtain ⟨a, b, dx, dy, fs, gs, rfl, rfl, ha, hb, q⟩ := h
  obtain rfl : v = Value.ref a := rx
  obtain rfl : u = Value.ref b := ry
  obtain ⟨mA, O, _⟩ := ins_get I.hok ha
  obtain ⟨od, J, _⟩ := O.look
  obtain ⟨mB, O2, _⟩ := ins_get I.hok hb
  obtain ⟨oe, J2, _⟩ := O2.look
  have hr1 : Room (k + 1) X.A.in1 := Room.in1 hr
  refine rc_ne I.kIn J J2 hr.units0 hr1.units0 T.ob T.ne T.eq T.fn (wpAny_call (codeAny_mono (F X.A.in1 X.stack s H [.ref a, .ref b] [.ref a, .ref b] _ _ (hr1.mono (by omega)) I.env0.in1 (.cons rfl (.cons rfl .nil)) q) fun r s' hq => ?_))
  rcases r with er | (_ | _ | _ | z)
  · exact (show False from hq).elim
  · exact False.elim hq
  · exact False.elim hq
  · exact False.elim hq
  · obtain ⟨v, H', I', rv, r, rfl, q'⟩ := I.after hq
    obtain rfl : z = Value.bool r := rv
    exact ⟨r, rfl, .bl (!r), H', I', rfl, q'⟩
end SQ
/-! repr of an instance with its own __repr__, and of a list that holds one. -/
namespace SQ
open PySem PySem.Spec PyProof.Rows L2
open PySem.W (InstAt findIn isFn subIn)
open Builtin Builtin.List
section
variable {prog : Program} {w : World} {A : Around} {E : Value → Shared → Prop} {R : Result → Shared → Prop} {s : Shared} {K : PySem.W.Frag} {x C f : Addr} {ox : Obj} {od : Option Obj}
def SBack (Q : Str → Shared → Prop) (v : Value) (s' : Shared) : Prop := ∃ z t, v = .str z t ∧ Q z s'
theorem repr_own {Q : Str → Shared → Prop} {b : Nat} (hb : b ≤ sizeLine) (hu : A.units < cLine) (X : K.In s.heap) (I : InstAt s.heap x ox C od) (hs : findIn K (.ref C) "__repr__" = some (some (.ref f))) (hf : isFn K (.ref f) = true)
    (h : wpAny (model prog w) A (call (.ref f) [.ref x]) (SBack Q) E s) : wpAny (model prog w) A (pyReprUnder b (.ref x)) Q E s := by
  unfold pyReprUnder
  rw [if_neg (by omega)]
  refine wpAny_bind (m := pyReprObjUnder b (.ref x)) ?_
  unfold pyReprObjUnder pyReprObjBy
  refine wpAny_bind (wpAny_cRoomFor hu ?_)
  refine wpAny_bind (m := specialOf (.ref x) "__repr__") (wpAny_bind (I.type.here ((PySem.W.looks_findIn X hs).here ?_)))
  simp only [Option.isNone_some, Bool.false_eq_true, if_false]
  refine wpAny_bind (m := callSpecialIfBoundBy? _ (.ref x) "__repr__") ?_
  simp only [callSpecialIfBoundBy?, bindSpecialIfBound?]
  refine wpAny_holding (wpAny_bind (wpAny_bind (wpAny_bind (I.type.here ((PySem.W.looks_findIn X hs).here ?_)))))
  refine wpAny_bind (wpAny_askSetting (wpAny_ite ?_))
  have fin : wpAny (model prog w) A (call (.ref f) [.ref x] >>= fun v => pure (some v)) (fun a s' => wpAny (model prog w) A (match a with
        | some r => do
          let __do_lift ← isInstance r (Value.type "str")
          if __do_lift = true then pure r
            else do
              let __do_lift ← typeNameOf r
              raiseErrorMade "TypeError" (toString "__repr__ returned non-string (type " ++ toString __do_lift ++ toString ")")
        | none => unsupported "repr:special-get-raises") (fun r s2 => ∃ z t, r = .str z t ∧ Q z s2) E s') E s := by
    refine wpAny_bind (wpAny_mono h (fun v s' z => wpAny_pure ?_) fun _ _ z => z)
    obtain ⟨y, t, rfl, q⟩ := z
    refine wpAny_bind (wpAny_isInstance (T := "str") (b := true) (typeIs_str _ _ _) isSubtype_str_str ?_)
    exact wpAny_pure ⟨y, t, rfl, q⟩
  split
  · refine wpAny_bind ((PySem.W.bind_fn X _ (beq_iff_eq.mp hf)).here (wpAny_pure ?_))
    refine wpAny_mono fin (fun a s' z => wpAny_mono z (fun r s2 y => ?_) fun _ _ y => y) fun _ _ y => y
    obtain ⟨y, t, rfl, q⟩ := y
    exact wpAny_pure q
  · refine wpAny_tryCatch (wpAny_bind ((PySem.W.bind_fn X _ (beq_iff_eq.mp hf)).here (wpAny_pure ?_)))
    refine wpAny_mono fin (fun a s' z => wpAny_mono z (fun r s2 y => ?_) fun _ _ y => y) fun _ _ y => y
    obtain ⟨y, t, rfl, q⟩ := y
    exact wpAny_pure q
/-- one turn of the list's repr -/
theorem repr_turn {a P : Addr} {items : Array Value} {i sg : Nat} {oa : Obj} {na : Nat} {x : Value} (ha : s.heap.get? a = some oa) (hda : oa.data = .seq items na) (hx : items[i]? = some x)
    (h : wpAny (model prog w) (A.under (.builtin "list.__repr__.loop" ⟨[.ref a, rawInt i, .ref P, rawInt sg], []⟩)) (pyReprUnder (sg + 1) x) (fun t s' => t.length ≤ sizeLine ∧ ∃ (acc : List Value) (c : Nat), s'.heap.get? P = some { cls := .type "list", data := .seq acc.toArray c } ∧ acc.length ≤ sizeLine ∧
      codeAny (model prog w) A (.builtin "list.__repr__.loop" ⟨[.ref a, rawInt ((i + 1 : Nat) : Int), .ref P, rawInt ((sg + (t.length + 2) : Nat) : Int)], []⟩) R { s' with heap := s'.heap.update P (Obj.mapSeq (·.push (.str t s'.toks))), toks := s'.toks + 1 }) (fun e s' => R (.error e) s') s) :
    codeAny (model prog w) A (.builtin "list.__repr__.loop" ⟨[.ref a, rawInt i, .ref P, rawInt sg], []⟩) R s := by
  refine codeAny_builtin F.entry_list_repr_loop ?_
  show wpAny _ _ («list.__repr__.loop» ⟨[.ref a, .int i 0, .ref P, .int sg 0], []⟩) _ _ s
  rw [repr_loop_tree]
  refine wpAny_bind (wpAny_listItems ha hda ?_)
  have hsome : items[(i : Int).toNat]? = some x := by simpa using hx
  simp only [hsome]
  rw [Int.toNat_natCast]
  refine wpAny_bind (wpAny_holding (wpAny_mono h (fun t s' z => ?_) fun _ _ z => z))
  obtain ⟨hz, acc, c, hP, hl, hc⟩ := z
  refine wpAny_bind (wpAny_mkStr ?_ hz)
  refine wpAny_bind ?_
  show wpAny _ _ (updateSeq P _) _ _ _
  refine wpAny_updateSeq hP rfl (wpAny_pure ⟨F.quiet_list_repr_loop _, ?_⟩) (by rw [List.size_toArray]; exact hl)
  have e1 : ((i : Int) + 1) = ((i + 1 : Nat) : Int) := by omega
  rw [e1]
  exact hc
theorem repr_stop {a P : Addr} {items : Array Value} {i sg : Nat} {oa op : Obj} {na np : Nat} {done : List (Str × Tok)} (ha : s.heap.get? a = some oa) (hda : oa.data = .seq items na) (hx : items[i]? = none) (hp : s.heap.get? P = some op) (hdp : op.data = .seq (strValues done).toArray np)
    (hz : (listText (done.map (·.1))).length ≤ sizeLine) (h : R (.ok (.ret (.str (listText (done.map (·.1))) s.toks))) { s with toks := s.toks + 1 }) :
    codeAny (model prog w) A (.builtin "list.__repr__.loop" ⟨[.ref a, rawInt i, .ref P, rawInt sg], []⟩) R s := by
  refine codeAny_builtin F.entry_list_repr_loop ?_
  show wpAny _ _ («list.__repr__.loop» ⟨[.ref a, .int i 0, .ref P, .int sg 0], []⟩) _ _ s
  rw [repr_loop_tree]
  refine wpAny_bind (wpAny_listItems ha hda ?_)
  have hnone : items[(i : Int).toNat]? = none := by simpa using hx
  simp only [hnone]
  unfold reprEnd
  refine wpAny_bind (wpAny_listItems hp hdp ?_)
  rw [List.toList_toArray, repr_fold]
  refine wpAny_bind (wpAny_pure ?_)
  exact wpAny_bind (wpAny_mkStr (wpAny_pure h) hz)
end
end SQ
namespace SQ
open PySem PySem.Spec PyProof.Rows L2
open PySem.W (InstAt findIn isFn subIn)
open Builtin Builtin.List
abbrev lpC (args : Args) : Code := .builtin "list.__repr__.loop" args
theorem lp_depth (A : Around) (args : Args) : (A.under (lpC args)).depth ≤ A.depth + 1 := by
  first
    | exact Nat.le_refl _
    | exact Nat.le_succ _
    | (show A.depth + (lpC args).weight ≤ A.depth + 1; decide)
    | (simp [Around.under, Code.weight, Code.isCreation, Code.isGuard, Code.isCaller, Code.frames, Code.isFrame, guardIds])
theorem lp_frames (A : Around) (args : Args) : (A.under (lpC args)).frames = A.frames := by
  show pushEnvs (lpC args).envs A.frames = A.frames
  cases A.frames <;> rfl
theorem lp_room {k : Nat} {A : Around} (r : Room (k + 1) A) (args : Args) : Room k (A.under (lpC args)) := by
  have h1 := lp_depth A args
  have h2 := units_under_list_loop A args
  have h3 := r.dp
  have h4 := r.un
  exact ⟨r.hd, by omega, by rw [h2]; omega⟩
structure RpC (K : PySem.W.Frag) (C f : Addr) : Prop where
  rp : findIn K (.ref C) "__repr__" = some (some (.ref f))
  fn : isFn K (.ref f) = true
abbrev bT (b : Bool) : Str := if b = true then Str.ofString "True" else Str.ofString "False"
theorem same_refl (H : Hp) : Same H H := fun _ _ e => e
end SQ
/-! repr of lists in lists, with own instances in them. -/
namespace SQ
open PySem PySem.Spec PyProof.Rows L2
open PySem.W (InstAt findIn isFn subIn)
open Builtin Builtin.List
/-- A stands below X.A in reprs of the lists at L -/
structure Lw (X : Cx) (k : Nat) (L : List Addr) (A : Around) : Prop where
  fr : A.frames = X.A.frames
  rm : Room k A
  gd : ∃ g, A.guards = some g ∧ ∀ b, b ∉ L → Clear g b
section
variable {X : Cx} {pins : List (Addr × Obj)} {σ : L2.St} {H : Hp} {s : Shared} {k : Nat} {L M : List Addr} {A : Around} {a P : Addr} {v : V} {z : Str} {vs : List V} {zs : List Str}
theorem Lw.down (l : Lw X (k + 1) L A) (a : Addr) (rest : List Value) : Lw X k (a :: L) (A.under (lpC ⟨.ref a :: rest, []⟩)) := by
  obtain ⟨g, g1, g2⟩ := l.gd
  refine ⟨(lp_frames A _).trans l.fr, lp_room l.rm _, _, guards_under_guard (isGuard_list_loop _) g1, fun b hb => ?_⟩
  exact Clear.cons (g2 b fun h => hb (List.mem_cons_of_mem _ h)) fun e => hb (e ▸ List.mem_cons_self)
theorem Lw.env (l : Lw X k L A) (I : Inv X pins σ H s) : Env0 X.prog X.w X.K X.mg X.base A X.stack s H :=
  ⟨l.fr.trans I.env0.frames, I.env0.mod, I.env0.bs, I.env0.bsz, I.env0.funs, I.env0.frf, I.env0.hok, I.env0.bare⟩
/-- repr(v) is z, whatever was laid since; M: the lists and tuples within v -/
def RpX (X : Cx) (H : Hp) (k : Nat) (M : List Addr) (v : V) (z : Str) : Prop :=
  ∀ (pins : List (Addr × Obj)) (σ : L2.St) (L : List Addr) (A : Around), Lw X k L A → (∀ m ∈ M, m ∉ L) → ∀ (G : Hp) (s : Shared) (u : Value) (b : Nat) (Q : Str → Shared → Prop) (E : Value → Shared → Prop), Same H G → Inv X pins σ G s → RelV v u →
    b + z.length ≤ sizeLine → (∀ G' s', Same G G' → Inv X pins σ G' s' → Q z s') → wpAny (model X.prog X.w) A (pyReprUnder b u) Q E s
theorem RpX.of_is (h : ∀ u, RelV v u → ReprIs X.prog X.w u z) : RpX X H k M v z := fun pins σ L A l m G s u b Q E sm I r hb q => h u r b hb A E s Q fun tk => q G _ (same_refl G) (I.tok tk)
theorem RpX.of_k {d : Nat} (hd : d ≤ 200) (h : ∀ pins σ G s u, Same H G → Inv X pins σ G s → RelV v u → ReprK X.prog X.w M s.heap d u z) : RpX X H k M v z := fun pins σ L A l m G s u b Q E sm I r hb q => by
  obtain ⟨g, g1, g2⟩ := l.gd
  have hu := l.rm.un
  exact h pins σ G s u sm I r b hb A g E s Q g1 (fun c hc => g2 c (m c hc)) (by omega) (fun _ _ e => e) fun h' tk hk => q G _ (same_refl G) (I.kept hk)
theorem RpX.non : RpX X H k M .non "None" := .of_is fun u r => by
  obtain rfl : u = Value.none := r
  exact ReprIs.none
theorem RpX.bl (b : Bool) : RpX X H k M (.bl b) (bT b) := .of_is fun u r => by
  obtain rfl : u = Value.bool b := r
  exact ReprIs.bool b
theorem RpX.int {i : Int} (h : i.natAbs.log2 < 1920) : RpX X H k M (.int i) (toString i) := .of_is fun u r => by
  obtain ⟨t, rfl⟩ := r
  exact ReprIs.int t h
theorem RpX.str {x : Str} (h : (reprText x).length ≤ sizeLine) : RpX X H k M (.str x) (reprText x) := .of_is fun u r => by
  obtain ⟨t, rfl⟩ := r
  exact ReprIs.str x t h
theorem RpX.own {C f o dx : Addr} {sp : Sp} {fs : List (Str × V)} (T : RpC X.K C f) (F : FnR X.prog X.w X.K X.mg X.base CX0 k f sp) (ho : H o = some (.ins C dx fs))
    (hsp : ∀ H1, Same H H1 → sp [.ref o] H1 (fun v H2 => v = .str z ∧ Same H1 H2) E0) : RpX X H k M (.ref o) z := by
  intro pins σ L A l m G s u b Q E sm I r hb q
  obtain rfl : u = Value.ref o := r
  obtain ⟨mA, O, _⟩ := ins_get I.hok (sm _ _ ho)
  obtain ⟨od, J, _⟩ := O.look
  refine repr_own (by omega) l.rm.units0 I.kIn J T.rp T.fn (wpAny_call (codeAny_mono (F _ X.stack s G [.ref o] [.ref o] _ _ l.rm (l.env I) (.cons rfl .nil) (hsp _ sm)) fun r s3 hq => ?_))
  rcases r with er | (_ | _ | _ | v)
  · exact (show False from hq).elim
  · exact False.elim hq
  · exact False.elim hq
  · exact False.elim hq
  obtain ⟨v', H3, I3, rv3, rfl, sm3⟩ := I.after hq
  obtain ⟨tz, rfl⟩ := rv3
  exact ⟨z, tz, rfl, q _ _ sm3 I3⟩
theorem RpX.tupS {l : List Str} (h : H a = some (.tup (l.map V.str))) (hl : ∀ x ∈ l, (reprText x).length ≤ sizeLine) : RpX X H k [a] (.ref a) (tupleText (l.map reprText)) := by
  refine .of_k (d := 1) (by decide) fun pins σ G s u sm I r => ?_
  obtain rfl : u = Value.ref a := r
  obtain ⟨its, rv, ⟨o, e, c, n, dt⟩, sz⟩ := I.tuple (SqT.of (sm _ _ h))
  refine ReprK.tuple (as := []) (d := 0) e c dt (fun z => nomatch z) ?_
  rw [List.toList_toArray]
  clear e dt h sz
  induction l generalizing its with
  | nil =>
    cases rv
    exact .nil
  | cons x l ih =>
    cases rv with
    | cons r rv =>
      obtain ⟨t, rfl⟩ := r
      exact .cons (.of_is (ReprIs.str x t (hl x List.mem_cons_self)) _ _ _) (ih (fun y hy => hl y (List.mem_cons_of_mem _ hy)) _ rv)
theorem RpX.dic (h : H a = some (.dK [])) : RpX X H k [a] (.ref a) (dictText []) := by
  refine .of_k (d := 1) (by decide) fun pins σ G s u sm I r => ?_
  obtain rfl : u = Value.ref a := r
  obtain ⟨_, na, vs, kv, o, es, ep, h1, h2, h3, h4⟩ := (show ObjOk X.prog X.w G s.heap a (.dK []) from I.hok a _ (sm _ _ h))
  cases kv
  have he : es.toList = [] := by
    have h5 := h4.2.1
    generalize es.toList = l at h5
    cases h5
    rfl
  refine ReprK.dict (as := []) (d := 0) h1 h2.1 h3 na (fun z => nomatch z) ?_
  rw [he]
  exact .nil
theorem RpX.more {M' : List Addr} (h : RpX X H k M v z) (hs : ∀ m ∈ M, m ∈ M') : RpX X H k M' v z := fun pins σ L A l m => h pins σ L A l fun c hc => m c (hs c hc)
theorem RpX.lift {j : Nat} (h : RpX X H j M v z) (hj : j ≤ k) : RpX X H k M v z := fun pins σ L A l m => h pins σ L A ⟨l.fr, l.rm.mono hj, l.gd⟩ m
theorem RpX.same {H' : Hp} (h : RpX X H k M v z) (s : Same H H') : RpX X H' k M v z := fun pins σ L A l m G t u b Q E s2 I r hb q => h pins σ L A l m G t u b Q E (fun c x y => s2 _ _ (s _ _ y)) I r hb q
inductive RpAll (X : Cx) (H : Hp) (k : Nat) (M : List Addr) : List V → List Str → Prop
  | nil : RpAll X H k M [] []
  | cons {v : V} {z : Str} {vs : List V} {zs : List Str} : RpX X H k M v z → RpAll X H k M vs zs → RpAll X H k M (v :: vs) (z :: zs)
theorem RpAll.len (h : RpAll X H k M vs zs) : vs.length = zs.length := by
  induction h with
  | nil => rfl
  | cons _ _ ih => rw [List.length_cons, List.length_cons, ih]
theorem vals_strs : ∀ {l : List Str} {us : List Value}, Vals (l.map V.str) us → ∃ ps : List (Str × Tok), strValues ps = us ∧ ps.map (·.1) = l
  | [], _, .nil => ⟨[], rfl, rfl⟩
  | x :: l, _, .cons r rs => by
    obtain ⟨t, rfl⟩ := r
    obtain ⟨ps, e1, e2⟩ := vals_strs rs
    exact ⟨(x, t) :: ps, by rw [← e1]; rfl, by rw [← e2]; rfl⟩
theorem vals_at {vs : List V} {us : List Value} (h : Vals vs us) : ∀ {i : Nat} {v : V}, vs[i]? = some v → ∃ u, us[i]? = some u ∧ RelV v u := by
  induction h with
  | nil => intro i v e; simp at e
  | @cons v0 u0 vs us r _ ih =>
    intro i v e
    cases i with
    | zero =>
      cases e
      exact ⟨u0, rfl, r⟩
    | succ i => exact ih e
theorem rp_loop {R : Result → Shared → Prop} {all : List V} (l : Lw X (k + 1) L A) (hM : ∀ m ∈ M, m ∉ a :: L) (nP : H P = none) (ha : H a = some (.lst all)) :
    ∀ (rest : List V) (zs : List Str) (pre : List V) (done : List Str) (G : Hp) (s : Shared) (sg : Nat), all = pre ++ rest → RpAll X H k M rest zs → Same H G → Inv X pins σ G s → G P = some (.lst (done.map V.str)) → sg + piled zs ≤ sizeLine → done.length + zs.length ≤ 1000 → (listText (done ++ zs)).length ≤ sizeLine →
      (∀ G' s' u, Same H G' → Inv X pins σ G' s' → R (.ok (.ret (.str (listText (done ++ zs)) u))) s') → codeAny (model X.prog X.w) A (.builtin "list.__repr__.loop" ⟨[.ref a, rawInt (pre.length : Nat), .ref P, rawInt (sg : Nat)], []⟩) R s := by
  intro rest
  induction rest with
  | nil =>
    intro zs pre done G s sg e hz sm I hP hs hn ht q
    cases hz
    obtain ⟨_, its, n, rv, eA⟩ := (show ObjOk X.prog X.w G s.heap a (.lst all) from I.hok a _ (sm _ _ ha))
    obtain ⟨_, acc, c, rw', eP⟩ := (show ObjOk X.prog X.w G s.heap P (.lst (done.map V.str)) from I.hok P _ hP)
    obtain ⟨ps, e1, e2⟩ := vals_strs rw'
    have hlen : its.length = pre.length := by
      have := rv.length
      rw [e, List.append_nil] at this
      exact this.symm
    rw [List.append_nil] at ht q
    refine repr_stop (done := ps) eA rfl (by rw [List.getElem?_toArray]; exact List.getElem?_eq_none (by omega)) eP (by rw [e1]) (by rw [e2]; exact ht) ?_
    rw [e2]
    exact q G _ _ sm (I.tok _)
  | cons v rest ih =>
    intro zs pre done G s sg e hz sm I hP hs hn ht q
    cases hz with
    | @cons _ z _ zs hv hzs =>
    obtain ⟨_, its, n, rv, eA⟩ := (show ObjOk X.prog X.w G s.heap a (.lst all) from I.hok a _ (sm _ _ ha))
    obtain ⟨u, hu, ru⟩ := vals_at rv (i := pre.length) (v := v) (by rw [e]; simp)
    rw [piled_cons] at hs
    rw [List.length_cons] at hn
    refine repr_turn eA rfl (x := u) (by rw [List.getElem?_toArray]; exact hu) ?_
    refine hv pins σ (a :: L) _ (l.down a _) hM G s u (sg + 1) _ _ sm I ru (by omega) fun G' s' sm' I' => ?_
    have hP' := sm' _ _ hP
    obtain ⟨_, acc, c, rw', eP⟩ := (show ObjOk X.prog X.w G' s'.heap P (.lst (done.map V.str)) from I'.hok P _ hP')
    have hacc : acc.length = done.length := by
      have := rw'.length
      rw [List.length_map] at this
      exact this.symm
    have line : ∀ {m : Nat}, m ≤ 1000 → m ≤ sizeLine := fun h => Nat.le_trans h (by decide)
    refine ⟨by omega, acc, c, eP, line (by omega), ?_⟩
    have rv2 : Vals ((done ++ [z]).map V.str) (acc ++ [Value.str z s'.toks]) := by
      rw [List.map_append]
      exact Vals.append rw' (.cons ⟨_, rfl⟩ .nil)
    have I2 := Inv.lset (t' := s'.toks + 1) (its' := acc ++ [Value.str z s'.toks]) (f := fun y => y.push (.str z s'.toks)) I' hP' eP (by simp) rv2 (line (by rw [List.length_map, List.length_append]; show done.length + 1 ≤ 1000; omega))
    have sm2 : Same H (upd G' P (.lst ((done ++ [z]).map V.str))) := fun c x y => by
      rw [upd_ne (ne_of_none y nP)]
      exact sm' _ _ (sm _ _ y)
    have eL : (pre.length + 1 : Nat) = (pre ++ [v]).length := by simp
    rw [eL]
    have eD : done ++ z :: zs = (done ++ [z]) ++ zs := by simp
    rw [eD] at ht q
    exact ih zs (pre ++ [v]) (done ++ [z]) _ _ (sg + (z.length + 2)) (by rw [e]; simp) hzs sm2 I2 upd_same (by omega) (by rw [List.length_append]; show done.length + 1 + zs.length ≤ 1000; omega) ht q
theorem RpX.list (ha : H a = some (.lst (v :: vs))) (h : RpAll X H k M (v :: vs) zs) (na : a ∉ M) (few : zs.length ≤ 1000) : RpX X H (k + 1) (a :: M) (.ref a) (listText zs) := by
  intro pins σ L A l m G s u b Q E sm I r hb q
  obtain rfl : u = Value.ref a := r
  obtain ⟨_, its, n, rv, e⟩ := (show ObjOk X.prog X.w G s.heap a (.lst (v :: vs)) from I.hok a _ (sm _ _ ha))
  obtain ⟨g, g1, g2⟩ := l.gd
  have pl := piled_le_listText zs
  refine wpAny_pyReprUnder_ref (by omega) (wpAny_pyReprObjUnder_twin (twin := "list.__repr__.under") ⟨_, e, rfl⟩ PySem.F.slot_list_repr.toG rfl l.rm.units0 ?_)
  refine call_twin_plain PySem.F.plain_list_repr_under PySem.F.entry_list_repr_under PySem.F.check_list_repr_under ⟨_, e, rfl⟩ PySem.F.slot_list_repr.toG (PySem.F.args_list_repr_1 _) ?_
  obtain ⟨y, its, rfl⟩ : ∃ y l, its = y :: l := by
    cases rv with
    | cons _ _ => exact ⟨_, _, rfl⟩
  refine wpAny_list_repr_head (A := A.in1) g1 (fun v rest kw hm => listSameRef_of_ne (g2 a (m a List.mem_cons_self) _ _ _ _ hm)) e rfl ?_
  refine wpAny_bind (m := newList []) (wpAny_newObj_type ?_)
  refine wpAny_pure ⟨PySem.F.quiet_list_repr_loop _, ?_⟩
  have nP : G s.heap.objs.size = none := I.hok.fresh (Nat.le_refl _)
  have nH : H s.heap.objs.size = none := sm.free nP
  have I1 : Inv X pins σ (upd G s.heap.objs.size (.lst (([] : List Str).map V.str))) { s with heap := s.heap.push { cls := .type "list", data := .seq ([] : List Value).toArray } } :=
    I.laid (t' := s.toks) (fun c u y => Heap.get?_push_of_some _ y) (Nat.le_refl _) ⟨Nat.zero_le _, [], _, .nil, Heap.get?_push_size _ rfl⟩
  have sm1 : Same H (upd G s.heap.objs.size (.lst (([] : List Str).map V.str))) := fun c x y => by
    rw [upd_ne (ne_of_none y nH)]
    exact sm _ _ y
  refine rp_loop (k := k) (pins := pins) (σ := σ) (H := G) (M := M) l (fun c hc hm => ?_) nP (sm _ _ ha) (v :: vs) zs [] [] _ _ b rfl ?_ ?_ I1 upd_same (by omega) (by simpa using few) (by simpa using (by omega : (listText zs).length ≤ sizeLine)) fun G' s' u sm' I' => ?_
  · rcases List.mem_cons.mp hm with e | hm
    · exact na (e ▸ hc)
    · exact m c (List.mem_cons_of_mem _ hc) hm
  · have up : ∀ {vs : List V} {zs : List Str}, RpAll X H k M vs zs → RpAll X G k M vs zs := by
      intro vs zs h
      induction h with
      | nil => exact .nil
      | cons h _ ih => exact .cons (fun pins σ L A l m G2 s u b Q E s2 I r hb q => h pins σ L A l m G2 s u b Q E (fun c x y => s2 _ _ (sm _ _ y)) I r hb q) ih
    exact up h
  · intro c x y
    rw [upd_ne (ne_of_none y nP)]
    exact y
  · exact ⟨⟨_, _, rfl⟩, _, _, rfl, q _ _ sm' I'⟩
end
end SQ
/-! list.count of a text. -/
namespace SQ
open PySem PySem.Spec PyProof.Rows L2
def eqs (k : Str) (v : Value) : Bool := match v with
  | .str n _ => n.cps.toList == k.cps.toList
  | _ => false
theorem eqs_gives {k : Str} {t : Tok} : ∀ {l : List Str} {us : List Value}, Vals (l.map V.str) us → ∀ y ∈ us, MeetsSeq.EqGives y (.str k t) (eqs k y)
  | [], _, .nil => fun y hy => nomatch hy
  | x :: l, _, .cons r rs => fun y hy => by
    obtain ⟨t', rfl⟩ := r
    rcases List.mem_cons.mp hy with e | e
    · rw [e]
      exact SeqRoads2.EqGives.str x k t' t
    · exact eqs_gives rs y e
theorem eqs_beq (x k : Str) : (x.cps.toList == k.cps.toList) = (x == k) := by
  by_cases h : x = k
  · subst h
    rw [beq_self_eq_true, beq_self_eq_true]
  · have h2 : ¬ x.cps.toList = k.cps.toList := fun e => h (by
      cases x; cases k
      exact congrArg Str.mk (Array.toList_inj.mp e))
    rw [beq_eq_false_iff_ne.mpr h, beq_eq_false_iff_ne.mpr h2]
theorem eqs_count {k : Str} : ∀ {l : List Str} {us : List Value}, Vals (l.map V.str) us → us.countP (eqs k) = l.count k
  | [], _, .nil => rfl
  | x :: l, _, .cons r rs => by
    obtain ⟨t', rfl⟩ := r
    have ih := eqs_count (k := k) rs
    rw [List.countP_cons, List.count_cons, ih]
    show _ + (if (x.cps.toList == k.cps.toList) = true then 1 else 0) = _
    rw [eqs_beq]
def rCntS (K : PySem.W.Frag) : V → List V → Hp → VK → Prop := fun x xs H Q => ∃ (p : Addr) (l : List Str) (k : Str), x = .ref p ∧ xs = [.str k] ∧ SqL K H p (l.map V.str) ∧ Q (.int (l.count k : Nat)) H
theorem mt_countS {X : Cx} : MtR X "list.count" (rCntS X.K) := by
  intro pins s σ H x xs v us Q I rx rxs h
  obtain ⟨p, l, k, rfl, rfl, hs, q⟩ := h
  cases rx
  obtain ⟨u, rfl, t, rfl⟩ := rxs.one
  obtain ⟨its, rv, ⟨⟨cls, dd, data, sl⟩, n, ho, hc, _, hd⟩, _⟩ := I.list hs
  obtain rfl : cls = _ := hc
  obtain rfl : data = _ := hd
  have at_ := SeqAt.list_countAt p its.toArray n dd sl (.str k t) (eqs k)
  refine call_meets PySem.F.slot_list_count ⟨_, ho, rfl⟩ PySem.F.entry_list_count (PySem.F.args_list_count_2 _ _) at_ ⟨ho, fun y hy => (eqs_gives rv y (by simpa using hy)).at _ _, .int (l.count k : Nat), H, I.tok _, ⟨s.toks, ?_⟩, q⟩
  exact congrArg (fun m : Nat => Value.int (m : Int) s.toks) (eqs_count rv)
end SQ
/-! sorted of triples (text, int, int). -/
namespace SQ
open PySem PySem.Spec PyProof.Rows L2 SrtO Srt
section
variable {prog : Program} {w : World} {A : Around} {s : Shared} {E : Value → Shared → Prop}
end
end SQ
/-! len, bool, repr, == of an instance with own methods; a method by keyword. -/
namespace SQ
open PySem PySem.Spec PyProof.Rows L2
open PySem.W (InstAt findIn isFn subIn)
section
variable {prog : Program} {w : World} {A : Around} {E : Value → Shared → Prop} {s : Shared} {K : PySem.W.Frag} {x C f : Addr} {ox : Obj} {od : Option Obj}
def IBack (Q : Value → Shared → Prop) (v : Value) (s' : Shared) : Prop := ∃ (n : Int) (t : Tok), v = .int n t ∧ 0 ≤ n ∧ n < 1000 ∧ Q (.int n s'.toks) { s' with toks := s'.toks + 1 }
theorem len_body {Q : PySem.Fin → Shared → Prop} (X : K.In s.heap) (I : InstAt s.heap x ox C od) (hs : findIn K (.ref C) "__len__" = some (some (.ref f))) (hf : isFn K (.ref f) = true)
    (h : wpAny (model prog w) A (call (.ref f) [.ref x]) (IBack fun v s' => Q (.done (.ret v)) s') E s) : wpAny (model prog w) A (Builtin.«len» ⟨[.ref x], []⟩) Q E s := by
  unfold Builtin.«len»
  refine wpAny_bind (m := oneArg "len" _) (wpAny_pure ?_)
  refine wpAny_bind (m := callSpecial? (.ref x) (Str.ofString "__len__")) (PySem.W.special_fn X I hs (beq_iff_eq.mp hf) (wpAny_mono h (fun r s' hr => ?_) fun _ _ y => y))
  obtain ⟨n, t, rfl, h0, h1, hq⟩ := hr
  refine wpAny_bind (wpAny_holding (wpAny_pure ?_))
  refine wpAny_bind (wpAny_letGo ?_)
  show wpAny _ _ (if n < 0 then _ else _) _ _ _
  rw [if_neg (by omega)]
  show wpAny _ _ (if n ≥ 2 ^ 63 then _ else _) _ _ _
  rw [if_neg (by omega)]
  exact wpAny_bind (wpAny_mkInt (wpAny_pure hq))
theorem len_own {Q : Value → Shared → Prop} (X : K.In s.heap) (I : InstAt s.heap x ox C od) (hs : findIn K (.ref C) "__len__" = some (some (.ref f))) (hf : isFn K (.ref f) = true)
    (h : wpAny (model prog w) A.in1 (call (.ref f) [.ref x]) (IBack Q) E s) : wpAny (model prog w) A (call (.builtin "len") [.ref x]) Q E s := by
  refine Calls.call_function_entry kind_len plain_len entry_len (args_len1 _) ?_
  refine len_body X I hs hf (wpAny_mono h (fun r s' hr => ?_) fun _ _ y => y)
  obtain ⟨n, t, rfl, h0, h1, hq⟩ := hr
  exact ⟨n, t, rfl, h0, h1, ⟨_, rfl, hq⟩⟩
theorem repr_call {Q : Value → Shared → Prop} (hu : A.in1.units < cLine) (X : K.In s.heap) (I : InstAt s.heap x ox C od) (hs : findIn K (.ref C) "__repr__" = some (some (.ref f))) (hf : isFn K (.ref f) = true)
    (h : wpAny (model prog w) A.in1 (call (.ref f) [.ref x]) (SBack fun z s' => ∀ t, Q (.str z t) s') E s) : wpAny (model prog w) A (call (.builtin "repr") [.ref x]) Q E s := by
  refine Calls.call_function_entry PySem.F.kind_repr PySem.F.plain_repr PySem.F.entry_repr (PySem.F.args_repr1 _) ?_
  unfold Builtin.«repr»
  refine wpAny_bind (m := oneArg "repr" _) (wpAny_pure ?_)
  refine wpAny_bind (wpAny_cRoomFor hu ?_)
  refine wpAny_bind (wpAny_bind (I.type.here ((PySem.W.looks_findIn X hs).here ?_)))
  show wpAny _ _ (if (some (Value.ref f)).isNone = true then _ else _) _ _ _
  rw [if_neg (by simp)]
  refine wpAny_bind (m := callSpecialIfBound? (.ref x) (Str.ofString "__repr__") _) (PySem.W.ifBound_K X I hs hf (wpAny_mono h (fun r s' hr => ?_) fun _ _ y => y))
  obtain ⟨z, t, rfl, hq⟩ := hr
  refine wpAny_bind (wpAny_isInstance (typeIs_str _ _ _) isSubtype_str_str ?_)
  first
    | exact wpAny_pure ⟨_, rfl, hq t⟩
    | (rw [if_pos rfl]; exact wpAny_pure ⟨_, rfl, hq t⟩)
    | (simp only [if_true]; exact wpAny_pure ⟨_, rfl, hq t⟩)
/-- o == a text -/
theorem rc_eqS {y : Str} {ty : Tok} {Q : Value → Shared → Prop} (X : K.In s.heap) (I : InstAt s.heap x ox C od) (hu0 : A.units < cLine) (hsub : subIn K (.type "str") (.ref C) = some false)
    (he : findIn K (.ref C) "__eq__" = some (some (.ref f))) (hf : isFn K (.ref f) = true)
    (h : wpAny (model prog w) A (call (.ref f) [.ref x, .str y ty]) (fun v s' => ∃ b, v = .bool b ∧ Q v s') E s) : wpAny (model prog w) A (richCompare .Eq (.ref x) (.str y ty)) Q E s := by
  have one : wpAny (model prog w) A (tryCompare (.ref x) "__eq__" (.str y ty)) (fun r s' => ∃ b, r = some (.bool b) ∧ Q (.bool b) s') E s := by
    unfold tryCompare
    refine wpAny_bind (PySem.W.ifBound_K X I he hf (wpAny_mono h (fun v s' z => ?_) fun _ _ z => z))
    obtain ⟨b, rfl, q⟩ := z
    exact wpAny_pure ⟨b, rfl, q⟩
  unfold richCompare
  refine wpAny_holding (wpAny_bind (wpAny_cRoomFor hu0 ?_))
  have h1 : oneThing? .Eq (.ref x) (.str y ty) = none := by rfl
  rw [h1]
  refine wpAny_bind (I.type.here ?_)
  refine wpAny_bind (m := typeOf (.str y ty)) (wpAny_pure ?_)
  rw [show (Value.ref C != Value.type "str") = true from by rfl]
  simp only [if_true]
  refine wpAny_bind ((PySem.W.looks_subIn X hsub).here ?_)
  simp only [Bool.false_eq_true, if_false]
  refine wpAny_bind (wpAny_mono one (fun r s' z => ?_) fun _ _ z => z)
  obtain ⟨b, rfl, q⟩ := z
  exact wpAny_pure q
end
end SQ
namespace SQ
open PySem PySem.Spec PyProof.Rows L2
open PySem.W (InstAt findIn isFn subIn)
section
variable {prog : Program} {w : World} {A : Around} {E : Value → Shared → Prop} {s : Shared} {K : PySem.W.Frag} {x C f : Addr} {ox : Obj} {od : Option Obj}
theorem truthy_len {Q : Bool → Shared → Prop} (X : K.In s.heap) (I : InstAt s.heap x ox C od) (hb : findIn K (.ref C) "__bool__" = some none) (hs : findIn K (.ref C) "__len__" = some (some (.ref f))) (hf : isFn K (.ref f) = true)
    (h : wpAny (model prog w) A.in1 (call (.ref f) [.ref x]) (IBack fun v s' => ∃ n t, v = .int n t ∧ Q (n != 0) s') E s) : wpAny (model prog w) A (truthy (.ref x)) Q E s := by
  unfold truthy
  refine wpAny_bind (m := callSpecial? (.ref x) (Str.ofString "__bool__")) (wpAny_bind (wpAny_bind (I.type.here ((PySem.W.looks_findIn X hb).here (wpAny_pure ?_)))))
  refine wpAny_bind (wpAny_bind (I.type.here ((PySem.W.looks_findIn X hs).here ?_)))
  show wpAny _ _ (if (some (Value.ref f)).isNone = true then _ else _) _ _ _
  rw [if_neg (by simp)]
  refine wpAny_bind (wpAny_runValue (codeAny_builtin entry_len ?_))
  rw [Around.under_plainId (by decide +kernel) _]
  refine len_body X I hs hf (wpAny_mono h (fun r s' hr => ?_) fun _ _ y => y)
  obtain ⟨n, t, rfl, h0, h1, m, u, e, hq⟩ := hr
  cases e
  exact ⟨n, t, rfl, h0, h1, wpAny_pure hq⟩
theorem bool_own {Q : Value → Shared → Prop} (X : K.In s.heap) (I : InstAt s.heap x ox C od) (hb : findIn K (.ref C) "__bool__" = some none) (hs : findIn K (.ref C) "__len__" = some (some (.ref f))) (hf : isFn K (.ref f) = true)
    (h : wpAny (model prog w) A.in1.in1.in1 (call (.ref f) [.ref x]) (IBack fun v s' => ∃ n t, v = .int n t ∧ Q (.bool (n != 0)) s') E s) : wpAny (model prog w) A (call (.type "bool") [.ref x]) Q E s := by
  refine callType_codes (T := "bool") (Bi := Builtin.«object.__init__») (Q₁ := fun r s₁ => ∃ b, r = .bool b ∧ Q r s₁) PySem.F.called_bool (PySem.F.typeCall_bool_1 _) PySem.F.entry_object_init ?_ ?_
  · refine codeAny_of_tree ?_
    show wpAny _ A.in1.in1 (do checkBuiltinCall "bool.__new__" ⟨[.type "bool", .ref x], []⟩; again (.builtin "bool.__new__" ⟨[.type "bool", .ref x], []⟩)) _ _ s
    refine wpAny_bind (wpAny_of_eq (PySem.F.newCall_bool_1 _) (wpAny_pure ⟨plainId_quiet (by decide +kernel) _, codeAny_builtin PySem.F.entry_bool_new ?_⟩))
    rw [Around.under_plainId (by decide +kernel) _]
    unfold Builtin.«bool.__new__»
    refine wpAny_bind (m := isType (.type "bool")) (wpAny_pure ?_)
    have f1 := PySem.F.conv_sub_bool
    simp only [Bool.not_true, Bool.false_eq_true, if_false]
    refine wpAny_bind (wpAny_of_eq f1 ?_)
    simp only [Bool.not_true, Bool.false_eq_true, if_false]
    refine wpAny_bind (m := someArgs "bool" 0 1 _) (wpAny_pure ?_)
    refine wpAny_bind (truthy_len X I hb hs hf (wpAny_mono h (fun r s' hr => ?_) fun _ _ y => y))
    obtain ⟨n, t, rfl, h0, h1, m, u, e, hq⟩ := hr
    cases e
    exact ⟨n, t, rfl, h0, h1, n, _, rfl, wpAny_pure ⟨_, rfl, hq⟩⟩
  · rintro obj s₁ ⟨b, rfl, hq⟩
    exact ⟨rfl, PySem.F.args_object_init_2 _ _, object_init_meets PySem.F.called_bool.init.lookup PySem.F.called_bool.made (by decide) prog w A.in1 _ s₁ ⟨rfl, rfl, hq⟩⟩
end
section
variable {X : Cx} {k : Nat} {f C : Addr} {sp : Sp}
/-- what the class at C has for len, bool, repr, == -/
structure LenC (K : PySem.W.Frag) (C f : Addr) : Prop where
  ln : findIn K (.ref C) "__len__" = some (some (.ref f))
  fn : isFn K (.ref f) = true
  bo : findIn K (.ref C) "__bool__" = some none
theorem cr_lenOwn (F : FnR X.prog X.w X.K X.mg X.base CX0 k f sp) (hr : Room (k + 1) X.A) (T : LenC X.K C f) :
    CallR X (.builtin "len") (fun xs H Q => ∃ (x dx : Addr) (fs : List (Str × V)), xs = [.ref x] ∧ H x = some (.ins C dx fs) ∧ sp [.ref x] H (fun v H' => ∃ n : Int, v = .int n ∧ 0 ≤ n ∧ n < 1000 ∧ Q v H') E0) := by
  intro pins s σ H xs us Q I r h
  obtain ⟨x, dx, fs, rfl, hx, q⟩ := h
  obtain ⟨u, rfl, r1⟩ := vals1 r
  obtain rfl : u = Value.ref x := r1
  obtain ⟨mA, O, _⟩ := ins_get I.hok hx
  obtain ⟨od, J, _⟩ := O.look
  have hr2 : Room k X.A.in1 := Room.in1 hr
  refine len_own I.kIn J T.ln T.fn (wpAny_call (codeAny_mono (F X.A.in1 X.stack s H [.ref x] [.ref x] _ _ hr2 I.env0.in1 (.cons rfl .nil) q) fun r s' hq => ?_))
  rcases r with er | (_ | _ | _ | u)
  · exact (show False from hq).elim
  · exact False.elim hq
  · exact False.elim hq
  · exact False.elim hq
  · obtain ⟨v, H', I', rv, n, rfl, n0, n1, q'⟩ := I.after hq
    obtain ⟨t, rfl⟩ := rv
    exact ⟨n, t, rfl, n0, n1, .int n, H', I'.tok _, ⟨_, rfl⟩, q'⟩
theorem cr_boolOwn (F : FnR X.prog X.w X.K X.mg X.base CX0 k f sp) (hr : Room (k + 3) X.A) (T : LenC X.K C f) :
    CallR X (.type "bool") (fun xs H Q => ∃ (x dx : Addr) (fs : List (Str × V)), xs = [.ref x] ∧ H x = some (.ins C dx fs) ∧ sp [.ref x] H (fun v H' => ∃ n : Int, v = .int n ∧ 0 ≤ n ∧ n < 1000 ∧ Q (.bl (n != 0)) H') E0) := by
  intro pins s σ H xs us Q I r h
  obtain ⟨x, dx, fs, rfl, hx, q⟩ := h
  obtain ⟨u, rfl, r1⟩ := vals1 r
  obtain rfl : u = Value.ref x := r1
  obtain ⟨mA, O, _⟩ := ins_get I.hok hx
  obtain ⟨od, J, _⟩ := O.look
  have hr2 : Room k X.A.in1.in1.in1 := Room.in1 (Room.in1 (Room.in1 hr))
  refine bool_own I.kIn J T.bo T.ln T.fn (wpAny_call (codeAny_mono (F X.A.in1.in1.in1 X.stack s H [.ref x] [.ref x] _ _ hr2 I.env0.in1.in1.in1 (.cons rfl .nil) q) fun r s' hq => ?_))
  rcases r with er | (_ | _ | _ | u)
  · exact (show False from hq).elim
  · exact False.elim hq
  · exact False.elim hq
  · exact False.elim hq
  · obtain ⟨v, H', I', rv, n, rfl, n0, n1, q'⟩ := I.after hq
    obtain ⟨t, rfl⟩ := rv
    exact ⟨n, t, rfl, n0, n1, n, _, rfl, .bl (n != 0), H', I'.tok _, rfl, q'⟩
theorem cr_reprOwn (F : FnR X.prog X.w X.K X.mg X.base CX0 k f sp) (hr : Room (k + 1) X.A) (T : RpC X.K C f) :
    CallR X (.builtin "repr") (fun xs H Q => ∃ (x dx : Addr) (fs : List (Str × V)), xs = [.ref x] ∧ H x = some (.ins C dx fs) ∧ sp [.ref x] H (fun v H' => ∃ z, v = .str z ∧ Q v H') E0) := by
  intro pins s σ H xs us Q I r h
  obtain ⟨x, dx, fs, rfl, hx, q⟩ := h
  obtain ⟨u, rfl, r1⟩ := vals1 r
  obtain rfl : u = Value.ref x := r1
  obtain ⟨mA, O, _⟩ := ins_get I.hok hx
  obtain ⟨od, J, _⟩ := O.look
  have hr2 : Room k X.A.in1 := Room.in1 hr
  refine repr_call hr2.units0 I.kIn J T.rp T.fn (wpAny_call (codeAny_mono (F X.A.in1 X.stack s H [.ref x] [.ref x] _ _ hr2 I.env0.in1 (.cons rfl .nil) q) fun r s' hq => ?_))
  rcases r with er | (_ | _ | _ | u)
  · exact (show False from hq).elim
  · exact False.elim hq
  · exact False.elim hq
  · exact False.elim hq
  · obtain ⟨v, H', I', rv, z, rfl, q'⟩ := I.after hq
    obtain ⟨t, rfl⟩ := rv
    exact ⟨z, t, rfl, fun t' => ⟨.str z, H', I', ⟨t', rfl⟩, q'⟩⟩
theorem op_eqOwnS (F : FnR X.prog X.w X.K X.mg X.base CX0 k f sp) (hr : Room k X.A) (T : CmpC X.K C f) (hsub : subIn X.K (.type "str") (.ref C) = some false) :
    OpR X (compareOp .Eq) (fun x y H Q => ∃ (a dx : Addr) (fs : List (Str × V)) (z : Str), x = .ref a ∧ y = .str z ∧ H a = some (.ins C dx fs) ∧ sp [.ref a, .str z] H (fun v H' => ∃ r, v = .bl r ∧ Q v H') E0) := by
  intro pins s σ H x y v u Q I rx ry h
  obtain ⟨a, dx, fs, z, rfl, rfl, ha, q⟩ := h
  obtain rfl : v = Value.ref a := rx
  obtain ⟨tz, rfl⟩ := ry
  obtain ⟨mA, O, _⟩ := ins_get I.hok ha
  obtain ⟨od, J, _⟩ := O.look
  refine rc_eqS I.kIn J hr.units0 hsub T.eq T.fn (wpAny_call (codeAny_mono (F X.A X.stack s H [.ref a, .str z tz] [.ref a, .str z] _ _ hr I.env0 (.cons rfl (.cons ⟨_, rfl⟩ .nil)) q) fun r s' hq => ?_))
  rcases r with er | (_ | _ | _ | u)
  · exact (show False from hq).elim
  · exact False.elim hq
  · exact False.elim hq
  · exact False.elim hq
  · obtain ⟨v, H', I', rv, r, rfl, q'⟩ := I.after hq
    obtain rfl : u = Value.bool r := rv
    exact ⟨r, rfl, .bl r, H', I', rfl, q'⟩
end
section
variable {X : Cx} {CX : CXT} {k : Nat} {C g : Addr} {sp : Sp} {E : XK} {o e : Expr} {m : Str} {pos apos kpos : Pos} {ta te : TE} {pl : Sem Bool}
def tMethK (C : Addr) (m : Str) (sp : Sp) (E : XK) (ta te : TE) : TE := fun σ H Q => ta σ H fun y H1 => ∃ (a dx : Addr) (fs : List (Str × V)), y = .ref a ∧ H1 a = some (.ins C dx fs) ∧ fs.lookup m = none ∧ te σ H1 fun v H2 => ∃ v', [v] = [v'] ∧ sp [.ref a, v'] H2 Q E
/-- o.m(f=e), o an instance -/
theorem pe_methK {fd : FuncData} {f sf : Str} (he : PE X o ta) (c : Cls X.K C) (hm : Meth X.K C m g) (F : FnOk X.prog X.w X.K X.mg X.base CX k g fd [sf, f] sp) (hr : Room k X.A) (hb : ∀ (s : Shared) (v u : Value), BindsTo s fd ⟨[v], [(f, u)]⟩ [(sf, v), (f, u)]) (hx : Passes CX X E) (ha : PE X e te)
    (ht : eval (.Call (.Attribute o m apos) [] [⟨some f, e, kpos⟩] pos) X.env = (do
      let v ← eval o X.env
      standAt apos.atName
      let (fn, pre) ← holding [v] (getMethod v m pl)
      callWith pos fn pre (backTo pos (starEach [] X.env)) (backToKw pos (keywordEach [⟨some f, e, kpos⟩] X.env))) := by rfl) :
    PE X (.Call (.Attribute o m apos) [] [⟨some f, e, kpos⟩] pos) (tMethK C m sp E ta te) := by
  constructor
  intro pins s σ H Q I h
  refine PySem.W.methodCall_KW (pl := pl) (thn (he.run pins s σ H _ I h) fun u s1 ⟨y, H1, I1, ry, a, dx, fs, ey, ea, l, q⟩ => ?_) ht
  subst ey
  obtain rfl : u = Value.ref a := ry
  refine getmeth_ok I1 ea c hm l ?_
  refine PySem.W.callWith_KW0 (first := [.ref a]) (h₀ := X.base) I1.ok.mod.kin hm.kp rfl ?_
  have hk : PK X [⟨some f, e, kpos⟩] (tCons te tNil) := pk_cons ha pk_nil
  refine thn (hk.run pos pins s1 σ H1 (fun zs H2 => ∃ v, zs = [v] ∧ sp [.ref a, v] H2 Q E) I1 ?_) ?_
  · exact q
  · intro us s3 ⟨zs, H2, I3, r1, v, ez, q2⟩
    subst ez
    refine ⟨I3.kIn, ?_⟩
    cases r1 with
    | cons rv rr =>
      cases rr
      rename_i u
      show wpAny _ _ (call (.ref g) [.ref a] [(f, u)]) _ _ _
      refine wpAny_call (codeAny_mono (F.run X.A X.stack s3 H2 ⟨[.ref a], [(f, u)]⟩ [.ref a, u] [.ref a, v] Q E hr I3.env0 (hb s3 (.ref a) u) (.cons rfl (.cons rv .nil)) q2) fun r s' hq => ?_)
      cases r with
      | error e => exact hx pins σ H2 s3 e s' I3 hq
      | ok fl => cases fl with
        | ret u => exact I3.after hq
        | next => exact False.elim hq
        | brk => exact False.elim hq
        | cont => exact False.elim hq
end
end SQ
namespace SQ4
open PySem L2 SQ
/-! ### rows of tokens -/
abbrev sRw : Stmt := top 46
abbrev sQx : Stmt := top 47
abbrev sQu : Stmt := top 48
abbrev sSp : Stmt := top 49
/-- tokens: not empty, without a space -/
def Tk (t : Str) : Prop := t ≠ "" ∧ (32 : Nat) ∉ t.cps.toList ∧ t.length ≤ 1000
def jt (ts : List Str) : Str := Txt.join " " ts
theorem jt_eq (ts : List Str) : jt ts = Str.join " " ts := StrLaws.glued_eq_join " " ts
def qtext (x : Str) : Str := if x = "" then "[ ]" else Str.empty ++ "[ " ++ x ++ " ]"
theorem Paired.at {α β : Type} {F : α → β → Prop} : ∀ {l : List α} {m : List β} {i : Nat} {x : α}, Paired F l m → l[i]? = some x → ∃ y, m[i]? = some y ∧ F x y
  | _, _, i, x, .nil, h => by simp at h
  | _, _, 0, x, .cons r t, h => by
    simp at h
    subst h
    exact ⟨_, rfl, r⟩
  | _, _, i + 1, x, .cons r t, h => by
    rw [List.getElem?_cons_succ] at h
    obtain ⟨y, h1, h2⟩ := Paired.at t h
    exact ⟨y, by rw [List.getElem?_cons_succ]; exact h1, h2⟩
/-- the words at ws have the texts xs -/
def Rw (H : Hp) (ws : List V) (xs : List Str) : Prop := Paired (fun w x => ∃ (t : Addr) (k d : V), w = V.ref t ∧ H t = some (.tup [k, .str x, d])) ws xs
theorem Rw.same {H H' : Hp} {ws : List V} {xs : List Str} (s : Same H H') (h : Rw H ws xs) : Rw H' ws xs := Paired.mapP h fun _ _ ⟨t, k, d, e1, e2⟩ => ⟨t, k, d, e1, s _ _ e2⟩
theorem Rw.put {D : Addr} {H : Hp} {ws ys zs : List V} {xs : List Str} (hD : H D = some (.lst ys)) (h : Rw H ws xs) : Rw (upd H D (.lst zs)) ws xs :=
  Paired.mapP h fun _ _ ⟨t, k, d, e1, e2⟩ => ⟨t, k, d, e1, by rw [upd_ne (ne_of e2 hD (by intro z; cases z))]; exact e2⟩
theorem Rw.snoc {H : Hp} : ∀ {ws : List V} {xs : List Str} {v : V} {x : Str}, Rw H ws xs → (∃ (t : Addr) (k d : V), v = V.ref t ∧ H t = some (.tup [k, .str x, d])) → Rw H (ws ++ [v]) (xs ++ [x])
  | _, _, _, _, .nil, h => .cons h .nil
  | _, _, _, _, .cons r t, h => .cons r (Rw.snoc t h)
theorem Rw.len {H : Hp} {ws : List V} {xs : List Str} (h : Rw H ws xs) : ws.length = xs.length := Paired.length h
structure W6 (mg : Str → Option Value) : Prop where
  quo : ∃ t, mg "QUOTATION" = some (.str "quotation" t)
  unk : ∃ t, mg "UNKNOWN" = some (.str "unknown" t)
  lit : ∃ t, mg "LITERAL" = some (.str "literal" t)
  fig : ∃ t, mg "FIGURES" = some (.str "0123456789" t)
  mfg : ∃ t, mg "MOST_FIGURES" = some (.int 18 t)
  msz : ∃ t, mg "MOST_SIZE" = some (.int 60 t)
  mnd : ∃ t, mg "MOST_NESTED" = some (.int 6 t)
section
variable {P : Program} {w : World} {K : PySem.W.Frag} {mg : Str → Option Value} {base : Heap}
def spRwT (K : PySem.W.Frag) : Sp := fun vs H Q _ => ∃ (p : Addr) (l : List Str), vs = [.ref p] ∧ (SqL K H p (l.map V.str) ∨ SqT K H p (l.map V.str)) ∧ (l.map (·.length)).sum + l.length ≤ 16777216 ∧ Q (.str (jt l)) H
theorem scRw : FnScope ["texts"] ["texts"] (defScope sRw) := ⟨rfl, rfl, rfl, by decide +kernel, rfl, by decide +kernel, by decide +kernel⟩
theorem ok_rwt {f : Addr} {fd : FuncData} (F : Fun K "row_text" "row_text" sRw f fd) : FnOk P w K mg base CX0 1 f fd ["texts"] (spRwT K) := by
  refine F.ok scRw (fun vs H Q E h => ?_) (fun cdv A outer s H vs Q E hr h => ?_)
  · obtain ⟨p, l, rfl, _⟩ := h
    rfl
  · obtain ⟨p, l, rfl, hp, hz, q⟩ := h
    refine ⟨_, pss_one (ps_ret (pe_join pe_str (pv 0))), ?_⟩
    refine ⟨⟨_, rfl⟩, _, rfl, _, p, l, rfl, rfl, hp, ?_, q⟩
    show _ + l.length * 1 ≤ _
    omega
def spQx : Sp := fun vs H Q _ => ∃ x : Str, vs = [.str x] ∧ x.length ≤ 10000 ∧ Q (.str (qtext x)) H
theorem scQx : FnScope ["text"] ["text"] (defScope sQx) := ⟨rfl, rfl, rfl, by decide +kernel, rfl, by decide +kernel, by decide +kernel⟩
theorem ok_qx {f : Addr} {fd : FuncData} (F : Fun K "quotation_text" "quotation_text" sQx f fd) : FnOk P w K mg base CX0 1 f fd ["text"] spQx := by
  refine F.ok scQx (fun vs H Q E h => ?_) (fun cdv A outer s H vs Q E hr h => ?_)
  · obtain ⟨x, rfl, _⟩ := h
    rfl
  · obtain ⟨x, rfl, hx, q⟩ := h
    have line : ∀ {n : Nat}, n ≤ 20000 → n ≤ sizeLine := fun h => Nat.le_trans h (by decide)
    refine ⟨_, pss_one (ps_ret (pe_ifExp (pt_truth (pv 0) (by intro _; rfl)) (pe_joined (.cons pe_str (.cons (pe_fmt (pv 0)) (.cons pe_str .nil)))) pe_str)), ?_⟩
    refine ⟨_, rfl, _, ⟨line (by omega), rfl⟩, ?_⟩
    by_cases h0 : x = ""
    · subst h0
      exact iteF q
    · have hl : ((x.length : Int) != 0) = true := by
        rw [bne_iff_ne]
        intro e0
        have e : x.length = 0 := by omega
        refine h0 (str_ext ?_)
        have : x.cps.toList.length = 0 := by simpa [Str.length] using e
        rw [List.length_eq_zero_iff.mp this]
        rfl
      rw [hl]
      refine iteT ?_
      have l1 : (Str.empty ++ ("[ " : Str)).length = 2 := by decide
      have l2 : (" ]" : Str).length = 2 := rfl
      have e : qtext x = Str.empty ++ "[ " ++ x ++ " ]" := if_neg h0
      rw [e] at q
      refine ⟨_, rfl, by rw [l1]; exact line (by decide), _, rfl, .inl ⟨x, rfl, line (by omega), _, rfl, ?_, _, rfl, ?_, q⟩⟩
      · rw [len_app, l1]
        exact line (by omega)
      · rw [len_app, len_app, l1, l2]
        exact line (by omega)
theorem scSp : FnScope ["text"] ["text"] (defScope sSp) := ⟨rfl, rfl, rfl, by decide +kernel, rfl, by decide +kernel, by decide +kernel⟩
end
end SQ4
namespace SQ4
open PySem L2 SQ
abbrev sLi : Stmt := top 43
abbrev sWd : Stmt := top 45
abbrev sAri : Stmt := inClass (top 32) 2
theorem ixT {X : Cx} {K : PySem.W.Frag} (h : X.K = K) : IxR X (rIxT K) := by
  subst h
  exact ix_tup
section
variable {P : Program} {w : World} {K : PySem.W.Frag} {mg : Str → Option Value} {base : Heap} {C tC : Addr}
/-! ### quote -/
def spQu : Sp := fun vs H Q _ => ∃ (r : Addr) (ws : List V) (xs : List Str), vs = [.ref r] ∧ H r = some (.tup ws) ∧ Rw H ws xs ∧ xs.length ≤ 900 ∧ (xs.map (·.length)).sum ≤ 9000 ∧ (jt xs).length ≤ 10000 ∧
  ∀ (t : Addr) (H' : Hp), Same H H' → H t = none → H' t = some (.tup [.str "quotation", .str (qtext (jt xs)), .ref r]) → Q (.ref t) H'
theorem scQu : FnScope ["row", "word"] ["row"] (defScope sQu) := ⟨rfl, rfl, rfl, by decide +kernel, rfl, by decide +kernel, by decide +kernel⟩
theorem ok_qu {f fR fQ : Addr} {fd dR dQ : FuncData} (F : Fun K "quote" "quote" sQu f fd) (W : W6 mg) (gR : mg "row_text" = some (.ref fR)) (FR : Fun K "row_text" "row_text" sRw fR dR) (bR : Binds K dR ["texts"] []) (gQ : mg "quotation_text" = some (.ref fQ)) (FQ : Fun K "quotation_text" "quotation_text" sQx fQ dQ) (bQ : Binds K dQ ["text"] []) :
    FnOk P w K mg base CX0 2 f fd ["row"] spQu := by
  have GR : FnOk P w K mg base CX0 1 fR dR ["texts"] (spRwT K) := ok_rwt FR
  have GQ : FnOk P w K mg base CX0 1 fQ dQ ["text"] spQx := ok_qx FQ
  refine F.ok scQu (fun vs H Q E h => ?_) (fun cdv A outer s H vs Q E hr h => ?_)
  · obtain ⟨r, ws, xs, rfl, _⟩ := h
    rfl
  · obtain ⟨r, ws, xs, rfl, hr', hw, h5, h9, hj, q⟩ := h
    obtain ⟨tq, gq⟩ := W.quo
    refine ⟨_, pss_one (ps_ret (pe_tup (pa_cons (pe_glob (v := .str "quotation") rfl gq ⟨_, rfl⟩) (pa_cons (pe_call GQ hr rfl gQ FQ.kp bQ .nil pass0 (pa_cons (pe_call GR hr rfl gR FR.kp bR .nil pass0 (pa_cons
      (pe_lc (own := [("word", 1)]) (g := gName 1) (tt := tYes) rfl scQu.nd (pi_tup (pv 0)) (blkOk_by (N := ["row", "word"]) (sc := defScope sQu) (by decide +kernel)) (fun _ _ _ _ _ => pg_name (i := 1) scQu.nd rfl (.inl rfl)) (fun _ _ _ _ _ => pts_nil) (fun _ _ _ _ _ => pe_ix (ixT (K := K) rfl) (pv 1) pe_int (fun _ _ => rfl))) pa_nil)) pa_nil)) (pa_cons (pv 0) pa_nil))))), ?_⟩
    refine ⟨_, rfl, r, rfl, ⟨_, SqT.of hr'⟩, fun D nD => ?_⟩
    refine lc_tup (K := K) (a := r) (xs := ws) (fun i G => Same H G ∧ G D = some (.lst ((xs.take i).map V.str))) ⟨same_new (fun _ _ e => e) nD, upd_same⟩ (fun i G _ h => SqT.of (h.1 _ _ hr')) ?_ ?_
    · rintro i v G hi ⟨s1, hD⟩
      obtain ⟨x, hx, t, k, d, rfl, e2⟩ := Paired.at (F := _) hw hi
      have hl : (xs.take i).length ≤ 900 := by rw [List.length_take]; omega
      refine ⟨rfl, keptT ⟨_, rfl, t, _, 1, _, rfl, rfl, SqT.of (s1 _ _ e2), rfl, _, hD, small1000 (by rw [List.length_map]; omega), ?_, ?_⟩⟩
      · intro b ob e
        rw [upd_ne (ne_of_none e nD)]
        exact s1 _ _ e
      · rw [upd_same, take_more hx, List.map_append]
        rfl
    · rintro G ⟨s1, hD⟩
      have hl : ws.length = xs.length := hw.len
      rw [hl, List.take_length] at hD
      refine ⟨D, xs, rfl, .inl (SqL.of hD), by omega, ?_⟩
      refine ⟨_, rfl, hj, _, rfl, (by show 3 ≤ sizeLine; decide), fun t nt => ?_⟩
      exact q t _ (st s1 (same_new (fun _ _ e => e) nt)) (s1.free nt) upd_same
/-! ### Vocabulary.arity of a name -/
def spAri (C : Addr) : Sp := fun vs H Q _ => ∃ (a : Addr) (gs : List G3) (ys : List Str) (n : Str), vs = [.ref a, .str n] ∧ Vc C H a gs ys ∧ n ∈ gnames gs ∧ ∀ t, H t = some (.tup [.int (arOf gs n).1, .int (arOf gs n).2]) → Q (.ref t) H
theorem scAri : FnScope ["self", "name"] ["self", "name"] (defScope sAri) := ⟨rfl, rfl, rfl, by decide +kernel, rfl, by decide +kernel, by decide +kernel⟩
theorem ok_ari {f : Addr} {fd : FuncData} (F : Fun K "arity" "Vocabulary.arity" sAri f fd) (B : B2 mg) (VV : VC K mg C) : FnOk P w K mg base CX0 2 f fd ["self", "name"] (spAri C) := by
  refine F.ok scAri (fun vs H Q E h => ?_) (fun cdv A outer s H vs Q E hr h => ?_)
  · obtain ⟨a, gs, ys, n, rfl, _⟩ := h
    rfl
  · obtain ⟨a, gs, ys, n, rfl, ⟨dx, dA, tN, kvs, ha, hN, hA, hk⟩, hn, q⟩ := h
    have hu := hu_of hr
    refine ⟨_, pss_cons (ps_if (PW.pt (pw_or (pt_not (pt_val (pe_callB call_isi (by rfl) B.isi (by decide +kernel) (pa_cons (pv 1) (pa_cons (pe_bltn (v := .ty "str") (by rfl) B.str (by decide +kernel) rfl) pa_nil)))))
        (pw_or1 (pt_cmp (pc_dnotin hu (pv 1) (pe_fld (pv 0) rfl)))))) (pss_one ps_never) pss_nil)
      (pss_one (ps_ret (pe_dget hu (pe_fld (pv 0) rfl) (pv 1) (fun _ _ => rfl)))), ?_⟩
    obtain ⟨t, v1, v2⟩ := hk.at hn
    refine ⟨_, rfl, .str n, .ty "str", .type "str", .type "str", true, rfl, .ty "str", .base (.str n), kit_ty (by decide +kernel), _, rfl, iteF ?_⟩
    refine ⟨_, rfl, _, rfl, a, C, dx, _, _, rfl, ha, VV.cl, VV.nA, rfl, dA, _, rfl, DGet.k (k := Sum.inr n) hA, _, rfl, ?_⟩
    rw [v1]
    refine iteF ⟨_, rfl, a, C, dx, _, _, rfl, ha, VV.cl, VV.nA, rfl, _, rfl, dA, .ref t, rfl, ?_, q t v2⟩
    rw [← v1]
    exact DGet.k (k := Sum.inr n) hA
end
end SQ4
namespace SQ4
open PySem L2 SQ
theorem itYg {c A B : Prop} [Decidable c] (hc : c) (h : A) : if decide c = true then A else B := by
  rw [if_pos (decide_eq_true hc)]
  exact h
theorem itNg {c A B : Prop} [Decidable c] (hc : ¬ c) (h : B) : if decide c = true then A else B := by
  rw [decide_eq_false hc]
  exact iteF h
/-- the signs from 0 to 9 -/
def figsG : List Nat := [48, 49, 50, 51, 52, 53, 54, 55, 56, 57]
/-- what is_literal looks at: the token behind its minus -/
def figOf (x : Str) : Str := if Txt.startswith x "-" = true then cutS x (some 1) none else x
theorem figOf_len (x : Str) : (figOf x).length ≤ x.length := by
  unfold figOf
  split
  · exact cutS_length x _ _
  · exact Nat.le_refl _
/-- is it an integer as a program writes it -/
def isLit (x : Str) : Bool :=
  decide (1 ≤ (figOf x).length) && decide ((figOf x).length ≤ 18) && ((figOf x).cps.toList.all fun c => decide (c ∈ figsG)) && (decide (x = "0") || !Txt.startswith (figOf x) "0")
theorem pickFig {x : Str} {H : Hp} {Kk : VK} (hx : x.length ≤ sizeLine) (h : Kk (.str (figOf x)) H) :
    if Txt.startswith x "-" = true then tSl rSlS (tVar 0) (tPart (tC (.int 1))) tNoPart (L2.start ["token", "figures", "figure"] [.str x]) H Kk
    else tVar 0 (L2.start ["token", "figures", "figure"] [.str x]) H Kk := by
  unfold figOf at h
  split
  · rename_i hs
    rw [if_pos hs] at h
    refine ⟨_, rfl, ⟨_, rfl, x, rfl, hx, h⟩⟩
  · rename_i hs
    rw [if_neg hs] at h
    exact ⟨_, rfl, h⟩
section
variable {P : Program} {w : World} {K : PySem.W.Frag} {mg : Str → Option Value} {base : Heap}
/-! ### is_literal of any token -/
def spLiG : Sp := fun vs H Q _ => ∃ x : Str, vs = [.str x] ∧ x.length ≤ sizeLine ∧ ∀ H', Same H H' → Q (.bl (isLit x)) H'
theorem scLiG : FnScope ["token", "figures", "figure"] ["token"] (defScope sLi) := ⟨rfl, rfl, rfl, by decide +kernel, rfl, by decide +kernel, by decide +kernel⟩
theorem ok_liG {f : Addr} {fd : FuncData} (F : Fun K "is_literal" "is_literal" sLi f fd) (B : B2 mg) (W : W6 mg) : FnOk P w K mg base CX0 1 f fd ["token"] spLiG := by
  refine F.ok scLiG (fun vs H Q E h => ?_) (fun cdv A outer s H vs Q E hr h => ?_)
  · obtain ⟨x, rfl, _⟩ := h
    rfl
  · obtain ⟨x, rfl, hx, q⟩ := h
    obtain ⟨t1, g1⟩ := W.fig
    obtain ⟨t2, g2⟩ := W.mfg
    refine ⟨_, pss_cons (ps_set (i := 1) scLiG.nd rfl (.inl rfl) (pe_ifExp (pt_val (pe_m1 PySem.F.slot_str_startswith PySem.F.type_str_startswith mt_startswith (pv 0) pe_str)) (pe_slice sl_str (pv 0) (po_some pe_int) po_none) (pv 0)))
      (pss_cons (ps_if (pt_not (pt_chain op_le op_le pe_int (pe_callB call_len_str (by rfl) B.len PySem.boot_len (pa_cons (pv 1) pa_nil)) (pe_glob (v := .int 18) rfl g2 ⟨_, rfl⟩))) (pss_one (ps_ret pe_bl)) pss_nil)
      (pss_cons (ps_if (pt_not (pt_val (pe_callB (cr_all rfl) (by rfl) B.all (by decide +kernel) (pa_cons (pe_lc (own := [("figure", 2)]) (g := gName 2) (tt := tYes) rfl scLiG.nd (pi_str (pv 1)) (blkOk_by (N := ["token", "figures", "figure"]) (sc := defScope sLi) (by decide +kernel)) (fun _ _ _ _ _ => pg_name (i := 2) scLiG.nd rfl (.inl rfl)) (fun _ _ _ _ _ => pts_nil)
          (fun _ _ _ _ _ => pe_cmpR op_in_sign (pv 2) (pe_glob (v := .str "0123456789") rfl g1 ⟨_, rfl⟩) rfl)) pa_nil)))) (pss_one (ps_ret pe_bl)) pss_nil)
      (pss_one (ps_ret (pe_or (pe_cmpR op_eq (pv 0) pe_str (by rfl)) (pe_one (pe_not (pe_m1 PySem.F.slot_str_startswith PySem.F.type_str_startswith mt_startswith (pv 1) pe_str)))))))), ?_⟩
    refine ⟨_, rfl, ⟨_, rfl⟩, _, _, rfl, rfl, _, rfl, ?_⟩
    refine pickFig hx ?_
    have hz : (figOf x).length ≤ sizeLine := Nat.le_trans (figOf_len x) hx
    generalize fe : figOf x = z at hz
    have lit : isLit x = (decide (1 ≤ z.length) && decide (z.length ≤ 18) && (z.cps.toList.all fun c => decide (c ∈ figsG)) && (decide (x = "0") || !Txt.startswith z "0")) := by
      unfold isLit
      rw [fe]
    refine ⟨_, rfl, _, rfl, hz, _, _, rfl, rfl, ?_⟩
    refine ⟨_, rfl, ?_⟩
    by_cases h1 : 1 ≤ z.length
    case neg =>
      refine itNg (fun h => h1 (by omega)) ⟨_, rfl, ?_⟩
      have e : isLit x = false := by
        rw [lit, decide_eq_false h1]
        rfl
      have q' := q H (Same.refl H)
      rw [e] at q'
      exact iteT q'
    refine itYg (by omega) ⟨_, _, rfl, rfl, _, rfl, ?_⟩
    by_cases h2 : z.length ≤ 18
    case neg =>
      rw [decide_eq_false (show ¬ ((z.length : Nat) : Int) ≤ 18 by omega)]
      have e : isLit x = false := by
        rw [lit, decide_eq_false h2, Bool.and_false]
        rfl
      have q' := q H (Same.refl H)
      rw [e] at q'
      exact iteT q'
    rw [decide_eq_true (show ((z.length : Nat) : Int) ≤ 18 by omega)]
    refine iteF ?_
    refine ⟨_, rfl, z, rfl, fun D hD => ?_⟩
    have zl : z.cps.toList.length ≤ 18 := by simpa [Str.length] using h2
    refine lc_it (walk_str (z := z)) (fun i H2 => H2 = upd H D (.lst (((z.cps.toList.take i).map fun c => decide (c ∈ figsG)).map V.bl))) rfl (fun _ _ _ _ => trivial) ?_ ?_
    · rintro i v H2 H3 hi rfl ⟨rfl, c, hc, rfl⟩
      refine ⟨rfl, keptT ⟨_, rfl, c, _, rfl, rfl, _, upd_same, small1000 ?_, ?_⟩⟩
      · rw [List.length_map, List.length_map, List.length_take]
        omega
      · have e1 : (("0123456789" : Str).cps.toList) = figsG := by decide +kernel
        have e2 : z.cps.toList.take (i + 1) = z.cps.toList.take i ++ [c] := by
          rw [List.take_add_one]
          have : z.cps.toList[i]? = some c := by simpa using hc
          rw [this]
          rfl
        rw [upd_upd, e1, e2, List.map_append, List.map_append]
        rfl
    · rintro H2 rfl
      refine ⟨D, _, rfl, SqL.of upd_same, ?_⟩
      have ea : ((z.cps.toList.take z.cps.size).map fun c => decide (c ∈ figsG)).all id = z.cps.toList.all fun c => decide (c ∈ figsG) := by
        rw [List.take_of_length_le (by simp), List.all_map]
        rfl
      rw [ea]
      have sm : Same H (upd H D (.lst (((z.cps.toList.take z.cps.size).map fun c => decide (c ∈ figsG)).map V.bl))) := same_new (fun _ _ e => e) hD
      cases ha : z.cps.toList.all fun c => decide (c ∈ figsG)
      · have e : isLit x = false := by
          rw [lit, ha, Bool.and_false]
          rfl
        have q' := q _ sm
        rw [e] at q'
        exact ⟨_, rfl, iteT q'⟩
      have e : isLit x = (decide (x = "0") || !Txt.startswith z "0") := by
        rw [lit, ha, decide_eq_true h1, decide_eq_true h2]
        rfl
      refine ⟨_, rfl, iteF ?_⟩
      rw [e] at q
      refine ⟨_, rfl, rfl, _, rfl, ?_⟩
      by_cases hx0 : x = "0"
      · rw [decide_eq_true hx0] at q
        refine itYg (by rw [hx0]) ?_
        exact q _ sm
      · rw [decide_eq_false hx0] at q
        refine itNg (fun h => hx0 (V.str.inj h)) ⟨_, rfl, ⟨_, rfl⟩, _, _, rfl, rfl, _, rfl, ?_⟩
        exact q _ sm
end
end SQ4
/-! Sets of texts: set(a list of texts), sorted(such a set). -/
namespace SQ
open PySem PySem.Spec PyProof.Rows L2
/-- the text that a member is -/
def txK (e : Int × Value) : Str := match e.2 with
  | .str x _ => x
  | _ => ""
def IsTx (e : Int × Value) : Prop := ∃ x t, e.2 = Value.str x t
/-- the table of such a set can be walked -/
structure TxW (w : World) (D : Froz.SD) (l : List Str) : Prop where
  tx : ∀ e ∈ D.1.toList, IsTx e
  pm : (D.1.toList.map txK).Perm l
  nd : l.Nodup
  ris : Ris D.2.2.place.toList
  led : w.params.followText "set-order" = true ∨ D.2.2.led = true
theorem txw_tail {w : World} {ep : Nat} {es1 : Array (Int × Value)} {t2 : SetTable} {wd : Bool} {l : List Str} (W : TxW w (es1, ep, t2) l) : TxW w (Froz.tailTx ep es1 t2 wd) l := by
  unfold Froz.tailTx
  by_cases c : (!wd && t2.tooFull) = true
  · rw [if_pos c]
    have p := relayAll_perm t2 es1 (SetTable.grown es1.size)
    exact ⟨fun e he => W.tx e (p.mem_iff.mp he), (p.map txK).trans W.pm, W.nd, relayAll_ris t2 es1 _, W.led.imp id fun z => (relayAll_led t2 es1 _).trans z⟩
  · rw [if_neg c]
    exact ⟨W.tx, W.pm, W.nd, W.ris, W.led⟩
theorem txw_add {w : World} {D : Froz.SD} {l : List Str} {k : Str} (u : Tok) (W : TxW w D l) (hk : k ∉ l) : TxW w (Froz.addTx (hashStr w k) (.str k u) D) (k :: l) := by
  obtain ⟨es, ep, t⟩ := D
  have p := layNew_perm t es (hashStr w k) (.str k u)
  have r := layNew_ris t es (hashStr w k) (.str k u) W.ris
  have d := layNew_led t es (hashStr w k) (.str k u)
  rw [Array.toList_push] at p
  have q := p.trans (List.perm_append_singleton (hashStr w k, Value.str k u) es.toList)
  refine txw_tail ⟨fun e he => ?_, (q.map txK).trans (W.pm.cons k), List.nodup_cons.mpr ⟨hk, W.nd⟩, ?_, ?_⟩
  · rcases List.mem_cons.mp (q.mem_iff.mp he) with z | z
    · exact ⟨k, u, by rw [z]⟩
    · exact W.tx e z
  · show Ris (if (layNew t es (hashStr w k) (.str k u)).2.1.plain = true then _ else _ : SetTable).place.toList
    split <;> exact r
  · refine W.led.imp id fun z => ?_
    show (if (layNew t es (hashStr w k) (.str k u)).2.1.plain = true then _ else _ : SetTable).led = true
    split <;> exact d.trans z
/-- the set of the texts l at a -/
def SetS (P : Program) (w : World) (h : Heap) (a : Addr) (l : List Str) : Prop := ∃ D, h.get? a = some (Froz.sObj "set" D) ∧ Froz.TxOk P w D l ∧ TxW w D l
theorem SetS.at {P : Program} {w : World} {h h' : Heap} {a : Addr} {l : List Str} (R : SetS P w h a l) (k : ∀ o, h.get? a = some o → h'.get? a = some o) : SetS P w h' a l := by
  obtain ⟨D, e, r⟩ := R
  exact ⟨D, k _ e, r⟩
/-- one more -/
def one_more (l : List Str) (k : Str) : List Str := if k ∈ l then l else k :: l
def uniq (xs : List Str) : List Str := xs.foldl one_more []
theorem fold_mem (k : Str) : ∀ (xs l : List Str), k ∈ xs.foldl one_more l ↔ k ∈ l ∨ k ∈ xs
  | [], l => by simp
  | x :: xs, l => by
    rw [List.foldl_cons, fold_mem k xs]
    unfold one_more
    by_cases h : x ∈ l
    · rw [if_pos h, List.mem_cons]
      constructor
      · exact fun z => z.elim .inl fun y => .inr (.inr y)
      · rintro (z | z | z)
        · exact .inl z
        · exact .inl (z ▸ h)
        · exact .inr z
    · rw [if_neg h, List.mem_cons, List.mem_cons]
      constructor
      · rintro ((z | z) | z)
        · exact .inr (.inl z)
        · exact .inl z
        · exact .inr (.inr z)
      · rintro (z | z | z)
        · exact .inl (.inr z)
        · exact .inl (.inl z)
        · exact .inr z
theorem uniq_mem {k : Str} {xs : List Str} : k ∈ uniq xs ↔ k ∈ xs := by
  unfold uniq
  rw [fold_mem]
  simp
theorem fold_nd : ∀ (xs l : List Str), l.Nodup → (xs.foldl one_more l).Nodup
  | [], l, h => h
  | x :: xs, l, h => by
    rw [List.foldl_cons]
    refine fold_nd xs _ ?_
    unfold one_more
    by_cases z : x ∈ l
    · rw [if_pos z]
      exact h
    · rw [if_neg z]
      exact List.nodup_cons.mpr ⟨z, h⟩
theorem uniq_nd (xs : List Str) : (uniq xs).Nodup := fold_nd xs [] List.nodup_nil
theorem fold_len : ∀ (xs l : List Str), (xs.foldl one_more l).length ≤ l.length + xs.length
  | [], l => by simp
  | x :: xs, l => by
    rw [List.foldl_cons]
    have h := fold_len xs (one_more l x)
    have h2 : (one_more l x).length ≤ l.length + 1 := by
      unfold one_more
      split
      · omega
      · simp
    rw [List.length_cons]
    omega
theorem uniq_len (xs : List Str) : (uniq xs).length ≤ xs.length := by
  have h := fold_len xs []
  simpa [uniq] using h
theorem uniq_take {xs : List Str} {i : Nat} {k : Str} (h : xs[i]? = some k) : uniq (xs.take (i + 1)) = one_more (uniq (xs.take i)) k := by
  unfold uniq
  rw [List.take_add_one, h, List.foldl_append]
  rfl
section
variable {P : Program} {w : World} {A : Around} {E : Value → Shared → Prop} {s : Shared} {a : Addr} {l : List Str}
theorem setS_there {k : Str} {u : Tok} {Q : Bool → Shared → Prop} (R : SetS P w s.heap a l) (hk : k ∈ l) (room : l.length < scanBound) (h : Q false s) : wpAny (model P w) A (setAddHashed a (.str k u) (hashStr w k)) Q E s := by
  obtain ⟨⟨es, ep, t⟩, ho, F, W⟩ := R
  have hd : (Froz.sObj "set" (es, ep, t)).data = .set es ep t := rfl
  have hel : ElemsOf (PySem.strKind P w) es.toList := F.el
  have hsz : es.size = l.length := F.sz
  obtain ⟨e0, m0, z0⟩ := (F.mem k).mp hk
  unfold setAddHashed setAddHashedIn
  refine wpAny_holding (wpAny_bind (wpAny_setState_of ho hd F.fit ?_))
  dsimp only
  rw [byScan_of rfl (by rw [hsz]; exact room) hel]
  simp only [↓reduceIte]
  unfold setAddByScan
  refine wpAny_bind (wpAny_bind (wpAny_rule (wpAny_bind (wpAny_setScan_of (knd := PySem.strKind P w) (k := k) (Froz.is_str k u) ho hd F.fit hel ?_))))
  cases hf : List.findIdx? (fun e => (PySem.strKind P w).is k e.2) es.toList with
  | none =>
    have c := List.findIdx?_eq_none_iff.mp hf e0 m0
    rw [z0] at c
    cases c
  | some j =>
    dsimp only
    exact wpAny_pure (wpAny_pure h)
theorem setS_add {k : Str} {u : Tok} {Q : Bool → Shared → Prop} (R : SetS P w s.heap a l) (room : l.length + 1 < scanBound)
    (h : ∀ b h', Heap.SameBut a s.heap h' → SetS P w h' a (one_more l k) → Q b { s with heap := h' }) : wpAny (model P w) A (setAddHashed a (.str k u) (hashStr w k)) Q E s := by
  unfold one_more at h
  by_cases hk : k ∈ l
  · rw [if_pos hk] at h
    exact setS_there R hk (by omega) (h false s.heap (Heap.SameBut.refl a s.heap) R)
  · rw [if_neg hk] at h
    obtain ⟨D, ho, F, W⟩ := R
    refine Froz.add_x ho F hk room (h true _ (Heap.SameBut.update ..) ⟨_, Froz.get_upd _ ho rfl, Froz.add_ok u F, txw_add u W hk⟩)
/-- the loop of the making -/
theorem fill_texts {I : Addr} {fp wr : List Addr} {G : Array GenState → Array GenState → Prop} {n : Nat} {Pv : Nat → Value → Prop} {St : Nat → Shared → Prop} {R : Result → Shared → Prop}
    (W : WalksS P w A.in1 I fp wr G n Pv St) (S : Addr) (hSf : S ∉ fp) (xs : List Str) (hn : n = xs.length) (hb : xs.length + 1 < scanBound) (hval : ∀ i v, Pv i v → ∃ k t, xs[i]? = some k ∧ v = .str k t) :
    ∀ (j i : Nat) (s : Shared), n - i = j → i ≤ n → St i s → SetS P w s.heap S (uniq (xs.take i)) →
      (∀ s', Moved (S :: wr) G s s' → SetS P w s'.heap S (uniq xs) → R (.ok (.ret .none)) s') →
      codeAny (model P w) A (.builtin "set.update.loop" ⟨[.ref S, .ref I], []⟩) R s := by
  have out : S ∉ wr := fun z => hSf (W.sub _ z)
  have sub : ∀ b ∈ wr, b ∈ S :: wr := fun b z => List.mem_cons_of_mem _ z
  intro j
  induction j with
  | zero =>
    intro i s ej hi st R0 k
    obtain rfl : i = n := by omega
    refine codeAny_builtin F.entry_set_update_loop ?_
    rw [Around.under_plainId F.plain_set_update_loop _]
    refine wpAny_bind (W.done s _ _ st fun s' mv => ?_)
    rw [List.take_of_length_le (by omega)] at R0
    exact wpAny_pure (k s' (mv.mono sub) (R0.at fun o e => mv.heap S o out e))
  | succ j ih =>
    intro i s ej hi st R0 k
    have lt : i < n := by omega
    refine codeAny_builtin F.entry_set_update_loop ?_
    rw [Around.under_plainId F.plain_set_update_loop _]
    refine wpAny_bind (W.item i s _ _ lt st fun v s' pv st' mv => ?_)
    obtain ⟨x, t, hx, rfl⟩ := hval i v pv
    have R1 : SetS P w s'.heap S (uniq (xs.take i)) := R0.at fun o e => mv.heap S o out e
    have ll := uniq_len (xs.take i)
    rw [List.length_take] at ll
    refine wpAny_bind (m := holding [Value.str x t] (setAdd S (.str x t))) (wpAny_holding ?_)
    unfold setAdd
    refine wpAny_holding (wpAny_bind ((PySem.strKind P w).pyHash (k := x) (Froz.is_str x t) ?_))
    refine setS_add (s := { s' with toks := s'.toks + 1 }) R1 (by omega) fun b h' sb R2 => ?_
    rw [← uniq_take hx] at R2
    refine wpAny_pure ⟨plainId_quiet F.plain_set_update_loop _, ih (i + 1) _ (by omega) lt (W.frame _ s' _ _ st' (Nat.le_succ _) fun c hc o e => ?_) R2 fun s2 mv2 R3 => k s2 (Moved.trans W.gtrans ((mv.mono sub).then_heap (Nat.le_succ _) fun c o hc e => ?_) mv2) R3⟩
    · exact (sb.2 c fun z => hSf (z ▸ hc)).trans e
    · exact (sb.2 c fun z => hc (z ▸ List.mem_cons_self)).trans e
abbrev newSet (w : World) : Obj := { cls := .type "set", dict := none, data := .set #[] 0 (.fresh 0 0 (!w.params.followText "set-order")) }
theorem setS_new {h : Heap} {xs : List Str} (e : h.get? a = some (newSet w)) : SetS P w h a (uniq (xs.take 0)) := by
  refine ⟨(#[], 0, .fresh 0 0 (!w.params.followText "set-order")), e, Froz.TxOk.nil rfl, fun e he => by simp at he, List.Perm.refl _, List.nodup_nil, List.Pairwise.nil, ?_⟩
  show _ ∨ (!w.params.followText "set-order") = true
  cases w.params.followText "set-order"
  · exact .inr rfl
  · exact .inl rfl
end
end SQ
namespace SQ
open PySem PySem.Spec PyProof.Rows L2
section
variable {P : Program} {w : World} {A : Around} {E : Value → Shared → Prop} {s : Shared}
end
end SQ
namespace SQ
open PySem PySem.Spec PyProof.Rows L2
section
variable {P : Program} {w : World} {A : Around} {E : Value → Shared → Prop} {s : Shared}
set_option maxHeartbeats 8000000 in
end
/-- the set in the layer's heap -/
def SetSO (P : Program) (w : World) (a : Addr) (l : List Str) : HO := .ext fun h => SetS P w h a l
section
variable {X : Cx}
end
end SQ
/-! set(a text), len(a set of texts). -/
namespace SQ
open PySem PySem.Spec PyProof.Rows L2
/-- the signs of a text, each as a text -/
def signs1 (x : Str) : List Str := x.cps.toList.map fun c => ⟨#[c]⟩
theorem signs1_len (x : Str) : (signs1 x).length = x.cps.size := by
  unfold signs1
  rw [List.length_map, Array.length_toList]
theorem signs1_at {x : Str} {i : Nat} {c : Nat} (h : x.cps[i]? = some c) : (signs1 x)[i]? = some ⟨#[c]⟩ := by
  unfold signs1
  rw [List.getElem?_map, Array.getElem?_toList, h]
  rfl
section
variable {P : Program} {w : World} {A : Around} {E : Value → Shared → Prop} {s : Shared}
/-- set.__init__ over a text -/
theorem init_text {a : Addr} {x : Str} {t : Tok} {R : Value → Shared → Prop} (hh : A.handled = none) (ha : s.heap.get? a = some (newSet w)) (hb : x.cps.size + 1 < scanBound)
    (h : ∀ h' tk, SetS P w h' a (uniq (signs1 x)) → (∀ b o, b ≠ a → s.heap.get? b = some o → h'.get? b = some o) → R .none { s with heap := h', toks := tk }) :
    codeAny (model P w) A (.call (.builtin "set.__init__") ⟨[.ref a, .str x t], []⟩) (wants R E) s := by
  have T : s.TypeIs (.ref a) "set" := ⟨_, ha, rfl⟩
  refine codeAny_call_builtin F.called_set.init.plain F.entry_set_init (check_set_init_1 T ?_)
  have n1 : isSubtype (.type "str") (.type "set") = pure false := by rw [isSubtype_type]; kernel_rfl
  have n2 : isSubtype (.type "str") (.type "frozenset") = pure false := by rw [isSubtype_type]; kernel_rfl
  have n3 : (Value.type "str" == Value.type "dict") = false := by decide
  unfold Builtin.«set.__init__» noKeywords Builtin.Frozenset.updateFrom
  generalize hPI : pyIter = PI
  wp_walk
  subst hPI
  have h1 : A.in1.in1.handled = none := by simp [hh]
  have hal1 : a < s.heap.objs.size := Heap.lt_size ha
  refine wpAny_pyIter_str fun o St W st0 => wpAny_bind (wpAny_runValue ?_)
  refine fill_texts ((W A.in1.in1 h1).toS) a (by
    simp only [List.mem_cons, List.not_mem_nil, or_false]
    exact Nat.ne_of_lt hal1) (signs1 x) (signs1_len x).symm (by rw [signs1_len]; exact hb) (fun i v z => by
      obtain ⟨c, u, hc, rfl⟩ := z
      exact ⟨_, _, signs1_at hc, rfl⟩) (x.cps.size - 0) 0 _ rfl (Nat.zero_le _)
    st0 (setS_new (Heap.get?_push_of_some _ ha)) fun s' mv R1 => ?_
  obtain ⟨h', g', d', tk', os'⟩ := s'
  obtain rfl : g' = s.gens := mv.gens
  obtain rfl : d' = s.drawn := mv.drawn
  obtain rfl : os' = s.os := mv.os
  show wpAny _ _ _ _ _ _
  refine wpAny_pure (wpAny_pure (h h' tk' R1 fun b o hb0 e => ?_))
  refine mv.heap b o ?_ (Heap.get?_push_of_some _ e)
  simp only [List.mem_cons, List.not_mem_nil, or_false, not_or]
  exact ⟨hb0, Nat.ne_of_lt (Heap.lt_size e)⟩
set_option maxHeartbeats 8000000 in
theorem call_setT {x : Str} {t : Tok} {Q : Value → Shared → Prop} (hh : A.handled = none) (hb : x.cps.size + 1 < scanBound)
    (h : ∀ h' tk, SetS P w h' s.heap.objs.size (uniq (signs1 x)) → (∀ b o, s.heap.get? b = some o → h'.get? b = some o) → Q (.ref s.heap.objs.size) { s with heap := h', toks := tk }) :
    wpAny (model P w) A (call (.type "set") [.str x t]) Q E s := by
  obtain ⟨c, tl, m1⟩ := F.called_set.mro
  have m2 := F.called_set.made
  have m3 := F.called_set.sub
  have m4 := F.called_set.notType
  have m5 := F.called_set.canCreate
  have m6 := F.typeCall_set_1 (.str x t)
  refine wpAny_call (codeAny_of_tree ?_)
  show wpAny _ _ (callAny (.type "set") _) _ _ _
  refine wpAny_pure ⟨Code.quiet_builtin _ (by decide +kernel), codeAny_builtin F.entry_type_call ?_⟩
  rw [Around.under_plain (weight_type_call_type "set" [.str x t] []) rfl]
  repeat (any_goals (first | assumption | wp_step))
  refine codeAny_mono (code_set_led1 (.str x t) (E := E) (Q₁ := fun o t => o = .ref s.heap.objs.size ∧ t = { s with heap := s.heap.push (newSet w) }) ⟨rfl, rfl⟩) fun r t hr => ?_
  rcases r with e | (_ | _ | _ | o)
  · exact hr
  · exact hr.elim
  · exact hr.elim
  · exact hr.elim
  obtain ⟨rfl, rfl⟩ := hr
  have got : (s.heap.push (newSet w)).get? s.heap.objs.size = some (newSet w) := Heap.get?_push_size _ rfl
  have T : Shared.TypeIs { s with heap := s.heap.push (newSet w) } (.ref s.heap.objs.size) "set" := ⟨_, got, rfl⟩
  have n1 := F.called_set.init.lookup
  have n2 := F.called_set.init.bind (.ref s.heap.objs.size)
  repeat (any_goals (first | assumption | wp_step))
  refine codeAny_mono (init_text (s := { s with heap := s.heap.push (newSet w) }) (E := E) (R := fun r t => r = .none ∧ ∃ h' tk, t = { s with heap := h', toks := tk } ∧ SetS P w h' s.heap.objs.size (uniq (signs1 x)) ∧ ∀ b o, s.heap.get? b = some o → h'.get? b = some o)
    (by simp [hh]) got hb fun h' tk S1 kp => ⟨rfl, h', tk, rfl, S1, fun b o e => kp b o (Nat.ne_of_lt (Heap.lt_size e)) (Heap.get?_push_of_some _ e)⟩) fun r t hr => ?_
  rcases r with e | (_ | _ | _ | v)
  · exact hr
  · exact hr.elim
  · exact hr.elim
  · exact hr.elim
  obtain ⟨rfl, h', tk, rfl, S1, kp⟩ := hr
  repeat (any_goals (first | assumption | wp_step))
  exact h h' tk S1 kp
end
section
variable {X : Cx}
/-- set(text) -/
def rSetT (P : Program) (w : World) : List V → Hp → VK → Prop := fun vs H Q => ∃ x : Str, vs = [.str x] ∧ x.cps.size ≤ 1000 ∧ ∀ p, H p = none → Q (.ref p) (upd H p (SetSO P w p (uniq (signs1 x))))
theorem cr_setT (hc : X.calm = true) : CallR X (.type "set") (rSetT X.prog X.w) := by
  intro pins s σ H vs us Q I r h
  obtain ⟨x, rfl, hl, q⟩ := h
  obtain ⟨u, rfl, hu⟩ : ∃ u, us = [u] ∧ RelV (.str x) u := by
    cases r with
    | cons a b => cases b; exact ⟨_, rfl, a⟩
  obtain ⟨t, rfl⟩ := hu
  refine call_setT (I.ok.hd hc) (by unfold scanBound; omega) fun h' tk S1 kp => ?_
  have ob : ObjOk X.prog X.w (upd H s.heap.objs.size (SetSO X.prog X.w s.heap.objs.size (uniq (signs1 x)))) h' s.heap.objs.size (SetSO X.prog X.w s.heap.objs.size (uniq (signs1 x))) := by
    obtain ⟨D, e, _⟩ := id S1
    exact ⟨S1, ⟨_, e⟩, fun h1 h2 p k => p.at k⟩
  exact ⟨.ref _, _, I.laid (t' := tk) kp (Nat.le_refl _) ob, rfl, q _ (I.hok.fresh (Nat.le_refl _))⟩
/-- len(such a set) -/
def rLenS (P : Program) (w : World) : List V → Hp → VK → Prop := fun vs H Q => ∃ (a : Addr) (l : List Str), vs = [.ref a] ∧ H a = some (SetSO P w a l) ∧ l.length ≤ 1000 ∧ Q (.int (l.length : Nat)) H
theorem cr_lenS : CallR X (.builtin "len") (rLenS X.prog X.w) := by
  intro pins s σ H vs us Q I r h
  obtain ⟨a, l, rfl, hs, hl, q⟩ := h
  rw [Vals.ref1 r]
  have R : SetS X.prog X.w s.heap a l := (I.hok a _ hs).1
  obtain ⟨⟨es, ep, t⟩, ho, F, W⟩ := R
  have e : es.size = l.length := F.sz
  refine call_len_set ho ⟨rfl, rfl, rfl⟩ rfl F.fit (by rw [e]; omega) ⟨.int (l.length : Nat), H, I.tok _, ⟨_, by rw [e]⟩, q⟩
end
end SQ
namespace SQ4
open PySem L2 SQ
abbrev sSh : Stmt := top 44
/-- what lies between the brackets of a shuffle, cut at its dash -/
def shParts (x : Str) : Str × Str × Str := Txt.partition (cutS x (some 1) (some (-1))) "-"
def lettersG : List Nat := ("abcdefghijklmnopqrstuvwxyz" : Str).cps.toList
/-- the letters before and after the dash, if it is a shuffle -/
def shuf (x : Str) : Option (Str × Str) :=
  if Txt.startswith x "(" = false then none
  else if Txt.endswith x ")" = false then none
  else if (shParts x).2.1 = "" then none
  else if 5 < (shParts x).1.length then none
  else if 8 < (shParts x).2.2.length then none
  else if (uniq (signs1 (shParts x).1)).length < (shParts x).1.length then none
  else if ((shParts x).1.cps.toList.all fun c => decide (c ∈ lettersG)) = false then none
  else if ((shParts x).2.2.cps.toList.all fun c => decide (c ∈ (shParts x).1.cps.toList)) = false then none
  else some ((shParts x).1, (shParts x).2.2)
theorem strSub_len (x : Str) (i j : Nat) : (PySem.Builtin.Str.strSub x i j).length ≤ x.length := by
  rw [TL.len_tl, TL.tl_strSub, List.length_take, List.length_drop, TL.len_tl x]
  omega
theorem partition_len (a b : Str) : (Txt.partition a b).1.length ≤ a.length ∧ (Txt.partition a b).2.2.length ≤ a.length := by
  unfold Txt.partition
  cases Builtin.Str.occurrences a b 0 a.length 1 with
  | nil => exact ⟨Nat.le_refl _, Nat.zero_le _⟩
  | cons i r => exact ⟨strSub_len _ _ _, strSub_len _ _ _⟩
theorem shuf_def (x : Str) : shuf x = if Txt.startswith x "(" = false then none
  else if Txt.endswith x ")" = false then none
  else if (shParts x).2.1 = "" then none
  else if 5 < (shParts x).1.length then none
  else if 8 < (shParts x).2.2.length then none
  else if (uniq (signs1 (shParts x).1)).length < (shParts x).1.length then none
  else if ((shParts x).1.cps.toList.all fun c => decide (c ∈ lettersG)) = false then none
  else if ((shParts x).2.2.cps.toList.all fun c => decide (c ∈ (shParts x).1.cps.toList)) = false then none
  else some ((shParts x).1, (shParts x).2.2) := rfl
structure WSh (mg : Str → Option Value) : Prop where
  set : mg "set" = none
  mt : ∃ t, mg "MOST_TAKEN" = some (.int 5 t)
  ml : ∃ t, mg "MOST_LEFT" = some (.int 8 t)
section
variable {P : Program} {w : World} {K : PySem.W.Frag} {mg : Str → Option Value} {base : Heap}
def ShAt (H : Hp) (v : V) : Option (Str × Str) → Prop
  | none => v = .non
  | some (a, b) => ∃ t, v = .ref t ∧ H t = some (.tup [.str a, .str b])
def spSh : Sp := fun vs H Q _ => ∃ x : Str, vs = [.str x] ∧ x.length ≤ sizeLine ∧ ∀ v H', Same H H' → ShAt H' v (shuf x) → Q v H'
theorem scSh : FnScope ["token", "taken", "dash", "left", "letter"] ["token"] (defScope sSh) := ⟨rfl, rfl, rfl, by decide +kernel, rfl, by decide +kernel, by decide +kernel⟩
theorem ok_sh {f : Addr} {fd : FuncData} (F : Fun K "split_shuffle" "split_shuffle" sSh f fd) (B : B2 mg) (W : WSh mg) : FnOk P w K mg base CX0 1 f fd ["token"] spSh := by
  refine F.ok scSh (fun vs H Q E h => ?_) (fun cdv A outer s H vs Q E hr h => ?_)
  · obtain ⟨x, rfl, _⟩ := h
    rfl
  · obtain ⟨x, rfl, hx, q⟩ := h
    obtain ⟨t1, g1⟩ := W.mt
    obtain ⟨t2, g2⟩ := W.ml
    obtain ⟨t3, g3⟩ := B.lets
    refine ⟨_, pss_cons (ps_if (PW.pt (pw_or (pt_not (pt_val (pe_m1 PySem.F.slot_str_startswith PySem.F.type_str_startswith mt_startswith (pv 0) pe_str))) (pw_or1 (pt_not (pt_val (pe_m1 PySem.F.slot_str_endswith PySem.F.type_str_endswith mt_endswith (pv 0) pe_str)))))) (pss_one (ps_ret pe_non)) pss_nil)
      (pss_cons (ps_asg (pe_partition (pe_slice sl_str (pv 0) (po_some pe_int) (po_some (pe_un un_neg pe_int))) pe_str) (pg_tup rfl (pgs_cons (pg_name (i := 1) scSh.nd rfl (.inr rfl)) (pgs_cons (pg_name (i := 2) scSh.nd rfl (.inl rfl)) (pgs_cons (pg_name (i := 3) scSh.nd rfl (.inl rfl)) pgs_nil)))))
      (pss_cons (ps_if (PW.pt (pw_or (pt_cmpR op_eq (pv 2) pe_str (by rfl)) (pw_or (pt_cmpR op_gt (pe_callB call_len_str (by rfl) B.len PySem.boot_len (pa_cons (pv 1) pa_nil)) (pe_glob (v := .int 5) rfl g1 ⟨_, rfl⟩) (nomark _)) (pw_or1 (pt_cmpR op_gt (pe_callB call_len_str (by rfl) B.len PySem.boot_len (pa_cons (pv 3) pa_nil)) (pe_glob (v := .int 8) rfl g2 ⟨_, rfl⟩) (nomark _)))))) (pss_one (ps_ret pe_non)) pss_nil)
      (pss_cons (ps_if (PW.pt (pw_or (pt_cmpR op_lt (pe_callB cr_lenS (by rfl) B.len PySem.boot_len (pa_cons (pe_callTy (cr_setT rfl) (by rfl) W.set (by decide +kernel) (pa_cons (pv 1) pa_nil)) pa_nil)) (pe_callB call_len_str (by rfl) B.len PySem.boot_len (pa_cons (pv 1) pa_nil)) (nomark _))
          (pw_or1 (pt_not (pt_val (pe_callB (cr_all rfl) (by rfl) B.all (by decide +kernel) (pa_cons (pe_lc (own := [("letter", 4)]) (g := gName 4) (tt := tYes) rfl scSh.nd (pi_str (pv 1)) (blkOk_by (N := ["token", "taken", "dash", "left", "letter"]) (sc := defScope sSh) (by decide +kernel)) (fun _ _ _ _ _ => pg_name (i := 4) scSh.nd rfl (.inl rfl)) (fun _ _ _ _ _ => pts_nil)
            (fun _ _ _ _ _ => pe_cmpR op_in_sign (pv 4) (pe_glob (v := .str "abcdefghijklmnopqrstuvwxyz") rfl g3 ⟨_, rfl⟩) rfl)) pa_nil))))))) (pss_one (ps_ret pe_non)) pss_nil)
      (pss_cons (ps_if (pt_not (pt_val (pe_callB (cr_all rfl) (by rfl) B.all (by decide +kernel) (pa_cons (pe_lc (own := [("letter", 4)]) (g := gName 4) (tt := tYes) rfl scSh.nd (pi_str (pv 3)) (blkOk_by (N := ["token", "taken", "dash", "left", "letter"]) (sc := defScope sSh) (by decide +kernel)) (fun _ _ _ _ _ => pg_name (i := 4) scSh.nd rfl (.inl rfl)) (fun _ _ _ _ _ => pts_nil)
            (fun _ _ _ _ _ => pe_cmpR op_in_sign (pv 4) (pv 1) rfl)) pa_nil)))) (pss_one (ps_ret pe_non)) pss_nil)
      (pss_one (ps_ret (pe_tup (pa_cons (pv 1) (pa_cons (pv 3) pa_nil))))))))), ?_⟩
    have sh0 := shuf_def x
    have q0 : shuf x = none → ∀ H', Same H H' → Q .non H' := fun e H' s1 => q .non H' s1 (by rw [e]; exact rfl)
    refine ⟨_, rfl, ⟨_, rfl⟩, _, _, rfl, rfl, _, rfl, ?_⟩
    cases h1 : Txt.startswith x "("
    case false =>
      refine iteT (iteT (q0 (by rw [sh0, if_pos h1]) H (Same.refl H)))
    rw [if_neg (by rw [h1]; decide)] at sh0
    refine iteF ⟨_, rfl, ⟨_, rfl⟩, _, _, rfl, rfl, _, rfl, ?_⟩
    cases h2 : Txt.endswith x ")"
    case false =>
      refine iteT (q0 (by rw [sh0, if_pos h2]) H (Same.refl H))
    rw [if_neg (by rw [h2]; decide)] at sh0
    refine iteF ?_
    have hc : (cutS x (some 1) (some (-1))).length ≤ sizeLine := Nat.le_trans (cutS_length x _ _) hx
    refine ⟨_, rfl, _, rfl, _, rfl, _, rfl, _, rfl, hx, ⟨_, rfl⟩, _, _, rfl, rfl, by decide +kernel, hc, fun p np => ?_⟩
    obtain ⟨l1, l2⟩ := partition_len (cutS x (some 1) (some (-1))) "-"
    have sp : Txt.partition (cutS x (some 1) (some (-1))) "-" = shParts x := rfl
    rw [sp] at l1 l2 ⊢
    generalize shParts x = ps at sh0 l1 l2 ⊢
    obtain ⟨a, d, b⟩ := ps
    dsimp only at sh0 l1 l2 ⊢
    have la : a.length ≤ sizeLine := Nat.le_trans l1 hc
    have lb : b.length ≤ sizeLine := Nat.le_trans l2 hc
    have s1 : Same H (upd H p (.tup [.str a, .str d, .str b])) := same_new (fun _ _ e => e) np
    have hp : upd H p (.tup [.str a, .str d, .str b]) p = some (.tup [.str a, .str d, .str b]) := upd_same
    generalize upd H p (.tup [.str a, .str d, .str b]) = H1 at s1 hp ⊢
    refine ⟨p, _, rfl, SqT.of hp, rfl, _, _, rfl, _, _, rfl, _, _, rfl, rfl, ?_⟩
    refine ⟨_, rfl, rfl, _, rfl, ?_⟩
    by_cases h3 : d = ""
    case pos =>
      exact itYg (by rw [h3]) (iteT (q0 (by rw [sh0, if_pos h3]) H1 s1))
    rw [if_neg h3] at sh0
    refine itNg (fun h => h3 (V.str.inj h)) ?_
    refine ⟨_, rfl, _, rfl, la, _, _, rfl, rfl, _, rfl, ?_⟩
    by_cases h4 : 5 < a.length
    case pos =>
      exact itYg (by omega) (iteT (q0 (by rw [sh0, if_pos h4]) H1 s1))
    rw [if_neg h4] at sh0
    refine itNg (by omega) ?_
    refine ⟨_, rfl, _, rfl, lb, _, _, rfl, rfl, _, rfl, ?_⟩
    by_cases h5 : 8 < b.length
    case pos =>
      exact itYg (by omega) (q0 (by rw [sh0, if_pos h5]) H1 s1)
    rw [if_neg h5] at sh0
    refine itNg (by omega) ?_
    have sa : a.cps.size = a.length := rfl
    have ul : (uniq (signs1 a)).length ≤ a.length := by
      have := uniq_len (signs1 a)
      rw [signs1_len] at this
      exact this
    refine ⟨_, rfl, a, rfl, by omega, fun m nm => ?_⟩
    have s2 : Same H1 (upd H1 m (SetSO P w m (uniq (signs1 a)))) := same_new (fun _ _ e => e) nm
    refine ⟨m, _, rfl, upd_same, by omega, ?_⟩
    refine ⟨_, rfl, _, rfl, la, _, _, rfl, rfl, _, rfl, ?_⟩
    by_cases h6 : (uniq (signs1 a)).length < a.length
    case pos =>
      exact itYg (by omega) (iteT (q0 (by rw [sh0, if_pos h6]) _ (st s1 s2)))
    rw [if_neg h6] at sh0
    refine itNg (by omega) ?_
    have al : a.cps.toList.length ≤ 5 := by rw [Array.length_toList]; omega
    have bl : b.cps.toList.length ≤ 8 := by
      have : b.cps.size = b.length := rfl
      rw [Array.length_toList]; omega
    refine ⟨_, rfl, a, rfl, fun D hD => ?_⟩
    refine lc_it (walk_str (z := a)) (fun i H2 => H2 = upd (upd H1 m (SetSO P w m (uniq (signs1 a)))) D (.lst (((a.cps.toList.take i).map fun c => decide (c ∈ lettersG)).map V.bl))) rfl (fun _ _ _ _ => trivial) ?_ ?_
    · rintro i v H2 H3 hi rfl ⟨rfl, c, hc, rfl⟩
      refine ⟨rfl, keptT ⟨_, rfl, c, _, rfl, rfl, _, upd_same, small1000 ?_, ?_⟩⟩
      · rw [List.length_map, List.length_map, List.length_take]
        omega
      · have e2 : a.cps.toList.take (i + 1) = a.cps.toList.take i ++ [c] := by
          rw [List.take_add_one]
          have : a.cps.toList[i]? = some c := by simpa using hc
          rw [this]
          rfl
        rw [upd_upd, e2, List.map_append, List.map_append]
        rfl
    rintro H2 rfl
    refine ⟨D, _, rfl, SqL.of upd_same, ?_⟩
    have ea : ((a.cps.toList.take a.cps.size).map fun c => decide (c ∈ lettersG)).all id = a.cps.toList.all fun c => decide (c ∈ lettersG) := by
      rw [List.take_of_length_le (by simp), List.all_map]
      rfl
    rw [ea]
    have s3 : Same H (upd (upd H1 m (SetSO P w m (uniq (signs1 a)))) D (.lst (((a.cps.toList.take a.cps.size).map fun c => decide (c ∈ lettersG)).map V.bl))) := same_new (st s1 s2) hD
    generalize upd (upd H1 m (SetSO P w m (uniq (signs1 a)))) D (.lst (((a.cps.toList.take a.cps.size).map fun c => decide (c ∈ lettersG)).map V.bl)) = H3 at s3 ⊢
    cases h7 : a.cps.toList.all fun c => decide (c ∈ lettersG)
    case false => exact ⟨_, rfl, iteT (q0 (by rw [sh0, if_pos h7]) _ s3)⟩
    rw [if_neg (by rw [h7]; decide)] at sh0
    refine ⟨_, rfl, iteF ?_⟩
    refine ⟨_, rfl, b, rfl, fun D2 hD2 => ?_⟩
    refine lc_it (walk_str (z := b)) (fun i H2 => H2 = upd H3 D2 (.lst (((b.cps.toList.take i).map fun c => decide (c ∈ a.cps.toList)).map V.bl))) rfl (fun _ _ _ _ => trivial) ?_ ?_
    · rintro i v H2 H4 hi rfl ⟨rfl, c, hc, rfl⟩
      refine ⟨rfl, keptT ⟨_, rfl, _, rfl, c, _, rfl, rfl, _, upd_same, small1000 ?_, ?_⟩⟩
      · rw [List.length_map, List.length_map, List.length_take]
        omega
      · have e2 : b.cps.toList.take (i + 1) = b.cps.toList.take i ++ [c] := by
          rw [List.take_add_one]
          have : b.cps.toList[i]? = some c := by simpa using hc
          rw [this]
          rfl
        rw [upd_upd, e2, List.map_append, List.map_append]
        rfl
    rintro H2 rfl
    refine ⟨D2, _, rfl, SqL.of upd_same, ?_⟩
    have eb : ((b.cps.toList.take b.cps.size).map fun c => decide (c ∈ a.cps.toList)).all id = b.cps.toList.all fun c => decide (c ∈ a.cps.toList) := by
      rw [List.take_of_length_le (by simp), List.all_map]
      rfl
    rw [eb]
    have s4 : Same H (upd H3 D2 (.lst (((b.cps.toList.take b.cps.size).map fun c => decide (c ∈ a.cps.toList)).map V.bl))) := same_new s3 hD2
    generalize upd H3 D2 (.lst (((b.cps.toList.take b.cps.size).map fun c => decide (c ∈ a.cps.toList)).map V.bl)) = H4 at s4 ⊢
    cases h8 : b.cps.toList.all fun c => decide (c ∈ a.cps.toList)
    case false => exact ⟨_, rfl, iteT (q0 (by rw [sh0, if_pos h8]) _ s4)⟩
    rw [if_neg (by rw [h8]; decide)] at sh0
    refine ⟨_, rfl, iteF ?_⟩
    refine ⟨_, rfl, _, rfl, (by show 2 ≤ sizeLine; decide), fun r nr => ?_⟩
    refine q _ _ (same_new s4 nr) ?_
    rw [sh0]
    exact ⟨r, rfl, upd_same⟩
end
end SQ4
namespace SQ4
open PySem L2 SQ
theorem itY {c A B : Prop} [Decidable c] (hc : c) (h : A) : if decide c = true then A else B := by
  rw [if_pos (decide_eq_true hc)]
  exact h
theorem itN {c A B : Prop} [Decidable c] (hc : ¬ c) (h : B) : if decide c = true then A else B := by
  rw [decide_eq_false hc]
  exact iteF h
section
variable {P : Program} {w : World} {K : PySem.W.Frag} {mg : Str → Option Value} {base : Heap} {C tC fA : Addr} {dA : FuncData}
/-! ### is_literal of "5" -/
/-! ### read_word of "t" and of "5" -/
theorem scWd : FnScope ["token", "vocabulary", "letters", "taken", "left", "letter"] ["token", "vocabulary"] (defScope sWd) := ⟨rfl, rfl, rfl, by decide +kernel, rfl, by decide +kernel, by decide +kernel⟩
end
end SQ4
namespace SQ4
open PySem L2 SQ
theorem starts_minus {x : Str} (h : Txt.startswith x "-" = true) : ∃ cs, x.cps.toList = 45 :: cs ∧ (cutS x (some 1) none).cps.toList = cs := by
  unfold Txt.startswith at h
  rw [Bool.and_eq_true, PySem.StrLaws.subAt_eq, List.drop_zero] at h
  have e := eq_of_beq h.2
  have e1 : ("-" : Str).cps.toList = [45] := by decide +kernel
  have e2 : ("-" : Str).length = 1 := by decide +kernel
  rw [e1, e2] at e
  cases hx : x.cps.toList with
  | nil =>
    rw [hx] at e
    cases e
  | cons c cs =>
    rw [hx] at e
    have ec : c = 45 := by simpa using e
    subst ec
    refine ⟨cs, rfl, ?_⟩
    have ln : x.length = cs.length + 1 := by
      show x.cps.size = _
      rw [← Array.length_toList, hx]
      rfl
    show (((x.cps.toList.drop (HT.sIx x.length 0 (some 1))).take (HT.sIx x.length x.length none - HT.sIx x.length 0 (some 1))).toArray).toList = cs
    have s1 : HT.sIx x.length 0 (some 1) = 1 := by
      rw [show (1 : Int) = ((1 : Nat) : Int) from rfl, HT.sIx_nat]
      omega
    rw [s1, HT.sIx_none, hx, ln]
    show (cs.take (cs.length + 1 - 1)) = cs
    rw [Nat.add_sub_cancel, List.take_length]
theorem figs_digits {l : List Nat} (h : (l.all fun c => decide (c ∈ figsG)) = true) : NumText.AllDigits l := by
  intro c hc
  have := List.all_eq_true.mp h c hc
  have m : c ∈ figsG := of_decide_eq_true this
  unfold figsG at m
  simp only [List.mem_cons, List.not_mem_nil, or_false] at m
  omega
theorem lit_int {x : Str} (h : isLit x = true) : ∃ n, PySem.intText? x = some n ∧ x.length ≤ 19 := by
  unfold isLit at h
  rw [Bool.and_eq_true, Bool.and_eq_true, Bool.and_eq_true] at h
  obtain ⟨⟨⟨h1, h2⟩, h3⟩, _⟩ := h
  have h1 := of_decide_eq_true h1
  have h2 := of_decide_eq_true h2
  cases hs : Txt.startswith x "-"
  · have fe : figOf x = x := by unfold figOf; rw [hs]; rfl
    rw [fe] at h1 h2 h3
    refine ⟨_, intText_digits (figs_digits h3) ?_ (by omega), by omega⟩
    intro e
    have : x.length = 0 := by
      show x.cps.size = 0
      rw [← Array.length_toList, e]
      rfl
    omega
  · have fe : figOf x = cutS x (some 1) none := by unfold figOf; rw [hs]; rfl
    rw [fe] at h1 h2 h3
    obtain ⟨cs, e1, e2⟩ := starts_minus hs
    rw [e2] at h3
    have ln : x.length = cs.length + 1 := by
      show x.cps.size = _
      rw [← Array.length_toList, e1]
      rfl
    have lc : (cutS x (some 1) none).length = cs.length := by
      show (cutS x (some 1) none).cps.size = _
      rw [← Array.length_toList, e2]
    rw [lc] at h1 h2
    refine ⟨_, intText_neg e1 (figs_digits h3) ?_ (by omega), by omega⟩
    intro e
    rw [e] at h1
    exact absurd h1 (by decide)
theorem occ_one {a : Str} {c : Nat} (h : c ∈ a.cps.toList) : ∃ i rest, Builtin.Str.occurrences a ⟨#[c]⟩ 0 a.length 1 = i :: rest := by
  have f := PySem.StrLaws.found_one a c
  rw [decide_eq_true h] at f
  cases e : Builtin.Str.occurrences a ⟨#[c]⟩ 0 a.length 1 with
  | nil =>
    rw [e] at f
    cases f
  | cons i rest => exact ⟨i, rest, rfl⟩
theorem shuf_some {x a b : Str} (h : shuf x = some (a, b)) : a.length ≤ sizeLine ∧ b.cps.toList.length ≤ 8 ∧ (∀ c ∈ b.cps.toList, c ∈ a.cps.toList) := by
  rw [shuf_def] at h
  iterate 8
    split at h
    · cases h
  rename_i h1 h2 h3 h4 h5 h6 h7 h8
  have e := Option.some.inj h
  have ea : (shParts x).1 = a := congrArg Prod.fst e
  have eb : (shParts x).2.2 = b := congrArg Prod.snd e
  rw [ea] at h4 h8
  rw [eb] at h5 h8
  refine ⟨?_, ?_, fun c hc => ?_⟩
  · have : (5 : Nat) ≤ sizeLine := by decide
    omega
  · have : b.cps.toList.length = b.length := Array.length_toList
    omega
  · rw [Bool.not_eq_false] at h8
    exact of_decide_eq_true (List.all_eq_true.mp h8 c hc)
/-- the words but quotations -/
def isWord (ys : List Str) (x : Str) : Bool := decide (x ∈ cores) || decide (x ∈ ys) || isLit x || (shuf x).isSome
structure WRd (mg : Str → Option Value) : Prop where
  cor : ∃ t, mg "CORE" = some (.str "core" t)
  shu : ∃ t, mg "SHUFFLE" = some (.str "shuffle" t)
section
variable {P : Program} {w : World} {K : PySem.W.Frag} {mg : Str → Option Value} {base : Heap} {C tC fA : Addr} {dA : FuncData}
/-! ### read_word of any token -/
def WordAt (H H' : Hp) (x : Str) (v : V) : Bool → Prop
  | false => v = .non
  | true => ∃ (t : Addr) (k : Str) (d : V), v = .ref t ∧ H t = none ∧ H' t = some (.tup [.str k, .str x, d])
def spWdG (C : Addr) : Sp := fun vs H Q _ => ∃ (x : Str) (o : Addr) (gs : List G3) (ys : List Str), vs = [.str x, .ref o] ∧ Vc C H o gs ys ∧ (∀ n ∈ ys, n ∈ gnames gs) ∧ ys.length ≤ 1000 ∧ x.length ≤ sizeLine ∧
  ∀ v H', Same H H' → WordAt H H' x v (isWord ys x) → Q v H'
theorem ok_wdG {f fL fS : Addr} {fd dL dS : FuncData} (F : Fun K "read_word" "read_word" sWd f fd) (B : B2 mg) (W : W6 mg) (WS : WSh mg) (WR : WRd mg) (CW : Core K mg tC) (VV : VC K mg C)
    (gL : mg "is_literal" = some (.ref fL)) (FL : Fun K "is_literal" "is_literal" sLi fL dL) (bL : Binds K dL ["token"] [])
    (gS : mg "split_shuffle" = some (.ref fS)) (FS : Fun K "split_shuffle" "split_shuffle" sSh fS dS) (bS : Binds K dS ["token"] [])
    (MA : Meth K C "arity" fA) (FA : Fun K "arity" "Vocabulary.arity" sAri fA dA) (bA : Binds K dA ["self", "name"] []) : FnOk P w K mg base CX0 3 f fd ["token", "vocabulary"] (spWdG C) := by
  have GL : FnOk P w K mg base CX0 1 fL dL ["token"] spLiG := ok_liG FL B W
  have GS : FnOk P w K mg base CX0 1 fS dS ["token"] spSh := ok_sh FS B WS
  have GA : FnOk P w K mg base CX0 2 fA dA ["self", "name"] (spAri C) := ok_ari FA B VV
  refine F.ok scWd (fun vs H Q E h => ?_) (fun cdv A outer s H vs Q E hr h => ?_)
  · obtain ⟨x, o, gs, ys, rfl, _⟩ := h
    rfl
  · obtain ⟨x, o, gs, ys, rfl, hV, hg, hy, hx, q⟩ := h
    have hV0 := hV
    obtain ⟨dx, dA', tN, kvs, ha, hN, hA, hk⟩ := hV
    obtain ⟨t1, g1⟩ := W.unk
    obtain ⟨t2, g2⟩ := W.lit
    obtain ⟨t3, g3⟩ := WR.cor
    obtain ⟨t4, g4⟩ := WR.shu
    refine ⟨_, pss_cons (ps_if (pt_cmpR op_in_seq (pv 0) (pe_glob (v := .ref tC) rfl CW.g rfl) (by rfl)) (pss_one (ps_ret (pe_tup (pa_cons (pe_glob (v := .str "core") rfl g3 ⟨_, rfl⟩) (pa_cons (pv 0) (pa_cons pe_non pa_nil)))))) pss_nil)
      (pss_cons (ps_if (pt_cmpR op_in_seq (pv 0) (pe_fld (pv 1) rfl) (by rfl)) (pss_one (ps_ret (pe_tup (pa_cons (pe_glob (v := .str "unknown") rfl g1 ⟨_, rfl⟩) (pa_cons (pv 0) (pa_cons (pe_meth (pv 1) VV.cl MA GA (hr.mono (by decide)) bA .nil pass0 (pa_cons (pv 0) pa_nil)) pa_nil)))))) pss_nil)
      (pss_cons (ps_if (pt_val (pe_call GL (hr.mono (by decide)) rfl gL FL.kp bL .nil pass0 (pa_cons (pv 0) pa_nil))) (pss_one (ps_ret (pe_tup (pa_cons (pe_glob (v := .str "literal") rfl g2 ⟨_, rfl⟩) (pa_cons (pv 0) (pa_cons (pe_callTy call_int_str (by rfl) B.int (by decide +kernel) (pa_cons (pv 0) pa_nil)) pa_nil)))))) pss_nil)
      (pss_cons (ps_set (i := 2) scWd.nd rfl (.inl rfl) (pe_call GS (hr.mono (by decide)) rfl gS FS.kp bS .nil pass0 (pa_cons (pv 0) pa_nil)))
      (pss_cons (ps_if (pt_cmpR op_isN (pv 2) pe_non (nomark _)) (pss_one (ps_ret pe_non)) pss_nil)
      (pss_cons (ps_asg (pv 2) (pg_tup rfl (pgs_cons (pg_name (i := 3) scWd.nd rfl (.inr rfl)) (pgs_cons (pg_name (i := 4) scWd.nd rfl (.inl rfl)) pgs_nil))))
      (pss_one (ps_ret (pe_tup (pa_cons (pe_glob (v := .str "shuffle") rfl g4 ⟨_, rfl⟩) (pa_cons (pv 0) (pa_cons (pe_tup (pa_cons (pe_callB call_len_str (by rfl) B.len PySem.boot_len (pa_cons (pv 3) pa_nil)) (pa_cons
        (pe_callTy call_tuple_of (by rfl) B.tuple (by decide +kernel) (pa_cons (pe_lc (own := [("letter", 5)]) (g := gName 5) (tt := tYes) rfl scWd.nd (pi_str (pv 4)) (blkOk_by (N := ["token", "vocabulary", "letters", "taken", "left", "letter"]) (sc := defScope sWd) (by decide +kernel)) (fun _ _ _ _ _ => pg_name (i := 5) scWd.nd rfl (.inl rfl)) (fun _ _ _ _ _ => pts_nil)
          (fun _ _ _ _ _ => pe_m1 PySem.F.slot_str_index PySem.F.type_str_index mt_sindex (pv 3) (pv 5))) pa_nil)) pa_nil))) pa_nil))))))))))), ?_⟩
    have qw : isWord ys x = true → ∀ (t : Addr) (k : Str) (d : V) (H' : Hp), Same H H' → H t = none → H' t = some (.tup [.str k, .str x, d]) → Q (.ref t) H' := fun e t k d H' s1 n1 e1 => q _ _ s1 (by
      rw [e]
      exact ⟨t, k, d, rfl, n1, e1⟩)
    have t3 : 3 ≤ sizeLine := by decide
    refine ⟨_, rfl, tC, _, rfl, .inr (CW.at_ H), rfl, by decide, _, rfl, ?_⟩
    show (if (inV (.str x) (cores.map V.str)) = true then _ else _)
    rw [inV_cores]
    by_cases h1 : x ∈ cores
    · refine itY h1 ⟨_, rfl, t3, fun p np => ?_⟩
      exact qw (by unfold isWord; rw [decide_eq_true h1]; rfl) p _ _ _ (same_new (fun _ _ e => e) np) np upd_same
    refine itN h1 ?_
    refine ⟨_, rfl, _, rfl, o, C, dx, _, _, rfl, ha, VV.cl, VV.nN, rfl, tN, _, rfl, .inr (SqT.of hN), rfl, ?_, _, rfl, ?_⟩
    · rw [List.all_map]
      exact List.all_eq_true.mpr fun _ _ => rfl
    show (if (inV (.str x) (ys.map V.str)) = true then _ else _)
    rw [inV_strs]
    by_cases h2 : x ∈ ys
    · refine itY h2 ?_
      refine ⟨_, rfl, _, rfl, o, dx, _, rfl, ha, rfl, _, rfl, ?_⟩
      refine ⟨o, gs, ys, x, rfl, hV0, hg x h2, fun t ht => ⟨t3, fun p np => ?_⟩⟩
      exact qw (by unfold isWord; rw [decide_eq_true h2, Bool.or_true]; rfl) p _ _ _ (same_new (fun _ _ e => e) np) np upd_same
    refine itN h2 ?_
    refine ⟨_, rfl, x, rfl, hx, fun H1 s1 => ⟨_, rfl, ?_⟩⟩
    cases h3 : isLit x
    case true =>
      obtain ⟨n, hn, hl⟩ := lit_int h3
      refine iteT ⟨_, rfl, _, rfl, x, n, rfl, hn, by omega, t3, fun p np => ?_⟩
      exact qw (by unfold isWord; rw [h3, Bool.or_true]; rfl) p _ _ _ (st s1 (same_new (fun _ _ e => e) np)) (s1.free np) upd_same
    refine iteF ?_
    refine ⟨_, rfl, x, rfl, hx, fun v H2 s2 hv => ?_⟩
    have s12 := st s1 s2
    have hw : isWord ys x = (shuf x).isSome := by
      unfold isWord
      rw [decide_eq_false h1, decide_eq_false h2, h3]
      rfl
    refine ⟨_, rfl, rfl, _, rfl, ?_⟩
    cases h4 : shuf x with
    | none =>
      rw [h4] at hv hw
      have e : v = .non := hv
      subst e
      refine iteT (q .non H2 s12 ?_)
      rw [hw]
      exact rfl
    | some ab =>
      obtain ⟨a, b⟩ := ab
      have hs := shuf_some h4
      rw [h4] at hv hw
      obtain ⟨p, rfl, hp⟩ := hv
      refine iteF ?_
      refine ⟨_, rfl, p, _, rfl, SqT.of hp, rfl, _, _, rfl, _, _, rfl, rfl, ?_⟩
      refine ⟨_, rfl, _, rfl, _, rfl, hs.1, _, rfl, b, rfl, fun D nD => ?_⟩
      refine lc_it (walk_str (z := b)) (fun i G => ∃ ns : List V, ns.length = i ∧ G = upd H2 D (.lst ns)) ⟨[], rfl, rfl⟩ (fun _ _ _ _ => trivial) ?_ ?_
      · rintro i v G H4 hi ⟨ns, rfl, rfl⟩ ⟨rfl, c, hc, rfl⟩
        have mc : c ∈ b.cps.toList := List.mem_iff_getElem?.mpr ⟨_, by rw [Array.getElem?_toList]; exact hc⟩
        obtain ⟨k, rest, ho⟩ := occ_one (hs.2.2 c mc)
        have hi' : ns.length < b.cps.toList.length := by rw [Array.length_toList]; exact hi
        have h8 := hs.2.1
        refine ⟨rfl, keptT ⟨_, rfl, ⟨_, rfl⟩, _, rfl, _, _, k, rest, rfl, rfl, ho, _, upd_same, small1000 (by omega), ?_⟩⟩
        refine ⟨ns ++ [.int (k : Nat)], by simp, ?_⟩
        rw [upd_upd]
      · rintro G ⟨ns, hn, rfl⟩
        refine ⟨D, ns, rfl, .inl ⟨SqL.of upd_same, fun l nl => ?_⟩⟩
        refine ⟨(by show 2 ≤ sizeLine; decide), fun m nm => ⟨t3, fun r nr => ?_⟩⟩
        have sD : Same H2 (upd H2 D (.lst ns)) := same_new (fun _ _ e => e) nD
        have sl := same_new (o := .tup ns) (st s12 sD) nl
        have sm := same_new (o := .tup [.int (a.length : Nat), .ref l]) sl nm
        exact qw (by rw [hw]; rfl) r _ _ _ (same_new sm nr) (sm.free nr) upd_same
end
end SQ4
namespace SQ4
open PySem L2 SQ
abbrev sRR : Stmt := top 50
/-! ### what a row of tokens says: the groups that are begun, the topmost first -/
def rd : List Str → List (List Str) → Option (List (List Str))
  | [], s => some s
  | t :: ts, s => if t = "[" then rd ts ([] :: s) else if t = "]" then (match s with
    | g :: h :: r => rd ts ((h ++ [qtext (jt g)]) :: r)
    | _ => none) else (match s with
    | g :: r => rd ts ((g ++ [t]) :: r)
    | [] => none)
def isTok (t : Str) : Prop := t = "[" ∨ t = "]" ∨ t = "t" ∨ t = "5"
theorem isTok.tk {t : Str} (h : isTok t) : Tk t := by
  rcases h with rfl | rfl | rfl | rfl <;> exact ⟨by decide +kernel, by decide +kernel, by decide +kernel⟩
theorem isTok.len {t : Str} (h : isTok t) : t.length = 1 := by
  rcases h with rfl | rfl | rfl | rfl <;> decide +kernel
def wt (g : List Str) : Nat := (g.map (·.length)).sum + g.length
def mt (s : List (List Str)) : Nat := (s.map wt).sum + 2 * s.length
theorem wt_snoc (g : List Str) (x : Str) : wt (g ++ [x]) = wt g + (x.length + 1) := by
  unfold wt
  simp
  omega
theorem mt_cons (g : List Str) (s : List (List Str)) : mt (g :: s) = wt g + 2 + mt s := by
  unfold mt
  simp
  omega
theorem jt_len (g : List Str) : (jt g).length ≤ wt g := by
  rw [jt_eq]
  have := StrLaws.join_length_le " " g
  have e : (" " : Str).length = 1 := rfl
  rw [e] at this
  unfold wt
  omega
theorem qtext_len (x : Str) : (qtext x).length ≤ x.length + 4 := by
  unfold qtext
  split
  · have : ("[ ]" : Str).length = 3 := by decide +kernel
    omega
  · have l1 : (Str.empty ++ ("[ " : Str)).length = 2 := by decide
    have l2 : (" ]" : Str).length = 2 := rfl
    rw [len_app, len_app, l1, l2]
    omega
/-- the lists that stand for the groups -/
def Gr (H : Hp) (as : List Addr) (s : List (List Str)) : Prop := Paired (fun a g => ∃ ws, H a = some (.lst ws) ∧ Rw H ws g) as s
theorem Gr.same {H H' : Hp} {as : List Addr} {s : List (List Str)} (e : Same H H') (h : Gr H as s) : Gr H' as s := Paired.mapP h fun _ _ ⟨ws, e1, e2⟩ => ⟨ws, e _ _ e1, e2.same e⟩
theorem Gr.put {D : Addr} {H : Hp} {as : List Addr} {s : List (List Str)} {ys zs : List V} (hD : H D = some (.lst ys)) (n : D ∉ as) (h : Gr H as s) : Gr (upd H D (.lst zs)) as s := by
  induction h with
  | nil => exact .nil
  | @cons a g as s r t ih =>
    obtain ⟨ws, e1, e2⟩ := r
    have ne : a ≠ D := fun z => n (z ▸ List.mem_cons_self)
    exact .cons ⟨ws, by rw [upd_ne ne]; exact e1, e2.put hD⟩ (ih fun z => n (List.mem_cons_of_mem _ z))
theorem Gr.len {H : Hp} {as : List Addr} {s : List (List Str)} (h : Gr H as s) : as.length = s.length := Paired.length h
theorem at_last (ws : List V) (v : V) : atI (ws ++ [v]) (-1) = some v := by
  unfold atI
  have e : ixN (ws ++ [v]).length (-1) = some ws.length := by
    unfold ixN
    rw [List.length_append]
    simp
    omega
  rw [e]
  simp
def refs (as : List Addr) : List V := as.reverse.map V.ref
theorem refs_cons (a : Addr) (as : List Addr) : refs (a :: as) = refs as ++ [.ref a] := by
  unfold refs
  rw [List.reverse_cons, List.map_append]
  rfl
theorem refs_len (as : List Addr) : (refs as).length = as.length := by
  unfold refs
  rw [List.length_map, List.length_reverse]
/-- what stands while the row is read -/
structure RS (H0 H : Hp) (b : Addr) (as : List Addr) (s : List (List Str)) : Prop where
  same : Same H0 H
  beg : H b = some (.lst (refs as))
  gr : Gr H as s
  nd : as.Nodup
  nb : b ∉ as
  fa : ∀ a ∈ as, H0 a = none
  fb : H0 b = none
section
variable {H0 H H' : Hp} {b : Addr} {as : List Addr} {s : List (List Str)}
theorem RS.on (r : RS H0 H b as s) (e : Same H H') : RS H0 H' b as s := ⟨st r.same e, e _ _ r.beg, r.gr.same e, r.nd, r.nb, r.fa, r.fb⟩
/-- a group is begun -/
theorem RS.begin_ {a : Addr} (r : RS H0 H b as s) (na : H a = none) : RS H0 (upd (upd H a (.lst [])) b (.lst (refs as ++ [.ref a]))) b (a :: as) ([] :: s) := by
  have s1 : Same H (upd H a (.lst [])) := same_new (fun _ _ e => e) na
  have ab : a ≠ b := (ne_of_none r.beg na).symm
  have naa : a ∉ as := fun m => by
    have h : ∃ g, H a = some g := by
      have hg := r.gr
      clear r s1 ab
      induction hg with
      | nil => cases m
      | @cons c g as s q t ih =>
        rcases List.mem_cons.mp m with e | m
        · obtain ⟨ws, e1, _⟩ := q
          exact ⟨_, e ▸ e1⟩
        · exact ih m
    obtain ⟨g, e⟩ := h
    rw [na] at e
    cases e
  refine ⟨fun c o e => ?_, by rw [upd_same, refs_cons], .cons ⟨[], ?_, .nil⟩ ?_, List.nodup_cons.mpr ⟨naa, r.nd⟩, fun m => ?_, fun c m => ?_, r.fb⟩
  · rw [upd_ne (ne_of_none e r.fb)]
    exact s1 _ _ (r.same _ _ e)
  · rw [upd_ne ab]
    exact upd_same
  · exact (r.gr.same s1).put (s1 _ _ r.beg) r.nb
  · rcases List.mem_cons.mp m with e | m
    · exact ab e.symm
    · exact r.nb m
  · rcases List.mem_cons.mp m with e | m
    · rw [e]
      exact r.same.free na
    · exact r.fa c m
/-- the topmost group goes -/
theorem RS.pop {a : Addr} {g : List Str} (r : RS H0 H b (a :: as) (g :: s)) : RS H0 (upd H b (.lst (refs as))) b as s ∧ ∃ ws, upd H b (.lst (refs as)) a = some (.lst ws) ∧ Rw (upd H b (.lst (refs as))) ws g := by
  obtain ⟨q, t⟩ : (∃ ws, H a = some (.lst ws) ∧ Rw H ws g) ∧ Gr H as s := by
    cases r.gr with
    | cons q t => exact ⟨q, t⟩
  obtain ⟨n1, n2⟩ := List.nodup_cons.mp r.nd
  have nb : b ∉ as := fun m => r.nb (List.mem_cons_of_mem _ m)
  obtain ⟨ws, e1, e2⟩ := q
  have ab : a ≠ b := fun z => r.nb (z ▸ List.mem_cons_self)
  refine ⟨⟨fun c o e => ?_, upd_same, t.put r.beg nb, n2, nb, fun c m => r.fa c (List.mem_cons_of_mem _ m), r.fb⟩, ws, by rw [upd_ne ab]; exact e1, e2.put r.beg⟩
  rw [upd_ne (ne_of_none e r.fb)]
  exact r.same _ _ e
/-- a word is added to the topmost group -/
theorem RS.add {a t : Addr} {g : List Str} {x : Str} {k d : V} {ws : List V} (r : RS H0 H b (a :: as) (g :: s)) (ha : H a = some (.lst ws)) (ht : H t = some (.tup [k, .str x, d])) : RS H0 (upd H a (.lst (ws ++ [.ref t]))) b (a :: as) ((g ++ [x]) :: s) := by
  obtain ⟨q, tl⟩ : (∃ ws, H a = some (.lst ws) ∧ Rw H ws g) ∧ Gr H as s := by
    cases r.gr with
    | cons q t => exact ⟨q, t⟩
  obtain ⟨ws', e1, e2⟩ := q
  obtain rfl : ws = ws' := by
    rw [ha] at e1
    exact HO.lst.inj (Option.some.inj e1)
  obtain ⟨n1, n2⟩ := List.nodup_cons.mp r.nd
  have ab : b ≠ a := fun z => r.nb (z ▸ List.mem_cons_self)
  refine ⟨fun c o e => ?_, by rw [upd_ne ab]; exact r.beg, .cons ⟨_, upd_same, (e2.snoc ⟨t, k, d, rfl, ht⟩).put ha⟩ (tl.put ha n1), r.nd, r.nb, r.fa, r.fb⟩
  rw [upd_ne (ne_of_none e (r.fa a List.mem_cons_self))]
  exact r.same _ _ e
end
end SQ4
namespace SQ4
open PySem L2 SQ
theorem Vc.same {C o : Addr} {H H' : Hp} {gs : List G3} {ys : List Str} (s : Same H H') (h : Vc C H o gs ys) : Vc C H' o gs ys := by
  obtain ⟨dx, dA, tN, kvs, e1, e2, e3, e4⟩ := h
  exact ⟨dx, dA, tN, kvs, s _ _ e1, s _ _ e2, s _ _ e3, e4.same s⟩
def tw (ts : List Str) : Nat := (ts.map (·.length)).sum + 2 * ts.length
theorem tw_snoc (ts : List Str) (x : Str) : tw (ts ++ [x]) = tw ts + (x.length + 2) := by
  unfold tw
  simp
  omega
section
variable {P : Program} {w : World} {K : PySem.W.Frag} {mg : Str → Option Value} {base : Heap} {C tC : Addr}
theorem scRR : FnScope ["text", "vocabulary", "begun", "token", "word"] ["text", "vocabulary"] (defScope sRR) := ⟨rfl, rfl, rfl, by decide +kernel, rfl, by decide +kernel, by decide +kernel⟩
end
end SQ4
namespace SQ4
open PySem L2 SQ
/-- tokens without a space, of which the text can be cut back -/
def SfT (ts : List Str) : Prop := (∀ t ∈ ts, (32 : Nat) ∉ t.cps.toList) ∧ (jt ts = "" → ts = [])
/-! ### what a row of any tokens says -/
def rdG (ok : Str → Bool) : List Str → List (List Str) → Option (List (List Str))
  | [], s => some s
  | t :: ts, s => if t = "[" then rdG ok ts ([] :: s) else if t = "]" then (match s with
    | g :: h :: r => rdG ok ts ((h ++ [qtext (jt g)]) :: r)
    | _ => none) else if ok t = true then (match s with
    | g :: r => rdG ok ts ((g ++ [t]) :: r)
    | [] => none) else none
def rowG (ok : Str → Bool) (ts : List Str) : Option (List Str) := match rdG ok ts [[]] with
  | some [xs] => some xs
  | _ => none
theorem rdG_open (ok : Str → Bool) (ts : List Str) (s : List (List Str)) : rdG ok ("[" :: ts) s = rdG ok ts ([] :: s) := by
  conv => lhs; unfold rdG
  exact if_pos rfl
theorem rdG_close (ok : Str → Bool) (ts : List Str) (g h : List Str) (r : List (List Str)) : rdG ok ("]" :: ts) (g :: h :: r) = rdG ok ts ((h ++ [qtext (jt g)]) :: r) := by
  conv => lhs; unfold rdG
  rw [if_neg (by decide +kernel), if_pos rfl]
theorem rdG_close1 (ok : Str → Bool) (ts : List Str) (g : List Str) : rdG ok ("]" :: ts) [g] = none := by
  conv => lhs; unfold rdG
  rw [if_neg (by decide +kernel), if_pos rfl]
theorem rdG_word {ok : Str → Bool} {t : Str} (c1 : ¬ t = "[") (c2 : ¬ t = "]") (c3 : ok t = true) (ts : List Str) (g : List Str) (r : List (List Str)) : rdG ok (t :: ts) (g :: r) = rdG ok ts ((g ++ [t]) :: r) := by
  conv => lhs; unfold rdG
  rw [if_neg c1, if_neg c2, if_pos c3]
theorem rdG_bad {ok : Str → Bool} {t : Str} (c1 : ¬ t = "[") (c2 : ¬ t = "]") (c3 : ok t = false) (ts : List Str) (s : List (List Str)) : rdG ok (t :: ts) s = none := by
  conv => lhs; unfold rdG
  rw [if_neg c1, if_neg c2, if_neg (by rw [c3]; decide)]
/-- how many words and groups -/
def cnt (s : List (List Str)) : Nat := (s.map (·.length)).sum + s.length
theorem cnt_cons (g : List Str) (s : List (List Str)) : cnt (g :: s) = g.length + 1 + cnt s := by
  unfold cnt
  simp
  omega
theorem tw_take (ts : List Str) (i : Nat) : tw (ts.take i) ≤ tw ts := by
  have e : tw ts = tw (ts.take i) + tw (ts.drop i) := by
    conv => lhs; rw [← List.take_append_drop i ts]
    unfold tw
    rw [List.map_append, List.sum_append, List.length_append]
    omega
  omega
section
variable {P : Program} {w : World} {K : PySem.W.Frag} {mg : Str → Option Value} {base : Heap} {C tC : Addr}
def spSpG : Sp := fun vs H Q _ => ∃ ts : List Str, vs = [.str (jt ts)] ∧ SfT ts ∧ (jt ts).length ≤ 10000 ∧ ∀ p, H p = none → Q (.ref p) (upd H p (.lst (ts.map V.str)))
theorem ok_spG {f : Addr} {fd : FuncData} (F : Fun K "split_tokens" "split_tokens" sSp f fd) : FnOk P w K mg base CX0 1 f fd ["text"] spSpG := by
  refine F.ok scSp (fun vs H Q E h => ?_) (fun cdv A outer s H vs Q E hr h => ?_)
  · obtain ⟨ts, rfl, _⟩ := h
    rfl
  · obtain ⟨ts, rfl, ht, hl, q⟩ := h
    have line : ∀ {n : Nat}, n ≤ 20000 → n ≤ sizeLine := fun h => Nat.le_trans h (by decide)
    refine ⟨_, pss_one (ps_ret (pe_ifExp (pt_truth (pv 0) (by intro _; rfl)) (pe_split (pv 0) pe_str) (pe_lst pa_nil))), ?_⟩
    refine ⟨_, rfl, _, ⟨line (by omega), rfl⟩, ?_⟩
    by_cases hn : ts = []
    · subst hn
      exact iteF ⟨(by show 0 ≤ sizeLine; decide), fun p np => q p np⟩
    · have ne : (((jt ts).length : Int) != 0) = true := by
        rw [bne_iff_ne]
        intro e0
        have e : (jt ts).length = 0 := by omega
        refine hn (ht.2 (str_ext ?_))
        have e2 : (jt ts).cps.toList.length = 0 := by simpa [Str.length] using e
        exact List.length_eq_zero_iff.mp e2
      rw [ne]
      refine iteT ?_
      refine ⟨_, rfl, ⟨_, rfl⟩, _, _, rfl, rfl, by decide, line (by omega), fun p np => ?_⟩
      have e : Txt.split (jt ts) " " = ts := by
        rw [jt_eq]
        exact split_join (c := 32) (S := []) (by decide +kernel) (by decide +kernel) hn fun p hp => ht.1 p hp
      rw [e]
      exact q p np
def spRRG (C : Addr) : Sp := fun vs H Q _ => ∃ (ts : List Str) (o : Addr) (gs : List G3) (ys : List Str), vs = [.str (jt ts), .ref o] ∧ Vc C H o gs ys ∧ (∀ n ∈ ys, n ∈ gnames gs) ∧ ys.length ≤ 1000 ∧ SfT ts ∧ ts.length ≤ 900 ∧ tw ts ≤ 8000 ∧
  (rowG (isWord ys) ts = none → ∀ H', Same H H' → Q .non H') ∧
  ∀ xs, rowG (isWord ys) ts = some xs → ∀ (p : Addr) (ws : List V) (H' : Hp), Same H H' → H' p = some (.tup ws) → Rw H' ws xs → Q (.ref p) H'
structure R6G (P : Program) (w : World) (K : PySem.W.Frag) (mg : Str → Option Value) (base : Heap) (C fS fQ fW : Addr) (dS dQ dW : FuncData) : Prop where
  gS : mg "split_tokens" = some (.ref fS)
  kS : PySem.W.keepIn K (.ref fS) = true
  bS : Binds K dS ["text"] []
  GS : FnOk P w K mg base CX0 1 fS dS ["text"] spSpG
  gQ : mg "quote" = some (.ref fQ)
  kQ : PySem.W.keepIn K (.ref fQ) = true
  bQ : Binds K dQ ["row"] []
  GQ : FnOk P w K mg base CX0 2 fQ dQ ["row"] spQu
  gW : mg "read_word" = some (.ref fW)
  kW : PySem.W.keepIn K (.ref fW) = true
  bW : Binds K dW ["token", "vocabulary"] []
  GW : FnOk P w K mg base CX0 3 fW dW ["token", "vocabulary"] (spWdG C)
theorem ok_rrG {f fS fQ fW : Addr} {fd dS dQ dW : FuncData} (F : Fun K "read_row" "read_row" sRR f fd) (B : B2 mg) (R : R6G P w K mg base C fS fQ fW dS dQ dW) : FnOk P w K mg base CX0 4 f fd ["text", "vocabulary"] (spRRG C) := by
  refine F.ok scRR (fun vs H Q E h => ?_) (fun cdv A outer s H vs Q E hr h => ?_)
  · obtain ⟨ts, o, gs, ys, rfl, _⟩ := h
    rfl
  · obtain ⟨ts, o, gs, ys, rfl, hV, hg, hy, ht, hl, h8, q0, q⟩ := h
    have line : ∀ {n : Nat}, n ≤ 1000 → n < sizeLine := fun h => small1000 h
    refine ⟨_, pss_cons (ps_set (i := 2) scRR.nd rfl (.inl rfl) (pe_lst (pa_cons (pe_lst pa_nil) pa_nil)))
      (pss_cons (ps_for PassesOwn.never rfl (pi_list (pe_call R.GS (hr.mono (by decide)) rfl R.gS R.kS R.bS .nil pass0 (pa_cons (pv 0) pa_nil))) (pg_name (i := 3) scRR.nd rfl (.inl rfl))
        (pss_cons (ps_if (pt_cmpR op_eq (pv 3) pe_str (nomark _)) (pss_cons (ps_expr (pe_bm PySem.F.plainAttrs_list PySem.F.slot_list_append PySem.F.type_list_append mt_append (pv 2) (pa_cons (pe_lst pa_nil) pa_nil))) (pss_one ps_continue)) pss_nil)
        (pss_cons (ps_if (pt_cmpR op_eq (pv 3) pe_str (nomark _))
          (pss_one (ps_set (i := 4) scRR.nd rfl (.inl rfl) (pe_ifExp (pt_cmpR op_gt (pe_callB call_len_seq (by rfl) B.len PySem.boot_len (pa_cons (pv 2) pa_nil)) pe_int (nomark _)) (pe_call R.GQ (hr.mono (by decide)) rfl R.gQ R.kQ R.bQ .nil pass0 (pa_cons (pe_callTy call_tuple_of (by rfl) B.tuple (by decide +kernel) (pa_cons (pe_bm0 PySem.F.plainAttrs_list PySem.F.slot_list_pop PySem.F.type_list_pop mt_pop (pv 2)) pa_nil)) pa_nil)) pe_non)))
          (pss_one (ps_set (i := 4) scRR.nd rfl (.inl rfl) (pe_call R.GW (hr.mono (by decide)) rfl R.gW R.kW R.bW .nil pass0 (pa_cons (pv 3) (pa_cons (pv 1) pa_nil))))))
        (pss_cons (ps_if (pt_cmpR op_isN (pv 4) pe_non (nomark _)) (pss_one (ps_ret pe_non)) pss_nil)
        (pss_one (ps_expr (pe_bm PySem.F.plainAttrs_list PySem.F.slot_list_append PySem.F.type_list_append mt_append (pe_ix ix_list (pv 2) (pe_un un_neg pe_int) (fun _ _ => rfl)) (pa_cons (pv 4) pa_nil))))))))
      (pss_one (ps_ret (pe_ifExp (pt_cmpR op_eq (pe_callB call_len_seq (by rfl) B.len PySem.boot_len (pa_cons (pv 2) pa_nil)) pe_int (nomark _)) (pe_callTy call_tuple_of (by rfl) B.tuple (by decide +kernel) (pa_cons (pe_ix ix_list (pv 2) pe_int (fun _ _ => rfl)) pa_nil)) pe_non)))), ?_⟩
    refine ⟨(by show 0 ≤ sizeLine; decide), fun a0 n0 => ⟨(by show 1 ≤ sizeLine; decide), fun b nb => ?_⟩⟩
    have b0 : b ≠ a0 := (ne_of_none upd_same nb).symm
    have fb : H b = none := (same_new (fun _ _ e => e : Same H H) n0).free nb
    have RS0 : RS H (upd (upd H a0 (.lst [])) b (.lst [.ref a0])) b [a0] [[]] := by
      refine ⟨same_new (same_new (fun _ _ e => e) n0) nb, upd_same, .cons ⟨[], by rw [upd_ne b0.symm]; exact upd_same, .nil⟩ .nil, by simp, by simpa using b0, fun c m => ?_, fb⟩
      rw [List.mem_singleton.mp m]
      exact n0
    generalize upd (upd H a0 (.lst [])) b (.lst [.ref a0]) = G0 at RS0 ⊢
    have jl0 : (jt ts).length ≤ 10000 := by
      have h1 := jt_len ts
      unfold wt at h1
      unfold tw at h8
      omega
    refine ⟨_, rfl, ts, rfl, ht, jl0, fun p np => ?_⟩
    have s1 : Same G0 (upd G0 p (.lst (ts.map V.str))) := same_new (fun _ _ e => e) np
    have hp1 : upd G0 p (.lst (ts.map V.str)) p = some (.lst (ts.map V.str)) := upd_same
    have hpH : H p = none := RS0.same.free np
    have RS1 := RS0.on s1
    generalize upd G0 p (.lst (ts.map V.str)) = G1 at s1 hp1 RS1 ⊢
    have pb : p ≠ b := fun z => by
      have e := RS0.beg
      rw [← z, np] at e
      cases e
    have bad : ∀ {ts' : List Str} {sg : List (List Str)}, rdG (isWord ys) ts' sg = rdG (isWord ys) ts [[]] → rdG (isWord ys) ts' sg = none → rowG (isWord ys) ts = none := fun e1 e2 => by
      unfold rowG
      rw [← e1, e2]
    refine ⟨p, rfl, ⟨_, SqL.of hp1⟩, for_list (K := K) (a := p) (xs := ts.map V.str) (fun i σ G => ∃ (as : List Addr) (sg : List (List Str)) (v3 v4 : Option V), σ = [some (.str (jt ts)), some (.ref o), some (.ref b), v3, v4] ∧ RS H G b as sg ∧ p ∉ as ∧ G p = some (.lst (ts.map V.str)) ∧ rdG (isWord ys) (ts.drop i) sg = rdG (isWord ys) ts [[]] ∧ sg ≠ [] ∧ mt sg ≤ 2 + tw (ts.take i) ∧ cnt sg ≤ 1 + i)
      ⟨[a0], [[]], _, _, rfl, RS1, ?_, hp1, rfl, by simp, ?_, by decide⟩ (fun i σ G _ ⟨_, _, _, _, _, _, _, e, _⟩ => SqL.of e) ?_ ?_⟩
    · intro m
      rw [List.mem_singleton.mp m] at np
      have e := RS0.gr
      cases e with
      | cons q t =>
        obtain ⟨ws, e1, _⟩ := q
        rw [np] at e1
        cases e1
    · exact Nat.le_trans (by decide : mt [[]] ≤ 2) (Nat.le_add_right _ _)
    · rintro i x σ G hi ⟨as, sg, v3, v4, rfl, R', pn, hp, hr', sn, hm, hcn⟩
      rw [List.getElem?_map] at hi
      cases hti : ts[i]? with
      | none =>
        rw [hti] at hi
        cases hi
      | some t =>
        rw [hti] at hi
        cases hi
        obtain ⟨il, ie⟩ := List.getElem?_eq_some_iff.mp hti
        have ed : ts.drop i = t :: ts.drop (i + 1) := by
          rw [List.drop_eq_getElem_cons il, ie]
        rw [ed] at hr'
        have et : ts.take (i + 1) = ts.take i ++ [t] := take_more hti
        have twi : tw (ts.take (i + 1)) = tw (ts.take i) + (t.length + 2) := by rw [et, tw_snoc]
        have lm : tw (ts.take (i + 1)) ≤ 8000 := Nat.le_trans (tw_take ts (i + 1)) h8
        have al := R'.gr.len
        have sl : sg.length ≤ cnt sg := Nat.le_add_left _ _
        have hVG := Vc.same R'.same hV
        refine ⟨_, rfl, rfl, _, rfl, ?_⟩
        by_cases c1 : t = "["
        · subst c1
          refine itY rfl ?_
          rw [rdG_open] at hr'
          refine ⟨_, rfl, .inl ⟨rfl, _, SqL.of R'.beg⟩, (by show 0 ≤ sizeLine; decide), fun a na => ?_⟩
          have s2 : Same G (upd G a (.lst [])) := same_new (fun _ _ e => e) na
          refine ⟨b, _, _, rfl, rfl, s2 _ _ R'.beg, line (by rw [refs_len]; omega), ?_⟩
          refine ⟨a :: as, [] :: sg, _, _, rfl, R'.begin_ na, fun m => ?_, ?_, hr', by simp, ?_, ?_⟩
          · rcases List.mem_cons.mp m with e | m
            · exact ne_of_none hp na e
            · exact pn m
          · rw [upd_ne pb]
            exact s2 _ _ hp
          · rw [mt_cons, twi]
            have : wt [] = 0 := rfl
            omega
          · rw [cnt_cons, List.length_nil]
            omega
        refine itN (fun z => c1 (V.str.inj z)) ?_
        refine ⟨_, rfl, rfl, _, rfl, ?_⟩
        by_cases c2 : t = "]"
        · subst c2
          refine itY rfl ?_
          match sg, as, R', pn, al, hr', sn, hm, hcn with
          | [g], [a], R', pn, al, hr', sn, hm, hcn =>
            refine ⟨_, rfl, b, _, rfl, .inl (SqL.of R'.beg), _, _, rfl, rfl, _, rfl, ?_⟩
            refine itN (by rw [refs_len]; simp) ?_
            refine ⟨_, rfl, rfl, _, rfl, itY rfl ?_⟩
            exact q0 (bad hr' (rdG_close1 _ _ _)) G R'.same
          | g :: h :: r, a :: a2 :: as', R', pn, al, hr', sn, hm, hcn =>
          rw [rdG_close] at hr'
          refine ⟨_, rfl, b, _, rfl, .inl (SqL.of R'.beg), _, _, rfl, rfl, _, rfl, ?_⟩
          refine itY (by rw [refs_len]; simp only [List.length_cons]; omega) ?_
          have eb := refs_cons a (a2 :: as')
          refine ⟨_, rfl, .inl ⟨rfl, _, SqL.of R'.beg⟩, b, _, .ref a, rfl, rfl, R'.beg, by rw [eb]; simp, ?_⟩
          have ep : (refs (a :: a2 :: as')).dropLast = refs (a2 :: as') := by rw [eb, List.dropLast_concat]
          rw [ep]
          obtain ⟨R2, ws, e1, e2⟩ := R'.pop
          have hp2 : upd G b (.lst (refs (a2 :: as'))) p = some (.lst (ts.map V.str)) := by rw [upd_ne pb]; exact hp
          generalize upd G b (.lst (refs (a2 :: as'))) = G2 at R2 e1 e2 hp2 ⊢
          refine ⟨a, _, rfl, .inl ⟨SqL.of e1, fun l nl => ?_⟩⟩
          have s3 : Same G2 (upd G2 l (.tup ws)) := same_new (fun _ _ e => e) nl
          have h3 : upd G2 l (.tup ws) l = some (.tup ws) := upd_same
          generalize upd G2 l (.tup ws) = G3 at s3 h3 ⊢
          rw [mt_cons, mt_cons] at hm
          rw [cnt_cons, cnt_cons] at hcn
          have jl := jt_len g
          have gl : (g.map (·.length)).sum + g.length = wt g := rfl
          dsimp only [tNil]
          refine ⟨l, ws, g, rfl, h3, e2.same s3, by omega, by omega, by omega, fun t4 G4 s4 n4 h4 => ?_⟩
          have R4 := (R2.on s3).on s4
          refine ⟨_, rfl, rfl, _, rfl, itN (fun z => nomatch z) ?_⟩
          obtain ⟨ws2, e5⟩ : ∃ ws2, G4 a2 = some (.lst ws2) := by
            cases R4.gr with
            | cons q _ =>
              obtain ⟨ws2, e, _⟩ := q
              exact ⟨ws2, e⟩
          refine ⟨_, rfl, 1, rfl, b, _, _, .ref a2, rfl, rfl, SqL.of R4.beg, by rw [refs_cons]; exact at_last _ _, .inl ⟨rfl, _, SqL.of e5⟩, _, rfl, a2, _, _, rfl, rfl, e5, ?_, ?_⟩
          · have hl2 : ws2.length = h.length := by
              cases R4.gr with
              | cons q _ =>
                obtain ⟨ws', e, er⟩ := q
                rw [e5] at e
                cases e
                exact er.len
            exact line (by omega)
          · refine ⟨a2 :: as', _, _, _, rfl, R4.add e5 h4, fun m => pn (List.mem_cons_of_mem _ m), ?_, hr', by simp, ?_, ?_⟩
            · rw [upd_ne (show p ≠ a2 from fun z => pn (by rw [z]; exact List.mem_cons_of_mem _ List.mem_cons_self))]
              exact s4 _ _ (s3 _ _ hp2)
            · have ql := qtext_len (jt g)
              have l1 : ("]" : Str).length = 1 := by decide +kernel
              rw [mt_cons, wt_snoc, twi]
              omega
            · rw [cnt_cons, List.length_append, List.length_singleton]
              omega
        · refine itN (fun z => c2 (V.str.inj z)) ?_
          match sg, as, R', pn, al, hr', sn, hm, hcn with
          | g :: r, a :: as', R', pn, al, hr', sn, hm, hcn =>
          have tl1 : t.length ≤ sizeLine := by
            have : (8000 : Nat) ≤ sizeLine := by decide
            omega
          refine ⟨_, rfl, _, rfl, t, o, gs, ys, rfl, hVG, hg, hy, tl1, fun v4 G4 s4 hv => ?_⟩
          cases c3 : isWord ys t with
          | false =>
            rw [c3] at hv
            have e : v4 = .non := hv
            subst e
            refine ⟨_, rfl, rfl, _, rfl, itY rfl ?_⟩
            exact q0 (bad hr' (rdG_bad c1 c2 c3 _ _)) G4 (st R'.same s4)
          | true =>
          rw [c3] at hv
          obtain ⟨t4, k4, d4, rfl, n4, h4⟩ := hv
          rw [rdG_word c1 c2 c3] at hr'
          have R4 := R'.on s4
          refine ⟨_, rfl, rfl, _, rfl, itN (fun z => nomatch z) ?_⟩
          obtain ⟨ws2, e5⟩ : ∃ ws2, G4 a = some (.lst ws2) := by
            cases R4.gr with
            | cons q _ =>
              obtain ⟨ws2, e, _⟩ := q
              exact ⟨ws2, e⟩
          rw [cnt_cons] at hcn
          refine ⟨_, rfl, 1, rfl, b, _, _, .ref a, rfl, rfl, SqL.of R4.beg, by rw [refs_cons]; exact at_last _ _, .inl ⟨rfl, _, SqL.of e5⟩, _, rfl, a, _, _, rfl, rfl, e5, ?_, ?_⟩
          · have hl2 : ws2.length = g.length := by
              cases R4.gr with
              | cons q _ =>
                obtain ⟨ws', e, er⟩ := q
                rw [e5] at e
                cases e
                exact er.len
            exact line (by omega)
          · refine ⟨a :: as', _, _, _, rfl, R4.add e5 h4, pn, ?_, hr', by simp, ?_, ?_⟩
            · rw [upd_ne (show p ≠ a from fun z => pn (by rw [z]; exact List.mem_cons_self))]
              exact s4 _ _ hp
            · rw [mt_cons] at hm
              rw [mt_cons, wt_snoc, twi]
              omega
            · rw [cnt_cons, List.length_append, List.length_singleton]
              omega
    · rintro σ G ⟨as, sg, v3, v4, rfl, R', pn, hp, hr', sn, hm, hcn⟩
      rw [List.length_map, List.drop_length] at hr'
      have hr2 : some sg = rdG (isWord ys) ts [[]] := hr'
      match sg, as, R', R'.gr.len, hr2, sn, hcn with
      | [g], [a], R', _, hr2, _, _ =>
        refine ⟨_, rfl, b, _, rfl, .inl (SqL.of R'.beg), rfl, _, rfl, ?_⟩
        refine itY rfl ?_
        obtain ⟨ws, e1, e2⟩ : ∃ ws, G a = some (.lst ws) ∧ Rw G ws g := by
          cases R'.gr with
          | cons q _ => exact q
        refine ⟨_, rfl, b, _, _, _, rfl, rfl, SqL.of R'.beg, atI_nat (j := 0) rfl, a, _, rfl, .inl ⟨SqL.of e1, fun l nl => ?_⟩⟩
        have s3 : Same G (upd G l (.tup ws)) := same_new (fun _ _ e => e) nl
        refine q g ?_ l ws _ (st R'.same s3) upd_same (e2.same s3)
        unfold rowG
        rw [← hr2]
      | g :: g2 :: r, a :: a2 :: as', R', _, hr2, _, _ =>
        refine ⟨_, rfl, b, _, rfl, .inl (SqL.of R'.beg), rfl, _, rfl, ?_⟩
        refine itN (fun z => ?_) ?_
        · have z2 := V.int.inj z
          rw [refs_len] at z2
          simp only [List.length_cons] at z2
          omega
        · refine q0 ?_ G R'.same
          unfold rowG
          rw [← hr2]
end
end SQ4
/-! own errors without an argument: raised, looked at in a suite; errors by their facts. -/
namespace SQ
open PySem PySem.Spec PyProof.Rows L2
/-- an error class with one field, as the top has made it -/
structure ErX (K : PySem.W.Frag) (mg : Str → Option Value) (x : Str) (C fI : Addr) (f : Str) (bmB : List Value) (newId : String) : Prop where
  g : mg x = some (.ref C)
  T : ErrC K C f bmB newId
  J : ErrI K C fI f
  ty : PySem.W.typeIn K (.ref C) = some (.type "type")
/-- an error class without one -/
structure Er0 (K : PySem.W.Frag) (mg : Str → Option Value) (x : Str) (C : Addr) (bmB : List Value) (newId : String) : Prop where
  g : mg x = some (.ref C)
  ex : PySem.W.excIn K C bmB newId = true
  kp : PySem.W.keepIn K (.ref C) = true
  sb : PySem.W.subIn K (.ref C) (.type "BaseException") = some true
  ty : PySem.W.typeIn K (.ref C) = some (.type "type")
  isc : IsC K C
section
variable {X : Cx} {C : Addr} {x : Str} {B newId initId : String} {bmB : List Value} {p pos : Pos}
theorem pmk_own0 (FB : ExcBaseFacts B newId initId bmB) (Z : Er0 X.K X.mg x C bmB newId) (hg : Gl X x) (hdb : (x == ("__debug__" : Str)) = false := by decide) : PMk X (.Call (.Name x p) [] [] pos) (fun _ H Q => Q (.ref C) none H) := by
  intro pins s σ H Q I h
  refine wpAny_Call_Name_kw (ld_glob I hg Z.g (PySem.W.callWith_K0 I.kIn Z.kp ?_) hdb)
  show wpAny _ _ (call (.ref C) []) _ _ _
  obtain ⟨bm, N, nm, qn, bs, hdct, sn, sub, ab, col, dd, k0, k1, k2, k3, k5, mN, hC, hN, hni, T⟩ := exc_obj I.kIn Z.ex
  exact wpAny_call_exc_subT FB T hC hN hni (fun h' a hm => mk_of I hm (raises_own Z.sb Z.ty) h (I.hok.gone hm.new)) (Nat.zero_le _)
variable {a : Addr} {oe : Obj} {cls : Value} {d : Option Addr} {pn : List (Addr × Obj)}
end
end SQ
namespace SQ4
open PySem L2 SQ
abbrev sMs : Stmt := top 51
abbrev sMd : Stmt := top 52
abbrev sCv : Stmt := top 54
abbrev sCl : Stmt := top 58
abbrev bmV : List Value := [.type "ValueError", .type "Exception", .type "BaseException", .type "object"]
abbrev bmA : List Value := [.type "ArithmeticError", .type "Exception", .type "BaseException", .type "object"]
abbrev bmT : List Value := [.type "TypeError", .type "Exception", .type "BaseException", .type "object"]
def sizeT (ts : List Str) : Int := (ts.length : Int) - (ts.count ("]" : Str) : Nat)
def dstep (a : Int × Int) (t : Str) : Int × Int := if t = "[" then (a.1 + 1, if a.1 + 1 > a.2 then a.1 + 1 else a.2) else if t = "]" then (a.1 - 1, a.2) else a
def depthT (ts : List Str) : Int := (ts.foldl dstep (0, 0)).2
section
variable {P : Program} {w : World} {K : PySem.W.Frag} {mg : Str → Option Value} {base : Heap} {C : Addr}
theorem scMs : FnScope ["text", "tokens"] ["text"] (defScope sMs) := ⟨rfl, rfl, rfl, by decide +kernel, rfl, by decide +kernel, by decide +kernel⟩
theorem scMd : FnScope ["text", "depth", "deepest", "token"] ["text"] (defScope sMd) := ⟨rfl, rfl, rfl, by decide +kernel, rfl, by decide +kernel, by decide +kernel⟩
/-! ### the limits -/
def spCl (CL CD : Addr) : Sp := fun vs H Q E => ∃ n m : Int, vs = [.int n, .int m] ∧ (60 < n → ∀ d H', Same H H' → H d = none → H' d = some (.xd [("limit", .int 60)]) → E (.ref CL) (some d) H') ∧ (¬ 60 < n → 6 < m → ∀ d H', Same H H' → H d = none → H' d = some (.xd [("limit", .int 6)]) → E (.ref CD) (some d) H') ∧ (¬ 60 < n → ¬ 6 < m → Q .non H)
theorem scCl : FnScope ["size", "depth"] ["size", "depth"] (defScope sCl) := ⟨rfl, rfl, rfl, by decide +kernel, rfl, by decide +kernel, by decide +kernel⟩
theorem ok_cl {f CL CD fL fD : Addr} {fd : FuncData} (F : Fun K "check_limits" "check_limits" sCl f fd) (W : W6 mg) (ZL : ErX K mg "TooLarge" CL fL "limit" bmA "ArithmeticError.__new__") (ZD : ErX K mg "TooDeep" CD fD "limit" bmA "ArithmeticError.__new__") : FnOk P w K mg base (L2.CX P w) 2 f fd ["size", "depth"] (spCl CL CD) := by
  refine F.okX scCl (fun vs H Q E h => ?_) (fun cdv A outer s H vs Q E hr h => ?_)
  · obtain ⟨n, m, rfl, _⟩ := h
    rfl
  · obtain ⟨n, m, rfl, k1, k2, k3⟩ := h
    obtain ⟨t1, g1⟩ := W.msz
    obtain ⟨t2, g2⟩ := W.mnd
    refine ⟨_, pss_cons (ps_if (pt_cmpR op_gt (pv 0) (pe_glob (v := .int 60) rfl g1 ⟨_, rfl⟩) (nomark _)) (pss_one (ps_raise rfl (takes_of rfl rfl rfl rfl) (pmk_of5 (pmk5_err (.inr (.inr rfl)) bArith ZL.T ZL.J ZL.ty ZL.g (dp_of hr) rfl (pe_glob (v := .int 60) rfl g1 ⟨_, rfl⟩))))) pss_nil)
      (pss_one (ps_if (pt_cmpR op_gt (pv 1) (pe_glob (v := .int 6) rfl g2 ⟨_, rfl⟩) (nomark _)) (pss_one (ps_raise rfl (takes_of rfl rfl rfl rfl) (pmk_of5 (pmk5_err (.inr (.inr rfl)) bArith ZD.T ZD.J ZD.ty ZD.g (dp_of hr) rfl (pe_glob (v := .int 6) rfl g2 ⟨_, rfl⟩))))) pss_nil)), ?_⟩
    refine ⟨_, rfl, _, _, rfl, rfl, _, rfl, ?_⟩
    by_cases h1 : 60 < n
    · refine itY h1 ?_
      exact fun d nd => k1 h1 d _ (same_new (fun _ _ e => e) nd) nd upd_same
    refine itN h1 ?_
    refine ⟨_, rfl, _, _, rfl, rfl, _, rfl, ?_⟩
    by_cases h2 : 6 < m
    · refine itY h2 ?_
      exact fun d nd => k2 h1 h2 d _ (same_new (fun _ _ e => e) nd) nd upd_same
    · exact itN h2 (k3 h1 h2)
end
end SQ4
namespace SQ4
open PySem L2 SQ
abbrev sPI_ : Stmt := inClass (top 59) 0
structure IC (K : PySem.W.Frag) (C : Addr) : Prop where
  cl : Cls K C
  ha : PySem.W.findIn K (.ref C) "__class__" = some (some (.builtin "object.__class__"))
  hn : PySem.W.specialIn K (.builtin "object.__class__") "__get__" = some (some (.builtin "getset_descriptor.__get__"))
  htk : PySem.W.takesIn K (.builtin "object.__class__") = some true
  hm : PySem.W.mroIn K C (.type "object") = some true
  self : PySem.W.kitOne K (.ref C) (.ref C) = some true
theorem IC.ty {K : PySem.W.Frag} {C a dx : Addr} {H : Hp} {fs : List (Str × V)} (T : IC K C) (e : H a = some (.ins C dx fs)) : TyX K H (.ref a) (.ref C) := .base (.ins e T.cl T.ha T.hn T.htk T.hm)
/-- the class Program, as the top has made it -/
structure PC (K : PySem.W.Frag) (mg : Str → Option Value) (C : Addr) : Prop where
  g : mg "Program" = some (.ref C)
  cl : Cls K C
  nV : NoAttr K C "vocabulary"
  nT : NoAttr K C "text"
  nR : NoAttr K C "row"
  nW : NoAttr K C "words"
  nS : NoAttr K C "size"
def pfl (o r tW : Addr) (x : Str) (n : Int) : List (Str × V) := putF "size" (.int n) (putF "words" (.ref tW) (putF "row" (.ref r) (putF "text" (.str x) (putF "vocabulary" (.ref o) []))))
/-- a program at p: its vocabulary at o, its tokens ts, its words xs -/
def Pg (CP : Addr) (H : Hp) (p o : Addr) (ts xs : List Str) : Prop := ∃ dx r tW, H p = some (.ins CP dx (pfl o r tW (jt ts) (sizeT ts))) ∧ H tW = some (.tup (xs.map V.str))
theorem Pg.same {CP : Addr} {H H' : Hp} {p o : Addr} {ts xs : List Str} (s : Same H H') (h : Pg CP H p o ts xs) : Pg CP H' p o ts xs := by
  obtain ⟨dx, r, tW, h1, h2⟩ := h
  exact ⟨dx, r, tW, s _ _ h1, s _ _ h2⟩
/-- tokens of the law's programs -/
structure Good (ts xs : List Str) : Prop where
  tok : ∀ t ∈ ts, isTok t
  len : ts.length ≤ 200
  rd : rd ts [[]] = some [xs]
section
variable {P : Program} {w : World} {K : PySem.W.Frag} {mg : Str → Option Value} {base : Heap} {C CP : Addr}
def spCv (C : Addr) : Sp := fun vs H Q _ => ∃ (o dx : Addr) (fs : List (Str × V)), vs = [.ref o] ∧ H o = some (.ins C dx fs) ∧ Q .non H
theorem scCv : FnScope ["value"] ["value"] (defScope sCv) := ⟨rfl, rfl, rfl, by decide +kernel, rfl, by decide +kernel, by decide +kernel⟩
theorem ok_cv {f : Addr} {fd : FuncData} (F : Fun K "check_vocabulary" "check_vocabulary" sCv f fd) (B : B2 mg) (VV : VC K mg C) (T : IC K C) : FnOk P w K mg base CX0 1 f fd ["value"] (spCv C) := by
  refine F.ok scCv (fun vs H Q E h => ?_) (fun cdv A outer s H vs Q E hr h => ?_)
  · obtain ⟨o, dx, fs, rfl, _⟩ := h
    rfl
  · obtain ⟨o, dx, fs, rfl, ho, q⟩ := h
    refine ⟨_, pss_one (ps_if (pt_not (pt_val (pe_callB call_isi (by rfl) B.isi (by decide +kernel) (pa_cons (pv 0) (pa_cons (pe_glob (v := .ref C) rfl VV.g rfl) pa_nil))))) (pss_one ps_never) pss_nil), ?_⟩
    exact ⟨_, rfl, _, _, _, _, true, rfl, .own C, T.ty ho, T.self, _, rfl, iteF q⟩
/-- the ways out of Program(..) -/
structure Lim (CL CD : Addr) (ts : List Str) (H : Hp) (R : Prop) (E : XK) : Prop where
  big : 60 < sizeT ts → ∀ d H', Same H H' → H' d = some (.xd [("limit", .int 60)]) → E (.ref CL) (some d) H'
  deep : ¬ 60 < sizeT ts → 6 < depthT ts → ∀ d H', Same H H' → H' d = some (.xd [("limit", .int 6)]) → E (.ref CD) (some d) H'
  fit : ¬ 60 < sizeT ts → ¬ 6 < depthT ts → R
def spPI (CP C CL CD : Addr) : Sp := fun vs H Q E => ∃ (p o dx : Addr) (gs : List G3) (ts xs : List Str), vs = [.ref p, .ref o, .str (jt ts)] ∧ H p = some (.ins CP dx []) ∧ Vc C H o gs [("t" : Str)] ∧ gnames gs = [("t" : Str)] ∧ Good ts xs ∧
  Lim CL CD ts H (∀ H', But p H H' → Pg CP H' p o ts xs → Q .non H') E
theorem scPr : FnScope ["self", "vocabulary", "text", "row", "size", "word"] ["self", "vocabulary", "text"] (defScope sPI_) := ⟨rfl, rfl, rfl, by decide +kernel, rfl, by decide +kernel, by decide +kernel⟩
end
end SQ4
namespace SQ4
open PySem L2 SQ
/-- tokens within the bounds that are kept here -/
structure TB (ts : List Str) : Prop where
  sf : SfT ts
  len : ts.length ≤ 900
  wt : tw ts ≤ 8000
theorem TB.jl {ts : List Str} (h : TB ts) : (jt ts).length ≤ 10000 := by
  have h1 := jt_len ts
  have h2 := h.wt
  unfold SQ4.wt at h1
  unfold tw at h2
  omega
theorem rdG_cnt {ok : Str → Bool} : ∀ {ts : List Str} {s u : List (List Str)}, rdG ok ts s = some u → cnt u ≤ cnt s + ts.length
  | [], s, u, h => by
    cases h
    exact Nat.le_add_right _ _
  | t :: ts, s, u, h => by
    rw [List.length_cons]
    by_cases c1 : t = "["
    · subst c1
      rw [rdG_open] at h
      have := rdG_cnt h
      rw [cnt_cons, List.length_nil] at this
      omega
    by_cases c2 : t = "]"
    · subst c2
      match s, h with
      | [], h =>
        unfold rdG at h
        rw [if_neg (by decide +kernel), if_pos rfl] at h
        cases h
      | [g], h =>
        rw [rdG_close1] at h
        cases h
      | g :: k :: r, h =>
        rw [rdG_close] at h
        have := rdG_cnt h
        rw [cnt_cons, List.length_append, List.length_singleton] at this
        rw [cnt_cons, cnt_cons]
        omega
    · cases c3 : ok t with
      | false =>
        rw [rdG_bad c1 c2 c3] at h
        cases h
      | true =>
        match s, h with
        | [], h =>
          unfold rdG at h
          rw [if_neg c1, if_neg c2, if_pos c3] at h
          cases h
        | g :: r, h =>
          rw [rdG_word c1 c2 c3] at h
          have := rdG_cnt h
          rw [cnt_cons, List.length_append, List.length_singleton] at this
          rw [cnt_cons]
          omega
theorem rowG_cnt {ok : Str → Bool} {ts xs : List Str} (h : rowG ok ts = some xs) : xs.length ≤ ts.length := by
  unfold rowG at h
  split at h
  · rename_i ys e
    cases h
    have := rdG_cnt e
    have c1 : cnt [xs] = xs.length + 1 + 0 := cnt_cons xs []
    have c2 : cnt [([] : List Str)] = 1 := by decide
    omega
  · cases h
section
variable {P : Program} {w : World} {K : PySem.W.Frag} {mg : Str → Option Value} {base : Heap} {C CP : Addr}
def spMsG : Sp := fun vs H Q _ => ∃ ts : List Str, vs = [.str (jt ts)] ∧ TB ts ∧ ∀ H', Same H H' → Q (.int (sizeT ts)) H'
theorem ok_msG {f fS : Addr} {fd dS : FuncData} (F : Fun K "measure_size" "measure_size" sMs f fd) (B : B2 mg) (gS : mg "split_tokens" = some (.ref fS)) (kS : PySem.W.keepIn K (.ref fS) = true) (bS : Binds K dS ["text"] []) (GS : FnOk P w K mg base CX0 1 fS dS ["text"] spSpG) : FnOk P w K mg base CX0 2 f fd ["text"] spMsG := by
  refine F.ok scMs (fun vs H Q E h => ?_) (fun cdv A outer s H vs Q E hr h => ?_)
  · obtain ⟨ts, rfl, _⟩ := h
    rfl
  · obtain ⟨ts, rfl, ht, q⟩ := h
    refine ⟨_, pss_cons (ps_set (i := 1) scMs.nd rfl (.inl rfl) (pe_call GS hr rfl gS kS bS .nil pass0 (pa_cons (pv 0) pa_nil)))
      (pss_one (ps_ret (pe_op op_sub (pe_callB call_len_seq (by rfl) B.len PySem.boot_len (pa_cons (pv 1) pa_nil)) (pe_bm PySem.F.plainAttrs_list PySem.F.slot_list_count PySem.F.type_list_count mt_countS (pv 1) (pa_cons pe_str pa_nil))))), ?_⟩
    refine ⟨_, rfl, ts, rfl, ht.sf, ht.jl, fun p np => ?_⟩
    refine ⟨_, rfl, p, _, rfl, .inl (SqL.of upd_same), _, rfl, .inl ⟨rfl, _, SqL.of upd_same⟩, p, ts, _, rfl, rfl, SqL.of upd_same, _, _, rfl, rfl, ?_⟩
    rw [List.length_map]
    exact q _ (same_new (fun _ _ e => e) np)
def spMdG : Sp := fun vs H Q _ => ∃ ts : List Str, vs = [.str (jt ts)] ∧ TB ts ∧ ∀ H', Same H H' → Q (.int (depthT ts)) H'
theorem ok_mdG {f fS : Addr} {fd dS : FuncData} (F : Fun K "measure_depth" "measure_depth" sMd f fd) (BL : Blt mg) (gS : mg "split_tokens" = some (.ref fS)) (kS : PySem.W.keepIn K (.ref fS) = true) (bS : Binds K dS ["text"] []) (GS : FnOk P w K mg base CX0 1 fS dS ["text"] spSpG) : FnOk P w K mg base CX0 2 f fd ["text"] spMdG := by
  refine F.ok scMd (fun vs H Q E h => ?_) (fun cdv A outer s H vs Q E hr h => ?_)
  · obtain ⟨ts, rfl, _⟩ := h
    rfl
  · obtain ⟨ts, rfl, ht, q⟩ := h
    refine ⟨_, pss_cons (ps_asg2 pe_int (pg_name (i := 1) scMd.nd rfl (.inl rfl)) (pg_name (i := 2) scMd.nd rfl (.inl rfl)))
      (pss_cons (ps_for PassesOwn.never rfl (pi_list (pe_call GS hr rfl gS kS bS .nil pass0 (pa_cons (pv 0) pa_nil))) (pg_name (i := 3) scMd.nd rfl (.inl rfl))
        (pss_one (ps_if (pt_cmpR op_eq (pv 3) pe_str (nomark _)) (pss_cons (ps_aug (i := 1) scMd.nd rfl (.inl rfl) pe_int ip_add) (pss_one (ps_set (i := 2) scMd.nd rfl (.inl rfl) (pe_callB (call_max2 rfl) (by rfl) BL.max (by decide +kernel) (pa_cons (pv 2) (pa_cons (pv 1) pa_nil))))))
          (pss_one (ps_if (pt_cmpR op_eq (pv 3) pe_str (nomark _)) (pss_one (ps_aug (i := 1) scMd.nd rfl (.inl rfl) pe_int ip_sub)) pss_nil)))))
      (pss_one (ps_ret (pv 2)))), ?_⟩
    refine ⟨_, rfl, ts, rfl, ht.sf, ht.jl, fun p np => ?_⟩
    have s1 : Same H (upd H p (.lst (ts.map V.str))) := same_new (fun _ _ e => e) np
    have hp1 : upd H p (.lst (ts.map V.str)) p = some (.lst (ts.map V.str)) := upd_same
    generalize upd H p (.lst (ts.map V.str)) = G1 at s1 hp1 ⊢
    refine ⟨p, rfl, ⟨_, SqL.of hp1⟩, for_list (K := K) (a := p) (xs := ts.map V.str) (fun i σ G => ∃ v3, σ = [some (.str (jt ts)), some (.int ((ts.take i).foldl dstep (0, 0)).1), some (.int ((ts.take i).foldl dstep (0, 0)).2), v3] ∧ G = G1)
      ⟨_, rfl, rfl⟩ (fun i σ G _ ⟨_, _, e⟩ => by rw [e]; exact SqL.of hp1) ?_ ?_⟩
    · rintro i x σ G hi ⟨v3, rfl, rfl⟩
      rw [List.getElem?_map] at hi
      cases hti : ts[i]? with
      | none =>
        rw [hti] at hi
        cases hi
      | some t =>
        rw [hti] at hi
        cases hi
        have et : (ts.take (i + 1)).foldl dstep (0, 0) = dstep ((ts.take i).foldl dstep (0, 0)) t := by
          rw [take_more hti, List.foldl_append]
          rfl
        rw [et]
        generalize (ts.take i).foldl dstep (0, 0) = a
        obtain ⟨d, m⟩ := a
        refine ⟨_, rfl, rfl, _, rfl, ?_⟩
        unfold dstep
        by_cases c1 : t = "["
        · rw [if_pos c1]
          subst c1
          refine itY rfl ?_
          refine ⟨_, rfl, _, _, rfl, rfl, _, rfl, _, rfl, _, _, rfl, ?_⟩
          exact ⟨_, rfl, rfl⟩
        rw [if_neg c1]
        refine itN (fun z => c1 (V.str.inj z)) ?_
        refine ⟨_, rfl, rfl, _, rfl, ?_⟩
        by_cases c2 : t = "]"
        · rw [if_pos c2]
          subst c2
          refine itY rfl ?_
          refine ⟨_, rfl, _, _, rfl, rfl, ?_⟩
          exact ⟨_, rfl, rfl⟩
        · rw [if_neg c2]
          refine itN (fun z => c2 (V.str.inj z)) ?_
          exact ⟨_, rfl, rfl⟩
    · rintro σ G ⟨v3, rfl, rfl⟩
      rw [List.length_map, List.take_length]
      exact ⟨_, rfl, q _ s1⟩
def spPIG (K : PySem.W.Frag) (CP C CI CL CD : Addr) : Sp := fun vs H Q E => ∃ (p o dx : Addr) (v : V) (gs : List G3) (ys : List Str), vs = [.ref p, .ref o, v] ∧ H p = some (.ins CP dx []) ∧ Vc C H o gs ys ∧ (∀ n ∈ ys, n ∈ gnames gs) ∧ ys.length ≤ 1000 ∧
  ((∃ t, TyX K H v t ∧ PySem.W.kitOne K t (.type "str") = some false ∧ ∀ d H', Same H H' → H' d = some (.xd [("value", v)]) → E (.ref CI) (some d) H') ∨
   ∃ ts, v = .str (jt ts) ∧ TB ts ∧ (rowG (isWord ys) ts = none → ∀ d H', Same H H' → H' d = some (.xd [("value", v)]) → E (.ref CI) (some d) H') ∧
     ∀ xs, rowG (isWord ys) ts = some xs → Lim CL CD ts H (∀ H', But p H H' → Pg CP H' p o ts xs → Q .non H') E)
/-- what Program.__init__ calls -/
structure I6G (P : Program) (w : World) (K : PySem.W.Frag) (mg : Str → Option Value) (base : Heap) (C CL CD fV fR fM fD fL : Addr) (dV dR dM dD dL : FuncData) : Prop where
  gV : mg "check_vocabulary" = some (.ref fV)
  kV : PySem.W.keepIn K (.ref fV) = true
  bV : Binds K dV ["value"] []
  GV : FnOk P w K mg base CX0 1 fV dV ["value"] (spCv C)
  gR : mg "read_row" = some (.ref fR)
  kR : PySem.W.keepIn K (.ref fR) = true
  bR : Binds K dR ["text", "vocabulary"] []
  GR : FnOk P w K mg base CX0 4 fR dR ["text", "vocabulary"] (spRRG C)
  gM : mg "measure_size" = some (.ref fM)
  kM : PySem.W.keepIn K (.ref fM) = true
  bM : Binds K dM ["text"] []
  GM : FnOk P w K mg base CX0 2 fM dM ["text"] spMsG
  gD : mg "measure_depth" = some (.ref fD)
  kD : PySem.W.keepIn K (.ref fD) = true
  bD : Binds K dD ["text"] []
  GD : FnOk P w K mg base CX0 2 fD dD ["text"] spMdG
  gL : mg "check_limits" = some (.ref fL)
  kL : PySem.W.keepIn K (.ref fL) = true
  bL : Binds K dL ["size", "depth"] []
  GL : FnOk P w K mg base (L2.CX P w) 2 fL dL ["size", "depth"] (spCl CL CD)
theorem ok_piG {f CI fI CL CD fV fR fM fD fL : Addr} {fd dV dR dM dD dL : FuncData} (F : Fun K "__init__" "Program.__init__" sPI_ f fd) (B : B2 mg) (PV : PC K mg CP) (ZI : ErX K mg "InvalidText" CI fI "value" bmV "ValueError.__new__") (I : I6G P w K mg base C CL CD fV fR fM fD fL dV dR dM dD dL) : FnOk P w K mg base (L2.CX P w) 5 f fd ["self", "vocabulary", "text"] (spPIG K CP C CI CL CD) := by
  refine F.okX scPr (fun vs H Q E h => ?_) (fun cdv A outer s H vs Q E hr h => ?_)
  · obtain ⟨p, o, dx, v, gs, ys, rfl, _⟩ := h
    rfl
  · obtain ⟨p, o, dx, v, gs, ys, rfl, hp, hV, hg, hy, hh⟩ := h
    refine ⟨_, pss_cons (ps_expr (pe_call I.GV (hr.mono (by decide)) rfl I.gV I.kV I.bV .nil pass0 (pa_cons (pv 1) pa_nil)))
      (pss_cons (ps_set (i := 3) scPr.nd rfl (.inl rfl) (pe_ifExp (pt_val (pe_callB call_isi (by rfl) B.isi (by decide +kernel) (pa_cons (pv 2) (pa_cons (pe_bltn (v := .ty "str") (by rfl) B.str (by decide +kernel) rfl) pa_nil)))) (pe_call I.GR hr rfl I.gR I.kR I.bR .nil pass0 (pa_cons (pv 2) (pa_cons (pv 1) pa_nil))) pe_non))
      (pss_cons (ps_if (pt_cmpR op_isN (pv 3) pe_non (nomark _)) (pss_one (ps_raise rfl (takes_of rfl rfl rfl rfl) (pmk_of5 (pmk5_err (.inl rfl) bValue ZI.T ZI.J ZI.ty ZI.g (dp_of hr) rfl (pv 2))))) pss_nil)
      (pss_cons (ps_set (i := 4) scPr.nd rfl (.inl rfl) (pe_call I.GM (hr.mono (by decide)) rfl I.gM I.kM I.bM .nil pass0 (pa_cons (pv 2) pa_nil)))
      (pss_cons (ps_expr (pe_call I.GL (hr.mono (by decide)) rfl I.gL I.kL I.bL .nil (passes_call (takes_of rfl rfl rfl rfl) (fun _ _ _ _ h => h)) (pa_cons (pv 4) (pa_cons (pe_call I.GD (hr.mono (by decide)) rfl I.gD I.kD I.bD .nil pass0 (pa_cons (pv 2) pa_nil)) pa_nil))))
      (pss_cons (ps_fld (pv 0) (pv 1) rfl)
      (pss_cons (ps_fld (pv 0) (pv 2) rfl)
      (pss_cons (ps_fld (pv 0) (pv 3) rfl)
      (pss_cons (ps_fld (pv 0) (pe_callTy call_tuple_of (by rfl) B.tuple (by decide +kernel) (pa_cons (pe_lc (own := [("word", 5)]) (g := gName 5) (tt := tYes) rfl scPr.nd (pi_tup (pv 3)) (blkOk_by (N := ["self", "vocabulary", "text", "row", "size", "word"]) (sc := defScope sPI_) (by decide +kernel)) (fun _ _ _ _ _ => pg_name (i := 5) scPr.nd rfl (.inl rfl)) (fun _ _ _ _ _ => pts_nil) (fun _ _ _ _ _ => pe_ix (ixT (K := K) rfl) (pv 5) pe_int (fun _ _ => rfl))) pa_nil)) rfl)
      (pss_one (ps_fld (pv 0) (pv 4) rfl)))))))))), ?_⟩
    have hV0 := hV
    obtain ⟨dv, dA, tN, kvs, ho, _⟩ := hV0
    refine ⟨_, rfl, o, dv, _, rfl, ho, ?_⟩
    rcases hh with ⟨t, ty, ki, bad⟩ | ⟨ts, rfl, T, bad, L0⟩
    · refine ⟨_, rfl, v, .ty "str", t, .type "str", false, rfl, .ty "str", ty, ki, _, rfl, iteF ?_⟩
      refine ⟨_, rfl, rfl, _, rfl, itY rfl ?_⟩
      exact ⟨_, rfl, fun d nd => bad d _ (same_new (fun _ _ e => e) nd) upd_same⟩
    refine ⟨_, rfl, .str (jt ts), .ty "str", .type "str", .type "str", true, rfl, .ty "str", .base (.str _), kit_ty (by decide +kernel), _, rfl, iteT ?_⟩
    refine ⟨_, rfl, _, rfl, ts, o, gs, ys, rfl, hV, hg, hy, T.sf, T.len, T.wt, fun hb H1 s1 => ?_, fun xs hx r ws H1 s1 h1 hw => ?_⟩
    · refine ⟨_, rfl, rfl, _, rfl, itY rfl ?_⟩
      exact ⟨_, rfl, fun d nd => bad hb d _ (same_new s1 nd) upd_same⟩
    have L := L0 xs hx
    refine ⟨_, rfl, rfl, _, rfl, itN (fun z => nomatch z) ?_⟩
    refine ⟨_, rfl, ts, rfl, T, fun H2 s2 => ?_⟩
    refine ⟨_, rfl, _, rfl, ts, rfl, T, fun H3 s3 => ?_⟩
    have t3 : Same H H3 := st s1 (st s2 s3)
    refine ⟨_, _, rfl, fun b d H' s' _ hd => L.big b d H' (st t3 s') hd, fun b c d H' s' _ hd => L.deep b c d H' (st t3 s') hd, fun b c => ?_⟩
    have q := L.fit b c
    have hp3 := t3 _ _ hp
    have hr3 := s3 _ _ (s2 _ _ h1)
    have hw3 := (hw.same s2).same s3
    refine ⟨_, rfl, _, rfl, p, CP, dx, [], rfl, hp3, PV.cl, PV.nV, (by show 0 < 1000; decide), ?_⟩
    have b4 : But p H3 (upd H3 p (.ins CP dx (putF "vocabulary" (.ref o) []))) := But.refl.put
    have hp4 : upd H3 p (.ins CP dx (putF "vocabulary" (.ref o) [])) p = some (.ins CP dx (putF "vocabulary" (.ref o) [])) := upd_same
    generalize upd H3 p (.ins CP dx (putF "vocabulary" (.ref o) [])) = H4 at b4 hp4 ⊢
    refine ⟨_, rfl, _, rfl, p, CP, dx, _, rfl, hp4, PV.cl, PV.nT, (by show 1 < 1000; decide), ?_⟩
    have b5 : But p H4 (upd H4 p (.ins CP dx (putF "text" (.str (jt ts)) (putF "vocabulary" (.ref o) [])))) := But.refl.put
    have hp5 : upd H4 p (.ins CP dx (putF "text" (.str (jt ts)) (putF "vocabulary" (.ref o) []))) p = some (.ins CP dx (putF "text" (.str (jt ts)) (putF "vocabulary" (.ref o) []))) := upd_same
    generalize upd H4 p (.ins CP dx (putF "text" (.str (jt ts)) (putF "vocabulary" (.ref o) []))) = H5 at b5 hp5 ⊢
    refine ⟨_, rfl, _, rfl, p, CP, dx, _, rfl, hp5, PV.cl, PV.nR, (by show 2 < 1000; decide), ?_⟩
    have b6 : But p H5 (upd H5 p (.ins CP dx (putF "row" (.ref r) (putF "text" (.str (jt ts)) (putF "vocabulary" (.ref o) []))))) := But.refl.put
    have hp6 : upd H5 p (.ins CP dx (putF "row" (.ref r) (putF "text" (.str (jt ts)) (putF "vocabulary" (.ref o) [])))) p = some (.ins CP dx (putF "row" (.ref r) (putF "text" (.str (jt ts)) (putF "vocabulary" (.ref o) [])))) := upd_same
    generalize upd H5 p (.ins CP dx (putF "row" (.ref r) (putF "text" (.str (jt ts)) (putF "vocabulary" (.ref o) [])))) = H6 at b6 hp6 ⊢
    have bb : But p H3 H6 := (b4.trans b5).trans b6
    have rp : r ≠ p := ne_of hr3 hp3 (by intro z; cases z)
    have hr6 : H6 r = some (.tup ws) := bb _ _ hr3 rp
    have hw6 : Rw H6 ws xs := Paired.mapP hw3 fun _ _ ⟨t, k, d, e1, e2⟩ => ⟨t, k, d, e1, bb _ _ e2 (ne_of e2 hp3 (by intro z; cases z))⟩
    have few : xs.length ≤ 900 := Nat.le_trans (rowG_cnt hx) T.len
    refine ⟨_, rfl, r, rfl, ⟨_, SqT.of hr6⟩, fun D nD => ?_⟩
    refine lc_tup (K := K) (a := r) (xs := ws) (fun i G => Same H6 G ∧ G D = some (.lst ((xs.take i).map V.str))) ⟨same_new (fun _ _ e => e) nD, upd_same⟩ (fun i G _ h => SqT.of (h.1 _ _ hr6)) ?_ ?_
    · rintro i v G' hi ⟨sG, hD⟩
      obtain ⟨x, hx', t, k, d, rfl, e2⟩ := Paired.at (F := _) hw6 hi
      have hl : (xs.take i).length ≤ 900 := by rw [List.length_take]; omega
      refine ⟨rfl, keptT ⟨_, rfl, t, _, 1, _, rfl, rfl, SqT.of (sG _ _ e2), rfl, _, hD, small1000 (by rw [List.length_map]; omega), ?_, ?_⟩⟩
      · intro b ob e
        rw [upd_ne (ne_of_none e nD)]
        exact sG _ _ e
      · rw [upd_same, take_more hx', List.map_append]
        rfl
    · rintro G' ⟨sG, hD⟩
      have hl : ws.length = xs.length := hw.len
      rw [hl, List.take_length] at hD
      refine ⟨D, _, rfl, .inl ⟨SqL.of hD, fun l nl => ?_⟩⟩
      have s8 : Same G' (upd G' l (.tup (xs.map V.str))) := same_new (fun _ _ e => e) nl
      have h8 : upd G' l (.tup (xs.map V.str)) l = some (.tup (xs.map V.str)) := upd_same
      generalize upd G' l (.tup (xs.map V.str)) = H8 at s8 h8 ⊢
      have hp8 := s8 _ _ (sG _ _ hp6)
      refine ⟨_, rfl, p, CP, dx, _, rfl, hp8, PV.cl, PV.nW, (by show 3 < 1000; decide), ?_⟩
      have b9 : But p H8 (upd H8 p (.ins CP dx (putF "words" (.ref l) (putF "row" (.ref r) (putF "text" (.str (jt ts)) (putF "vocabulary" (.ref o) [])))))) := But.refl.put
      have hp9 : upd H8 p (.ins CP dx (putF "words" (.ref l) (putF "row" (.ref r) (putF "text" (.str (jt ts)) (putF "vocabulary" (.ref o) []))))) p = some (.ins CP dx (putF "words" (.ref l) (putF "row" (.ref r) (putF "text" (.str (jt ts)) (putF "vocabulary" (.ref o) []))))) := upd_same
      generalize upd H8 p (.ins CP dx (putF "words" (.ref l) (putF "row" (.ref r) (putF "text" (.str (jt ts)) (putF "vocabulary" (.ref o) []))))) = H9 at b9 hp9 ⊢
      refine ⟨_, rfl, _, rfl, p, CP, dx, _, rfl, hp9, PV.cl, PV.nS, (by show 4 < 1000; decide), ?_⟩
      have lp : l ≠ p := ne_of h8 hp8 (by intro z; cases z)
      refine q _ ((((Same.but t3).trans bb).trans (Same.but sG)).trans ((Same.but s8).trans (b9.trans But.refl.put))) ⟨dx, r, l, upd_same, ?_⟩
      rw [upd_ne lp]
      exact b9 _ _ h8 lp
end
end SQ4
/-! == of two own instances of one class with __eq__. -/
namespace SQ
open PySem PySem.Spec PyProof.Rows L2
open PySem.W (InstAt findIn isFn subIn)
section
variable {prog : Program} {w : World} {A : Around} {E : Value → Shared → Prop} {s : Shared} {K : PySem.W.Frag} {x y C f : Addr} {ox oy : Obj} {od oe : Option Obj}
theorem rc_eqO {Q : Value → Shared → Prop} (X : K.In s.heap) (I : InstAt s.heap x ox C od) (J : InstAt s.heap y oy C oe) (hu0 : A.units < cLine) (he : findIn K (.ref C) "__eq__" = some (some (.ref f))) (hf : isFn K (.ref f) = true)
    (h : wpAny (model prog w) A (call (.ref f) [.ref x, .ref y]) (fun v s' => ∃ b, v = .bool b ∧ Q v s') E s) : wpAny (model prog w) A (richCompare .Eq (.ref x) (.ref y)) Q E s := by
  have one : wpAny (model prog w) A (tryCompare (.ref x) "__eq__" (.ref y)) (fun r s' => ∃ b, r = some (.bool b) ∧ Q (.bool b) s') E s := by
    unfold tryCompare
    refine wpAny_bind (PySem.W.ifBound_K X I he hf (wpAny_mono h ?_ fun _ _ z => z))
    rintro v s' ⟨b, rfl, q⟩
    exact wpAny_pure ⟨b, rfl, q⟩
  unfold richCompare
  simp only [oneThing_ref]
  refine wpAny_holding (wpAny_bind (wpAny_cRoomFor hu0 (wpAny_bind (I.type.here (wpAny_bind (J.type.here ?_))))))
  have ne : (Value.ref C != Value.ref C) = false := by simp
  rw [ne]
  simp only [Bool.false_eq_true, if_false]
  refine wpAny_bind (wpAny_pure ?_)
  simp only [Bool.false_eq_true, if_false]
  refine wpAny_bind (wpAny_mono one ?_ fun _ _ z => z)
  rintro r s' ⟨b, rfl, q⟩
  exact wpAny_pure q
end
theorem op_eqOwn {X : Cx} {k : Nat} {f C : Addr} {sp : Sp} (F : FnR X.prog X.w X.K X.mg X.base CX0 k f sp) (hr : Room k X.A) (T : CmpC X.K C f) :
    OpR X (compareOp .Eq) (fun x y H Q => ∃ (a b dx dy : Addr) (fs gs : List (Str × V)), x = .ref a ∧ y = .ref b ∧ H a = some (.ins C dx fs) ∧ H b = some (.ins C dy gs) ∧ sp [.ref a, .ref b] H (fun v H' => ∃ r, v = .bl r ∧ Q v H') E0) := by
  intro pins s σ H x y v u Q I rx ry h
  obtain ⟨a, b, dx, dy, fs, gs, rfl, rfl, ha, hb, q⟩ := h
  obtain rfl : v = Value.ref a := rx
  obtain rfl : u = Value.ref b := ry
  obtain ⟨mA, O, _⟩ := ins_get I.hok ha
  obtain ⟨od, J, _⟩ := O.look
  obtain ⟨mB, O2, _⟩ := ins_get I.hok hb
  obtain ⟨oe, J2, _⟩ := O2.look
  refine rc_eqO I.kIn J J2 hr.units0 T.eq T.fn (wpAny_call (codeAny_mono (F X.A X.stack s H [.ref a, .ref b] [.ref a, .ref b] _ _ hr I.env0 (.cons rfl (.cons rfl .nil)) q) fun r s' hq => ?_))
  rcases r with er | (_ | _ | _ | z)
  · exact (show False from hq).elim
  · exact False.elim hq
  · exact False.elim hq
  · exact False.elim hq
  · obtain ⟨v, H', I', rv, r, rfl, q'⟩ := I.after hq
    obtain rfl : z = Value.bool r := rv
    exact ⟨r, rfl, .bl r, H', I', rfl, q'⟩
end SQ
namespace SQ4
open PySem L2 SQ
abbrev sEqV : Stmt := inClass (top 32) 3
abbrev sCp : Stmt := top 55
abbrev sCb : Stmt := top 56
abbrev sCc : Stmt := top 57
/-- a vocabulary with the text z -/
def Vx (C : Addr) (H : Hp) (o : Addr) (z : Str) : Prop := ∃ dx dA tN, H o = some (.ins C dx (flds dA tN z))
theorem Vx.same {C o : Addr} {H H' : Hp} {z : Str} (s : Same H H') (h : Vx C H o z) : Vx C H' o z := by
  obtain ⟨dx, dA, tN, e⟩ := h
  exact ⟨dx, dA, tN, s _ _ e⟩
theorem Vc.vx {C o : Addr} {H : Hp} {gs : List G3} {ys : List Str} (h : Vc C H o gs ys) : Vx C H o (vtext gs ys) := by
  obtain ⟨dx, dA, tN, kvs, e, _⟩ := h
  exact ⟨dx, dA, tN, e⟩
theorem dec_str (x y : Str) : decide (V.str x = V.str y) = decide (x = y) := by
  by_cases h : x = y
  · subst h
    rw [decide_eq_true rfl, decide_eq_true rfl]
  · rw [decide_eq_false h, decide_eq_false (fun z => h (V.str.inj z))]
section
variable {P : Program} {w : World} {K : PySem.W.Frag} {mg : Str → Option Value} {base : Heap} {C CP CN CM CL : Addr}
def spEqV (C : Addr) : Sp := fun vs H Q _ => ∃ (a b : Addr) (x y : Str), vs = [.ref a, .ref b] ∧ Vx C H a x ∧ Vx C H b y ∧ Q (.bl (decide (x = y))) H
theorem scEqV : FnScope ["self", "other"] ["self", "other"] (defScope sEqV) := ⟨rfl, rfl, rfl, by decide +kernel, rfl, by decide +kernel, by decide +kernel⟩
theorem ok_eqV {f : Addr} {fd : FuncData} (F : Fun K "__eq__" "Vocabulary.__eq__" sEqV f fd) (B : B2 mg) (VV : VC K mg C) (T : IC K C) : FnOk P w K mg base CX0 1 f fd ["self", "other"] (spEqV C) := by
  refine F.ok scEqV (fun vs H Q E h => ?_) (fun cdv A outer s H vs Q E hr h => ?_)
  · obtain ⟨a, b, x, y, rfl, _⟩ := h
    rfl
  · obtain ⟨a, b, x, y, rfl, ⟨dx, dA, tN, ha⟩, ⟨dy, dB, tM, hb⟩, q⟩ := h
    refine ⟨_, pss_one (ps_ret (pe_and (pe_callB call_isi (by rfl) B.isi (by decide +kernel) (pa_cons (pv 1) (pa_cons (pe_glob (v := .ref C) rfl VV.g rfl) pa_nil)))
      (pe_one (pe_cmpR op_eq (pe_fld (pv 0) rfl) (pe_fld (pv 1) rfl) (by rfl))))), ?_⟩
    refine ⟨_, rfl, _, _, _, _, true, rfl, .own C, T.ty hb, T.self, _, rfl, iteT ?_⟩
    refine ⟨_, rfl, a, C, dx, _, _, rfl, ha, VV.cl, VV.nT, rfl, _, rfl, b, C, dy, _, _, rfl, hb, VV.cl, VV.nT, rfl, rfl, ?_⟩
    rw [dec_str]
    exact q
/-! ### check_program, check_both_programs, check_place -/
def spCp (K : PySem.W.Frag) (CP CN : Addr) : Sp := fun vs H Q E => ∃ v : V, vs = [v] ∧ ((∃ (p dx : Addr) (fs : List (Str × V)), v = .ref p ∧ H p = some (.ins CP dx fs) ∧ Q .non H) ∨
  ∃ t, TyX K H v t ∧ PySem.W.kitOne K t (.ref CP) = some false ∧ ∀ d H', Same H H' → H' d = some (.xd [("value", v)]) → E (.ref CN) (some d) H')
theorem scCp : FnScope ["value"] ["value"] (defScope sCp) := ⟨rfl, rfl, rfl, by decide +kernel, rfl, by decide +kernel, by decide +kernel⟩
theorem ok_cp {f fN : Addr} {fd : FuncData} (F : Fun K "check_program" "check_program" sCp f fd) (B : B2 mg) (PV : PC K mg CP) (T : IC K CP) (Z : ErX K mg "NotAProgram" CN fN "value" bmV "ValueError.__new__") : FnOk P w K mg base (L2.CX P w) 2 f fd ["value"] (spCp K CP CN) := by
  refine F.okX scCp (fun vs H Q E h => ?_) (fun cdv A outer s H vs Q E hr h => ?_)
  · obtain ⟨v, rfl, _⟩ := h
    rfl
  · obtain ⟨v, rfl, h⟩ := h
    refine ⟨_, pss_one (ps_if (pt_not (pt_val (pe_callB call_isi (by rfl) B.isi (by decide +kernel) (pa_cons (pv 0) (pa_cons (pe_glob (v := .ref CP) rfl PV.g rfl) pa_nil))))) (pss_one (ps_raise rfl (takes_of rfl rfl rfl rfl) (pmk_of5 (pmk5_err (.inl rfl) bValue Z.T Z.J Z.ty Z.g (dp_of hr) rfl (pv 0))))) pss_nil), ?_⟩
    rcases h with ⟨p, dx, fs, rfl, hp, q⟩ | ⟨t, ty, ki, k⟩
    · exact ⟨_, rfl, _, _, _, _, true, rfl, .own CP, T.ty hp, T.self, _, rfl, iteF q⟩
    · refine ⟨_, rfl, v, .ref CP, t, .ref CP, false, rfl, .own CP, ty, ki, _, rfl, iteT ⟨_, rfl, fun d nd => ?_⟩⟩
      exact k d _ (same_new (fun _ _ e => e) nd) upd_same
def spCb (K : PySem.W.Frag) (CP C CN CM : Addr) : Sp := fun vs H Q E => ∃ (p o : Addr) (ts xs : List Str) (v : V), vs = [.ref p, v] ∧ Pg CP H p o ts xs ∧
  ((∃ t, TyX K H v t ∧ PySem.W.kitOne K t (.ref CP) = some false ∧ ∀ d H', Same H H' → H' d = some (.xd [("value", v)]) → E (.ref CN) (some d) H') ∨
   ∃ (p2 o2 : Addr) (ts2 xs2 : List Str) (z z2 : Str), v = .ref p2 ∧ Pg CP H p2 o2 ts2 xs2 ∧ Vx C H o z ∧ Vx C H o2 z2 ∧ (z ≠ z2 → E (.ref CM) none H) ∧ (z = z2 → Q .non H))
theorem scCb : FnScope ["program", "other_program"] ["program", "other_program"] (defScope sCb) := ⟨rfl, rfl, rfl, by decide +kernel, rfl, by decide +kernel, by decide +kernel⟩
theorem ok_cb {f fP fE : Addr} {fd dP : FuncData} (F : Fun K "check_both_programs" "check_both_programs" sCb f fd) (PV : PC K mg CP) (gP : mg "check_program" = some (.ref fP)) (kP : PySem.W.keepIn K (.ref fP) = true) (bP : Binds K dP ["value"] []) (GP : FnOk P w K mg base (L2.CX P w) 2 fP dP ["value"] (spCp K CP CN))
    (CQ : CmpC K C fE) (GE : FnR P w K mg base CX0 1 fE (spEqV C)) (Z : Er0 K mg "Mismatch" CM bmT "TypeError.__new__") : FnOk P w K mg base (L2.CX P w) 4 f fd ["program", "other_program"] (spCb K CP C CN CM) := by
  refine F.okX scCb (fun vs H Q E h => ?_) (fun cdv A outer s H vs Q E hr h => ?_)
  · obtain ⟨p, o, ts, xs, v, rfl, _⟩ := h
    rfl
  · obtain ⟨p, o, ts, xs, v, rfl, ⟨dx, r, tW, hp, hW⟩, h⟩ := h
    refine ⟨_, pss_cons (ps_expr (pe_call GP (hr.mono (by decide)) rfl gP kP bP .nil (passes_call (takes_of rfl rfl rfl rfl) (fun _ _ _ _ h => h)) (pa_cons (pv 0) pa_nil)))
      (pss_cons (ps_expr (pe_call GP (hr.mono (by decide)) rfl gP kP bP .nil (passes_call (takes_of rfl rfl rfl rfl) (fun _ _ _ _ h => h)) (pa_cons (pv 1) pa_nil)))
      (pss_one (ps_if (pt_cmpR (op_neOwn GE hr CQ) (pe_fld (pv 0) rfl) (pe_fld (pv 1) rfl) (nomark _)) (pss_one (ps_raise rfl (takes_of rfl rfl rfl rfl) (pmk_own0 PySem.F.excBase_TypeError Z rfl))) pss_nil))), ?_⟩
    refine ⟨_, rfl, _, rfl, .inl ⟨p, dx, _, rfl, hp, ?_⟩⟩
    rcases h with ⟨t, ty, ki, k⟩ | ⟨p2, o2, ts2, xs2, z, z2, rfl, ⟨dx2, r2, tW2, hp2, hW2⟩, hz, hz2, k, q⟩
    · exact ⟨_, rfl, _, rfl, .inr ⟨t, ty, ki, k⟩⟩
    · refine ⟨_, rfl, _, rfl, .inl ⟨p2, dx2, _, rfl, hp2, ?_⟩⟩
      have hz' := hz
      have hz2' := hz2
      obtain ⟨a1, a2, a3, ha⟩ := hz'
      obtain ⟨b1, b2, b3, hb⟩ := hz2'
      refine ⟨_, rfl, p, CP, dx, _, _, rfl, hp, PV.cl, PV.nV, rfl, _, rfl, p2, CP, dx2, _, _, rfl, hp2, PV.cl, PV.nV, rfl, ?_⟩
      refine ⟨o, o2, a1, b1, _, _, rfl, rfl, ha, hb, o, o2, z, z2, rfl, hz, hz2, _, rfl, _, rfl, ?_⟩
      by_cases e : z = z2
      · rw [decide_eq_true e]
        exact iteF (q e)
      · rw [decide_eq_false e]
        exact iteT (k e)
def spCc (CL : Addr) : Sp := fun vs H Q E => ∃ (v : V) (t : String) (a b : Int), vs = [v, .int a, .int b] ∧ Kd H v t ∧ ((∃ i, v = .int i ∧ a ≤ i ∧ i ≤ b ∧ ∀ H', Same H H' → Q .non H') ∨
  ((isInt v = false ∨ ∃ i, v = .int i ∧ ¬ (a ≤ i ∧ i ≤ b)) ∧ ∀ d H', Same H H' → H' d = some (.xd [("value", v)]) → E (.ref CL) (some d) H'))
theorem scCc : FnScope ["value", "least", "most"] ["value", "least", "most"] (defScope sCc) := ⟨rfl, rfl, rfl, by decide +kernel, rfl, by decide +kernel, by decide +kernel⟩
theorem ok_cc {f fP fN : Addr} {fd dP : FuncData} (F : Fun K "check_place" "check_place" sCc f fd) (gP : mg "is_plain_integer" = some (.ref fP)) (kP : PySem.W.keepIn K (.ref fP) = true) (bP : Binds K dP ["value"] []) (GP : FnOk P w K mg base CX0 1 fP dP ["value"] (spV isInt))
    (Z : ErX K mg "InvalidPlace" CL fN "value" bmV "ValueError.__new__") : FnOk P w K mg base (L2.CX P w) 2 f fd ["value", "least", "most"] (spCc CL) := by
  refine F.okX scCc (fun vs H Q E h => ?_) (fun cdv A outer s H vs Q E hr h => ?_)
  · obtain ⟨v, t, a, b, rfl, _⟩ := h
    rfl
  · obtain ⟨v, t, a, b, rfl, kd, h⟩ := h
    refine ⟨_, pss_one (ps_if (PW.pt (pw_or (pt_not (pt_val (pe_call GP (hr.mono (by decide)) rfl gP kP bP .nil pass0 (pa_cons (pv 0) pa_nil)))) (pw_or1 (pt_not (pt_chain op_le op_le (pv 1) (pv 0) (pv 2))))))
      (pss_one (ps_raise rfl (takes_of rfl rfl rfl rfl) (pmk_of5 (pmk5_err (.inl rfl) bValue Z.T Z.J Z.ty Z.g (dp_of hr) rfl (pv 0))))) pss_nil), ?_⟩
    refine ⟨_, rfl, v, t, rfl, kd, fun H1 s1 => ⟨_, rfl, ?_⟩⟩
    rcases h with ⟨i, rfl, ha, hb, q⟩ | ⟨bad, k⟩
    · refine iteF ⟨_, rfl, _, rfl, _, _, rfl, rfl, _, rfl, itY ha ⟨_, rfl, _, _, rfl, rfl, _, rfl, ?_⟩⟩
      rw [decide_eq_true hb]
      exact iteF (q H1 s1)
    · rcases bad with e | ⟨i, rfl, hi⟩
      · rw [e]
        refine iteT (iteT ⟨_, rfl, fun d nd => ?_⟩)
        exact k d _ (st s1 (same_new (fun _ _ e => e) nd)) upd_same
      · refine iteF ⟨_, rfl, _, rfl, _, _, rfl, rfl, _, rfl, ?_⟩
        by_cases ha : a ≤ i
        · refine itY ha ⟨_, rfl, _, _, rfl, rfl, _, rfl, ?_⟩
          rw [decide_eq_false fun hb => hi ⟨ha, hb⟩]
          refine iteT ⟨_, rfl, fun d nd => ?_⟩
          exact k d _ (st s1 (same_new (fun _ _ e => e) nd)) upd_same
        · refine itN ha ⟨_, rfl, iteT ⟨_, rfl, fun d nd => ?_⟩⟩
          exact k d _ (st s1 (same_new (fun _ _ e => e) nd)) upd_same
end
end SQ4
namespace SQ4
open PySem L2 SQ
abbrev sTh : Stmt := inClass (top 59) 1
abbrev sPt : Stmt := inClass (top 59) 2
abbrev sWo : Stmt := inClass (top 59) 3
abbrev sQd : Stmt := inClass (top 59) 4
abbrev sEqP : Stmt := inClass (top 59) 5
abbrev sRpP : Stmt := inClass (top 59) 8
theorem new_ins {C x dx : Addr} {H : Hp} (nx : H x = none) (ndx : H dx = none) (ne : dx ≠ x) : Same H (upd (upd H dx (.own x)) x (.ins C dx [])) := same_new (same_new (fun _ _ e => e) ndx) (by rw [upd_ne (Ne.symm ne)]; exact nx)
/-- Program(o, text) -/
theorem prog_new {CP C CL CD x dx o : Addr} {H2 : Hp} {gs : List G3} {ts xs : List Str} {Q : VK} {E : XK} (nx : H2 x = none) (ndx : H2 dx = none) (ne : dx ≠ x) (hV : Vc C H2 o gs [("t" : Str)]) (hg : gnames gs = [("t" : Str)]) (G : Good ts xs)
    (L : Lim CL CD ts H2 (∀ (p : Addr) (H' : Hp), Same H2 H' → Pg CP H' p o ts xs → Q (.ref p) H') E) : spPI CP C CL CD [.ref x, .ref o, .str (jt ts)] (upd (upd H2 dx (.own x)) x (.ins CP dx [])) (fun v H' => v = .non ∧ Q (.ref x) H') E := by
  have s1 : Same H2 (upd (upd H2 dx (.own x)) x (.ins CP dx [])) := new_ins nx ndx ne
  refine ⟨x, o, dx, gs, ts, xs, rfl, upd_same, Vc.same s1 hV, hg, G, ⟨fun b d H' s' hd => L.big b d H' (st s1 s') hd, fun b c d H' s' hd => L.deep b c d H' (st s1 s') hd, fun b c H' bt hP => ⟨rfl, L.fit b c x H' (fun a ob e => bt a ob (s1 _ _ e) (ne_of_none e nx)) hP⟩⟩⟩
/-- what a made program promises -/
def Mkd (CP C CL CD o : Addr) (x : Str) (H : Hp) (Q : VK) (E : XK) : Prop := ∃ (gs : List G3) (ts xs : List Str), x = jt ts ∧ Vc C H o gs [("t" : Str)] ∧ gnames gs = [("t" : Str)] ∧ Good ts xs ∧ Lim CL CD ts H (∀ (p : Addr) (H' : Hp), Same H H' → Pg CP H' p o ts xs → Q (.ref p) H') E
theorem Mkd.same {CP C CL CD o : Addr} {x : Str} {H H' : Hp} {Q : VK} {E : XK} (s : Same H H') (h : Mkd CP C CL CD o x H Q E) : Mkd CP C CL CD o x H' Q E := by
  obtain ⟨gs, ts, xs, e, hV, hg, G, L⟩ := h
  exact ⟨gs, ts, xs, e, Vc.same s hV, hg, G, ⟨fun b d H2 s2 hd => L.big b d H2 (st s s2) hd, fun b c d H2 s2 hd => L.deep b c d H2 (st s s2) hd, fun b c p H2 s2 hP => L.fit b c p H2 (st s s2) hP⟩⟩
theorem Mkd.run {CP C CL CD x dx o : Addr} {y : Str} {H2 : Hp} {Q : VK} {E : XK} (nx : H2 x = none) (ndx : H2 dx = none) (ne : dx ≠ x) (h : Mkd CP C CL CD o y H2 Q E) : spPI CP C CL CD [.ref x, .ref o, .str y] (upd (upd H2 dx (.own x)) x (.ins CP dx [])) (fun v H' => v = .non ∧ Q (.ref x) H') E := by
  obtain ⟨gs, ts, xs, rfl, hV, hg, G, L⟩ := h
  exact prog_new nx ndx ne hV hg G L
section
variable {P : Program} {w : World} {K : PySem.W.Frag} {mg : Str → Option Value} {base : Heap} {C CP CN CM CX_ CL CD fI fB fX fR fQ : Addr} {dI dB dX dR dQ : FuncData}
/-! ### quoted -/
theorem scQd : FnScope ["self"] ["self"] (defScope sQd) := ⟨rfl, rfl, rfl, by decide +kernel, rfl, by decide +kernel, by decide +kernel⟩
/-! ### then -/
theorem scTh : FnScope ["self", "other_program"] ["self", "other_program"] (defScope sTh) := ⟨rfl, rfl, rfl, by decide +kernel, rfl, by decide +kernel, by decide +kernel⟩
end
end SQ4
namespace SQ4
open PySem L2 SQ
section
variable {P : Program} {w : World} {K : PySem.W.Frag} {mg : Str → Option Value} {base : Heap} {C CP CN CM CX_ CL CD fI fB fX fR fQ : Addr} {dI dB dX dR dQ : FuncData}
/-! ### part -/
def Bad (H : Hp) (v : V) (a b : Int) : Prop := ∃ t, Kd H v t ∧ (isInt v = false ∨ ∃ i, v = .int i ∧ ¬ (a ≤ i ∧ i ≤ b))
theorem scPt : FnScope ["self", "start", "end"] ["self", "start", "end"] (defScope sPt) := ⟨rfl, rfl, rfl, by decide +kernel, rfl, by decide +kernel, by decide +kernel⟩
theorem sum_drop : ∀ (l : List Str) (i : Nat), ((l.drop i).map (·.length)).sum + (l.drop i).length ≤ (l.map (·.length)).sum + l.length
  | l, 0 => by simp
  | [], i + 1 => by simp
  | x :: l, i + 1 => by
    have := sum_drop l i
    simp only [List.drop_succ_cons, List.map_cons, List.sum_cons, List.length_cons]
    omega
theorem sum_take : ∀ (l : List Str) (i : Nat), ((l.take i).map (·.length)).sum + (l.take i).length ≤ (l.map (·.length)).sum + l.length
  | l, 0 => by simp
  | [], i + 1 => by simp
  | x :: l, i + 1 => by
    have := sum_take l i
    simp only [List.take_succ_cons, List.map_cons, List.sum_cons, List.length_cons]
    omega
theorem cut_strs {xs : List Str} {i j : Nat} (hi : i ≤ xs.length) (hj : j ≤ xs.length) : cutV (xs.map V.str) (some (i : Int)) (some (j : Int)) = ((xs.drop i).take (j - i)).map V.str := by
  have hl : (xs.map V.str).length = xs.length := List.length_map _
  show (((xs.map V.str).drop (HT.sIx (xs.map V.str).length 0 (some (i : Int)))).take (HT.sIx (xs.map V.str).length (xs.map V.str).length (some (j : Int)) - HT.sIx (xs.map V.str).length 0 (some (i : Int)))) = _
  rw [HT.sIx_nat, HT.sIx_nat, hl, Nat.min_eq_left hi, Nat.min_eq_left hj, List.map_take, List.map_drop]
/-! ### without: what it refuses -/
theorem scWo : FnScope ["self", "place"] ["self", "place"] (defScope sWo) := ⟨rfl, rfl, rfl, by decide +kernel, rfl, by decide +kernel, by decide +kernel⟩
/-! ### two programs that are equal; repr -/
theorem scEqP : FnScope ["self", "other"] ["self", "other"] (defScope sEqP) := ⟨rfl, rfl, rfl, by decide +kernel, rfl, by decide +kernel, by decide +kernel⟩
theorem scRpP : FnScope ["self"] ["self"] (defScope sRpP) := ⟨rfl, rfl, rfl, by decide +kernel, rfl, by decide +kernel, by decide +kernel⟩
end
end SQ4
namespace SQ4
open PySem L2 SQ
/-- what a made program promises, with any vocabulary and any words -/
def MkdG (CP C CL CD o : Addr) (x : Str) (H : Hp) (Q : VK) (E : XK) : Prop := ∃ (gs : List G3) (ys ts xs : List Str), x = jt ts ∧ Vc C H o gs ys ∧ (∀ n ∈ ys, n ∈ gnames gs) ∧ ys.length ≤ 1000 ∧ TB ts ∧ rowG (isWord ys) ts = some xs ∧ Lim CL CD ts H (∀ (p : Addr) (H' : Hp), Same H H' → Pg CP H' p o ts xs → Q (.ref p) H') E
theorem MkdG.same {CP C CL CD o : Addr} {x : Str} {H H' : Hp} {Q : VK} {E : XK} (s : Same H H') (h : MkdG CP C CL CD o x H Q E) : MkdG CP C CL CD o x H' Q E := by
  obtain ⟨gs, ys, ts, xs, e, hV, hg, hy, T, R, L⟩ := h
  exact ⟨gs, ys, ts, xs, e, Vc.same s hV, hg, hy, T, R, ⟨fun b d H2 s2 hd => L.big b d H2 (st s s2) hd, fun b c d H2 s2 hd => L.deep b c d H2 (st s s2) hd, fun b c p H2 s2 hP => L.fit b c p H2 (st s s2) hP⟩⟩
theorem MkdG.run {K : PySem.W.Frag} {CP C CI CL CD x dx o : Addr} {y : Str} {H2 : Hp} {Q : VK} {E : XK} (nx : H2 x = none) (ndx : H2 dx = none) (ne : dx ≠ x) (h : MkdG CP C CL CD o y H2 Q E) : spPIG K CP C CI CL CD [.ref x, .ref o, .str y] (upd (upd H2 dx (.own x)) x (.ins CP dx [])) (fun v H' => v = .non ∧ Q (.ref x) H') E := by
  obtain ⟨gs, ys, ts, xs, rfl, hV, hg, hy, T, R, L⟩ := h
  have s1 : Same H2 (upd (upd H2 dx (.own x)) x (.ins CP dx [])) := new_ins nx ndx ne
  refine ⟨x, o, dx, _, gs, ys, rfl, upd_same, Vc.same s1 hV, hg, hy, .inr ⟨ts, rfl, T, fun z => ?_, fun xs' R' => ?_⟩⟩
  · rw [R] at z
    cases z
  · rw [R] at R'
    cases R'
    exact ⟨fun b d H' s' hd => L.big b d H' (st s1 s') hd, fun b c d H' s' hd => L.deep b c d H' (st s1 s') hd, fun b c H' bt hP => ⟨rfl, L.fit b c x H' (fun a ob e => bt a ob (s1 _ _ e) (ne_of_none e nx)) hP⟩⟩
/-- what the methods of Program lean on -/
structure M6G (P : Program) (w : World) (K : PySem.W.Frag) (mg : Str → Option Value) (base : Heap) (C CP CN CM CX_ CI CL CD fI fB fX fR fQ : Addr) (dI dB dX dR dQ : FuncData) : Prop where
  B : B2 mg
  PV : PC K mg CP
  MK : Mk K CP fI
  bI : Binds K dI ["self", "vocabulary", "text"] []
  GI : FnOk P w K mg base (L2.CX P w) 5 fI dI ["self", "vocabulary", "text"] (spPIG K CP C CI CL CD)
  gB : mg "check_both_programs" = some (.ref fB)
  kB : PySem.W.keepIn K (.ref fB) = true
  bB : Binds K dB ["program", "other_program"] []
  GB : FnOk P w K mg base (L2.CX P w) 4 fB dB ["program", "other_program"] (spCb K CP C CN CM)
  gX : mg "check_place" = some (.ref fX)
  kX : PySem.W.keepIn K (.ref fX) = true
  bX : Binds K dX ["value", "least", "most"] []
  GX : FnOk P w K mg base (L2.CX P w) 2 fX dX ["value", "least", "most"] (spCc CX_)
  gR : mg "row_text" = some (.ref fR)
  kR : PySem.W.keepIn K (.ref fR) = true
  bR : Binds K dR ["texts"] []
  GR : FnOk P w K mg base CX0 1 fR dR ["texts"] (spRwT K)
  gQ : mg "quotation_text" = some (.ref fQ)
  kQ : PySem.W.keepIn K (.ref fQ) = true
  bQ : Binds K dQ ["text"] []
  GQ : FnOk P w K mg base CX0 1 fQ dQ ["text"] spQx
section
variable {P : Program} {w : World} {K : PySem.W.Frag} {mg : Str → Option Value} {base : Heap} {C CP CN CM CX_ CI CL CD fI fB fX fR fQ : Addr} {dI dB dX dR dQ : FuncData}
/-! ### quoted -/
def spQdG (CP C CL CD : Addr) : Sp := fun vs H Q E => ∃ (p o : Addr) (ts xs : List Str), vs = [.ref p] ∧ Pg CP H p o ts xs ∧ (jt ts).length ≤ 9000 ∧ MkdG CP C CL CD o (qtext (jt ts)) H Q E
theorem ok_qdG {f : Addr} {fd : FuncData} (F : Fun K "quoted" "Program.quoted" sQd f fd) (M : M6G P w K mg base C CP CN CM CX_ CI CL CD fI fB fX fR fQ dI dB dX dR dQ) : FnOk P w K mg base (L2.CX P w) 7 f fd ["self"] (spQdG CP C CL CD) := by
  refine F.okX scQd (fun vs H Q E h => ?_) (fun cdv A outer s H vs Q E hr h => ?_)
  · obtain ⟨p, o, ts, xs, rfl, _⟩ := h
    rfl
  · obtain ⟨p, o, ts, xs, rfl, ⟨dx, r, tW, hp, hW⟩, hl, h⟩ := h
    refine ⟨_, pss_one (ps_ret (pe_make M.MK M.GI hr rfl M.PV.g M.bI .nil (passes_call (takes_of rfl rfl rfl rfl) (fun _ _ _ _ h => h)) (pa_cons (pe_fld (pv 0) rfl) (pa_cons (pe_call M.GQ (hr.mono (by decide)) rfl M.gQ M.kQ M.bQ .nil pass0 (pa_cons (pe_fld (pv 0) rfl) pa_nil)) pa_nil)))), ?_⟩
    refine ⟨_, rfl, p, CP, dx, _, _, rfl, hp, M.PV.cl, M.PV.nV, rfl, _, rfl, p, CP, dx, _, _, rfl, hp, M.PV.cl, M.PV.nT, rfl, ?_⟩
    refine ⟨_, rfl, by omega, fun x dx nx ndx ne => ?_⟩
    exact MkdG.run nx ndx ne h
/-! ### then -/
def spThG (K : PySem.W.Frag) (CP C CN CM CL CD : Addr) : Sp := fun vs H Q E => ∃ (p o : Addr) (ts xs : List Str) (v : V), vs = [.ref p, v] ∧ Pg CP H p o ts xs ∧
  ((∃ t, TyX K H v t ∧ PySem.W.kitOne K t (.ref CP) = some false ∧ ∀ d H', Same H H' → H' d = some (.xd [("value", v)]) → E (.ref CN) (some d) H') ∨
   ∃ (p2 o2 : Addr) (ts2 xs2 : List Str) (z z2 : Str), v = .ref p2 ∧ Pg CP H p2 o2 ts2 xs2 ∧ Vx C H o z ∧ Vx C H o2 z2 ∧ (z ≠ z2 → E (.ref CM) none H) ∧ (z = z2 → ((xs ++ xs2).map (·.length)).sum + (xs ++ xs2).length ≤ 9000 ∧ MkdG CP C CL CD o (jt (xs ++ xs2)) H Q E))
theorem ok_thG {f : Addr} {fd : FuncData} (F : Fun K "then" "Program.then" sTh f fd) (M : M6G P w K mg base C CP CN CM CX_ CI CL CD fI fB fX fR fQ dI dB dX dR dQ) : FnOk P w K mg base (L2.CX P w) 7 f fd ["self", "other_program"] (spThG K CP C CN CM CL CD) := by
  refine F.okX scTh (fun vs H Q E h => ?_) (fun cdv A outer s H vs Q E hr h => ?_)
  · obtain ⟨p, o, ts, xs, v, rfl, _⟩ := h
    rfl
  · obtain ⟨p, o, ts, xs, v, rfl, hP, h⟩ := h
    have hP0 := hP
    obtain ⟨dx, r, tW, hp, hW⟩ := hP0
    refine ⟨_, pss_cons (ps_expr (pe_call M.GB (hr.mono (by decide)) rfl M.gB M.kB M.bB .nil (passes_call (takes_of rfl rfl rfl rfl) (fun _ _ _ _ h => h)) (pa_cons (pv 0) (pa_cons (pv 1) pa_nil))))
      (pss_one (ps_ret (pe_make M.MK M.GI hr rfl M.PV.g M.bI .nil (passes_call (takes_of rfl rfl rfl rfl) (fun _ _ _ _ h => h)) (pa_cons (pe_fld (pv 0) rfl) (pa_cons (pe_call M.GR (hr.mono (by decide)) rfl M.gR M.kR M.bR .nil pass0 (pa_cons (pe_op op_catA (pe_fld (pv 0) rfl) (pe_fld (pv 1) rfl)) pa_nil)) pa_nil))))), ?_⟩
    refine ⟨_, rfl, _, rfl, p, o, ts, xs, v, rfl, hP, ?_⟩
    rcases h with ⟨t, ty, ki, k⟩ | ⟨p2, o2, ts2, xs2, z, z2, rfl, hP2, hz, hz2, k, q⟩
    · exact .inl ⟨t, ty, ki, k⟩
    · refine .inr ⟨p2, o2, ts2, xs2, z, z2, rfl, hP2, hz, hz2, k, fun e => ?_⟩
      obtain ⟨hs, h⟩ := q e
      obtain ⟨dx2, r2, tW2, hp2, hW2⟩ := hP2
      refine ⟨_, rfl, p, CP, dx, _, _, rfl, hp, M.PV.cl, M.PV.nV, rfl, ?_⟩
      refine ⟨_, rfl, p, CP, dx, _, _, rfl, hp, M.PV.cl, M.PV.nW, rfl, _, rfl, p2, CP, dx2, _, _, rfl, hp2, M.PV.cl, M.PV.nW, rfl, ?_⟩
      have hz : (xs ++ xs2).length ≤ 9000 := by omega
      rw [List.length_append] at hz
      have line : ∀ {n : Nat}, n ≤ 9000 → n ≤ sizeLine := fun h => Nat.le_trans h (by decide)
      refine ⟨tW, tW2, _, _, rfl, rfl, SqT.of hW, SqT.of hW2, line (by rw [List.length_map, List.length_map]; exact hz), fun z0 => ?_, fun _ z0 => ?_, fun _ z0 l nl => ?_⟩
      · have e2 : xs = [] := by simpa using z0
        subst e2
        rw [List.nil_append] at hs h
        exact ⟨tW2, xs2, rfl, .inr (SqT.of hW2), by omega, fun x dx nx ndx ne => MkdG.run nx ndx ne h⟩
      · have e2 : xs2 = [] := by simpa using z0
        subst e2
        rw [List.append_nil] at hs h
        exact ⟨tW, xs, rfl, .inr (SqT.of hW), by omega, fun x dx nx ndx ne => MkdG.run nx ndx ne h⟩
      · have s1 := same_new (o := .tup (xs.map V.str ++ xs2.map V.str)) (fun _ _ e => e : Same H H) nl
        refine ⟨l, xs ++ xs2, rfl, .inr (SqT.of (by rw [upd_same, List.map_append])), by omega, fun x dx nx ndx ne => MkdG.run nx ndx ne (h.same s1)⟩
def spPtG (CP C CX_ CL CD : Addr) : Sp := fun vs H Q E => ∃ (p o : Addr) (ts xs : List Str) (u v : V), vs = [.ref p, u, v] ∧ Pg CP H p o ts xs ∧
  ((Bad H u 0 xs.length ∧ ∀ d H', Same H H' → H' d = some (.xd [("value", u)]) → E (.ref CX_) (some d) H') ∨
   ∃ i : Nat, u = .int i ∧ i ≤ xs.length ∧ ((Bad H v i xs.length ∧ ∀ d H', Same H H' → H' d = some (.xd [("value", v)]) → E (.ref CX_) (some d) H') ∨
     ∃ j : Nat, v = .int j ∧ i ≤ j ∧ j ≤ xs.length ∧ (xs.map (·.length)).sum + xs.length ≤ 9000 ∧ MkdG CP C CL CD o (jt ((xs.drop i).take (j - i))) H Q E))
theorem ok_ptG {f : Addr} {fd : FuncData} (F : Fun K "part" "Program.part" sPt f fd) (M : M6G P w K mg base C CP CN CM CX_ CI CL CD fI fB fX fR fQ dI dB dX dR dQ) : FnOk P w K mg base (L2.CX P w) 7 f fd ["self", "start", "end"] (spPtG CP C CX_ CL CD) := by
  refine F.okX scPt (fun vs H Q E h => ?_) (fun cdv A outer s H vs Q E hr h => ?_)
  · obtain ⟨p, o, ts, xs, u, v, rfl, _⟩ := h
    rfl
  · obtain ⟨p, o, ts, xs, u, v, rfl, ⟨dx, r, tW, hp, hW⟩, h⟩ := h
    refine ⟨_, pss_cons (ps_expr (pe_call M.GX (hr.mono (by decide)) rfl M.gX M.kX M.bX .nil (passes_call (takes_of rfl rfl rfl rfl) (fun _ _ _ _ h => h)) (pa_cons (pv 1) (pa_cons pe_int (pa_cons (pe_callB call_len_seq (by rfl) M.B.len PySem.boot_len (pa_cons (pe_fld (pv 0) rfl) pa_nil)) pa_nil)))))
      (pss_cons (ps_expr (pe_call M.GX (hr.mono (by decide)) rfl M.gX M.kX M.bX .nil (passes_call (takes_of rfl rfl rfl rfl) (fun _ _ _ _ h => h)) (pa_cons (pv 2) (pa_cons (pv 1) (pa_cons (pe_callB call_len_seq (by rfl) M.B.len PySem.boot_len (pa_cons (pe_fld (pv 0) rfl) pa_nil)) pa_nil)))))
      (pss_one (ps_ret (pe_make M.MK M.GI hr rfl M.PV.g M.bI .nil (passes_call (takes_of rfl rfl rfl rfl) (fun _ _ _ _ h => h)) (pa_cons (pe_fld (pv 0) rfl) (pa_cons (pe_call M.GR (hr.mono (by decide)) rfl M.gR M.kR M.bR .nil pass0 (pa_cons (pe_slice sl_tupA (pe_fld (pv 0) rfl) (po_some (pv 1)) (po_some (pv 2))) pa_nil)) pa_nil)))))), ?_⟩
    have hl : (xs.map V.str).length = xs.length := List.length_map _
    refine ⟨_, rfl, _, rfl, p, CP, dx, _, _, rfl, hp, M.PV.cl, M.PV.nW, rfl, tW, _, rfl, .inr (SqT.of hW), ?_⟩
    rw [hl]
    rcases h with ⟨⟨t, kd, bad⟩, k⟩ | ⟨i, rfl, hi, h⟩
    · exact ⟨u, t, 0, xs.length, rfl, kd, .inr ⟨bad, k⟩⟩
    refine ⟨.int i, "int", 0, xs.length, rfl, .int i, .inl ⟨i, rfl, by omega, by omega, fun H1 s1 => ?_⟩⟩
    refine ⟨_, rfl, _, rfl, _, rfl, p, CP, dx, _, _, rfl, s1 _ _ hp, M.PV.cl, M.PV.nW, rfl, tW, _, rfl, .inr (SqT.of (s1 _ _ hW)), ?_⟩
    rw [hl]
    rcases h with ⟨⟨t, kd, bad⟩, k⟩ | ⟨j, rfl, hij, hj, hs, h⟩
    · exact ⟨v, t, i, xs.length, rfl, kd.same s1, .inr ⟨bad, fun d H' s' hd => k d H' (st s1 s') hd⟩⟩
    refine ⟨.int j, "int", i, xs.length, rfl, .int j, .inl ⟨j, rfl, by omega, by omega, fun H2 s2 => ?_⟩⟩
    have t2 := st s1 s2
    refine ⟨_, rfl, p, CP, dx, _, _, rfl, t2 _ _ hp, M.PV.cl, M.PV.nV, rfl, ?_⟩
    refine ⟨_, rfl, p, CP, dx, _, _, rfl, t2 _ _ hp, M.PV.cl, M.PV.nW, rfl, _, rfl, i, rfl, _, rfl, j, rfl, tW, _, rfl, SqT.of (t2 _ _ hW), fun hw => ?_, fun _ l nl => ?_⟩
    · have e : (xs.drop i).take (j - i) = xs := by
        rw [hl, HT.sIx_nat, HT.sIx_nat, Nat.min_eq_left hi, Nat.min_eq_left hj] at hw
        rw [hw.1, hw.2, List.drop_zero, Nat.sub_zero, List.take_length]
      rw [e] at h
      exact ⟨tW, xs, rfl, .inr (SqT.of (t2 _ _ hW)), by omega, fun x dx nx ndx ne => MkdG.run nx ndx ne (h.same t2)⟩
    · have s3 := same_new (o := .tup (cutV (xs.map V.str) (some (i : Int)) (some (j : Int)))) (fun _ _ e => e : Same H2 H2) nl
      have b1 := sum_take (xs.drop i) (j - i)
      have b2 := sum_drop xs i
      refine ⟨l, (xs.drop i).take (j - i), rfl, .inr (SqT.of (by rw [upd_same, cut_strs hi hj])), by omega, fun x dx nx ndx ne => MkdG.run nx ndx ne ((h.same t2).same s3)⟩
end
end SQ4
namespace SQ4
open PySem L2 SQ
/-! ### slices and joins of tuples, whichever object they give -/
theorem cutV_whole {xs : List V} {lo hi : Option Int} (h : HT.sIx xs.length 0 lo = 0 ∧ HT.sIx xs.length xs.length hi = xs.length) : cutV xs lo hi = xs := by
  unfold cutV
  rw [h.1, h.2, List.drop_zero, Nat.sub_zero, List.take_length]
def rCut : V → Option Int → Option Int → Hp → VK → Prop := fun x lo hi H Q => ∃ (a : Addr) (xs : List V), x = .ref a ∧ H a = some (.tup xs) ∧ ∀ (A : Addr) (H1 : Hp), Same H H1 → H1 A = some (.tup (cutV xs lo hi)) → Q (.ref A) H1
theorem sl_cut {X : Cx} : L2.SlR X rCut := by
  intro pins s σ H x v vl vu lo hi sl Q I rx hs pl pu h
  obtain ⟨a, xs, rfl, ha, q⟩ := h
  refine sl_tupA pins s σ H (.ref a) v vl vu lo hi sl Q I rx hs pl pu ⟨a, xs, rfl, SqT.of ha, fun hw => q a H (fun _ _ e => e) ?_, fun _ p np => q p _ (same_new (fun _ _ e => e) np) upd_same⟩
  rw [cutV_whole hw]
  exact ha
def rCatG : R2 := fun x y H Q => ∃ (a b : Addr) (xs ys : List V), x = .ref a ∧ y = .ref b ∧ H a = some (.tup xs) ∧ H b = some (.tup ys) ∧ xs.length + ys.length ≤ sizeLine ∧ ∀ (A : Addr) (H1 : Hp), Same H H1 → H1 A = some (.tup (xs ++ ys)) → Q (.ref A) H1
theorem op_catG {X : Cx} : OpR X (binaryOp .Add) rCatG := by
  intro pins s σ H x y v u Q I rx ry h
  obtain ⟨a, b, xs, ys, rfl, rfl, ha, hb, hz, q⟩ := h
  refine op_catA pins s σ H (.ref a) (.ref b) v u Q I rx ry ⟨a, b, xs, ys, rfl, rfl, SqT.of ha, SqT.of hb, hz, fun z => ?_, fun _ z => ?_, fun _ _ p np => q p _ (same_new (fun _ _ e => e) np) upd_same⟩
  · subst z
    exact q b H (fun _ _ e => e) hb
  · subst z
    exact q a H (fun _ _ e => e) (by rw [List.append_nil]; exact ha)
section
variable {P : Program} {w : World} {K : PySem.W.Frag} {mg : Str → Option Value} {base : Heap} {C CP CN CM CX_ CI CL CD fI fB fX fR fQ : Addr} {dI dB dX dR dQ : FuncData}
/-! ### without -/
def spWoG (CP C CX_ CL CD : Addr) : Sp := fun vs H Q E => ∃ (p o : Addr) (ts xs : List Str) (v : V), vs = [.ref p, v] ∧ Pg CP H p o ts xs ∧
  ((Bad H v 0 ((xs.length : Int) - 1) ∧ ∀ d H', Same H H' → H' d = some (.xd [("value", v)]) → E (.ref CX_) (some d) H') ∨
   ∃ k : Nat, v = .int k ∧ k < xs.length ∧ (xs.map (·.length)).sum + xs.length ≤ 9000 ∧ MkdG CP C CL CD o (jt (xs.take k ++ xs.drop (k + 1))) H Q E)
theorem cut_lo {xs : List Str} {k : Nat} (h : k ≤ xs.length) : cutV (xs.map V.str) none (some (k : Int)) = (xs.take k).map V.str := by
  have hl : (xs.map V.str).length = xs.length := List.length_map _
  show (((xs.map V.str).drop (HT.sIx (xs.map V.str).length 0 none)).take (HT.sIx (xs.map V.str).length (xs.map V.str).length (some (k : Int)) - HT.sIx (xs.map V.str).length 0 none)) = _
  rw [HT.sIx_nat, HT.sIx_none, hl, Nat.min_eq_left h, List.drop_zero, Nat.sub_zero, List.map_take]
theorem cut_hi {xs : List Str} {k : Nat} (h : k < xs.length) : cutV (xs.map V.str) (some ((k : Int) + 1)) none = (xs.drop (k + 1)).map V.str := by
  have hl : (xs.map V.str).length = xs.length := List.length_map _
  have e : ((k : Int) + 1) = ((k + 1 : Nat) : Int) := rfl
  rw [e]
  show (((xs.map V.str).drop (HT.sIx (xs.map V.str).length 0 (some ((k + 1 : Nat) : Int)))).take (HT.sIx (xs.map V.str).length (xs.map V.str).length none - HT.sIx (xs.map V.str).length 0 (some ((k + 1 : Nat) : Int)))) = _
  rw [HT.sIx_nat, HT.sIx_none, hl, Nat.min_eq_left h, List.map_drop]
  refine List.take_of_length_le ?_
  rw [List.length_drop, hl]
  exact Nat.le_refl _
theorem sum_app (a b : List Str) : ((a ++ b).map (·.length)).sum + (a ++ b).length = ((a.map (·.length)).sum + a.length) + ((b.map (·.length)).sum + b.length) := by
  rw [List.map_append, List.sum_append, List.length_append]
  omega
theorem ok_woG {f : Addr} {fd : FuncData} (F : Fun K "without" "Program.without" sWo f fd) (M : M6G P w K mg base C CP CN CM CX_ CI CL CD fI fB fX fR fQ dI dB dX dR dQ) : FnOk P w K mg base (L2.CX P w) 7 f fd ["self", "place"] (spWoG CP C CX_ CL CD) := by
  refine F.okX scWo (fun vs H Q E h => ?_) (fun cdv A outer s H vs Q E hr h => ?_)
  · obtain ⟨p, o, ts, xs, v, rfl, _⟩ := h
    rfl
  · obtain ⟨p, o, ts, xs, v, rfl, ⟨dx, r, tW, hp, hW⟩, h⟩ := h
    refine ⟨_, pss_cons (ps_expr (pe_call M.GX (hr.mono (by decide)) rfl M.gX M.kX M.bX .nil (passes_call (takes_of rfl rfl rfl rfl) (fun _ _ _ _ h => h)) (pa_cons (pv 1) (pa_cons pe_int (pa_cons (pe_op op_sub (pe_callB call_len_seq (by rfl) M.B.len PySem.boot_len (pa_cons (pe_fld (pv 0) rfl) pa_nil)) pe_int) pa_nil)))))
      (pss_one (ps_ret (pe_make M.MK M.GI hr rfl M.PV.g M.bI .nil (passes_call (takes_of rfl rfl rfl rfl) (fun _ _ _ _ h => h)) (pa_cons (pe_fld (pv 0) rfl) (pa_cons (pe_call M.GR (hr.mono (by decide)) rfl M.gR M.kR M.bR .nil pass0 (pa_cons
        (pe_op op_catG (pe_slice sl_cut (pe_fld (pv 0) rfl) po_none (po_some (pv 1))) (pe_slice sl_cut (pe_fld (pv 0) rfl) (po_some (pe_op op_add (pv 1) pe_int)) po_none)) pa_nil)) pa_nil))))), ?_⟩
    refine ⟨_, rfl, _, rfl, p, CP, dx, _, _, rfl, hp, M.PV.cl, M.PV.nW, rfl, tW, _, rfl, .inr (SqT.of hW), _, _, rfl, rfl, ?_⟩
    rw [List.length_map]
    rcases h with ⟨⟨t, kd, bad⟩, k⟩ | ⟨k, rfl, hk, hs, h⟩
    · exact ⟨v, t, 0, (xs.length : Int) - 1, rfl, kd, .inr ⟨bad, k⟩⟩
    refine ⟨.int k, "int", 0, (xs.length : Int) - 1, rfl, .int k, .inl ⟨k, rfl, by omega, by omega, fun H1 s1 => ?_⟩⟩
    refine ⟨_, rfl, p, CP, dx, _, _, rfl, s1 _ _ hp, M.PV.cl, M.PV.nV, rfl, ?_⟩
    refine ⟨_, rfl, p, CP, dx, _, _, rfl, s1 _ _ hp, M.PV.cl, M.PV.nW, rfl, _, rfl, k, rfl, tW, _, rfl, s1 _ _ hW, fun A2 H2 s2 h2 => ?_⟩
    have t2 := st s1 s2
    refine ⟨_, rfl, p, CP, dx, _, _, rfl, t2 _ _ hp, M.PV.cl, M.PV.nW, rfl, _, rfl, _, _, rfl, rfl, _, rfl, tW, _, rfl, t2 _ _ hW, fun A3 H3 s3 h3 => ?_⟩
    have t3 := st t2 s3
    rw [cut_lo (Nat.le_of_lt hk)] at h2
    rw [cut_hi hk] at h3
    have line : ∀ {n : Nat}, n ≤ 9000 → n ≤ sizeLine := fun h => Nat.le_trans h (by decide)
    refine ⟨A2, A3, _, _, rfl, rfl, s3 _ _ h2, h3, line ?_, fun A4 H4 s4 h4 => ?_⟩
    · rw [List.length_map, List.length_map, List.length_take, List.length_drop]
      omega
    have t4 := st t3 s4
    have b1 := sum_take xs k
    have b2 := sum_drop xs k
    have b3 : ((xs.take k ++ xs.drop (k + 1)).map (·.length)).sum + (xs.take k ++ xs.drop (k + 1)).length ≤ 18000 := by
      rw [sum_app]
      have b4 := sum_drop xs (k + 1)
      omega
    rw [← List.map_append] at h4
    refine ⟨A4, xs.take k ++ xs.drop (k + 1), rfl, .inr (SqT.of h4), by omega, fun x dx nx ndx ne => MkdG.run nx ndx ne (h.same t4)⟩
end
end SQ4
namespace SQ4
open PySem L2 SQ
abbrev sLnP : Stmt := inClass (top 59) 6
abbrev sStP : Stmt := inClass (top 59) 7
section
variable {P : Program} {w : World} {K : PySem.W.Frag} {mg : Str → Option Value} {base : Heap} {C CP : Addr}
/-! ### a program and any value: == -/
def spEqG (K : PySem.W.Frag) (CP C : Addr) : Sp := fun vs H Q _ => ∃ (a o : Addr) (ts xs : List Str) (z : Str) (v : V), vs = [.ref a, v] ∧ Pg CP H a o ts xs ∧ Vx C H o z ∧
  ((∃ t, TyX K H v t ∧ PySem.W.kitOne K t (.ref CP) = some false ∧ Q (.bl false) H) ∨
   ∃ (b o2 : Addr) (ts2 xs2 : List Str) (z2 : Str), v = .ref b ∧ Pg CP H b o2 ts2 xs2 ∧ Vx C H o2 z2 ∧ Q (.bl (decide (z = z2) && decide (jt ts = jt ts2))) H)
theorem ok_eqG {f fE : Addr} {fd : FuncData} (F : Fun K "__eq__" "Program.__eq__" sEqP f fd) (B : B2 mg) (PV : PC K mg CP) (T : IC K CP) (CQ : CmpC K C fE) (GE : FnR P w K mg base CX0 1 fE (spEqV C)) : FnOk P w K mg base CX0 2 f fd ["self", "other"] (spEqG K CP C) := by
  refine F.ok scEqP (fun vs H Q E h => ?_) (fun cdv A outer s H vs Q E hr h => ?_)
  · obtain ⟨a, o, ts, xs, z, v, rfl, _⟩ := h
    rfl
  · obtain ⟨a, o, ts, xs, z, v, rfl, ⟨dx, r, tW, ha, _⟩, hz, h⟩ := h
    refine ⟨_, pss_one (ps_ret (pe_and (pe_callB call_isi (by rfl) B.isi (by decide +kernel) (pa_cons (pv 1) (pa_cons (pe_glob (v := .ref CP) rfl PV.g rfl) pa_nil)))
      (pe_and (pe_cmpR (op_eqOwn GE hr CQ) (pe_fld (pv 0) rfl) (pe_fld (pv 1) rfl) (by rfl)) (pe_one (pe_cmpR op_eq (pe_fld (pv 0) rfl) (pe_fld (pv 1) rfl) (by rfl)))))), ?_⟩
    rcases h with ⟨t, ty, ki, q⟩ | ⟨b, o2, ts2, xs2, z2, rfl, ⟨dy, r2, tW2, hb, _⟩, hz2, q⟩
    · exact ⟨_, rfl, v, .ref CP, t, .ref CP, false, rfl, .own CP, ty, ki, _, rfl, iteF q⟩
    refine ⟨_, rfl, _, _, _, _, true, rfl, .own CP, T.ty hb, T.self, _, rfl, iteT ?_⟩
    have hz' := hz
    have hz2' := hz2
    obtain ⟨a1, a2, a3, hza⟩ := hz'
    obtain ⟨b1, b2, b3, hzb⟩ := hz2'
    refine ⟨_, rfl, a, CP, dx, _, _, rfl, ha, PV.cl, PV.nV, rfl, _, rfl, b, CP, dy, _, _, rfl, hb, PV.cl, PV.nV, rfl, ?_⟩
    refine ⟨o, o2, a1, b1, _, _, rfl, rfl, hza, hzb, o, o2, z, z2, rfl, hz, hz2, _, rfl, _, rfl, ?_⟩
    by_cases e : z = z2
    · refine itY e ?_
      refine ⟨_, rfl, a, CP, dx, _, _, rfl, ha, PV.cl, PV.nT, rfl, _, rfl, b, CP, dy, _, _, rfl, hb, PV.cl, PV.nT, rfl, rfl, ?_⟩
      rw [dec_str]
      rw [decide_eq_true e, Bool.true_and] at q
      exact q
    · refine itN e ?_
      rw [decide_eq_false e, Bool.false_and] at q
      exact q
/-! ### len, str -/
def spLnP (CP : Addr) : Sp := fun vs H Q _ => ∃ (a o : Addr) (ts xs : List Str), vs = [.ref a] ∧ Pg CP H a o ts xs ∧ Q (.int (xs.length : Nat)) H
theorem scLnP : FnScope ["self"] ["self"] (defScope sLnP) := ⟨rfl, rfl, rfl, by decide +kernel, rfl, by decide +kernel, by decide +kernel⟩
theorem ok_lnP {f : Addr} {fd : FuncData} (F : Fun K "__len__" "Program.__len__" sLnP f fd) (B : B2 mg) (PV : PC K mg CP) : FnOk P w K mg base CX0 1 f fd ["self"] (spLnP CP) := by
  refine F.ok scLnP (fun vs H Q E h => ?_) (fun cdv A outer s H vs Q E hr h => ?_)
  · obtain ⟨a, o, ts, xs, rfl, _⟩ := h
    rfl
  · obtain ⟨a, o, ts, xs, rfl, ⟨dx, r, tW, ha, hW⟩, q⟩ := h
    refine ⟨_, pss_one (ps_ret (pe_callB call_len_seq (by rfl) B.len PySem.boot_len (pa_cons (pe_fld (pv 0) rfl) pa_nil))), ?_⟩
    refine ⟨_, rfl, a, CP, dx, _, _, rfl, ha, PV.cl, PV.nW, rfl, tW, _, rfl, .inr (SqT.of hW), ?_⟩
    rw [List.length_map]
    exact q
def spStP (CP : Addr) : Sp := fun vs H Q _ => ∃ (a o : Addr) (ts xs : List Str), vs = [.ref a] ∧ Pg CP H a o ts xs ∧ Q (.str (jt ts)) H
theorem scStP : FnScope ["self"] ["self"] (defScope sStP) := ⟨rfl, rfl, rfl, by decide +kernel, rfl, by decide +kernel, by decide +kernel⟩
theorem ok_stP {f : Addr} {fd : FuncData} (F : Fun K "__str__" "Program.__str__" sStP f fd) (B : B2 mg) (PV : PC K mg CP) : FnOk P w K mg base CX0 1 f fd ["self"] (spStP CP) := by
  refine F.ok scStP (fun vs H Q E h => ?_) (fun cdv A outer s H vs Q E hr h => ?_)
  · obtain ⟨a, o, ts, xs, rfl, _⟩ := h
    rfl
  · obtain ⟨a, o, ts, xs, rfl, ⟨dx, r, tW, ha, hW⟩, q⟩ := h
    refine ⟨_, pss_one (ps_ret (pe_callTy SkE.call_str_str (by rfl) B.str (by decide +kernel) (pa_cons (pe_fld (pv 0) rfl) pa_nil))), ?_⟩
    exact ⟨_, rfl, a, CP, dx, _, _, rfl, ha, PV.cl, PV.nT, rfl, _, rfl, q⟩
end
end SQ4
namespace SQ4
open PySem L2 SQ
abbrev sPla : Stmt := top 67
/-! ### the kinds of the law: "p", or how many plain inputs and outputs a quotation has -/
inductive Kn where
  | p
  | q (a b : Int)
def KnAt (H : Hp) (v : V) : Kn → Prop
  | .p => v = .str "p"
  | .q a b => ∃ t, v = .ref t ∧ H t = some (.tup [.int a, .int b])
def Kns (H : Hp) (vs : List V) (ks : List Kn) : Prop := Paired (fun v k => KnAt H v k) vs ks
theorem KnAt.same {H H' : Hp} {v : V} {k : Kn} (s : Same H H') (h : KnAt H v k) : KnAt H' v k := by
  cases k with
  | p => exact h
  | q a b =>
    obtain ⟨t, e, h⟩ := h
    exact ⟨t, e, s _ _ h⟩
theorem Kns.same {H H' : Hp} {vs : List V} {ks : List Kn} (s : Same H H') (h : Kns H vs ks) : Kns H' vs ks := Paired.mapP h fun _ _ e => e.same s
theorem Kns.app {H : Hp} {vs ws : List V} {ks ls : List Kn} (h : Kns H vs ks) (g : Kns H ws ls) : Kns H (vs ++ ws) (ks ++ ls) := by
  induction h with
  | nil => exact g
  | cons a b ih => exact .cons a ih
theorem Kns.rev {H : Hp} {vs : List V} {ks : List Kn} (h : Kns H vs ks) : Kns H vs.reverse ks.reverse := by
  induction h with
  | nil => exact .nil
  | cons a b ih =>
    rw [List.reverse_cons, List.reverse_cons]
    exact Kns.app ih (.cons a .nil)
def isP : Kn → Bool
  | .p => true
  | _ => false
/-- how many plain values stand on the top -/
def plains (ks : List Kn) : Nat := (ks.reverse.takeWhile isP).length
theorem tw_all : ∀ {l : List Kn}, l.all isP = true → l.takeWhile isP = l
  | [], _ => rfl
  | a :: l, h => by
    rw [List.all_cons, Bool.and_eq_true] at h
    rw [List.takeWhile_cons, h.1]
    show a :: l.takeWhile isP = a :: l
    rw [tw_all h.2]
theorem plains_at {ks : List Kn} {i : Nat} {k : Kn} (h : (ks.reverse.take i).all isP = true) (hk : ks.reverse[i]? = some k) (hp : isP k = false) : plains ks = i := by
  unfold plains
  generalize ks.reverse = l at h hk
  induction l generalizing i with
  | nil => simp at hk
  | cons a l ih =>
    cases i with
    | zero =>
      simp at hk
      subst hk
      rw [List.takeWhile_cons, hp]
      rfl
    | succ i =>
      rw [List.take_succ_cons, List.all_cons, Bool.and_eq_true] at h
      rw [List.getElem?_cons_succ] at hk
      rw [List.takeWhile_cons, h.1]
      show ((a :: l.takeWhile isP).length) = i + 1
      rw [List.length_cons, ih h.2 hk]
section
variable {P : Program} {w : World} {K : PySem.W.Frag} {mg : Str → Option Value} {base : Heap}
def knD : Kn → PyData
  | .p => .str "p"
  | .q a b => .tuple [.int a, .int b]
theorem dp_kn {H : Hp} {v : V} {k : Kn} (h : KnAt H v k) : Dp K H v (knD k) := by
  cases k with
  | p =>
    have e : v = .str "p" := h
    subst e
    exact .str _
  | q a b =>
    obtain ⟨t, rfl, h⟩ := h
    exact .tup (SqT.of h) (.cons (.int a) (.cons (.int b) .nil))
theorem sh_kn (k : Kn) : SeqAt.shaped (knD k) = true := by
  have e : PyData.strOk ("p" : Str) = true := by decide +kernel
  unfold SeqAt.shaped
  cases k with
  | p =>
    simp only [knD, PyData.canLay0, PyData.depth, e]
    rfl
  | q a b =>
    simp only [knD, PyData.canLay0, PyData.canLayAll0, PyData.depth, PyData.depthAll]
    rfl
theorem kn_ne (k : Kn) : (!PyData.eqv (knD k) (.str "p")) = !isP k := by
  cases k with
  | p => simp [knD, PyData.eqv, isP]
  | q a b => simp [knD, PyData.eqv, isP]
def spPla (K : PySem.W.Frag) : Sp := fun vs H Q _ => ∃ (l : Addr) (ws : List V) (ks : List Kn), vs = [.ref l] ∧ H l = some (.lst ws) ∧ Kns H ws ks ∧ ∀ H', Same H H' → Q (.int (plains ks : Nat)) H'
theorem scPla : FnScope ["_law_kinds", "_law_found", "_law_kind"] ["_law_kinds"] (defScope sPla) := ⟨rfl, rfl, rfl, by decide +kernel, rfl, by decide +kernel, by decide +kernel⟩
theorem ok_pla {f : Addr} {fd : FuncData} (F : Fun K "_law_plains" "_law_plains" sPla f fd) : FnOk P w K mg base CX0 1 f fd ["_law_kinds"] (spPla K) := by
  refine F.ok scPla (fun vs H Q E h => ?_) (fun cdv A outer s H vs Q E hr h => ?_)
  · obtain ⟨l, ws, ks, rfl, _⟩ := h
    rfl
  · obtain ⟨l, ws, ks, rfl, hl, hk, q⟩ := h
    refine ⟨_, pss_cons (ps_set (i := 1) scPla.nd rfl (.inl rfl) pe_int)
      (pss_cons (ps_for PassesOwn.never rfl (pi_list (pe_revL (pv 0))) (pg_name (i := 2) scPla.nd rfl (.inl rfl))
        (pss_cons (ps_if (pt_cmpR (op_neD hr.units) (pv 2) pe_str (nomark _)) (pss_one (ps_ret (pv 1))) pss_nil)
        (pss_one (ps_set (i := 1) scPla.nd rfl (.inl rfl) (pe_op op_add (pv 1) pe_int)))))
      (pss_one (ps_ret (pv 1)))), ?_⟩
    refine ⟨_, rfl, l, ws, rfl, SqL.of hl, fun p np => ?_⟩
    have s1 : Same H (upd H p (.lst ws.reverse)) := same_new (fun _ _ e => e) np
    have hp : upd H p (.lst ws.reverse) p = some (.lst ws.reverse) := upd_same
    generalize upd H p (.lst ws.reverse) = G1 at s1 hp ⊢
    have hk1 : Kns G1 ws.reverse ks.reverse := (hk.same s1).rev
    refine ⟨p, rfl, ⟨_, SqL.of hp⟩, for_list (K := K) (a := p) (xs := ws.reverse) (fun i σ G => ∃ v2, σ = [some (.ref l), some (.int (i : Nat)), v2] ∧ G = G1 ∧ (ks.reverse.take i).all isP = true)
      ⟨_, rfl, rfl, rfl⟩ (fun i σ G _ ⟨_, _, e, _⟩ => by rw [e]; exact SqL.of hp) ?_ ?_⟩
    · rintro i x σ G hi ⟨v2, rfl, rfl, ha⟩
      obtain ⟨k, hki, kx⟩ := Paired.at (F := _) hk1 hi
      refine ⟨_, rfl, knD k, .str "p", dp_kn kx, .str _, sh_kn k, sh_kn .p, _, rfl, ?_⟩
      rw [kn_ne]
      cases hp' : isP k
      · refine iteT ⟨_, rfl, ?_⟩
        have e : plains ks = i := plains_at ha hki hp'
        have q' := q G s1
        rw [e] at q'
        exact q'
      · refine iteF ⟨_, rfl, _, _, rfl, rfl, ?_⟩
        refine ⟨_, rfl, rfl, ?_⟩
        rw [take_more hki, List.all_append, ha]
        simpa using hp'
    · rintro σ G ⟨v2, rfl, rfl, ha⟩
      have hlen : ws.reverse.length = ks.reverse.length := Paired.length hk1
      rw [hlen, List.take_length] at ha
      have e : plains ks = ws.reverse.length := by
        unfold plains
        rw [hlen, tw_all ha]
      have q' := q G s1
      rw [e] at q'
      exact ⟨_, rfl, q'⟩
end
end SQ4
namespace SQ4
open PySem L2 SQ
/-! ### the rows of the law: words, and rows in rows -/
inductive Rr where
  | nil
  | w (s : Str) (r : Rr)
  | q (i : Rr) (r : Rr)
deriving DecidableEq
abbrev El := Str ⊕ Rr
namespace Rr
def els : Rr → List El
  | nil => []
  | w s r => .inl s :: els r
  | q i r => .inr i :: els r
def ofL : List El → Rr
  | [] => nil
  | .inl s :: l => w s (ofL l)
  | .inr i :: l => q i (ofL l)
theorem els_of : ∀ l : List El, els (ofL l) = l
  | [] => rfl
  | .inl s :: l => by rw [ofL, els, els_of l]
  | .inr i :: l => by rw [ofL, els, els_of l]
theorem of_els : ∀ r : Rr, ofL (els r) = r
  | nil => rfl
  | w s r => by rw [els, ofL, of_els r]
  | q i r => by rw [els, ofL, of_els r]
def toks : Rr → List Str
  | nil => []
  | w s r => s :: toks r
  | q i r => ("[" : Str) :: (toks i ++ ("]" : Str) :: toks r)
def texts : Rr → List Str
  | nil => []
  | w s r => s :: texts r
  | q i r => qtext (jt (texts i)) :: texts r
def size : Rr → Nat
  | nil => 0
  | w _ r => size r + 1
  | q i r => size i + 1 + size r
def dep : Rr → Nat
  | nil => 0
  | w _ r => dep r
  | q i r => max (dep i + 1) (dep r)
def good (p : Str → Prop) : Rr → Prop
  | nil => True
  | w s r => p s ∧ good p r
  | q i r => good p i ∧ good p r
end Rr
def elText : El → Str
  | .inl s => s
  | .inr i => qtext (jt i.texts)
theorem texts_els : ∀ r : Rr, r.texts = r.els.map elText
  | .nil => rfl
  | .w s r => by rw [Rr.texts, Rr.els, List.map_cons, texts_els r]; rfl
  | .q i r => by rw [Rr.texts, Rr.els, List.map_cons, texts_els r]; rfl
theorem texts_of (l : List El) : (Rr.ofL l).texts = l.map elText := by rw [texts_els, Rr.els_of]
/-- what is a word in the law -/
structure Wok (ys : List Str) (s : Str) : Prop where
  wd : isWord ys s = true
  no : ¬ s = "["
  nc : ¬ s = "]"
  ne : ¬ s = ""
  sp : (32 : Nat) ∉ s.cps.toList
  ln : s.length ≤ 20
  ok : PyData.strOk s = true
theorem Rr.good_imp {p q : Str → Prop} (h : ∀ s, p s → q s) : ∀ {r : Rr}, r.good p → r.good q
  | .nil, _ => True.intro
  | .w s r, g => ⟨h s g.1, good_imp h g.2⟩
  | .q i r, g => ⟨good_imp h g.1, good_imp h g.2⟩
section
variable {ys : List Str}
/-! read as they are -/
theorem rd_row : ∀ (r : Rr) (rest : List Str) (g : List Str) (s : List (List Str)), r.good (Wok ys) → rdG (isWord ys) (r.toks ++ rest) (g :: s) = rdG (isWord ys) rest ((g ++ r.texts) :: s)
  | .nil, rest, g, s, _ => by
    show rdG (isWord ys) rest (g :: s) = rdG (isWord ys) rest ((g ++ []) :: s)
    rw [List.append_nil]
  | .w x r, rest, g, s, h => by
    show rdG (isWord ys) (x :: (r.toks ++ rest)) (g :: s) = _
    rw [rdG_word h.1.no h.1.nc h.1.wd, rd_row r rest _ s h.2, List.append_assoc]
    rfl
  | .q i r, rest, g, s, h => by
    have e : (Rr.q i r).toks ++ rest = ("[" : Str) :: (i.toks ++ (("]" : Str) :: (r.toks ++ rest))) := by
      show ("[" : Str) :: ((i.toks ++ ("]" : Str) :: r.toks) ++ rest) = _
      rw [List.append_assoc]
      rfl
    rw [e, rdG_open, rd_row i _ [] (g :: s) h.1, rdG_close, rd_row r rest _ s h.2, List.append_assoc, List.nil_append]
    rfl
theorem row_read {r : Rr} (h : r.good (Wok ys)) : rowG (isWord ys) r.toks = some r.texts := by
  have e := rd_row r [] [] [] h
  rw [List.append_nil] at e
  unfold rowG
  rw [e]
  rfl
/-! their texts -/
theorem jn_app {S : List Nat} : ∀ {a b : List (List Nat)}, a ≠ [] → b ≠ [] → jn S (a ++ b) = jn S a ++ (S ++ jn S b)
  | [], _, h, _ => absurd rfl h
  | [x], b, _, hb => by
    cases b with
    | nil => exact absurd rfl hb
    | cons y b => rfl
  | x :: y :: a, b, _, hb => by
    have ih := jn_app (S := S) (a := y :: a) (b := b) (fun z => nomatch z) hb
    show x ++ (S ++ jn S ((y :: a) ++ b)) = (x ++ (S ++ jn S (y :: a))) ++ (S ++ jn S b)
    rw [ih]
    simp only [List.append_assoc]
def tl (l : List Str) : List (List Nat) := l.map fun x => x.cps.toList
theorem jt_tl (l : List Str) : (jt l).cps.toList = jn [32] (tl l) := by
  rw [jt_eq, tl_join]
  rfl
theorem str_ne {s : Str} (h : ¬ s = "") : s.cps.toList ≠ [] := fun e => h (str_ext e)
theorem str_nil {s : Str} (h : s.cps.toList = []) : s = "" := str_ext h
theorem toks_ne : ∀ {r : Rr}, r.good (Wok ys) → ∀ t ∈ r.toks, ¬ t = "" ∧ (32 : Nat) ∉ t.cps.toList ∧ t.length ≤ 20
  | .nil, _, t, h => nomatch h
  | .w s r, g, t, h => by
    rcases List.mem_cons.mp h with rfl | h
    · exact ⟨g.1.ne, g.1.sp, g.1.ln⟩
    · exact toks_ne g.2 t h
  | .q i r, g, t, h => by
    rcases List.mem_cons.mp h with rfl | h
    · exact ⟨by decide +kernel, by decide +kernel, by decide +kernel⟩
    · rcases List.mem_append.mp h with h | h
      · exact toks_ne g.1 t h
      · rcases List.mem_cons.mp h with rfl | h
        · exact ⟨by decide +kernel, by decide +kernel, by decide +kernel⟩
        · exact toks_ne g.2 t h
theorem jn_ne {S : List Nat} {a : List (List Nat)} (h : a ≠ []) (hn : ∀ x ∈ a, x ≠ []) : jn S a ≠ [] := by
  cases a with
  | nil => exact absurd rfl h
  | cons x a =>
    have hx := hn x List.mem_cons_self
    cases a with
    | nil => exact hx
    | cons y a =>
      intro e
      have e' : x ++ (S ++ jn S (y :: a)) = [] := e
      exact hx (List.append_eq_nil_iff.mp e').1
theorem jt_nil {ts : List Str} (h : ∀ t ∈ ts, ¬ t = "") (e : jt ts = "") : ts = [] := by
  cases ts with
  | nil => rfl
  | cons t ts =>
    have h1 := jt_tl (t :: ts)
    rw [e] at h1
    exact absurd h1.symm (jn_ne (fun z => nomatch z) fun x hx => by
      obtain ⟨y, hy, rfl⟩ := List.mem_map.mp hx
      exact str_ne (h y hy))
theorem toks_nil {r : Rr} (h : r.toks = []) : r = .nil := by
  cases r with
  | nil => rfl
  | w s r => nomatch h
  | q i r => nomatch h
theorem texts_nil {r : Rr} (h : r.texts = []) : r = .nil := by
  cases r with
  | nil => rfl
  | w s r => nomatch h
  | q i r => nomatch h
theorem jt_cons_eq {x : Str} {a b : List Str} (e : jt a = jt b) (h : a = [] ↔ b = []) : jt (x :: a) = jt (x :: b) := by
  refine str_ext ?_
  rw [jt_tl, jt_tl]
  have e1 : jn [32] (tl a) = jn [32] (tl b) := by rw [← jt_tl, ← jt_tl, e]
  cases a with
  | nil =>
    rw [h.mp rfl]
  | cons y a =>
    cases b with
    | nil => exact absurd (h.mpr rfl) (fun z => nomatch z)
    | cons z b =>
      show x.cps.toList ++ ([32] ++ jn [32] (tl (y :: a))) = x.cps.toList ++ ([32] ++ jn [32] (tl (z :: b)))
      rw [e1]
theorem qtext_tl {ts : List Str} (hn : ∀ t ∈ ts, ¬ t = "") : qtext (jt ts) = jt (("[" : Str) :: (ts ++ [("]" : Str)])) := by
  unfold qtext
  by_cases e : jt ts = ""
  · rw [if_pos e, jt_nil hn e]
    decide +kernel
  · rw [if_neg e]
    refine str_ext ?_
    have ne : ts ≠ [] := fun z => e (by rw [z]; rfl)
    have t1 : tl (("[" : Str) :: (ts ++ [("]" : Str)])) = [[91]] ++ (tl ts ++ [[93]]) := by
      unfold tl
      rw [List.map_cons, List.map_append]
      rfl
    have nt : tl ts ≠ [] := by
      unfold tl
      intro z
      exact ne (List.map_eq_nil_iff.mp z)
    have j1 : jn [32] ([[91]] ++ (tl ts ++ [[93]])) = jn [32] [[91]] ++ ([32] ++ jn [32] (tl ts ++ [[93]])) := jn_app (by simp) (by simp)
    have j2 : jn [32] (tl ts ++ [[93]]) = jn [32] (tl ts) ++ ([32] ++ jn [32] [[93]]) := jn_app nt (by simp)
    rw [jt_tl, t1, j1, j2]
    rw [str_app, str_app, str_app, jt_tl]
    show (([] ++ [91, 32]) ++ jn [32] (tl ts)) ++ [32, 93] = [91] ++ ([32] ++ (jn [32] (tl ts) ++ ([32] ++ [93])))
    simp
theorem jt_app_eq {x : Str} {a b : List Str} (hx : x = jt a) (ha : a ≠ []) : jt (x :: b) = jt (a ++ b) := by
  refine str_ext ?_
  rw [jt_tl, jt_tl]
  have t2 : tl (a ++ b) = tl a ++ tl b := List.map_append
  rw [t2]
  cases b with
  | nil =>
    show x.cps.toList = jn [32] (tl a ++ [])
    rw [List.append_nil, hx, jt_tl]
  | cons y b =>
    have na : tl a ≠ [] := fun z => ha (List.map_eq_nil_iff.mp z)
    have j1 : jn [32] (tl a ++ tl (y :: b)) = jn [32] (tl a) ++ ([32] ++ jn [32] (tl (y :: b))) := jn_app na (by simp [tl])
    rw [j1, hx]
    show (jt a).cps.toList ++ ([32] ++ jn [32] (tl (y :: b))) = _
    rw [jt_tl]
theorem jt_toks : ∀ {r : Rr}, r.good (Wok ys) → jt r.texts = jt r.toks
  | .nil, _ => rfl
  | .w s r, g => by
    refine jt_cons_eq (jt_toks g.2) ⟨fun h => ?_, fun h => ?_⟩
    · rw [texts_nil h]
      rfl
    · rw [toks_nil h]
      rfl
  | .q i r, g => by
    have e : (Rr.q i r).toks = (("[" : Str) :: (i.toks ++ [("]" : Str)])) ++ r.toks := by
      show ("[" : Str) :: (i.toks ++ ("]" : Str) :: r.toks) = _
      rw [List.cons_append, List.append_assoc]
      rfl
    have h0 : qtext (jt i.texts) = jt (("[" : Str) :: (i.toks ++ [("]" : Str)])) := by
      rw [jt_toks g.1]
      exact qtext_tl fun t ht => (toks_ne g.1 t ht).1
    rw [e, ← jt_app_eq h0 (by simp)]
    · refine jt_cons_eq (jt_toks g.2) ⟨fun h => ?_, fun h => ?_⟩
      · rw [texts_nil h]
        rfl
      · rw [toks_nil h]
        rfl
/-! their measures -/
theorem cnt_close : ∀ {r : Rr}, r.good (Wok ys) → r.toks.length = r.size + r.toks.count ("]" : Str) ∧ r.toks.length ≤ 2 * r.size
  | .nil, _ => ⟨rfl, Nat.le_refl _⟩
  | .w s r, g => by
    have ih := cnt_close g.2
    show (s :: r.toks).length = r.size + 1 + (s :: r.toks).count ("]" : Str) ∧ (s :: r.toks).length ≤ 2 * (r.size + 1)
    rw [List.count_cons_of_ne g.1.nc, List.length_cons]
    omega
  | .q i r, g => by
    have i1 := cnt_close g.1
    have i2 := cnt_close g.2
    show (("[" : Str) :: (i.toks ++ ("]" : Str) :: r.toks)).length = i.size + 1 + r.size + (("[" : Str) :: (i.toks ++ ("]" : Str) :: r.toks)).count ("]" : Str) ∧ (("[" : Str) :: (i.toks ++ ("]" : Str) :: r.toks)).length ≤ 2 * (i.size + 1 + r.size)
    rw [List.count_cons_of_ne (by decide +kernel), List.count_append, List.count_cons_self, List.length_cons, List.length_append, List.length_cons]
    omega
theorem size_toks {r : Rr} (g : r.good (Wok ys)) : sizeT r.toks = (r.size : Nat) := by
  unfold sizeT
  have := cnt_close g
  omega
theorem dep_fold : ∀ {r : Rr} (d m : Int), r.good (Wok ys) → d ≤ m → r.toks.foldl dstep (d, m) = (d, max m (d + (r.dep : Nat)))
  | .nil, d, m, _, h => by
    show (d, m) = (d, max m (d + 0))
    congr 1
    omega
  | .w s r, d, m, g, h => by
    show (s :: r.toks).foldl dstep (d, m) = (d, max m (d + (r.dep : Nat)))
    rw [List.foldl_cons]
    have e : dstep (d, m) s = (d, m) := by
      unfold dstep
      rw [if_neg g.1.no, if_neg g.1.nc]
    rw [e]
    exact dep_fold d m g.2 h
  | .q i r, d, m, g, h => by
    show (("[" : Str) :: (i.toks ++ ("]" : Str) :: r.toks)).foldl dstep (d, m) = (d, max m (d + ((max (i.dep + 1) r.dep : Nat) : Int)))
    have e : dstep (d, m) "[" = (d + 1, max m (d + 1)) := by
      unfold dstep
      rw [if_pos rfl]
      show (d + 1, if d + 1 > m then d + 1 else m) = _
      congr 1
      split <;> omega
    have e2 : ∀ a b : Int, dstep (a, b) "]" = (a - 1, b) := fun a b => by
      unfold dstep
      rw [if_neg (by decide +kernel), if_pos rfl]
    rw [List.foldl_cons, e, List.foldl_append, dep_fold (d + 1) _ g.1 (by omega), List.foldl_cons, e2, dep_fold _ _ g.2 (by omega)]
    have z : d + 1 - 1 = d := by omega
    rw [z]
    congr 1
    omega
theorem dep_toks {r : Rr} (g : r.good (Wok ys)) : depthT r.toks = (r.dep : Nat) := by
  unfold depthT
  rw [dep_fold 0 0 g (by omega)]
  show max (0 : Int) (0 + (r.dep : Nat)) = _
  omega
theorem sum_20 : ∀ {l : List Str}, (∀ t ∈ l, t.length ≤ 20) → (l.map (·.length)).sum ≤ 20 * l.length
  | [], _ => Nat.le_refl _
  | a :: l, h => by
    have h1 := h a List.mem_cons_self
    have h2 := sum_20 (l := l) fun t ht => h t (List.mem_cons_of_mem _ ht)
    rw [List.map_cons, List.sum_cons, List.length_cons]
    omega
theorem tb_row {r : Rr} (g : r.good (Wok ys)) (h : r.size ≤ 130) : TB r.toks := by
  have c := (cnt_close g).2
  refine ⟨⟨fun t ht => (toks_ne g t ht).2.1, fun e => jt_nil (fun t ht => (toks_ne g t ht).1) e⟩, by omega, ?_⟩
  have s := sum_20 (l := r.toks) fun t ht => (toks_ne g t ht).2.2
  unfold tw
  omega
theorem len_row {r : Rr} (g : r.good (Wok ys)) (h : r.size ≤ 130) : (jt r.texts).length ≤ 6000 := by
  rw [jt_toks g]
  have c := (cnt_close g).2
  have s := sum_20 (l := r.toks) fun t ht => (toks_ne g t ht).2.2
  have j := jt_len r.toks
  unfold wt at j
  omega
end
end SQ4
namespace SQ4
open PySem L2 SQ
abbrev sLine : Stmt := top 64
abbrev sBoxd : Stmt := top 65
abbrev sSize : Stmt := top 75
/-! ### rows on the heap -/
def RowIn (H : Hp) : Rr → List V → Prop
  | .nil, vs => vs = []
  | .w s r, vs => ∃ us, vs = .str s :: us ∧ RowIn H r us
  | .q i r, vs => ∃ a ws us, vs = .ref a :: us ∧ H a = some (.lst ws) ∧ RowIn H i ws ∧ RowIn H r us
def ElAt (H : Hp) (v : V) : El → Prop
  | .inl s => v = .str s
  | .inr i => ∃ a ws, v = .ref a ∧ H a = some (.lst ws) ∧ RowIn H i ws
def RowAt (H : Hp) (vs : List V) (l : List El) : Prop := Paired (fun v e => ElAt H v e) vs l
theorem RowIn.same {H H' : Hp} (s : Same H H') : ∀ {r : Rr} {vs : List V}, RowIn H r vs → RowIn H' r vs
  | .nil, _, h => h
  | .w _ _, _, ⟨us, e, h⟩ => ⟨us, e, RowIn.same s h⟩
  | .q _ _, _, ⟨a, ws, us, e, ha, h1, h2⟩ => ⟨a, ws, us, e, s _ _ ha, RowIn.same s h1, RowIn.same s h2⟩
theorem ElAt.same {H H' : Hp} {v : V} {e : El} (s : Same H H') (h : ElAt H v e) : ElAt H' v e := by
  cases e with
  | inl x => exact h
  | inr i =>
    obtain ⟨a, ws, e, ha, h⟩ := h
    exact ⟨a, ws, e, s _ _ ha, h.same s⟩
theorem RowAt.same {H H' : Hp} {vs : List V} {l : List El} (s : Same H H') (h : RowAt H vs l) : RowAt H' vs l := Paired.mapP h fun _ _ e => e.same s
theorem RowIn.at {H : Hp} : ∀ {r : Rr} {vs : List V}, RowIn H r vs → RowAt H vs r.els
  | .nil, _, h => by
    cases h
    exact .nil
  | .w s r, _, ⟨us, e, h⟩ => by
    subst e
    exact .cons rfl (RowIn.at h)
  | .q i r, _, ⟨a, ws, us, e, ha, h1, h2⟩ => by
    subst e
    exact .cons ⟨a, ws, rfl, ha, h1⟩ (RowIn.at h2)
theorem RowAt.inn {H : Hp} : ∀ {vs : List V} {l : List El}, RowAt H vs l → RowIn H (Rr.ofL l) vs
  | _, _, .nil => rfl
  | _, .inl s :: l, .cons e h => ⟨_, by rw [show _ = V.str s from e], RowAt.inn h⟩
  | _, .inr i :: l, .cons ⟨a, ws, e, ha, h1⟩ h => ⟨a, ws, _, by rw [e], ha, h1, RowAt.inn h⟩
theorem RowAt.app {H : Hp} {vs ws : List V} {l m : List El} (h : RowAt H vs l) (g : RowAt H ws m) : RowAt H (vs ++ ws) (l ++ m) := by
  induction h with
  | nil => exact g
  | cons a b ih => exact .cons a ih
/-! ### measures of lists of elements -/
abbrev rof (l : List El) : Rr := Rr.ofL l
def elSize : El → Nat
  | .inl _ => 1
  | .inr i => i.size + 1
def elDep : El → Nat
  | .inl _ => 0
  | .inr i => i.dep + 1
def elGood (p : Str → Prop) : El → Prop
  | .inl s => p s
  | .inr i => i.good p
theorem size_of : ∀ l : List El, (rof l).size = (l.map elSize).sum
  | [] => rfl
  | .inl s :: l => by
    show (rof l).size + 1 = _
    rw [size_of l, List.map_cons, List.sum_cons]
    show _ = 1 + _
    omega
  | .inr i :: l => by
    show i.size + 1 + (rof l).size = _
    rw [size_of l, List.map_cons, List.sum_cons]
    rfl
theorem good_of_all {p : Str → Prop} : ∀ {l : List El}, (rof l).good p ↔ ∀ e ∈ l, elGood p e
  | [] => ⟨fun _ _ h => (nomatch h), fun _ => True.intro⟩
  | .inl s :: l => by
    have ih := good_of_all (p := p) (l := l)
    constructor
    · rintro ⟨h1, h2⟩ e he
      rcases List.mem_cons.mp he with rfl | he
      · exact h1
      · exact ih.mp h2 e he
    · intro h
      exact ⟨h _ List.mem_cons_self, ih.mpr fun e he => h e (List.mem_cons_of_mem _ he)⟩
  | .inr i :: l => by
    have ih := good_of_all (p := p) (l := l)
    constructor
    · rintro ⟨h1, h2⟩ e he
      rcases List.mem_cons.mp he with rfl | he
      · exact h1
      · exact ih.mp h2 e he
    · intro h
      exact ⟨h _ List.mem_cons_self, ih.mpr fun e he => h e (List.mem_cons_of_mem _ he)⟩
theorem dep_of_all {d : Nat} : ∀ {l : List El}, (rof l).dep ≤ d ↔ ∀ e ∈ l, elDep e ≤ d
  | [] => ⟨fun _ _ h => (nomatch h), fun _ => Nat.zero_le _⟩
  | .inl s :: l => by
    have ih := dep_of_all (d := d) (l := l)
    constructor
    · intro h2 e he
      rcases List.mem_cons.mp he with rfl | he
      · exact Nat.zero_le _
      · exact ih.mp h2 e he
    · intro h
      exact ih.mpr fun e he => h e (List.mem_cons_of_mem _ he)
  | .inr i :: l => by
    have ih := dep_of_all (d := d) (l := l)
    constructor
    · intro h2 e he
      have h2' : max (i.dep + 1) (rof l).dep ≤ d := h2
      rcases List.mem_cons.mp he with rfl | he
      · show i.dep + 1 ≤ d
        omega
      · exact ih.mp (by omega) e he
    · intro h
      have h1 : i.dep + 1 ≤ d := h _ List.mem_cons_self
      have h2 := ih.mpr fun e he => h e (List.mem_cons_of_mem _ he)
      show max (i.dep + 1) (rof l).dep ≤ d
      omega
theorem sum_mem {α : Type} (f : α → Nat) : ∀ {l : List α} {x : α}, x ∈ l → f x ≤ (l.map f).sum
  | a :: l, x, h => by
    rw [List.map_cons, List.sum_cons]
    rcases List.mem_cons.mp h with rfl | h
    · omega
    · have := sum_mem f h
      omega
theorem len_size : ∀ l : List El, l.length ≤ (rof l).size
  | [] => Nat.le_refl _
  | .inl s :: l => by
    have := len_size l
    show l.length + 1 ≤ (rof l).size + 1
    omega
  | .inr i :: l => by
    have := len_size l
    show l.length + 1 ≤ i.size + 1 + (rof l).size
    omega
/-- a row that can be shown -/
structure Fine (ys : List Str) (d n : Nat) (l : List El) : Prop where
  gd : (rof l).good (Wok ys)
  dp : (rof l).dep ≤ d
  sz : (rof l).size ≤ n
theorem Fine.el {ys : List Str} {d n : Nat} {l : List El} {i : Rr} (h : Fine ys d n l) (hi : .inr i ∈ l) : ∃ d', d = d' + 1 ∧ Fine ys d' n i.els := by
  have h1 : i.good (Wok ys) := good_of_all.mp h.gd _ hi
  have h2 : i.dep + 1 ≤ d := dep_of_all.mp h.dp _ hi
  have h3 : i.size + 1 ≤ n := by
    have a := sum_mem elSize hi
    have b := h.sz
    rw [size_of] at b
    exact Nat.le_trans a b
  refine ⟨d - 1, by omega, ?_, ?_, ?_⟩
  · rw [show rof i.els = i from Rr.of_els i]; exact h1
  · rw [show rof i.els = i from Rr.of_els i]; omega
  · rw [show rof i.els = i from Rr.of_els i]; omega
theorem el_len {ys : List Str} {d n : Nat} {l : List El} (h : Fine ys d n l) (hn : n ≤ 130) : ∀ x ∈ l.map elText, x.length ≤ 6010 := by
  intro x hx
  obtain ⟨e, he, rfl⟩ := List.mem_map.mp hx
  cases e with
  | inl s =>
    have : Wok ys s := good_of_all.mp h.gd _ he
    exact Nat.le_trans this.ln (by omega)
  | inr i =>
    obtain ⟨d', _, g⟩ := h.el he
    have e0 : rof i.els = i := Rr.of_els i
    have gd := g.gd
    have sz := g.sz
    rw [e0] at gd sz
    have a := len_row gd (Nat.le_trans sz hn)
    have b := qtext_len (jt i.texts)
    show (qtext (jt i.texts)).length ≤ 6010
    omega
/-! ### rows as data -/
def rowD : Rr → List PyData
  | .nil => []
  | .w s r => .str s :: rowD r
  | .q i r => .list (rowD i) :: rowD r
theorem row_dp {K : PySem.W.Frag} {H : Hp} : ∀ {r : Rr} {vs : List V}, RowIn H r vs → DpAll K H vs (rowD r)
  | .nil, _, h => by
    cases h
    exact .nil
  | .w s r, _, ⟨us, e, h⟩ => by
    subst e
    exact .cons (.str s) (row_dp h)
  | .q i r, _, ⟨a, ws, us, e, ha, h1, h2⟩ => by
    subst e
    exact .cons (.lst (SqL.of ha) (row_dp h1)) (row_dp h2)
theorem row_lay {ys : List Str} : ∀ {r : Rr}, r.good (Wok ys) → PyData.canLayAll0 (rowD r) = true ∧ PyData.depthAll (rowD r) ≤ r.dep
  | .nil, _ => by simp [rowD, PyData.canLayAll0, PyData.depthAll]
  | .w s r, g => by
    have ih := row_lay g.2
    simp only [rowD, PyData.canLayAll0, PyData.canLay0, PyData.depthAll, PyData.depth, g.1.ok, ih.1, Rr.dep]
    exact ⟨rfl, by omega⟩
  | .q i r, g => by
    have i1 := row_lay g.1
    have i2 := row_lay g.2
    simp only [rowD, PyData.canLayAll0, PyData.canLay0, PyData.depthAll, PyData.depth, i1.1, i2.1, Rr.dep]
    exact ⟨rfl, by omega⟩
theorem row_sh {ys : List Str} {r : Rr} (g : r.good (Wok ys)) (h : r.dep ≤ 60) : SeqAt.shaped (.list (rowD r)) = true := by
  have l := row_lay g
  unfold SeqAt.shaped
  simp only [PyData.canLay0, PyData.depth, l.1]
  have : PyData.depthAll (rowD r) + 1 ≤ 64 := by omega
  simp [this]
theorem sh_nilL : SeqAt.shaped (.list []) = true := by
  unfold SeqAt.shaped
  simp [PyData.canLay0, PyData.canLayAll0, PyData.depth, PyData.depthAll]
theorem row_eqnil (r : Rr) : PyData.eqv (.list (rowD r)) (.list []) = decide (r = .nil) := by
  cases r with
  | nil => simp [rowD, PyData.eqv, PyData.eqvAll]
  | w s r => simp [rowD, PyData.eqv, PyData.eqvAll]
  | q i r => simp [rowD, PyData.eqv, PyData.eqvAll]
mutual
theorem row_eq : ∀ r t : Rr, PyData.eqvAll (rowD r) (rowD t) = true ↔ r = t
  | .nil, .nil => by simp [rowD, PyData.eqvAll]
  | .nil, .w _ _ => by simp [rowD, PyData.eqvAll]
  | .nil, .q _ _ => by simp [rowD, PyData.eqvAll]
  | .w _ _, .nil => by simp [rowD, PyData.eqvAll]
  | .q _ _, .nil => by simp [rowD, PyData.eqvAll]
  | .w s r, .w s' r' => by
    have ih := row_eq r r'
    simp only [rowD, PyData.eqvAll, PyData.eqv, Bool.and_eq_true, ih, Rr.w.injEq]
    simp
  | .w s r, .q i r' => by simp [rowD, PyData.eqvAll, PyData.eqv]
  | .q i r, .w s r' => by simp [rowD, PyData.eqvAll, PyData.eqv]
  | .q i r, .q i' r' => by
    have h1 := row_eq i i'
    have h2 := row_eq r r'
    simp only [rowD, PyData.eqvAll, PyData.eqv, Bool.and_eq_true, h1, h2, Rr.q.injEq]
end
/-! the tokens tell the row -/
def Ends0 (x : List Str) : Prop := x = [] ∨ ∃ y, x = ("]" : Str) :: y
theorem toks_inj {ys zs : List Str} : ∀ {r t : Rr} {x y : List Str}, r.good (Wok ys) → t.good (Wok zs) → Ends0 x → Ends0 y → r.toks ++ x = t.toks ++ y → r = t ∧ x = y
  | .nil, .nil, x, y, _, _, _, _, e => ⟨rfl, e⟩
  | .nil, .w s t, x, y, _, g, hx, _, e => by
    exfalso
    have e' : x = s :: (t.toks ++ y) := e
    rcases hx with rfl | ⟨z, rfl⟩
    · cases e'
    · exact g.1.nc (List.cons.inj e').1.symm
  | .nil, .q i t, x, y, _, g, hx, _, e => by
    exfalso
    have e' : x = ("[" : Str) :: ((i.toks ++ ("]" : Str) :: t.toks) ++ y) := e
    rcases hx with rfl | ⟨z, rfl⟩
    · cases e'
    · exact absurd (List.cons.inj e').1 (by decide +kernel)
  | .w s r, .nil, x, y, g, _, _, hy, e => by
    exfalso
    have e' : s :: (r.toks ++ x) = y := e
    rcases hy with rfl | ⟨z, rfl⟩
    · cases e'
    · exact g.1.nc (List.cons.inj e').1
  | .q i r, .nil, x, y, g, _, _, hy, e => by
    exfalso
    have e' : ("[" : Str) :: ((i.toks ++ ("]" : Str) :: r.toks) ++ x) = y := e
    rcases hy with rfl | ⟨z, rfl⟩
    · cases e'
    · exact absurd (List.cons.inj e').1 (by decide +kernel)
  | .w s r, .w s' t, x, y, g, g', hx, hy, e => by
    have e' : s :: (r.toks ++ x) = s' :: (t.toks ++ y) := e
    obtain ⟨rfl, e2⟩ := List.cons.inj e'
    obtain ⟨rfl, h⟩ := toks_inj g.2 g'.2 hx hy e2
    exact ⟨rfl, h⟩
  | .w s r, .q i t, x, y, g, g', hx, hy, e => by
    exfalso
    have e' : s :: (r.toks ++ x) = ("[" : Str) :: ((i.toks ++ ("]" : Str) :: t.toks) ++ y) := e
    exact g.1.no (List.cons.inj e').1
  | .q i r, .w s t, x, y, g, g', hx, hy, e => by
    exfalso
    have e' : ("[" : Str) :: ((i.toks ++ ("]" : Str) :: r.toks) ++ x) = s :: (t.toks ++ y) := e
    exact g'.1.no (List.cons.inj e').1.symm
  | .q i r, .q i' t, x, y, g, g', hx, hy, e => by
    have e' : ("[" : Str) :: ((i.toks ++ ("]" : Str) :: r.toks) ++ x) = ("[" : Str) :: ((i'.toks ++ ("]" : Str) :: t.toks) ++ y) := e
    have e2 := (List.cons.inj e').2
    rw [List.append_assoc, List.append_assoc] at e2
    obtain ⟨rfl, h⟩ := toks_inj g.1 g'.1 (.inr ⟨r.toks ++ x, rfl⟩) (.inr ⟨t.toks ++ y, rfl⟩) e2
    have h' : ("]" : Str) :: (r.toks ++ x) = ("]" : Str) :: (t.toks ++ y) := h
    obtain ⟨rfl, h3⟩ := toks_inj g.2 g'.2 hx hy (List.cons.inj h').2
    exact ⟨rfl, h3⟩
theorem jt_inj {a b : List Str} (ha : SfT a) (hb : SfT b) (e : jt a = jt b) : a = b := by
  by_cases h : jt a = ""
  · rw [ha.2 h, hb.2 (e ▸ h)]
  · have na : a ≠ [] := fun z => h (by rw [z]; rfl)
    have nb : b ≠ [] := fun z => h (by rw [e, z]; rfl)
    have e1 : Txt.split (Str.join " " a) " " = a := split_join (c := 32) (S := []) (by decide +kernel) (by decide +kernel) na ha.1
    have e2 : Txt.split (Str.join " " b) " " = b := split_join (c := 32) (S := []) (by decide +kernel) (by decide +kernel) nb hb.1
    rw [← e1, ← e2, ← jt_eq, ← jt_eq, e]
theorem text_inj {ys zs : List Str} {r t : Rr} (g : r.good (Wok ys)) (g' : t.good (Wok zs)) : jt r.toks = jt t.toks ↔ r = t := by
  constructor
  · intro e
    have sf : ∀ {ys : List Str} {r : Rr}, r.good (Wok ys) → SfT r.toks := fun g => ⟨fun t ht => (toks_ne g t ht).2.1, fun e => jt_nil (fun t ht => (toks_ne g t ht).1) e⟩
    have e1 := jt_inj (sf g) (sf g') e
    exact (toks_inj g g' (.inl rfl) (.inl rfl) (by rw [e1])).1
  · intro e
    rw [e]
theorem ne_list {r t : Rr} : PyData.eqv (.list (rowD r)) (.list (rowD t)) = decide (r = t) := by
  have h := row_eq r t
  simp only [PyData.eqv]
  by_cases e : r = t
  · rw [h.mpr e, decide_eq_true e]
  · rw [decide_eq_false e]
    cases z : PyData.eqvAll (rowD r) (rowD t) with
    | false => rfl
    | true => exact absurd (h.mp z) e
section
variable {P : Program} {w : World} {K : PySem.W.Frag} {mg : Str → Option Value} {base : Heap}
theorem cr_isiK {X : Cx} (K : PySem.W.Frag) (h : X.K = K) : CallR X (.builtin "isinstance") (rIsi K) := h ▸ call_isi
/-! ### _law_line and _law_boxed -/
def spLine (d : Nat) : Sp := fun vs H Q _ => ∃ (a : Addr) (ws : List V) (l : List El) (ys : List Str), vs = [.ref a] ∧ H a = some (.lst ws) ∧ RowAt H ws l ∧ Fine ys d 130 l ∧ ∀ H', Same H H' → Q (.str (jt (l.map elText))) H'
def spBx : Nat → Sp
  | 0 => fun _ _ _ _ => False
  | d + 1 => fun vs H Q _ => ∃ (a : Addr) (ws : List V) (l : List El) (ys : List Str), vs = [.ref a] ∧ H a = some (.lst ws) ∧ RowAt H ws l ∧ Fine ys d 130 l ∧ ∀ H', Same H H' → Q (.str (qtext (jt (l.map elText)))) H'
theorem scLine : FnScope ["_law_row_here", "_law_token"] ["_law_row_here"] (defScope sLine) := ⟨rfl, rfl, rfl, by decide +kernel, rfl, by decide +kernel, by decide +kernel⟩
theorem scBoxd : FnScope ["_law_row_here"] ["_law_row_here"] (defScope sBoxd) := ⟨rfl, rfl, rfl, by decide +kernel, rfl, by decide +kernel, by decide +kernel⟩
structure LnD (K : PySem.W.Frag) (mg : Str → Option Value) (fL fB : Addr) (dL dB : FuncData) : Prop where
  gL : mg "_law_line" = some (.ref fL)
  FL : Fun K "_law_line" "_law_line" sLine fL dL
  bL : Binds K dL ["_law_row_here"] []
  gB : mg "_law_boxed" = some (.ref fB)
  FB : Fun K "_law_boxed" "_law_boxed" sBoxd fB dB
  bB : Binds K dB ["_law_row_here"] []
variable {fL fB : Addr} {dL dB : FuncData}
theorem ok_line {d : Nat} (L : LnD K mg fL fB dL dB) (B : B2 mg) (GB : FnOk P w K mg base CX0 (2 * d + 1) fB dB ["_law_row_here"] (spBx d)) : FnOk P w K mg base CX0 (2 * d + 2) fL dL ["_law_row_here"] (spLine d) := by
  refine L.FL.ok scLine (fun vs H Q E h => ?_) (fun cdv A outer s H vs Q E hr h => ?_)
  · obtain ⟨a, ws, l, ys, rfl, _⟩ := h
    rfl
  · obtain ⟨a, ws, l, ys, rfl, ha, hR, hF, q⟩ := h
    refine ⟨_, pss_one (ps_ret (pe_join pe_str (pe_lc (own := [("_law_token", 1)]) (g := gName 1) (tt := tYes) rfl scLine.nd (pi_list (pv 0)) (blkOk_by (N := ["_law_row_here", "_law_token"]) (sc := defScope sLine) (by decide +kernel)) (fun _ _ _ _ _ => pg_name (i := 1) scLine.nd rfl (.inl rfl)) (fun _ _ _ _ _ => pts_nil)
      (fun _ _ _ _ _ => pe_ifExp (pt_val (pe_callB (cr_isiK K rfl) (by rfl) B.isi (by decide +kernel) (pa_cons (pv 1) (pa_cons (pe_bltn (v := .ty "str") (by rfl) B.str (by decide +kernel) rfl) pa_nil)))) (pv 1) (pe_call GB hr rfl L.gB L.FB.kp L.bB .nil pass0 (pa_cons (pv 1) pa_nil)))))), ?_⟩
    have hlen : l.length ≤ 130 := Nat.le_trans (len_size l) hF.sz
    have hwl : ws.length = l.length := Paired.length hR
    refine ⟨⟨_, rfl⟩, _, rfl, a, rfl, ⟨_, SqL.of ha⟩, fun D hD => ?_⟩
    refine lc_list (K := K) (a := a) (xs := ws) (fun i G => G D = some (.lst (((l.take i).map elText).map V.str)) ∧ Same H G) ⟨upd_same, same_new (fun _ _ e => e) hD⟩ (fun i G _ ⟨_, s2⟩ => SqL.of (s2 _ _ ha)) ?_ ?_
    · rintro i v G hi ⟨hD2, s2⟩
      obtain ⟨e, he, hv⟩ := Paired.at (F := _) hR hi
      have hb : (((l.take i).map elText).map V.str).length < sizeLine := by
        rw [List.length_map, List.length_map, List.length_take]
        exact Nat.lt_of_le_of_lt (by omega : min i l.length ≤ 130) (by decide)
      have nx : ∀ G2, G2 D = some (.lst (((l.take i).map elText).map V.str)) → Same H G2 → (upd G2 D (.lst (((l.take i).map elText).map V.str ++ [V.str (elText e)]))) D = some (.lst (((l.take (i + 1)).map elText).map V.str)) ∧ Same H (upd G2 D (.lst (((l.take i).map elText).map V.str ++ [V.str (elText e)]))) := fun G2 h2 s3 => by
        refine ⟨by rw [upd_same, take_more he, List.map_append, List.map_append]; rfl, fun b o eo => ?_⟩
        rw [upd_ne (ne_of_none eo hD)]
        exact s3 b o eo
      cases e with
      | inl x =>
        have ev : v = .str x := hv
        subst ev
        have hx : x.length ≤ 1000 := by
          have : Wok ys x := good_of_all.mp hF.gd _ (List.mem_of_getElem? he)
          exact Nat.le_trans this.ln (by omega)
        refine ⟨rfl, keptT ⟨_, rfl, _, _, _, _, true, rfl, .ty "str", (Kd.str (H := G) x hx).ty, kit_ty (by decide +kernel), _, rfl, iteT ⟨_, rfl, _, hD2, hb, ?_⟩⟩⟩
        exact nx G hD2 s2
      | inr r =>
        obtain ⟨b, us, rfl, hb', hr'⟩ := hv
        obtain ⟨d', rfl, g⟩ := hF.el (List.mem_of_getElem? he)
        refine ⟨rfl, keptT ⟨_, rfl, _, _, _, _, false, rfl, .ty "str", (Kd.lst (s2 _ _ hb')).ty, kit_ty (by decide +kernel), _, rfl, iteF ⟨_, rfl, b, us, r.els, ys, rfl, s2 _ _ hb', (hr'.same s2).at, g, fun G2 s3 => ?_⟩⟩⟩
        rw [← texts_els]
        exact ⟨_, s3 _ _ hD2, hb, nx G2 (s3 _ _ hD2) (st s2 s3)⟩
    · rintro G ⟨hD2, s2⟩
      rw [hwl, List.take_length] at hD2
      refine ⟨_, D, l.map elText, rfl, rfl, .inl (SqL.of hD2), ?_, q G s2⟩
      have a1 := sum_le (α := Str) (·.length) 6010 (l.map elText) (el_len hF (Nat.le_refl _))
      rw [List.length_map] at a1
      show _ + (l.map elText).length * 1 ≤ _
      rw [List.length_map]
      have : l.length * 6010 ≤ 130 * 6010 := Nat.mul_le_mul_right _ hlen
      omega
theorem ok_boxd {d : Nat} (L : LnD K mg fL fB dL dB) (GL : FnOk P w K mg base CX0 (2 * d + 2) fL dL ["_law_row_here"] (spLine d)) (hd : d ≤ 60) : FnOk P w K mg base CX0 (2 * (d + 1) + 1) fB dB ["_law_row_here"] (spBx (d + 1)) := by
  refine L.FB.ok scBoxd (fun vs H Q E h => ?_) (fun cdv A outer s H vs Q E hr h => ?_)
  · obtain ⟨a, ws, l, ys, rfl, _⟩ := h
    rfl
  · obtain ⟨a, ws, l, ys, rfl, ha, hR, hF, q⟩ := h
    refine ⟨_, pss_one (ps_ret (pe_ifExp (pt_cmpR (op_neD hr.units) (pv 0) (pe_lst pa_nil) (nomark _)) (pe_op op_add_str (pe_op op_add_str pe_str (pe_call GL hr rfl L.gL L.FL.kp L.bL .nil pass0 (pa_cons (pv 0) pa_nil))) pe_str) pe_str)), ?_⟩
    refine ⟨_, rfl, by decide, fun p np => ?_⟩
    have s1 : Same H (upd H p (.lst [])) := same_new (fun _ _ e => e) np
    have hp : upd H p (.lst []) p = some (.lst []) := upd_same
    generalize upd H p (.lst []) = G at s1 hp ⊢
    refine ⟨_, _, .lst (SqL.of (s1 _ _ ha)) (row_dp (hR.same s1).inn), .lst (SqL.of hp) .nil, row_sh hF.gd (Nat.le_trans hF.dp hd), sh_nilL, _, rfl, ?_⟩
    rw [row_eqnil]
    by_cases e : rof l = .nil
    · have el : l = [] := by
        have := Rr.els_of l
        rw [show Rr.ofL l = .nil from e] at this
        exact this.symm
      subst el
      rw [decide_eq_true e]
      exact iteF (q G s1)
    · rw [decide_eq_false e]
      refine iteT ?_
      have ne : ¬ jt (l.map elText) = "" := by
        intro z
        rw [← texts_of] at z
        rw [jt_toks hF.gd] at z
        exact e (toks_nil (jt_nil (fun t ht => (toks_ne hF.gd t ht).1) z))
      have hl : (jt (l.map elText)).length ≤ 6000 := by
        rw [← texts_of]
        exact len_row hF.gd hF.sz
      refine ⟨_, rfl, a, ws, l, ys, rfl, s1 _ _ ha, hR.same s1, hF, fun G2 s2 => ⟨_, _, rfl, rfl, ?_, _, _, rfl, rfl, ?_, ?_⟩⟩
      · exact Nat.le_trans (Nat.add_le_add_left hl _) (by decide)
      · rw [Str.length_append]
        exact Nat.le_trans (Nat.add_le_add_right (Nat.add_le_add_left hl _) _) (by decide)
      · have q2 := q G2 (st s1 s2)
        unfold qtext at q2
        rw [if_neg ne] at q2
        exact q2
theorem ok_lines (L : LnD K mg fL fB dL dB) (B : B2 mg) : ∀ d, d ≤ 50 → FnOk P w K mg base CX0 (2 * d + 2) fL dL ["_law_row_here"] (spLine d)
  | 0, _ => by
    refine ok_line L B (L.FB.ok scBoxd (fun vs H Q E h => h.elim) (fun cdv A outer s H vs Q E hr h => h.elim))
  | d + 1, h => ok_line L B (ok_boxd L (ok_lines L B d (by omega)) (by omega))
/-! ### _law_size -/
def spSz (d : Nat) : Sp := fun vs H Q _ => ∃ (a : Addr) (ws : List V) (l : List El) (ys : List Str), vs = [.ref a] ∧ H a = some (.lst ws) ∧ RowAt H ws l ∧ Fine ys d 130 l ∧ ∀ H', Same H H' → Q (.int ((rof l).size : Nat)) H'
theorem scSize : FnScope ["_law_row_here", "_law_token"] ["_law_row_here"] (defScope sSize) := ⟨rfl, rfl, rfl, by decide +kernel, rfl, by decide +kernel, by decide +kernel⟩
structure SzD (K : PySem.W.Frag) (mg : Str → Option Value) (fZ : Addr) (dZ : FuncData) : Prop where
  g : mg "_law_size" = some (.ref fZ)
  F : Fun K "_law_size" "_law_size" sSize fZ dZ
  b : Binds K dZ ["_law_row_here"] []
  sum : mg "sum" = none
  list : mg "list" = none
def elIn : El → Nat
  | .inl _ => 0
  | .inr i => i.size
theorem size_in : ∀ l : List El, (rof l).size = l.length + (l.map elIn).sum
  | [] => rfl
  | .inl s :: l => by
    show (rof l).size + 1 = _
    rw [size_in l, List.map_cons, List.sum_cons, List.length_cons]
    show _ = l.length + 1 + (0 + _)
    omega
  | .inr i :: l => by
    show i.size + 1 + (rof l).size = _
    rw [size_in l, List.map_cons, List.sum_cons, List.length_cons]
    show _ = l.length + 1 + (i.size + _)
    omega
def inns : List El → List Nat
  | [] => []
  | .inl _ :: l => inns l
  | .inr i :: l => i.size :: inns l
theorem inns_sum : ∀ l : List El, (inns l).sum = (l.map elIn).sum
  | [] => rfl
  | .inl s :: l => by
    show (inns l).sum = 0 + (l.map elIn).sum
    rw [inns_sum l]
    omega
  | .inr i :: l => by
    show i.size + (inns l).sum = i.size + (l.map elIn).sum
    rw [inns_sum l]
theorem inns_app : ∀ l m : List El, inns (l ++ m) = inns l ++ inns m
  | [], m => rfl
  | .inl s :: l, m => inns_app l m
  | .inr i :: l, m => by
    show i.size :: inns (l ++ m) = _
    rw [inns_app l m]
    rfl
theorem inns_len : ∀ l : List El, (inns l).length ≤ l.length
  | [] => Nat.le_refl _
  | .inl s :: l => Nat.le_succ_of_le (inns_len l)
  | .inr i :: l => Nat.succ_le_succ (inns_len l)
theorem sum_int : ∀ l : List Nat, (l.map fun (n : Nat) => (n : Int)).sum = ((l.sum : Nat) : Int)
  | [] => rfl
  | a :: l => by
    rw [List.map_cons, List.sum_cons, List.sum_cons, sum_int l]
    omega
def spSz0 : Nat → Sp
  | 0 => fun _ _ _ _ => False
  | d + 1 => spSz d
theorem ok_sz1 {fZ : Addr} {dZ : FuncData} {d : Nat} (Z : SzD K mg fZ dZ) (B : B2 mg) (G0 : FnOk P w K mg base CX0 (d + 1) fZ dZ ["_law_row_here"] (spSz0 d)) : FnOk P w K mg base CX0 (d + 2) fZ dZ ["_law_row_here"] (spSz d) := by
  refine Z.F.ok scSize (fun vs H Q E h => ?_) (fun cdv A outer s H vs Q E hr h => ?_)
  · obtain ⟨a, ws, l, ys, rfl, _⟩ := h
    rfl
  · obtain ⟨a, ws, l, ys, rfl, ha, hR, hF, q⟩ := h
    refine ⟨_, pss_one (ps_ret (pe_op op_add (pe_callB call_len_seq (by rfl) B.len PySem.boot_len (pa_cons (pv 0) pa_nil)) (pe_callB (cr_sum rfl) (by rfl) Z.sum (by decide +kernel) (pa_cons (pe_lc (own := [("_law_token", 1)]) (g := gName 1) (tt := tTest (tCB (rIsi K) (tCons (tVar 1) (tCons (tC (.ty "list")) tNil)))) rfl scSize.nd (pi_list (pv 0)) (blkOk_by (N := ["_law_row_here", "_law_token"]) (sc := defScope sSize) (by decide +kernel)) (fun _ _ _ _ _ => pg_name (i := 1) scSize.nd rfl (.inl rfl))
      (fun _ _ _ _ _ => pts_one (pt_val (pe_callB (cr_isiK K rfl) (by rfl) B.isi (by decide +kernel) (pa_cons (pv 1) (pa_cons (pe_bltn (v := .ty "list") (by rfl) Z.list (by decide +kernel) rfl) pa_nil)))))
      (fun _ _ _ _ _ => pe_call G0 hr rfl Z.g Z.F.kp Z.b .nil pass0 (pa_cons (pv 1) pa_nil))) pa_nil)))), ?_⟩
    have hlen : l.length ≤ 130 := Nat.le_trans (len_size l) hF.sz
    have hwl : ws.length = l.length := Paired.length hR
    refine ⟨_, rfl, a, ws, rfl, .inl (SqL.of ha), _, rfl, a, rfl, ⟨_, SqL.of ha⟩, fun D hD => ?_⟩
    refine lc_list (K := K) (a := a) (xs := ws) (fun i G => G D = some (.lst (((inns (l.take i)).map fun (n : Nat) => (n : Int)).map V.int)) ∧ Same H G) ⟨upd_same, same_new (fun _ _ e => e) hD⟩ (fun i G _ ⟨_, s2⟩ => SqL.of (s2 _ _ ha)) ?_ ?_
    · rintro i v G hi ⟨hD2, s2⟩
      obtain ⟨e, he, hv⟩ := Paired.at (F := _) hR hi
      cases e with
      | inl x =>
        have ev : v = .str x := hv
        subst ev
        have hx : x.length ≤ 1000 := by
          have : Wok ys x := good_of_all.mp hF.gd _ (List.mem_of_getElem? he)
          exact Nat.le_trans this.ln (by omega)
        refine ⟨rfl, _, rfl, _, _, _, _, false, rfl, .ty "list", (Kd.str (H := G) x hx).ty, kit_ty (by decide +kernel), _, rfl, iteF ⟨?_, s2⟩⟩
        rw [take_more he, inns_app]
        show G D = some (.lst (((inns (l.take i) ++ []).map _).map _))
        rw [List.append_nil]
        exact hD2
      | inr r =>
        obtain ⟨b, us, rfl, hb', hr'⟩ := hv
        obtain ⟨d', rfl, g⟩ := hF.el (List.mem_of_getElem? he)
        refine ⟨rfl, _, rfl, _, _, _, _, true, rfl, .ty "list", (Kd.lst (s2 _ _ hb')).ty, kit_ty (by decide +kernel), _, rfl, iteT ⟨_, rfl, b, us, r.els, ys, rfl, s2 _ _ hb', (hr'.same s2).at, g, fun G2 s3 => ?_⟩⟩
        rw [show rof r.els = r from Rr.of_els r]
        refine ⟨_, s3 _ _ hD2, ?_, ?_, fun b o eo => ?_⟩
        · rw [List.length_map, List.length_map]
          refine Nat.lt_of_le_of_lt (inns_len _) ?_
          rw [List.length_take]
          exact Nat.lt_of_le_of_lt (by omega : min i l.length ≤ 130) (by decide)
        · rw [upd_same, take_more he, inns_app, List.map_append, List.map_append]
          rfl
        · rw [upd_ne (ne_of_none eo hD)]
          exact s3 _ _ (s2 b o eo)
    · rintro G ⟨hD2, s2⟩
      rw [hwl, List.take_length] at hD2
      refine ⟨D, _, rfl, SqL.of hD2, _, _, rfl, rfl, ?_⟩
      have q2 := q G s2
      rw [size_in, ← inns_sum] at q2
      rw [sum_int, hwl]
      have e : ((l.length + (inns l).sum : Nat) : Int) = (l.length : Int) + ((inns l).sum : Nat) := by omega
      rw [e] at q2
      exact q2
theorem ok_sz {fZ : Addr} {dZ : FuncData} (Z : SzD K mg fZ dZ) (B : B2 mg) : ∀ d, FnOk P w K mg base CX0 (d + 2) fZ dZ ["_law_row_here"] (spSz d)
  | 0 => ok_sz1 Z B (Z.F.ok scSize (fun vs H Q E h => h.elim) (fun cdv A outer s H vs Q E hr h => h.elim))
  | d + 1 => ok_sz1 Z B (ok_sz Z B d)
end
end SQ4
namespace SQ4
open PySem L2 SQ
abbrev sAr4 : Stmt := top 66
/-! ### _law_arities -/
def allG : List G3 := [("f", 2, 1), ("g", 1, 2), ("h", 0, 1), ("t", 1, 1), ("swap", 2, 2), ("pair", 3, 1), ("gone", 1, 0)]
def DAt (H : Hp) (a : Addr) (gs : List G3) : Prop := ∃ kvs, H a = some (.dK kvs) ∧ Kvs H kvs gs
theorem DAt.same {H H' : Hp} {a : Addr} {gs : List G3} (s : Same H H') (h : DAt H a gs) : DAt H' a gs := by
  obtain ⟨kvs, e, k⟩ := h
  exact ⟨kvs, s _ _ e, k.same s⟩
theorem Kvs.but {H H' : Hp} {u : Addr} {us : List V} {kvs : List (Key × V)} {gs : List G3} (hu : H u = some (.lst us)) (b : But u H H') (h : Kvs H kvs gs) : Kvs H' kvs gs :=
  Paired.mapP h fun kv g ⟨q1, t0, q2, q3⟩ => ⟨q1, t0, q2, b _ _ q3 (ne_of q3 hu (by intro z; cases z))⟩
theorem DAt.but {H H' : Hp} {u a : Addr} {gs : List G3} (hu : urnAt H u) (b : But u H H') (h : DAt H a gs) : DAt H' a gs := by
  obtain ⟨x, y, z, eu⟩ := hu
  obtain ⟨kvs, e, k⟩ := h
  exact ⟨kvs, b _ _ e (ne_of e eu (by intro z; cases z)), k.but eu b⟩
theorem urn_same {u : Addr} {H H' : Hp} (s : Same H H') (h : urnAt H u) : urnAt H' u := by
  obtain ⟨x, y, z, e⟩ := h
  exact ⟨x, y, z, s _ _ e⟩
theorem urn_ne {u p : Addr} {H : Hp} (h : urnAt H u) (n : H p = none) : u ≠ p := by
  obtain ⟨x, y, z, e⟩ := h
  exact ne_of_none e n
def spAr4 : Sp := fun vs H Q _ => ∃ u : Addr, vs = [.ref u] ∧ urnAt H u ∧ ∀ (a : Addr) (gs : List G3) (H' : Hp), H a = none → But u H H' → urnAt H' u → DAt H' a gs → gs.Sublist allG → Q (.ref a) H'
def G3At (H : Hp) (v : V) (g : G3) : Prop := ∃ t, v = .ref t ∧ H t = some (.tup [.str g.1, .int g.2.1, .int g.2.2])
theorem G3At.same {H H' : Hp} {v : V} {g : G3} (s : Same H H') (h : G3At H v g) : G3At H' v g := by
  obtain ⟨t, e, h⟩ := h
  exact ⟨t, e, s _ _ h⟩
section
variable {P : Program} {w : World} {K : PySem.W.Frag} {mg : Str → Option Value} {base : Heap}
theorem scAr4 : FnScope ["_law_urn_here", "_law_some", "_law_kept", "_law_title", "_law_many", "_law_left"] ["_law_urn_here"] (defScope sAr4) := ⟨rfl, rfl, rfl, by decide +kernel, rfl, by decide +kernel, by decide +kernel⟩
theorem all_nodup : (gnames allG).Nodup := by decide +kernel
theorem ok_ar4 {f fL fO : Addr} {fd fdL fdO : FuncData} (F : Fun K "_law_arities" "_law_arities" sAr4 f fd) (BL : Blt mg) (D : Drw K mg fL fO fdL fdO) : FnOk P w K mg base CX0 2 f fd ["_law_urn_here"] spAr4 := by
  have GL : FnOk P w K mg base CX0 1 fL fdL ["_law_urn_here", "_law_many"] spLot := ok_lot D.FL BL
  refine F.ok scAr4 (fun vs H Q E h => ?_) (fun cdv A outer s H vs Q E hr h => ?_)
  · obtain ⟨u, rfl, _⟩ := h
    rfl
  · obtain ⟨u, rfl, hu, q⟩ := h
    refine ⟨_, pss_cons (ps_set (i := 1) scAr4.nd rfl (.inl rfl) (pe_lst (pa_cons (pe_tup (pa_cons pe_str (pa_cons pe_int (pa_cons pe_int pa_nil)))) (pa_cons (pe_tup (pa_cons pe_str (pa_cons pe_int (pa_cons pe_int pa_nil)))) (pa_cons (pe_tup (pa_cons pe_str (pa_cons pe_int (pa_cons pe_int pa_nil)))) (pa_cons (pe_tup (pa_cons pe_str (pa_cons pe_int (pa_cons pe_int pa_nil)))) (pa_cons (pe_tup (pa_cons pe_str (pa_cons pe_int (pa_cons pe_int pa_nil)))) (pa_cons (pe_tup (pa_cons pe_str (pa_cons pe_int (pa_cons pe_int pa_nil)))) (pa_cons (pe_tup (pa_cons pe_str (pa_cons pe_int (pa_cons pe_int pa_nil)))) pa_nil)))))))))
      (pss_cons (ps_set (i := 2) scAr4.nd rfl (.inl rfl) pe_dnewK)
      (pss_cons (ps_for PassesOwn.never rfl (pi_list (pv 1)) (pg_tup rfl (pgs_cons (pg_name (i := 3) scAr4.nd rfl (.inl rfl)) (pgs_cons (pg_name (i := 4) scAr4.nd rfl (.inl rfl)) (pgs_cons (pg_name (i := 5) scAr4.nd rfl (.inl rfl)) pgs_nil))))
        (pss_one (ps_if (PW.pt (pw_or (pt_cmpR op_eq (pv 3) pe_str (nomark _)) (pw_or1 (pt_cmpR op_gt (pe_call GL hr rfl D.gL D.FL.kp D.bL .nil pass0 (pa_cons (pv 0) (pa_cons pe_int pa_nil))) pe_int (nomark _)))))
          (pss_one (ps_dput (hu_of hr) (pv 2) (pv 3) (pe_tup (pa_cons (pv 4) (pa_cons (pv 5) pa_nil))) (by rfl))) pss_nil)))
      (pss_one (ps_ret (pv 2))))), ?_⟩
    refine ⟨(by show 3 ≤ sizeLine; decide), ?_⟩
    intro p1 n1
    generalize hG_ : upd H p1 _ = G1
    have s1 : Same H G1 := (by rw [← hG_]; exact same_new (fun _ _ e => e) n1)
    have h1 := (congrFun hG_ p1).symm.trans upd_same
    clear hG_
    refine ⟨(by show 3 ≤ sizeLine; decide), ?_⟩
    intro p2 n2
    generalize hG_ : upd G1 p2 _ = G2
    have s2 : Same G1 G2 := (by rw [← hG_]; exact same_new (fun _ _ e => e) n2)
    have h2 := (congrFun hG_ p2).symm.trans upd_same
    clear hG_
    refine ⟨(by show 3 ≤ sizeLine; decide), ?_⟩
    intro p3 n3
    generalize hG_ : upd G2 p3 _ = G3'
    have s3 : Same G2 G3' := (by rw [← hG_]; exact same_new (fun _ _ e => e) n3)
    have h3 := (congrFun hG_ p3).symm.trans upd_same
    clear hG_
    refine ⟨(by show 3 ≤ sizeLine; decide), ?_⟩
    intro p4 n4
    generalize hG_ : upd G3' p4 _ = G4
    have s4 : Same G3' G4 := (by rw [← hG_]; exact same_new (fun _ _ e => e) n4)
    have h4 := (congrFun hG_ p4).symm.trans upd_same
    clear hG_
    refine ⟨(by show 3 ≤ sizeLine; decide), ?_⟩
    intro p5 n5
    generalize hG_ : upd G4 p5 _ = G5
    have s5 : Same G4 G5 := (by rw [← hG_]; exact same_new (fun _ _ e => e) n5)
    have h5 := (congrFun hG_ p5).symm.trans upd_same
    clear hG_
    refine ⟨(by show 3 ≤ sizeLine; decide), ?_⟩
    intro p6 n6
    generalize hG_ : upd G5 p6 _ = G6
    have s6 : Same G5 G6 := (by rw [← hG_]; exact same_new (fun _ _ e => e) n6)
    have h6 := (congrFun hG_ p6).symm.trans upd_same
    clear hG_
    refine ⟨(by show 3 ≤ sizeLine; decide), ?_⟩
    intro p7 n7
    generalize hG_ : upd G6 p7 _ = G7
    have s7 : Same G6 G7 := (by rw [← hG_]; exact same_new (fun _ _ e => e) n7)
    have h7 := (congrFun hG_ p7).symm.trans upd_same
    clear hG_
    refine ⟨(by show 7 ≤ sizeLine; decide), ?_⟩
    intro pL nL
    generalize hG_ : upd G7 pL _ = G8
    have s8 : Same G7 G8 := (by rw [← hG_]; exact same_new (fun _ _ e => e) nL)
    have hL := (congrFun hG_ pL).symm.trans upd_same
    clear hG_
    have t7 : Same H G8 := st s1 (st s2 (st s3 (st s4 (st s5 (st s6 (st s7 s8))))))
    have hA : Paired (G3At G8) [.ref p1, .ref p2, .ref p3, .ref p4, .ref p5, .ref p6, .ref p7] allG :=
      .cons ⟨p1, rfl, st s2 (st s3 (st s4 (st s5 (st s6 (st s7 s8))))) _ _ h1⟩ (.cons ⟨p2, rfl, st s3 (st s4 (st s5 (st s6 (st s7 s8)))) _ _ h2⟩ (.cons ⟨p3, rfl, st s4 (st s5 (st s6 (st s7 s8))) _ _ h3⟩ (.cons ⟨p4, rfl, st s5 (st s6 (st s7 s8)) _ _ h4⟩ (.cons ⟨p5, rfl, st s6 (st s7 s8) _ _ h5⟩ (.cons ⟨p6, rfl, st s7 s8 _ _ h6⟩ (.cons ⟨p7, rfl, s8 _ _ h7⟩ .nil))))))
    clear h1 h2 h3 h4 h5 h6 h7 n1 n2 n3 n4 n5 n6 n7 nL s1 s2 s3 s4 s5 s6 s7 s8
    generalize [V.ref p1, .ref p2, .ref p3, .ref p4, .ref p5, .ref p6, .ref p7] = xs at hA hL ⊢
    intro d nd
    have hd0 : H d = none := t7.free nd
    have nud : u ≠ d := urn_ne (urn_same t7 hu) nd
    have nLd : pL ≠ d := ne_of_none hL nd
    have s9 : Same G8 (upd G8 d (.dK [])) := same_new (fun _ _ e => e) nd
    refine ⟨_, rfl, pL, rfl, ⟨_, SqL.of (s9 _ _ hL)⟩, for_list (K := K) (a := pL) (xs := xs) (fun i σ G => ∃ v3 v4 v5 gs, σ = [some (.ref u), some (.ref pL), some (.ref d), v3, v4, v5] ∧ DAt G d gs ∧ gs.Sublist (allG.take i) ∧ urnAt G u ∧ (∀ b o, G8 b = some o → b ≠ u → G b = some o))
      ⟨_, _, _, [], rfl, ⟨[], upd_same, .nil⟩, List.Sublist.refl _, urn_same s9 (urn_same t7 hu), fun b o e _ => s9 _ _ e⟩ (fun i σ G _ ⟨_, _, _, _, _, _, _, ⟨x, y, z, eu⟩, bt⟩ => SqL.of (bt _ _ hL ?_)) ?_ ?_⟩
    · intro z0
      subst z0
      obtain ⟨x, y, z, e⟩ := urn_same t7 hu
      rw [hL] at e
      cases e
      cases hA with
      | cons a _ =>
        obtain ⟨t, e, _⟩ := a
        cases e
    · rintro i v σ G hi ⟨v3, v4, v5, gs, rfl, ⟨kvs, hk, kk⟩, sb, hu', bt⟩
      obtain ⟨g, hg, t, rfl, ht⟩ := Paired.at (F := _) hA hi
      obtain ⟨n, a1, a2⟩ := g
      have nut : t ≠ u := by
        obtain ⟨x, y, z, e⟩ := urn_same t7 hu
        exact ne_of ht e (by intro z; cases z)
      have ht' := bt _ _ ht nut
      refine ⟨t, _, rfl, SqT.of ht', rfl, _, _, rfl, _, _, rfl, _, _, rfl, ?_⟩
      have hln : gs.length ≤ 7 := Nat.le_trans sb.length_le (by rw [List.length_take]; exact Nat.min_le_right _ _)
      have lk : kvs.length = gs.length := Paired.length kk
      have hno : n ∉ gnames gs := fun hn => by
        have e1 : gnames (allG.take i) = (gnames allG).take i := by
          unfold gnames
          rw [List.map_take]
        have h1 : n ∈ gnames (allG.take i) := (List.Sublist.map (·.1) sb).subset hn
        rw [e1] at h1
        exact nodup_take all_nodup (by unfold gnames; rw [List.getElem?_map, hg]; rfl) h1
      have put : ∀ G2 : Hp, DAt G2 d gs → urnAt G2 u → (∀ b o, G8 b = some o → b ≠ u → G2 b = some o) → ∀ T, G2 T = none → ∃ a H4, V.ref d = .ref a ∧ DPut (upd G2 T (.tup [.int a1, .int a2])) a (.str n) (.ref T) H4 ∧ DAt H4 d (gs ++ [(n, a1, a2)]) ∧ urnAt H4 u ∧ (∀ b o, G8 b = some o → b ≠ u → H4 b = some o) := by
        rintro G2 ⟨kvs, hk, kk⟩ hu2 bt2 T nT
        have lk : kvs.length = gs.length := Paired.length kk
        have hDT : d ≠ T := ne_of_none hk nT
        have hk' : upd G2 T (.tup [.int a1, .int a2]) d = some (.dK kvs) := by rw [upd_ne hDT]; exact hk
        have s3 : Same G2 (upd G2 T (.tup [.int a1, .int a2])) := same_new (fun _ _ e => e) nT
        refine ⟨d, _, rfl, .inl ⟨kvs, Sum.inr n, hk', rfl, Nat.lt_of_le_of_lt (by omega : kvs.length ≤ 7) (by decide), rfl⟩, ⟨_, upd_same, ?_⟩, ?_, fun b o e n => ?_⟩
        · rw [putK_new _ (kk.no hno)]
          have k2 : Kvs (upd G2 T (.tup [.int a1, .int a2])) (kvs ++ [(Sum.inr n, .ref T)]) (gs ++ [(n, a1, a2)]) := (kk.same s3).snoc ⟨rfl, T, rfl, upd_same⟩
          refine Paired.mapP k2 fun kv g ⟨h1, t0, h2, h3⟩ => ⟨h1, t0, h2, ?_⟩
          rw [upd_ne (ne_of h3 hk' (by intro z; cases z))]
          exact h3
        · obtain ⟨x, y, z, e⟩ := urn_same s3 hu2
          exact ⟨x, y, z, by rw [upd_ne nud]; exact e⟩
        · rw [upd_ne (ne_of_none e nd)]
          exact s3 _ _ (bt2 b o e n)
      have sbn : (gs ++ [(n, a1, a2)]).Sublist (allG.take (i + 1)) := by
        rw [take_more hg]
        exact List.Sublist.append sb (List.Sublist.refl _)
      have sb1 : gs.Sublist (allG.take (i + 1)) := by
        rw [take_more hg]
        exact List.Sublist.trans sb (List.sublist_append_left _ _)
      refine ⟨rfl, _, rfl, rfl, _, rfl, ?_⟩
      refine ite2 (fun _ => iteT ?_) (fun _ => ⟨_, rfl, u, 3, rfl, hu', by decide, by decide, fun G2 dd d0 d1 hu2 bt2 => ?_⟩)
      · refine ⟨_, rfl, _, rfl, (by show 2 ≤ sizeLine; decide), fun T nT => ?_⟩
        obtain ⟨a, H4, e, pt, r1, r2, r3⟩ := put G ⟨kvs, hk, kk⟩ hu' bt T nT
        exact ⟨_, rfl, _, rfl, a, H4, e, pt, _, _, _, _, rfl, r1, sbn, r2, r3⟩
      · have hk2 : DAt G2 d gs := DAt.but hu' bt2 ⟨kvs, hk, kk⟩
        have bt3 : ∀ b o, G8 b = some o → b ≠ u → G2 b = some o := fun b o e n => bt2 _ _ (bt b o e n) n
        refine ⟨_, _, rfl, rfl, _, rfl, ite2 (fun _ => ?_) (fun _ => ?_)⟩
        · refine ⟨_, rfl, _, rfl, (by show 2 ≤ sizeLine; decide), fun T nT => ?_⟩
          obtain ⟨a, H4, e, pt, r1, r2, r3⟩ := put G2 hk2 hu2 bt3 T nT
          exact ⟨_, rfl, _, rfl, a, H4, e, pt, _, _, _, _, rfl, r1, sbn, r2, r3⟩
        · exact ⟨_, _, _, _, rfl, hk2, sb1, hu2, bt3⟩
    · rintro σ G ⟨v3, v4, v5, gs, rfl, hk, sb, hu', bt⟩
      refine ⟨_, rfl, q d gs G hd0 (fun b o e n => bt b o (t7 _ _ e) n) hu' hk ?_⟩
      have e : xs.length = allG.length := Paired.length hA
      rw [e, List.take_length] at sb
      exact sb
end
end SQ4
namespace SQ4
open PySem L2 SQ
abbrev sCh : Stmt := top 68
/-! ### lists of kinds -/
theorem kns_snoc {H : Hp} {ws : List V} {kb : List Kn} {k : Kn} (h : Kns H ws (kb ++ [k])) : ∃ wb x, ws = wb ++ [x] ∧ Kns H wb kb ∧ KnAt H x k := by
  have r := h.rev
  rw [List.reverse_append] at r
  generalize hw : ws.reverse = rs at r
  cases r with
  | @cons x y l m a b =>
    refine ⟨l.reverse, x, ?_, ?_, a⟩
    · rw [← List.reverse_reverse ws, hw, List.reverse_cons]
    · have := Kns.rev (H := H) b
      have e : ([].append kb.reverse : List Kn).reverse = kb := List.reverse_reverse kb
      rw [e] at this
      exact this
theorem Kns.len {H : Hp} {ws : List V} {ks : List Kn} (h : Kns H ws ks) : ws.length = ks.length := Paired.length h
theorem atI_snd {α : Type} (xs : List α) (y x : α) : atI (xs ++ [y] ++ [x]) (-2) = some y := by
  unfold atI ixN
  rw [if_neg (by omega)]
  have e : (xs ++ [y] ++ [x]).length = xs.length + 2 := by simp
  rw [e, if_pos (by omega)]
  show (xs ++ [y] ++ [x])[((-2 : Int) + ((xs.length + 2 : Nat) : Int)).toNat]? = some y
  have e2 : ((-2 : Int) + ((xs.length + 2 : Nat) : Int)).toNat = xs.length := by omega
  rw [e2]
  simp
theorem atI_thd {α : Type} (xs : List α) (z y x : α) : atI (xs ++ [z] ++ [y] ++ [x]) (-3) = some z := by
  unfold atI ixN
  rw [if_neg (by omega)]
  have e : (xs ++ [z] ++ [y] ++ [x]).length = xs.length + 3 := by simp
  rw [e, if_pos (by omega)]
  show (xs ++ [z] ++ [y] ++ [x])[((-3 : Int) + ((xs.length + 3 : Nat) : Int)).toNat]? = some z
  have e2 : ((-3 : Int) + ((xs.length + 3 : Nat) : Int)).toNat = xs.length := by omega
  rw [e2]
  simp
theorem cut_neg (xs : List V) (k : Nat) (h : 0 < k) : cutV xs none (some (-(k : Int))) = xs.take (xs.length - k) := by
  unfold cutV
  have e : HT.sIx xs.length xs.length (some (-(k : Int))) = xs.length - k := by
    show (if (-(k : Int)) < 0 then (-(k : Int) + (xs.length : Int)).toNat else _) = _
    rw [if_pos (by omega)]
    omega
  rw [e]
  show (xs.drop 0).take (xs.length - k - 0) = _
  rw [List.drop_zero, Nat.sub_zero]
theorem cut_m1 (xs : List V) (x : V) : cutV (xs ++ [x]) none (some (-1)) = xs := by
  have := cut_neg (xs ++ [x]) 1 (by omega)
  rw [show (-((1 : Nat) : Int)) = -1 from rfl] at this
  rw [this]
  simp
theorem cut_m2 (xs : List V) (y x : V) : cutV (xs ++ [y] ++ [x]) none (some (-2)) = xs := by
  have := cut_neg (xs ++ [y] ++ [x]) 2 (by omega)
  rw [show (-((2 : Nat) : Int)) = -2 from rfl] at this
  rw [this]
  simp
theorem kn_eq (k : Kn) : PyData.eqv (knD k) (.str "p") = isP k := by
  have := kn_ne k
  cases h : isP k <;> cases h2 : PyData.eqv (knD k) (.str "p") <;> simp_all
theorem plains_le (ks : List Kn) : plains ks ≤ ks.length := by
  unfold plains
  have := (List.takeWhile_sublist isP (l := ks.reverse)).length_le
  rw [List.length_reverse] at this
  exact this
/-- what words can follow -/
def May (gs : List G3) (ks : List Kn) (lv : Int) (x : Str) : Prop :=
  x = "literal" ∨ x = "shuffle" ∨ (x = "quote" ∧ 0 < lv) ∨ (x ∈ gnames gs ∧ (arOf gs x).1 ≤ ((plains ks : Nat) : Int)) ∨ (x = "choose" ∧ 2 < plains ks) ∨
  ∃ (kb : List Kn) (a b : Int), ks = kb ++ [.q a b] ∧ ((x = "call" ∧ a ≤ ((plains kb : Nat) : Int)) ∨ ∃ (kc : List Kn) (k : Kn), kb = kc ++ [k] ∧ ((x = "dip" ∧ a ≤ ((plains kc : Nat) : Int)) ∨ (x = "curry" ∧ k = .p) ∨ (x = "compose" ∧ ∃ c d : Int, k = .q c d) ∨ (x = "choose" ∧ ∃ (c d : Int) (kd : List Kn), k = .q c d ∧ kc = kd ++ [.p] ∧ a - b = c - d)))
theorem seq_mid {t u : TS} {D : Ends} {σ : L2.St} {H : Hp} (I : L2.St → Hp → Prop) (h1 : ∀ N : L2.St → Hp → Prop, (∀ σ' H', I σ' H' → N σ' H') → t { D with nx := N } σ H) (h2 : ∀ σ' H', I σ' H' → u D σ' H') : tSeq t u D σ H := h1 (u D) h2
/-- the list of words that was found -/
structure FI (H : Hp) (gs : List G3) (ks : List Kn) (lv : Int) (n : Nat) (c : Addr) (G : Hp) : Prop where
  sm : Same H G
  nc : H c = none
  ex : ∃ xs : List Str, G c = some (.lst (xs.map V.str)) ∧ 0 < xs.length ∧ xs.length ≤ n ∧ ∀ x ∈ xs, May gs ks lv x
theorem FI.cat {H : Hp} {gs : List G3} {ks : List Kn} {lv : Int} {n : Nat} {c : Addr} {G : Hp} {zs : List Str} (h : FI H gs ks lv n c G) (hn : n ≤ 900) {Q : VK} {b : Addr} {G2 : Hp} (s2 : Same G G2) (hb : G2 b = some (.lst (zs.map V.str))) (hz : zs.length ≤ 20) (hm : ∀ x ∈ zs, May gs ks lv x) (q : ∀ p G', FI H gs ks lv (n + zs.length) p G' → Q (.ref p) G') : rCat (.ref c) (.ref b) G2 Q := by
  obtain ⟨xs, hc, h0, hl, hx⟩ := h.ex
  refine ⟨c, b, _, _, rfl, rfl, s2 _ _ hc, hb, Nat.le_trans (by rw [List.length_map, List.length_map]; omega : _ ≤ 1000) (by decide), fun p np => q p _ ⟨?_, ?_, xs ++ zs, ?_, ?_, ?_, ?_⟩⟩
  · exact same_new (st h.sm s2) np
  · exact (st h.sm s2).free np
  · rw [upd_same, List.map_append]
  · rw [List.length_append]; omega
  · rw [List.length_append]; omega
  · intro x hx'
    rcases List.mem_append.mp hx' with h | h
    · exact hx x h
    · exact hm x h
theorem FI.app {H : Hp} {gs : List G3} {ks : List Kn} {lv : Int} {n : Nat} {c : Addr} {G : Hp} {z : Str} (h : FI H gs ks lv n c G) (hn : n ≤ 900) {Q : VK} (hm : May gs ks lv z) (q : ∀ G', FI H gs ks lv (n + 1) c G' → Q .non G') : rAppend (.ref c) [.str z] G Q := by
  obtain ⟨xs, hc, h0, hl, hx⟩ := h.ex
  refine ⟨c, _, _, rfl, rfl, hc, Nat.lt_of_le_of_lt (by rw [List.length_map]; omega : _ ≤ 900) (by decide), q _ ⟨?_, h.nc, xs ++ [z], ?_, ?_, ?_, ?_⟩⟩
  · intro b o e
    rw [upd_ne (ne_of_none e h.nc)]
    exact h.sm _ _ e
  · rw [upd_same, List.map_append]
    rfl
  · rw [List.length_append]; omega
  · rw [List.length_append]; show xs.length + 1 ≤ _; omega
  · intro x hx'
    rcases List.mem_append.mp hx' with h | h
    · exact hx x h
    · rw [List.mem_singleton.mp h]
      exact hm
theorem FI.le {H : Hp} {gs : List G3} {ks : List Kn} {lv : Int} {n m : Nat} {c : Addr} {G : Hp} (h : FI H gs ks lv n c G) (e : n ≤ m) : FI H gs ks lv m c G := by
  obtain ⟨xs, hc, h0, hl, hx⟩ := h.ex
  exact ⟨h.sm, h.nc, xs, hc, h0, Nat.le_trans hl e, hx⟩
theorem FI.mv {H : Hp} {gs : List G3} {ks : List Kn} {lv : Int} {n : Nat} {c : Addr} {G G' : Hp} (h : FI H gs ks lv n c G) (s : Same G G') : FI H gs ks lv n c G' := by
  obtain ⟨xs, hc, h1⟩ := h.ex
  exact ⟨st h.sm s, h.nc, xs, s _ _ hc, h1⟩
section
variable {P : Program} {w : World} {K : PySem.W.Frag} {mg : Str → Option Value} {base : Heap}
theorem ix_tupK {X : Cx} (K : PySem.W.Frag) (h : X.K = K) : IxR X (rIxT K) := h ▸ ix_tup
theorem ix_listK {X : Cx} (K : PySem.W.Frag) (h : X.K = K) : IxR X (rIxL K) := h ▸ ix_list
/-- the keys of a dict, in a list -/
theorem keys_list {d : Addr} {i j : Nat} {σ : L2.St} {H : Hp} {Q : VK} {gs : List G3} (hi : σ[i]? = some (some (.ref d))) (hij : i ≠ j) (hj : j < σ.length) (hd : DAt H d gs) (hl : gs.length ≤ 20)
    (q : ∀ p G, H p = none → Same H G → G p = some (.lst ((gnames gs).map V.str)) → Q (.ref p) G) : tLockE (tLc (iKeys (tVar i)) (gName j) tYes (tCB (fun xs H Q => ∃ a, xs = [.str a] ∧ Q (.str a) H) (tCons (tVar j) tNil)) [j]) σ H Q := by
  obtain ⟨kvs, hk, kk⟩ := hd
  have lk : kvs.length = gs.length := Paired.length kk
  refine ⟨d, _, hk, trivial, fun od => ?_⟩
  have hf : upd H d (.frz od (.dK kvs)) d = some (.frz od (.dK kvs)) := upd_same
  refine ⟨_, hi, d, od, rfl, .inl ⟨kvs, hf, fun D hD => ?_⟩⟩
  have nd : d ≠ D := ne_of_none hf hD
  refine lc_it walk_keys (fun m G => G = upd (upd H d (.frz od (.dK kvs))) D (.lst (((gnames gs).take m).map V.str))) rfl (fun m G _ e => by rw [e, upd_ne nd]; exact hf) ?_ ?_
  · rintro m x G G' hm rfl ⟨rfl, k, v, e1, rfl⟩
    obtain ⟨g, hg, e2, _⟩ := Paired.at (F := _) kk e1
    have e2' : k = Sum.inr g.1 := e2
    subst e2'
    have hn : (gnames gs)[m]? = some g.1 := by
      unfold gnames
      rw [List.getElem?_map, hg]
      rfl
    refine ⟨?_, keptT ⟨_, ?_, g.1, rfl, _, upd_same, ?_, ?_⟩⟩
    · show ((σ.set j none).set j (some _)).set j none = σ.set j none
      simp
    · show ((σ.set j none).set j (some (kV (Sum.inr g.1))))[j]? = _
      simp [hj]
      rfl
    · rw [List.length_map]
      refine Nat.lt_of_le_of_lt (List.length_take_le _ _) ?_
      unfold gnames at hn
      have : m < gs.length := by
        have := (List.getElem?_eq_some_iff.mp hg).1
        exact this
      exact Nat.lt_of_le_of_lt (by omega : m ≤ 20) (by decide)
    · rw [upd_upd, take_more hn, List.map_append]
      rfl
  · rintro G rfl
    refine ⟨by rw [upd_ne nd]; exact hf, ?_⟩
    have e1 : kvs.length = (gnames gs).length := by
      unfold gnames
      rw [List.length_map]
      exact lk
    rw [e1, List.take_length]
    have hD0 : H D = none := by
      rw [upd_ne (Ne.symm nd)] at hD
      exact hD
    refine q D _ hD0 (fun b o e => ?_) ?_
    · by_cases hb : b = d
      · subst hb
        rw [hk] at e
        cases e
        rw [upd_same]
      · rw [upd_ne hb, upd_ne (ne_of_none e hD0), upd_ne hb]
        exact e
    · rw [upd_ne (Ne.symm nd), upd_same]
/-! ### _law_choices -/
def spCh : Sp := fun vs H Q _ => ∃ (k a : Addr) (lv : Int) (ws : List V) (ks : List Kn) (gs : List G3), vs = [.ref k, .ref a, .int lv] ∧ H k = some (.lst ws) ∧ Kns H ws ks ∧ DAt H a gs ∧ gs.length ≤ 8 ∧ ∀ c H', FI H gs ks lv 100 c H' → Q (.ref c) H'
abbrev nCh : List Str := ["_law_kinds", "_law_arities_here", "_law_level", "_law_found", "_law_plains_here", "_law_title", "_law_each"]
theorem scCh : FnScope nCh ["_law_kinds", "_law_arities_here", "_law_level"] (defScope sCh) := ⟨rfl, rfl, rfl, by decide +kernel, rfl, by decide +kernel, by decide +kernel⟩
abbrev sgCh (k a : Addr) (lv : Int) (c : Addr) (n : Nat) : L2.St := [some (.ref k), some (.ref a), some (.int lv), some (.ref c), some (.int n), none, none]
theorem ok_ch {f fP : Addr} {fd dP : FuncData} (F : Fun K "_law_choices" "_law_choices" sCh f fd) (B : B2 mg) (so : mg "sorted" = none) (gP : mg "_law_plains" = some (.ref fP)) (FP : Fun K "_law_plains" "_law_plains" sPla fP dP) (bP : Binds K dP ["_law_kinds"] []) : FnOk P w K mg base CX0 2 f fd ["_law_kinds", "_law_arities_here", "_law_level"] spCh := by
  have GP : FnOk P w K mg base CX0 1 fP dP ["_law_kinds"] (spPla K) := ok_pla FP
  refine F.ok scCh (fun vs H Q E h => ?_) (fun cdv A outer s H vs Q E hr h => ?_)
  · obtain ⟨k, a, lv, ws, ks, gs, rfl, _⟩ := h
    rfl
  · obtain ⟨k, a, lv, ws, ks, gs, rfl, hk, hK, hA, hg, q⟩ := h
    have hu := hu_of hr
    refine ⟨_, pss_cons (ps_asg (pe_tup (pa_cons (pe_lst (pa_cons pe_str (pa_cons pe_str pa_nil))) (pa_cons (pe_call GP hr rfl gP FP.kp bP .nil pass0 (pa_cons (pv 0) pa_nil)) pa_nil))) (pg_tup rfl (pgs_cons (pg_name (i := 3) scCh.nd rfl (.inl rfl)) (pgs_cons (pg_name (i := 4) scCh.nd rfl (.inr rfl)) pgs_nil))))
      (pss_cons (ps_set (i := 3) scCh.nd rfl (.inl rfl) (pe_op op_cat (pv 3) (pe_lc (own := [("_law_title", 5)]) (g := gName 5) (tt := tTest (tOp (rI0 fun i j => V.bl (decide (i ≤ j))) (tOp (rIxT K) (tDGet (tVar 1) (tVar 5)) (tC (.int 0))) (tVar 4))) rfl scCh.nd (pi_list (pe_callB cr_sortedS (by rfl) so (by decide +kernel) (pa_cons (pe_lock (pe_lc (own := [("_law_each", 6)]) (g := gName 6) (tt := tYes) rfl scCh.nd (pi_keys (pv 1)) (blkOk_by (N := nCh) (sc := defScope sCh) (by decide +kernel)) (fun _ _ _ _ _ => pg_name (i := 6) scCh.nd rfl (.inl rfl)) (fun _ _ _ _ _ => pts_nil) (fun _ _ _ _ _ => pe_callTy SkE.call_str_str (by rfl) B.str (by decide +kernel) (pa_cons (pv 6) pa_nil)))) pa_nil)))
          (blkOk_by (N := nCh) (sc := defScope sCh) (by decide +kernel)) (fun _ _ _ _ _ => pg_name (i := 5) scCh.nd rfl (.inl rfl)) (fun _ _ _ _ _ => pts_one (pt_cmpR op_le (pe_ix (ix_tupK K rfl) (pe_dget hu (pv 1) (pv 5) (fun _ _ => rfl)) pe_int (fun _ _ => rfl)) (pv 4) (nomark _))) (fun _ _ _ _ _ => pv 5))))
      (pss_cons (ps_if (pt_cmpR op_gt (pv 2) pe_int (nomark _)) (pss_one (ps_set (i := 3) scCh.nd rfl (.inl rfl) (pe_op op_cat (pv 3) (pe_lst (pa_cons pe_str (pa_cons pe_str pa_nil)))))) pss_nil)
      (pss_cons (ps_if (PW.pt (pw_and (pt_cmpR op_gt (pe_callB call_len_seq (by rfl) B.len PySem.boot_len (pa_cons (pv 0) pa_nil)) pe_int (nomark _)) (pw_and1 (pt_cmpR op_gt (pv 4) pe_int (nomark _))))) (pss_one (ps_expr (pe_bm PySem.F.plainAttrs_list PySem.F.slot_list_append PySem.F.type_list_append mt_append (pv 3) (pa_cons pe_str pa_nil)))) pss_nil)
      (pss_cons (ps_if (PW.pt (pw_or (pt_cmpR op_eq (pe_callB call_len_seq (by rfl) B.len PySem.boot_len (pa_cons (pv 0) pa_nil)) pe_int (nomark _)) (pw_or1 (pt_cmpR (op_eqD hr.units) (pe_ix ix_list (pv 0) (pe_un un_neg pe_int) (fun _ _ => rfl)) pe_str (nomark _))))) (pss_one (ps_ret (pv 3))) pss_nil)
      (pss_cons (ps_if (pt_cmpR op_le (pe_ix ix_tup (pe_ix ix_list (pv 0) (pe_un un_neg pe_int) (fun _ _ => rfl)) pe_int (fun _ _ => rfl)) (pe_call GP hr rfl gP FP.kp bP .nil pass0 (pa_cons (pe_slice sl_list (pv 0) po_none (po_some (pe_un un_neg pe_int))) pa_nil)) (nomark _)) (pss_one (ps_set (i := 3) scCh.nd rfl (.inl rfl) (pe_op op_cat (pv 3) (pe_lst (pa_cons pe_str (pa_cons pe_str pa_nil)))))) pss_nil)
      (pss_cons (ps_if (PW.pt (pw_and (pt_cmpR op_gt (pe_callB call_len_seq (by rfl) B.len PySem.boot_len (pa_cons (pv 0) pa_nil)) pe_int (nomark _)) (pw_and1 (pt_cmpR op_le (pe_ix ix_tup (pe_ix ix_list (pv 0) (pe_un un_neg pe_int) (fun _ _ => rfl)) pe_int (fun _ _ => rfl)) (pe_call GP hr rfl gP FP.kp bP .nil pass0 (pa_cons (pe_slice sl_list (pv 0) po_none (po_some (pe_un un_neg pe_int))) pa_nil)) (nomark _))))) (pss_one (ps_expr (pe_bm PySem.F.plainAttrs_list PySem.F.slot_list_append PySem.F.type_list_append mt_append (pv 3) (pa_cons pe_str pa_nil)))) pss_nil)
      (pss_cons (ps_if (pt_cmpR op_gt (pe_callB call_len_seq (by rfl) B.len PySem.boot_len (pa_cons (pv 0) pa_nil)) pe_int (nomark _)) (pss_one (ps_expr (pe_bm PySem.F.plainAttrs_list PySem.F.slot_list_append PySem.F.type_list_append mt_append (pv 3) (pa_cons (pe_ifExp (pt_cmpR (op_eqD hr.units) (pe_ix ix_list (pv 0) (pe_un un_neg pe_int) (fun _ _ => rfl)) pe_str (nomark _)) pe_str pe_str) pa_nil)))) pss_nil)
      (pss_cons (ps_if (PW.pt (pw_and (pt_cmpR op_gt (pe_callB call_len_seq (by rfl) B.len PySem.boot_len (pa_cons (pv 0) pa_nil)) pe_int (nomark _)) (pw_and (pt_cmpR (op_neD hr.units) (pe_ix ix_list (pv 0) (pe_un un_neg pe_int) (fun _ _ => rfl)) pe_str (nomark _)) (pw_and1 (pt_cmpR (op_eqD hr.units) (pe_ix ix_list (pv 0) (pe_un un_neg pe_int) (fun _ _ => rfl)) pe_str (nomark _))))))
          (pss_one (ps_if (pt_cmpR op_eq (pe_op op_sub (pe_ix ix_tup (pe_ix ix_list (pv 0) (pe_un un_neg pe_int) (fun _ _ => rfl)) pe_int (fun _ _ => rfl)) (pe_ix ix_tup (pe_ix ix_list (pv 0) (pe_un un_neg pe_int) (fun _ _ => rfl)) pe_int (fun _ _ => rfl))) (pe_op op_sub (pe_ix ix_tup (pe_ix ix_list (pv 0) (pe_un un_neg pe_int) (fun _ _ => rfl)) pe_int (fun _ _ => rfl)) (pe_ix ix_tup (pe_ix ix_list (pv 0) (pe_un un_neg pe_int) (fun _ _ => rfl)) pe_int (fun _ _ => rfl))) (nomark _)) (pss_one (ps_set (i := 3) scCh.nd rfl (.inl rfl) (pe_op op_cat (pv 3) (pe_lst (pa_cons pe_str (pa_cons pe_str pa_nil)))))) pss_nil)) pss_nil)
      (pss_one (ps_ret (pv 3))))))))))), ?_⟩
    -- found, plains
    refine seq_mid (fun σ G => ∃ c, σ = sgCh k a lv c (plains ks) ∧ FI H gs ks lv 2 c G) (fun N hN => ?_) ?_
    · refine ⟨(by show 2 ≤ sizeLine; decide), ?_⟩
      intro c n1
      generalize hG_ : upd H c _ = G1
      have s1 : Same H G1 := (by rw [← hG_]; exact same_new (fun _ _ e => e) n1)
      have h1 := (congrFun hG_ c).symm.trans upd_same
      clear hG_
      refine ⟨_, rfl, k, ws, ks, rfl, s1 _ _ hk, hK.same s1, fun G2 s2 => ⟨(by show 2 ≤ sizeLine; decide), ?_⟩⟩
      intro t n3
      generalize hG_ : upd G2 t _ = G3'
      have s3 : Same G2 G3' := (by rw [← hG_]; exact same_new (fun _ _ e => e) n3)
      have h3 := (congrFun hG_ t).symm.trans upd_same
      clear hG_
      have t3 : Same H G3' := st s1 (st s2 s3)
      refine ⟨t, _, rfl, SqT.of h3, rfl, _, _, rfl, _, _, rfl, rfl, hN _ _ ⟨c, rfl, ⟨t3, n1, ["literal", "shuffle"], (st s2 s3) _ _ h1, by decide, by decide, fun x hx => ?_⟩⟩⟩
      rcases List.mem_cons.mp hx with rfl | hx
      · exact .inl rfl
      · rw [List.mem_singleton.mp hx]
        exact .inr (.inl rfl)
    rintro _ G3' ⟨c, rfl, f0⟩
    have t3 := f0.sm
    -- the titles
    refine seq_mid (fun σ G => ∃ c, σ = sgCh k a lv c (plains ks) ∧ FI H gs ks lv 20 c G) (fun N hN => ?_) ?_
    · refine ⟨_, rfl, keys_list rfl (by decide) (by show 6 < 7; decide) (hA.same t3) (by omega) fun p G4 n4 s4 h4 => ⟨p, gnames gs, rfl, SqL.of h4, ?_, fun ys p5 hperm hsort n5 => ?_⟩⟩
      · unfold gnames
        rw [List.length_map]
        omega
      · have s5 : Same G4 (upd G4 p5 (.lst (ys.map V.str))) := same_new (fun _ _ e => e) n5
        have h5 : upd G4 p5 (.lst (ys.map V.str)) p5 = some (.lst (ys.map V.str)) := upd_same
        generalize upd G4 p5 (.lst (ys.map V.str)) = G5 at s5 h5 ⊢
        have hyl : ys.length ≤ 8 := by
          rw [hperm.length_eq]
          unfold gnames
          rw [List.length_map]
          omega
        refine ⟨p5, rfl, ⟨_, SqL.of h5⟩, fun D hD => ?_⟩
        refine lc_list (K := K) (a := p5) (xs := ys.map V.str) (fun i G => ∃ zs : List Str, G D = some (.lst (zs.map V.str)) ∧ zs.length ≤ i ∧ (∀ x ∈ zs, May gs ks lv x) ∧ Same G5 G) ⟨[], upd_same, Nat.le_refl _, fun _ z => (nomatch z), same_new (fun _ _ e => e) hD⟩ (fun i G _ ⟨_, _, _, _, s2⟩ => SqL.of (s2 _ _ h5)) ?_ ?_
        · rintro i v G hi ⟨zs, hz, hzl, hm, s6⟩
          rw [List.getElem?_map] at hi
          cases hg' : ys[i]? with
          | none =>
            rw [hg'] at hi
            cases hi
          | some n =>
            rw [hg'] at hi
            cases hi
            have hmem : n ∈ gnames gs := hperm.mem_iff.mp (List.mem_of_getElem? hg')
            have t6 : Same H G := st t3 (st s4 (st s5 s6))
            obtain ⟨kvs, hkv, kk⟩ := hA.same t6
            obtain ⟨tt, hv, ht⟩ := kk.at hmem
            have hi8 : i < 8 := by
              have := (List.getElem?_eq_some_iff.mp hg').1
              omega
            refine ⟨rfl, _, rfl, _, rfl, a, _, rfl, .inl ⟨kvs, Sum.inr n, .inl hkv, rfl, hv.symm⟩, tt, _, 0, _, rfl, rfl, SqT.of ht, rfl, _, rfl, _, _, rfl, rfl, _, rfl, ?_⟩
            refine ite2 (fun hle => ⟨_, rfl, _, hz, ?_, zs ++ [n], ?_, ?_, ?_, ?_⟩) (fun _ => ⟨zs, hz, by omega, hm, s6⟩)
            · rw [List.length_map]
              exact Nat.lt_of_le_of_lt (by omega : zs.length ≤ 8) (by decide)
            · rw [upd_same, List.map_append]
              rfl
            · rw [List.length_append]
              show zs.length + 1 ≤ _
              omega
            · intro x hx
              rcases List.mem_append.mp hx with h | h
              · exact hm x h
              · rw [List.mem_singleton.mp h]
                exact .inr (.inr (.inr (.inl ⟨hmem, of_decide_eq_true hle⟩)))
            · intro b o e
              rw [upd_ne (ne_of_none e hD)]
              exact s6 _ _ e
        · rintro G ⟨zs, hz, hzl, hm, s6⟩
          rw [List.length_map] at hzl
          exact f0.cat (by decide) (st s4 (st s5 s6)) hz (by omega) hm fun p G' f => hN _ _ ⟨p, rfl, f.le (by omega)⟩
    rintro _ G ⟨c, rfl, f⟩
    -- quote
    refine seq_mid (fun σ G => ∃ c, σ = sgCh k a lv c (plains ks) ∧ FI H gs ks lv 30 c G) (fun N hN => ?_) ?_
    · refine ⟨_, rfl, _, _, rfl, rfl, _, rfl, ite2 (fun hlv => ?_) (fun _ => hN _ _ ⟨c, rfl, f.le (by decide)⟩)⟩
      refine ⟨_, rfl, (by show 2 ≤ sizeLine; decide), ?_⟩
      intro p1 n1
      generalize hG_ : upd G p1 _ = G1
      have s1 : Same G G1 := (by rw [← hG_]; exact same_new (fun _ _ e => e) n1)
      have h1 := (congrFun hG_ p1).symm.trans upd_same
      clear hG_
      refine f.cat (zs := ["quote", "quote"]) (by decide) s1 h1 (by decide) (fun x hx => ?_) fun p G' f => hN _ _ ⟨p, rfl, f.le (by decide)⟩
      have e : x = "quote" := by
        rcases List.mem_cons.mp hx with rfl | hx
        · rfl
        · exact List.mem_singleton.mp hx
      exact .inr (.inr (.inl ⟨e, of_decide_eq_true hlv⟩))
    clear f
    rintro _ G ⟨c, rfl, f⟩
    have kl := hK.len
    -- choose
    refine seq_mid (fun σ G => ∃ c, σ = sgCh k a lv c (plains ks) ∧ FI H gs ks lv 40 c G) (fun N hN => ?_) ?_
    · refine ⟨_, rfl, k, ws, rfl, .inl (SqL.of (f.sm _ _ hk)), _, _, rfl, rfl, _, rfl, ite2 (fun _ => ?_) (fun _ => iteF (hN _ _ ⟨c, rfl, f.le (by decide)⟩))⟩
      refine ⟨_, rfl, _, _, rfl, rfl, _, rfl, ite2 (fun h2 => ?_) (fun _ => hN _ _ ⟨c, rfl, f.le (by decide)⟩)⟩
      obtain ⟨xs, hc, _⟩ := f.ex
      refine ⟨_, rfl, .inl ⟨rfl, _, SqL.of hc⟩, ?_⟩
      show rAppend (.ref c) [.str "choose"] G fun _ H1 => N (sgCh k a lv c (plains ks)) H1
      refine f.app (by decide) ?_ ?_
      · refine .inr (.inr (.inr (.inr (.inl ⟨rfl, ?_⟩))))
        have := of_decide_eq_true h2
        omega
      · exact fun G' f => hN _ _ ⟨c, rfl, f.le (by decide)⟩
    clear f
    rintro _ G ⟨c, rfl, f⟩
    -- the end, if no quotation is on top
    refine seq_mid (fun σ G => ∃ c, σ = sgCh k a lv c (plains ks) ∧ FI H gs ks lv 40 c G ∧ ∃ kb a1 b1, ks = kb ++ [Kn.q a1 b1]) (fun N hN => ?_) ?_
    · rcases List.eq_nil_or_concat ks with rfl | ⟨kb, k1, rfl⟩
      · have w0 : ws = [] := List.length_eq_zero_iff.mp (by rw [kl]; rfl)
        subst w0
        refine ⟨_, rfl, k, _, rfl, .inl (SqL.of (f.sm _ _ hk)), rfl, _, rfl, iteT (iteT ⟨_, rfl, q c G (f.le (by decide))⟩)⟩
      rw [List.concat_eq_append] at *
      obtain ⟨wb, x1, rfl, hKb, hx1⟩ := kns_snoc hK
      have ne0 : decide ((V.int (((wb ++ [x1]).length : Nat) : Int)) = V.int 0) = false := by
        refine decide_eq_false fun z => ?_
        have := V.int.inj z
        rw [List.length_append] at this
        have e : [x1].length = 1 := rfl
        omega
      refine ⟨_, rfl, k, _, rfl, .inl (SqL.of (f.sm _ _ hk)), rfl, _, rfl, ?_⟩
      rw [ne0]
      refine iteF ⟨_, rfl, _, rfl, k, _, _, _, rfl, rfl, SqL.of (f.sm _ _ hk), atI_last wb x1, _, _, dp_kn (hx1.same f.sm), .str _, sh_kn k1, sh_kn .p, _, rfl, ?_⟩
      rw [kn_eq]
      cases k1 with
      | p => exact iteT ⟨_, rfl, q c G (f.le (by decide))⟩
      | q a1 b1 => exact iteF (hN _ _ ⟨c, rfl, f, kb, a1, b1, rfl⟩)
    clear f
    rintro _ G ⟨c, rfl, f, kb, a1, b1, rfl⟩
    obtain ⟨wb, x1, rfl, hKb, t1, rfl, ht1⟩ := kns_snoc hK
    generalize hkn : plains (kb ++ [Kn.q a1 b1]) = pl
    have hk0 := hk
    -- call
    refine seq_mid (fun σ G => ∃ c, σ = sgCh k a lv c pl ∧ FI H gs (kb ++ [.q a1 b1]) lv 50 c G) (fun N hN => ?_) ?_
    · refine ⟨_, rfl, _, rfl, k, _, _, _, rfl, rfl, SqL.of (f.sm _ _ hk), atI_last wb _, t1, _, 0, _, rfl, rfl, SqT.of (f.sm _ _ ht1), rfl, _, rfl, _, rfl, _, rfl, k, _, rfl, SqL.of (f.sm _ _ hk), ?_⟩
      rw [cut_m1]
      intro p1 n1
      generalize hG_ : upd G p1 _ = G1
      have s1 : Same G G1 := (by rw [← hG_]; exact same_new (fun _ _ e => e) n1)
      have h1 := (congrFun hG_ p1).symm.trans upd_same
      clear hG_
      refine ⟨p1, wb, kb, rfl, h1, (hKb.same f.sm).same s1, fun G2 s2 => ⟨_, _, rfl, rfl, _, rfl, ite2 (fun hle => ?_) (fun _ => hN _ _ ⟨c, rfl, (f.mv (st s1 s2)).le (by decide)⟩)⟩⟩
      refine ⟨_, rfl, (by show 2 ≤ sizeLine; decide), ?_⟩
      intro p3 n3
      generalize hG_ : upd G2 p3 _ = G3'
      have s3 : Same G2 G3' := (by rw [← hG_]; exact same_new (fun _ _ e => e) n3)
      have h3 := (congrFun hG_ p3).symm.trans upd_same
      clear hG_
      refine f.cat (zs := ["call", "call"]) (by decide) (st s1 (st s2 s3)) h3 (by decide) (fun x hx => ?_) fun p G' f => hN _ _ ⟨p, rfl, f.le (by decide)⟩
      have e : x = "call" := by
        rcases List.mem_cons.mp hx with rfl | hx
        · rfl
        · exact List.mem_singleton.mp hx
      exact .inr (.inr (.inr (.inr (.inr ⟨kb, a1, b1, rfl, .inl ⟨e, of_decide_eq_true hle⟩⟩))))
    clear f
    rintro _ G ⟨c, rfl, f⟩
    -- if nothing is below
    rcases List.eq_nil_or_concat kb with rfl | ⟨kc, k2, rfl⟩
    · have w0 : wb = [] := List.length_eq_zero_iff.mp (by rw [hKb.len]; rfl)
      subst w0
      refine ⟨_, rfl, k, _, rfl, .inl (SqL.of (f.sm _ _ hk)), _, _, rfl, rfl, _, rfl, iteF (iteF ?_)⟩
      refine ⟨_, rfl, k, _, rfl, .inl (SqL.of (f.sm _ _ hk)), _, _, rfl, rfl, _, rfl, iteF ?_⟩
      refine ⟨_, rfl, k, _, rfl, .inl (SqL.of (f.sm _ _ hk)), _, _, rfl, rfl, _, rfl, iteF (iteF ?_)⟩
      exact ⟨_, rfl, q c G (f.le (by decide))⟩
    rw [List.concat_eq_append] at *
    obtain ⟨wc, x2, rfl, hKc, hx2⟩ := kns_snoc hKb
    have l1 : decide ((1 : Int) < (((wc ++ [x2] ++ [V.ref t1]).length : Nat) : Int)) = true := decide_eq_true (by simp; omega)
    -- dip
    refine seq_mid (fun σ G => ∃ c, σ = sgCh k a lv c pl ∧ FI H gs (kc ++ [k2] ++ [.q a1 b1]) lv 60 c G) (fun N hN => ?_) ?_
    · refine ⟨_, rfl, k, _, rfl, .inl (SqL.of (f.sm _ _ hk)), _, _, rfl, rfl, _, rfl, ?_⟩
      rw [l1]
      refine iteT ⟨_, rfl, _, rfl, k, _, _, _, rfl, rfl, SqL.of (f.sm _ _ hk), atI_last _ _, t1, _, 0, _, rfl, rfl, SqT.of (f.sm _ _ ht1), rfl, _, rfl, _, rfl, _, rfl, k, _, rfl, SqL.of (f.sm _ _ hk), ?_⟩
      rw [cut_m2]
      intro p1 n1
      generalize hG_ : upd G p1 _ = G1
      have s1 : Same G G1 := (by rw [← hG_]; exact same_new (fun _ _ e => e) n1)
      have h1 := (congrFun hG_ p1).symm.trans upd_same
      clear hG_
      refine ⟨p1, wc, kc, rfl, h1, (hKc.same f.sm).same s1, fun G2 s2 => ⟨_, _, rfl, rfl, _, rfl, ite2 (fun hle => ?_) (fun _ => hN _ _ ⟨c, rfl, (f.mv (st s1 s2)).le (by decide)⟩)⟩⟩
      have f2 := f.mv (st s1 s2)
      obtain ⟨xs, hc, _⟩ := f2.ex
      refine ⟨_, rfl, .inl ⟨rfl, _, SqL.of hc⟩, ?_⟩
      show rAppend (.ref c) [.str "dip"] G2 fun _ H1 => N (sgCh k a lv c pl) H1
      refine f2.app (by decide) ?_ fun G' f => hN _ _ ⟨c, rfl, f.le (by decide)⟩
      exact .inr (.inr (.inr (.inr (.inr ⟨_, a1, b1, rfl, .inr ⟨kc, k2, rfl, .inl ⟨rfl, of_decide_eq_true hle⟩⟩⟩))))
    clear f
    rintro _ G ⟨c, rfl, f⟩
    -- curry, compose
    refine seq_mid (fun σ G => ∃ c, σ = sgCh k a lv c pl ∧ FI H gs (kc ++ [k2] ++ [.q a1 b1]) lv 70 c G) (fun N hN => ?_) ?_
    · refine ⟨_, rfl, k, _, rfl, .inl (SqL.of (f.sm _ _ hk)), _, _, rfl, rfl, _, rfl, ?_⟩
      rw [l1]
      obtain ⟨xs, hc, _⟩ := f.ex
      refine iteT ⟨_, rfl, .inl ⟨rfl, _, SqL.of hc⟩, ?_⟩
      refine ⟨_, rfl, _, rfl, k, _, _, _, rfl, rfl, SqL.of (f.sm _ _ hk), atI_snd wc x2 _, _, _, dp_kn (hx2.same f.sm), .str _, sh_kn k2, sh_kn .p, _, rfl, ?_⟩
      rw [kn_eq]
      cases k2 with
      | p =>
        refine iteT ?_
        show rAppend (.ref c) [.str "curry"] G fun _ H1 => N (sgCh k a lv c pl) H1
        refine f.app (by decide) ?_ fun G' f => hN _ _ ⟨c, rfl, f.le (by decide)⟩
        exact .inr (.inr (.inr (.inr (.inr ⟨_, a1, b1, rfl, .inr ⟨kc, _, rfl, .inr (.inl ⟨rfl, rfl⟩)⟩⟩))))
      | q a2 b2 =>
        refine iteF ?_
        show rAppend (.ref c) [.str "compose"] G fun _ H1 => N (sgCh k a lv c pl) H1
        refine f.app (by decide) ?_ fun G' f => hN _ _ ⟨c, rfl, f.le (by decide)⟩
        exact .inr (.inr (.inr (.inr (.inr ⟨_, a1, b1, rfl, .inr ⟨kc, _, rfl, .inr (.inr (.inl ⟨rfl, a2, b2, rfl⟩))⟩⟩))))
    clear f
    rintro _ G ⟨c, rfl, f⟩
    -- choose
    refine seq_mid (fun σ G => ∃ c, σ = sgCh k a lv c pl ∧ FI H gs (kc ++ [k2] ++ [.q a1 b1]) lv 80 c G) (fun N hN => ?_) ?_
    · refine ⟨_, rfl, k, _, rfl, .inl (SqL.of (f.sm _ _ hk)), _, _, rfl, rfl, _, rfl, ?_⟩
      rcases List.eq_nil_or_concat kc with rfl | ⟨kd, k3, rfl⟩
      · have w0 : wc = [] := List.length_eq_zero_iff.mp (by rw [hKc.len]; rfl)
        subst w0
        exact iteF (iteF (hN _ _ ⟨c, rfl, f.le (by decide)⟩))
      rw [List.concat_eq_append] at *
      obtain ⟨wd, x3, rfl, hKd, hx3⟩ := kns_snoc hKc
      have l2 : decide ((2 : Int) < (((wd ++ [x3] ++ [x2] ++ [V.ref t1]).length : Nat) : Int)) = true := decide_eq_true (by simp; omega)
      rw [l2]
      refine iteT ⟨_, rfl, _, rfl, k, _, _, _, rfl, rfl, SqL.of (f.sm _ _ hk), atI_snd _ x2 _, _, _, dp_kn (hx2.same f.sm), .str _, sh_kn k2, sh_kn .p, _, rfl, ?_⟩
      rw [kn_ne]
      cases k2 with
      | p => exact iteF (iteF (hN _ _ ⟨c, rfl, f.le (by decide)⟩))
      | q a2 b2 =>
      obtain ⟨t2, rfl, ht2⟩ := hx2
      refine iteT ⟨_, rfl, _, rfl, k, _, _, _, rfl, rfl, SqL.of (f.sm _ _ hk), atI_thd wd x3 _ _, _, _, dp_kn (hx3.same f.sm), .str _, sh_kn k3, sh_kn .p, _, rfl, ?_⟩
      rw [kn_eq]
      cases k3 with
      | q a3 b3 => exact iteF (hN _ _ ⟨c, rfl, f.le (by decide)⟩)
      | p =>
      refine iteT ?_
      refine ⟨_, rfl, _, rfl, k, _, _, _, rfl, rfl, SqL.of (f.sm _ _ hk), atI_last _ _, t1, _, 0, _, rfl, rfl, SqT.of (f.sm _ _ ht1), rfl, _, rfl, _, rfl, k, _, _, _, rfl, rfl, SqL.of (f.sm _ _ hk), atI_last _ _, t1, _, 1, _, rfl, rfl, SqT.of (f.sm _ _ ht1), rfl, _, _, rfl, rfl, ?_⟩
      refine ⟨_, rfl, _, rfl, k, _, _, _, rfl, rfl, SqL.of (f.sm _ _ hk), atI_snd _ _ _, t2, _, 0, _, rfl, rfl, SqT.of (f.sm _ _ ht2), rfl, _, rfl, _, rfl, k, _, _, _, rfl, rfl, SqL.of (f.sm _ _ hk), atI_snd _ _ _, t2, _, 1, _, rfl, rfl, SqT.of (f.sm _ _ ht2), rfl, _, _, rfl, rfl, ?_⟩
      refine ⟨rfl, _, rfl, ite2 (fun he => ?_) (fun _ => hN _ _ ⟨c, rfl, f.le (by decide)⟩)⟩
      refine ⟨_, rfl, (by show 2 ≤ sizeLine; decide), ?_⟩
      intro p3 n3
      generalize hG_ : upd G p3 _ = G3'
      have s3 : Same G G3' := (by rw [← hG_]; exact same_new (fun _ _ e => e) n3)
      have h3 := (congrFun hG_ p3).symm.trans upd_same
      clear hG_
      refine f.cat (zs := ["choose", "choose"]) (by decide) s3 h3 (by decide) (fun x hx => ?_) fun p G' f => hN _ _ ⟨p, rfl, f.le (by decide)⟩
      have e : x = "choose" := by
        rcases List.mem_cons.mp hx with rfl | hx
        · rfl
        · exact List.mem_singleton.mp hx
      exact .inr (.inr (.inr (.inr (.inr ⟨_, a1, b1, rfl, .inr ⟨_, _, rfl, .inr (.inr (.inr ⟨e, a2, b2, kd, rfl, rfl, V.int.inj (of_decide_eq_true he)⟩))⟩⟩))))
    clear f
    rintro _ G ⟨c, rfl, f⟩
    exact ⟨_, rfl, q c G (f.le (by decide))⟩
end
end SQ4
namespace SQ4
open PySem L2 SQ
/-! ### what a shuffle is, as lists of signs -/
theorem len_l (x : Str) : x.length = x.cps.toList.length := by
  show x.cps.size = _
  rw [Array.length_toList]
theorem ends_iff {x y : Str} {c : Nat} (hy : y.cps.toList = [c]) : Txt.endswith x y = true ↔ ∃ cs, x.cps.toList = cs ++ [c] := by
  have ly : y.length = 1 := by rw [len_l, hy]; rfl
  unfold Txt.endswith
  rw [Bool.and_eq_true, PySem.StrLaws.subAt_eq, ly, hy]
  constructor
  · rintro ⟨h1, h2⟩
    have h1' := of_decide_eq_true h1
    have e := eq_of_beq h2
    have lx := len_l x
    refine ⟨x.cps.toList.take (x.length - 1), ?_⟩
    have e3 : x.cps.toList = x.cps.toList.take (x.length - 1) ++ x.cps.toList.drop (x.length - 1) := (List.take_append_drop _ _).symm
    have e4 : (x.cps.toList.drop (x.length - 1)).length = 1 := by
      rw [List.length_drop]
      omega
    have e5 : (x.cps.toList.drop (x.length - 1)).take 1 = x.cps.toList.drop (x.length - 1) := List.take_of_length_le (by omega)
    rw [e5] at e
    rw [e] at e3
    exact e3
  · rintro ⟨cs, e⟩
    have lx := len_l x
    rw [e, List.length_append] at lx
    have l1 : ([c] : List Nat).length = 1 := rfl
    rw [l1] at lx
    refine ⟨decide_eq_true (by omega), ?_⟩
    rw [e, lx]
    simp
theorem starts_of {x y : Str} {c : Nat} {cs : List Nat} (hy : y.cps.toList = [c]) (e : x.cps.toList = c :: cs) : Txt.startswith x y = true := by
  have ly : y.length = 1 := by rw [len_l, hy]; rfl
  have lx : x.length = cs.length + 1 := by rw [len_l, e]; rfl
  unfold Txt.startswith
  rw [Bool.and_eq_true, PySem.StrLaws.subAt_eq, List.drop_zero, ly, e, hy]
  exact ⟨decide_eq_true (by omega), by simp⟩
theorem cut_par {x : Str} {m : List Nat} {a b : Nat} (h : x.cps.toList = a :: (m ++ [b])) : (cutS x (some 1) (some (-1))).cps.toList = m := by
  have lx := len_l x
  rw [h, List.length_cons, List.length_append] at lx
  have l1 : ([b] : List Nat).length = 1 := rfl
  rw [l1] at lx
  show (((x.cps.toList.drop (HT.sIx x.length 0 (some 1))).take (HT.sIx x.length x.length (some (-1)) - HT.sIx x.length 0 (some 1))).toArray).toList = _
  have e1 : HT.sIx x.length 0 (some 1) = 1 := by
    rw [show (1 : Int) = ((1 : Nat) : Int) from rfl, HT.sIx_nat]
    omega
  have e2 : HT.sIx x.length x.length (some (-1)) = m.length + 1 := by
    show (if (-1 : Int) < 0 then ((-1 : Int) + (x.length : Int)).toNat else min (-1 : Int).toNat x.length) = _
    rw [if_pos (by omega)]
    omega
  rw [e1, e2, h]
  simp
theorem dash_l : ("-" : Str).cps.toList = [45] := by decide +kernel
/-- what is asked of the letters -/
def shOk (a b : Str) : Bool := decide (a.length ≤ 5) && decide (b.length ≤ 8) && !decide ((uniq (signs1 a)).length < a.length) && (a.cps.toList.all fun c => decide (c ∈ lettersG)) && (b.cps.toList.all fun c => decide (c ∈ a.cps.toList))
theorem shuf_parts {x a b : Str} (h1 : Txt.startswith x "(" = true) (h2 : Txt.endswith x ")" = true) (hp : shParts x = (a, ("-" : Str), b)) : (shuf x).isSome = shOk a b := by
  unfold shuf shOk
  rw [h1, h2, hp, if_neg (by decide), if_neg (by decide), if_neg (show ¬ ("-" : Str) = "" by decide +kernel)]
  dsimp only
  by_cases c1 : 5 < a.length
  · rw [if_pos c1, decide_eq_false (show ¬ a.length ≤ 5 by omega)]
    rfl
  rw [if_neg c1, decide_eq_true (show a.length ≤ 5 by omega)]
  by_cases c2 : 8 < b.length
  · rw [if_pos c2, decide_eq_false (show ¬ b.length ≤ 8 by omega)]
    rfl
  rw [if_neg c2, decide_eq_true (show b.length ≤ 8 by omega)]
  by_cases c3 : (uniq (signs1 a)).length < a.length
  · rw [if_pos c3, decide_eq_true c3]
    rfl
  rw [if_neg c3, decide_eq_false c3]
  cases c4 : a.cps.toList.all fun c => decide (c ∈ lettersG)
  · rw [if_pos rfl]
    rfl
  rw [if_neg (by decide)]
  cases c5 : b.cps.toList.all fun c => decide (c ∈ a.cps.toList)
  · rw [if_pos rfl]
    rfl
  rw [if_neg (by decide)]
  rfl
theorem jn_none : ∀ l : List (List Nat), jn [] l = l.flatten
  | [] => rfl
  | [x] => by simp [jn]
  | x :: y :: r => by
    show x ++ ([] ++ jn [] (y :: r)) = _
    rw [jn_none (y :: r), List.nil_append]
    rfl
theorem join_signs (l : List Nat) : (Txt.join "" (l.map fun c => (⟨#[c]⟩ : Str))).cps.toList = l := by
  rw [TL.join_eq, tl_join, show ("" : Str).cps.toList = [] from by decide +kernel, jn_none, List.map_map]
  induction l with
  | nil => rfl
  | cons c l ih =>
    rw [List.map_cons, List.flatten_cons, ih]
    rfl
end SQ4
namespace SQ4
open PySem L2 SQ
/-! ### the shuffles of the law -/
def abcOf (n : Nat) : Str := cutS "abc" none (some (n : Int))
def letOf (n : Nat) (i : Nat) : Str := ⟨#[(abcOf n).cps.toList.getD i 0]⟩
def tokOf (n : Nat) (lf : List Nat) : Str := "(" ++ abcOf n ++ "-" ++ Txt.join "" (lf.map (letOf n)) ++ ")"
def wokB (s : Str) : Bool := ((shuf s).isSome || isLit s || decide (s ∈ cores)) && !decide (s = "[") && !decide (s = "]") && !decide (s = "") && !decide ((32 : Nat) ∈ s.cps.toList) && decide (s.length ≤ 20) && PyData.strOk s
theorem wok_of {s : Str} (h : wokB s = true) (ys : List Str) : Wok ys s := by
  unfold wokB at h
  simp only [Bool.and_eq_true, Bool.not_eq_true', decide_eq_false_iff_not, decide_eq_true_eq, Bool.or_eq_true] at h
  obtain ⟨⟨⟨⟨⟨⟨h1, h2⟩, h3⟩, h4⟩, h5⟩, h6⟩, h7⟩ := h
  refine ⟨?_, h2, h3, h4, h5, h6, h7⟩
  unfold isWord
  rcases h1 with (h1 | h1) | h1
  · rw [h1, Bool.or_true]
  · rw [h1, Bool.or_true, Bool.true_or]
  · rw [decide_eq_true h1, Bool.true_or, Bool.true_or, Bool.true_or]
theorem abc_l : ∀ {n : Nat}, n ≤ 3 → (abcOf n).cps.toList = [97, 98, 99].take n
  | 0, _ => by decide +kernel
  | 1, _ => by decide +kernel
  | 2, _ => by decide +kernel
  | 3, _ => by decide +kernel
  | n + 4, h => absurd h (by omega)
theorem abc_ok : ∀ {n : Nat}, n ≤ 3 → ((uniq (signs1 (abcOf n))).length < (abcOf n).length) = False
  | 0, _ => eq_false (by decide +kernel)
  | 1, _ => eq_false (by decide +kernel)
  | 2, _ => eq_false (by decide +kernel)
  | 3, _ => eq_false (by decide +kernel)
  | n + 4, h => absurd h (by omega)
theorem tok_ok {n : Nat} {lf : List Nat} (hn : n ≤ 3) (hl : lf.length ≤ 6) (hi : ∀ i ∈ lf, i < n) (ys : List Str) : Wok ys (tokOf n lf) := by
  have e0 : lf.map (letOf n) = (lf.map fun i => (abcOf n).cps.toList.getD i 0).map fun c => (⟨#[c]⟩ : Str) := by
    rw [List.map_map]
    rfl
  have ha := abc_l hn
  have hb : ∀ c ∈ (lf.map fun i => (abcOf n).cps.toList.getD i 0), c ∈ (abcOf n).cps.toList := by
    intro c hc
    obtain ⟨i, h1, rfl⟩ := List.mem_map.mp hc
    have h2 : i < (abcOf n).cps.toList.length := by
      rw [ha, List.length_take]
      have := hi i h1
      show i < min n 3
      omega
    rw [List.getD_eq_getElem?_getD, List.getElem?_eq_getElem h2]
    exact List.getElem_mem h2
  have hs : ∀ c ∈ (abcOf n).cps.toList, c = 97 ∨ c = 98 ∨ c = 99 := by
    intro c hc
    rw [ha] at hc
    have := List.mem_of_mem_take hc
    simpa using this
  have la : (abcOf n).length ≤ 3 := by
    rw [len_l, ha, List.length_take]
    show min n 3 ≤ 3
    omega
  unfold tokOf
  rw [e0]
  have lb : (lf.map fun i => (abcOf n).cps.toList.getD i 0).length ≤ 6 := by rw [List.length_map]; exact hl
  generalize (lf.map fun i => (abcOf n).cps.toList.getD i 0) = bs at hb lb ⊢
  have hr := join_signs bs
  generalize Txt.join "" (bs.map fun c => (⟨#[c]⟩ : Str)) = b at hr ⊢
  have hu := abc_ok hn
  have hl2 : ∀ c ∈ (abcOf n).cps.toList, c ∈ lettersG := fun c hc => by
    rcases hs c hc with rfl | rfl | rfl <;> decide +kernel
  generalize abcOf n = a at hb hs la hu hl2 ⊢
  have ex : (("(" : Str) ++ a ++ "-" ++ b ++ ")").cps.toList = 40 :: ((a.cps.toList ++ 45 :: bs) ++ [41]) := by
    rw [str_app, str_app, str_app, str_app, dash_l, hr, show ("(" : Str).cps.toList = [40] from by decide +kernel, show (")" : Str).cps.toList = [41] from by decide +kernel]
    simp
  generalize (("(" : Str) ++ a ++ "-" ++ b ++ ")") = x at ex ⊢
  have ec : cutS x (some 1) (some (-1)) = a ++ "-" ++ b := by
    refine str_ext ?_
    rw [cut_par ex, str_app, str_app, dash_l, hr, List.append_assoc]
    rfl
  have ep : shParts x = (a, ("-" : Str), b) := by
    unfold shParts
    rw [ec]
    exact TL.partition_app (s := 45) (S := []) dash_l (fun z => by rcases hs 45 z with h | h | h <;> omega)
  have h1 := shuf_parts (starts_of (c := 40) (by decide +kernel) ex) ((ends_iff (c := 41) (by decide +kernel)).mpr ⟨40 :: (a.cps.toList ++ 45 :: bs), ex⟩) ep
  have h2 : shOk a b = true := by
    unfold shOk
    have e1 : (a.cps.toList.all fun c => decide (c ∈ lettersG)) = true := List.all_eq_true.mpr fun c hc => decide_eq_true (hl2 c hc)
    have e2 : (b.cps.toList.all fun c => decide (c ∈ a.cps.toList)) = true := by
      rw [hr]
      exact List.all_eq_true.mpr fun c hc => decide_eq_true (hb c hc)
    have e3 : b.length ≤ 8 := by
      rw [len_l, hr]
      omega
    rw [e1, e2, decide_eq_true (show a.length ≤ 5 by omega), decide_eq_true e3, decide_eq_false (by rw [hu]; exact id)]
    rfl
  have lx : x.length = a.length + bs.length + 3 := by
    rw [len_l, ex, len_l a]
    simp
    omega
  have no : ∀ {y : Str} {c : Nat}, y.cps.toList = [c] → ¬ x = y := fun hy z => by
    have : x.cps.toList.length = _ := congrArg (fun s : Str => s.cps.toList.length) z
    rw [ex, hy] at this
    simp at this
  have mem : ∀ c ∈ x.cps.toList, c = 40 ∨ c = 45 ∨ c = 41 ∨ c = 97 ∨ c = 98 ∨ c = 99 := fun c hc => by
    rw [ex] at hc
    simp only [List.mem_cons, List.mem_append, List.not_mem_nil, or_false] at hc
    rcases hc with h | (h | h | h) | h
    · omega
    · have := hs c h
      omega
    · omega
    · have := hs c (hb c h)
      omega
    · omega
  refine ⟨?_, no (c := 91) (by decide +kernel), no (c := 93) (by decide +kernel), fun z => ?_, fun z => ?_, by omega, ?_⟩
  · unfold isWord
    rw [h1, h2, Bool.or_true]
  · rw [z] at ex
    have e9 : ("" : Str).cps.toList = [] := by decide +kernel
    rw [e9] at ex
    cases ex
  · have := mem 32 z
    omega
  · unfold PyData.strOk
    rw [← Array.all_toList]
    exact List.all_eq_true.mpr fun c hc => decide_eq_true (by have := mem c hc; omega)
/-! ### weights of kinds -/
def sumK (f : Kn → Nat) (ks : List Kn) : Nat := (ks.map f).sum
theorem sumK_app (f : Kn → Nat) (a b : List Kn) : sumK f (a ++ b) = sumK f a + sumK f b := by
  unfold sumK
  rw [List.map_append, List.sum_append]
theorem sumK_one (f : Kn → Nat) (k : Kn) : sumK f [k] = f k := by
  unfold sumK
  simp
/-- what a shuffle does with the kinds -/
def Shf (ks ks' : List Kn) : Prop := (∀ k ∈ ks', k ∈ ks) ∧ ∀ f : Kn → Nat, f .p ≤ 1 → sumK f ks' ≤ sumK f ks + 3
def topAt (top : List Kn) (i : Nat) : Kn := top.getD i .p
/-- the bag of places, while it is filled -/
structure Bag (top : List Kn) (j : Nat) (bg : List Nat) : Prop where
  lt : ∀ i ∈ bg, i < j
  sm : ∀ f : Kn → Nat, f .p ≤ 1 → (bg.map fun i => f (topAt top i)).sum ≤ sumK f (top.take j) + j
theorem Bag.nil {top : List Kn} : Bag top 0 [] := ⟨fun _ h => (nomatch h), fun f _ => Nat.zero_le _⟩
theorem Bag.more {top : List Kn} {j m : Nat} {bg : List Nat} {k : Kn} (h : Bag top j bg) (hk : top[j]? = some k) (hm : (k = .p ∧ m ≤ 2) ∨ m ≤ 1) : Bag top (j + 1) (bg ++ List.replicate m j) := by
  refine ⟨fun i hi => ?_, fun f hf => ?_⟩
  · rcases List.mem_append.mp hi with h1 | h1
    · exact Nat.lt_succ_of_lt (h.lt i h1)
    · rw [List.eq_of_mem_replicate h1]
      exact Nat.lt_succ_self j
  · have h1 := h.sm f hf
    have e1 : topAt top j = k := by
      unfold topAt
      rw [List.getD_eq_getElem?_getD, hk]
      rfl
    rw [List.map_append, List.sum_append, List.map_replicate, List.sum_replicate_nat, e1, take_more hk, sumK_app, sumK_one]
    rcases hm with ⟨rfl, hm⟩ | hm
    · have : m * f .p ≤ f .p + 1 := by
        have h2 : m * f .p ≤ 2 * f .p := Nat.mul_le_mul_right _ hm
        omega
      omega
    · have : m * f k ≤ 1 * f k := Nat.mul_le_mul_right _ hm
      omega
theorem Bag.len {top : List Kn} {j : Nat} {bg : List Nat} (h : Bag top j bg) : bg.length ≤ 2 * j := by
  have h1 := h.sm (fun _ => 1) (Nat.le_refl _)
  have e : ∀ l : List Nat, (l.map fun _ => 1).sum = l.length := fun l => by
    induction l with
    | nil => rfl
    | cons a l ih => rw [List.map_cons, List.sum_cons, ih, List.length_cons]; omega
  have e2 : ∀ l : List Kn, sumK (fun _ => 1) l = l.length := fun l => by
    unfold sumK
    induction l with
    | nil => rfl
    | cons a l ih => rw [List.map_cons, List.sum_cons, ih, List.length_cons]; omega
  rw [e, e2, List.length_take] at h1
  omega
theorem perm_sum {a b : List Nat} (h : a.Perm b) : a.sum = b.sum := by
  induction h with
  | nil => rfl
  | cons x _ ih => rw [List.sum_cons, List.sum_cons, ih]
  | swap x y l => simp only [List.sum_cons]; omega
  | trans _ _ h1 h2 => rw [h1, h2]
theorem shf_of {ks : List Kn} {n : Nat} {bg lf : List Nat} (hn : n ≤ 3) (hn2 : n ≤ ks.length) (h : Bag (ks.drop (ks.length - n)) n bg) (hp : lf.Perm bg) : Shf ks (ks.take (ks.length - n) ++ lf.map (topAt (ks.drop (ks.length - n)))) := by
  have hl : (ks.drop (ks.length - n)).length = n := by
    rw [List.length_drop]
    omega
  refine ⟨fun k hk => ?_, fun f hf => ?_⟩
  · rcases List.mem_append.mp hk with h1 | h1
    · exact List.mem_of_mem_take h1
    · obtain ⟨i, hi, rfl⟩ := List.mem_map.mp h1
      have hi2 : i < n := h.lt i (hp.mem_iff.mp hi)
      have : (ks.drop (ks.length - n))[i]? = some (topAt (ks.drop (ks.length - n)) i) := by
        unfold topAt
        rw [List.getD_eq_getElem?_getD, List.getElem?_eq_getElem (by omega)]
        rfl
      exact List.mem_of_mem_drop (List.mem_of_getElem? this)
  · have h1 := h.sm f hf
    have e : sumK f (lf.map (topAt (ks.drop (ks.length - n)))) = (bg.map fun i => f (topAt (ks.drop (ks.length - n)) i)).sum := by
      unfold sumK
      rw [List.map_map]
      exact perm_sum (hp.map _)
    have e2 : sumK f ks = sumK f (ks.take (ks.length - n)) + sumK f (ks.drop (ks.length - n)) := by
      rw [← sumK_app, List.take_append_drop]
    rw [List.take_of_length_le (by omega)] at h1
    rw [sumK_app, e, e2]
    omega
end SQ4
namespace SQ4
open PySem L2 SQ
abbrev sMx : Stmt := top 69
theorem but_free {u p : Addr} {H G : Hp} (b : But u H G) (hu : urnAt G u) (n : G p = none) : H p = none := by
  cases e : H p with
  | none => rfl
  | some o =>
    have := b p o e (urn_ne hu n).symm
    rw [n] at this
    cases this
theorem Kns.but {u : Addr} {H H' : Hp} {ws : List V} {ks : List Kn} (hu : urnAt H u) (b : But u H H') (h : Kns H ws ks) : Kns H' ws ks := by
  obtain ⟨x, y, z, eu⟩ := hu
  refine Paired.mapP h fun v k e => ?_
  cases k with
  | p => exact e
  | q c d =>
    obtain ⟨t, e, ht⟩ := e
    exact ⟨t, e, b _ _ ht (ne_of ht eu (by intro z; cases z))⟩
theorem Kns.put {D : Addr} {H : Hp} {xs ys ws : List V} {ks : List Kn} (hD : H D = some (.lst xs)) (h : Kns H ws ks) : Kns (upd H D (.lst ys)) ws ks := by
  refine Paired.mapP h fun v k e => ?_
  cases k with
  | p => exact e
  | q c d =>
    obtain ⟨t, e, ht⟩ := e
    exact ⟨t, e, by rw [upd_ne (ne_of ht hD (by intro z; cases z))]; exact ht⟩
abbrev iV (l : List Nat) : List V := l.map fun (i : Nat) => V.int (i : Int)
structure MI (H : Hp) (u aT aB aL : Addr) (wt : List V) (top : List Kn) (bg lf : List Nat) (G : Hp) : Prop where
  u0 : urnAt H u
  but : But u H G
  urn : urnAt G u
  nT : H aT = none
  nB : H aB = none
  nL : H aL = none
  hT : G aT = some (.lst wt)
  hK : Kns G wt top
  hB : G aB = some (.lst (iV bg))
  hL : G aL = some (.lst (iV lf))
  tb : aT ≠ aB
  tl : aT ≠ aL
  bl : aB ≠ aL
section
variable {H : Hp} {u aT aB aL : Addr} {wt : List V} {top : List Kn} {bg lf : List Nat} {G G' : Hp}
theorem MI.go (h : MI H u aT aB aL wt top bg lf G) (b : But u G G') (hu : urnAt G' u) : MI H u aT aB aL wt top bg lf G' :=
  ⟨h.u0, h.but.trans b, hu, h.nT, h.nB, h.nL, b _ _ h.hT (urn_ne h.u0 h.nT).symm, h.hK.but h.urn b, b _ _ h.hB (urn_ne h.u0 h.nB).symm, b _ _ h.hL (urn_ne h.u0 h.nL).symm, h.tb, h.tl, h.bl⟩
theorem MI.sm (h : MI H u aT aB aL wt top bg lf G) (s : Same G G') : MI H u aT aB aL wt top bg lf G' := h.go (Same.but s) (urn_same s h.urn)
theorem MI.newB {p : Addr} {bg' : List Nat} (h : MI H u aT aB aL wt top bg lf G) (s : Same G G') (n : G p = none) (hp : G' p = some (.lst (iV bg'))) : MI H u aT p aL wt top bg' lf G' := by
  have h2 := h.sm s
  exact ⟨h2.u0, h2.but, h2.urn, h2.nT, but_free h.but h.urn n, h2.nL, h2.hT, h2.hK, hp, h2.hL, ne_of_none h.hT n, h2.tl, (ne_of_none h.hL n).symm⟩
theorem MI.putB {bg' : List Nat} (h : MI H u aT aB aL wt top bg lf G) : MI H u aT aB aL wt top bg' lf (upd G aB (.lst (iV bg'))) := by
  refine ⟨h.u0, fun b o e n => ?_, ?_, h.nT, h.nB, h.nL, ?_, h.hK.put h.hB, upd_same, ?_, h.tb, h.tl, h.bl⟩
  · rw [upd_ne (ne_of_none e h.nB)]
    exact h.but b o e n
  · obtain ⟨x, y, z, e⟩ := h.urn
    exact ⟨x, y, z, by rw [upd_ne (urn_ne h.u0 h.nB)]; exact e⟩
  · rw [upd_ne h.tb]
    exact h.hT
  · rw [upd_ne (Ne.symm h.bl)]
    exact h.hL
theorem MI.putL {lf' : List Nat} (h : MI H u aT aB aL wt top bg lf G) : MI H u aT aB aL wt top bg lf' (upd G aL (.lst (iV lf'))) := by
  refine ⟨h.u0, fun b o e n => ?_, ?_, h.nT, h.nB, h.nL, ?_, h.hK.put h.hL, ?_, upd_same, h.tb, h.tl, h.bl⟩
  · rw [upd_ne (ne_of_none e h.nL)]
    exact h.but b o e n
  · obtain ⟨x, y, z, e⟩ := h.urn
    exact ⟨x, y, z, by rw [upd_ne (urn_ne h.u0 h.nL)]; exact e⟩
  · rw [upd_ne h.tl]
    exact h.hT
  · rw [upd_ne h.bl]
    exact h.hB
end
theorem urn_kns {u k : Addr} {H : Hp} {ws : List V} {ks : List Kn} (hu : urnAt H u) (hk : H k = some (.lst ws)) (h : Kns H ws ks) : k ≠ u := by
  rintro rfl
  obtain ⟨x, y, z, e⟩ := hu
  rw [hk] at e
  cases e
  cases h with
  | @cons a b l m e _ =>
    cases b with
    | p => exact V.noConfusion (show V.int x = V.str "p" from e)
    | q c d =>
      obtain ⟨t, e, _⟩ := e
      cases e
def intD (l : List Nat) : List PyData := l.map fun (i : Nat) => PyData.int (i : Int)
theorem int_dp {K : PySem.W.Frag} {H : Hp} : ∀ l : List Nat, DpAll K H (iV l) (intD l)
  | [] => .nil
  | i :: l => .cons (.int _) (int_dp l)
theorem int_sh (l : List Nat) : SeqAt.shaped (.list (intD l)) = true := by
  have h : PyData.canLayAll0 (intD l) = true ∧ PyData.depthAll (intD l) = 0 := by
    induction l with
    | nil => exact ⟨by simp [intD, PyData.canLayAll0], by simp [intD, PyData.depthAll]⟩
    | cons i l ih =>
      show PyData.canLayAll0 (PyData.int (i : Int) :: intD l) = true ∧ PyData.depthAll (PyData.int (i : Int) :: intD l) = 0
      simp only [PyData.canLayAll0, PyData.canLay0, PyData.depthAll, PyData.depth, ih.1, ih.2]
      exact ⟨rfl, rfl⟩
  unfold SeqAt.shaped
  simp only [PyData.canLay0, PyData.depth, h.1, h.2]
  rfl
theorem int_nil (l : List Nat) : (!PyData.eqv (.list (intD l)) (.list [])) = decide (l ≠ []) := by
  cases l with
  | nil => simp [intD, PyData.eqv, PyData.eqvAll]
  | cons a l => simp [intD, PyData.eqv, PyData.eqvAll]
theorem kns_drop {H : Hp} : ∀ {ws : List V} {ks : List Kn} (m : Nat), Kns H ws ks → Kns H (ws.drop m) (ks.drop m)
  | ws, ks, 0, h => by
    rw [List.drop_zero, List.drop_zero]
    exact h
  | _, _, m + 1, .nil => .nil
  | _, _, m + 1, .cons a b => kns_drop m b
theorem kns_take {H : Hp} : ∀ {ws : List V} {ks : List Kn} (m : Nat), Kns H ws ks → Kns H (ws.take m) (ks.take m)
  | ws, ks, 0, h => by
    rw [List.take_zero, List.take_zero]
    exact .nil
  | _, _, m + 1, .nil => .nil
  | _, _, m + 1, .cons a b => .cons a (kns_take m b)
theorem cut_from {xs : List V} {n : Nat} (h : n ≤ xs.length) : cutV xs (some ((xs.length : Int) - (n : Int))) none = xs.drop (xs.length - n) := by
  unfold cutV
  have e : (xs.length : Int) - (n : Int) = ((xs.length - n : Nat) : Int) := by omega
  rw [e, HT.sIx_nat]
  show (xs.drop (min (xs.length - n) xs.length)).take (xs.length - min (xs.length - n) xs.length) = _
  rw [Nat.min_eq_left (by omega)]
  exact List.take_of_length_le (by rw [List.length_drop]; omega)
theorem cut_upto {xs : List V} {n : Nat} (h : n ≤ xs.length) : cutV xs none (some ((xs.length : Int) - (n : Int))) = xs.take (xs.length - n) := by
  unfold cutV
  have e : (xs.length : Int) - (n : Int) = ((xs.length - n : Nat) : Int) := by omega
  rw [e, HT.sIx_nat]
  show (xs.drop 0).take (min (xs.length - n) xs.length - 0) = _
  rw [Nat.min_eq_left (by omega)]
  rfl
theorem pick5 {i : Nat} {x : V} (h : [V.int 1, V.int 1, V.int 1, V.int 2, V.int 0][i]? = some x) : ∃ m : Nat, m ≤ 2 ∧ x = .int m := by
  match i, h with
  | 0, h => cases h; exact ⟨1, by decide, rfl⟩
  | 1, h => cases h; exact ⟨1, by decide, rfl⟩
  | 2, h => cases h; exact ⟨1, by decide, rfl⟩
  | 3, h => cases h; exact ⟨2, by decide, rfl⟩
  | 4, h => cases h; exact ⟨0, by decide, rfl⟩
  | n + 5, h => simp at h
theorem pick4 {i : Nat} {x : V} (h : [V.int 1, V.int 1, V.int 1, V.int 0][i]? = some x) : ∃ m : Nat, m ≤ 1 ∧ x = .int m := by
  match i, h with
  | 0, h => cases h; exact ⟨1, by decide, rfl⟩
  | 1, h => cases h; exact ⟨1, by decide, rfl⟩
  | 2, h => cases h; exact ⟨1, by decide, rfl⟩
  | 3, h => cases h; exact ⟨0, by decide, rfl⟩
  | n + 4, h => simp at h
theorem flat_iv (m j : Nat) : (List.replicate m [V.int (j : Int)]).flatten = iV (List.replicate m j) := by
  induction m with
  | zero => rfl
  | succ m ih =>
    rw [List.replicate_succ, List.flatten_cons, ih, List.replicate_succ]
    rfl
theorem perm_erase {α : Type} : ∀ {l : List α} {k : Nat} {a : α}, l[k]? = some a → (a :: l.eraseIdx k).Perm l
  | [], k, a, h => by simp at h
  | b :: l, 0, a, h => by
    simp at h
    subst h
    exact List.Perm.refl _
  | b :: l, k + 1, a, h => by
    have h' : l[k]? = some a := by simpa using h
    have ih := perm_erase h'
    show (a :: b :: l.eraseIdx k).Perm (b :: l)
    exact (List.Perm.swap b a _).trans (ih.cons b)
theorem erase_map {α β : Type} (f : α → β) : ∀ (l : List α) (k : Nat), (l.map f).eraseIdx k = (l.eraseIdx k).map f
  | [], k => by simp
  | a :: l, 0 => rfl
  | a :: l, k + 1 => by
    show f a :: (l.map f).eraseIdx k = f a :: (l.eraseIdx k).map f
    rw [erase_map f l k]
theorem abc_len : ∀ n : Nat, n ≤ 3 → (abcOf n).cps.toList.length = n ∧ (abcOf n).length = n := fun n h => by
  match n, h with
  | 0, _ => exact ⟨by decide +kernel, by decide +kernel⟩
  | 1, _ => exact ⟨by decide +kernel, by decide +kernel⟩
  | 2, _ => exact ⟨by decide +kernel, by decide +kernel⟩
  | 3, _ => exact ⟨by decide +kernel, by decide +kernel⟩
theorem join_len (lf : List Nat) (n : Nat) : (Txt.join "" (lf.map (letOf n))).length ≤ 2 * lf.length := by
  have e : Txt.join "" (lf.map (letOf n)) = Str.join "" (lf.map (letOf n)) := StrLaws.glued_eq_join "" _
  rw [e]
  have e2 : ∀ l : List Str, (∀ x ∈ l, x.length = 1) → (Str.join "" l).length ≤ 2 * l.length := fun l => by
    induction l with
    | nil => intro _; exact Nat.le_refl _
    | cons a l ih =>
      intro h
      cases l with
      | nil =>
        show a.length ≤ 2
        rw [h a List.mem_cons_self]
        decide
      | cons b l =>
        have i := ih fun x hx => h x (List.mem_cons_of_mem _ hx)
        show (a ++ "" ++ Str.join "" (b :: l)).length ≤ _
        rw [Str.length_append, Str.length_append, h a List.mem_cons_self, List.length_cons]
        have z : ("" : Str).length = 0 := by decide +kernel
        omega
  have := e2 (lf.map (letOf n)) fun x hx => by
    obtain ⟨i, _, rfl⟩ := List.mem_map.mp hx
    rfl
  rw [List.length_map] at this
  exact this
section
variable {P : Program} {w : World} {K : PySem.W.Frag} {mg : Str → Option Value} {base : Heap}
def spMx : Sp := fun vs H Q _ => ∃ (u k : Addr) (ws : List V) (ks : List Kn), vs = [.ref u, .ref k] ∧ urnAt H u ∧ H k = some (.lst ws) ∧ Kns H ws ks ∧ ks.length ≤ 900 ∧
  ∀ (t k' : Addr) (x : Str) (ws' : List V) (ks' : List Kn) (H' : Hp), But u H H' → urnAt H' u → H' t = some (.tup [.str x, .ref k']) → H k' = none → H' k' = some (.lst ws') → Kns H' ws' ks' → Shf ks ks' → (∀ ys, Wok ys x) → Q (.ref t) H'
abbrev nMx : List Str := ["_law_urn_here", "_law_kinds", "_law_size_here", "_law_top", "_law_bag", "_law_left", "_law_k", "_law_letters", "_law_token"]
theorem scMx : FnScope nMx ["_law_urn_here", "_law_kinds"] (defScope sMx) := ⟨rfl, rfl, rfl, by decide +kernel, rfl, by decide +kernel, by decide +kernel⟩
theorem ok_mx {f fL fO : Addr} {fd fdL fdO : FuncData} (F : Fun K "_law_mixed" "_law_mixed" sMx f fd) (BL : Blt mg) (D : Drw K mg fL fO fdL fdO) : FnOk P w K mg base CX0 3 f fd ["_law_urn_here", "_law_kinds"] spMx := by
  have GL : FnOk P w K mg base CX0 1 fL fdL ["_law_urn_here", "_law_many"] spLot := ok_lot D.FL BL
  have GO : FnOk P w K mg base CX0 2 fO fdO ["_law_urn_here", "_law_things"] (spOne K) := ok_one D BL
  refine F.ok scMx (fun vs H Q E h => ?_) (fun cdv A outer s H vs Q E hr h => ?_)
  · obtain ⟨u, k, ws, ks, rfl, _⟩ := h
    rfl
  · obtain ⟨u, k, ws, ks, rfl, hu, hk, hK, hlen, q⟩ := h
    refine ⟨_, pss_cons (ps_set (i := 2) scMx.nd rfl (.inl rfl) (pe_callB (call_min2 rfl) (by rfl) BL.min (by decide +kernel) (pa_cons (pe_callB call_len_seq (by rfl) BL.len PySem.boot_len (pa_cons (pv 1) pa_nil)) (pa_cons (pe_op op_add pe_int (pe_call GL (hr.mono (by decide)) rfl D.gL D.FL.kp D.bL .nil pass0 (pa_cons (pv 0) (pa_cons pe_int pa_nil)))) pa_nil))))
      (pss_cons (ps_asg (pe_tup (pa_cons (pe_slice sl_list (pv 1) (po_some (pe_op op_sub (pe_callB call_len_seq (by rfl) BL.len PySem.boot_len (pa_cons (pv 1) pa_nil)) (pv 2))) po_none) (pa_cons (pe_lst pa_nil) (pa_cons (pe_lst pa_nil) pa_nil)))) (pg_tup rfl (pgs_cons (pg_name (i := 3) scMx.nd rfl (.inr rfl)) (pgs_cons (pg_name (i := 4) scMx.nd rfl (.inl rfl)) (pgs_cons (pg_name (i := 5) scMx.nd rfl (.inl rfl)) pgs_nil)))))
      (pss_cons (ps_for PassesOwn.never rfl (pi_range1 (by rfl) BL.range (pa_cons (pv 2) pa_nil)) (pg_name (i := 6) scMx.nd rfl (.inl rfl))
        (pss_one (ps_set (i := 4) scMx.nd rfl (.inl rfl) (pe_op op_cat (pv 4) (pe_op op_rep (pe_lst (pa_cons (pv 6) pa_nil)) (pe_call GO hr rfl D.gO D.FO.kp D.bO .nil pass0 (pa_cons (pv 0) (pa_cons (pe_ifExp (pt_cmpR (op_eqD hr.units) (pe_ix ix_list (pv 3) (pv 6) (fun _ _ => rfl)) pe_str (nomark _))
          (pe_lst (pa_cons pe_int (pa_cons pe_int (pa_cons pe_int (pa_cons pe_int (pa_cons pe_int pa_nil)))))) (pe_lst (pa_cons pe_int (pa_cons pe_int (pa_cons pe_int (pa_cons pe_int pa_nil)))))) pa_nil))))))))
      (pss_cons (ps_while PassesOwn.never (pt_cmpR (op_neD hr.units) (pv 4) (pe_lst pa_nil) (nomark _)) (pss_one (ps_expr (pe_bm PySem.F.plainAttrs_list PySem.F.slot_list_append PySem.F.type_list_append mt_append (pv 5) (pa_cons (pe_bm PySem.F.plainAttrs_list PySem.F.slot_list_pop PySem.F.type_list_pop mt_popAt (pv 4) (pa_cons (pe_call GL (hr.mono (by decide)) rfl D.gL D.FL.kp D.bL .nil pass0 (pa_cons (pv 0) (pa_cons (pe_callB call_len_seq (by rfl) BL.len PySem.boot_len (pa_cons (pv 4) pa_nil)) pa_nil))) pa_nil)) pa_nil)))))
      (pss_cons (ps_set (i := 7) scMx.nd rfl (.inr rfl) (pe_slice sl_str pe_str po_none (po_some (pv 2))))
      (pss_cons (ps_set (i := 8) scMx.nd rfl (.inl rfl) (pe_op op_add_str (pe_op op_add_str (pe_op op_add_str (pe_op op_add_str pe_str (pv 7)) pe_str) (pe_join pe_str (pe_lc (own := [("_law_k", 6)]) (g := gName 6) (tt := tYes) rfl scMx.nd (pi_list (pv 5)) (blkOk_by (N := nMx) (sc := defScope sMx) (by decide +kernel)) (fun _ _ _ _ _ => pg_name (i := 6) scMx.nd rfl (.inl rfl)) (fun _ _ _ _ _ => pts_nil) (fun _ _ _ _ _ => pe_ix ix_str (pv 7) (pv 6) (fun _ _ => rfl))))) pe_str))
      (pss_one (ps_ret (pe_tup (pa_cons (pv 8) (pa_cons (pe_op op_cat (pe_slice sl_list (pv 1) po_none (po_some (pe_op op_sub (pe_callB call_len_seq (by rfl) BL.len PySem.boot_len (pa_cons (pv 1) pa_nil)) (pv 2)))) (pe_lc (own := [("_law_k", 6)]) (g := gName 6) (tt := tYes) rfl scMx.nd (pi_list (pv 5)) (blkOk_by (N := nMx) (sc := defScope sMx) (by decide +kernel)) (fun _ _ _ _ _ => pg_name (i := 6) scMx.nd rfl (.inl rfl)) (fun _ _ _ _ _ => pts_nil) (fun _ _ _ _ _ => pe_ix (ix_listK K rfl) (pv 3) (pv 6) (fun _ _ => rfl)))) pa_nil)))))))))), ?_⟩
    have hkl : ws.length = ks.length := hK.len
    have nku : k ≠ u := urn_kns hu hk hK
    -- the size
    refine seq_mid (fun σ G => ∃ n : Nat, n ≤ 3 ∧ n ≤ ws.length ∧ σ = [some (.ref u), some (.ref k), some (.int n), none, none, none, none, none, none] ∧ But u H G ∧ urnAt G u) (fun N hN => ?_) ?_
    · refine ⟨_, rfl, k, ws, rfl, .inl (SqL.of hk), _, rfl, u, 3, rfl, hu, by decide, by decide, fun G d d0 d1 hu1 bt => ⟨_, _, rfl, rfl, _, _, rfl, ?_⟩⟩
      obtain ⟨n, hn⟩ : ∃ n : Nat, (if (1 + d) < ((ws.length : Nat) : Int) then (1 + d) else ((ws.length : Nat) : Int)) = (n : Int) := by
        split
        · exact ⟨(1 + d).toNat, by omega⟩
        · exact ⟨ws.length, rfl⟩
      rw [hn]
      have h3 : n ≤ 3 ∧ n ≤ ws.length := by
        split at hn <;> omega
      exact hN _ _ ⟨n, h3.1, h3.2, rfl, bt, hu1⟩
    rintro _ G0 ⟨n, hn3, hnl, rfl, b0, u0⟩
    have hk0 := b0 _ _ hk nku
    have hK0 := hK.but hu b0
    generalize hwt : ws.drop (ws.length - n) = wt
    generalize htp : ks.drop (ks.length - n) = tp
    have htl : tp.length = n := by
      rw [← htp, List.length_drop]
      omega
    have hKt : Kns G0 wt tp := by
      rw [← hwt, ← htp, hkl]
      exact kns_drop _ hK0
    -- top, bag, left
    refine seq_mid (fun σ G => ∃ aT aB aL, σ = [some (.ref u), some (.ref k), some (.int n), some (.ref aT), some (.ref aB), some (.ref aL), none, none, none] ∧ MI H u aT aB aL wt tp [] [] G) (fun N hN => ?_) ?_
    · refine ⟨_, rfl, _, rfl, k, ws, rfl, .inl (SqL.of hk0), _, rfl, _, _, rfl, rfl, _, rfl, k, ws, rfl, SqL.of hk0, ?_⟩
      rw [cut_from hnl, hwt]
      intro aT n1
      generalize hG_ : upd G0 aT _ = G1
      have s1 : Same G0 G1 := (by rw [← hG_]; exact same_new (fun _ _ e => e) n1)
      have h1 := (congrFun hG_ aT).symm.trans upd_same
      clear hG_
      refine ⟨(by show 0 ≤ sizeLine; decide), ?_⟩
      intro aB n2
      generalize hG_ : upd G1 aB _ = G2
      have s2 : Same G1 G2 := (by rw [← hG_]; exact same_new (fun _ _ e => e) n2)
      have h2 := (congrFun hG_ aB).symm.trans upd_same
      clear hG_
      refine ⟨(by show 0 ≤ sizeLine; decide), ?_⟩
      intro aL n3
      generalize hG_ : upd G2 aL _ = G3'
      have s3 : Same G2 G3' := (by rw [← hG_]; exact same_new (fun _ _ e => e) n3)
      have h3 := (congrFun hG_ aL).symm.trans upd_same
      clear hG_
      refine ⟨(by show 3 ≤ sizeLine; decide), ?_⟩
      intro t n4
      generalize hG_ : upd G3' t _ = G4
      have s4 : Same G3' G4 := (by rw [← hG_]; exact same_new (fun _ _ e => e) n4)
      have h4 := (congrFun hG_ t).symm.trans upd_same
      clear hG_
      have z1 : Same G0 G4 := st s1 (st s2 (st s3 s4))
      have f1 : H aT = none := but_free b0 u0 n1
      have f2 : H aB = none := but_free b0 u0 (s1.free n2)
      have f3 : H aL = none := but_free b0 u0 ((st s1 s2).free n3)
      exact ⟨t, _, rfl, SqT.of h4, rfl, _, _, rfl, _, _, rfl, _, _, rfl, rfl, hN _ _ ⟨aT, aB, aL, rfl, hu, b0.trans (Same.but z1), urn_same z1 u0, f1, f2, f3, (st s2 (st s3 s4)) _ _ h1, hKt.same z1, (st s3 s4) _ _ h2, s4 _ _ h3, ne_of_none h1 n2, ne_of_none (s2 _ _ h1) n3, ne_of_none h2 n3⟩⟩
    rintro _ G1 ⟨aT, aB0, aL, rfl, m1⟩
    -- the bag
    refine seq_mid (fun σ G => ∃ aB bg v6, σ = [some (.ref u), some (.ref k), some (.int n), some (.ref aT), some (.ref aB), some (.ref aL), v6, none, none] ∧ MI H u aT aB aL wt tp bg [] G ∧ Bag tp n bg) (fun N hN => ?_) ?_
    · refine ⟨_, rfl, n, rfl, by omega, by omega, for_range (lo := 0) (n := n) (fun j σ G => ∃ aB bg v6, σ = [some (.ref u), some (.ref k), some (.int n), some (.ref aT), some (.ref aB), some (.ref aL), v6, none, none] ∧ MI H u aT aB aL wt tp bg [] G ∧ Bag tp j bg) ⟨aB0, [], _, rfl, m1, Bag.nil⟩ ?_ (fun σ G ⟨aB, bg, v6, e, m, b⟩ => hN _ _ ⟨aB, bg, v6, e, m, b⟩)⟩
      rintro j σ G hj ⟨aB, bg, v6, rfl, m, bb⟩
      rw [Int.zero_add]
      refine ⟨_, rfl, _, rfl, (by show 1 ≤ sizeLine; decide), ?_⟩
      intro p1 n1
      generalize hG_ : upd G p1 _ = G2
      have s1 : Same G G2 := (by rw [← hG_]; exact same_new (fun _ _ e => e) n1)
      have h1 := (congrFun hG_ p1).symm.trans upd_same
      clear hG_
      have m2 := m.sm s1
      have hbl := bb.len
      obtain ⟨kd, hkd⟩ : ∃ kd, tp[j]? = some kd := ⟨_, List.getElem?_eq_getElem (by omega)⟩
      have hwl : wt.length = tp.length := m2.hK.len
      obtain ⟨x, hx⟩ : ∃ x, wt[j]? = some x := ⟨_, List.getElem?_eq_getElem (by omega)⟩
      obtain ⟨kd', hkd', kx⟩ := Paired.at (F := _) m2.hK hx
      rw [hkd] at hkd'
      cases hkd'
      refine ⟨_, rfl, _, rfl, _, rfl, aT, wt, _, x, rfl, rfl, SqL.of m2.hT, atI_nat hx, _, _, dp_kn kx, .str _, sh_kn kd, sh_kn .p, _, rfl, ?_⟩
      rw [kn_eq]
      have fin : ∀ (G3 : Hp) (c : Nat), c ≤ 2 → ((kd = .p ∧ c ≤ 2) ∨ c ≤ 1) → MI H u aT aB aL wt tp bg [] G3 → G3 p1 = some (.lst [.int j]) → rRep (.ref p1) (.int c) G3 fun v H1 => rCat (.ref aB) v H1 fun v2 H2 => ∃ aB bg v6, [some (V.ref u), some (.ref k), some (.int n), some (.ref aT), some v2, some (.ref aL), some (.int j), none, none] = [some (V.ref u), some (.ref k), some (.int n), some (.ref aT), some (.ref aB), some (.ref aL), v6, none, none] ∧ MI H u aT aB aL wt tp bg [] H2 ∧ Bag tp (j + 1) bg := by
        intro G3 c hc hc2 m3 h3
        refine ⟨p1, c, _, rfl, rfl, h3, by omega, by omega, Nat.le_trans (by show 1 * c ≤ 2; omega : _ ≤ 2) (by decide), ?_⟩
        rw [Int.toNat_natCast, flat_iv]
        intro p4 n4
        generalize hG_ : upd G3 p4 _ = G4
        have s4 : Same G3 G4 := (by rw [← hG_]; exact same_new (fun _ _ e => e) n4)
        have h4 := (congrFun hG_ p4).symm.trans upd_same
        clear hG_
        have m4 := m3.sm s4
        refine ⟨aB, p4, _, _, rfl, rfl, m4.hB, h4, ?_, ?_⟩
        · rw [List.length_map, List.length_map, List.length_replicate]
          exact Nat.le_trans (by omega : _ ≤ 20) (by decide)
        have e5 : iV bg ++ iV (List.replicate c j) = iV (bg ++ List.replicate c j) := (List.map_append).symm
        rw [e5]
        intro p5 n5
        generalize hG_ : upd G4 p5 _ = G5
        have s5 : Same G4 G5 := (by rw [← hG_]; exact same_new (fun _ _ e => e) n5)
        have h5 := (congrFun hG_ p5).symm.trans upd_same
        clear hG_
        exact ⟨p5, _, _, rfl, m4.newB s5 n5 h5, bb.more hkd hc2⟩
      cases kd with
      | p =>
        refine iteT ⟨(by show 5 ≤ sizeLine; decide), ?_⟩
        intro p3 n3
        generalize hG_ : upd G2 p3 _ = G3'
        have s3 : Same G2 G3' := (by rw [← hG_]; exact same_new (fun _ _ e => e) n3)
        have h3 := (congrFun hG_ p3).symm.trans upd_same
        clear hG_
        have m3 := m2.sm s3
        refine ⟨u, p3, _, rfl, m3.urn, (urn_ne m2.urn n3), h3, (by show 0 < 5; decide), (by show 5 ≤ 1000; decide), fun G4 i y hy hu4 bt4 => ?_⟩
        obtain ⟨c, hc, rfl⟩ := pick5 hy
        refine fin G4 c hc (.inl ⟨rfl, hc⟩) (m3.go bt4 hu4) (bt4 _ _ (s3 _ _ h1) (urn_ne m.urn n1).symm)
      | q a1 b1 =>
        refine iteF ⟨(by show 4 ≤ sizeLine; decide), ?_⟩
        intro p3 n3
        generalize hG_ : upd G2 p3 _ = G3'
        have s3 : Same G2 G3' := (by rw [← hG_]; exact same_new (fun _ _ e => e) n3)
        have h3 := (congrFun hG_ p3).symm.trans upd_same
        clear hG_
        have m3 := m2.sm s3
        refine ⟨u, p3, _, rfl, m3.urn, (urn_ne m2.urn n3), h3, (by show 0 < 4; decide), (by show 4 ≤ 1000; decide), fun G4 i y hy hu4 bt4 => ?_⟩
        obtain ⟨c, hc, rfl⟩ := pick4 hy
        refine fin G4 c (by omega) (.inr hc) (m3.go bt4 hu4) (bt4 _ _ (s3 _ _ h1) (urn_ne m.urn n1).symm)
    rintro _ G2 ⟨aB, bg, v6, rfl, m2, bb⟩
    have hbl := bb.len
    -- the draws
    refine seq_mid (fun σ G => ∃ lf, σ = [some (.ref u), some (.ref k), some (.int n), some (.ref aT), some (.ref aB), some (.ref aL), v6, none, none] ∧ MI H u aT aB aL wt tp [] lf G ∧ lf.Perm bg) (fun N hN => ?_) ?_
    · refine while_by (fun σ G => ∃ b2 lf, σ = [some (.ref u), some (.ref k), some (.int n), some (.ref aT), some (.ref aB), some (.ref aL), v6, none, none] ∧ MI H u aT aB aL wt tp b2 lf G ∧ (lf ++ b2).Perm bg) (fun _ G => match G aB with | some (.lst xs) => xs.length | _ => 0) ⟨bg, [], rfl, m2, List.Perm.refl _⟩ ?_ ?_
      · rintro σ G ⟨b2, lf, rfl, m, pm⟩
        refine ⟨_, rfl, (by show 0 ≤ sizeLine; decide), ?_⟩
        intro p1 n1
        generalize hG_ : upd G p1 _ = G3'
        have s1 : Same G G3' := (by rw [← hG_]; exact same_new (fun _ _ e => e) n1)
        have h1 := (congrFun hG_ p1).symm.trans upd_same
        clear hG_
        have m3 := m.sm s1
        refine ⟨_, _, .lst (SqL.of m3.hB) (int_dp b2), .lst (SqL.of h1) .nil, int_sh b2, sh_nilL, _, rfl, ?_⟩
        rw [int_nil]
        have hl2 : lf.length + b2.length ≤ 6 := by
          have := pm.length_eq
          rw [List.length_append] at this
          omega
        cases b2 with
        | nil =>
          refine iteF (hN _ _ ⟨lf, rfl, m3, by simpa using pm⟩)
        | cons i0 b2 =>
          refine iteT ?_
          have hl3 : (iV (i0 :: b2)).length = b2.length + 1 := by rw [List.length_map]; rfl
          rw [List.length_cons] at hl2
          refine ⟨_, rfl, .inl ⟨rfl, _, SqL.of m3.hL⟩, _, rfl, .inl ⟨rfl, _, SqL.of m3.hB⟩, _, rfl, _, rfl, aB, _, rfl, .inl (SqL.of m3.hB), u, _, rfl, m3.urn, by rw [hl3]; omega, by rw [hl3]; omega, fun G4 d d0 d1 hu4 bt4 => ?_⟩
          rw [hl3] at d1
          have m4 := m3.go bt4 hu4
          obtain ⟨kk, rfl⟩ : ∃ kk : Nat, d = kk := ⟨d.toNat, by omega⟩
          have hkk : kk < (i0 :: b2).length := by
            show kk < b2.length + 1
            omega
          have hgi : (i0 :: b2)[kk]? = some ((i0 :: b2)[kk]) := List.getElem?_eq_getElem hkk
          generalize (i0 :: b2)[kk] = ii at hgi
          refine ⟨aB, _, _, kk, .int ii, rfl, rfl, m4.hB, by omega, by omega, ?_, ?_, ?_⟩
          · unfold seqIndex?
            rw [hl3]
            show (if (0 ≤ (if (kk : Int) < 0 then _ else (kk : Int)) && _) = true then _ else _) = _
            rw [if_neg (by omega : ¬ (kk : Int) < 0)]
            rw [if_pos (by simp; omega)]
            simp
          · rw [List.getElem?_map, hgi]
            rfl
          · have ee : (iV (i0 :: b2)).eraseIdx kk = iV ((i0 :: b2).eraseIdx kk) := by
              unfold iV
              rw [erase_map]
            rw [ee]
            have m5 := m4.putB (bg' := (i0 :: b2).eraseIdx kk)
            refine ⟨aL, _, _, rfl, rfl, m5.hL, ?_, ?_⟩
            · rw [List.length_map]
              exact Nat.lt_of_le_of_lt (by omega : _ ≤ 10) (by decide)
            · have e6 : iV lf ++ [V.int (ii : Int)] = iV (lf ++ [ii]) := by
                unfold iV
                rw [List.map_append]
                rfl
              rw [e6]
              have m6 := m5.putL (lf' := lf ++ [ii])
              refine ⟨⟨_, _, rfl, m6, ?_⟩, ?_⟩
              · rw [List.append_assoc]
                exact (List.Perm.append_left lf (perm_erase hgi)).trans pm
              · have e7 := m6.hB
                have e8 := m.hB
                simp only [e7, e8, List.length_map]
                rw [List.length_eraseIdx, if_pos hkk]
                exact Nat.sub_lt (by show 0 < b2.length + 1; omega) (by decide)
      · rintro σ H Q Q' hq ⟨v, e, l, hn⟩
        refine ⟨v, e, l, fun p np => ?_⟩
        obtain ⟨d1, d2, a1, a2, a3, a4, c, ec, r⟩ := hn p np
        exact ⟨d1, d2, a1, a2, a3, a4, c, ec, hq _ _ r⟩
    rintro _ Gd ⟨lf, rfl, m3, pm⟩
    have hlf : lf.length ≤ 6 := by
      rw [pm.length_eq]
      omega
    have hli : ∀ i ∈ lf, i < n := fun i hi => bb.lt i (pm.mem_iff.mp hi)
    have hab := abc_len n hn3
    -- letters
    refine seq_mid (fun σ G => σ = [some (.ref u), some (.ref k), some (.int n), some (.ref aT), some (.ref aB), some (.ref aL), v6, some (.str (abcOf n)), none] ∧ G = Gd) (fun N hN => ?_) ?_
    · exact ⟨_, rfl, _, rfl, _, rfl, (by show 3 ≤ sizeLine; decide), hN _ _ ⟨rfl, rfl⟩⟩
    rintro _ Ge ⟨rfl, eG⟩
    rw [eG]
    clear eG
    -- the token
    refine seq_mid (fun σ G => σ = [some (.ref u), some (.ref k), some (.int n), some (.ref aT), some (.ref aB), some (.ref aL), v6, some (.str (abcOf n)), some (.str (tokOf n lf))] ∧ MI H u aT aB aL wt tp [] lf G) (fun N hN => ?_) ?_
    · refine ⟨_, rfl, _, _, rfl, rfl, ?_, _, _, rfl, rfl, ?_, ⟨_, rfl⟩, _, rfl, aL, rfl, ⟨_, SqL.of m3.hL⟩, fun D hD => ?_⟩
      · rw [hab.2]
        exact Nat.le_trans (by have : ("(" : Str).length = 1 := by decide +kernel
                               omega : _ ≤ 10) (by decide)
      · rw [Str.length_append, hab.2]
        exact Nat.le_trans (by have : ("(" : Str).length = 1 := by decide +kernel
                               have : ("-" : Str).length = 1 := by decide +kernel
                               omega : _ ≤ 10) (by decide)
      refine lc_list (K := K) (a := aL) (xs := iV lf) (fun i G => Same Gd G ∧ G D = some (.lst (((lf.take i).map (letOf n)).map V.str))) ⟨same_new (fun _ _ e => e) hD, upd_same⟩ (fun i G _ ⟨s2, _⟩ => SqL.of (s2 _ _ m3.hL)) ?_ ?_
      · rintro i v G hi ⟨s2, hD2⟩
        rw [List.getElem?_map] at hi
        cases hg : lf[i]? with
        | none =>
          rw [hg] at hi
          cases hi
        | some ii =>
          rw [hg] at hi
          cases hi
          have hii := hli ii (List.mem_of_getElem? hg)
          refine ⟨rfl, keptT ⟨_, rfl, _, rfl, abcOf n, _, (abcOf n).cps.toList.getD ii 0, rfl, rfl, ?_, atI_nat ?_, _, hD2, ?_, ?_, ?_⟩⟩
          · rw [hab.2]
            exact Nat.le_trans hn3 (by decide)
          · rw [List.getD_eq_getElem?_getD, List.getElem?_eq_getElem (by omega)]
            rfl
          · rw [List.length_map, List.length_map, List.length_take]
            exact Nat.lt_of_le_of_lt (by omega : _ ≤ 10) (by decide)
          · intro b o e
            rw [upd_ne (ne_of_none e hD)]
            exact s2 _ _ e
          · rw [upd_same, take_more hg, List.map_append, List.map_append]
            rfl
      · rintro G ⟨s2, hD2⟩
        have e9 : (iV lf).length = lf.length := List.length_map _
        rw [e9, List.take_length] at hD2
        have hj := join_len lf n
        refine ⟨_, D, lf.map (letOf n), rfl, rfl, .inl (SqL.of hD2), ?_, _, _, rfl, rfl, ?_, _, _, rfl, rfl, ?_, hN _ _ ⟨rfl, m3.sm s2⟩⟩
        · have a1 := sum_le (α := Str) (·.length) 1 (lf.map (letOf n)) fun x hx => by
            obtain ⟨i, _, rfl⟩ := List.mem_map.mp hx
            exact Nat.le_refl _
          rw [List.length_map] at a1
          show _ + (lf.map (letOf n)).length * 0 ≤ _
          omega
        · rw [Str.length_append, Str.length_append, hab.2]
          exact Nat.le_trans (by have : ("(" : Str).length = 1 := by decide +kernel
                                 have : ("-" : Str).length = 1 := by decide +kernel
                                 omega : _ ≤ 30) (by decide)
        · rw [Str.length_append, Str.length_append, Str.length_append, hab.2]
          exact Nat.le_trans (by have : ("(" : Str).length = 1 := by decide +kernel
                                 have : ("-" : Str).length = 1 := by decide +kernel
                                 have : (")" : Str).length = 1 := by decide +kernel
                                 omega : _ ≤ 30) (by decide)
    clear m3
    rintro _ Gd ⟨rfl, m3⟩
    -- what is left
    have hk3 := m3.but _ _ hk nku
    refine ⟨_, rfl, _, rfl, _, rfl, k, ws, rfl, .inl (SqL.of hk3), _, rfl, _, _, rfl, rfl, _, rfl, k, ws, rfl, SqL.of hk3, ?_⟩
    rw [cut_upto hnl]
    intro p1 n1
    generalize hG_ : upd Gd p1 _ = G4
    have s1 : Same Gd G4 := (by rw [← hG_]; exact same_new (fun _ _ e => e) n1)
    have h1 := (congrFun hG_ p1).symm.trans upd_same
    clear hG_
    have m4 := m3.sm s1
    refine ⟨_, rfl, aL, rfl, ⟨_, SqL.of m4.hL⟩, fun D hD => ?_⟩
    refine lc_list (K := K) (a := aL) (xs := iV lf) (fun i G => ∃ xs, Same G4 G ∧ G D = some (.lst xs) ∧ Kns G xs ((lf.take i).map (topAt tp))) ⟨[], same_new (fun _ _ e => e) hD, upd_same, .nil⟩ (fun i G _ ⟨_, s2, _⟩ => SqL.of (s2 _ _ m4.hL)) ?_ ?_
    · rintro i v G hi ⟨xs, s2, hD2, hx⟩
      rw [List.getElem?_map] at hi
      cases hg : lf[i]? with
      | none =>
        rw [hg] at hi
        cases hi
      | some ii =>
        rw [hg] at hi
        cases hi
        have hii := hli ii (List.mem_of_getElem? hg)
        have hwl : wt.length = tp.length := m4.hK.len
        obtain ⟨x, hx'⟩ : ∃ x, wt[ii]? = some x := ⟨_, List.getElem?_eq_getElem (by omega)⟩
        obtain ⟨kd, hkd, kx⟩ := Paired.at (F := _) (m4.hK.same s2) hx'
        have et : topAt tp ii = kd := by
          unfold topAt
          rw [List.getD_eq_getElem?_getD, hkd]
          rfl
        have hxl := hx.len
        rw [List.length_map, List.length_take] at hxl
        refine ⟨rfl, keptT ⟨_, rfl, _, rfl, aT, wt, _, x, rfl, rfl, SqL.of (s2 _ _ m4.hT), atI_nat hx', xs, hD2, Nat.lt_of_le_of_lt (by omega : _ ≤ 10) (by decide), xs ++ [x], ?_, upd_same, ?_⟩⟩
        · intro b o e
          rw [upd_ne (ne_of_none e hD)]
          exact s2 _ _ e
        · rw [take_more hg, List.map_append]
          refine Kns.put hD2 (Kns.app hx (.cons ?_ .nil))
          show KnAt G x (topAt tp ii)
          rw [et]
          exact kx
    · rintro G ⟨xs, s2, hD2, hx⟩
      have e9 : (iV lf).length = lf.length := List.length_map _
      rw [e9, List.take_length] at hx
      have hxl := hx.len
      rw [List.length_map] at hxl
      refine ⟨p1, D, _, _, rfl, rfl, s2 _ _ h1, hD2, Nat.le_trans (by rw [List.length_take]; omega : _ ≤ 1000) (by decide), ?_⟩
      intro pR nR
      generalize hG_ : upd G pR _ = G6
      have s6 : Same G G6 := (by rw [← hG_]; exact same_new (fun _ _ e => e) nR)
      have h6 := (congrFun hG_ pR).symm.trans upd_same
      clear hG_
      refine ⟨(by show 2 ≤ sizeLine; decide), ?_⟩
      intro pt nt
      generalize hG_ : upd G6 pt _ = G7
      have s7 : Same G6 G7 := (by rw [← hG_]; exact same_new (fun _ _ e => e) nt)
      have h7 := (congrFun hG_ pt).symm.trans upd_same
      clear hG_
      have z7 : Same G4 G7 := st s2 (st s6 s7)
      have m7 := m4.sm z7
      have fr : H pR = none := but_free m4.but m4.urn (s2.free nR)
      refine q pt pR (tokOf n lf) _ (ks.take (ks.length - n) ++ lf.map (topAt tp)) G7 m7.but m7.urn h7 fr (s7 _ _ h6) ?_ ?_ (tok_ok hn3 hlf hli)
      · rw [hkl]
        exact Kns.app (kns_take _ (hK.but hu m7.but)) (hx.same (st s6 s7))
      · rw [← htp] at bb ⊢
        exact shf_of hn3 (by omega) bb pm
end
end SQ4
namespace SQ4
open PySem L2 SQ
/-! ### what one word does with the kinds -/
def wW : Kn → Nat
  | .p => 1
  | .q a b => max 1 (b - a).toNat
def wT : Kn → Nat
  | .p => 1
  | .q a b => 1 + a.toNat + b.toNat
def KOK (ks : List Kn) : Prop := ∀ a b, .q a b ∈ ks → 0 ≤ a ∧ 0 ≤ b
def AllP (ks : List Kn) : Prop := ∀ k ∈ ks, k = .p
def NetLe (N : Nat) (ks : List Kn) : Prop := ∀ a b : Int, .q a b ∈ ks → b - a ≤ N
/-- what a word does that is no quotation -/
structure Stp (ks ks' : List Kn) : Prop where
  ok : KOK ks'
  w : sumK wW ks' ≤ sumK wW ks + 3
  t : sumK wT ks' ≤ sumK wT ks + 3
  al : AllP ks → AllP ks'
  ln : ∀ N : Nat, 4 ≤ N → NetLe N ks → ks'.length + 1 ≤ ks.length + N
theorem sumK_len {f : Kn → Nat} (h : ∀ k, 1 ≤ f k) : ∀ ks : List Kn, ks.length ≤ sumK f ks
  | [] => Nat.zero_le _
  | k :: ks => by
    have := sumK_len h ks
    have hk := h k
    unfold sumK at *
    rw [List.map_cons, List.sum_cons, List.length_cons]
    omega
theorem wW_pos (k : Kn) : 1 ≤ wW k := by
  cases k with
  | p => exact Nat.le_refl _
  | q a b => exact Nat.le_max_left _ _
theorem wT_pos (k : Kn) : 1 ≤ wT k := by
  cases k with
  | p => exact Nat.le_refl _
  | q a b =>
    show 1 ≤ 1 + a.toNat + b.toNat
    omega
theorem sumK_rep {f : Kn → Nat} (h : f .p = 1) (n : Nat) : sumK f (List.replicate n .p) = n := by
  unfold sumK
  rw [List.map_replicate, h, List.sum_replicate_nat]
  omega
theorem sumK_cut {f : Kn → Nat} (h : ∀ k, 1 ≤ f k) {ks : List Kn} {a : Nat} (ha : a ≤ ks.length) : sumK f (ks.take (ks.length - a)) + a ≤ sumK f ks := by
  have e : sumK f ks = sumK f (ks.take (ks.length - a)) + sumK f (ks.drop (ks.length - a)) := by rw [← sumK_app, List.take_append_drop]
  have l := sumK_len h (ks.drop (ks.length - a))
  rw [List.length_drop] at l
  omega
theorem kok_app {a b : List Kn} (ha : KOK a) (hb : KOK b) : KOK (a ++ b) := fun x y h => by
  rcases List.mem_append.mp h with h | h
  · exact ha x y h
  · exact hb x y h
theorem kok_sub {a b : List Kn} (h : ∀ k ∈ b, k ∈ a) (ha : KOK a) : KOK b := fun x y hx => ha x y (h _ hx)
theorem kok_rep (n : Nat) : KOK (List.replicate n .p) := fun x y h => by
  have := List.eq_of_mem_replicate h
  cases this
theorem kok_one {a b : Int} (h0 : 0 ≤ a) (h1 : 0 ≤ b) : KOK [.q a b] := fun x y h => by
  have := List.mem_singleton.mp h
  cases this
  exact ⟨h0, h1⟩
theorem kok_p : KOK [.p] := kok_rep 1
theorem notP {ks : List Kn} {a b : Int} (h : .q a b ∈ ks) : ¬ AllP ks := fun z => by
  have := z _ h
  cases this
/-- a literal -/
theorem stp_lit {ks : List Kn} (h : KOK ks) : Stp ks (ks ++ [.p]) := by
  refine ⟨kok_app h kok_p, ?_, ?_, fun z k hk => ?_, fun N hN _ => ?_⟩
  · rw [sumK_app, sumK_one]
    show _ + 1 ≤ _
    omega
  · rw [sumK_app, sumK_one]
    show _ + 1 ≤ _
    omega
  · rcases List.mem_append.mp hk with h | h
    · exact z k h
    · exact List.mem_singleton.mp h
  · rw [List.length_append]
    show ks.length + 1 + 1 ≤ _
    omega
theorem stp_shf {ks ks' : List Kn} (h : KOK ks) (s : Shf ks ks') : Stp ks ks' := by
  refine ⟨kok_sub s.1 h, s.2 wW (Nat.le_refl _), s.2 wT (Nat.le_refl _), fun z k hk => z k (s.1 k hk), fun N hN _ => ?_⟩
  have := s.2 (fun _ => 1) (Nat.le_refl _)
  have e2 : ∀ l : List Kn, sumK (fun _ => 1) l = l.length := fun l => by
    unfold sumK
    induction l with
    | nil => rfl
    | cons a l ih => rw [List.map_cons, List.sum_cons, ih, List.length_cons]; omega
  rw [e2, e2] at this
  omega
/-- a plain word, or a call: some plain values are taken, some are left -/
theorem stp_word {ks : List Kn} {a b : Nat} (h : KOK ks) (ha : a ≤ ks.length) (hb : b ≤ a + 1) : Stp ks (ks.take (ks.length - a) ++ List.replicate b .p) := by
  refine ⟨kok_app (kok_sub (fun k hk => List.mem_of_mem_take hk) h) (kok_rep b), ?_, ?_, fun z k hk => ?_, fun N hN _ => ?_⟩
  · rw [sumK_app, sumK_rep rfl]
    have := sumK_cut wW_pos ha
    omega
  · rw [sumK_app, sumK_rep rfl]
    have := sumK_cut wT_pos ha
    omega
  · rcases List.mem_append.mp hk with h | h
    · exact z k (List.mem_of_mem_take h)
    · exact List.eq_of_mem_replicate h
  · rw [List.length_append, List.length_take, List.length_replicate]
    omega
theorem mem_last {kb : List Kn} {k : Kn} : k ∈ kb ++ [k] := List.mem_append.mpr (.inr (List.mem_singleton.mpr rfl))
theorem mem_snd {kb : List Kn} {k l : Kn} : k ∈ kb ++ [k] ++ [l] := List.mem_append.mpr (.inl mem_last)
theorem stp_call {kb : List Kn} {a b : Nat} (h : KOK (kb ++ [.q (a : Int) (b : Int)])) (ha : a ≤ kb.length) : Stp (kb ++ [.q (a : Int) (b : Int)]) (kb.take (kb.length - a) ++ List.replicate b .p) := by
  refine ⟨kok_app (kok_sub (fun k hk => List.mem_append.mpr (.inl (List.mem_of_mem_take hk))) h) (kok_rep b), ?_, ?_, fun z => absurd z (notP mem_last), fun N hN hnet => ?_⟩
  · rw [sumK_app, sumK_rep rfl, sumK_app, sumK_one]
    have := sumK_cut wW_pos ha
    show _ ≤ _ + max 1 ((b : Int) - (a : Int)).toNat + 3
    omega
  · rw [sumK_app, sumK_rep rfl, sumK_app, sumK_one]
    have := sumK_cut wT_pos ha
    show _ ≤ _ + (1 + (a : Int).toNat + (b : Int).toNat) + 3
    omega
  · have := hnet _ _ mem_last
    rw [List.length_append, List.length_take, List.length_replicate, List.length_append]
    show _ ≤ kb.length + 1 + N
    omega
theorem stp_dip {kc : List Kn} {k : Kn} {a b : Nat} (h : KOK (kc ++ [k] ++ [.q (a : Int) (b : Int)])) (ha : a ≤ kc.length) : Stp (kc ++ [k] ++ [.q (a : Int) (b : Int)]) (kc.take (kc.length - a) ++ List.replicate b .p ++ [k]) := by
  refine ⟨kok_app (kok_app (kok_sub (fun k hk => List.mem_append.mpr (.inl (List.mem_append.mpr (.inl (List.mem_of_mem_take hk))))) h) (kok_rep b)) (kok_sub (fun x hx => by rw [List.mem_singleton.mp hx]; exact mem_snd) h), ?_, ?_, fun z => absurd z (notP mem_last), fun N hN hnet => ?_⟩
  · rw [sumK_app, sumK_app, sumK_rep rfl, sumK_app, sumK_app, sumK_one, sumK_one]
    have := sumK_cut wW_pos ha
    show _ ≤ _ + max 1 ((b : Int) - (a : Int)).toNat + 3
    omega
  · rw [sumK_app, sumK_app, sumK_rep rfl, sumK_app, sumK_app, sumK_one, sumK_one]
    have := sumK_cut wT_pos ha
    show _ ≤ _ + (1 + (a : Int).toNat + (b : Int).toNat) + 3
    omega
  · have := hnet _ _ mem_last
    simp only [List.length_append, List.length_take, List.length_replicate]
    show _ + 1 + 1 ≤ kc.length + 1 + 1 + N
    omega
/-- the last ones are put together to one -/
theorem stp_join {kb ms : List Kn} {a b : Int} (h : KOK (kb ++ ms)) (h0 : 0 ≤ a) (h1 : 0 ≤ b) (hm : 1 ≤ ms.length) (hW : wW (.q a b) ≤ sumK wW ms + 3) (hT : wT (.q a b) ≤ sumK wT ms + 3) (hq : ¬ AllP ms) : Stp (kb ++ ms) (kb ++ [.q a b]) := by
  refine ⟨kok_app (kok_sub (fun k hk => List.mem_append.mpr (.inl hk)) h) (kok_one h0 h1), ?_, ?_, fun z => absurd (fun k hk => z k (List.mem_append.mpr (.inr hk))) hq, fun N hN _ => ?_⟩
  · rw [sumK_app, sumK_one, sumK_app]
    omega
  · rw [sumK_app, sumK_one, sumK_app]
    omega
  · rw [List.length_append, List.length_append]
    show kb.length + 1 + 1 ≤ _
    omega
theorem sum2 (f : Kn → Nat) (x y : Kn) : sumK f [x, y] = f x + f y := by
  unfold sumK
  simp
theorem stp_curry {kc : List Kn} {a b : Nat} (h : KOK (kc ++ [.p] ++ [.q (a : Int) (b : Int)])) : Stp (kc ++ [.p] ++ [.q (a : Int) (b : Int)]) (kc ++ [if 0 < (a : Int) then .q ((a : Int) - 1) b else .q 0 ((b : Int) + 1)]) := by
  rw [List.append_assoc] at h ⊢
  have hq : ¬ AllP ([.p] ++ [.q (a : Int) (b : Int)]) := notP (List.mem_append.mpr (.inr (List.mem_singleton.mpr rfl)))
  split
  · refine stp_join h (by omega) (by omega) (by simp) ?_ ?_ hq
    · show _ ≤ sumK wW [.p, .q (a : Int) (b : Int)] + 3
      rw [sum2]
      show max 1 ((b : Int) - ((a : Int) - 1)).toNat ≤ 1 + max 1 ((b : Int) - (a : Int)).toNat + 3
      omega
    · show _ ≤ sumK wT [.p, .q (a : Int) (b : Int)] + 3
      rw [sum2]
      show 1 + ((a : Int) - 1).toNat + (b : Int).toNat ≤ 1 + (1 + (a : Int).toNat + (b : Int).toNat) + 3
      omega
  · refine stp_join h (by omega) (by omega) (by simp) ?_ ?_ hq
    · show _ ≤ sumK wW [.p, .q (a : Int) (b : Int)] + 3
      rw [sum2]
      show max 1 ((b : Int) + 1 - 0).toNat ≤ 1 + max 1 ((b : Int) - (a : Int)).toNat + 3
      omega
    · show _ ≤ sumK wT [.p, .q (a : Int) (b : Int)] + 3
      rw [sum2]
      show 1 + (0 : Int).toNat + ((b : Int) + 1).toNat ≤ 1 + (1 + (a : Int).toNat + (b : Int).toNat) + 3
      omega
theorem stp_comp {kc : List Kn} {a b c d : Nat} {m : Int} (hm : m = if (a : Int) - d > 0 then (a : Int) - d else 0) (h : KOK (kc ++ [.q (c : Int) (d : Int)] ++ [.q (a : Int) (b : Int)])) : Stp (kc ++ [.q (c : Int) (d : Int)] ++ [.q (a : Int) (b : Int)]) (kc ++ [.q ((c : Int) + m) ((d : Int) + m - a + b)]) := by
  rw [List.append_assoc] at h ⊢
  have hq : ¬ AllP ([.q (c : Int) (d : Int)] ++ [.q (a : Int) (b : Int)]) := notP (List.mem_append.mpr (.inr (List.mem_singleton.mpr rfl)))
  have hm2 : (m = (a : Int) - d ∧ (a : Int) - d > 0) ∨ (m = 0 ∧ (a : Int) ≤ d) := by
    split at hm
    · exact .inl ⟨hm, by assumption⟩
    · exact .inr ⟨hm, by omega⟩
  refine stp_join h (by omega) (by omega) (by simp) ?_ ?_ hq
  · show _ ≤ sumK wW [.q (c : Int) (d : Int), .q (a : Int) (b : Int)] + 3
    rw [sum2]
    show max 1 ((d : Int) + m - a + b - ((c : Int) + m)).toNat ≤ max 1 ((d : Int) - (c : Int)).toNat + max 1 ((b : Int) - (a : Int)).toNat + 3
    omega
  · show _ ≤ sumK wT [.q (c : Int) (d : Int), .q (a : Int) (b : Int)] + 3
    rw [sum2]
    show 1 + ((c : Int) + m).toNat + ((d : Int) + m - a + b).toNat ≤ (1 + (c : Int).toNat + (d : Int).toNat) + (1 + (a : Int).toNat + (b : Int).toNat) + 3
    omega
theorem stp_choose {kd : List Kn} {x y z : Kn} (hx : x = .p) (h : KOK (kd ++ [x] ++ [y] ++ [z])) {r : Kn} (hr : r = y ∨ r = z) : Stp (kd ++ [x] ++ [y] ++ [z]) (kd ++ [r]) := by
  have e : kd ++ [x] ++ [y] ++ [z] = kd ++ [x, y, z] := by simp
  rw [e] at h ⊢
  have s3 : ∀ f : Kn → Nat, sumK f [x, y, z] = f x + (f y + f z) := fun f => by unfold sumK; simp
  refine ⟨kok_sub (fun k hk => ?_) h, ?_, ?_, fun w k hk => ?_, fun N hN _ => ?_⟩
  · rcases List.mem_append.mp hk with hk | hk
    · exact List.mem_append.mpr (.inl hk)
    · rw [List.mem_singleton.mp hk]
      refine List.mem_append.mpr (.inr ?_)
      rcases hr with rfl | rfl <;> simp
  · rw [sumK_app, sumK_app, sumK_one, s3]
    rcases hr with rfl | rfl <;> omega
  · rw [sumK_app, sumK_app, sumK_one, s3]
    rcases hr with rfl | rfl <;> omega
  · rcases List.mem_append.mp hk with hk | hk
    · exact w k (List.mem_append.mpr (.inl hk))
    · rw [List.mem_singleton.mp hk]
      refine w r (List.mem_append.mpr (.inr ?_))
      rcases hr with rfl | rfl <;> simp
  · rw [List.length_append, List.length_append]
    show kd.length + 1 + 1 ≤ kd.length + 3 + N
    omega
end SQ4
/-! max of two things that are compared by what they hold. -/
namespace SQ
open PySem PySem.W L2
section
variable {prog : Program} {w : World} {A : Around} {E : Value → Shared → Prop} {s : Shared}
theorem max_walk2 {a b : Value} {Qv : Value → Shared → Prop}
    (h : wpAny (model prog w) A.in1 (pyIter (.ref s.heap.objs.size)) (fun it t => ∃ J fps wrs Gn cnt Pz Sz Hk bst, it = .ref J ∧ WalksS prog w A.in1 J fps wrs Gn cnt Pz Sz ∧ Sz 0 t ∧ (∀ z ∈ fps, z < t.heap.objs.size) ∧ 0 < cnt ∧
      (∀ z ob, Hk.get? z = some ob → z ∉ wrs) ∧ (∀ z ob, Hk.get? z = some ob → t.heap.get? z = some ob) ∧ CmpIn prog w A.in1 .Gt Hk Pz bst ∧ ∀ v t', Pz (argBest bst (cnt - 1)) v → Moved wrs Gn t t' → Qv v t') E
      { s with heap := s.heap.push { cls := .type "tuple", data := .seq #[a, b] } }) :
    wpAny (model prog w) A (call (.builtin "max") [a, b]) Qv E s := by
  have nm : (toString "max" ++ toString ".loop" : String) = "max.loop" := by decide
  have bp : Builtin.Builtins.bindParams "max" ["key", "default"] 0 ⟨[], []⟩ = pure [none, none] := rfl
  refine call_function_tree F.kind_max F.plain_max F.entry_max (F.args_max2 a b) ?_
  refine wpAny_bind (m := Builtin.Builtins.bindParams "max" ["key", "default"] 0 ⟨[], []⟩) (wpAny_of_eq bp ?_)
  refine wpAny_bind (m := newTuple [a, b]) (wpAny_newObj_type (wpAny_bind (wpAny_mono h (fun it t ht => ?_) fun _ _ z => z)))
  obtain ⟨J, fps, wrs, Gn, cnt, Pz, Sz, Hk, bst, rfl, Wk, s0, lt, pos, hw, keep, cmp, fin⟩ := ht
  refine wpAny_bind (wpAny_newObj_type ?_)
  rw [nm]
  refine wpAny_pure ⟨plainId_quiet F.plain_max_loop _, ?_⟩
  refine codeAny_max_loop_firstH Wk Hk hw bst cmp t.heap.objs.size (fun hm => Nat.lt_irrefl _ (lt _ hm)) (fresh_in keep) _ pos ?_ ?_ (Heap.get?_push_size _ rfl) fun v t' hP mv => fin v t' hP (Moved.drop_new (tk := t.toks) mv (Nat.le_refl _))
  · exact fun z ob e => Heap.get?_push_of_some _ (keep z ob e)
  · exact Wk.frame 0 t _ t.toks s0 (Nat.le_refl _) fun z _ ob e => Heap.get?_push_of_some _ e
theorem max_two_data {a b : Value} {x y : PyData} {as : List Addr} {Qv : Value → Shared → Prop} (calm : A.handled = none) (rd : ReadsAll s.heap [a, b] [x, y] as) (al : AlikeAll [x, y]) (room : A.units + 1 + PyData.depthAll [x, y] < cLine)
    (fin : ∀ v h' tk, (v = a ∨ v = b) → (∀ z ob, s.heap.get? z = some ob → h'.get? z = some ob) → Qv v { s with heap := h', toks := tk }) :
    wpAny (model prog w) A (call (.builtin "max") [a, b]) Qv E s := by
  refine max_walk2 ?_
  have isT : (s.heap.push { cls := .type "tuple", data := .seq #[a, b] }).IsTuple s.heap.objs.size #[a, b] := ⟨_, Heap.get?_push_size _ rfl, rfl, 0, rfl⟩
  have k0 : ∀ z ob, s.heap.get? z = some ob → (s.heap.push { cls := .type "tuple", data := .seq #[a, b] }).get? z = some ob := fun z ob e => Heap.get?_push_of_some _ e
  refine iter_tupleW (A := A.in1) (s := { s with heap := s.heap.push { cls := .type "tuple", data := .seq #[a, b] } }) calm isT fun t e Wk s0 lt hw hk => ?_
  refine ⟨_, _, _, _, _, _, _, s.heap, _, rfl, Wk, s0, lt, Nat.zero_lt_succ 1, fun z ob e => hw z ob (k0 z ob e), fun z ob e => hk z ob (k0 z ob e), cmpIn_gt (A := A.in1) (vs := #[a, b]) rd al (by show A.units + 1 + _ < _; exact room), fun v t' hP mv => ?_⟩
  obtain ⟨h', tk, rfl, hk'⟩ := moved_old e rfl mv
  refine fin v h' tk ?_ fun z ob e => hk' z ob (k0 z ob e)
  generalize argBest _ _ = i at hP
  match i, hP with
  | 0, hP => exact .inl (by simpa using hP.symm)
  | 1, hP => exact .inr (by simpa using hP.symm)
  | n + 2, hP => simp at hP
end
def rMax2P (K : PySem.W.Frag) : List V → Hp → VK → Prop := fun xs H Q => ∃ (x y : V) (a b c d : Int), xs = [x, y] ∧ Dp K H x (.tuple [.int a, .int b]) ∧ Dp K H y (.tuple [.int c, .int d]) ∧ Q x H ∧ Q y H
theorem cr_max2P {X : Cx} (hc : X.calm = true) (hu : X.A.units + 64 < cLine) : CallR X (.builtin "max") (rMax2P X.K) := by
  intro pins s σ H xs us Q I r h
  obtain ⟨x, y, a, b, c, d, rfl, hx, hy, qx, qy⟩ := h
  obtain ⟨u, w', rfl, rx, ry⟩ := vals2 r
  obtain ⟨as1, r1⟩ := Dp.reads I _ _ _ hx rx
  obtain ⟨as2, r2⟩ := Dp.reads I _ _ _ hy ry
  refine max_two_data (x := .tuple [.int a, .int b]) (y := .tuple [.int c, .int d]) (I.ok.hd hc) (.cons r1 (.cons r2 .nil)) ⟨?_, ?_⟩ ?_ fun v h' tk hv k => ?_
  · intro p hp q hq
    rcases List.mem_cons.mp hp with rfl | hp
    · rcases List.mem_cons.mp hq with rfl | hq
      · simp [alike, alikeAll]
      · rw [List.mem_singleton.mp hq]
        simp [alike, alikeAll]
    · rw [List.mem_singleton.mp hp]
      rcases List.mem_cons.mp hq with rfl | hq
      · simp [alike, alikeAll]
      · rw [List.mem_singleton.mp hq]
        simp [alike, alikeAll]
  · intro p hp
    rcases List.mem_cons.mp hp with rfl | hp
    · exact fun z => nomatch z
    · rw [List.mem_singleton.mp hp]
      exact fun z => nomatch z
  · have : PyData.depthAll [.tuple [.int a, .int b], .tuple [.int c, .int d]] = 1 := by simp [PyData.depthAll, PyData.depth]
    rw [this]
    omega
  · rcases hv with rfl | rfl
    · exact ⟨x, H, I.kept k, rx, qx⟩
    · exact ⟨y, H, I.kept k, ry, qy⟩
end SQ
namespace SQ4
open PySem L2 SQ
abbrev sBh : Stmt := top 70
/-! ### _law_behind -/
def Core4 (ks : List Kn) (x : Str) : Prop := (x = "choose" ∧ 2 < plains ks) ∨
  ∃ (kb : List Kn) (a b : Int), ks = kb ++ [.q a b] ∧ ((x = "call" ∧ a ≤ ((plains kb : Nat) : Int)) ∨ ∃ (kc : List Kn) (k : Kn), kb = kc ++ [k] ∧ ((x = "dip" ∧ a ≤ ((plains kc : Nat) : Int)) ∨ (x = "curry" ∧ k = .p) ∨ (x = "compose" ∧ ∃ c d : Int, k = .q c d) ∨ (x = "choose" ∧ ∃ (c d : Int) (kd : List Kn), k = .q c d ∧ kc = kd ++ [.p] ∧ a - b = c - d)))
theorem plains3 {ks : List Kn} (h : 2 < plains ks) : ∃ kd, ks = kd ++ [.p] ++ [.p] ++ [.p] := by
  unfold plains at h
  generalize hr : ks.reverse = l at h
  match l, hr, h with
  | [], _, h => exact absurd h (by simp)
  | [x], _, h =>
    rw [List.takeWhile_cons] at h
    split at h <;> simp at h
  | [x, y], _, h =>
    have := (List.takeWhile_sublist isP (l := [x, y])).length_le
    have e : [x, y].length = 2 := rfl
    omega
  | x :: y :: z :: l, hr, h =>
    have hx : isP x = true := by
      rw [List.takeWhile_cons] at h
      split at h
      · assumption
      · simp at h
    rw [List.takeWhile_cons, hx] at h
    have hy : isP y = true := by
      cases h' : isP y with
      | true => rfl
      | false =>
        rw [List.takeWhile_cons, h'] at h
        simp at h
    rw [List.takeWhile_cons, hy] at h
    have hz : isP z = true := by
      cases h' : isP z with
      | true => rfl
      | false =>
        rw [List.takeWhile_cons, h'] at h
        simp at h
    have p1 : ∀ {k : Kn}, isP k = true → k = .p := fun {k} h => by
      cases k with
      | p => rfl
      | q a b => cases h
    rw [p1 hx, p1 hy, p1 hz] at hr
    refine ⟨l.reverse, ?_⟩
    rw [← List.reverse_reverse ks, hr]
    simp
theorem flat_p (m : Nat) : (List.replicate m [V.str "p"]).flatten = List.replicate m (V.str "p") := by
  induction m with
  | zero => rfl
  | succ m ih =>
    rw [List.replicate_succ, List.flatten_cons, ih, List.replicate_succ]
    rfl
theorem kns_rep {H : Hp} : ∀ m : Nat, Kns H (List.replicate m (V.str "p")) (List.replicate m .p)
  | 0 => .nil
  | m + 1 => .cons rfl (kns_rep m)
theorem kn1 {H : Hp} {v : V} {k : Kn} (h : KnAt H v k) : Kns H [v] [k] := .cons h .nil
theorem kn1p {H : Hp} : Kns H [.str "p"] [.p] := .cons rfl .nil
theorem kn1q {H : Hp} {t : Addr} {a b : Int} (h : H t = some (.tup [.int a, .int b])) : Kns H [.ref t] [.q a b] := .cons ⟨t, rfl, h⟩ .nil
theorem ifS {x y : Str} {A B : Prop} (h : ¬ x = y) (b : B) : if decide (V.str x = V.str y) = true then A else B := by
  rw [decide_eq_false fun z => h (V.str.inj z)]
  exact iteF b
theorem ifY {x : Str} {A B : Prop} (a : A) : if decide (V.str x = V.str x) = true then A else B := by
  rw [decide_eq_true rfl]
  exact iteT a
section
variable {P : Program} {w : World} {K : PySem.W.Frag} {mg : Str → Option Value} {base : Heap}
def spBh : Sp := fun vs H Q _ => ∃ (x : Str) (k : Addr) (ws : List V) (ks : List Kn), vs = [.str x, .ref k] ∧ H k = some (.lst ws) ∧ Kns H ws ks ∧ KOK ks ∧ sumK wT ks ≤ 900 ∧ Core4 ks x ∧
  ∀ (k' : Addr) (ws' : List V) (ks' : List Kn) (H' : Hp), Same H H' → H k' = none → H' k' = some (.lst ws') → Kns H' ws' ks' → Stp ks ks' → Q (.ref k') H'
abbrev nBh : List Str := ["_law_word_here", "_law_kinds", "_law_below", "_law_last", "_law_kept", "_law_first", "_law_missing"]
theorem scBh : FnScope nBh ["_law_word_here", "_law_kinds"] (defScope sBh) := ⟨rfl, rfl, rfl, by decide +kernel, rfl, by decide +kernel, by decide +kernel⟩
theorem core_snoc {ks : List Kn} {x : Str} (h : Core4 ks x) : ∃ kb k, ks = kb ++ [k] := by
  rcases h with ⟨_, h⟩ | ⟨kb, a, b, rfl, _⟩
  · obtain ⟨kd, rfl⟩ := plains3 h
    exact ⟨_, _, rfl⟩
  · exact ⟨_, _, rfl⟩
theorem cat_p {H G : Hp} {p : Addr} {wt : List V} {kt : List Kn} {b : Nat} {Q : VK} (s : Same H G) (hp : G p = some (.lst wt)) (hK : Kns H wt kt) (hb : b ≤ 900) (hl : wt.length ≤ 1000)
    (q : ∀ k' G' ws', Same G G' → G k' = none → G' k' = some (.lst ws') → Kns G' ws' (kt ++ List.replicate b .p) → ws'.length ≤ 2000 → Q (.ref k') G') {p2 : Addr} (h2 : G p2 = some (.lst [.str "p"])) :
    rRep (.ref p2) (.int b) G fun v H1 => rCat (.ref p) v H1 Q := by
  refine ⟨p2, b, _, rfl, rfl, h2, by omega, by omega, Nat.le_trans (by show 1 * b ≤ 900; omega : _ ≤ 900) (by decide), ?_⟩
  rw [Int.toNat_natCast, flat_p]
  intro p4 n4
  generalize hG_ : upd G p4 _ = G4
  have s4 : Same G G4 := (by rw [← hG_]; exact same_new (fun _ _ e => e) n4)
  have h4 := (congrFun hG_ p4).symm.trans upd_same
  clear hG_
  refine ⟨p, p4, _, _, rfl, rfl, s4 _ _ hp, h4, Nat.le_trans (by rw [List.length_replicate]; omega : _ ≤ 1900) (by decide), ?_⟩
  intro p5 n5
  generalize hG_ : upd G4 p5 _ = G5
  have s5 : Same G4 G5 := (by rw [← hG_]; exact same_new (fun _ _ e => e) n5)
  have h5 := (congrFun hG_ p5).symm.trans upd_same
  clear hG_
  refine q p5 G5 _ (st s4 s5) (s4.free n5) h5 (Kns.app ((hK.same s).same (st s4 s5)) (kns_rep b)) ?_
  rw [List.length_append, List.length_replicate]
  omega
theorem ok_bh {f : Addr} {fd : FuncData} (F : Fun K "_law_behind" "_law_behind" sBh f fd) (BL : Blt mg) : FnOk P w K mg base CX0 1 f fd ["_law_word_here", "_law_kinds"] spBh := by
  refine F.ok scBh (fun vs H Q E h => ?_) (fun cdv A outer s H vs Q E hr h => ?_)
  · obtain ⟨x, k, ws, ks, rfl, _⟩ := h
    rfl
  · obtain ⟨x, k, ws, ks, rfl, hk, hK, hO, hT, hC, q⟩ := h
    refine ⟨_, pss_cons (ps_par (i := 2) (j := 3) (by rfl) scBh.nd rfl rfl (by decide) rfl rfl (pa_cons (pe_slice sl_list (pv 1) po_none (po_some (pe_un un_neg pe_int))) (pa_cons (pe_ix ix_list (pv 1) (pe_un un_neg pe_int) (fun _ _ => rfl)) pa_nil)) (by rfl))
      (pss_cons (ps_if (pt_cmpR op_eq (pv 0) pe_str (nomark _)) (pss_one (ps_ret (pe_op op_cat (pe_slice sl_list (pv 2) po_none (po_some (pe_op op_sub (pe_callB call_len_seq (by rfl) BL.len PySem.boot_len (pa_cons (pv 2) pa_nil)) (pe_ix ix_tup (pv 3) pe_int (fun _ _ => rfl))))) (pe_op op_rep (pe_lst (pa_cons pe_str pa_nil)) (pe_ix ix_tup (pv 3) pe_int (fun _ _ => rfl)))))) pss_nil)
      (pss_cons (ps_if (pt_cmpR op_eq (pv 0) pe_str (nomark _)) (pss_cons (ps_par (i := 4) (j := 2) (by rfl) scBh.nd rfl rfl (by decide) rfl rfl (pa_cons (pe_ix ix_list (pv 2) (pe_un un_neg pe_int) (fun _ _ => rfl)) (pa_cons (pe_slice sl_list (pv 2) po_none (po_some (pe_un un_neg pe_int))) pa_nil)) (by rfl))
          (pss_one (ps_ret (pe_op op_cat (pe_op op_cat (pe_slice sl_list (pv 2) po_none (po_some (pe_op op_sub (pe_callB call_len_seq (by rfl) BL.len PySem.boot_len (pa_cons (pv 2) pa_nil)) (pe_ix ix_tup (pv 3) pe_int (fun _ _ => rfl))))) (pe_op op_rep (pe_lst (pa_cons pe_str pa_nil)) (pe_ix ix_tup (pv 3) pe_int (fun _ _ => rfl)))) (pe_lst (pa_cons (pv 4) pa_nil)))))) pss_nil)
      (pss_cons (ps_if (pt_cmpR op_eq (pv 0) pe_str (nomark _)) (pss_one (ps_ret (pe_op op_cat (pe_slice sl_list (pv 2) po_none (po_some (pe_un un_neg pe_int))) (pe_lst (pa_cons (pe_ifExp (pt_cmpR op_gt (pe_ix ix_tup (pv 3) pe_int (fun _ _ => rfl)) pe_int (nomark _)) (pe_tup (pa_cons (pe_op op_sub (pe_ix ix_tup (pv 3) pe_int (fun _ _ => rfl)) pe_int) (pa_cons (pe_ix ix_tup (pv 3) pe_int (fun _ _ => rfl)) pa_nil))) (pe_tup (pa_cons pe_int (pa_cons (pe_op op_add (pe_ix ix_tup (pv 3) pe_int (fun _ _ => rfl)) pe_int) pa_nil)))) pa_nil))))) pss_nil)
      (pss_cons (ps_if (pt_cmpR op_eq (pv 0) pe_str (nomark _)) (pss_one (ps_ret (pe_op op_cat (pe_slice sl_list (pv 2) po_none (po_some (pe_un un_neg pe_int))) (pe_lst (pa_cons (pe_ifExp (pt_cmpR (op_neD hr.units) (pv 3) pe_str (nomark _)) (pe_callB (cr_max2P rfl hr.units) (by rfl) BL.max (by decide +kernel) (pa_cons (pv 3) (pa_cons (pe_ix ix_list (pv 2) (pe_un un_neg pe_int) (fun _ _ => rfl)) pa_nil))) pe_str) pa_nil))))) pss_nil)
      (pss_cons (ps_set (i := 5) scBh.nd rfl (.inl rfl) (pe_ix ix_list (pv 2) (pe_un un_neg pe_int) (fun _ _ => rfl)))
      (pss_cons (ps_set (i := 6) scBh.nd rfl (.inl rfl) (pe_callB (call_max2 rfl) (by rfl) BL.max (by decide +kernel) (pa_cons pe_int (pa_cons (pe_op op_sub (pe_ix ix_tup (pv 3) pe_int (fun _ _ => rfl)) (pe_ix ix_tup (pv 5) pe_int (fun _ _ => rfl))) pa_nil))))
      (pss_one (ps_ret (pe_op op_cat (pe_slice sl_list (pv 2) po_none (po_some (pe_un un_neg pe_int))) (pe_lst (pa_cons (pe_tup (pa_cons (pe_op op_add (pe_ix ix_tup (pv 5) pe_int (fun _ _ => rfl)) (pv 6)) (pa_cons (pe_op op_add (pe_op op_sub (pe_op op_add (pe_ix ix_tup (pv 5) pe_int (fun _ _ => rfl)) (pv 6)) (pe_ix ix_tup (pv 3) pe_int (fun _ _ => rfl))) (pe_ix ix_tup (pv 3) pe_int (fun _ _ => rfl))) pa_nil))) pa_nil))))))))))), ?_⟩
    obtain ⟨kb, k1, rfl⟩ := core_snoc hC
    obtain ⟨wb, x1, rfl, hKb, hx1⟩ := kns_snoc hK
    have hwl : wb.length ≤ 900 := by
      have := sumK_len wT_pos (kb ++ [k1])
      rw [List.length_append] at this
      rw [hKb.len]
      have e : [k1].length = 1 := rfl
      omega
    refine seq_mid (fun σ G => ∃ b, σ = [some (.str x), some (.ref k), some (.ref b), some x1, none, none, none] ∧ Same H G ∧ H b = none ∧ G b = some (.lst wb)) (fun N hN => ?_) ?_
    · refine ⟨_, rfl, _, rfl, _, rfl, k, _, rfl, SqL.of hk, ?_⟩
      rw [cut_m1]
      intro b n1
      generalize hG_ : upd H b _ = G1
      have s1 : Same H G1 := (by rw [← hG_]; exact same_new (fun _ _ e => e) n1)
      have h1 := (congrFun hG_ b).symm.trans upd_same
      clear hG_
      exact ⟨_, rfl, _, rfl, k, _, _, _, rfl, rfl, SqL.of (s1 _ _ hk), atI_last wb x1, _, _, rfl, hN _ _ ⟨b, rfl, s1, n1, h1⟩⟩
    rintro _ G ⟨b, rfl, sG, nb, hb⟩
    have hKG := hKb.same sG
    -- the last, a quotation
    rcases hC with ⟨rfl, h2⟩ | ⟨kb', a1, b1, e0, hC⟩
    · -- choose among plain values
      obtain ⟨kd, e3⟩ := plains3 h2
      obtain ⟨e4, e5⟩ := List.append_inj' e3 rfl
      cases e5
      subst e4
      have ev : x1 = .str "p" := hx1
      subst ev
      obtain ⟨wc, x2, rfl, hKc, hx2⟩ := kns_snoc hKG
      obtain ⟨wd, x3, rfl, hKd, hx3⟩ := kns_snoc hKc
      refine ⟨_, rfl, rfl, _, rfl, ifS (by decide +kernel) ?_⟩
      refine ⟨_, rfl, rfl, _, rfl, ifS (by decide +kernel) ?_⟩
      refine ⟨_, rfl, rfl, _, rfl, ifS (by decide +kernel) ?_⟩
      refine ⟨_, rfl, rfl, _, rfl, ifY ?_⟩
      refine ⟨_, rfl, _, rfl, _, rfl, b, _, rfl, SqL.of hb, ?_⟩
      rw [cut_m2]
      intro p1 n1
      generalize hG_ : upd G p1 _ = G1
      have s1 : Same G G1 := (by rw [← hG_]; exact same_new (fun _ _ e => e) n1)
      have h1 := (congrFun hG_ p1).symm.trans upd_same
      clear hG_
      refine ⟨_, rfl, _, _, .str "p", .str "p", sh_kn .p, sh_kn .p, _, rfl, ?_⟩
      rw [show (!PyData.eqv (.str "p") (.str "p")) = false from kn_ne .p]
      refine iteF ⟨(by show 1 ≤ sizeLine; decide), ?_⟩
      intro p2 n2
      generalize hG_ : upd G1 p2 _ = G2
      have s2 : Same G1 G2 := (by rw [← hG_]; exact same_new (fun _ _ e => e) n2)
      have h2' := (congrFun hG_ p2).symm.trans upd_same
      clear hG_
      refine ⟨p1, p2, _, _, rfl, rfl, s2 _ _ h1, h2', Nat.le_trans (by simp at hwl ⊢; omega : _ ≤ 1000) (by decide), ?_⟩
      intro p3 n3
      generalize hG_ : upd G2 p3 _ = G3'
      have s3 : Same G2 G3' := (by rw [← hG_]; exact same_new (fun _ _ e => e) n3)
      have h3 := (congrFun hG_ p3).symm.trans upd_same
      clear hG_
      exact q p3 _ (kd ++ [.p]) G3' (st sG (st s1 (st s2 s3))) ((st sG (st s1 s2)).free n3) h3 (Kns.app (hKd.same (st s1 (st s2 s3))) kn1p) (stp_choose rfl hO (.inl rfl))
    obtain ⟨e4, e5⟩ := List.append_inj' e0 rfl
    cases e5
    subst e4
    obtain ⟨t1, rfl, ht1⟩ := hx1
    have hO1 := hO a1 b1 mem_last
    obtain ⟨a, rfl⟩ : ∃ a : Nat, a1 = a := ⟨a1.toNat, by omega⟩
    obtain ⟨c, rfl⟩ : ∃ c : Nat, b1 = c := ⟨b1.toNat, by omega⟩
    have hTc : a ≤ 900 ∧ c ≤ 900 := by
      rw [sumK_app, sumK_one] at hT
      have hT' : _ + (1 + (a : Int).toNat + (c : Int).toNat) ≤ 900 := hT
      omega
    have htG := sG _ _ ht1
    rcases hC with ⟨rfl, hle⟩ | ⟨kc, k2, rfl, hC⟩
    · -- call
      have hal : a ≤ wb.length := by
        have := plains_le kb
        rw [hKb.len]
        omega
      refine ⟨_, rfl, rfl, _, rfl, ifY ?_⟩
      refine ⟨_, rfl, _, rfl, b, _, rfl, .inl (SqL.of hb), _, rfl, t1, _, 0, _, rfl, rfl, SqT.of htG, rfl, _, _, rfl, rfl, _, rfl, b, _, rfl, SqL.of hb, ?_⟩
      rw [cut_upto hal]
      intro p1 n1
      generalize hG_ : upd G p1 _ = G1
      have s1 : Same G G1 := (by rw [← hG_]; exact same_new (fun _ _ e => e) n1)
      have h1 := (congrFun hG_ p1).symm.trans upd_same
      clear hG_
      refine ⟨(by show 1 ≤ sizeLine; decide), ?_⟩
      intro p2 n2
      generalize hG_ : upd G1 p2 _ = G2
      have s2 : Same G1 G2 := (by rw [← hG_]; exact same_new (fun _ _ e => e) n2)
      have h2 := (congrFun hG_ p2).symm.trans upd_same
      clear hG_
      refine ⟨_, rfl, t1, _, 1, _, rfl, rfl, SqT.of (st s1 s2 _ _ htG), rfl, ?_⟩
      refine cat_p (H := H) (kt := kb.take (kb.length - a)) (st sG (st s1 s2)) (s2 _ _ h1) (by rw [← hKb.len]; exact kns_take _ hKb) hTc.2 (by rw [List.length_take]; omega) (fun k' G' ws' s' n' h' hK' _ => ?_) h2
      exact q k' ws' _ G' (st sG (st s1 (st s2 s'))) ((st sG (st s1 s2)).free n') h' hK' (stp_call hO (by rw [← hKb.len]; exact hal))
    obtain ⟨wc, x2, rfl, hKc, hx2⟩ := kns_snoc hKG
    have hKc0 : Kns H wc kc := by
      obtain ⟨wc', x2', e6, h6, _⟩ := kns_snoc hKb
      obtain ⟨e7, _⟩ := List.append_inj' e6 rfl
      rw [e7]
      exact h6
    have hwl2 : wc.length ≤ 899 := by
      simp at hwl
      omega
    rcases hC with ⟨rfl, hle⟩ | ⟨rfl, rfl⟩ | ⟨rfl, c1, d1, rfl⟩ | ⟨rfl, c1, d1, kd, rfl, rfl, he⟩
    · -- dip
      have hal : a ≤ wc.length := by
        have := plains_le kc
        rw [hKc.len]
        omega
      refine ⟨_, rfl, rfl, _, rfl, ifS (by decide +kernel) ?_⟩
      refine ⟨_, rfl, rfl, _, rfl, ifY ?_⟩
      refine ⟨_, rfl, _, rfl, b, _, _, _, rfl, rfl, SqL.of hb, atI_last _ _, _, rfl, _, rfl, _, rfl, b, _, rfl, SqL.of hb, ?_⟩
      rw [cut_m1]
      intro p0 n0
      generalize hG_ : upd G p0 _ = G0
      have s0 : Same G G0 := (by rw [← hG_]; exact same_new (fun _ _ e => e) n0)
      have h0 := (congrFun hG_ p0).symm.trans upd_same
      clear hG_
      refine ⟨_, _, rfl, ?_⟩
      refine ⟨_, rfl, _, rfl, p0, _, rfl, .inl (SqL.of h0), _, rfl, t1, _, 0, _, rfl, rfl, SqT.of (s0 _ _ htG), rfl, _, _, rfl, rfl, _, rfl, p0, _, rfl, SqL.of h0, ?_⟩
      rw [cut_upto hal]
      intro p1 n1
      generalize hG_ : upd G0 p1 _ = G1
      have s1 : Same G0 G1 := (by rw [← hG_]; exact same_new (fun _ _ e => e) n1)
      have h1 := (congrFun hG_ p1).symm.trans upd_same
      clear hG_
      refine ⟨(by show 1 ≤ sizeLine; decide), ?_⟩
      intro p2 n2
      generalize hG_ : upd G1 p2 _ = G2
      have s2 : Same G1 G2 := (by rw [← hG_]; exact same_new (fun _ _ e => e) n2)
      have h2 := (congrFun hG_ p2).symm.trans upd_same
      clear hG_
      refine ⟨_, rfl, t1, _, 1, _, rfl, rfl, SqT.of (st s0 (st s1 s2) _ _ htG), rfl, ?_⟩
      have z2 : Same H G2 := st sG (st s0 (st s1 s2))
      refine cat_p (H := H) (kt := kc.take (kc.length - a)) z2 (s2 _ _ h1) (by rw [← hKc.len]; exact kns_take _ hKc0) hTc.2 (by rw [List.length_take]; omega) (fun k' G' ws' s' n' h' hK' hl' => ?_) h2
      refine ⟨_, rfl, (by show 1 ≤ sizeLine; decide), ?_⟩
      intro p5 n5
      generalize hG_ : upd G' p5 _ = G5
      have s5 : Same G' G5 := (by rw [← hG_]; exact same_new (fun _ _ e => e) n5)
      have h5 := (congrFun hG_ p5).symm.trans upd_same
      clear hG_
      refine ⟨k', p5, _, _, rfl, rfl, s5 _ _ h', h5, Nat.le_trans (by show ws'.length + 1 ≤ 2001; omega : _ ≤ 2001) (by decide), ?_⟩
      intro p6 n6
      generalize hG_ : upd G5 p6 _ = G6
      have s6 : Same G5 G6 := (by rw [← hG_]; exact same_new (fun _ _ e => e) n6)
      have h6 := (congrFun hG_ p6).symm.trans upd_same
      clear hG_
      have z6 : Same G G6 := st s0 (st s1 (st s2 (st s' (st s5 s6))))
      exact q p6 _ _ G6 (st sG z6) ((st z2 (st s' s5)).free n6) h6 (Kns.app (hK'.same (st s5 s6)) (kn1 (hx2.same z6))) (stp_dip hO (by rw [← hKc.len]; exact hal))
    · -- curry
      refine ⟨_, rfl, rfl, _, rfl, ifS (by decide +kernel) ?_⟩
      refine ⟨_, rfl, rfl, _, rfl, ifS (by decide +kernel) ?_⟩
      refine ⟨_, rfl, rfl, _, rfl, ifY ?_⟩
      refine ⟨_, rfl, _, rfl, _, rfl, b, _, rfl, SqL.of hb, ?_⟩
      rw [cut_m1]
      intro p1 n1
      generalize hG_ : upd G p1 _ = G1
      have s1 : Same G G1 := (by rw [← hG_]; exact same_new (fun _ _ e => e) n1)
      have h1 := (congrFun hG_ p1).symm.trans upd_same
      clear hG_
      refine ⟨_, rfl, t1, _, 0, _, rfl, rfl, SqT.of (s1 _ _ htG), rfl, _, _, rfl, rfl, _, rfl, ?_⟩
      have fin : ∀ (e f : Int) (G2 : Hp) (t : Addr), Same G1 G2 → G2 t = some (.tup [.int e, .int f]) → Stp (kc ++ [.p] ++ [.q (a : Int) (c : Int)]) (kc ++ [.q e f]) → ∀ p2, G2 p2 = none → rCat (.ref p1) (.ref p2) (upd G2 p2 (.lst [.ref t])) Q := by
        intro e f G2 t s2 ht hS
        intro p3 n3
        generalize hG_ : upd G2 p3 _ = G3'
        have s3 : Same G2 G3' := (by rw [← hG_]; exact same_new (fun _ _ e => e) n3)
        have h3 := (congrFun hG_ p3).symm.trans upd_same
        clear hG_
        refine ⟨p1, p3, _, _, rfl, rfl, st s2 s3 _ _ h1, h3, Nat.le_trans (by show wc.length + 1 ≤ 1000; omega : _ ≤ 1000) (by decide), ?_⟩
        intro p4 n4
        generalize hG_ : upd G3' p4 _ = G4
        have s4 : Same G3' G4 := (by rw [← hG_]; exact same_new (fun _ _ e => e) n4)
        have h4 := (congrFun hG_ p4).symm.trans upd_same
        clear hG_
        exact q p4 _ _ G4 (st sG (st s1 (st s2 (st s3 s4)))) ((st sG (st s1 (st s2 s3))).free n4) h4 (Kns.app (hKc0.same (st sG (st s1 (st s2 (st s3 s4))))) (kn1q (st s3 s4 _ _ ht))) hS
      have hS := stp_curry hO
      refine ite2 (fun h0 => ?_) (fun h0 => ?_)
      · rw [if_pos (of_decide_eq_true h0)] at hS
        refine ⟨_, rfl, t1, _, 0, _, rfl, rfl, SqT.of (s1 _ _ htG), rfl, _, _, rfl, rfl, _, rfl, t1, _, 1, _, rfl, rfl, SqT.of (s1 _ _ htG), rfl, (by show 2 ≤ sizeLine; decide), ?_⟩
        intro p2 n2
        generalize hG_ : upd G1 p2 _ = G2
        have s2 : Same G1 G2 := (by rw [← hG_]; exact same_new (fun _ _ e => e) n2)
        have h2 := (congrFun hG_ p2).symm.trans upd_same
        clear hG_
        exact ⟨(by show 1 ≤ sizeLine; decide), fin _ _ G2 p2 s2 h2 hS⟩
      · rw [if_neg (fun z => h0 (decide_eq_true z))] at hS
        refine ⟨_, rfl, t1, _, 1, _, rfl, rfl, SqT.of (s1 _ _ htG), rfl, _, _, rfl, rfl, (by show 2 ≤ sizeLine; decide), ?_⟩
        intro p2 n2
        generalize hG_ : upd G1 p2 _ = G2
        have s2 : Same G1 G2 := (by rw [← hG_]; exact same_new (fun _ _ e => e) n2)
        have h2 := (congrFun hG_ p2).symm.trans upd_same
        clear hG_
        exact ⟨(by show 1 ≤ sizeLine; decide), fin _ _ G2 p2 s2 h2 hS⟩
    · -- compose
      have hO2 := hO c1 d1 mem_snd
      obtain ⟨c', rfl⟩ : ∃ c' : Nat, c1 = c' := ⟨c1.toNat, by omega⟩
      obtain ⟨d', rfl⟩ : ∃ d' : Nat, d1 = d' := ⟨d1.toNat, by omega⟩
      obtain ⟨t2, rfl, ht2⟩ := hx2
      refine ⟨_, rfl, rfl, _, rfl, ifS (by decide +kernel) ?_⟩
      refine ⟨_, rfl, rfl, _, rfl, ifS (by decide +kernel) ?_⟩
      refine ⟨_, rfl, rfl, _, rfl, ifS (by decide +kernel) ?_⟩
      refine ⟨_, rfl, rfl, _, rfl, ifS (by decide +kernel) ?_⟩
      refine ⟨_, rfl, _, rfl, b, _, _, _, rfl, rfl, SqL.of hb, atI_last _ _, ?_⟩
      refine ⟨_, rfl, t1, _, 0, _, rfl, rfl, SqT.of htG, rfl, _, rfl, t2, _, 1, _, rfl, rfl, SqT.of ht2, rfl, _, _, rfl, rfl, _, _, rfl, ?_⟩
      generalize hm : (if (a : Int) - (d' : Int) > 0 then (a : Int) - (d' : Int) else 0) = m
      refine ⟨_, rfl, _, rfl, _, rfl, b, _, rfl, SqL.of hb, ?_⟩
      rw [cut_m1]
      intro p1 n1
      generalize hG_ : upd G p1 _ = G1
      have s1 : Same G G1 := (by rw [← hG_]; exact same_new (fun _ _ e => e) n1)
      have h1 := (congrFun hG_ p1).symm.trans upd_same
      clear hG_
      refine ⟨_, rfl, t2, _, 0, _, rfl, rfl, SqT.of (s1 _ _ ht2), rfl, _, rfl, _, _, rfl, rfl, _, rfl, t2, _, 1, _, rfl, rfl, SqT.of (s1 _ _ ht2), rfl, _, rfl, _, _, rfl, rfl, _, rfl, t1, _, 0, _, rfl, rfl, SqT.of (s1 _ _ htG), rfl, _, _, rfl, rfl, _, rfl, t1, _, 1, _, rfl, rfl, SqT.of (s1 _ _ htG), rfl, _, _, rfl, rfl, (by show 2 ≤ sizeLine; decide), ?_⟩
      intro p2 n2
      generalize hG_ : upd G1 p2 _ = G2
      have s2 : Same G1 G2 := (by rw [← hG_]; exact same_new (fun _ _ e => e) n2)
      have h2 := (congrFun hG_ p2).symm.trans upd_same
      clear hG_
      refine ⟨(by show 1 ≤ sizeLine; decide), ?_⟩
      intro p3 n3
      generalize hG_ : upd G2 p3 _ = G3'
      have s3 : Same G2 G3' := (by rw [← hG_]; exact same_new (fun _ _ e => e) n3)
      have h3 := (congrFun hG_ p3).symm.trans upd_same
      clear hG_
      refine ⟨p1, p3, _, _, rfl, rfl, st s2 s3 _ _ h1, h3, Nat.le_trans (by show wc.length + 1 ≤ 1000; omega : _ ≤ 1000) (by decide), ?_⟩
      intro p4 n4
      generalize hG_ : upd G3' p4 _ = G4
      have s4 : Same G3' G4 := (by rw [← hG_]; exact same_new (fun _ _ e => e) n4)
      have h4 := (congrFun hG_ p4).symm.trans upd_same
      clear hG_
      exact q p4 _ _ G4 (st sG (st s1 (st s2 (st s3 s4)))) ((st sG (st s1 (st s2 s3))).free n4) h4 (Kns.app (hKc0.same (st sG (st s1 (st s2 (st s3 s4))))) (kn1q (st s3 s4 _ _ h2))) (stp_comp hm.symm hO)
    · -- choose among quotations
      obtain ⟨t2, rfl, ht2⟩ := hx2
      obtain ⟨wd, x3, rfl, hKd, hx3⟩ := kns_snoc hKc
      refine ⟨_, rfl, rfl, _, rfl, ifS (by decide +kernel) ?_⟩
      refine ⟨_, rfl, rfl, _, rfl, ifS (by decide +kernel) ?_⟩
      refine ⟨_, rfl, rfl, _, rfl, ifS (by decide +kernel) ?_⟩
      refine ⟨_, rfl, rfl, _, rfl, ifY ?_⟩
      refine ⟨_, rfl, _, rfl, _, rfl, b, _, rfl, SqL.of hb, ?_⟩
      rw [cut_m2]
      intro p1 n1
      generalize hG_ : upd G p1 _ = G1
      have s1 : Same G G1 := (by rw [← hG_]; exact same_new (fun _ _ e => e) n1)
      have h1 := (congrFun hG_ p1).symm.trans upd_same
      clear hG_
      have k1 : KnAt G1 (.ref t1) (.q (a : Int) (c : Int)) := ⟨t1, rfl, s1 _ _ htG⟩
      have k2 : KnAt G1 (.ref t2) (.q c1 d1) := ⟨t2, rfl, s1 _ _ ht2⟩
      refine ⟨_, rfl, _, _, dp_kn k1, .str "p", sh_kn _, sh_kn .p, _, rfl, ?_⟩
      rw [kn_ne]
      refine iteT ?_
      have fin : ∀ (v : V) (kr : Kn), KnAt G1 v kr → (kr = .q c1 d1 ∨ kr = .q (a : Int) (c : Int)) → tLst (fun _ H2 Q2 => Q2 [v] H2) [] G1 fun v2 H1 => rCat (.ref p1) v2 H1 Q := by
        intro v kr hv hkr
        refine ⟨(by show 1 ≤ sizeLine; decide), ?_⟩
        intro p2 n2
        generalize hG_ : upd G1 p2 _ = G2
        have s2 : Same G1 G2 := (by rw [← hG_]; exact same_new (fun _ _ e => e) n2)
        have h2 := (congrFun hG_ p2).symm.trans upd_same
        clear hG_
        refine ⟨p1, p2, _, _, rfl, rfl, s2 _ _ h1, h2, Nat.le_trans (by simp at hwl2 ⊢; omega : _ ≤ 1000) (by decide), ?_⟩
        intro p3 n3
        generalize hG_ : upd G2 p3 _ = G3'
        have s3 : Same G2 G3' := (by rw [← hG_]; exact same_new (fun _ _ e => e) n3)
        have h3 := (congrFun hG_ p3).symm.trans upd_same
        clear hG_
        exact q p3 _ (kd ++ [kr]) G3' (st sG (st s1 (st s2 s3))) ((st sG (st s1 s2)).free n3) h3 (Kns.app (hKd.same (st s1 (st s2 s3))) (kn1 (hv.same (st s2 s3)))) (stp_choose rfl hO hkr)
      refine ⟨_, rfl, _, rfl, _, rfl, b, _, _, _, rfl, rfl, SqL.of (s1 _ _ hb), atI_last _ _, _, _, _, _, _, _, rfl, dp_kn k1, dp_kn k2, ?_, ?_⟩
      · exact fin _ _ k1 (.inr rfl)
      · exact fin _ _ k2 (.inl rfl)
end
end SQ4
namespace SQ4
open PySem L2 SQ
/-! ### the literals of the law are words -/
theorem dig10 : ∀ n, n < 10 → (48 ≤ (Nat.digitChar n).toNat ∧ (Nat.digitChar n).toNat ≤ 57) ∧ (0 < n → 49 ≤ (Nat.digitChar n).toNat) := by decide
theorem digs : ∀ (k n : Nat), n < 10 ^ (k + 1) → ((Nat.toDigits 10 n).map Char.toNat).length ≤ k + 1 ∧ (∀ c ∈ (Nat.toDigits 10 n).map Char.toNat, 48 ≤ c ∧ c ≤ 57) ∧ (∃ c r, (Nat.toDigits 10 n).map Char.toNat = c :: r ∧ (0 < n → 49 ≤ c))
  | k, n, h => by
    by_cases h10 : n < 10
    · rw [Nat.toDigits_of_lt_base h10]
      have d := dig10 n h10
      refine ⟨by simp, fun c hc => ?_, _, [], rfl, d.2⟩
      rw [List.map_cons, List.map_nil] at hc
      rw [List.mem_singleton.mp hc]
      exact d.1
    · match k with
      | 0 => exact absurd h (by omega)
      | k + 1 =>
        have h' : n / 10 < 10 ^ (k + 1) := by
          rw [Nat.pow_succ] at h
          omega
        obtain ⟨i1, i2, c, r, i3, i4⟩ := digs k (n / 10) h'
        rw [Nat.toDigits_of_base_le (by decide) (by omega), List.map_append]
        have d := dig10 (n % 10) (by omega)
        refine ⟨?_, fun x hx => ?_, c, r ++ [(Nat.digitChar (n % 10)).toNat], ?_, fun _ => i4 (by omega)⟩
        · rw [List.length_append]
          show _ + 1 ≤ _
          omega
        · rcases List.mem_append.mp hx with hx | hx
          · exact i2 x hx
          · rw [List.map_cons, List.map_nil] at hx
            rw [List.mem_singleton.mp hx]
            exact d.1
        · rw [i3]
          rfl
theorem starts_one {x y : Str} {c : Nat} (hy : y.cps.toList = [c]) (h : Txt.startswith x y = true) : ∃ cs, x.cps.toList = c :: cs := by
  unfold Txt.startswith at h
  rw [Bool.and_eq_true, PySem.StrLaws.subAt_eq, List.drop_zero] at h
  have e := eq_of_beq h.2
  have e2 : y.length = 1 := by
    show y.cps.size = 1
    rw [← Array.length_toList, hy]
    rfl
  rw [hy, e2] at e
  cases hx : x.cps.toList with
  | nil =>
    rw [hx] at e
    cases e
  | cons d cs =>
    rw [hx] at e
    have ec : d = c := by simpa using e
    subst ec
    exact ⟨cs, rfl⟩
theorem num_wok {n : Nat} (h : n < 1000000) : wokB ((toString ((n : Nat) : Int) : String) : Str) = true := by
  obtain ⟨h1, h2, c, r, h3, h4⟩ := digs 5 n (by omega)
  have e : (((toString ((n : Nat) : Int) : String) : Str)).cps.toList = (Nat.toDigits 10 n).map Char.toNat := PySem.W.KIN.signs_num n
  generalize hx : ((toString ((n : Nat) : Int) : String) : Str) = x at e
  have el : x.length = ((Nat.toDigits 10 n).map Char.toNat).length := by
    show x.cps.size = _
    rw [← Array.length_toList, e]
  have n0 : ¬ (Txt.startswith x "-" = true) := fun z => by
    obtain ⟨cs, z⟩ := starts_one (c := 45) (by decide +kernel) z
    have := h2 45 (by rw [← e, z]; exact List.mem_cons_self)
    omega
  have ef : figOf x = x := by
    unfold figOf
    rw [if_neg n0]
  have hl1 : 1 ≤ x.length := by
    rw [el, h3]
    simp
  have hlit : isLit x = true := by
    unfold isLit
    rw [ef]
    simp only [Bool.and_eq_true, decide_eq_true_eq, Bool.or_eq_true, Bool.not_eq_true']
    refine ⟨⟨⟨hl1, by omega⟩, ?_⟩, ?_⟩
    · rw [List.all_eq_true]
      intro d hd
      have := h2 d (by rw [← e]; exact hd)
      refine decide_eq_true ?_
      unfold figsG
      simp only [List.mem_cons, List.not_mem_nil, or_false]
      omega
    · by_cases hz : n = 0
      · left
        rw [← hx, hz]
        decide +kernel
      · right
        cases hs : Txt.startswith x "0" with
        | false => rfl
        | true =>
          obtain ⟨cs, z⟩ := starts_one (c := 48) (by decide +kernel) hs
          rw [e, h3] at z
          have := h4 (by omega)
          have e2 := (List.cons.inj z).1
          omega
  have ne1 : ∀ (y : Str) (d : Nat), d ∈ y.cps.toList → ¬ (48 ≤ d ∧ d ≤ 57) → ¬ x = y := fun y d hd hn z => hn (h2 d (by rw [← e, z]; exact hd))
  unfold wokB
  simp only [Bool.and_eq_true, Bool.not_eq_true', decide_eq_false_iff_not, decide_eq_true_eq, Bool.or_eq_true]
  refine ⟨⟨⟨⟨⟨⟨.inl (.inr hlit), ne1 "[" 91 (by decide +kernel) (by omega)⟩, ne1 "]" 93 (by decide +kernel) (by omega)⟩, ?_⟩, ?_⟩, by omega⟩, ?_⟩
  · intro z
    rw [z] at hl1
    exact absurd hl1 (by decide +kernel)
  · intro z
    have := h2 32 (by rw [← e]; exact z)
    omega
  · unfold PyData.strOk
    rw [← Array.all_toList, List.all_eq_true]
    intro d hd
    have := h2 d (by rw [← e]; exact hd)
    exact decide_eq_true (by omega)
theorem neg3_wok : wokB ((toString (-3 : Int) : String) : Str) = true := by decide +kernel
/-- the numbers that the law draws -/
theorem lit_wok {i : Int} (h : i = -3 ∨ (0 ≤ i ∧ i < 1000000)) (ys : List Str) : Wok ys ((toString i : String) : Str) := by
  refine wok_of ?_ ys
  rcases h with rfl | ⟨h0, h1⟩
  · exact neg3_wok
  · obtain ⟨n, rfl⟩ := Int.eq_ofNat_of_zero_le h0
    exact num_wok (by omega)
theorem Wok.mono {ys zs : List Str} (h : ∀ n ∈ ys, n ∈ zs) {s : Str} (w : Wok ys s) : Wok zs s := by
  refine ⟨?_, w.no, w.nc, w.ne, w.sp, w.ln, w.ok⟩
  have h1 := w.wd
  unfold isWord at h1 ⊢
  simp only [Bool.or_eq_true, decide_eq_true_eq] at h1 ⊢
  rcases h1 with ((h1 | h1) | h1) | h1
  · exact .inl (.inl (.inl h1))
  · exact .inl (.inl (.inr (h s h1)))
  · exact .inl (.inr h1)
  · exact .inr h1
def titB (s : Str) : Bool := !decide (s = "[") && !decide (s = "]") && !decide (s = "") && !decide ((32 : Nat) ∈ s.cps.toList) && decide (s.length ≤ 20) && PyData.strOk s
theorem tit_all : ((gnames allG).all titB) = true := by decide +kernel
theorem tit_wok {gs : List G3} (hs : gs.Sublist allG) {x : Str} (h : x ∈ gnames gs) : Wok (gnames gs) x := by
  have hx : x ∈ gnames allG := (List.Sublist.map (·.1) hs).subset h
  have ht := List.all_eq_true.mp tit_all x hx
  unfold titB at ht
  simp only [Bool.and_eq_true, Bool.not_eq_true', decide_eq_false_iff_not, decide_eq_true_eq] at ht
  obtain ⟨⟨⟨⟨⟨h2, h3⟩, h4⟩, h5⟩, h6⟩, h7⟩ := ht
  refine ⟨?_, h2, h3, h4, h5, h6, h7⟩
  unfold isWord
  rw [decide_eq_true h]
  simp
theorem core_wok {x : Str} (h : x ∈ cores) (ys : List Str) : Wok ys x := by
  have a : (cores.all wokB) = true := by decide +kernel
  exact wok_of (List.all_eq_true.mp a x h) ys
theorem drop_wok (ys : List Str) : Wok ys "(a-)" := wok_of (by decide +kernel) ys
theorem all_ar : (allG.all fun g => decide (0 ≤ g.2.1) && decide (0 ≤ g.2.2) && decide (g.2.2 ≤ g.2.1 + 1) && decide (g.2.1 ≤ 3)) = true := by decide +kernel
theorem tit_ar {gs : List G3} (hs : gs.Sublist allG) {x : Str} (h : x ∈ gnames gs) : 0 ≤ (arOf gs x).1 ∧ 0 ≤ (arOf gs x).2 ∧ (arOf gs x).2 ≤ (arOf gs x).1 + 1 ∧ (arOf gs x).1 ≤ 3 := by
  obtain ⟨g, hg, _, e⟩ := ar_mem h
  have ha := List.all_eq_true.mp all_ar g (hs.subset hg)
  simp only [Bool.and_eq_true, decide_eq_true_eq] at ha
  rw [e]
  exact ⟨ha.1.1.1, ha.1.1.2, ha.1.2, ha.2⟩
theorem tit_no {gs : List G3} (hs : gs.Sublist allG) {x : Str} (h : x ∈ gnames gs) : ¬ x = "literal" ∧ ¬ x = "shuffle" ∧ ¬ x = "quote" := by
  have hx : x ∈ gnames allG := (List.Sublist.map (·.1) hs).subset h
  have a : ((gnames allG).all fun s => !decide (s = "literal") && !decide (s = "shuffle") && !decide (s = "quote")) = true := by decide +kernel
  have ht := List.all_eq_true.mp a x hx
  simp only [Bool.and_eq_true, Bool.not_eq_true', decide_eq_false_iff_not] at ht
  exact ⟨ht.1.1, ht.1.2, ht.2⟩
theorem core_no {x : Str} (h : x ∈ cores) : (¬ x = "literal" ∧ ¬ x = "shuffle" ∧ ¬ x = "quote") ∧ x ∉ gnames allG := by
  have a : (cores.all fun s => !decide (s = "literal") && !decide (s = "shuffle") && !decide (s = "quote") && !decide (s ∈ gnames allG)) = true := by decide +kernel
  have ht := List.all_eq_true.mp a x h
  simp only [Bool.and_eq_true, Bool.not_eq_true', decide_eq_false_iff_not] at ht
  exact ⟨⟨ht.1.1.1, ht.1.1.2, ht.1.2⟩, ht.2⟩
theorem core4_mem {ks : List Kn} {x : Str} (h : Core4 ks x) : x ∈ cores := by
  have m : ∀ y : Str, decide (y ∈ cores) = true → y ∈ cores := fun y h => of_decide_eq_true h
  rcases h with ⟨rfl, _⟩ | ⟨_, _, _, _, ⟨rfl, _⟩ | ⟨_, _, _, ⟨rfl, _⟩ | ⟨rfl, _⟩ | ⟨rfl, _⟩ | ⟨rfl, _⟩⟩⟩ <;> exact m _ (by decide +kernel)
end SQ4
namespace SQ4
open PySem L2 SQ
/-! ### how large the drawn rows become -/
def szb : Nat → Nat
  | 0 => 1
  | 1 => 9
  | _ => 58
def nb : Nat → Nat
  | 0 => 3
  | 1 => 6
  | _ => 400
def cb : Nat → Nat
  | 0 => 1
  | 1 => 2
  | _ => 5
/-- one more word, at a level -/
inductive Stepped (lv : Nat) (ys : List Str) (ks : List Kn) : El → List Kn → Prop
  | word {s : Str} {ks' : List Kn} (w : Wok ys s) (h : Stp ks ks') : Stepped lv ys ks (.inl s) ks'
  | quote {i : Rr} {m n l' : Nat} (hl : lv = l' + 1) (h : Fine ys l' (szb l') i.els) (hm : m ≤ 2) (hn : n ≤ m + nb l') : Stepped lv ys ks (.inr i) (ks ++ [.q (m : Int) (n : Int)])
structure Drawn (lv : Nat) (ys : List Str) (m j : Nat) (l : List El) (ks : List Kn) : Prop where
  gd : (rof l).good (Wok ys)
  dp : (rof l).dep ≤ lv
  ok : KOK ks
  t : sumK wT ks ≤ m + 12 * j
  l0 : lv = 0 → AllP ks ∧ (rof l).size ≤ j ∧ ks.length ≤ m + 3 * j
  l1 : lv = 1 → (rof l).size ≤ 2 * j ∧ ks.length ≤ m + 3 * j ∧ (rof l).size + ks.length ≤ m + 4 * j ∧ (AllP ks ∨ (rof l).size + ks.length + 1 ≤ m + 4 * j) ∧ (j = 0 → AllP ks) ∧ (j ≤ 1 → NetLe 3 ks)
  l2 : lv = 2 → ∃ nq nn, j = nq + nn ∧ (rof l).size + sumK wW ks ≤ m + 16 * nq + 4 * nn ∧ (nn = 0 → (rof l).size + ks.length ≤ m + 11 * nq ∧ NetLe 6 ks) ∧ (nn = 1 → (rof l).size + ks.length ≤ m + 11 * nq + 6)
theorem allP_rep (m : Nat) : AllP (List.replicate m .p) := fun k h => List.eq_of_mem_replicate h
theorem net_allP {N : Nat} {ks : List Kn} (h : AllP ks) : NetLe N ks := fun a b hm => by
  have := h _ hm
  cases this
theorem net_mono {N M : Nat} {ks : List Kn} (h : NetLe N ks) (e : N ≤ M) : NetLe M ks := fun a b hm => by
  have := h a b hm
  omega
theorem net_app {N : Nat} {ks : List Kn} {a b : Int} (h : NetLe N ks) (e : b - a ≤ N) : NetLe N (ks ++ [.q a b]) := fun c d hm => by
  rcases List.mem_append.mp hm with hm | hm
  · exact h c d hm
  · have := List.mem_singleton.mp hm
    cases this
    exact e
theorem Drawn.start {lv : Nat} {ys : List Str} {m : Nat} : Drawn lv ys m 0 [] (List.replicate m .p) := by
  have e : (List.replicate m Kn.p).length = m := List.length_replicate
  refine ⟨True.intro, Nat.zero_le _, kok_rep m, by rw [sumK_rep rfl]; omega, fun _ => ⟨allP_rep m, Nat.le_refl _, by omega⟩, fun _ => ⟨Nat.zero_le _, by omega, ?_, .inl (allP_rep m), fun _ => allP_rep m, fun _ => net_allP (allP_rep m)⟩, fun _ => ⟨0, 0, rfl, ?_, fun _ => ⟨?_, net_allP (allP_rep m)⟩, fun z => absurd z (by decide)⟩⟩
  · show 0 + _ ≤ _
    omega
  · show 0 + _ ≤ _
    rw [sumK_rep rfl]
    omega
  · show 0 + _ ≤ _
    omega
theorem size_snoc (l : List El) (e : El) : (rof (l ++ [e])).size = (rof l).size + elSize e := by
  rw [size_of, size_of, List.map_append, List.sum_append]
  simp
theorem good_snoc {p : Str → Prop} {l : List El} {e : El} (h : (rof l).good p) (he : elGood p e) : (rof (l ++ [e])).good p := by
  rw [good_of_all] at h ⊢
  intro x hx
  rcases List.mem_append.mp hx with hx | hx
  · exact h x hx
  · rw [List.mem_singleton.mp hx]
    exact he
theorem dep_snoc {d : Nat} {l : List El} {e : El} (h : (rof l).dep ≤ d) (he : elDep e ≤ d) : (rof (l ++ [e])).dep ≤ d := by
  rw [dep_of_all] at h ⊢
  intro x hx
  rcases List.mem_append.mp hx with hx | hx
  · exact h x hx
  · rw [List.mem_singleton.mp hx]
    exact he
theorem Drawn.step {lv : Nat} {ys : List Str} {m j : Nat} {l : List El} {ks ks' : List Kn} {e : El} (h : Drawn lv ys m j l ks) (hlv : lv ≤ 2) (hj : j < cb lv) (s : Stepped lv ys ks e ks') : Drawn lv ys m (j + 1) (l ++ [e]) ks' := by
  cases s with
  | @word x ks' w s =>
    have t := h.t
    have st := s.t
    have sw := s.w
    refine ⟨good_snoc h.gd w, dep_snoc h.dp (Nat.zero_le _), s.ok, by omega, fun e => ?_, fun e => ?_, fun e => ?_⟩
    · obtain ⟨a, b, c⟩ := h.l0 e
      have n := s.ln 4 (Nat.le_refl _) (net_allP a)
      rw [size_snoc]
      refine ⟨s.al a, ?_, ?_⟩
      · show _ + 1 ≤ _
        omega
      · omega
    · obtain ⟨a, b, c, d, f, g⟩ := h.l1 e
      have hj2 : j < 2 := by
        rw [e] at hj
        exact hj
      have n := s.ln 4 (Nat.le_refl _) (net_mono (g (by omega)) (by decide))
      rw [size_snoc]
      have z : elSize (.inl x) = 1 := rfl
      rw [z]
      refine ⟨by omega, by omega, by omega, ?_, by omega, fun hj1 => ?_⟩
      · rcases d with d | d
        · exact .inl (s.al d)
        · exact .inr (by omega)
      · exact net_allP (s.al (f (by omega)))
    · obtain ⟨nq, nn, ej, a, b, c⟩ := h.l2 e
      rw [size_snoc]
      have z : elSize (.inl x) = 1 := rfl
      rw [z]
      refine ⟨nq, nn + 1, by omega, by omega, fun z => absurd z (by omega), fun z => ?_⟩
      obtain ⟨b1, b2⟩ := b (by omega)
      have n := s.ln 6 (by decide) b2
      omega
  | @quote i m' n' l' hl hF hm hn =>
    have t := h.t
    have es : elSize (.inr i) = i.size + 1 := rfl
    have gi : i.good (Wok ys) := by
      have := hF.gd
      rw [show rof i.els = i from Rr.of_els i] at this
      exact this
    have di : i.dep + 1 ≤ lv := by
      have := hF.dp
      rw [show rof i.els = i from Rr.of_els i] at this
      omega
    have si : i.size ≤ szb l' := by
      have := hF.sz
      rw [show rof i.els = i from Rr.of_els i] at this
      exact this
    have e1 : ∀ f : Kn → Nat, sumK f (ks ++ [.q (m' : Int) (n' : Int)]) = sumK f ks + f (.q (m' : Int) (n' : Int)) := fun f => by rw [sumK_app, sumK_one]
    have e2 : wT (.q (m' : Int) (n' : Int)) = 1 + m' + n' := by
      show 1 + (m' : Int).toNat + (n' : Int).toNat = _
      omega
    have e3 : wW (.q (m' : Int) (n' : Int)) = max 1 ((n' : Int) - m').toNat := rfl
    have e4 : (ks ++ [Kn.q (m' : Int) (n' : Int)]).length = ks.length + 1 := by
      rw [List.length_append]
      rfl
    have hl2 : l' = 0 ∨ l' = 1 := by omega
    have nb6 : nb l' ≤ 6 := by
      rcases hl2 with rfl | rfl <;> decide
    refine ⟨good_snoc h.gd gi, dep_snoc h.dp di, kok_app h.ok (kok_one (by omega) (by omega)), by rw [e1, e2]; omega, fun e => absurd e (by omega), fun e => ?_, fun e => ?_⟩
    · obtain ⟨a, b, c, d, f, g⟩ := h.l1 e
      have l0 : l' = 0 := by omega
      subst l0
      have s1 : i.size ≤ 1 := si
      have n3 : n' ≤ m' + 3 := hn
      rw [size_snoc, es, e4]
      refine ⟨by omega, by omega, by omega, .inr (by omega), by omega, fun hj1 => ?_⟩
      exact net_app (g (by omega)) (by omega)
    · obtain ⟨nq, nn, ej, a, b, c⟩ := h.l2 e
      have l1 : l' = 1 := by omega
      subst l1
      have s9 : i.size ≤ 9 := si
      have n6 : n' ≤ m' + 6 := hn
      rw [size_snoc, es, e4, e1, e3]
      refine ⟨nq + 1, nn, by omega, by omega, fun z => ?_, fun z => ?_⟩
      · obtain ⟨b1, b2⟩ := b z
        exact ⟨by omega, net_app b2 (by omega)⟩
      · have := c z
        omega
theorem good_app {p : Str → Prop} {l m : List El} (h : (rof l).good p) (g : (rof m).good p) : (rof (l ++ m)).good p := by
  rw [good_of_all] at h g ⊢
  intro x hx
  rcases List.mem_append.mp hx with hx | hx
  · exact h x hx
  · exact g x hx
theorem dep_app {d : Nat} {l m : List El} (h : (rof l).dep ≤ d) (g : (rof m).dep ≤ d) : (rof (l ++ m)).dep ≤ d := by
  rw [dep_of_all] at h g ⊢
  intro x hx
  rcases List.mem_append.mp hx with hx | hx
  · exact h x hx
  · exact g x hx
theorem size_app (l m : List El) : (rof (l ++ m)).size = (rof l).size + (rof m).size := by
  rw [size_of, size_of, size_of, List.map_append, List.sum_append]
def drops (d : Nat) : List El := List.replicate d (.inl "(a-)")
theorem drops_size (d : Nat) : (rof (drops d)).size = d := by
  rw [size_of]
  unfold drops
  rw [List.map_replicate, List.sum_replicate_nat]
  show d * 1 = d
  omega
theorem drops_good (ys : List Str) (d : Nat) : (rof (drops d)).good (Wok ys) := good_of_all.mpr fun e he => by
  rw [List.eq_of_mem_replicate he]
  exact drop_wok ys
theorem drops_dep (d n : Nat) : (rof (drops d)).dep ≤ n := dep_of_all.mpr fun e he => by
  rw [List.eq_of_mem_replicate he]
  exact Nat.zero_le _
/-- at the end: the quotations are dropped -/
theorem Drawn.fine {lv : Nat} {ys : List Str} {m j d : Nat} {l : List El} {ks : List Kn} (h : Drawn lv ys m j l ks) (hlv : lv ≤ 2) (hj : j ≤ cb lv) (hm : m ≤ 2) (hd : d ≤ ks.length) (hp : AllP ks → d = 0) : Fine ys lv (szb lv) (l ++ drops d) ∧ ks.length - d ≤ m + nb lv := by
  refine ⟨⟨good_app h.gd (drops_good ys d), dep_app h.dp (drops_dep d lv), ?_⟩, ?_⟩
  · rw [size_app, drops_size]
    match lv, hlv with
    | 0, _ =>
      obtain ⟨a, b, c⟩ := h.l0 rfl
      have := hp a
      have hj' : j ≤ 1 := hj
      show _ ≤ 1
      omega
    | 1, _ =>
      obtain ⟨a, b, c, e, f, g⟩ := h.l1 rfl
      have hj' : j ≤ 2 := hj
      show _ ≤ 9
      rcases e with e | e
      · have := hp e
        omega
      · omega
    | 2, _ =>
      obtain ⟨nq, nn, ej, a, b, c⟩ := h.l2 rfl
      have hj' : j ≤ 5 := hj
      have lw := sumK_len wW_pos ks
      show _ ≤ 58
      by_cases z0 : nn = 0
      · have := (b z0).1
        omega
      · by_cases z1 : nn = 1
        · have := c z1
          omega
        · omega
  · match lv, hlv with
    | 0, _ =>
      obtain ⟨a, b, c⟩ := h.l0 rfl
      have hj' : j ≤ 1 := hj
      show _ ≤ m + 3
      omega
    | 1, _ =>
      obtain ⟨a, b, c, e, f, g⟩ := h.l1 rfl
      have hj' : j ≤ 2 := hj
      show _ ≤ m + 6
      omega
    | 2, _ =>
      have hj' : j ≤ 5 := hj
      have lw := sumK_len wT_pos ks
      have := h.t
      show _ ≤ m + 400
      omega
end SQ4
namespace SQ4
open PySem L2 SQ
abbrev sStp : Stmt := top 71
abbrev sBlt : Stmt := top 72
/-- what is new since H -/
def nw (H G : Hp) : Hp := fun a => match H a with
  | none => G a
  | some _ => none
theorem nw_of {H G : Hp} {a : Addr} (n : H a = none) : nw H G a = G a := by
  unfold nw
  rw [n]
theorem nw_some {H G : Hp} {a : Addr} {o : HO} (h : nw H G a = some o) : H a = none ∧ G a = some o := by
  unfold nw at h
  cases e : H a with
  | none =>
    rw [e] at h
    exact ⟨rfl, h⟩
  | some x =>
    rw [e] at h
    cases h
theorem nw_sub {H G : Hp} : Same (nw H G) G := fun a o h => (nw_some h).2
theorem nw_old {H H1 G G' : Hp} (h0 : ∀ a, H1 a = none → H a = none) (h : ∀ a o, H1 a = none → G a = some o → G' a = some o) : Same (nw H1 G) (nw H G') := fun a o e => by
  obtain ⟨n, e⟩ := nw_some e
  rw [nw_of (h0 a n)]
  exact h a o n e
theorem DAt.put {D a : Addr} {H : Hp} {xs ys : List V} {gs : List G3} (hD : H D = some (.lst xs)) (h : DAt H a gs) : DAt (upd H D (.lst ys)) a gs := by
  obtain ⟨kvs, e, k⟩ := h
  refine ⟨kvs, by rw [upd_ne (ne_of e hD (by intro z; cases z))]; exact e, Paired.mapP k fun kv g ⟨q1, t0, q2, q3⟩ => ⟨q1, t0, q2, ?_⟩⟩
  rw [upd_ne (ne_of q3 hD (by intro z; cases z))]
  exact q3
/-- the heap while a word is drawn: the row as it was -/
structure SI (H : Hp) (u r : Addr) (rv : List V) (G : Hp) : Prop where
  u0 : urnAt H u
  nru : r ≠ u
  row : H r = some (.lst rv)
  but : But u H G
  urn : urnAt G u
theorem SI.go {H G G' : Hp} {u r : Addr} {rv : List V} (h : SI H u r rv G) (b : But u G G') (hu : urnAt G' u) : SI H u r rv G' := ⟨h.u0, h.nru, h.row, h.but.trans b, hu⟩
theorem SI.sm {H G G' : Hp} {u r : Addr} {rv : List V} (h : SI H u r rv G) (s : Same G G') : SI H u r rv G' := h.go (Same.but s) (urn_same s h.urn)
theorem SI.at {H G : Hp} {u r : Addr} {rv : List V} (h : SI H u r rv G) : G r = some (.lst rv) := h.but _ _ h.row h.nru
theorem SI.free {H G : Hp} {u r p : Addr} {rv : List V} (h : SI H u r rv G) (n : G p = none) : H p = none := but_free h.but h.urn n
/-- behind the append -/
theorem SI.app {H G : Hp} {u r : Addr} {rv : List V} {v : V} (h : SI H u r rv G) : (∀ b o, H b = some o → b ≠ u → b ≠ r → upd G r (.lst (rv ++ [v])) b = some o) ∧ urnAt (upd G r (.lst (rv ++ [v]))) u := by
  refine ⟨fun b o e n1 n2 => ?_, ?_⟩
  · rw [upd_ne n2]
    exact h.but b o e n1
  · obtain ⟨x, y, z, e⟩ := h.urn
    exact ⟨x, y, z, by rw [upd_ne (Ne.symm h.nru)]; exact e⟩
theorem pickL {i : Nat} {x : V} {d : Int} (d0 : 0 ≤ d) (d1 : d < 1000000) (h : [V.int 0, V.int 1, V.int 2, V.int (-3), V.int d][i]? = some x) : ∃ n : Int, x = .int n ∧ (n = -3 ∨ (0 ≤ n ∧ n < 1000000)) := by
  match i, h with
  | 0, h => cases h; exact ⟨_, rfl, by omega⟩
  | 1, h => cases h; exact ⟨_, rfl, by omega⟩
  | 2, h => cases h; exact ⟨_, rfl, by omega⟩
  | 3, h => cases h; exact ⟨_, rfl, by omega⟩
  | 4, h => cases h; exact ⟨_, rfl, by omega⟩
  | n + 5, h => simp at h
theorem log_small {n : Int} (h : n = -3 ∨ (0 ≤ n ∧ n < 1000000)) : n.natAbs.log2 < 1920 := by
  have : n.natAbs < 2 ^ 1920 := Nat.lt_of_lt_of_le (by omega : n.natAbs < 2 ^ 20) (Nat.pow_le_pow_right (by decide) (by decide))
  rcases Nat.eq_zero_or_pos n.natAbs with e | e
  · rw [e]
    decide
  · exact (Nat.log2_lt (by omega)).mpr this
section
variable {P : Program} {w : World} {K : PySem.W.Frag} {mg : Str → Option Value} {base : Heap}
def spSt (lv : Nat) : Sp := fun vs H Q _ => ∃ (u r k a : Addr) (rv ws : List V) (ks : List Kn) (gs : List G3), vs = [.ref u, .ref r, .ref k, .ref a, .int lv] ∧ urnAt H u ∧ H r = some (.lst rv) ∧ r ≠ u ∧ rv.length ≤ 200 ∧ H k = some (.lst ws) ∧ r ≠ k ∧ Kns H ws ks ∧ KOK ks ∧ sumK wT ks ≤ 500 ∧ DAt H a gs ∧ gs.Sublist allG ∧
  ∀ (k' : Addr) (v : V) (e : El) (ws' : List V) (ks' : List Kn) (H' : Hp), (∀ b o, H b = some o → b ≠ u → b ≠ r → H' b = some o) → urnAt H' u → H' r = some (.lst (rv ++ [v])) → ElAt (nw H H') v e → H k' = none → H' k' = some (.lst ws') → Kns H' ws' ks' → Stepped lv (gnames gs) ks e ks' → Q (.ref k') H'
def spBu (lv : Nat) : Sp := fun vs H Q _ => ∃ (u a k : Addr) (c m : Nat) (gs : List G3), vs = [.ref u, .ref a, .ref k, .int c, .int lv] ∧ urnAt H u ∧ H k = some (.lst (List.replicate m (V.str "p"))) ∧ m ≤ 2 ∧ c ≤ cb lv ∧ DAt H a gs ∧ gs.Sublist allG ∧
  ∀ (t r k' : Addr) (rv : List V) (l : List El) (n : Nat) (H' : Hp), But u H H' → urnAt H' u → H' t = some (.tup [.ref r, .ref k']) → H r = none → H' r = some (.lst rv) → RowAt (nw H H') rv l → Fine (gnames gs) lv (szb lv) l → H' k' = some (.lst (List.replicate n (V.str "p"))) → (k' = k ∨ H k' = none) → n ≤ m + nb lv → Q (.ref t) H'
def spBu0 : Nat → Sp
  | 0 => fun _ _ _ _ => False
  | lv + 1 => spBu lv
abbrev nStp : List Str := ["_law_urn_here", "_law_row_here", "_law_kinds", "_law_arities_here", "_law_level", "_law_word_here", "_law_token", "_law_after", "_law_many", "_law_inner", "_law_left"]
theorem scStp : FnScope nStp ["_law_urn_here", "_law_row_here", "_law_kinds", "_law_arities_here", "_law_level"] (defScope sStp) := ⟨rfl, rfl, rfl, by decide +kernel, rfl, by decide +kernel, by decide +kernel⟩
abbrev nBlt : List Str := ["_law_urn_here", "_law_arities_here", "_law_kinds", "_law_count", "_law_level", "_law_row_here", "_law_turn", "_law_kind"]
theorem scBlt : FnScope nBlt ["_law_urn_here", "_law_arities_here", "_law_kinds", "_law_count", "_law_level"] (defScope sBlt) := ⟨rfl, rfl, rfl, by decide +kernel, rfl, by decide +kernel, by decide +kernel⟩
structure StD (P : Program) (w : World) (K : PySem.W.Frag) (mg : Str → Option Value) (base : Heap) (fC fM fB fS fU : Addr) (dC dM dB dS dU : FuncData) : Prop where
  gC : mg "_law_choices" = some (.ref fC)
  kC : PySem.W.keepIn K (.ref fC) = true
  bC : Binds K dC ["_law_kinds", "_law_arities_here", "_law_level"] []
  GC : FnOk P w K mg base CX0 2 fC dC ["_law_kinds", "_law_arities_here", "_law_level"] spCh
  gM : mg "_law_mixed" = some (.ref fM)
  kM : PySem.W.keepIn K (.ref fM) = true
  bM : Binds K dM ["_law_urn_here", "_law_kinds"] []
  GM : FnOk P w K mg base CX0 3 fM dM ["_law_urn_here", "_law_kinds"] spMx
  gB : mg "_law_behind" = some (.ref fB)
  kB : PySem.W.keepIn K (.ref fB) = true
  bB : Binds K dB ["_law_word_here", "_law_kinds"] []
  GB : FnOk P w K mg base CX0 1 fB dB ["_law_word_here", "_law_kinds"] spBh
  gS : mg "_law_step" = some (.ref fS)
  FS : Fun K "_law_step" "_law_step" sStp fS dS
  bS : Binds K dS ["_law_urn_here", "_law_row_here", "_law_kinds", "_law_arities_here", "_law_level"] []
  gU : mg "_law_built" = some (.ref fU)
  FU : Fun K "_law_built" "_law_built" sBlt fU dU
  bU : Binds K dU ["_law_urn_here", "_law_arities_here", "_law_kinds", "_law_count", "_law_level"] []
variable {fC fM fB fS fU fL fO : Addr} {dC dM dB dS dU fdL fdO : FuncData}
theorem ok_step (S : StD P w K mg base fC fM fB fS fU dC dM dB dS dU) (B : B2 mg) (BL : Blt mg) (D : Drw K mg fL fO fdL fdO) {lv : Nat} (hlv : lv ≤ 2) (GU : FnOk P w K mg base CX0 (2 * lv + 3) fU dU ["_law_urn_here", "_law_arities_here", "_law_kinds", "_law_count", "_law_level"] (spBu0 lv)) : FnOk P w K mg base CX0 (2 * lv + 4) fS dS ["_law_urn_here", "_law_row_here", "_law_kinds", "_law_arities_here", "_law_level"] (spSt lv) := by
  have GL : FnOk P w K mg base CX0 1 fL fdL ["_law_urn_here", "_law_many"] spLot := ok_lot D.FL BL
  have GO : FnOk P w K mg base CX0 2 fO fdO ["_law_urn_here", "_law_things"] (spOne K) := ok_one D BL
  refine S.FS.ok scStp (fun vs H Q E h => ?_) (fun cdv A outer s H vs Q E hr h => ?_)
  · obtain ⟨u, r, k, a, rv, ws, ks, gs, rfl, _⟩ := h
    rfl
  · obtain ⟨u, r, k, a, rv, ws, ks, gs, rfl, hu, hrow, nru, hrl, hk, nrk, hK, hO, hT, hA, hgs, q⟩ := h
    have hu2 := hu_of hr
    have hr1 : Room 1 (A.deeper (PyProof.Rows.envOfC "_law_step" (defScope sStp) s.heap.objs.size fS cdv)) := hr.mono (by omega)
    have hr2 : Room 2 (A.deeper (PyProof.Rows.envOfC "_law_step" (defScope sStp) s.heap.objs.size fS cdv)) := hr.mono (by omega)
    have hr3 : Room 3 (A.deeper (PyProof.Rows.envOfC "_law_step" (defScope sStp) s.heap.objs.size fS cdv)) := hr.mono (by omega)
    refine ⟨_, pss_cons (ps_set (i := 5) scStp.nd rfl (.inl rfl) (pe_call GO hr2 rfl D.gO D.FO.kp D.bO .nil pass0 (pa_cons (pv 0) (pa_cons (pe_call S.GC hr2 rfl S.gC S.kC S.bC .nil pass0 (pa_cons (pv 2) (pa_cons (pv 3) (pa_cons (pv 4) pa_nil)))) pa_nil))))
      (pss_cons (ps_if (pt_cmpR op_eq (pv 5) pe_str (nomark _)) (pss_cons (ps_expr (pe_bm PySem.F.plainAttrs_list PySem.F.slot_list_append PySem.F.type_list_append mt_append (pv 1) (pa_cons (pe_callTy call_str_int (by rfl) B.str (by decide +kernel) (pa_cons (pe_call GO hr2 rfl D.gO D.FO.kp D.bO .nil pass0 (pa_cons (pv 0) (pa_cons (pe_lst (pa_cons pe_int (pa_cons pe_int (pa_cons pe_int (pa_cons (pe_un un_neg pe_int) (pa_cons (pe_call GL hr1 rfl D.gL D.FL.kp D.bL .nil pass0 (pa_cons (pv 0) (pa_cons (pe_op op_pow pe_int pe_int) pa_nil))) pa_nil)))))) pa_nil))) pa_nil)) pa_nil)))
          (pss_one (ps_ret (pe_op op_cat (pv 2) (pe_lst (pa_cons pe_str pa_nil)))))) pss_nil)
      (pss_cons (ps_if (pt_cmpR op_eq (pv 5) pe_str (nomark _)) (pss_cons (ps_asg (pe_call S.GM hr3 rfl S.gM S.kM S.bM .nil pass0 (pa_cons (pv 0) (pa_cons (pv 2) pa_nil))) (pg_tup rfl (pgs_cons (pg_name (i := 6) scStp.nd rfl (.inl rfl)) (pgs_cons (pg_name (i := 7) scStp.nd rfl (.inl rfl)) pgs_nil))))
          (pss_cons (ps_expr (pe_bm PySem.F.plainAttrs_list PySem.F.slot_list_append PySem.F.type_list_append mt_append (pv 1) (pa_cons (pv 6) pa_nil))) (pss_one (ps_ret (pv 7))))) pss_nil)
      (pss_cons (ps_if (pt_cmpR op_eq (pv 5) pe_str (nomark _)) (pss_cons (ps_set (i := 8) scStp.nd rfl (.inl rfl) (pe_call GL hr1 rfl D.gL D.FL.kp D.bL .nil pass0 (pa_cons (pv 0) (pa_cons pe_int pa_nil))))
          (pss_cons (ps_asg (pe_call GU hr rfl S.gU S.FU.kp S.bU .nil pass0 (pa_cons (pv 0) (pa_cons (pv 3) (pa_cons (pe_op op_rep (pe_lst (pa_cons pe_str pa_nil)) (pv 8)) (pa_cons (pe_call GL hr1 rfl D.gL D.FL.kp D.bL .nil pass0 (pa_cons (pv 0) (pa_cons (pe_op op_add (pv 4) pe_int) pa_nil))) (pa_cons (pe_op op_sub (pv 4) pe_int) pa_nil)))))) (pg_tup rfl (pgs_cons (pg_name (i := 9) scStp.nd rfl (.inl rfl)) (pgs_cons (pg_name (i := 7) scStp.nd rfl (.inl rfl)) pgs_nil))))
          (pss_cons (ps_expr (pe_bm PySem.F.plainAttrs_list PySem.F.slot_list_append PySem.F.type_list_append mt_append (pv 1) (pa_cons (pv 9) pa_nil))) (pss_one (ps_ret (pe_op op_cat (pv 2) (pe_lst (pa_cons (pe_tup (pa_cons (pv 8) (pa_cons (pe_callB call_len_seq (by rfl) BL.len PySem.boot_len (pa_cons (pv 7) pa_nil)) pa_nil))) pa_nil)))))))) pss_nil)
      (pss_cons (ps_expr (pe_bm PySem.F.plainAttrs_list PySem.F.slot_list_append PySem.F.type_list_append mt_append (pv 1) (pa_cons (pv 5) pa_nil)))
      (pss_cons (ps_if (pt_cmp (pc_din hu2 (pv 5) (pv 3))) (pss_cons (ps_asg (pe_dget hu2 (pv 3) (pv 5) (fun _ _ => rfl)) (pg_tup rfl (pgs_cons (pg_name (i := 8) scStp.nd rfl (.inl rfl)) (pgs_cons (pg_name (i := 10) scStp.nd rfl (.inl rfl)) pgs_nil))))
          (pss_one (ps_ret (pe_op op_cat (pe_slice sl_list (pv 2) po_none (po_some (pe_op op_sub (pe_callB call_len_seq (by rfl) BL.len PySem.boot_len (pa_cons (pv 2) pa_nil)) (pv 8)))) (pe_op op_rep (pe_lst (pa_cons pe_str pa_nil)) (pv 10)))))) pss_nil)
      (pss_one (ps_ret (pe_call S.GB hr1 rfl S.gB S.kB S.bB .nil pass0 (pa_cons (pv 5) (pa_cons (pv 2) pa_nil)))))))))), ?_⟩
    have i0 : SI H u r rv H := ⟨hu, nru, hrow, But.refl, hu⟩
    have nku : k ≠ u := urn_kns hu hk hK
    have hkl : ws.length = ks.length := hK.len
    have hksl : ks.length ≤ 500 := Nat.le_trans (sumK_len wT_pos ks) hT
    have hg8 : gs.length ≤ 8 := Nat.le_trans hgs.length_le (by decide)
    have rline : rv.length < sizeLine := Nat.lt_of_le_of_lt hrl (by decide)
    refine seq_mid (fun σ G => ∃ x : Str, σ = [some (.ref u), some (.ref r), some (.ref k), some (.ref a), some (.int lv), some (.str x), none, none, none, none, none] ∧ SI H u r rv G ∧ May gs ks lv x) (fun N hN => ?_) ?_
    · refine ⟨_, rfl, _, rfl, _, rfl, _, rfl, k, a, lv, ws, ks, gs, rfl, hk, hK, hA, hg8, fun c G f => ?_⟩
      obtain ⟨xs, hc, h0, h1, hm⟩ := f.ex
      refine ⟨u, c, _, rfl, urn_same f.sm hu, urn_ne hu f.nc, hc, by rw [List.length_map]; exact h0, by rw [List.length_map]; omega, fun G2 i y hy hu2' bt => ?_⟩
      rw [List.getElem?_map] at hy
      cases hx : xs[i]? with
      | none =>
        rw [hx] at hy
        cases hy
      | some x =>
        rw [hx] at hy
        cases hy
        exact hN _ _ ⟨x, rfl, (i0.sm f.sm).go bt hu2', hm x (List.mem_of_getElem? hx)⟩
    rintro _ G ⟨x, rfl, i1, hM⟩
    have hk1 := i1.but _ _ hk nku
    have hK1 := hK.but hu i1.but
    have hA1 := hA.but hu i1.but
    rcases hM with rfl | rfl | ⟨rfl, hl0⟩ | hM
    · -- a literal
      refine ⟨_, rfl, rfl, _, rfl, ifY ?_⟩
      refine ⟨_, rfl, .inl ⟨rfl, _, SqL.of i1.at⟩, _, rfl, _, rfl, _, rfl, _, _, rfl, rfl, ⟨by decide, by decide, by decide⟩, u, _, rfl, i1.urn, by decide, by decide, fun G2 d d0 d1 hu2' bt2 => ⟨(by show 5 ≤ sizeLine; decide), ?_⟩⟩
      have i2 := i1.go bt2 hu2'
      intro p1 n1
      generalize hG_ : upd G2 p1 _ = G3'
      have s3 : Same G2 G3' := (by rw [← hG_]; exact same_new (fun _ _ e => e) n1)
      have h3 := (congrFun hG_ p1).symm.trans upd_same
      clear hG_
      refine ⟨u, p1, _, rfl, urn_same s3 hu2', urn_ne hu2' n1, h3, (by show 0 < 5; decide), (by show 5 ≤ 1000; decide), fun G4 i y hy hu4 bt4 => ?_⟩
      have i4 := (i2.sm s3).go bt4 hu4
      obtain ⟨n, rfl, hn⟩ := pickL d0 d1 hy
      refine ⟨n, rfl, log_small hn, r, rv, _, rfl, rfl, i4.at, rline, ?_⟩
      obtain ⟨b5, u5⟩ := i4.app (v := .str ((toString n : String) : Str))
      have hr5 : upd G4 r (.lst (rv ++ [V.str ((toString n : String) : Str)])) r = some (.lst (rv ++ [V.str ((toString n : String) : Str)])) := upd_same
      have hK5 := (hK.but hu i4.but).put (ys := rv ++ [V.str ((toString n : String) : Str)]) i4.at
      have hk5 := b5 _ _ hk nku (Ne.symm nrk)
      have fr5 : ∀ p, upd G4 r (.lst (rv ++ [V.str ((toString n : String) : Str)])) p = none → r ≠ p ∧ H p = none := fun p hp => by
        have hne : r ≠ p := ne_of_none hr5 hp
        rw [upd_ne (Ne.symm hne)] at hp
        exact ⟨hne, i4.free hp⟩
      generalize upd G4 r (.lst (rv ++ [V.str ((toString n : String) : Str)])) = G5 at b5 u5 hr5 hK5 hk5 fr5 ⊢
      refine ⟨_, rfl, (by show 1 ≤ sizeLine; decide), ?_⟩
      intro p6 n6
      generalize hG_ : upd G5 p6 _ = G6
      have s6 : Same G5 G6 := (by rw [← hG_]; exact same_new (fun _ _ e => e) n6)
      have h6 := (congrFun hG_ p6).symm.trans upd_same
      clear hG_
      refine ⟨k, p6, _, _, rfl, rfl, s6 _ _ hk5, h6, Nat.le_trans (by show ws.length + 1 ≤ 600; omega : _ ≤ 600) (by decide), ?_⟩
      intro p7 n7
      generalize hG_ : upd G6 p7 _ = G7
      have s7 : Same G6 G7 := (by rw [← hG_]; exact same_new (fun _ _ e => e) n7)
      have h7 := (congrFun hG_ p7).symm.trans upd_same
      clear hG_
      have s8 := st s6 s7
      refine q p7 _ (.inl ((toString n : String) : Str)) _ (ks ++ [.p]) G7 (fun b o e n1 n2 => s8 _ _ (b5 b o e n1 n2)) (urn_same s8 u5) (s8 _ _ hr5) rfl ?_ h7 (Kns.app (hK5.same s8) kn1p) (.word (lit_wok hn _) (stp_lit hO))
      exact (fr5 p7 (s6.free n7)).2
    · -- a shuffle
      refine ⟨_, rfl, rfl, _, rfl, ifS (by decide +kernel) ?_⟩
      refine ⟨_, rfl, rfl, _, rfl, ifY ?_⟩
      refine ⟨_, rfl, _, rfl, u, k, ws, ks, rfl, i1.urn, hk1, hK1, by omega, fun t k' x ws' ks' G2 bt2 hu2' ht nk' hk' hK' hS hw => ?_⟩
      have i2 := i1.go bt2 hu2'
      refine ⟨t, _, rfl, SqT.of ht, rfl, _, _, rfl, _, _, rfl, rfl, ?_⟩
      have ner : r ≠ k' := ne_of_none i1.at nk'
      refine ⟨_, rfl, .inl ⟨rfl, _, SqL.of i2.at⟩, _, rfl, r, rv, _, rfl, rfl, i2.at, rline, _, rfl, ?_⟩
      obtain ⟨b5, u5⟩ := i2.app (v := .str x)
      exact q k' _ (.inl x) ws' ks' _ b5 u5 upd_same rfl (i1.free nk') (by rw [upd_ne (Ne.symm ner)]; exact hk') (hK'.put i2.at) (.word (hw _) (stp_shf hO hS))
    · -- a quotation
      obtain ⟨l', rfl⟩ : ∃ l', lv = l' + 1 := ⟨lv - 1, by omega⟩
      refine ⟨_, rfl, rfl, _, rfl, ifS (by decide +kernel) ?_⟩
      refine ⟨_, rfl, rfl, _, rfl, ifS (by decide +kernel) ?_⟩
      refine ⟨_, rfl, rfl, _, rfl, ifY ?_⟩
      refine ⟨_, rfl, u, 3, rfl, i1.urn, by decide, by decide, fun G2 d d0 d1 hu2' bt2 => ?_⟩
      have i2 := i1.go bt2 hu2'
      obtain ⟨m, rfl⟩ : ∃ m : Nat, d = m := ⟨d.toNat, by omega⟩
      refine ⟨_, rfl, _, rfl, (by show 1 ≤ sizeLine; decide), ?_⟩
      intro p3 n3
      generalize hG_ : upd G2 p3 _ = G3'
      have s3 : Same G2 G3' := (by rw [← hG_]; exact same_new (fun _ _ e => e) n3)
      have h3 := (congrFun hG_ p3).symm.trans upd_same
      clear hG_
      refine ⟨_, rfl, p3, m, _, rfl, rfl, h3, by omega, by omega, Nat.le_trans (by show 1 * m ≤ 3; omega : _ ≤ 3) (by decide), ?_⟩
      rw [Int.toNat_natCast, flat_p]
      intro p4 n4
      generalize hG_ : upd G3' p4 _ = G4
      have s4 : Same G3' G4 := (by rw [← hG_]; exact same_new (fun _ _ e => e) n4)
      have h4 := (congrFun hG_ p4).symm.trans upd_same
      clear hG_
      have i4 := (i2.sm s3).sm s4
      refine ⟨_, rfl, _, rfl, _, _, rfl, rfl, u, _, rfl, i4.urn, by omega, by omega, fun G5 d e0 e1 hu5 bt5 => ?_⟩
      have i5 := i4.go bt5 hu5
      obtain ⟨c, rfl⟩ : ∃ c : Nat, d = c := ⟨d.toNat, by omega⟩
      refine ⟨_, rfl, _, _, rfl, rfl, ?_⟩
      have el : ((l' + 1 : Nat) : Int) - 1 = (l' : Int) := by omega
      have np4 : p4 ≠ u := (urn_ne (urn_same s3 i2.urn) n4).symm
      have hc : c ≤ cb l' := by
        have hl2 : l' = 0 ∨ l' = 1 := by omega
        rcases hl2 with rfl | rfl
        · show c ≤ 1
          omega
        · show c ≤ 2
          omega
      refine ⟨u, a, p4, c, m, gs, (by show [V.ref u, .ref a, .ref p4, .int c, .int (((l' + 1 : Nat) : Int) - 1)] = _; rw [el]), i5.urn, bt5 _ _ h4 np4, by omega, hc, hA.but hu i5.but, hgs, fun t ri k' rvi l n G6 bt6 hu6 ht nri hri hR hF hk' hkf hn => ?_⟩
      have i6 := i5.go bt6 hu6
      refine ⟨t, _, rfl, SqT.of ht, rfl, _, _, rfl, _, _, rfl, rfl, ?_⟩
      refine ⟨_, rfl, .inl ⟨rfl, _, SqL.of i6.at⟩, _, rfl, r, rv, _, rfl, rfl, i6.at, rline, ?_⟩
      obtain ⟨b7, u7⟩ := i6.app (v := .ref ri)
      have hr7 : upd G6 r (.lst (rv ++ [V.ref ri])) r = some (.lst (rv ++ [V.ref ri])) := upd_same
      have hK7 := (hK.but hu i6.but).put (ys := rv ++ [V.ref ri]) i6.at
      have hk7 := b7 _ _ hk nku (Ne.symm nrk)
      have ner : r ≠ ri := ne_of_none i5.at nri
      have nek : r ≠ k' := by
        rcases hkf with rfl | z
        · exact ne_of_none (s3 _ _ i2.at) n4
        · exact ne_of_none i5.at z
      have sub : Same (nw G5 G6) (nw H (upd G6 r (.lst (rv ++ [V.ref ri])))) := nw_old (fun b hb => i5.free hb) fun b o hb e => by
        have nb : b ≠ r := fun z => by
          rw [z, i5.at] at hb
          cases hb
        rw [upd_ne nb]
        exact e
      have hE : ElAt (nw H (upd G6 r (.lst (rv ++ [V.ref ri])))) (.ref ri) (.inr (rof l)) := by
        refine ⟨ri, rvi, rfl, ?_, (hR.same sub).inn⟩
        rw [nw_of (i5.free nri), upd_ne (Ne.symm ner)]
        exact hri
      have hk7' : upd G6 r (.lst (rv ++ [V.ref ri])) k' = some (.lst (List.replicate n (V.str "p"))) := by
        rw [upd_ne (Ne.symm nek)]
        exact hk'
      have fr7 : ∀ p, upd G6 r (.lst (rv ++ [V.ref ri])) p = none → H p = none := fun p hp => by
        have hne : r ≠ p := ne_of_none hr7 hp
        rw [upd_ne (Ne.symm hne)] at hp
        exact i6.free hp
      generalize upd G6 r (.lst (rv ++ [V.ref ri])) = G7 at b7 u7 hr7 hK7 hk7 hE hk7' fr7 ⊢
      refine ⟨_, rfl, _, rfl, _, rfl, k', _, rfl, .inl (SqL.of hk7'), (by show 2 ≤ sizeLine; decide), ?_⟩
      rw [List.length_replicate]
      intro p8 n8
      generalize hG_ : upd G7 p8 _ = G8
      have s8 : Same G7 G8 := (by rw [← hG_]; exact same_new (fun _ _ e => e) n8)
      have h8 := (congrFun hG_ p8).symm.trans upd_same
      clear hG_
      refine ⟨(by show 1 ≤ sizeLine; decide), ?_⟩
      intro p9 n9
      generalize hG_ : upd G8 p9 _ = G9
      have s9 : Same G8 G9 := (by rw [← hG_]; exact same_new (fun _ _ e => e) n9)
      have h9 := (congrFun hG_ p9).symm.trans upd_same
      clear hG_
      refine ⟨k, p9, _, _, rfl, rfl, (st s8 s9) _ _ hk7, h9, Nat.le_trans (by show ws.length + 1 ≤ 600; omega : _ ≤ 600) (by decide), ?_⟩
      intro pa na
      generalize hG_ : upd G9 pa _ = Ga
      have sa : Same G9 Ga := (by rw [← hG_]; exact same_new (fun _ _ e => e) na)
      have ha := (congrFun hG_ pa).symm.trans upd_same
      clear hG_
      have sz : Same G7 Ga := st s8 (st s9 sa)
      have sE : Same (nw H G7) (nw H Ga) := nw_old (fun _ h => h) fun b o _ e => sz _ _ e
      refine q pa _ (.inr (rof l)) _ (ks ++ [.q (m : Int) (n : Int)]) Ga (fun b o e n1 n2 => sz _ _ (b7 b o e n1 n2)) (urn_same sz u7) (sz _ _ hr7) (hE.same sE) ?_ ha (Kns.app (hK7.same sz) (kn1q (st s9 sa _ _ h8))) (.quote rfl (by rw [show (rof l).els = l from Rr.els_of l]; exact hF) (by omega) hn)
      exact fr7 pa ((st s8 s9).free na)
    · -- a word
      have cwok : Wok (gnames gs) x ∧ (¬ x = "literal" ∧ ¬ x = "shuffle" ∧ ¬ x = "quote") := by
        rcases hM with ⟨hm, _⟩ | hM
        · exact ⟨tit_wok hgs hm, tit_no hgs hm⟩
        · have hc := core4_mem (ks := ks) hM
          exact ⟨core_wok hc _, (core_no hc).1⟩
      obtain ⟨hw, nl, ns, nq⟩ := cwok
      refine ⟨_, rfl, rfl, _, rfl, ifS nl ?_⟩
      refine ⟨_, rfl, rfl, _, rfl, ifS ns ?_⟩
      refine ⟨_, rfl, rfl, _, rfl, ifS nq ?_⟩
      refine ⟨_, rfl, .inl ⟨rfl, _, SqL.of i1.at⟩, _, rfl, r, rv, _, rfl, rfl, i1.at, rline, ?_⟩
      obtain ⟨b7, u7⟩ := i1.app (v := .str x)
      have hr7 : upd G r (.lst (rv ++ [V.str x])) r = some (.lst (rv ++ [V.str x])) := upd_same
      have hK7 := hK1.put (ys := rv ++ [V.str x]) i1.at
      have hA7 := hA1.put (ys := rv ++ [V.str x]) i1.at
      have hk7 := b7 _ _ hk nku (Ne.symm nrk)
      have fr7 : ∀ p, upd G r (.lst (rv ++ [V.str x])) p = none → H p = none := fun p hp => by
        have hne : r ≠ p := ne_of_none hr7 hp
        rw [upd_ne (Ne.symm hne)] at hp
        exact i1.free hp
      generalize upd G r (.lst (rv ++ [V.str x])) = G7 at b7 u7 hr7 hK7 hA7 hk7 fr7 ⊢
      obtain ⟨kvs, hkv, kk⟩ := hA7
      rcases hM with ⟨hm, hle⟩ | hM
      · -- an unknown word
        obtain ⟨tt, hv, ht⟩ := kk.at hm
        obtain ⟨a0, b0, b1, a3⟩ := tit_ar hgs hm
        obtain ⟨ai, hai⟩ : ∃ ai : Nat, (arOf gs x).1 = ai := ⟨(arOf gs x).1.toNat, by omega⟩
        obtain ⟨bi, hbi⟩ : ∃ bi : Nat, (arOf gs x).2 = bi := ⟨(arOf gs x).2.toNat, by omega⟩
        rw [hai, hbi] at ht
        have hal : ai ≤ ws.length := by
          have := plains_le ks
          omega
        refine ⟨_, rfl, _, rfl, a, some (.ref tt), rfl, .inl ⟨kvs, Sum.inr x, .inl hkv, rfl, hv.symm⟩, true, rfl, iteT ?_⟩
        refine ⟨_, rfl, _, rfl, a, .ref tt, rfl, .inl ⟨kvs, Sum.inr x, .inl hkv, rfl, hv.symm⟩, tt, _, rfl, SqT.of ht, rfl, _, _, rfl, _, _, rfl, rfl, ?_⟩
        refine ⟨_, rfl, _, rfl, k, _, rfl, .inl (SqL.of hk7), _, rfl, _, _, rfl, rfl, _, rfl, k, _, rfl, SqL.of hk7, ?_⟩
        rw [cut_upto hal]
        intro p1 n1
        generalize hG_ : upd G7 p1 _ = G8
        have s8 : Same G7 G8 := (by rw [← hG_]; exact same_new (fun _ _ e => e) n1)
        have h8 := (congrFun hG_ p1).symm.trans upd_same
        clear hG_
        refine ⟨(by show 1 ≤ sizeLine; decide), ?_⟩
        intro p2 n2
        generalize hG_ : upd G8 p2 _ = G9
        have s9 : Same G8 G9 := (by rw [← hG_]; exact same_new (fun _ _ e => e) n2)
        have h9 := (congrFun hG_ p2).symm.trans upd_same
        clear hG_
        refine ⟨_, rfl, ?_⟩
        refine cat_p (H := G7) (kt := ks.take (ks.length - ai)) (st s8 s9) (s9 _ _ h8) (by rw [← hkl]; exact kns_take _ hK7) (by omega) (by rw [List.length_take]; omega) (fun k' Ga ws' sa na ha hKa _ => ?_) h9
        have sz : Same G7 Ga := st s8 (st s9 sa)
        refine q k' _ (.inl x) ws' _ Ga (fun b o e n1 n2 => sz _ _ (b7 b o e n1 n2)) (urn_same sz u7) (sz _ _ hr7) rfl ?_ ha hKa (.word hw (stp_word hO (by omega) (by omega)))
        exact fr7 k' ((st s8 s9).free na)
      · -- a core word
        have hc := core4_mem (ks := ks) hM
        have hno : x ∉ gnames gs := fun z => (core_no hc).2 ((List.Sublist.map (·.1) hgs).subset z)
        refine ⟨_, rfl, _, rfl, a, none, rfl, .inl ⟨kvs, Sum.inr x, .inl hkv, rfl, (kk.no hno).symm⟩, false, rfl, iteF ?_⟩
        refine ⟨_, rfl, _, rfl, x, k, ws, ks, rfl, hk7, hK7, hO, by omega, hM, fun k' ws' ks' Ga sa na ha hKa hS => ?_⟩
        exact q k' _ (.inl x) ws' ks' Ga (fun b o e n1 n2 => sa _ _ (b7 b o e n1 n2)) (urn_same sa u7) (sa _ _ hr7) rfl (fr7 k' na) ha hKa (.word hw hS)
end
end SQ4
namespace SQ4
open PySem L2 SQ
/-! ### _law_built -/
def knL (ks : List Kn) : List PyData := ks.map knD
theorem kn_all {K : PySem.W.Frag} {H : Hp} : ∀ {ws : List V} {ks : List Kn}, Kns H ws ks → DpAll K H ws (knL ks)
  | _, _, .nil => .nil
  | _, _, .cons a b => .cons (dp_kn a) (kn_all b)
theorem kn_sh (ks : List Kn) : SeqAt.shaped (.list (knL ks)) = true := by
  have h : PyData.canLayAll0 (knL ks) = true ∧ PyData.depthAll (knL ks) ≤ 1 := by
    induction ks with
    | nil => exact ⟨by simp [knL, PyData.canLayAll0], by simp [knL, PyData.depthAll]⟩
    | cons k ks ih =>
      have e : PyData.strOk ("p" : Str) = true := by decide +kernel
      show PyData.canLayAll0 (knD k :: knL ks) = true ∧ PyData.depthAll (knD k :: knL ks) ≤ 1
      cases k with
      | p =>
        simp only [knD, PyData.canLayAll0, PyData.canLay0, PyData.depthAll, PyData.depth, ih.1, e]
        exact ⟨rfl, by have := ih.2; omega⟩
      | q a b =>
        simp only [knD, PyData.canLayAll0, PyData.canLay0, PyData.depthAll, PyData.depth, ih.1]
        exact ⟨rfl, by have := ih.2; omega⟩
  unfold SeqAt.shaped
  simp only [PyData.canLay0, PyData.depth, h.1]
  have : PyData.depthAll (knL ks) + 1 ≤ 64 := by omega
  simp [this]
theorem kn_nil (ks : List Kn) : (!PyData.eqv (.list (knL ks)) (.list [])) = decide (ks ≠ []) := by
  cases ks with
  | nil => simp [knL, PyData.eqv, PyData.eqvAll]
  | cons a l => simp [knL, PyData.eqv, PyData.eqvAll]
def nonP (ks : List Kn) : List Kn := ks.filter fun k => !isP k
theorem nonP_nil {ks : List Kn} (h : nonP ks = []) : AllP ks := fun k hk => by
  cases k with
  | p => rfl
  | q a b =>
    have : Kn.q a b ∈ nonP ks := List.mem_filter.mpr ⟨hk, rfl⟩
    rw [h] at this
    cases this
theorem nonP_all {ks : List Kn} (h : AllP ks) : nonP ks = [] := List.filter_eq_nil_iff.mpr fun k hk => by
  rw [h k hk]
  decide
theorem allP_eq {ks : List Kn} (h : AllP ks) : ks = List.replicate ks.length .p := List.eq_replicate_iff.mpr ⟨rfl, h⟩
theorem kns_allP {H : Hp} : ∀ {ws : List V} {n : Nat}, Kns H ws (List.replicate n .p) → ws = List.replicate n (V.str "p")
  | _, 0, .nil => rfl
  | _, n + 1, .cons a b => by
    have e : _ = V.str "p" := a
    rw [e, kns_allP b, List.replicate_succ]
structure BI (H H1 : Hp) (u r k kk : Addr) (rv ws : List V) (l : List El) (ks : List Kn) (G : Hp) : Prop where
  but : But u H G
  urn : urnAt G u
  old : ∀ a, G a = none → H1 a = none
  row : G r = some (.lst rv)
  hk : G kk = some (.lst ws)
  hK : Kns G ws ks
  nrk : r ≠ kk
  kf : kk = k ∨ H kk = none
  hR : RowAt (nw H1 G) rv l
section
variable {P : Program} {w : World} {K : PySem.W.Frag} {mg : Str → Option Value} {base : Heap}
theorem op_neDK {X : Cx} (K : PySem.W.Frag) (h : X.K = K) (hu : X.A.units + 64 < cLine) : OpR X (compareOp .NotEq) (rNeD K) := h ▸ op_neD hu
variable {fC fM fB fS fU fL fO : Addr} {dC dM dB dS dU fdL fdO : FuncData}
theorem ok_built1 (S : StD P w K mg base fC fM fB fS fU dC dM dB dS dU) (B : B2 mg) (BL : Blt mg) {lv : Nat} (hlv : lv ≤ 2) (GS : FnOk P w K mg base CX0 (2 * lv + 4) fS dS ["_law_urn_here", "_law_row_here", "_law_kinds", "_law_arities_here", "_law_level"] (spSt lv)) : FnOk P w K mg base CX0 (2 * lv + 5) fU dU ["_law_urn_here", "_law_arities_here", "_law_kinds", "_law_count", "_law_level"] (spBu lv) := by
  refine S.FU.ok scBlt (fun vs H Q E h => ?_) (fun cdv A outer s H vs Q E hr h => ?_)
  · obtain ⟨u, a, k, c, m, gs, rfl, _⟩ := h
    rfl
  · obtain ⟨u, a, k, c, m, gs, rfl, hu, hk, hm, hc, hA, hgs, q⟩ := h
    refine ⟨_, pss_cons (ps_set (i := 5) scBlt.nd rfl (.inl rfl) (pe_lst pa_nil))
      (pss_cons (ps_for PassesOwn.never rfl (pi_range1 (by rfl) BL.range (pa_cons (pv 3) pa_nil)) (pg_name (i := 6) scBlt.nd rfl (.inl rfl))
        (pss_one (ps_set (i := 2) scBlt.nd rfl (.inl rfl) (pe_call GS hr rfl S.gS S.FS.kp S.bS .nil pass0 (pa_cons (pv 0) (pa_cons (pv 5) (pa_cons (pv 2) (pa_cons (pv 1) (pa_cons (pv 4) pa_nil)))))))))
      (pss_cons (ps_while PassesOwn.never (pt_cmpR (op_neD hr.units) (pe_lc (own := [("_law_kind", 7)]) (g := gName 7) (tt := tTest (tOp (rNeD K) (tVar 7) (tC (.str "p")))) rfl scBlt.nd (pi_list (pv 2)) (blkOk_by (N := nBlt) (sc := defScope sBlt) (by decide +kernel)) (fun _ _ _ _ _ => pg_name (i := 7) scBlt.nd rfl (.inl rfl)) (fun _ _ _ _ _ => pts_one (pt_cmpR (op_neDK K rfl hr.units) (pv 7) pe_str (nomark _))) (fun _ _ _ _ _ => pv 7)) (pe_lst pa_nil) (nomark _))
        (pss_cons (ps_expr (pe_bm PySem.F.plainAttrs_list PySem.F.slot_list_append PySem.F.type_list_append mt_append (pv 5) (pa_cons pe_str pa_nil))) (pss_one (ps_set (i := 2) scBlt.nd rfl (.inl rfl) (pe_slice sl_list (pv 2) po_none (po_some (pe_un un_neg pe_int)))))))
      (pss_one (ps_ret (pe_tup (pa_cons (pv 5) (pa_cons (pv 2) pa_nil))))))), ?_⟩
    have hK : Kns H (List.replicate m (V.str "p")) (List.replicate m .p) := kns_rep m
    have nku : k ≠ u := urn_kns hu hk hK
    have c5 : c ≤ 5 := Nat.le_trans hc (by
      match lv, hlv with
      | 0, _ => decide
      | 1, _ => decide
      | 2, _ => decide)
    -- the row
    refine seq_mid (fun σ G => ∃ r, σ = [some (.ref u), some (.ref a), some (.ref k), some (.int c), some (.int lv), some (.ref r), none, none] ∧ H r = none ∧ Same H G ∧ G r = some (.lst [])) (fun N hN => ?_) ?_
    · refine ⟨(by show 0 ≤ sizeLine; decide), ?_⟩
      intro r n1
      generalize hG_ : upd H r _ = G1
      have s1 : Same H G1 := (by rw [← hG_]; exact same_new (fun _ _ e => e) n1)
      have h1 := (congrFun hG_ r).symm.trans upd_same
      clear hG_
      exact hN _ _ ⟨r, rfl, n1, s1, h1⟩
    rintro _ H1 ⟨r, rfl, nr, s1, h1⟩
    have nru : r ≠ u := (urn_ne hu nr).symm
    have nrk0 : r ≠ k := (ne_of_none hk nr).symm
    have b0 : BI H H1 u r k k [] (List.replicate m (V.str "p")) [] (List.replicate m .p) H1 := ⟨Same.but s1, urn_same s1 hu, fun _ h => h, h1, s1 _ _ hk, hK.same s1, nrk0, .inl rfl, .nil⟩
    -- the words
    refine seq_mid (fun σ G => ∃ kk rv ws l ks v6, σ = [some (.ref u), some (.ref a), some (.ref kk), some (.int c), some (.int lv), some (.ref r), v6, none] ∧ BI H H1 u r k kk rv ws l ks G ∧ Drawn lv (gnames gs) m c l ks) (fun N hN => ?_) ?_
    · refine ⟨_, rfl, c, rfl, by omega, by omega, for_range (lo := 0) (n := c) (fun j σ G => ∃ kk rv ws l ks v6, σ = [some (.ref u), some (.ref a), some (.ref kk), some (.int c), some (.int lv), some (.ref r), v6, none] ∧ BI H H1 u r k kk rv ws l ks G ∧ Drawn lv (gnames gs) m j l ks) ⟨k, _, _, _, _, _, rfl, b0, Drawn.start⟩ ?_ (fun σ G h => hN _ _ h)⟩
      rintro j σ G hj ⟨kk, rv, ws, l, ks, v6, rfl, b, d⟩
      have hrl : rv.length ≤ 200 := by
        have e : rv.length = l.length := Paired.length b.hR
        have h1 := len_size l
        have h2 := (d.fine hlv (by omega) hm (Nat.zero_le _) (fun _ => rfl)).1.sz
        rw [size_app] at h2
        have h3 : szb lv ≤ 58 := by
          match lv, hlv with
          | 0, _ => decide
          | 1, _ => decide
          | 2, _ => decide
        omega
      have ht := d.t
      refine ⟨_, rfl, _, rfl, _, rfl, _, rfl, _, rfl, u, r, kk, a, rv, ws, ks, gs, rfl, b.urn, b.row, nru, hrl, b.hk, b.nrk, b.hK, d.ok, by omega, hA.but hu b.but, hgs, fun k' v e ws' ks' G' bt hu' hr' hE nk' hk' hK' hS => ?_⟩
      refine ⟨k', rv ++ [v], ws', l ++ [e], ks', _, rfl, ⟨fun x o ex nx => ?_, hu', fun x hx => ?_, hr', hk', hK', ne_of_none b.row nk', .inr ?_, ?_⟩, d.step hlv (by omega) hS⟩
      · exact bt x o (b.but x o ex nx) nx (ne_of_none ex nr)
      · refine b.old x ?_
        cases e1 : G x with
        | none => rfl
        | some o =>
          exfalso
          by_cases z1 : x = u
          · subst z1
            obtain ⟨y1, y2, y3, e2⟩ := hu'
            rw [hx] at e2
            cases e2
          · by_cases z2 : x = r
            · subst z2
              rw [hx] at hr'
              cases hr'
            · have := bt x o e1 z1 z2
              rw [hx] at this
              cases this
      · exact but_free b.but b.urn nk'
      · refine RowAt.app (b.hR.same (nw_old (fun _ h => h) fun x o hx ex => ?_)) (.cons (hE.same (nw_old (fun x hx => b.old x hx) fun x o _ ex => ex)) .nil)
        refine bt x o ex (fun z => ?_) (fun z => ?_)
        · subst z
          obtain ⟨y1, y2, y3, e2⟩ := urn_same s1 hu
          rw [hx] at e2
          cases e2
        · subst z
          rw [hx] at h1
          cases h1
    rintro _ G ⟨kk, rv, ws, l, ks, v6, rfl, b, d⟩
    have hrl : l.length ≤ 58 ∧ ks.length ≤ 100 := by
      have h1 := len_size l
      have h2 := (d.fine hlv hc hm (Nat.zero_le _) (fun _ => rfl)).1.sz
      rw [size_app] at h2
      have h3 : szb lv ≤ 58 := by
        match lv, hlv with
        | 0, _ => decide
        | 1, _ => decide
        | 2, _ => decide
      have h4 := sumK_len wT_pos ks
      have h5 := d.t
      omega
    have e0 : rv.length = l.length := Paired.length b.hR
    -- the quotations are dropped
    refine seq_mid (fun σ G => ∃ kk ws d, σ = [some (.ref u), some (.ref a), some (.ref kk), some (.int c), some (.int lv), some (.ref r), v6, none] ∧ BI H H1 u r k kk (rv ++ List.replicate d (V.str "(a-)")) ws (l ++ drops d) (ks.take (ks.length - d)) G ∧ d ≤ ks.length ∧ (AllP ks → d = 0) ∧ AllP (ks.take (ks.length - d))) (fun N hN => ?_) ?_
    · refine ⟨fun mm σ G => ∃ kk ws d, σ = [some (.ref u), some (.ref a), some (.ref kk), some (.int c), some (.int lv), some (.ref r), v6, none] ∧ BI H H1 u r k kk (rv ++ List.replicate d (V.str "(a-)")) ws (l ++ drops d) (ks.take (ks.length - d)) G ∧ d ≤ ks.length ∧ (AllP ks → d = 0) ∧ mm = ks.length - d, ⟨_, kk, ws, 0, rfl, ?_, Nat.zero_le _, fun _ => rfl, rfl⟩, ?_⟩
      · rw [Nat.sub_zero, List.take_length]
        have e1 : rv ++ List.replicate 0 (V.str "(a-)") = rv := List.append_nil _
        have e2 : l ++ drops 0 = l := List.append_nil _
        rw [e1, e2]
        exact b
      clear b
      rintro mm σ G ⟨kk, ws, d, rfl, b, hd, hp, rfl⟩
      refine ⟨_, rfl, kk, rfl, ⟨_, SqL.of b.hk⟩, fun D hD => ?_⟩
      have kl := b.hK.len
      have kl2 : (ks.take (ks.length - d)).length ≤ 100 := by
        rw [List.length_take]
        omega
      generalize hkc : ks.take (ks.length - d) = kc at b kl kl2
      refine lc_list (K := K) (a := kk) (xs := ws) (fun i G2 => ∃ zs, Same G G2 ∧ G2 D = some (.lst zs) ∧ Kns G2 zs (nonP (kc.take i))) ⟨[], same_new (fun _ _ e => e) hD, upd_same, .nil⟩ (fun i G2 _ ⟨_, s2, _⟩ => SqL.of (s2 _ _ b.hk)) ?_ ?_
      · rintro i x G2 hi ⟨zs, s2, hD2, hz⟩
        obtain ⟨kd, hkd, kx⟩ := Paired.at (F := _) (b.hK.same s2) hi
        have zl := hz.len
        have zl2 : (nonP (kc.take i)).length ≤ 100 := by
          refine Nat.le_trans (List.length_filter_le _ _) ?_
          rw [List.length_take]
          omega
        refine ⟨rfl, _, rfl, _, _, dp_kn kx, .str "p", sh_kn kd, sh_kn .p, _, rfl, ?_⟩
        rw [kn_ne]
        have e2 : nonP (kc.take (i + 1)) = nonP (kc.take i) ++ (if (!isP kd) = true then [kd] else []) := by
          unfold nonP
          rw [take_more hkd, List.filter_append]
          congr 1
          cases kd with
          | p => rfl
          | q a b => rfl
        rw [e2]
        refine ite2 (fun h => ⟨_, rfl, zs, hD2, Nat.lt_of_le_of_lt (by omega : zs.length ≤ 100) (by decide), zs ++ [x], ?_, upd_same, ?_⟩) (fun h => ⟨zs, s2, hD2, ?_⟩)
        · intro y o e
          rw [upd_ne (ne_of_none e hD)]
          exact s2 _ _ e
        · rw [if_pos h]
          exact Kns.put hD2 (Kns.app hz (kn1 kx))
        · rw [if_neg h, List.append_nil]
          exact hz
      · rintro G2 ⟨zs, s2, hD2, hz⟩
        rw [kl, List.take_length] at hz
        refine ⟨(by show 0 ≤ sizeLine; decide), ?_⟩
        intro p3 n3
        generalize hG_ : upd G2 p3 _ = G3'
        have s3 : Same G2 G3' := (by rw [← hG_]; exact same_new (fun _ _ e => e) n3)
        have h3 := (congrFun hG_ p3).symm.trans upd_same
        clear hG_
        refine ⟨_, _, .lst (SqL.of (s3 _ _ hD2)) (kn_all (hz.same s3)), .lst (SqL.of h3) .nil, kn_sh _, sh_nilL, _, rfl, ?_⟩
        rw [kn_nil]
        have z3 : Same G G3' := st s2 s3
        have b3 : BI H H1 u r k kk (rv ++ List.replicate d (V.str "(a-)")) ws (l ++ drops d) kc G3' := ⟨b.but.trans (Same.but z3), urn_same z3 b.urn, fun x hx => b.old x (z3.free hx), z3 _ _ b.row, z3 _ _ b.hk, b.hK.same z3, b.nrk, b.kf, b.hR.same (nw_old (fun _ h => h) fun x o _ e => z3 _ _ e)⟩
        by_cases hnil : nonP kc = []
        · rw [decide_eq_false (fun z => z hnil)]
          refine iteF (hN _ _ ⟨kk, ws, d, rfl, ?_, hd, hp, ?_⟩)
          · rw [hkc]
            exact b3
          · rw [hkc]
            exact nonP_nil hnil
        · rw [decide_eq_true hnil]
          refine iteT ⟨_, fun _ _ h => h, ?_⟩
          have hne : ¬ AllP kc := fun z => hnil (nonP_all z)
          have dlt : d < ks.length := by
            rcases Nat.lt_or_ge d ks.length with z | z
            · exact z
            · exfalso
              have e3 : ks.length - d = 0 := by omega
              rw [e3, List.take_zero] at hkc
              exact hne (by rw [← hkc]; exact fun _ h => nomatch h)
          refine ⟨_, rfl, .inl ⟨rfl, _, SqL.of b3.row⟩, ?_⟩
          refine ⟨r, _, _, rfl, rfl, b3.row, Nat.lt_of_le_of_lt (by rw [List.length_append, List.length_replicate]; omega : _ ≤ 300) (by decide), ?_⟩
          have hk4 : upd G3' r (.lst (rv ++ List.replicate d (V.str "(a-)") ++ [V.str "(a-)"])) kk = some (.lst ws) := by
            rw [upd_ne (Ne.symm b3.nrk)]
            exact b3.hk
          have hK4 := b3.hK.put (ys := rv ++ List.replicate d (V.str "(a-)") ++ [V.str "(a-)"]) b3.row
          obtain ⟨kb, k1, ek⟩ : ∃ kb k1, kc = kb ++ [k1] := by
            rcases List.eq_nil_or_concat kc with e | ⟨kb, k1, e⟩
            · exact absurd (by rw [e]; exact fun _ h => nomatch h) hne
            · exact ⟨kb, k1, by rw [e, List.concat_eq_append]⟩
          rw [ek] at hK4
          obtain ⟨wb, x1, ew, hKb, _⟩ := kns_snoc hK4
          refine ⟨_, rfl, _, rfl, _, rfl, kk, ws, rfl, SqL.of hk4, ?_⟩
          rw [ew, cut_m1]
          have hr4 : upd G3' r (.lst (rv ++ List.replicate d (V.str "(a-)") ++ [V.str "(a-)"])) r = some (.lst (rv ++ List.replicate d (V.str "(a-)") ++ [V.str "(a-)"])) := upd_same
          have bt4 : But u H (upd G3' r (.lst (rv ++ List.replicate d (V.str "(a-)") ++ [V.str "(a-)"]))) := fun x o e n => by
            rw [upd_ne (ne_of_none e nr)]
            exact b3.but x o e n
          have ur4 : urnAt (upd G3' r (.lst (rv ++ List.replicate d (V.str "(a-)") ++ [V.str "(a-)"]))) u := by
            obtain ⟨x, y, z, e⟩ := b3.urn
            exact ⟨x, y, z, by rw [upd_ne (Ne.symm nru)]; exact e⟩
          have od4 : ∀ x, upd G3' r (.lst (rv ++ List.replicate d (V.str "(a-)") ++ [V.str "(a-)"])) x = none → H1 x = none := fun x hx => by
            have : r ≠ x := ne_of_none hr4 hx
            rw [upd_ne (Ne.symm this)] at hx
            exact b3.old x hx
          have hR4 : RowAt (nw H1 (upd G3' r (.lst (rv ++ List.replicate d (V.str "(a-)") ++ [V.str "(a-)"])))) (rv ++ List.replicate d (V.str "(a-)")) (l ++ drops d) := b3.hR.same (nw_old (fun _ h => h) fun x o hx e => by
            have : x ≠ r := fun z => by
              rw [z, h1] at hx
              cases hx
            rw [upd_ne this]
            exact e)
          generalize upd G3' r (.lst (rv ++ List.replicate d (V.str "(a-)") ++ [V.str "(a-)"])) = G4 at hk4 hK4 hKb hr4 bt4 ur4 od4 hR4 ⊢
          intro p5 n5
          generalize hG_ : upd G4 p5 _ = G5
          have s5 : Same G4 G5 := (by rw [← hG_]; exact same_new (fun _ _ e => e) n5)
          have h5 := (congrFun hG_ p5).symm.trans upd_same
          clear hG_
          have e6 : rv ++ List.replicate (d + 1) (V.str "(a-)") = rv ++ List.replicate d (V.str "(a-)") ++ [V.str "(a-)"] := by
            rw [List.replicate_succ', List.append_assoc]
          have e7 : l ++ drops (d + 1) = (l ++ drops d) ++ [.inl "(a-)"] := by
            unfold drops
            rw [List.replicate_succ', List.append_assoc]
          have e8 : ks.take (ks.length - (d + 1)) = kb := by
            have h9 : kb = kc.take (kc.length - 1) := by
              rw [ek]
              simp
            rw [h9, ← hkc, List.take_take, List.length_take]
            congr 1
            omega
          refine ⟨_, by omega, p5, wb, d + 1, rfl, ?_, dlt, fun z => ?_, rfl⟩
          · rw [e6, e7, e8]
            exact ⟨bt4.trans (Same.but s5), urn_same s5 ur4, fun x hx => od4 x (s5.free hx), s5 _ _ hr4, h5, hKb.same s5, ne_of_none hr4 n5, .inr (but_free bt4 ur4 n5), RowAt.app (hR4.same (nw_old (fun _ h => h) fun x o _ e => s5 _ _ e)) (.cons rfl .nil)⟩
          · exact absurd (fun x hx => z x (by rw [← hkc] at hx; exact List.mem_of_mem_take hx)) hne
    rintro _ G2 ⟨kk, ws, dd, rfl, b2, hd, hp, ha⟩
    refine ⟨_, rfl, _, rfl, (by show 2 ≤ sizeLine; decide), ?_⟩
    intro pt nt
    generalize hG_ : upd G2 pt _ = G3'
    have s3 : Same G2 G3' := (by rw [← hG_]; exact same_new (fun _ _ e => e) nt)
    have h3 := (congrFun hG_ pt).symm.trans upd_same
    clear hG_
    obtain ⟨f1, f2⟩ := d.fine hlv hc hm hd hp
    have el : (ks.take (ks.length - dd)).length = ks.length - dd := by
      rw [List.length_take]
      omega
    have hws : ws = List.replicate (ks.length - dd) (V.str "p") := by
      have h5 := b2.hK
      rw [allP_eq ha, el] at h5
      exact kns_allP h5
    refine q pt r kk _ (l ++ drops dd) (ks.length - dd) G3' (b2.but.trans (Same.but s3)) (urn_same s3 b2.urn) h3 nr (s3 _ _ b2.row) (b2.hR.same (nw_old (fun x hx => s1.free hx) fun x o _ e => s3 _ _ e)) f1 ?_ b2.kf f2
    rw [← hws]
    exact s3 _ _ b2.hk
theorem ok_built (S : StD P w K mg base fC fM fB fS fU dC dM dB dS dU) (B : B2 mg) (BL : Blt mg) (D : Drw K mg fL fO fdL fdO) : ∀ lv, lv ≤ 2 → FnOk P w K mg base CX0 (2 * lv + 5) fU dU ["_law_urn_here", "_law_arities_here", "_law_kinds", "_law_count", "_law_level"] (spBu lv)
  | 0, h => ok_built1 S B BL h (ok_step S B BL D h (S.FU.ok scBlt (fun vs H Q E h => h.elim) (fun cdv A outer s H vs Q E hr h => h.elim)))
  | lv + 1, h => ok_built1 S B BL h (ok_step S B BL D h (ok_built S B BL D lv (by omega)))
end
end SQ4
namespace SQ4
open PySem L2 SQ
/-! ### sorted texts are unique -/
theorem rising_pw : ∀ (l : List Str) (p : Str), PyProof.Rows.risingS p l = true → (p :: l).Pairwise fun a b => a.cps.toList ≤ b.cps.toList
  | [], p, _ => List.pairwise_singleton _ _
  | x :: l, p, h => by
    have h' : (!Spec.ltCps x.cps.toList p.cps.toList && PyProof.Rows.risingS x l) = true := h
    rw [Bool.and_eq_true, PyProof.Rows.ltCps_eq] at h'
    have h1 : p.cps.toList ≤ x.cps.toList := by
      have := h'.1
      simp only [Bool.not_eq_true', decide_eq_false_iff_not] at this
      exact List.not_lt.mp this
    have h2 := rising_pw l x h'.2
    refine List.pairwise_cons.mpr ⟨fun y hy => ?_, h2⟩
    rcases List.mem_cons.mp hy with rfl | hy
    · exact h1
    · exact List.le_trans h1 ((List.pairwise_cons.mp h2).1 y hy)
theorem sorted_pw {l : List Str} (h : PyProof.Rows.sortedS l = true) : l.Pairwise fun a b => a.cps.toList ≤ b.cps.toList := by
  cases l with
  | nil => exact List.Pairwise.nil
  | cons x l => exact rising_pw l x h
theorem sorted_one {l m : List Str} (hl : PyProof.Rows.sortedS l = true) (hm : PyProof.Rows.sortedS m = true) (p : l.Perm m) : l = m := by
  refine List.Perm.eq_of_pairwise (fun a b _ _ h1 h2 => ?_) (sorted_pw hl) (sorted_pw hm) p
  have e := List.le_antisymm h1 h2
  obtain ⟨ca⟩ := a
  obtain ⟨cb⟩ := b
  have e' : ca = cb := Array.toList_inj.mp e
  rw [e']
/-! ### what is kept of data -/
structure Keep (H H' : Hp) : Prop where
  tup : ∀ a xs, H a = some (.tup xs) → H' a = some (.tup xs)
  lst : ∀ a xs, H a = some (.lst xs) → ∃ ys, H' a = some (.lst ys)
  dK : ∀ a kvs, H a = some (.dK kvs) → H' a = some (.dK kvs)
theorem Keep.same {H H' : Hp} (s : Same H H') : Keep H H' := ⟨fun a _ e => s a _ e, fun a xs e => ⟨xs, s a _ e⟩, fun a _ e => s a _ e⟩
theorem Keep.ext {H H' : Hp} (s : LamX.ExtN H H') : Keep H H' := ⟨fun a _ e => s a _ e (fun _ z => nomatch z), fun a xs e => ⟨xs, s a _ e (fun _ z => nomatch z)⟩, fun a _ e => s a _ e (fun _ z => nomatch z)⟩
theorem Keep.but {u : Addr} {H H' : Hp} (b : But u H H') (hu : urnAt H u) (hu' : urnAt H' u) : Keep H H' := by
  obtain ⟨x, y, z, e0⟩ := hu
  obtain ⟨x', y', z', e1⟩ := hu'
  refine ⟨fun a xs e => b a _ e ?_, fun a xs e => ?_, fun a kvs e => b a _ e ?_⟩
  · exact ne_of e e0 (by intro z; cases z)
  · by_cases h : a = u
    · subst h
      exact ⟨_, e1⟩
    · exact ⟨xs, b a _ e h⟩
  · exact ne_of e e0 (by intro z; cases z)
theorem Keep.trans {H H1 H2 : Hp} (a : Keep H H1) (b : Keep H1 H2) : Keep H H2 := ⟨fun x xs e => b.tup _ _ (a.tup _ _ e), fun x xs e => let ⟨_, e1⟩ := a.lst _ _ e; b.lst _ _ e1, fun x k e => b.dK _ _ (a.dK _ _ e)⟩
theorem Kd.keep {H H' : Hp} {v : V} {t : String} (s : Keep H H') (k : Kd H v t) : Kd H' v t := by
  cases k with
  | non => exact .non
  | bl b => exact .bl b
  | int i => exact .int i
  | str x h => exact .str x h
  | lst e =>
    obtain ⟨ys, e1⟩ := s.lst _ _ e
    exact .lst e1
  | tup e => exact .tup (s.tup _ _ e)
  | dic e => exact .dic (s.dK _ _ e)
theorem Ent.keep {H H' : Hp} {v : V} {o : En} (s : Keep H H') (k : Ent H v o) : Ent H' v o := by
  cases k with
  | no k ht => exact .no (k.keep s) ht
  | len e h => exact .len (s.tup _ _ e) h
  | bad e kx ky kz h => exact .bad (s.tup _ _ e) (kx.keep s) (ky.keep s) (kz.keep s) h
  | good e hn h => exact .good (s.tup _ _ e) hn h
end SQ4
namespace SQ4
open PySem L2 SQ
abbrev sSE : Stmt := top 30
abbrev sSS : Stmt := top 31
/-! ### what a text says -/
def digOf (a : Str) : Option Int := if a = "0" then some 0 else if a = "1" then some 1 else if a = "2" then some 2 else if a = "3" then some 3 else none
def rawOf : List Str → Option (Str × Int × Int)
  | [n, a, b] => (digOf a).bind fun i => (digOf b).map fun j => (n, i, j)
  | _ => none
def goodRaw : Option (Str × Int × Int) → En
  | some (n, i, j) => if isFree (.str n) = true then some (n, i, j) else none
  | none => none
def entryOf (p : Str) : En := goodRaw (rawOf (Txt.split p " "))
def partsOf (x : Str) : List Str := if x = "" then [] else Txt.split x ", "
def ensOf (x : Str) : List En := (partsOf x).map entryOf
theorem dig_ar {a : Str} {i : Int} (h : digOf a = some i) : 0 ≤ i ∧ i ≤ 3 ∧ a = (toString i : String) := by
  unfold digOf at h
  split at h
  · cases h
    rename_i e
    exact ⟨by decide, by decide, e⟩
  split at h
  · cases h
    rename_i e
    exact ⟨by decide, by decide, e⟩
  split at h
  · cases h
    rename_i e
    exact ⟨by decide, by decide, e⟩
  split at h
  · cases h
    rename_i e
    exact ⟨by decide, by decide, e⟩
  · cases h
theorem ar_dig {i : Int} (h0 : 0 ≤ i) (h1 : i ≤ 3) : digOf ((toString i : String) : Str) = some i := by
  rcases four h0 h1 with rfl | rfl | rfl | rfl <;> decide +kernel
theorem isAr_of {i : Int} (h0 : 0 ≤ i) (h1 : i ≤ 3) : isAr (.int i) = true := by
  show (decide (0 ≤ i) && decide (i ≤ 3)) = true
  rw [decide_eq_true h0, decide_eq_true h1]
  rfl
theorem raw_ok {p n : Str} {i j : Int} (h : rawOf (Txt.split p " ") = some (n, i, j)) : Txt.split p " " = [n, ((toString i : String) : Str), ((toString j : String) : Str)] ∧ (0 ≤ i ∧ i ≤ 3) ∧ 0 ≤ j ∧ j ≤ 3 := by
  generalize hs : Txt.split p " " = l at h
  match l, h with
  | [n', a, b], h =>
    have h' : ((digOf a).bind fun i => (digOf b).map fun j => (n', i, j)) = some (n, i, j) := h
    cases ha : digOf a with
    | none =>
      rw [ha] at h'
      cases h'
    | some i' =>
      cases hb : digOf b with
      | none =>
        rw [ha, hb] at h'
        cases h'
      | some j' =>
        rw [ha, hb] at h'
        cases h'
        obtain ⟨a1, a2, a3⟩ := dig_ar ha
        obtain ⟨b1, b2, b3⟩ := dig_ar hb
        exact ⟨by rw [a3, b3], ⟨a1, a2⟩, b1, b2⟩
  | [], h => cases h
  | [_], h => cases h
  | [_, _], h => cases h
  | _ :: _ :: _ :: _ :: _, h => cases h
/-- the values that split_entry hands out -/
def RawAt (H : Hp) (v : V) : Option (Str × Int × Int) → Prop
  | none => v = .non
  | some (n, i, j) => ∃ a, v = .ref a ∧ H a = some (.tup [.str n, .int i, .int j])
theorem raw_ent {H : Hp} {v : V} {p : Str} (hp : p.length ≤ 1000) (r : RawAt H v (rawOf (Txt.split p " "))) : Ent H v (entryOf p) := by
  unfold entryOf
  cases hq : rawOf (Txt.split p " ") with
  | none =>
    rw [hq] at r
    have r' : v = .non := r
    subst r'
    exact .no .non (by decide)
  | some g =>
    obtain ⟨n, i, j⟩ := g
    rw [hq] at r
    obtain ⟨a, rfl, ha⟩ := r
    obtain ⟨hs, ⟨i0, i3⟩, j0, j3⟩ := raw_ok hq
    have hn : n.length ≤ 1000 := Nat.le_trans (PyProof.Rows.part_short (x := p) (y := " ") (by rw [hs]; exact List.mem_cons_self)) hp
    show Ent H (.ref a) (if isFree (.str n) = true then some (n, i, j) else none)
    by_cases hf : isFree (.str n) = true
    · rw [if_pos hf]
      exact .good ha hn (by rw [hf, isAr_of i0 i3, isAr_of j0 j3]; rfl)
    · rw [if_neg hf]
      exact .bad ha (.str n hn) (.int i) (.int j) (by rw [Bool.eq_false_iff.mpr hf]; rfl)
/-- DIGITS -/
structure Dg (K : PySem.W.Frag) (w : World) (mg : Str → Option Value) (dD : Addr) (es : Array DictEntry) (nn : Nat) : Prop where
  g : mg "DIGITS" = some (.ref dD)
  D : KDict K w dD es nn
  look : ∀ z : Str, ∃ r : Option Value, PySem.W.nsIn K dD z = some r ∧ (∀ i, digOf z = some i → ∃ t, r = some (.int i t)) ∧ (digOf z = none → r = none)
section
variable {P : Program} {w : World} {K : PySem.W.Frag} {mg : Str → Option Value} {base : Heap} {dD fSE : Addr} {es : Array DictEntry} {nn : Nat} {dSE : FuncData}
theorem Dg.some {z : Str} {r : Option Value} (h1 : ∀ i, digOf z = some i → ∃ t, r = some (.int i t)) (h2 : digOf z = none → r = none) : r.isSome = (digOf z).isSome := by
  cases h : digOf z with
  | none =>
    rw [h2 h]
    rfl
  | some i =>
    obtain ⟨t, rfl⟩ := h1 i h
    rfl
def spSE : Sp := fun vs H Q _ => ∃ p : Str, vs = [.str p] ∧ p.length ≤ 1000 ∧ ∀ v H', Same H H' → RawAt H' v (rawOf (Txt.split p " ")) → Q v H'
theorem scSE : FnScope ["text", "fields", "name", "inputs", "outputs"] ["text"] (defScope sSE) := ⟨rfl, rfl, rfl, by decide +kernel, rfl, by decide +kernel, by decide +kernel⟩
theorem ok_se {f : Addr} {fd : FuncData} (F : Fun K "split_entry" "split_entry" sSE f fd) (B : B2 mg) (D : Dg K w mg dD es nn) : FnOk P w K mg base CX0 1 f fd ["text"] spSE := by
  refine F.ok scSE (fun vs H Q E h => ?_) (fun cdv A outer s H vs Q E hr h => ?_)
  · obtain ⟨p, rfl, _⟩ := h
    rfl
  · obtain ⟨p, rfl, hp, q⟩ := h
    refine ⟨_, pss_cons (ps_set (i := 1) scSE.nd rfl (.inl rfl) (pe_split (pv 0) pe_str))
      (pss_cons (ps_if (pt_cmpR op_ne (pe_callB call_len_seq (by rfl) B.len PySem.boot_len (pa_cons (pv 1) pa_nil)) pe_int (nomark _)) (pss_one (ps_ret pe_non)) pss_nil)
      (pss_cons (ps_asg (pv 1) (pg_lst rfl (pgs_cons (pg_name (i := 2) scSE.nd rfl (.inl rfl)) (pgs_cons (pg_name (i := 3) scSE.nd rfl (.inl rfl)) (pgs_cons (pg_name (i := 4) scSE.nd rfl (.inl rfl)) pgs_nil)))))
      (pss_cons (ps_if (PW.pt (pw_or (pt_cmpR (op_notIn_kd D.D) (pv 3) (pe_glob (v := .ref dD) rfl D.g rfl) (by rfl)) (pw_or1 (pt_cmpR (op_notIn_kd D.D) (pv 4) (pe_glob (v := .ref dD) rfl D.g rfl) (by rfl))))) (pss_one (ps_ret pe_non)) pss_nil)
      (pss_one (ps_ret (pe_tup (pa_cons (pv 2) (pa_cons (pe_ix ix_kdict (pe_glob (v := .ref dD) rfl D.g rfl) (pv 3) (fun _ _ => rfl)) (pa_cons (pe_ix ix_kdict (pe_glob (v := .ref dD) rfl D.g rfl) (pv 4) (fun _ _ => rfl)) pa_nil))))))))), ?_⟩
    refine ⟨_, rfl, ⟨_, rfl⟩, _, _, rfl, rfl, (by decide +kernel), Nat.le_trans (Nat.add_le_add_right hp 2) (by decide), fun l nl => ?_⟩
    have s1 : Same H (upd H l (.lst ((Txt.split p " ").map V.str))) := same_new (fun _ _ e => e) nl
    have h1 : upd H l (.lst ((Txt.split p " ").map V.str)) l = some (.lst ((Txt.split p " ").map V.str)) := upd_same
    generalize upd H l (.lst ((Txt.split p " ").map V.str)) = H1 at s1 h1 ⊢
    refine ⟨_, rfl, l, _, rfl, .inl (SqL.of h1), rfl, _, rfl, ?_⟩
    rw [List.length_map]
    have q1 := fun v => q v H1 s1
    generalize hs : Txt.split p " " = fs at q q1 h1 ⊢
    by_cases h3 : fs.length = 3
    · have e3 : ¬ ¬ V.int (fs.length : Int) = V.int 3 := fun z => z (by rw [h3]; rfl)
      obtain ⟨n, a, b, rfl⟩ : ∃ n a b, fs = [n, a, b] := by
        match fs, h3 with
        | [n, a, b], _ => exact ⟨n, a, b, rfl⟩
      refine iteNS rfl ?_
      refine ⟨_, rfl, l, _, rfl, SqL.of h1, rfl, _, _, rfl, _, _, rfl, _, _, rfl, rfl, ?_⟩
      obtain ⟨ra, ea, a1, a2⟩ := D.look a
      obtain ⟨rb, eb, b1, b2⟩ := D.look b
      refine ⟨_, rfl, a, ra, rfl, rfl, ea, _, rfl, ?_⟩
      rw [Dg.some a1 a2]
      cases ha : digOf a with
      | none =>
        refine iteT (iteT (q1 .non ?_))
        show RawAt H1 .non ((digOf a).bind fun i => (digOf b).map fun j => (n, i, j))
        rw [ha]
        exact rfl
      | some i =>
        refine iteF ⟨_, rfl, b, rb, rfl, rfl, eb, _, rfl, ?_⟩
        rw [Dg.some b1 b2]
        cases hb : digOf b with
        | none =>
          refine iteT (q1 .non ?_)
          show RawAt H1 .non ((digOf a).bind fun i => (digOf b).map fun j => (n, i, j))
          rw [ha, hb]
          exact rfl
        | some j =>
          obtain ⟨ta, rfl⟩ := a1 i ha
          obtain ⟨tb, rfl⟩ := b1 j hb
          refine iteF ⟨_, rfl, _, rfl, dD, a, .int i, rfl, rfl, ⟨es, nn, _, D.D.at_, D.D.lit, ea, ⟨ta, rfl⟩⟩, _, rfl, dD, b, .int j, rfl, rfl, ⟨es, nn, _, D.D.at_, D.D.lit, eb, ⟨tb, rfl⟩⟩, (by show 3 ≤ sizeLine; decide), fun t nt => ?_⟩
          refine q _ _ (same_new s1 nt) ?_
          show RawAt _ _ ((digOf a).bind fun i => (digOf b).map fun j => (n, i, j))
          rw [ha, hb]
          exact ⟨t, rfl, upd_same⟩
    · have ne : ¬ V.int (fs.length : Int) = V.int 3 := fun z => h3 (by have := V.int.inj z; omega)
      rw [decide_eq_false ne]
      refine iteT (q1 .non ?_)
      have e : rawOf fs = none := by
        match fs, h3 with
        | [], _ => rfl
        | [_], _ => rfl
        | [_, _], _ => rfl
        | [_, _, _], h => exact absurd rfl h
        | _ :: _ :: _ :: _ :: _, _ => rfl
      rw [e]
      exact rfl
end
end SQ4
namespace SQ4
open PySem L2 SQ
abbrev sRd : Stmt := inClass (top 32) 1
section
variable {P : Program} {w : World} {K : PySem.W.Frag} {mg : Str → Option Value} {base : Heap} {dD fSE : Addr} {es : Array DictEntry} {nn : Nat} {dSE : FuncData}
structure S3 (K : PySem.W.Frag) (mg : Str → Option Value) (fSE fSS : Addr) (dSE dSS : FuncData) : Prop where
  gE : mg "split_entry" = some (.ref fSE)
  FE : Fun K "split_entry" "split_entry" sSE fSE dSE
  bE : Binds K dSE ["text"] []
  gS : mg "split_entries" = some (.ref fSS)
  FS : Fun K "split_entries" "split_entries" sSS fSS dSS
  bS : Binds K dSS ["text"] []
def spSS : Sp := fun vs H Q _ => ∃ x : Str, vs = [.str x] ∧ x.length ≤ 1000 ∧ ∀ (l : Addr) (ws : List V) (H' : Hp), Same H H' → H' l = some (.lst ws) → Ents H' ws (ensOf x) → Q (.ref l) H'
theorem scSS : FnScope ["text", "part"] ["text"] (defScope sSS) := ⟨rfl, rfl, rfl, by decide +kernel, rfl, by decide +kernel, by decide +kernel⟩
theorem ents_snoc {H : Hp} {xs : List V} {os : List En} {v : V} {o : En} (h : Ents H xs os) (e : Ent H v o) : Ents H (xs ++ [v]) (os ++ [o]) := Paired.snoc h e
theorem ok_ss {fSS : Addr} {dSS : FuncData} (S : S3 K mg fSE fSS dSE dSS) (B : B2 mg) (D : Dg K w mg dD es nn) : FnOk P w K mg base CX0 2 fSS dSS ["text"] spSS := by
  have GE : FnOk P w K mg base CX0 1 fSE dSE ["text"] spSE := ok_se S.FE B D
  refine S.FS.ok scSS (fun vs H Q E h => ?_) (fun cdv A outer s H vs Q E hr h => ?_)
  · obtain ⟨x, rfl, _⟩ := h
    rfl
  · obtain ⟨x, rfl, hx, q⟩ := h
    refine ⟨_, pss_cons (ps_if (pt_cmpR op_eq (pv 0) pe_str (nomark _)) (pss_one (ps_ret (pe_lst pa_nil))) pss_nil)
      (pss_one (ps_ret (pe_lc (own := [("part", 1)]) (g := gName 1) (tt := tYes) rfl scSS.nd (pi_list (pe_split (pv 0) pe_str)) (blkOk_by (N := ["text", "part"]) (sc := defScope sSS) (by decide +kernel)) (fun _ _ _ _ _ => pg_name (i := 1) scSS.nd rfl (.inl rfl)) (fun _ _ _ _ _ => pts_nil)
        (fun _ _ _ _ _ => pe_call GE hr rfl S.gE S.FE.kp S.bE .nil pass0 (pa_cons (pv 1) pa_nil))))), ?_⟩
    refine ⟨_, rfl, rfl, _, rfl, ?_⟩
    by_cases h0 : x = ""
    · subst h0
      refine iteT ⟨by show 0 ≤ sizeLine; decide, fun l nl => ?_⟩
      exact q l [] _ (same_new (fun _ _ e => e) nl) upd_same .nil
    · have ne : ¬ V.str x = V.str "" := fun z => h0 (V.str.inj z)
      rw [decide_eq_false ne]
      refine iteF ?_
      have hp : ensOf x = (Txt.split x ", ").map entryOf := by
        unfold ensOf partsOf
        rw [if_neg h0]
      rw [hp] at q
      refine ⟨_, rfl, ⟨_, rfl⟩, _, _, rfl, rfl, (by decide +kernel), Nat.le_trans (Nat.add_le_add_right hx 2) (by decide), fun l nl => ?_⟩
      have s1 : Same H (upd H l (.lst ((Txt.split x ", ").map V.str))) := same_new (fun _ _ e => e) nl
      have h1 : upd H l (.lst ((Txt.split x ", ").map V.str)) l = some (.lst ((Txt.split x ", ").map V.str)) := upd_same
      generalize upd H l (.lst ((Txt.split x ", ").map V.str)) = H1 at s1 h1 ⊢
      have hsh : ∀ p ∈ Txt.split x ", ", p.length ≤ 1000 := fun p hp => Nat.le_trans (PyProof.Rows.part_short hp) hx
      have hll : (Txt.split x ", ").length ≤ 1002 := Nat.le_trans (PyProof.Rows.split_le x ", ") (by omega)
      generalize Txt.split x ", " = ps at q h1 hsh hll ⊢
      refine ⟨l, rfl, ⟨_, SqL.of h1⟩, fun Dd hD => ?_⟩
      refine lc_list (K := K) (a := l) (xs := ps.map V.str) (fun i H2 => ∃ ws, H2 Dd = some (.lst ws) ∧ Ents H2 ws ((ps.take i).map entryOf) ∧ Same H1 H2) ⟨[], upd_same, .nil, same_new (fun _ _ e => e) hD⟩ (fun i H2 _ ⟨_, _, _, s2⟩ => SqL.of (s2 _ _ h1)) ?_ ?_
      · rintro i v H2 hi ⟨ws, hD2, en, s2⟩
        rw [List.getElem?_map] at hi
        cases hg : ps[i]? with
        | none =>
          rw [hg] at hi
          cases hi
        | some p =>
          rw [hg] at hi
          cases hi
          have hpl := hsh p (List.mem_of_getElem? hg)
          refine ⟨rfl, keptT ⟨_, rfl, p, rfl, hpl, fun v H3 s3 ra => ?_⟩⟩
          have hD3 := s3 _ _ hD2
          have hl := Paired.length en
          have el := raw_ent hpl ra
          have lb : ws.length ≤ 1002 := by
            rw [hl, List.length_map, List.length_take]
            omega
          refine ⟨ws, hD3, Nat.lt_of_le_of_lt lb (by decide), ws ++ [v], upd_same, ?_, ?_⟩
          · rw [take_more hg, List.map_append]
            have e4 := ents_snoc (en.same s3) el
            refine Paired.mapP e4 fun y o ey => ?_
            refine ey.keep ⟨fun a xs e => ?_, fun a xs e => ?_, fun a kvs e => ?_⟩
            · rw [upd_ne (ne_of e hD3 (by intro z; cases z))]
              exact e
            · by_cases ha : a = Dd
              · subst ha
                exact ⟨_, upd_same⟩
              · exact ⟨xs, by rw [upd_ne ha]; exact e⟩
            · rw [upd_ne (ne_of e hD3 (by intro z; cases z))]
              exact e
          · intro b o e
            rw [upd_ne (ne_of_none e hD)]
            exact s3 _ _ (s2 _ _ e)
      · rintro H2 ⟨ws, hD2, en, s2⟩
        rw [List.length_map, List.take_length] at en
        exact q Dd ws H2 (st s1 s2) hD2 en
end
end SQ4
namespace SQ4
open PySem L2 SQ
def nameOf (p : Str) : Str := (Txt.split p " ").headD ""
def namesOf (x : Str) : List Str := (partsOf x).map nameOf
/-- whether a text is that of a vocabulary -/
def goodText (x : Str) : Bool := decide ((partsOf x).length ≤ 8) && ((partsOf x).all fun p => (entryOf p).isSome) && decide (namesOf x).Nodup && PyProof.Rows.sortedS (namesOf x)
theorem etext_join (n : Str) (i j : Int) : etext n i j = Str.join " " [n, ((toString i : String) : Str), ((toString j : String) : Str)] := by
  apply str_ext
  rw [tl_join]
  unfold etext
  simp only [str_app, List.map_cons, List.map_nil, jn, List.append_assoc]
  rfl
theorem free_letters {n : Str} (h : isFree (.str n) = true) : ∀ c ∈ n.cps.toList, c ∈ letters := by
  have h' : (nameOk n && !decide (n ∈ cores)) = true := h
  rw [Bool.and_eq_true] at h'
  have h2 := h'.1
  unfold nameOk at h2
  rw [Bool.and_eq_true] at h2
  intro c hc
  exact of_decide_eq_true (List.all_eq_true.mp h2.2 c hc)
theorem num_signs {i : Int} (h0 : 0 ≤ i) (h1 : i ≤ 3) : ∀ c ∈ (((toString i : String) : Str)).cps.toList, c ∈ [48, 49, 50, 51] := by
  rcases four h0 h1 with rfl | rfl | rfl | rfl <;> decide +kernel
theorem letters_32 : 32 ∉ letters := by decide
theorem letters_44 : 44 ∉ letters := by decide
/-- the fields of an entry's text -/
theorem split_etext {n : Str} {i j : Int} (hf : isFree (.str n) = true) (i0 : 0 ≤ i) (i3 : i ≤ 3) (j0 : 0 ≤ j) (j3 : j ≤ 3) : Txt.split (etext n i j) " " = [n, ((toString i : String) : Str), ((toString j : String) : Str)] := by
  rw [etext_join]
  refine split_join (c := 32) (S := []) (by decide +kernel) (by decide +kernel) (fun z => nomatch z) ?_
  intro p hp
  simp only [List.mem_cons, List.not_mem_nil, or_false] at hp
  rcases hp with rfl | rfl | rfl
  · exact fun z => letters_32 (free_letters hf 32 z)
  · exact fun z => absurd (num_signs i0 i3 32 z) (by decide)
  · exact fun z => absurd (num_signs j0 j3 32 z) (by decide)
theorem etext_44 {n : Str} {i j : Int} (hf : isFree (.str n) = true) (i0 : 0 ≤ i) (i3 : i ≤ 3) (j0 : 0 ≤ j) (j3 : j ≤ 3) : 44 ∉ (etext n i j).cps.toList := by
  rw [etext_join, tl_join]
  intro z
  have z' : 44 ∈ n.cps.toList ++ ([32] ++ ((((toString i : String) : Str)).cps.toList ++ ([32] ++ (((toString j : String) : Str)).cps.toList))) := z
  simp only [List.mem_append] at z'
  rcases z' with z | z | z | z | z
  · exact letters_44 (free_letters hf 44 z)
  · exact absurd z (by decide)
  · exact absurd (num_signs i0 i3 44 z) (by decide)
  · exact absurd z (by decide)
  · exact absurd (num_signs j0 j3 44 z) (by decide)
/-- an entry and its text -/
theorem entry_ok {p n : Str} {i j : Int} (h : entryOf p = some (n, i, j)) : p = etext n i j ∧ isFree (.str n) = true ∧ (0 ≤ i ∧ i ≤ 3) ∧ (0 ≤ j ∧ j ≤ 3) ∧ nameOf p = n := by
  unfold entryOf at h
  cases hr : rawOf (Txt.split p " ") with
  | none =>
    rw [hr] at h
    cases h
  | some g =>
    obtain ⟨n', i', j'⟩ := g
    rw [hr] at h
    have h' : (if isFree (.str n') = true then some (n', i', j') else none) = some (n, i, j) := h
    by_cases hf : isFree (.str n') = true
    · rw [if_pos hf] at h'
      cases h'
      obtain ⟨hs, hi, hj⟩ := raw_ok hr
      refine ⟨?_, hf, hi, hj, ?_⟩
      · rw [etext_join, ← hs, join_split]
      · unfold nameOf
        rw [hs]
        rfl
    · rw [if_neg hf] at h'
      cases h'
theorem entry_of {n : Str} {i j : Int} (hf : isFree (.str n) = true) (i0 : 0 ≤ i) (i3 : i ≤ 3) (j0 : 0 ≤ j) (j3 : j ≤ 3) : entryOf (etext n i j) = some (n, i, j) := by
  unfold entryOf
  rw [split_etext hf i0 i3 j0 j3]
  show goodRaw ((digOf _).bind fun i => (digOf _).map fun j => (n, i, j)) = _
  rw [ar_dig i0 i3, ar_dig j0 j3]
  show (if isFree (.str n) = true then some (n, i, j) else none) = _
  rw [if_pos hf]
/-! ### parts and entries -/
theorem parts_some : ∀ {ps : List Str}, (ps.all fun p => (entryOf p).isSome) = true → ∃ gs : List G3, ps.map entryOf = gs.map some ∧ gnames gs = ps.map nameOf ∧ ps = gs.map fun g => etext g.1 g.2.1 g.2.2
  | [], _ => ⟨[], rfl, rfl, rfl⟩
  | p :: ps, h => by
    rw [List.all_cons, Bool.and_eq_true] at h
    obtain ⟨gs, e1, e2, e3⟩ := parts_some h.2
    obtain ⟨⟨n, i, j⟩, e⟩ := Option.isSome_iff_exists.mp h.1
    obtain ⟨k1, _, _, _, k5⟩ := entry_ok e
    refine ⟨(n, i, j) :: gs, ?_, ?_, ?_⟩
    · rw [List.map_cons, e, e1]
      rfl
    · show n :: gnames gs = nameOf p :: ps.map nameOf
      rw [k5, e2]
    · show p :: ps = etext n i j :: _
      rw [← k1, ← e3]
theorem some_parts : ∀ {ps : List Str} {gs : List G3}, ps.map entryOf = gs.map some → (ps.all fun p => (entryOf p).isSome) = true
  | [], _, _ => rfl
  | p :: ps, [], h => nomatch h
  | p :: ps, g :: gs, h => by
    rw [List.map_cons, List.map_cons, List.cons.injEq] at h
    rw [List.all_cons, h.1, some_parts h.2]
    rfl
theorem bad_none : ∀ (gs : List G3) (seen : List Str) (i : Nat), (gnames gs).Nodup → (∀ n ∈ gnames gs, n ∉ seen) → firstBad seen i (gs.map some) = none
  | [], _, _, _, _ => rfl
  | (n, a, b) :: gs, seen, i, nd, h => by
    obtain ⟨n1, n2⟩ := List.nodup_cons.mp nd
    show (if n ∈ seen then some i else firstBad (n :: seen) (i + 1) (gs.map some)) = none
    rw [if_neg (h n List.mem_cons_self)]
    refine bad_none gs (n :: seen) (i + 1) n2 fun m hm => ?_
    intro z
    rcases List.mem_cons.mp z with e | e
    · exact n1 (e ▸ hm)
    · exact h m (List.mem_cons_of_mem _ hm) e
theorem none_verdict {gs : List G3} (nd : (gnames gs).Nodup) (h8 : gs.length ≤ 8) : verdict (gs.map some) = none := by
  unfold verdict
  rw [if_neg (by rw [List.length_map]; omega), bad_none gs [] 0 nd (fun n _ z => nomatch z)]
  rfl
theorem ar_self : ∀ {gs : List G3}, (gnames gs).Nodup → ∀ g ∈ gs, arOf gs g.1 = g.2
  | [], _, g, h => nomatch h
  | g0 :: gs, nd, g, h => by
    obtain ⟨n1, n2⟩ := List.nodup_cons.mp nd
    unfold arOf
    rcases List.mem_cons.mp h with rfl | h
    · rw [List.find?_cons_of_pos (by simp)]
      rfl
    · have ne : ¬ g0.1 = g.1 := fun z => n1 (List.mem_map.mpr ⟨g, h, z.symm⟩)
      rw [List.find?_cons_of_neg (by simpa using ne)]
      exact ar_self n2 g h
theorem text_self {gs : List G3} (nd : (gnames gs).Nodup) : vtext gs (gnames gs) = Str.join ", " (gs.map fun g => etext g.1 g.2.1 g.2.2) := by
  show Builtin.Str.glued ", " _ = _
  rw [StrLaws.glued_eq_join]
  congr 1
  unfold gnames
  rw [List.map_map]
  refine List.map_congr_left fun g hg => ?_
  show etext g.1 (arOf gs g.1).1 (arOf gs g.1).2 = _
  rw [ar_self nd g hg]
theorem read_good {x : Str} (h : goodText x = true) : ∃ gs : List G3, ensOf x = gs.map some ∧ verdict (gs.map some) = none ∧ ∀ ys : List Str, ys.Perm (gnames gs) → PyProof.Rows.sortedS ys = true → vtext gs ys = x := by
  unfold goodText at h
  rw [Bool.and_eq_true, Bool.and_eq_true, Bool.and_eq_true] at h
  obtain ⟨⟨⟨h8, ha⟩, hn⟩, hs⟩ := h
  obtain ⟨gs, e1, e2, e3⟩ := parts_some ha
  have nd : (gnames gs).Nodup := by
    rw [e2]
    exact of_decide_eq_true hn
  have hl : gs.length ≤ 8 := by
    have := of_decide_eq_true h8
    rw [e3, List.length_map] at this
    exact this
  refine ⟨gs, e1, none_verdict nd hl, fun ys hp hy => ?_⟩
  have e : ys = gnames gs := sorted_one hy (by rw [e2]; exact hs) hp
  rw [e, text_self nd, ← e3]
  by_cases h0 : x = ""
  · unfold partsOf
    rw [if_pos h0, h0]
    rfl
  · unfold partsOf
    rw [if_neg h0, join_split]
theorem read_bad {x : Str} (h : goodText x = false) {gs : List G3} (eg : ensOf x = gs.map some) (hv : verdict (gs.map some) = none) {ys : List Str} (hp : ys.Perm (gnames gs)) (hy : PyProof.Rows.sortedS ys = true) : vtext gs ys ≠ x := by
  intro ex
  have ha : ((partsOf x).all fun p => (entryOf p).isSome) = true := some_parts eg
  obtain ⟨gs', e1, e2, e3⟩ := parts_some ha
  have eg' : gs' = gs := by
    have z : gs'.map some = gs.map some := e1.symm.trans eg
    exact List.map_inj_right (fun a b hab => Option.some.inj hab) |>.mp z
  subst eg'
  obtain ⟨gs2, z2, nd, h8⟩ := verdict_none hv
  have eg2 : gs' = gs2 := List.map_inj_right (fun a b hab => Option.some.inj hab) |>.mp z2
  subst eg2
  have hl : (partsOf x).length ≤ 8 := by
    rw [e3, List.length_map]
    exact h8
  have good : ∀ g ∈ gs', isFree (.str g.1) = true ∧ (0 ≤ g.2.1 ∧ g.2.1 ≤ 3) ∧ 0 ≤ g.2.2 ∧ g.2.2 ≤ 3 := by
    intro g hg
    have hm : some g ∈ (partsOf x).map entryOf := by
      have e1' : (partsOf x).map entryOf = gs'.map some := e1
      rw [e1']
      exact List.mem_map.mpr ⟨g, hg, rfl⟩
    obtain ⟨p, _, hpe⟩ := List.mem_map.mp hm
    obtain ⟨_, k2, k3, k4, _⟩ := entry_ok hpe
    exact ⟨k2, k3, k4⟩
  have hsorted : PyProof.Rows.sortedS (gnames gs') = true := by
    by_cases h0 : x = ""
    · have ep : partsOf x = [] := by
        unfold partsOf
        rw [if_pos h0]
      rw [e2, ep]
      rfl
    · have gy : ∀ n ∈ ys, isFree (.str n) = true ∧ (0 ≤ (arOf gs' n).1 ∧ (arOf gs' n).1 ≤ 3) ∧ 0 ≤ (arOf gs' n).2 ∧ (arOf gs' n).2 ≤ 3 := by
        intro n hn
        obtain ⟨g, hg, e, ea⟩ := ar_mem (hp.mem_iff.mp hn)
        rw [ea, ← e]
        exact good g hg
      have ep : partsOf x = Txt.split x ", " := by
        unfold partsOf
        rw [if_neg h0]
      have ne : ys ≠ [] := by
        intro z
        rw [z] at ex
        exact h0 (by rw [← ex]; rfl)
      have ex' : Str.join ", " (ys.map fun n => etext n (arOf gs' n).1 (arOf gs' n).2) = x := by
        rw [← ex]
        show _ = Builtin.Str.glued ", " _
        rw [StrLaws.glued_eq_join]
      have sp : Txt.split x ", " = ys.map fun n => etext n (arOf gs' n).1 (arOf gs' n).2 := by
        rw [← ex']
        refine split_join (c := 44) (S := [32]) (by decide +kernel) (by decide +kernel) (fun z => ne (List.map_eq_nil_iff.mp z)) ?_
        intro p hp
        obtain ⟨n, hn, rfl⟩ := List.mem_map.mp hp
        obtain ⟨k1, ⟨k2, k3⟩, k4, k5⟩ := gy n hn
        exact etext_44 k1 k2 k3 k4 k5
      have en : gnames gs' = ys := by
        rw [e2, ep, sp, List.map_map]
        have z : ∀ n ∈ ys, (nameOf ∘ fun n => etext n (arOf gs' n).1 (arOf gs' n).2) n = n := by
          intro n hn
          obtain ⟨k1, ⟨k2, k3⟩, k4, k5⟩ := gy n hn
          show nameOf (etext n _ _) = n
          unfold nameOf
          rw [split_etext k1 k2 k3 k4 k5]
          rfl
        rw [List.map_congr_left z, List.map_id']
      rw [en]
      exact hy
  unfold goodText at h
  have nd' : (namesOf x).Nodup := by
    show ((partsOf x).map nameOf).Nodup
    rw [← e2]
    exact nd
  have hs' : PyProof.Rows.sortedS (namesOf x) = true := by
    show PyProof.Rows.sortedS ((partsOf x).map nameOf) = true
    rw [← e2]
    exact hsorted
  rw [decide_eq_true hl, ha, decide_eq_true nd', hs'] at h
  cases h
end SQ4
namespace SQ4
open PySem L2 SQ
/-- InvalidText as the top has made it -/
structure TC (K : PySem.W.Frag) (mg : Str → Option Value) (CT fJ : Addr) : Prop where
  g : mg "InvalidText" = some (.ref CT)
  T : ErrC K CT "value" [.type "ValueError", .type "Exception", .type "BaseException", .type "object"] "ValueError.__new__"
  J : ErrI K CT fJ "value"
  ty : PySem.W.typeIn K (.ref CT) = some (.type "type")
def spRd (K : PySem.W.Frag) (C CT : Addr) : Sp := fun vs H Q E => ∃ v : V, vs = [v] ∧ ((∃ t, TyX K H v t ∧ PySem.W.kitOne K t (.type "str") = some false ∧ ∀ d H', Same H H' → H' d = some (.xd [("value", v)]) → E (.ref CT) (some d) H') ∨
  (∃ x : Str, v = .str x ∧ x.length ≤ 1000 ∧ (goodText x = true → ∀ (o : Addr) (H' : Hp) (gs : List G3) (ys : List Str), Same H H' → ensOf x = gs.map some → ys.Perm (gnames gs) → PyProof.Rows.sortedS ys = true → Vc C H' o gs ys → Q (.ref o) H') ∧ (goodText x = false → ∀ d H', Same H H' → H' d = some (.xd [("value", v)]) → E (.ref CT) (some d) H')))
/-- Vocabulary(..), refused or not -/
theorem init_any {C CE : Addr} {H2 : Hp} {vs : List V} {os : List En} {E : XK} {R : Hp → Prop} {x dx : Addr} (nx : H2 x = none) (ndx : H2 dx = none) (ne : dx ≠ x) (hes : Ents H2 vs os) (hl : vs.length ≤ 2000)
    (kE : ∀ idx, verdict os = some idx → ∀ d H', Same H2 H' → H' d = some (.xd [("index", idx)]) → E (.ref CE) (some d) H')
    (kQ : verdict os = none → ∀ gs : List G3, os = gs.map some → ∀ (H' : Hp) (ys : List Str), ys.Perm (gnames gs) → PyProof.Rows.sortedS ys = true → Same H2 H' → Vc C H' x gs ys → R H') :
    spInit C CE (V.ref x :: vs) (upd (upd H2 dx (.own x)) x (.ins C dx [])) (fun v H' => v = .non ∧ R H') E := by
  have s1 : Same H2 (upd (upd H2 dx (.own x)) x (.ins C dx [])) := new_ins nx ndx ne
  refine ⟨[.ref x], vs, rfl, rfl, Nat.le_trans hl (by decide), fun p hp => ?_⟩
  have s2 : Same (upd (upd H2 dx (.own x)) x (.ins C dx [])) (upd (upd (upd H2 dx (.own x)) x (.ins C dx [])) p (.tup vs)) := same_new (fun _ _ e => e) hp
  refine ⟨x, dx, p, vs, os, rfl, s2 _ _ upd_same, upd_same, hes.same (st s1 s2), hl, fun idx h' d H' s' hd => kE idx h' d H' (st s1 (st s2 s')) hd, fun hv gs eg H' ys hp' hs' bt hx => ?_⟩
  exact ⟨rfl, kQ hv gs eg H' ys hp' hs' (fun b o e => bt b o (s2 _ _ (s1 _ _ e)) (ne_of_none e nx)) hx⟩
section
variable {P : Program} {w : World} {K : PySem.W.Frag} {mg : Str → Option Value} {base : Heap} {dD fSE fSS C CE CT fI fJ fIn : Addr} {es : Array DictEntry} {nn : Nat} {dSE dSS : FuncData}
theorem scRd : FnScope ["text", "entries", "vocabulary"] ["text"] (defScope sRd) := ⟨rfl, rfl, rfl, by decide +kernel, rfl, by decide +kernel, by decide +kernel⟩
theorem ok_rd {f : Addr} {fd : FuncData} (F : Fun K "read" "Vocabulary.read" sRd f fd) (S : S3 K mg fSE fSS dSE dSS) (B : B2 mg) (D : Dg K w mg dD es nn) (Z : EC K mg CE fI) (ex : PySem.W.exmOne K (.ref CE) (.ref CE) = some true) (ZT : TC K mg CT fJ) (VV : VC K mg C) (MK : Mk K C fIn)
    (GI : FnR P w K mg base (L2N.CX P w) 5 fIn (spInit C CE)) : FnOk P w K mg base (L2.CX P w) 7 f fd ["text"] (spRd K C CT) := by
  have GS : FnOk P w K mg base CX0 2 fSS dSS ["text"] spSS := ok_ss S B D
  refine F.okX scRd (fun vs H Q E h => ?_) (fun cdv A outer s H vs Q E hr h => ?_)
  · obtain ⟨v, rfl, _⟩ := h
    rfl
  · obtain ⟨v, rfl, h⟩ := h
    have hdp := dp_of hr
    refine ⟨_, pss_cons (ps_if (pt_not (pt_val (pe_callB call_isi (by rfl) B.isi (by decide +kernel) (pa_cons (pv 0) (pa_cons (pe_bltn (v := .ty "str") (by rfl) B.str (by decide +kernel) rfl) pa_nil)))))
        (pss_one (ps_raise rfl (takes_of rfl rfl rfl rfl) (pmk_of5 (pmk5_err (.inl rfl) bValue ZT.T ZT.J ZT.ty ZT.g (dp_of hr) rfl (pv 0))))) pss_nil)
      (pss_cons (ps_set (i := 1) scRd.nd rfl (.inl rfl) (pe_call GS (hr.mono (by decide)) rfl S.gS S.FS.kp S.bS .nil pass0 (pa_cons (pv 0) pa_nil)))
      (pss_cons (L2H.ps_try_onlyX (c := .ref CE) rfl rfl ⟨rfl, by decide, .inl Z.g⟩ (fun hd => PassesOwnAt.leaving) (takes_of rfl rfl rfl rfl)
          (by intro W pn xe tkN tkP po; exact pss_one (ps_set (i := 2) scRd.nd rfl (.inl rfl) (pe_makeST K rfl MK GI hr rfl VV.g (fun σ => L2N.passAt tkN σ) (pv 1))))
          (by intro a oe cls d pn hz hf tk hot; exact pss_one (L2H.ps_raiseHN hot tk (pmk5_err (.inl rfl) bValue ZT.T ZT.J ZT.ty ZT.g hdp rfl (pv 0)))))
      (pss_cons (ps_if (pt_cmpR op_ne (pe_fld (pv 2) rfl) (pv 0) (nomark _)) (pss_one (ps_raise rfl (takes_of rfl rfl rfl rfl) (pmk_of5 (pmk5_err (.inl rfl) bValue ZT.T ZT.J ZT.ty ZT.g (dp_of hr) rfl (pv 0))))) pss_nil)
      (pss_one (ps_ret (pv 2)))))), ?_⟩
    rcases h with ⟨t, ty, ki, kE⟩ | ⟨x, rfl, hx, kG, kB⟩
    · refine ⟨_, rfl, v, .ty "str", t, .type "str", false, rfl, .ty "str", ty, ki, _, rfl, iteT ⟨_, rfl, fun d nd => ?_⟩⟩
      exact kE d _ (same_new (fun _ _ e => e) nd) upd_same
    · refine ⟨_, rfl, .str x, .ty "str", .type "str", .type "str", true, rfl, .ty "str", .base (.str x), kit_ty (by decide +kernel), _, rfl, iteF ?_⟩
      refine ⟨_, rfl, x, rfl, hx, fun l ws H1 s1 hl en => ?_⟩
      have hlen : ws.length ≤ 2000 := by
        have := Paired.length en
        unfold ensOf partsOf at this
        rw [this, List.length_map]
        split
        · exact Nat.zero_le _
        · exact Nat.le_trans (PyProof.Rows.split_le x ", ") (by omega)
      refine ⟨_, rfl, l, ws, rfl, .inr (SqL.of hl), fun o dx no ndx ne => init_any no ndx ne en hlen ?_ ?_⟩
      · intro idx hv d H' s' hd
        refine ⟨true, ex, fun _ a ha => ⟨_, rfl, fun d2 nd2 => ?_⟩, fun z => nomatch z⟩
        refine kB ?_ d2 _ (same_new (st s1 s') nd2) upd_same
        cases hg : goodText x with
        | false => rfl
        | true =>
          obtain ⟨gs, e1, e2, _⟩ := read_good hg
          rw [e1, e2] at hv
          cases hv
      · intro hv gs eg H' ys hp hs s' hV
        have hV' := hV
        obtain ⟨dx', dA, tN, kvs, ho, _⟩ := hV'
        rw [eg] at hv
        refine ⟨_, rfl, o, C, dx', _, _, rfl, ho, VV.cl, VV.nT, rfl, _, rfl, rfl, _, rfl, ?_⟩
        by_cases he : vtext gs ys = x
        · have hg : goodText x = true := by
            cases hg : goodText x with
            | true => rfl
            | false => exact absurd he (read_bad hg eg hv hp hs)
          refine iteNS (by rw [he]) ⟨_, rfl, ?_⟩
          exact kG hg o H' gs ys (st s1 s') eg hp hs hV
        · have hg : goodText x = false := by
            cases hg : goodText x with
            | false => rfl
            | true =>
              obtain ⟨gs2, e1, _, e3⟩ := read_good hg
              have z : gs2 = gs := List.map_inj_right (fun a b hab => Option.some.inj hab) |>.mp (e1.symm.trans eg)
              subst z
              exact absurd (e3 ys hp hs) he
          have nv : ¬ V.str (vtext gs ys) = V.str x := fun z => he (V.str.inj z)
          rw [decide_eq_false nv]
          refine iteT ⟨_, rfl, fun d nd => ?_⟩
          exact kB hg d _ (same_new (st s1 s') nd) upd_same
end
end SQ4
namespace SQ4
open PySem L2 SQ
abbrev sVo : Stmt := top 73
/-! ### _law_vocabulary -/
def gZ : G3 := ("zz", 0, 0)
def allZ : List G3 := allG ++ [gZ]
theorem allG_Z {gs : List G3} (h : gs.Sublist allG) : gs.Sublist allZ := h.trans (List.sublist_append_left _ _)
theorem allZ_ok : (allZ.all fun g => isFree (.str g.1) && decide (0 ≤ g.2.1) && decide (g.2.1 ≤ 3) && decide (0 ≤ g.2.2) && decide (g.2.2 ≤ 3)) = true := by decide +kernel
theorem allZ_nd : (gnames allZ).Nodup := by decide +kernel
theorem z_ar {gs : List G3} (hs : gs.Sublist allZ) {x : Str} (h : x ∈ gnames gs) : isFree (.str x) = true ∧ (0 ≤ (arOf gs x).1 ∧ (arOf gs x).1 ≤ 3) ∧ 0 ≤ (arOf gs x).2 ∧ (arOf gs x).2 ≤ 3 := by
  obtain ⟨g, hg, e1, e⟩ := ar_mem h
  have ha := List.all_eq_true.mp allZ_ok g (hs.subset hg)
  simp only [Bool.and_eq_true, decide_eq_true_eq] at ha
  rw [e, ← e1]
  exact ⟨ha.1.1.1.1, ⟨ha.1.1.1.2, ha.1.1.2⟩, ha.1.2, ha.2⟩
theorem z_nd {gs : List G3} (hs : gs.Sublist allZ) : (gnames gs).Nodup := List.Nodup.sublist (List.Sublist.map (fun g : G3 => g.1) hs) allZ_nd
theorem z_len {gs : List G3} (hs : gs.Sublist allZ) : (gnames gs).length ≤ 8 := by
  unfold gnames
  rw [List.length_map]
  exact Nat.le_trans hs.length_le (by decide)
/-- the text of the vocabulary with these words -/
def VoT (gs : List G3) (z : Str) : Prop := ∃ ys, ys.Perm (gnames gs) ∧ PyProof.Rows.sortedS ys = true ∧ z = vtext gs ys
theorem VoT.one {gs : List G3} {z z' : Str} (h : VoT gs z) (h' : VoT gs z') : z = z' := by
  obtain ⟨ys, p, s, rfl⟩ := h
  obtain ⟨ys', p', s', rfl⟩ := h'
  rw [sorted_one s s' (p.trans p'.symm)]
def pcs (gs : List G3) (ys : List Str) : List Str := ys.map fun n => etext n (arOf gs n).1 (arOf gs n).2
theorem vt_parts {gs : List G3} (hs : gs.Sublist allZ) {ys : List Str} (hm : ∀ n ∈ ys, n ∈ gnames gs) : partsOf (vtext gs ys) = pcs gs ys := by
  have hne : ∀ n ∈ ys, ¬ etext n (arOf gs n).1 (arOf gs n).2 = "" := fun n hn z => by
    obtain ⟨hf, hi, hj⟩ := z_ar hs (hm n hn)
    have h2 := split_etext hf hi.1 hi.2 hj.1 hj.2
    rw [z] at h2
    have h3 : (Txt.split ("" : Str) " ").length = 1 := by decide +kernel
    rw [h2] at h3
    cases h3
  have e : vtext gs ys = Str.join ", " (pcs gs ys) := StrLaws.glued_eq_join ", " _
  unfold partsOf
  cases ys with
  | nil =>
    rw [if_pos (by rw [e]; rfl)]
    rfl
  | cons n ys =>
    have ne0 : ¬ vtext gs (n :: ys) = "" := fun z => by
      have hn := hne n List.mem_cons_self
      have h4 : (Str.join ", " (pcs gs (n :: ys))).cps.toList = [] := by
        rw [← e, z]
        rfl
      rw [tl_join] at h4
      refine hn (str_nil ?_)
      have h5 : jn (", " : Str).cps.toList ((etext n (arOf gs n).1 (arOf gs n).2).cps.toList :: (pcs gs ys).map fun x => x.cps.toList) = [] := h4
      cases hp : (pcs gs ys).map fun x => x.cps.toList with
      | nil =>
        rw [hp] at h5
        exact h5
      | cons y r =>
        rw [hp] at h5
        have h6 : (etext n (arOf gs n).1 (arOf gs n).2).cps.toList ++ ((", " : Str).cps.toList ++ jn (", " : Str).cps.toList (y :: r)) = [] := h5
        exact (List.append_eq_nil_iff.mp h6).1
    rw [if_neg ne0, e]
    refine split_join (c := 44) (S := [32]) (by decide +kernel) (by decide +kernel) (by simp [pcs]) fun p hp => ?_
    obtain ⟨m, hm', rfl⟩ := List.mem_map.mp hp
    obtain ⟨hf, hi, hj⟩ := z_ar hs (hm m hm')
    exact etext_44 hf hi.1 hi.2 hj.1 hj.2
def gsOf (gs : List G3) (ys : List Str) : List G3 := ys.map fun n => (n, (arOf gs n).1, (arOf gs n).2)
theorem vt_ens {gs : List G3} (hs : gs.Sublist allZ) {ys : List Str} (hm : ∀ n ∈ ys, n ∈ gnames gs) : ensOf (vtext gs ys) = (gsOf gs ys).map some := by
  unfold ensOf
  rw [vt_parts hs hm]
  unfold pcs gsOf
  rw [List.map_map, List.map_map]
  refine List.map_congr_left fun n hn => ?_
  obtain ⟨hf, hi, hj⟩ := z_ar hs (hm n hn)
  exact entry_of hf hi.1 hi.2 hj.1 hj.2
theorem gn_of (gs : List G3) (ys : List Str) : gnames (gsOf gs ys) = ys := by
  unfold gnames gsOf
  rw [List.map_map]
  exact List.map_id ys
theorem vt_good {gs : List G3} (hs : gs.Sublist allZ) {ys : List Str} (hp : ys.Perm (gnames gs)) (so : PyProof.Rows.sortedS ys = true) : goodText (vtext gs ys) = true := by
  have hm : ∀ n ∈ ys, n ∈ gnames gs := fun n hn => hp.mem_iff.mp hn
  have hpt := vt_parts hs hm
  have hn : namesOf (vtext gs ys) = ys := by
    unfold namesOf
    rw [hpt]
    unfold pcs
    rw [List.map_map]
    have : ∀ n ∈ ys, (nameOf ∘ fun n => etext n (arOf gs n).1 (arOf gs n).2) n = id n := fun n hn => by
      obtain ⟨hf, hi, hj⟩ := z_ar hs (hm n hn)
      show nameOf (etext n (arOf gs n).1 (arOf gs n).2) = n
      unfold nameOf
      rw [split_etext hf hi.1 hi.2 hj.1 hj.2]
      rfl
    rw [List.map_congr_left this, List.map_id]
  unfold goodText
  rw [hn, so, hpt]
  simp only [Bool.and_eq_true, decide_eq_true_eq, and_true]
  refine ⟨⟨?_, ?_⟩, ?_⟩
  · unfold pcs
    rw [List.length_map, hp.length_eq]
    exact z_len hs
  · rw [List.all_eq_true]
    intro p hp'
    obtain ⟨n, hn', rfl⟩ := List.mem_map.mp hp'
    obtain ⟨hf, hi, hj⟩ := z_ar hs (hm n hn')
    rw [entry_of hf hi.1 hi.2 hj.1 hj.2]
    rfl
  · exact hp.nodup_iff.mpr (z_nd hs)
theorem map_some_inj {α : Type} : ∀ {a b : List α}, a.map some = b.map some → a = b
  | [], [], _ => rfl
  | [], _ :: _, h => by cases h
  | _ :: _, [], h => by cases h
  | x :: a, y :: b, h => by
    rw [List.map_cons, List.map_cons, List.cons.injEq] at h
    rw [Option.some.inj h.1, map_some_inj h.2]
theorem VoT.two {gs gs' : List G3} {z z' : Str} (hs : gs.Sublist allZ) (hs' : gs'.Sublist allZ) (h : VoT gs z) (h' : VoT gs' z') (hl : gs.length ≠ gs'.length) : z ≠ z' := by
  obtain ⟨ys, p, s, rfl⟩ := h
  obtain ⟨ys', p', s', rfl⟩ := h'
  intro e
  have e1 := vt_ens hs (ys := ys) fun n hn => p.mem_iff.mp hn
  rw [e, vt_ens hs' (ys := ys') fun n hn => p'.mem_iff.mp hn] at e1
  have e2 := map_some_inj e1
  have e3 : ys' = ys := by
    rw [← gn_of gs' ys', e2, gn_of]
  have e4 := p.length_eq
  have e5 := p'.length_eq
  unfold gnames at e4 e5
  rw [List.length_map] at e4 e5
  rw [e3] at e5
  omega
theorem pcs_len {gs : List G3} (hs : gs.Sublist allZ) {ys : List Str} (hm : ∀ n ∈ ys, n ∈ gnames gs) : ∀ x ∈ pcs gs ys, x.length ≤ 12 := fun x hx => by
  obtain ⟨n, hn, rfl⟩ := List.mem_map.mp hx
  obtain ⟨hf, hi, hj⟩ := z_ar hs (hm n hn)
  exact etext_len (free_len hf) hi.1 hi.2 hj.1 hj.2
theorem join_le (sep : Str) : ∀ {l : List Str} {B : Nat}, (∀ x ∈ l, x.length ≤ B) → (Str.join sep l).length ≤ l.length * (B + sep.length)
  | [], B, _ => Nat.zero_le _
  | [x], B, h => by
    have := h x List.mem_cons_self
    show x.length ≤ 1 * _
    omega
  | x :: y :: l, B, h => by
    have h1 := h x List.mem_cons_self
    have ih := join_le sep (l := y :: l) (B := B) fun z hz => h z (List.mem_cons_of_mem _ hz)
    show (x ++ sep ++ Str.join sep (y :: l)).length ≤ _
    rw [Str.length_append, Str.length_append, List.length_cons, Nat.succ_mul]
    omega
theorem blk_any {N : List Str} {sc sc' scope : Scope} {own : List (Str × Nat)} (h : BlkOk N sc' scope own) (hf : (scope.names.all fun y => match y.2 with | .free => false | _ => true) = true) : BlkOk N sc scope own := by
  refine ⟨h.kind, h.uniq, h.ix, fun y hy e => ?_, h.own⟩
  have := List.all_eq_true.mp hf y hy
  rw [e] at this
  cases this
theorem passX {X : Cx} : Passes (L2.CX X.prog X.w) X E0 := fun _ _ _ _ _ _ _ ⟨_, _, _, _, _, _, _, _, _, _, _, _, h⟩ => (show False from h).elim
theorem pi_tupK {X : Cx} {tg l : Expr} {tl : TE} (K : PySem.W.Frag) (h : X.K = K) (hl : PE X l tl) : PI X tg l (iTup K tl) := h ▸ pi_tup hl
def rJoinK (K : PySem.W.Frag) : V → List V → Hp → VK → Prop := fun x xs H Q => ∃ a p, ∃ ys : List Str, x = .str a ∧ xs = [.ref p] ∧ (SqL K H p (ys.map V.str) ∨ SqT K H p (ys.map V.str)) ∧ (ys.map (·.length)).sum + ys.length * a.length ≤ 16777216 ∧ Q (.str (Txt.join a ys)) H
theorem mt_joinK {X : Cx} (K : PySem.W.Frag) (h : X.K = K) : MtR X "str.join" (rJoinK K) := h ▸ mt_join
theorem small_log3 {i : Int} (h0 : 0 ≤ i) (h1 : i ≤ 3) : i.natAbs.log2 < 1920 := log_small (.inr ⟨h0, by omega⟩)
theorem num_len {i : Int} (h0 : 0 ≤ i) (h1 : i ≤ 3) : (((toString i : String) : Str)).length ≤ 3 := by
  have all : ∀ k ∈ List.range 4, ((toString ((k : Nat) : Int) : String) : Str).length ≤ 3 := by decide +kernel
  have := all i.toNat (List.mem_range.mpr (by omega))
  rwa [Int.toNat_of_nonneg h0] at this
section
variable {P : Program} {w : World} {K : PySem.W.Frag} {mg : Str → Option Value} {base : Heap}
/-- how the law asks for its vocabularies -/
structure VoD (P : Program) (w : World) (K : PySem.W.Frag) (mg : Str → Option Value) (base : Heap) (C CT smp fRd : Addr) (mc : Value) : Prop where
  g : mg "Vocabulary" = some (.ref C)
  SM : SMet K C mc "read" smp fRd
  GR : FnR P w K mg base (L2.CX P w) 7 fRd (spRd K C CT)
  so : mg "sorted" = none
/-- the vocabulary with the words gs -/
structure Voc (C : Addr) (H : Hp) (o : Addr) (gs : List G3) (gs' : List G3) (ys : List Str) : Prop where
  vc : Vc C H o gs' ys
  sub : ∀ n ∈ ys, n ∈ gnames gs'
  len : ys.length ≤ 8
  mem : ∀ n, n ∈ ys ↔ n ∈ gnames gs
  txt : VoT gs (vtext gs' ys)
def spVo (C : Addr) : Sp := fun vs H Q _ => ∃ (a : Addr) (gs : List G3), vs = [.ref a] ∧ DAt H a gs ∧ gs.Sublist allZ ∧ ∀ (o : Addr) (gs' : List G3) (ys : List Str) (H' : Hp), Same H H' → Voc C H' o gs gs' ys → Q (.ref o) H'
abbrev nVo : List Str := ["_law_arities_here", "_law_titles", "_law_each", "_law_title", "_law_k"]
theorem scVo : FnScope nVo ["_law_arities_here"] (defScope sVo) := ⟨rfl, rfl, rfl, by decide +kernel, rfl, by decide +kernel, by decide +kernel⟩
theorem ok_vo {f C CT smp fRd : Addr} {mc : Value} {fd : FuncData} (F : Fun K "_law_vocabulary" "_law_vocabulary" sVo f fd) (B : B2 mg) (Vd : VoD P w K mg base C CT smp fRd mc) : FnOk P w K mg base CX0 8 f fd ["_law_arities_here"] (spVo C) := by
  refine F.ok scVo (fun vs H Q E h => ?_) (fun cdv A outer s H vs Q E hr h => ?_)
  · obtain ⟨a, gs, rfl, _⟩ := h
    rfl
  · obtain ⟨a, gs, rfl, hA, hs, q⟩ := h
    have hu := hu_of hr
    refine ⟨_, pss_cons (ps_set (i := 1) scVo.nd rfl (.inl rfl) (pe_callB cr_sortedS (by rfl) Vd.so (by decide +kernel) (pa_cons (pe_lock (pe_lc (own := [("_law_each", 2)]) (g := gName 2) (tt := tYes) rfl scVo.nd (pi_keys (pv 0)) (blkOk_by (N := nVo) (sc := defScope sVo) (by decide +kernel)) (fun _ _ _ _ _ => pg_name (i := 2) scVo.nd rfl (.inl rfl)) (fun _ _ _ _ _ => pts_nil) (fun _ _ _ _ _ => pe_callTy SkE.call_str_str (by rfl) B.str (by decide +kernel) (pa_cons (pv 2) pa_nil)))) pa_nil)))
      (pss_one (ps_ret (pe_smeth (pe_glob (v := .ref C) rfl Vd.g rfl) Vd.SM Vd.GR hr passX (pa_cons (pe_join pe_str (pe_lc (own := [("_law_title", 3)]) (g := gName 3) (tt := tYes) rfl scVo.nd (pi_list (pv 1)) (blkOk_by (N := nVo) (sc := defScope sVo) (by decide +kernel)) (fun _ _ _ _ _ => pg_name (i := 3) scVo.nd rfl (.inl rfl)) (fun _ _ _ _ _ => pts_nil)
        (fun _ _ _ _ _ => pe_m1 PySem.F.slot_str_join PySem.F.type_str_join (mt_joinK K rfl) pe_str (pe_op op_cat (pe_lst (pa_cons (pv 3) pa_nil)) (pe_lc (own := [("_law_k", 4)]) (g := gName 4) (tt := tYes) rfl scVo.nd (pi_tupK K rfl (pe_dget hu (pv 0) (pv 3) (fun _ _ => rfl))) (blk_any (N := nVo) (blkOk_by (N := nVo) (sc := defScope sVo) (by decide +kernel)) (by decide +kernel)) (fun _ _ _ _ _ => pg_name (i := 4) scVo.nd rfl (.inl rfl)) (fun _ _ _ _ _ => pts_nil) (fun _ _ _ _ _ => pe_callTy call_str_int (by rfl) B.str (by decide +kernel) (pa_cons (pv 4) pa_nil))))))) pa_nil)))), ?_⟩
    have h8 := z_len hs
    -- titles
    refine seq_mid (fun σ G => ∃ p ys, σ = [some (.ref a), some (.ref p), none, none, none] ∧ Same H G ∧ G p = some (.lst (ys.map V.str)) ∧ ys.Perm (gnames gs) ∧ PyProof.Rows.sortedS ys = true) (fun N hN => ?_) ?_
    · refine keys_list rfl (by decide) (by show 2 < 5; decide) hA (Nat.le_trans hs.length_le (by decide)) fun p G n s1 h1 => ⟨p, gnames gs, rfl, SqL.of h1, by omega, fun ys p5 hperm hsort n5 => ?_⟩
      exact hN _ _ ⟨p5, ys, rfl, same_new s1 n5, upd_same, hperm, hsort⟩
    rintro _ G ⟨p, ys, rfl, sG, hp, hperm, hsort⟩
    have hm : ∀ n ∈ ys, n ∈ gnames gs := fun n hn => hperm.mem_iff.mp hn
    have hyl : ys.length ≤ 8 := by
      rw [hperm.length_eq]
      exact h8
    have hpl := pcs_len hs hm
    refine ⟨rfl, ⟨_, rfl⟩, _, rfl, p, rfl, ⟨_, SqL.of hp⟩, fun D hD => ?_⟩
    refine lc_list (K := K) (a := p) (xs := ys.map V.str) (fun i G2 => Same G G2 ∧ G2 D = some (.lst ((pcs gs (ys.take i)).map V.str))) ⟨same_new (fun _ _ e => e) hD, upd_same⟩ (fun i G2 _ ⟨s2, _⟩ => SqL.of (s2 _ _ hp)) ?_ ?_
    · rintro i v G2 hi ⟨s2, hD2⟩
      rw [List.getElem?_map] at hi
      cases hg : ys[i]? with
      | none =>
        rw [hg] at hi
        cases hi
      | some n =>
        rw [hg] at hi
        cases hi
        have hn := hm n (List.mem_of_getElem? hg)
        obtain ⟨hf, hi1, hj1⟩ := z_ar hs hn
        refine ⟨rfl, keptT ⟨⟨_, rfl⟩, _, rfl, (by show 1 ≤ sizeLine; decide), ?_⟩⟩
        intro p3 n3
        generalize hG_ : upd G2 p3 _ = G3'
        have s3 : Same G2 G3' := (by rw [← hG_]; exact same_new (fun _ _ e => e) n3)
        have h3 := (congrFun hG_ p3).symm.trans upd_same
        clear hG_
        obtain ⟨kvs, hkv, kk⟩ := hA.same (st sG (st s2 s3))
        obtain ⟨tt, hv, ht⟩ := kk.at hn
        generalize hI : (arOf gs n).1 = ii at ht hi1
        generalize hJ : (arOf gs n).2 = jj at ht hj1
        refine ⟨_, rfl, _, rfl, a, .ref tt, rfl, .inl ⟨kvs, Sum.inr n, .inl hkv, rfl, hv.symm⟩, tt, rfl, ⟨_, SqT.of ht⟩, fun D2 hD2' => ?_⟩
        refine lc_tup (K := K) (a := tt) (xs := [.int ii, .int jj]) (fun m G4 => Same G3' G4 ∧ G4 D2 = some (.lst (([((toString ii : String) : Str), ((toString jj : String) : Str)].take m).map V.str))) ⟨same_new (fun _ _ e => e) hD2', upd_same⟩ (fun m G4 _ ⟨s4, _⟩ => SqT.of (s4 _ _ ht)) ?_ ?_
        · rintro m x G4 hx ⟨s4, hD4⟩
          have sme : ∀ G5 ob, (∀ b o, G3' b = some o → upd G5 D2 ob b = some o) ↔ (∀ b o, G3' b = some o → G5 b = some o) := fun G5 ob => by
            constructor
            · intro h b o e
              have := h b o e
              rw [upd_ne (ne_of_none e hD2')] at this
              exact this
            · intro h b o e
              rw [upd_ne (ne_of_none e hD2')]
              exact h b o e
          match m, hx with
          | 0, hx =>
            cases hx
            refine ⟨rfl, keptT ⟨_, rfl, ii, rfl, small_log3 hi1.1 hi1.2, _, hD4, (by show 0 < sizeLine; decide), (sme _ _).mpr s4, upd_same⟩⟩
          | 1, hx =>
            cases hx
            refine ⟨rfl, keptT ⟨_, rfl, jj, rfl, small_log3 hj1.1 hj1.2, _, hD4, (by show 1 < sizeLine; decide), (sme _ _).mpr s4, upd_same⟩⟩
          | m + 2, hx => simp at hx
        · rintro G4 ⟨s4, hD4⟩
          refine ⟨p3, D2, _, _, rfl, rfl, s4 _ _ h3, hD4, (by show 1 + 2 ≤ sizeLine; decide), ?_⟩
          intro p5 n5
          generalize hG_ : upd G4 p5 _ = G5
          have s5 : Same G4 G5 := (by rw [← hG_]; exact same_new (fun _ _ e => e) n5)
          have h5 := (congrFun hG_ p5).symm.trans upd_same
          clear hG_
          have l1 : n.length ≤ 8 := free_len hf
          have l2 := num_len hi1.1 hi1.2
          have l3 := num_len hj1.1 hj1.2
          refine ⟨" ", p5, [n, ((toString ii : String) : Str), ((toString jj : String) : Str)], rfl, rfl, .inl (SqL.of h5), ?_, ?_⟩
          · simp only [List.map_cons, List.map_nil, List.sum_cons, List.sum_nil, List.length_cons, List.length_nil]
            have : (" " : Str).length = 1 := by decide +kernel
            omega
          · have e1 : Txt.join " " [n, ((toString ii : String) : Str), ((toString jj : String) : Str)] = etext n ii jj := by
              rw [etext_join]
              exact StrLaws.glued_eq_join " " _
            rw [e1]
            have z5 : Same G2 G5 := st s3 (st s4 s5)
            refine ⟨_, z5 _ _ hD2, ?_, fun b o e => ?_, ?_⟩
            · rw [List.length_map]
              unfold pcs
              rw [List.length_map, List.length_take]
              exact Nat.lt_of_le_of_lt (by omega : _ ≤ 8) (by decide)
            · rw [upd_ne (ne_of_none e hD)]
              exact z5 _ _ (s2 _ _ e)
            · rw [upd_same, take_more hg]
              unfold pcs
              rw [List.map_append, List.map_append]
              show _ = some (HO.lst (_ ++ [V.str (etext n (arOf gs n).1 (arOf gs n).2)]))
              rw [hI, hJ]
    · rintro G2 ⟨s2, hD2⟩
      have e9 : (ys.map V.str).length = ys.length := List.length_map _
      rw [e9, List.take_length] at hD2
      refine ⟨_, D, pcs gs ys, rfl, rfl, .inl (SqL.of hD2), ?_, ?_⟩
      · have a1 := sum_le (α := Str) (·.length) 12 (pcs gs ys) hpl
        have a2 : (pcs gs ys).length = ys.length := List.length_map _
        rw [a2] at a1 ⊢
        have : (", " : Str).length = 2 := by decide +kernel
        rw [this]
        omega
      · have ev : Txt.join ", " (pcs gs ys) = vtext gs ys := rfl
        rw [ev]
        have hgood := vt_good hs hperm hsort
        have hlen : (vtext gs ys).length ≤ 1000 := by
          have e3 : vtext gs ys = Str.join ", " (pcs gs ys) := StrLaws.glued_eq_join ", " _
          rw [e3]
          have a3 := join_le ", " hpl
          have a2 : (pcs gs ys).length = ys.length := List.length_map _
          have : (", " : Str).length = 2 := by decide +kernel
          rw [a2, this] at a3
          omega
        refine ⟨.str (vtext gs ys), rfl, .inr ⟨vtext gs ys, rfl, hlen, fun _ o H' gs' ys' s' eg hp' hs' hV => ?_, fun z => absurd z (by rw [hgood]; decide)⟩⟩
        have e4 : gs' = gsOf gs ys := map_some_inj (eg.symm.trans (vt_ens hs hm))
        have e5 : gnames gs' = ys := by rw [e4, gn_of]
        rw [e5] at hp'
        have e6 : ys' = ys := sorted_one hs' hsort hp'
        subst e6
        obtain ⟨gs2, eg2, hv2, ht2⟩ := read_good hgood
        have e7 : gs2 = gs' := map_some_inj (eg2.symm.trans eg)
        subst e7
        refine q o gs2 ys' H' (st sG (st s2 s')) ⟨hV, fun n hn => by rw [e5]; exact hn, hyl, fun n => hperm.mem_iff, ?_⟩
        rw [ht2 ys' (by rw [e5]) hsort]
        exact ⟨ys', hperm, hsort, rfl⟩
end
end SQ4
namespace SQ4
open PySem L2 SQ
abbrev sPr4 : Stmt := top 74
abbrev sShw : Stmt := top 76
/-! ### _law_program -/
theorem Lim.of {CL CD : Addr} {ts : List Str} {H : Hp} {R : Prop} {E : XK} (h : ¬ 60 < sizeT ts ∧ ¬ 6 < depthT ts) (r : R) : Lim CL CD ts H R E := ⟨fun b => absurd b h.1, fun _ c => absurd c h.2, fun _ _ => r⟩
theorem Fine.mono {ys zs : List Str} {d e n m : Nat} {l : List El} (h : Fine ys d n l) (hy : ∀ x ∈ ys, x ∈ zs) (hd : d ≤ e) (hn : n ≤ m) : Fine zs e m l := ⟨Rr.good_imp (fun _ w => w.mono hy) h.gd, Nat.le_trans h.dp hd, Nat.le_trans h.sz hn⟩
/-- a program can be made of a row -/
theorem row_mkd {CP C CL CD o : Addr} {H : Hp} {gs gs' : List G3} {ys : List Str} {l : List El} {Q : VK} {E : XK} (V : Voc C H o gs gs' ys) (F : Fine (gnames gs) 6 60 l) (q : ∀ (p : Addr) (H' : Hp), Same H H' → Pg CP H' p o (rof l).toks (l.map elText) → Q (.ref p) H') : MkdG CP C CL CD o (jt (l.map elText)) H Q E := by
  have F2 : (rof l).good (Wok ys) := Rr.good_imp (fun _ w => w.mono fun n hn => (V.mem n).mpr hn) F.gd
  have sz := F.sz
  refine ⟨gs', ys, (rof l).toks, l.map elText, ?_, V.vc, V.sub, Nat.le_trans V.len (by decide), tb_row F2 (by omega), ?_, Lim.of ?_ q⟩
  · rw [← texts_of]
    exact jt_toks F2
  · rw [row_read F2, texts_of]
  · rw [size_toks F2, dep_toks F2]
    have := F.dp
    omega
section
variable {P : Program} {w : World} {K : PySem.W.Frag} {mg : Str → Option Value} {base : Heap} {C CP CN CM CX_ CI CL CD fI fB fX fR fQ : Addr} {dI dB dX dR dQ : FuncData}
/-- the law's helpers about rows and vocabularies -/
structure LwD (P : Program) (w : World) (K : PySem.W.Frag) (mg : Str → Option Value) (base : Heap) (C fLn fZ fVo : Addr) (dLn dZ dVo : FuncData) : Prop where
  gL : mg "_law_line" = some (.ref fLn)
  kL : PySem.W.keepIn K (.ref fLn) = true
  bL : Binds K dLn ["_law_row_here"] []
  GL : FnOk P w K mg base CX0 8 fLn dLn ["_law_row_here"] (spLine 3)
  gZ : mg "_law_size" = some (.ref fZ)
  kZ : PySem.W.keepIn K (.ref fZ) = true
  bZ : Binds K dZ ["_law_row_here"] []
  GZ : FnOk P w K mg base CX0 5 fZ dZ ["_law_row_here"] (spSz 3)
  gV : mg "_law_vocabulary" = some (.ref fVo)
  kV : PySem.W.keepIn K (.ref fVo) = true
  bV : Binds K dVo ["_law_arities_here"] []
  GV : FnOk P w K mg base CX0 8 fVo dVo ["_law_arities_here"] (spVo C)
variable {fLn fZ fVo : Addr} {dLn dZ dVo : FuncData}
def spPr4 (C CP : Addr) : Sp := fun vs H Q _ => ∃ (a r : Addr) (gs : List G3) (rv : List V) (l : List El) (ys0 : List Str), vs = [.ref a, .ref r] ∧ DAt H a gs ∧ gs.Sublist allZ ∧ H r = some (.lst rv) ∧ RowAt H rv l ∧ Fine ys0 3 60 l ∧ (∀ n ∈ ys0, n ∈ gnames gs) ∧ ∀ (p o : Addr) (gs' : List G3) (ys : List Str) (H' : Hp), Same H H' → Voc C H' o gs gs' ys → Pg CP H' p o (rof l).toks (l.map elText) → Q (.ref p) H'
theorem scPr4 : FnScope ["_law_arities_here", "_law_row_here"] ["_law_arities_here", "_law_row_here"] (defScope sPr4) := ⟨rfl, rfl, rfl, by decide +kernel, rfl, by decide +kernel, by decide +kernel⟩
theorem Voc.same {C o : Addr} {H H' : Hp} {gs gs' : List G3} {ys : List Str} (s : Same H H') (h : Voc C H o gs gs' ys) : Voc C H' o gs gs' ys := ⟨Vc.same s h.vc, h.sub, h.len, h.mem, h.txt⟩
theorem ok_pr4 {f : Addr} {fd : FuncData} (F : Fun K "_law_program" "_law_program" sPr4 f fd) (M : M6G P w K mg base C CP CN CM CX_ CI CL CD fI fB fX fR fQ dI dB dX dR dQ) (L : LwD P w K mg base C fLn fZ fVo dLn dZ dVo) : FnOk P w K mg base CX0 9 f fd ["_law_arities_here", "_law_row_here"] (spPr4 C CP) := by
  refine F.ok scPr4 (fun vs H Q E h => ?_) (fun cdv A outer s H vs Q E hr h => ?_)
  · obtain ⟨a, r, gs, rv, l, ys0, rfl, _⟩ := h
    rfl
  · obtain ⟨a, r, gs, rv, l, ys0, rfl, hA, hs, hr', hR, hF, hy, q⟩ := h
    refine ⟨_, pss_one (ps_ret (pe_make M.MK M.GI (hr.mono (by decide)) rfl M.PV.g M.bI .nil passX (pa_cons (pe_call L.GV hr rfl L.gV L.kV L.bV .nil pass0 (pa_cons (pv 0) pa_nil)) (pa_cons (pe_call L.GL hr rfl L.gL L.kL L.bL .nil pass0 (pa_cons (pv 1) pa_nil)) pa_nil)))), ?_⟩
    refine ⟨_, rfl, a, gs, rfl, hA, hs, fun o gs' ys H1 s1 V => ⟨_, rfl, r, rv, l, ys0, rfl, s1 _ _ hr', hR.same s1, hF.mono (fun _ h => h) (Nat.le_refl _) (by decide), fun H2 s2 => ?_⟩⟩
    refine fun x dx nx ndx ne => ?_
    exact MkdG.run nx ndx ne (row_mkd (V.same s2) (hF.mono hy (by decide) (Nat.le_refl _)) fun p H' s' hP => q p o gs' ys H' (st s1 (st s2 s')) (V.same (st s2 s')) hP)
/-! ### texts and their reprs -/
theorem jn_mem {S : List Nat} {c : Nat} : ∀ {a : List (List Nat)}, c ∈ jn S a → c ∈ S ∨ ∃ x ∈ a, c ∈ x
  | [], h => by cases h
  | [x], h => .inr ⟨x, List.mem_singleton.mpr rfl, h⟩
  | x :: y :: r, h => by
    have h' : c ∈ x ++ (S ++ jn S (y :: r)) := h
    rcases List.mem_append.mp h' with h | h
    · exact .inr ⟨x, List.mem_cons_self, h⟩
    · rcases List.mem_append.mp h with h | h
      · exact .inl h
      · rcases jn_mem h with h | ⟨z, hz, h⟩
        · exact .inl h
        · exact .inr ⟨z, List.mem_cons_of_mem _ hz, h⟩
theorem strOk_iff (x : Str) : PyData.strOk x = true ↔ ∀ c ∈ x.cps.toList, c < 0x110000 := by
  unfold PyData.strOk
  rw [← Array.all_toList, List.all_eq_true]
  constructor
  · intro h c hc
    exact of_decide_eq_true (h c hc)
  · intro h c hc
    exact decide_eq_true (h c hc)
theorem strOk_jt {l : List Str} (h : ∀ x ∈ l, PyData.strOk x = true) : PyData.strOk (jt l) = true := by
  rw [strOk_iff]
  intro c hc
  rw [jt_tl] at hc
  rcases jn_mem hc with h1 | ⟨z, hz, h1⟩
  · rw [List.mem_singleton.mp h1]
    decide
  · obtain ⟨y, hy, rfl⟩ := List.mem_map.mp hz
    exact (strOk_iff y).mp (h y hy) c h1
theorem strOk_app {a b : Str} (ha : PyData.strOk a = true) (hb : PyData.strOk b = true) : PyData.strOk (a ++ b) = true := by
  rw [strOk_iff] at *
  intro c hc
  rw [str_app] at hc
  rcases List.mem_append.mp hc with h | h
  · exact ha c h
  · exact hb c h
theorem strOk_qt {x : Str} (h : PyData.strOk x = true) : PyData.strOk (qtext x) = true := by
  unfold qtext
  split
  · decide +kernel
  · exact strOk_app (strOk_app (by decide +kernel) h) (by decide +kernel)
theorem row_ok {ys : List Str} : ∀ {r : Rr}, r.good (Wok ys) → ∀ x ∈ r.texts, PyData.strOk x = true
  | .nil, _, x, h => by cases h
  | .w s r, g, x, h => by
    rcases List.mem_cons.mp h with rfl | h
    · exact g.1.ok
    · exact row_ok g.2 x h
  | .q i r, g, x, h => by
    rcases List.mem_cons.mp h with rfl | h
    · exact strOk_qt (strOk_jt (row_ok g.1))
    · exact row_ok g.2 x h
theorem rep_len {x : Str} (h : PyData.strOk x = true) : (PyData.shown (.str x)).length ≤ 10 * x.length + 2 := by
  simp only [PyData.shown]
  exact PySem.StrLaws.reprText_len x fun c hc => Nat.lt_trans ((strOk_iff x).mp h c hc) (by decide)
/-- what is shown of a program -/
def dShw (xs : List Str) (x y : Str) (n m : Int) (b : Bool) : List PyData := [.tuple (xs.map PyData.str), .str x, .int n, .int m, .bool b, .str x, .str y]
theorem sa_strs : ∀ l : List Str, PyData.showableAll (l.map PyData.str) = true ∧ PyData.depthAll (l.map PyData.str) ≤ 0
  | [] => by simp [PyData.showableAll, PyData.depthAll]
  | x :: l => by
    have := sa_strs l
    simp only [List.map_cons, PyData.showableAll, PyData.depthAll, PyData.showable, PyData.depth, this.1]
    exact ⟨rfl, by have := this.2; omega⟩
theorem log_nat {n : Nat} (h : n ≤ 1000) : (n : Int).natAbs.log2 < 1920 := log_small (.inr ⟨by omega, by omega⟩)
theorem shw_ok (xs : List Str) (x y : Str) (b : Bool) {n m : Nat} (hn : n ≤ 1000) (hm : m ≤ 1000) : (PyData.list (dShw xs x y n m b)).showable = true ∧ (PyData.list (dShw xs x y n m b)).depth ≤ 60 := by
  have h := sa_strs xs
  have h1 : decide ((n : Int).natAbs.log2 < 1920) = true := decide_eq_true (log_nat hn)
  have h2 : decide ((m : Int).natAbs.log2 < 1920) = true := decide_eq_true (log_nat hm)
  constructor
  · simp only [dShw, PyData.showable, PyData.showableAll, h.1, h1, h2]
    rfl
  · simp only [dShw, PyData.depth, PyData.depthAll]
    have := h.2
    omega
theorem shAll : ∀ l : List PyData, PyData.shownAll l = l.map PyData.shown
  | [] => by simp only [PyData.shownAll, List.map_nil]
  | d :: l => by simp only [PyData.shownAll, List.map_cons, shAll l]
theorem int_shown {n : Nat} (h : n ≤ 999999) : (PyData.shown (.int (n : Int))).length ≤ 6 := by
  simp only [PyData.shown]
  have e : (((toString ((n : Nat) : Int) : String) : Str)).length = ((Nat.toDigits 10 n).map Char.toNat).length := by
    show (((toString ((n : Nat) : Int) : String) : Str)).cps.size = _
    rw [← Array.length_toList, PySem.W.KIN.signs_num n]
  have := (digs 5 n (by omega)).1
  exact Nat.le_trans (Nat.le_of_eq e) this
theorem shw_len {xs : List Str} {x y : Str} {n m : Nat} {b : Bool} (hn : n ≤ 1000) (hm : m ≤ 1000) (hx : PyData.strOk x = true) (hy : PyData.strOk y = true) (hxs : ∀ z ∈ xs, PyData.strOk z = true ∧ z.length ≤ 6010) (hl : xs.length ≤ 130) (lx : x.length ≤ 6000) (ly : y.length ≤ 6100) : (PyData.list (dShw xs x y n m b)).shown.length ≤ sizeLine := by
  refine Nat.le_trans ?_ (by decide : 10000000 ≤ sizeLine)
  have e1 : ((PyData.tuple (xs.map PyData.str)).shown).length ≤ 130 * 60102 + 300 := by
    simp only [PyData.shown]
    rw [shAll, List.map_map]
    have h := tupleText_len_le (xs.map (PyData.shown ∘ PyData.str))
    rw [List.map_map, List.length_map] at h
    have h2 := sum_le (α := Str) ((fun x : Str => x.length) ∘ (PyData.shown ∘ PyData.str)) 60102 xs fun z hz => by
      have := rep_len (hxs z hz).1
      have := (hxs z hz).2
      show (PyData.shown (.str z)).length ≤ 60102
      omega
    have h3 : xs.length * 60102 ≤ 130 * 60102 := Nat.mul_le_mul_right _ hl
    omega
  have e2 := rep_len hx
  have e3 := rep_len hy
  have e4 := int_shown (n := n) (by omega)
  have e5 := int_shown (n := m) (by omega)
  have e6 : (PyData.shown (.bool b)).length ≤ 5 := by
    cases b <;> simp only [PyData.shown] <;> decide +kernel
  have h := listText_len_le (PyData.shownAll (dShw xs x y n m b))
  have e7 : (PyData.list (dShw xs x y n m b)).shown = listText (PyData.shownAll (dShw xs x y n m b)) := by simp only [PyData.shown]
  rw [e7]
  rw [shAll] at h ⊢
  simp only [dShw, List.map_cons, List.map_nil, List.sum_cons, List.sum_nil, List.length_cons, List.length_nil] at h ⊢
  omega
end
end SQ4
namespace SQ4
open PySem L2 SQ
section
variable {P : Program} {w : World} {K : PySem.W.Frag} {mg : Str → Option Value} {base : Heap} {C CP : Addr}
def spRpQ (CP : Addr) : Sp := fun vs H Q _ => ∃ (a o : Addr) (ts xs : List Str), vs = [.ref a] ∧ Pg CP H a o ts xs ∧ (jt ts).length ≤ 9000 ∧ Q (.str (Str.empty ++ "Program(" ++ jt ts ++ ")")) H
theorem ok_rpQ {f : Addr} {fd : FuncData} (F : Fun K "__repr__" "Program.__repr__" sRpP f fd) (PV : PC K mg CP) : FnOk P w K mg base CX0 1 f fd ["self"] (spRpQ CP) := by
  refine F.ok scRpP (fun vs H Q E h => ?_) (fun cdv A outer s H vs Q E hr h => ?_)
  · obtain ⟨a, o, ts, xs, rfl, _⟩ := h
    rfl
  · obtain ⟨a, o, ts, xs, rfl, ⟨dx, r, tW, ha, _⟩, hx, q⟩ := h
    refine ⟨_, pss_one (ps_ret (pe_joined (.cons pe_str (.cons (pe_fmt (pe_fld (pv 0) rfl)) (.cons pe_str .nil))))), ?_⟩
    have l1 : (Str.empty ++ ("Program(" : Str)).length = 8 := by decide
    have l2 : (")" : Str).length = 1 := rfl
    have line : ∀ {n : Nat}, n ≤ 10000 → n ≤ sizeLine := fun h => Nat.le_trans h (by decide)
    refine ⟨_, rfl, by rw [l1]; exact line (by decide), _, rfl, a, CP, dx, _, _, rfl, ha, PV.cl, PV.nT, rfl, ?_⟩
    refine .inl ⟨jt ts, rfl, line (by omega), _, rfl, ?_, _, rfl, ?_, q⟩
    · rw [len_app, l1]
      exact line (by omega)
    · rw [len_app, len_app, l1, l2]
      exact line (by omega)
/-- what the program's own methods tell -/
structure OwD (P : Program) (w : World) (K : PySem.W.Frag) (mg : Str → Option Value) (base : Heap) (C CP fLP fSP fRP fEV : Addr) : Prop where
  PV : PC K mg CP
  LC : LenC K CP fLP
  GLP : FnR P w K mg base CX0 1 fLP (spLnP CP)
  sf : PySem.W.findIn K (.ref CP) "__str__" = some (some (.ref fSP))
  sn : PySem.W.isFn K (.ref fSP) = true
  GSP : FnR P w K mg base CX0 1 fSP (spStP CP)
  RC : RpC K CP fRP
  GRP : FnR P w K mg base CX0 1 fRP (spRpQ CP)
  CQ : CmpC K C fEV
  GEV : FnR P w K mg base CX0 1 fEV (spEqV C)
  rp : mg "repr" = none
variable {fLn fZ fVo fLP fSP fRP fEV : Addr} {dLn dZ dVo : FuncData}
abbrev nShw : List Str := ["_law_made", "_law_arities_here", "_law_row_here", "_law_line_here", "_law_words_here", "_law_seen", "_law_due", "_law_token"]
theorem scShw : FnScope nShw ["_law_made", "_law_arities_here", "_law_row_here"] (defScope sShw) := ⟨rfl, rfl, rfl, by decide +kernel, rfl, by decide +kernel, by decide +kernel⟩
/-- a made program and its row -/
structure Mad (C CP : Addr) (H : Hp) (p : Addr) (gs : List G3) (l : List El) : Prop where
  ex : ∃ (o : Addr) (gs' : List G3) (ys : List Str), Pg CP H p o (rof l).toks (l.map elText) ∧ Voc C H o gs gs' ys
theorem Mad.same {C CP p : Addr} {H H' : Hp} {gs : List G3} {l : List El} (s : Same H H') (h : Mad C CP H p gs l) : Mad C CP H' p gs l := by
  obtain ⟨o, gs', ys, h1, h2⟩ := h.ex
  exact ⟨o, gs', ys, h1.same s, h2.same s⟩
def spShw (C CP : Addr) : Sp := fun vs H Q _ => ∃ (p a r : Addr) (gs : List G3) (rv : List V) (l : List El) (ys0 : List Str), vs = [.ref p, .ref a, .ref r] ∧ Mad C CP H p gs l ∧ DAt H a gs ∧ gs.Sublist allZ ∧ H r = some (.lst rv) ∧ RowAt H rv l ∧ Fine ys0 3 130 l ∧ ∀ H', Same H H' → Q (.bl true) H'
theorem seqT_same {K : PySem.W.Frag} {H H' : Hp} {a : Addr} {xs : List V} (e : Same H H') (h : SqT K H a xs) : SqT K H' a xs := by
  rcases h with (h | ⟨o, h⟩) | h
  · exact .inl (.inl (e _ _ h))
  · exact .inl (.inr ⟨o, e _ _ h⟩)
  · exact .inr h
mutual
theorem dp_same {K : PySem.W.Frag} {H H' : Hp} (s : Same H H') : ∀ {v : V} {d : PyData}, Dp K H v d → Dp K H' v d
  | _, _, .non => .non
  | _, _, .bl b => .bl b
  | _, _, .int i => .int i
  | _, _, .str x => .str x
  | _, _, .lst h a => .lst (s.seq h) (dpAll_same s a)
  | _, _, .tup h a => .tup (seqT_same s h) (dpAll_same s a)
theorem dpAll_same {K : PySem.W.Frag} {H H' : Hp} (s : Same H H') : ∀ {vs : List V} {ds : List PyData}, DpAll K H vs ds → DpAll K H' vs ds
  | _, _, .nil => .nil
  | _, _, .cons a b => .cons (dp_same s a) (dpAll_same s b)
end
theorem fine_one {ys : List Str} {d n : Nat} {l : List El} {e : El} (h : Fine ys d n l) (he : e ∈ l) : Fine ys d n [e] := by
  refine ⟨good_of_all.mpr fun x hx => ?_, dep_of_all.mpr fun x hx => ?_, ?_⟩
  · rw [List.mem_singleton.mp hx]
    exact good_of_all.mp h.gd e he
  · rw [List.mem_singleton.mp hx]
    exact dep_of_all.mp h.dp e he
  · have a := sum_mem elSize he
    have b := h.sz
    rw [size_of] at b ⊢
    simp only [List.map_cons, List.map_nil, List.sum_cons, List.sum_nil]
    omega
theorem ok_shw {f : Addr} {fd : FuncData} (F : Fun K "_law_shown" "_law_shown" sShw f fd) (B : B2 mg) (L : LwD P w K mg base C fLn fZ fVo dLn dZ dVo) (O : OwD P w K mg base C CP fLP fSP fRP fEV) : FnG P w K mg base CX0 9 f fd ["_law_made", "_law_arities_here", "_law_row_here"] (spShw C CP) := by
  refine okG F scShw (fun vs H Q E h => ?_) (fun cdv A outer s H vs Q E hgd hr h => ?_)
  · obtain ⟨p, a, r, gs, rv, l, ys0, rfl, _⟩ := h
    rfl
  · obtain ⟨p, a, r, gs, rv, l, ys0, rfl, hMd, hA, hs, hrw, hR, hF, q⟩ := h
    obtain ⟨o, gsV, ysV, hPg, hVV⟩ := hMd.ex
    have hVx := hVV.vc.vx
    have hVo := hVV.txt
    generalize vtext gsV ysV = z at hVx hVo
    obtain ⟨dxP, rP, tW, hp, hW⟩ := hPg
    have hPg : ∀ H', Same H H' → Pg CP H' p o (rof l).toks (l.map elText) := fun H' s' => ⟨dxP, rP, tW, s' _ _ hp, s' _ _ hW⟩
    refine ⟨_, pss_cons (ps_set (i := 3) scShw.nd rfl (.inl rfl) (pe_call L.GL hr rfl L.gL L.kL L.bL .nil pass0 (pa_cons (pv 2) pa_nil)))
      (pss_cons (ps_set (i := 4) scShw.nd rfl (.inl rfl) (pe_callTy call_tuple_of (by rfl) B.tuple (by decide +kernel) (pa_cons (pe_lc (own := [("_law_token", 7)]) (g := gName 7) (tt := tYes) rfl scShw.nd (pi_list (pv 2)) (blkOk_by (N := nShw) (sc := defScope sShw) (by decide +kernel)) (fun _ _ _ _ _ => pg_name (i := 7) scShw.nd rfl (.inl rfl)) (fun _ _ _ _ _ => pts_nil) (fun _ _ _ _ _ => pe_call L.GL hr rfl L.gL L.kL L.bL .nil pass0 (pa_cons (pe_lst (pa_cons (pv 7) pa_nil)) pa_nil))) pa_nil)))
      (pss_cons (ps_set (i := 5) scShw.nd rfl (.inl rfl) (pe_lst (pa_cons (pe_fld (pv 0) rfl) (pa_cons (pe_fld (pv 0) rfl) (pa_cons (pe_fld (pv 0) rfl) (pa_cons (pe_callB (cr_lenOwn O.GLP (hr.mono (by decide)) O.LC) (by rfl) B.len PySem.boot_len (pa_cons (pv 0) pa_nil)) (pa_cons (pe_callTy (cr_boolOwn O.GLP (hr.mono (by decide)) O.LC) (by rfl) B.bool (by decide +kernel) (pa_cons (pv 0) pa_nil)) (pa_cons (pe_callTy (cr_strOwn O.GSP (hr.mono (by decide)) O.sf O.sn) (by rfl) B.str (by decide +kernel) (pa_cons (pv 0) pa_nil)) (pa_cons (pe_callB (cr_reprOwn O.GRP (hr.mono (by decide)) O.RC) (by rfl) O.rp (by decide +kernel) (pa_cons (pv 0) pa_nil)) pa_nil)))))))))
      (pss_cons (ps_set (i := 6) scShw.nd rfl (.inl rfl) (pe_lst (pa_cons (pv 4) (pa_cons (pv 3) (pa_cons (pe_call L.GZ (hr.mono (by decide)) rfl L.gZ L.kZ L.bZ .nil pass0 (pa_cons (pv 2) pa_nil)) (pa_cons (pe_callB call_len_seq (by rfl) B.len PySem.boot_len (pa_cons (pv 2) pa_nil)) (pa_cons (pe_cmpR (op_neD hr.units) (pv 2) (pe_lst pa_nil) (by rfl)) (pa_cons (pv 3) (pa_cons (pe_op op_add_str (pe_op op_add_str pe_str (pv 3)) pe_str) pa_nil)))))))))
      (pss_one (ps_ret (pe_and (pe_cmpR op_eq (pe_callB (cr_reprL hgd hr.units) (by rfl) O.rp (by decide +kernel) (pa_cons (pv 5) pa_nil)) (pe_callB (cr_reprL hgd hr.units) (by rfl) O.rp (by decide +kernel) (pa_cons (pv 6) pa_nil)) (by rfl)) (pe_one (pe_cmpR (op_eqOwn O.GEV (hr.mono (by decide)) O.CQ) (pe_fld (pv 0) rfl) (pe_call L.GV hr rfl L.gV L.kV L.bV .nil pass0 (pa_cons (pv 1) pa_nil)) (by rfl))))))))), ?_⟩
    have hlen : l.length ≤ 130 := Nat.le_trans (len_size l) hF.sz
    have hwl : rv.length = l.length := Paired.length hR
    have hjt : jt (l.map elText) = jt (rof l).toks := by
      rw [← texts_of]
      exact jt_toks hF.gd
    have hx : (jt (l.map elText)).length ≤ 6000 := by
      rw [← texts_of]
      exact len_row hF.gd hF.sz
    generalize hX : jt (l.map elText) = x at hjt hx
    -- the line
    refine seq_mid (fun σ G => σ = [some (.ref p), some (.ref a), some (.ref r), some (.str x), none, none, none, none] ∧ Same H G) (fun N hN => ?_) ?_
    · refine ⟨_, rfl, r, rv, l, ys0, rfl, hrw, hR, hF, fun G s1 => ?_⟩
      rw [hX]
      exact hN _ _ ⟨rfl, s1⟩
    rintro _ G1 ⟨rfl, s1⟩
    -- the words
    refine seq_mid (fun σ G => ∃ tw, σ = [some (.ref p), some (.ref a), some (.ref r), some (.str x), some (.ref tw), none, none, none] ∧ Same H G ∧ G tw = some (.tup ((l.map elText).map V.str))) (fun N hN => ?_) ?_
    · refine ⟨_, rfl, r, rfl, ⟨_, SqL.of (s1 _ _ hrw)⟩, fun D hD => ?_⟩
      refine lc_list (K := K) (a := r) (xs := rv) (fun i G => Same G1 G ∧ G D = some (.lst (((l.take i).map elText).map V.str))) ⟨same_new (fun _ _ e => e) hD, upd_same⟩ (fun i G _ ⟨s2, _⟩ => SqL.of (s2 _ _ (s1 _ _ hrw))) ?_ ?_
      · rintro i v G hi ⟨s2, hD2⟩
        obtain ⟨e, he, hv⟩ := Paired.at (F := _) hR hi
        have hem := List.mem_of_getElem? he
        refine ⟨rfl, keptT ⟨_, rfl, (by show 1 ≤ sizeLine; decide), ?_⟩⟩
        intro p3 n3
        generalize hG_ : upd G p3 _ = G3'
        have s3 : Same G G3' := (by rw [← hG_]; exact same_new (fun _ _ e => e) n3)
        have h3 := (congrFun hG_ p3).symm.trans upd_same
        clear hG_
        have z3 : Same H G3' := st s1 (st s2 s3)
        refine ⟨p3, [v], [e], ys0, rfl, h3, .cons (hv.same z3) .nil, fine_one hF hem, fun G4 s4 => ?_⟩
        have e1 : jt ([e].map elText) = elText e := rfl
        rw [e1]
        have z4 : Same G G4 := st s3 s4
        refine ⟨_, z4 _ _ hD2, ?_, fun b ob eb => ?_, ?_⟩
        · rw [List.length_map, List.length_map, List.length_take]
          exact Nat.lt_of_le_of_lt (by omega : min i l.length ≤ 130) (by decide)
        · rw [upd_ne (ne_of_none eb hD)]
          exact z4 _ _ (s2 _ _ eb)
        · rw [upd_same, take_more he, List.map_append, List.map_append]
          rfl
      · rintro G ⟨s2, hD2⟩
        rw [hwl, List.take_length] at hD2
        refine ⟨D, _, rfl, .inl ⟨SqL.of hD2, ?_⟩⟩
        intro pt nt
        generalize hG_ : upd G pt _ = G3'
        have s3 : Same G G3' := (by rw [← hG_]; exact same_new (fun _ _ e => e) nt)
        have h3 := (congrFun hG_ pt).symm.trans upd_same
        clear hG_
        exact hN _ _ ⟨pt, rfl, st s1 (st s2 s3), h3⟩
    rintro _ G2 ⟨tw, rfl, s2, htw⟩
    have hsz : (rof l).size ≤ 130 := hF.sz
    have hst : sizeT (rof l).toks = ((rof l).size : Nat) := size_toks hF.gd
    generalize hD : dShw (l.map elText) x (Str.empty ++ "Program(" ++ x ++ ")") ((rof l).size : Nat) (l.length : Nat) ((((l.length : Nat) : Int)) != 0) = ds
    -- seen
    refine seq_mid (fun σ G => ∃ t1 vs, σ = [some (.ref p), some (.ref a), some (.ref r), some (.str x), some (.ref tw), some (.ref t1), none, none] ∧ Same H G ∧ G tw = some (.tup ((l.map elText).map V.str)) ∧ G t1 = some (.lst vs) ∧ DpAll K G vs ds) (fun N hN => ?_) ?_
    · have g2 := s2 _ _ hp
      refine ⟨_, rfl, p, CP, dxP, _, _, rfl, g2, O.PV.cl, O.PV.nW, rfl, _, rfl, p, CP, dxP, _, _, rfl, g2, O.PV.cl, O.PV.nT, rfl, _, rfl, p, CP, dxP, _, _, rfl, g2, O.PV.cl, O.PV.nS, rfl, ?_⟩
      refine ⟨_, rfl, p, dxP, _, rfl, g2, p, o, _, _, rfl, hPg _ s2, _, rfl, by omega, by rw [List.length_map]; omega, ?_⟩
      refine ⟨_, rfl, p, dxP, _, rfl, g2, p, o, _, _, rfl, hPg _ s2, _, rfl, by omega, by rw [List.length_map]; omega, ?_⟩
      refine ⟨_, rfl, p, dxP, _, rfl, g2, p, o, _, _, rfl, hPg _ s2, _, rfl, ?_⟩
      refine ⟨_, rfl, p, dxP, _, rfl, g2, p, o, _, _, rfl, hPg _ s2, by rw [← hjt]; omega, _, rfl, ?_⟩
      refine ⟨(by show 7 ≤ sizeLine; decide), ?_⟩
      intro t1 n3
      generalize hG_ : upd G2 t1 _ = G3'
      have s3 : Same G2 G3' := (by rw [← hG_]; exact same_new (fun _ _ e => e) n3)
      have h3 := (congrFun hG_ t1).symm.trans upd_same
      clear hG_
      refine hN _ _ ⟨t1, _, rfl, st s2 s3, s3 _ _ htw, h3, ?_⟩
      rw [← hD, hst, ← hjt]
      have e1 : (l.map elText).length = l.length := List.length_map _
      rw [e1]
      have tup : ∀ {G : Hp} (ys : List Str), DpAll K G (ys.map V.str) (ys.map PyData.str) := fun {G} ys => by
        induction ys with
        | nil => exact .nil
        | cons y ys ih => exact .cons (.str y) ih
      exact .cons (.tup (SqT.of (s3 _ _ (s2 _ _ hW))) (tup _)) (.cons (.str _) (.cons (.int _) (.cons (.int _) (.cons (.bl _) (.cons (.str _) (.cons (.str _) .nil))))))
    rintro _ G3' ⟨t1, vs1, rfl, s3, htw3, ht1, hd1⟩
    have tup : ∀ {G : Hp} (ys : List Str), DpAll K G (ys.map V.str) (ys.map PyData.str) := fun {G} ys => by
      induction ys with
      | nil => exact .nil
      | cons y ys ih => exact .cons (.str y) ih
    have ep : (Str.empty ++ ("Program(" : Str)) = "Program(" := by decide +kernel
    have lp : ("Program(" : Str).length = 8 := by decide +kernel
    have lq : (")" : Str).length = 1 := rfl
    -- due
    refine seq_mid (fun σ G => ∃ t2 vs2, σ = [some (.ref p), some (.ref a), some (.ref r), some (.str x), some (.ref tw), some (.ref t1), some (.ref t2), none] ∧ Same H G ∧ G t1 = some (.lst vs1) ∧ DpAll K G vs1 ds ∧ G t2 = some (.lst vs2) ∧ DpAll K G vs2 ds) (fun N hN => ?_) ?_
    · refine ⟨_, rfl, _, rfl, _, rfl, r, rv, l, ys0, rfl, s3 _ _ hrw, hR.same s3, hF, fun G4 s4 => ?_⟩
      have z4 : Same H G4 := st s3 s4
      refine ⟨_, rfl, r, rv, rfl, .inl (SqL.of (z4 _ _ hrw)), _, rfl, (by show 0 ≤ sizeLine; decide), ?_⟩
      intro pn nn
      generalize hG_ : upd G4 pn _ = G5
      have s5 : Same G4 G5 := (by rw [← hG_]; exact same_new (fun _ _ e => e) nn)
      have h5 := (congrFun hG_ pn).symm.trans upd_same
      clear hG_
      have z5 : Same H G5 := st z4 s5
      refine ⟨_, _, .lst (SqL.of (z5 _ _ hrw)) (row_dp (hR.same z5).inn), .lst (SqL.of h5) .nil, row_sh hF.gd (Nat.le_trans hF.dp (by decide)), sh_nilL, ?_⟩
      rw [row_eqnil]
      refine ⟨_, rfl, _, rfl, _, _, rfl, rfl, ?_, _, _, rfl, rfl, ?_, (by show 7 ≤ sizeLine; decide), ?_⟩
      · rw [lp]
        exact Nat.le_trans (by omega : _ ≤ 7000) (by decide)
      · rw [Str.length_append, lp, lq]
        exact Nat.le_trans (by omega : _ ≤ 7000) (by decide)
      intro t2 n6
      generalize hG_ : upd G5 t2 _ = G6
      have s6 : Same G5 G6 := (by rw [← hG_]; exact same_new (fun _ _ e => e) n6)
      have h6 := (congrFun hG_ t2).symm.trans upd_same
      clear hG_
      have z6 : Same G3' G6 := st s4 (st s5 s6)
      refine hN _ _ ⟨t2, _, rfl, st s3 z6, z6 _ _ ht1, ?_, h6, ?_⟩
      · have dsm : ∀ {vs : List V} {es : List PyData}, DpAll K G3' vs es → DpAll K G6 vs es := fun h => dpAll_same z6 h
        exact dsm hd1
      · rw [← hD, ep]
        have eb : (!decide (rof l = .nil)) = ((((l.length : Nat) : Int)) != 0) := by
          cases l with
          | nil => rfl
          | cons e l =>
            have h1 : ¬ rof (e :: l) = .nil := by
              cases e with
              | inl s => exact fun z => nomatch z
              | inr i => exact fun z => nomatch z
            rw [decide_eq_false h1]
            have h2 : ¬ (((e :: l).length : Nat) : Int) = 0 := by
              rw [List.length_cons]
              omega
            show (!false) = !(_ == _)
            rw [beq_eq_false_iff_ne.mpr h2]
        rw [eb, hwl]
        exact .cons (.tup (SqT.of (z6 _ _ htw3)) (tup _)) (.cons (.str _) (.cons (.int _) (.cons (.int _) (.cons (.bl _) (.cons (.str _) (.cons (.str _) .nil))))))
    rintro _ G4 ⟨t2, vs2, rfl, s4, ht1', hd1', ht2, hd2⟩
    -- the end
    have okx : ∀ y ∈ l.map elText, PyData.strOk y = true := by
      rw [← texts_of]
      exact row_ok hF.gd
    have kx : PyData.strOk x = true := by
      rw [← hX]
      exact strOk_jt okx
    have sh1 := shw_ok (l.map elText) x (Str.empty ++ "Program(" ++ x ++ ")") ((((l.length : Nat) : Int)) != 0) (n := (rof l).size) (m := l.length) (by omega) (by omega)
    have sh2 : (PyData.list (dShw (l.map elText) x (Str.empty ++ "Program(" ++ x ++ ")") ((rof l).size : Nat) (l.length : Nat) ((((l.length : Nat) : Int)) != 0))).shown.length ≤ sizeLine := by
      refine shw_len (by omega) (by omega) kx ?_ (fun y hy => ⟨okx y hy, el_len hF (Nat.le_refl _) y hy⟩) (by rw [List.length_map]; exact hlen) hx ?_
      · rw [ep]
        exact strOk_app (strOk_app (by decide +kernel) kx) (by decide +kernel)
      · rw [ep, Str.length_append, Str.length_append, lp, lq]
        omega
    rw [hD] at sh1 sh2
    refine ⟨_, rfl, t1, vs1, ds, rfl, SqL.of ht1', .inl hd1', sh1.1, sh1.2, sh2, _, rfl, t2, vs2, ds, rfl, SqL.of ht2, .inl hd2, sh1.1, sh1.2, sh2, rfl, ?_⟩
    rw [decide_eq_true rfl]
    refine ⟨_, rfl, iteT ?_⟩
    have g4 := s4 _ _ hp
    obtain ⟨dx, dA, tN, ho⟩ := hVx
    refine ⟨_, rfl, p, CP, dxP, _, _, rfl, g4, O.PV.cl, O.PV.nV, rfl, _, rfl, a, gs, rfl, hA.same s4, hs, fun o2 gs' ys' G5 s5 V => ?_⟩
    have hv2 := V.vc.vx
    obtain ⟨dx2, dA2, tN2, ho2⟩ := hv2
    refine ⟨o, o2, dx, dx2, _, _, rfl, rfl, s5 _ _ (s4 _ _ ho), ho2, o, o2, z, _, rfl, ⟨dx, dA, tN, s5 _ _ (s4 _ _ ho)⟩, ⟨dx2, dA2, tN2, ho2⟩, _, rfl, ?_⟩
    rw [decide_eq_true (hVo.one V.txt)]
    exact q G5 (st s4 s5)
end
end SQ4
/-! o != a text, o an instance with its own ==; o.m(g=.., f=..). -/
namespace SQ
open PySem PySem.Spec PyProof.Rows L2
open PySem.W (InstAt findIn isFn subIn)
section
variable {prog : Program} {w : World} {A : Around} {E : Value → Shared → Prop} {s : Shared} {K : PySem.W.Frag} {x C f : Addr} {ox : Obj} {od : Option Obj} {y : Value}
theorem call_neA {Q : Value → Shared → Prop} (X : K.In s.heap) (I : InstAt s.heap x ox C od) (hu : A.in1.units < cLine) (ho : subIn K (.ref C) (.type "object") = some true) (he : findIn K (.ref C) "__eq__" = some (some (.ref f))) (hf : isFn K (.ref f) = true)
    (h : wpAny (model prog w) A.in1 (call (.ref f) [.ref x, y]) (NeBack Q) E s) : wpAny (model prog w) A (call (.builtin "object.__ne__") [.ref x, y]) Q E s := by
  refine wpAny_call (codeAny_call_builtin slot_one.plain PySem.F.cmpEntry_ne (chk_ne X I ho ?_))
  unfold Builtin.«object.__ne__»
  refine wpAny_bind (m := slotArgs "__ne__" 1 _) (wpAny_pure ?_)
  refine wpAny_bind (wpAny_cRoomFor hu ?_)
  refine wpAny_bind (PySem.W.ifBound_K X I he hf (wpAny_mono h (fun v s' z => ?_) fun _ _ z => z))
  obtain ⟨b, rfl, q⟩ := z
  refine wpAny_bind (wpAny_truthy_bool ?_)
  exact wpAny_pure q
theorem rc_neS {y : Str} {ty : Tok} {Q : Value → Shared → Prop} (X : K.In s.heap) (I : InstAt s.heap x ox C od) (hu0 : A.units < cLine) (hu : A.in1.units < cLine) (ho : subIn K (.ref C) (.type "object") = some true) (hsub : subIn K (.type "str") (.ref C) = some false)
    (hs : findIn K (.ref C) "__ne__" = some (some (.builtin "object.__ne__"))) (he : findIn K (.ref C) "__eq__" = some (some (.ref f))) (hf : isFn K (.ref f) = true)
    (h : wpAny (model prog w) A.in1 (call (.ref f) [.ref x, .str y ty]) (NeBack Q) E s) : wpAny (model prog w) A (richCompare .NotEq (.ref x) (.str y ty)) Q E s := by
  have one : wpAny (model prog w) A (tryCompare (.ref x) "__ne__" (.str y ty)) (fun r s' => ∃ b, r = some (.bool b) ∧ Q (.bool b) s') E s := by
    unfold tryCompare
    have g := call_neA (prog := prog) (w := w) (A := A) (E := E) (y := .str y ty) (Q := fun v s' => ∃ b, v = .bool b ∧ Q v s') X I hu ho he hf (wpAny_mono h (fun v s' z => by
      obtain ⟨b, rfl, q⟩ := z
      exact ⟨b, rfl, _, rfl, q⟩) fun _ _ z => z)
    refine wpAny_bind (ifBound_ne X I hs (wpAny_mono g (fun v s' z => ?_) fun _ _ z => z))
    obtain ⟨b, rfl, q⟩ := z
    exact wpAny_pure ⟨b, rfl, q⟩
  unfold richCompare
  refine wpAny_holding (wpAny_bind (wpAny_cRoomFor hu0 ?_))
  have h1 : oneThing? .NotEq (.ref x) (.str y ty) = none := by rfl
  rw [h1]
  refine wpAny_bind (I.type.here ?_)
  refine wpAny_bind (m := typeOf (.str y ty)) (wpAny_pure ?_)
  rw [show (Value.ref C != Value.type "str") = true from by rfl]
  simp only [if_true]
  refine wpAny_bind ((PySem.W.looks_subIn X hsub).here ?_)
  simp only [Bool.false_eq_true, if_false]
  refine wpAny_bind (wpAny_mono one (fun r s' z => ?_) fun _ _ z => z)
  obtain ⟨b, rfl, q⟩ := z
  exact wpAny_pure q
end
theorem op_neOwnS {X : Cx} {k : Nat} {f C : Addr} {sp : Sp} (F : FnR X.prog X.w X.K X.mg X.base CX0 k f sp) (hr : Room (k + 2) X.A) (T : CmpC X.K C f) (hsub : subIn X.K (.type "str") (.ref C) = some false) :
    OpR X (compareOp .NotEq) (fun x y H Q => ∃ (a dx : Addr) (fs : List (Str × V)) (z : Str), x = .ref a ∧ y = .str z ∧ H a = some (.ins C dx fs) ∧ sp [.ref a, .str z] H (fun v H' => ∃ r, v = .bl r ∧ Q (.bl (!r)) H') E0) := by
  intro pins s σ H x y v u Q I rx ry h
  obtain ⟨a, dx, fs, z, rfl, rfl, ha, q⟩ := h
  obtain rfl : v = Value.ref a := rx
  obtain ⟨tz, rfl⟩ := ry
  obtain ⟨mA, O, _⟩ := ins_get I.hok ha
  obtain ⟨od, J, _⟩ := O.look
  have hr1 : Room (k + 1) X.A.in1 := Room.in1 hr
  refine rc_neS I.kIn J hr.units0 hr1.units0 T.ob hsub T.ne T.eq T.fn (wpAny_call (codeAny_mono (F X.A.in1 X.stack s H [.ref a, .str z tz] [.ref a, .str z] _ _ (hr1.mono (by omega)) I.env0.in1 (.cons rfl (.cons ⟨_, rfl⟩ .nil)) q) fun r s' hq => ?_))
  rcases r with er | (_ | _ | _ | z)
  · exact (show False from hq).elim
  · exact False.elim hq
  · exact False.elim hq
  · exact False.elim hq
  · obtain ⟨v, H', I', rv, r, rfl, q'⟩ := I.after hq
    obtain rfl : z = Value.bool r := rv
    exact ⟨r, rfl, .bl (!r), H', I', rfl, q'⟩
section
variable {X : Cx} {CX : CXT} {k : Nat} {C g : Addr} {sp : Sp} {E : XK} {o e1 e2 : Expr} {m : Str} {pos apos kp1 kp2 : Pos} {ta t1 t2 : TE} {pl : Sem Bool}
def tMethK2 (C : Addr) (m : Str) (sp : Sp) (E : XK) (ta t1 t2 : TE) : TE := fun σ H Q => ta σ H fun y H1 => ∃ (a dx : Addr) (fs : List (Str × V)), y = .ref a ∧ H1 a = some (.ins C dx fs) ∧ fs.lookup m = none ∧ t1 σ H1 fun v H2 => t2 σ H2 fun v2 H3 => ∃ v' v2', [v, v2] = [v', v2'] ∧ sp [.ref a, v2', v'] H3 Q E
/-- o.m(f2=e1, f1=e2), o an instance whose m is m(self, f1, f2) -/
theorem pe_methK2 {fd : FuncData} {f1 f2 sf : Str} (he : PE X o ta) (c : Cls X.K C) (hm : Meth X.K C m g) (F : FnOk X.prog X.w X.K X.mg X.base CX k g fd [sf, f1, f2] sp) (hr : Room k X.A) (hb : ∀ (s : Shared) (v u u2 : Value), BindsTo s fd ⟨[v], [(f2, u), (f1, u2)]⟩ [(sf, v), (f1, u2), (f2, u)]) (hx : Passes CX X E) (ha : PE X e1 t1) (ha2 : PE X e2 t2)
    (ht : eval (.Call (.Attribute o m apos) [] [⟨some f2, e1, kp1⟩, ⟨some f1, e2, kp2⟩] pos) X.env = (do
      let v ← eval o X.env
      standAt apos.atName
      let (fn, pre) ← holding [v] (getMethod v m pl)
      callWith pos fn pre (backTo pos (starEach [] X.env)) (backToKw pos (keywordEach [⟨some f2, e1, kp1⟩, ⟨some f1, e2, kp2⟩] X.env))) := by rfl) :
    PE X (.Call (.Attribute o m apos) [] [⟨some f2, e1, kp1⟩, ⟨some f1, e2, kp2⟩] pos) (tMethK2 C m sp E ta t1 t2) := by
  constructor
  intro pins s σ H Q I h
  refine PySem.W.methodCall_KW (pl := pl) (thn (he.run pins s σ H _ I h) fun u s1 ⟨y, H1, I1, ry, a, dx, fs, ey, ea, l, q⟩ => ?_) ht
  subst ey
  obtain rfl : u = Value.ref a := ry
  refine getmeth_ok I1 ea c hm l ?_
  refine PySem.W.callWith_KW0 (first := [.ref a]) (h₀ := X.base) I1.ok.mod.kin hm.kp rfl ?_
  have hk : PK X [⟨some f2, e1, kp1⟩, ⟨some f1, e2, kp2⟩] (tCons t1 (tCons t2 tNil)) := pk_cons ha (pk_cons ha2 pk_nil)
  refine thn (hk.run pos pins s1 σ H1 (fun zs H2 => ∃ v v2, zs = [v, v2] ∧ sp [.ref a, v2, v] H2 Q E) I1 ?_) ?_
  · exact q
  · intro us s3 ⟨zs, H2, I3, r1, v, v2, ez, q2⟩
    subst ez
    refine ⟨I3.kIn, ?_⟩
    cases r1 with
    | cons rv rr =>
      cases rr with
      | cons rv2 rr2 =>
        cases rr2
        rename_i u u2
        show wpAny _ _ (call (.ref g) [.ref a] [(f2, u), (f1, u2)]) _ _ _
        refine wpAny_call (codeAny_mono (F.run X.A X.stack s3 H2 ⟨[.ref a], [(f2, u), (f1, u2)]⟩ [.ref a, u2, u] [.ref a, v2, v] Q E hr I3.env0 (hb s3 (.ref a) u u2) (.cons rfl (.cons rv2 (.cons rv .nil))) q2) fun r s' hq => ?_)
        cases r with
        | error e => exact hx pins σ H2 s3 e s' I3 hq
        | ok fl => cases fl with
          | ret u => exact I3.after hq
          | next => exact False.elim hq
          | brk => exact False.elim hq
          | cont => exact False.elim hq
end
end SQ
namespace SQ4
open PySem L2 SQ
/-! ### what stands while the law asks -/
theorem row_urn {H : Hp} {u a : Addr} {ws : List V} {r : Rr} (hu : urnAt H u) (ha : H a = some (.lst ws)) (h : RowIn H r ws) : a ≠ u := by
  rintro rfl
  obtain ⟨x, y, z, e⟩ := hu
  rw [ha] at e
  cases e
  cases r with
  | nil => cases h
  | w s r =>
    obtain ⟨us, e, _⟩ := h
    cases e
  | q i r =>
    obtain ⟨a, ws, us, e, _⟩ := h
    cases e
theorem RowIn.but {H H' : Hp} {u : Addr} (hu : urnAt H u) (b : But u H H') : ∀ {r : Rr} {vs : List V}, RowIn H r vs → RowIn H' r vs
  | .nil, _, h => h
  | .w _ _, _, ⟨us, e, h⟩ => ⟨us, e, RowIn.but hu b h⟩
  | .q _ _, _, ⟨a, ws, us, e, ha, h1, h2⟩ => ⟨a, ws, us, e, b _ _ ha (row_urn hu ha h1), RowIn.but hu b h1, RowIn.but hu b h2⟩
theorem RowAt.but {H H' : Hp} {u : Addr} {vs : List V} {l : List El} (hu : urnAt H u) (b : But u H H') (h : RowAt H vs l) : RowAt H' vs l := by
  have := (RowIn.but hu b h.inn).at
  rw [Rr.els_of] at this
  exact this
theorem Vc.but4 {C o u : Addr} {H H' : Hp} {gs : List G3} {ys : List Str} (hu : urnAt H u) (b : But u H H') (h : Vc C H o gs ys) : Vc C H' o gs ys := by
  obtain ⟨x, y, z, eu⟩ := hu
  obtain ⟨dx, dA, tN, kvs, e1, e2, e3, e4⟩ := h
  exact ⟨dx, dA, tN, kvs, b _ _ e1 (ne_of e1 eu (by intro z; cases z)), b _ _ e2 (ne_of e2 eu (by intro z; cases z)), b _ _ e3 (ne_of e3 eu (by intro z; cases z)), e4.but eu b⟩
theorem Mad.but {C CP p u : Addr} {H H' : Hp} {gs : List G3} {l : List El} (hu : urnAt H u) (b : But u H H') (h : Mad C CP H p gs l) : Mad C CP H' p gs l := by
  obtain ⟨o, gs', ys, ⟨dx, r, tW, h1, h2⟩, V⟩ := h.ex
  have eu := hu
  obtain ⟨x, y, z, eu⟩ := eu
  exact ⟨o, gs', ys, ⟨dx, r, tW, b _ _ h1 (ne_of h1 eu (by intro z; cases z)), b _ _ h2 (ne_of h2 eu (by intro z; cases z))⟩, V.vc.but4 hu b, V.sub, V.len, V.mem, V.txt⟩
structure RI (C CP : Addr) (H : Hp) (u a r r2 p p2 : Addr) (gs : List G3) (rv rv2 : List V) (l l2 : List El) (G : Hp) : Prop where
  but : But u H G
  urn : urnAt G u
  hA : DAt G a gs
  sub : gs.Sublist allG
  hr : G r = some (.lst rv)
  hR : RowAt G rv l
  F : Fine (gnames gs) 2 58 l
  hr2 : G r2 = some (.lst rv2)
  hR2 : RowAt G rv2 l2
  F2 : Fine (gnames gs) 2 9 l2
  hp : Mad C CP G p gs l
  hp2 : Mad C CP G p2 gs l2
section
variable {C CP : Addr} {H : Hp} {u a r r2 p p2 : Addr} {gs : List G3} {rv rv2 : List V} {l l2 : List El} {G G' : Hp}
theorem RI.go (h : RI C CP H u a r r2 p p2 gs rv rv2 l l2 G) (b : But u G G') (hu : urnAt G' u) : RI C CP H u a r r2 p p2 gs rv rv2 l l2 G' :=
  ⟨h.but.trans b, hu, h.hA.but h.urn b, h.sub, b _ _ h.hr (row_urn h.urn h.hr h.hR.inn), h.hR.but h.urn b, h.F, b _ _ h.hr2 (row_urn h.urn h.hr2 h.hR2.inn), h.hR2.but h.urn b, h.F2, h.hp.but h.urn b, h.hp2.but h.urn b⟩
theorem RI.sm (h : RI C CP H u a r r2 p p2 gs rv rv2 l l2 G) (s : Same G G') : RI C CP H u a r r2 p p2 gs rv rv2 l l2 G' := h.go (Same.but s) (urn_same s h.urn)
end
/-! ### rows cut and joined -/
theorem fine_sub {ys : List Str} {d n : Nat} {l l' : List El} (h : Fine ys d n l) (s : l'.Sublist l) : Fine ys d n l' := by
  refine ⟨good_of_all.mpr fun x hx => good_of_all.mp h.gd x (s.subset hx), dep_of_all.mpr fun x hx => dep_of_all.mp h.dp x (s.subset hx), ?_⟩
  have b := h.sz
  rw [size_of] at b ⊢
  have : (l'.map elSize).sum ≤ (l.map elSize).sum := by
    clear b h
    induction s with
    | slnil => exact Nat.le_refl _
    | cons a _ ih =>
      rw [List.map_cons, List.sum_cons]
      omega
    | cons_cons a _ ih =>
      rw [List.map_cons, List.map_cons, List.sum_cons, List.sum_cons]
      omega
  omega
theorem fine_quo {ys : List Str} {d n : Nat} {l : List El} (h : Fine ys d n l) : Fine ys (d + 1) (n + 1) [.inr (rof l)] := by
  refine ⟨good_of_all.mpr fun x hx => ?_, dep_of_all.mpr fun x hx => ?_, ?_⟩
  · rw [List.mem_singleton.mp hx]
    exact h.gd
  · rw [List.mem_singleton.mp hx]
    show (rof l).dep + 1 ≤ d + 1
    have := h.dp
    omega
  · rw [size_of]
    show (rof l).size + 1 + 0 ≤ n + 1
    have := h.sz
    omega
theorem row_drop {H : Hp} : ∀ {vs : List V} {l : List El} (m : Nat), RowAt H vs l → RowAt H (vs.drop m) (l.drop m)
  | vs, l, 0, h => by
    rw [List.drop_zero, List.drop_zero]
    exact h
  | _, _, m + 1, .nil => .nil
  | _, _, m + 1, .cons a b => row_drop m b
theorem row_take {H : Hp} : ∀ {vs : List V} {l : List El} (m : Nat), RowAt H vs l → RowAt H (vs.take m) (l.take m)
  | vs, l, 0, h => by
    rw [List.take_zero, List.take_zero]
    exact .nil
  | _, _, m + 1, .nil => .nil
  | _, _, m + 1, .cons a b => .cons a (row_take m b)
theorem cut_mid {xs : List V} {i j : Nat} (hi : i ≤ xs.length) (hj : j ≤ xs.length) : cutV xs (some (i : Int)) (some (j : Int)) = (xs.drop i).take (j - i) := by
  unfold cutV
  rw [HT.sIx_nat, HT.sIx_nat, Nat.min_eq_left hi, Nat.min_eq_left hj]
theorem cut_head {xs : List V} {j : Nat} (hj : j ≤ xs.length) : cutV xs none (some (j : Int)) = xs.take j := by
  unfold cutV
  rw [HT.sIx_nat, Nat.min_eq_left hj]
  show (xs.drop 0).take (j - 0) = _
  rw [List.drop_zero, Nat.sub_zero]
theorem cut_tail {xs : List V} {i : Nat} (hi : i < xs.length) : cutV xs (some ((i : Int) + 1)) none = xs.drop (i + 1) := by
  unfold cutV
  have e : (i : Int) + 1 = ((i + 1 : Nat) : Int) := by omega
  rw [e, HT.sIx_nat, Nat.min_eq_left (by omega)]
  show (xs.drop (i + 1)).take (xs.length - (i + 1)) = _
  exact List.take_of_length_le (by rw [List.length_drop]; omega)
theorem sum_join : ∀ l : List Str, (l.map (·.length)).sum ≤ (jt l).length := fun l => by
  rw [jt_eq]
  induction l with
  | nil => exact Nat.le_refl _
  | cons x l ih =>
    cases l with
    | nil =>
      show x.length + 0 ≤ x.length
      omega
    | cons y l =>
      show x.length + ((y :: l).map (·.length)).sum ≤ (x ++ " " ++ Str.join " " (y :: l)).length
      rw [Str.length_append, Str.length_append]
      omega
theorem fine_sum {ys : List Str} {d n : Nat} {l : List El} (h : Fine ys d n l) (hn : n ≤ 130) : ((l.map elText).map (·.length)).sum + (l.map elText).length ≤ 9000 ∧ (jt (rof l).toks).length ≤ 9000 ∧ l.length ≤ 130 := by
  have h1 := len_row h.gd (Nat.le_trans h.sz hn)
  have h2 := sum_join (l.map elText)
  rw [texts_of] at h1
  have h3 := len_size l
  have h4 := h.sz
  have e : jt (l.map elText) = jt (rof l).toks := by
    rw [← texts_of]
    exact jt_toks h.gd
  rw [e] at h1 h2
  rw [List.length_map]
  omega
section
variable {P : Program} {w : World} {K : PySem.W.Frag} {mg : Str → Option Value} {base : Heap} {C CP CN CM CX_ CL CD : Addr}
/-- what a method makes of a row -/
theorem made_of {H : Hp} {o : Addr} {gs gs' : List G3} {ys : List Str} {l : List El} {Q : VK} {E : XK} {x : Str} (V : Voc C H o gs gs' ys) (F : Fine (gnames gs) 6 60 l) (hx : x = jt (l.map elText)) (q : ∀ (p : Addr) (H' : Hp), Same H H' → Mad C CP H' p gs l → Q (.ref p) H') : MkdG CP C CL CD o x H Q E := by
  subst hx
  exact row_mkd V F fun p H' s hP => q p H' s ⟨o, gs', ys, hP, V.same s⟩
theorem part_of {H : Hp} {p : Addr} {gs : List G3} {l : List El} {i j : Nat} {Q : VK} {E : XK} (h : Mad C CP H p gs l) (F : Fine (gnames gs) 2 60 l) (hij : i ≤ j) (hj : j ≤ l.length) (q : ∀ (p' : Addr) (H' : Hp), Same H H' → Mad C CP H' p' gs ((l.drop i).take (j - i)) → Q (.ref p') H') : spPtG CP C CX_ CL CD [.ref p, .int i, .int j] H Q E := by
  obtain ⟨o, gs', ys, hP, V⟩ := h.ex
  have hs := fine_sum F (by decide)
  have e : (l.map elText).length = l.length := List.length_map _
  refine ⟨p, o, _, _, _, _, rfl, hP, .inr ⟨i, rfl, by omega, .inr ⟨j, rfl, hij, by omega, hs.1, made_of V (fine_sub (F.mono (fun _ h => h) (by decide) (Nat.le_refl _)) ((List.take_sublist _ _).trans (List.drop_sublist _ _))) ?_ q⟩⟩⟩
  rw [List.map_take, List.map_drop]
theorem without_of {H : Hp} {p : Addr} {gs : List G3} {l : List El} {i : Nat} {Q : VK} {E : XK} (h : Mad C CP H p gs l) (F : Fine (gnames gs) 2 60 l) (hi : i < l.length) (q : ∀ (p' : Addr) (H' : Hp), Same H H' → Mad C CP H' p' gs (l.take i ++ l.drop (i + 1)) → Q (.ref p') H') : spWoG CP C CX_ CL CD [.ref p, .int i] H Q E := by
  obtain ⟨o, gs', ys, hP, V⟩ := h.ex
  have hs := fine_sum F (by decide)
  have e : (l.map elText).length = l.length := List.length_map _
  have sb : (l.take i ++ l.drop (i + 1)).Sublist l := by
    have h1 : (l.take i ++ l.drop (i + 1)).Sublist (l.take i ++ l.drop i) := List.Sublist.append (List.Sublist.refl _) (by
      rw [← List.drop_drop]
      exact List.drop_sublist _ _)
    rw [List.take_append_drop] at h1
    exact h1
  refine ⟨p, o, _, _, _, rfl, hP, .inr ⟨i, rfl, by omega, hs.1, made_of V (fine_sub (F.mono (fun _ h => h) (by decide) (Nat.le_refl _)) sb) ?_ q⟩⟩
  rw [List.map_append, List.map_take, List.map_drop]
theorem then_of {H : Hp} {p p2 : Addr} {gs : List G3} {l l2 : List El} {Q : VK} {E : XK} (h : Mad C CP H p gs l) (h2 : Mad C CP H p2 gs l2) (F : Fine (gnames gs) 2 60 (l ++ l2)) (q : ∀ (p' : Addr) (H' : Hp), Same H H' → Mad C CP H' p' gs (l ++ l2) → Q (.ref p') H') : spThG K CP C CN CM CL CD [.ref p, .ref p2] H Q E := by
  obtain ⟨o, gs', ys, hP, V⟩ := h.ex
  obtain ⟨o2, gs2, ys2, hP2, V2⟩ := h2.ex
  have hs := (fine_sum F (by decide)).1
  rw [List.map_append] at hs
  refine ⟨p, o, _, _, _, rfl, hP, .inr ⟨p2, o2, _, _, _, _, rfl, hP2, V.vc.vx, V2.vc.vx, fun z => absurd (V.txt.one V2.txt) z, fun _ => ⟨hs, made_of V (F.mono (fun _ h => h) (by decide) (Nat.le_refl _)) ?_ q⟩⟩⟩
  rw [List.map_append]
theorem quoted_of {H : Hp} {p : Addr} {gs : List G3} {l : List El} {Q : VK} {E : XK} (h : Mad C CP H p gs l) (F : Fine (gnames gs) 2 59 l) (q : ∀ (p' : Addr) (H' : Hp), Same H H' → Mad C CP H' p' gs [.inr (rof l)] → Q (.ref p') H') : spQdG CP C CL CD [.ref p] H Q E := by
  obtain ⟨o, gs', ys, hP, V⟩ := h.ex
  have hs := (fine_sum F (by decide)).2.1
  refine ⟨p, o, _, _, rfl, hP, hs, made_of V ((fine_quo F).mono (fun _ h => h) (by decide) (Nat.le_refl _)) ?_ q⟩
  show _ = qtext (jt (rof l).texts)
  rw [jt_toks F.gd]
end
end SQ4
namespace SQ4
open PySem L2 SQ
/-! ### _law_right -/
abbrev nR4 : List Str := ["_law_urn_here", "_law_turn", "_law_arities_here", "_law_row_here", "_law_other_row", "_law_made", "_law_other", "_law_low", "_law_high", "_law_at", "_law_wider", "_law_title", "_law_same"]
theorem scR4 : FnScope nR4 ["_law_urn_here"] (defScope sRight) := ⟨rfl, rfl, rfl, by decide +kernel, rfl, by decide +kernel, by decide +kernel⟩
/-- all that _law_right leans on -/
structure RtD (P : Program) (w : World) (K : PySem.W.Frag) (mg : Str → Option Value) (base : Heap) (C CP CN CM CX_ CL CD fL fO fA fU fPr fSh fLn fEP fPt fWo fTh fQd : Addr) (dL dO dA dU dPr dSh dLn dPt dWo dTh dQd : FuncData) : Prop where
  B : B2 mg
  BL : Blt mg
  dict : mg "dict" = none
  DW : Drw K mg fL fO dL dO
  gA : mg "_law_arities" = some (.ref fA)
  kA : PySem.W.keepIn K (.ref fA) = true
  bA : Binds K dA ["_law_urn_here"] []
  GA : FnOk P w K mg base CX0 2 fA dA ["_law_urn_here"] spAr4
  gU : mg "_law_built" = some (.ref fU)
  kU : PySem.W.keepIn K (.ref fU) = true
  bU : Binds K dU ["_law_urn_here", "_law_arities_here", "_law_kinds", "_law_count", "_law_level"] []
  GU2 : FnOk P w K mg base CX0 9 fU dU ["_law_urn_here", "_law_arities_here", "_law_kinds", "_law_count", "_law_level"] (spBu 2)
  GU1 : FnOk P w K mg base CX0 7 fU dU ["_law_urn_here", "_law_arities_here", "_law_kinds", "_law_count", "_law_level"] (spBu 1)
  gP : mg "_law_program" = some (.ref fPr)
  kP : PySem.W.keepIn K (.ref fPr) = true
  bP : Binds K dPr ["_law_arities_here", "_law_row_here"] []
  GP : FnOk P w K mg base CX0 9 fPr dPr ["_law_arities_here", "_law_row_here"] (spPr4 C CP)
  gS : mg "_law_shown" = some (.ref fSh)
  kS : PySem.W.keepIn K (.ref fSh) = true
  bS : Binds K dSh ["_law_made", "_law_arities_here", "_law_row_here"] []
  GS : FnG P w K mg base CX0 9 fSh dSh ["_law_made", "_law_arities_here", "_law_row_here"] (spShw C CP)
  gL : mg "_law_line" = some (.ref fLn)
  kL : PySem.W.keepIn K (.ref fLn) = true
  bL : Binds K dLn ["_law_row_here"] []
  GLn : FnOk P w K mg base CX0 8 fLn dLn ["_law_row_here"] (spLine 3)
  PV : PC K mg CP
  CQ : CmpC K CP fEP
  GE : FnR P w K mg base CX0 2 fEP (spEqG K CP C)
  kst : PySem.W.kitOne K (.type "str") (.ref CP) = some false
  sst : PySem.W.subIn K (.type "str") (.ref CP) = some false
  MPt : Meth K CP "part" fPt
  bPt : Binds K dPt ["self", "start", "end"] []
  kPt : ∀ (s : Shared) (v u u2 : Value), BindsTo s dPt ⟨[v], [("end", u), ("start", u2)]⟩ [("self", v), ("start", u2), ("end", u)]
  GPt : FnOk P w K mg base (L2.CX P w) 7 fPt dPt ["self", "start", "end"] (spPtG CP C CX_ CL CD)
  MWo : Meth K CP "without" fWo
  kWo : ∀ (s : Shared) (v u : Value), BindsTo s dWo ⟨[v], [("place", u)]⟩ [("self", v), ("place", u)]
  GWo : FnOk P w K mg base (L2.CX P w) 7 fWo dWo ["self", "place"] (spWoG CP C CX_ CL CD)
  MTh : Meth K CP "then" fTh
  bTh : Binds K dTh ["self", "other_program"] []
  kTh : ∀ (s : Shared) (v u : Value), BindsTo s dTh ⟨[v], [("other_program", u)]⟩ [("self", v), ("other_program", u)]
  GTh : FnOk P w K mg base (L2.CX P w) 7 fTh dTh ["self", "other_program"] (spThG K CP C CN CM CL CD)
  MQd : Meth K CP "quoted" fQd
  bQd : Binds K dQd ["self"] []
  GQd : FnOk P w K mg base (L2.CX P w) 7 fQd dQd ["self"] (spQdG CP C CL CD)
abbrev sR (u : Addr) (v1 v2 v3 v4 v5 v6 v7 v8 v9 v10 v12 : Option V) : L2.St := [some (.ref u), v1, v2, v3, v4, v5, v6, v7, v8, v9, v10, none, v12]
theorem Mad.ins {C CP p : Addr} {H : Hp} {gs : List G3} {l : List El} (h : Mad C CP H p gs l) : ∃ dx o r tW, H p = some (.ins CP dx (pfl o r tW (jt (rof l).toks) (sizeT (rof l).toks))) := by
  obtain ⟨o, gs', ys, ⟨dx, r, tW, h1, h2⟩, V⟩ := h.ex
  exact ⟨dx, o, r, tW, h1⟩
theorem mad_put {C CP p D : Addr} {H : Hp} {xs ys : List V} {gs : List G3} {l : List El} (hD : H D = some (.lst xs)) (h : Mad C CP H p gs l) : Mad C CP (upd H D (.lst ys)) p gs l := by
  obtain ⟨o, gs', zs, ⟨dx, r, tW, h1, h2⟩, V⟩ := h.ex
  obtain ⟨dx', dA, tN, kvs, e1, e2, e3, e4⟩ := V.vc
  have k : ∀ {b : Addr} {ob : HO}, H b = some ob → (∀ xs, ob ≠ .lst xs) → upd H D (.lst ys) b = some ob := fun {b ob} e n => by
    rw [upd_ne (fun z => by rw [z, hD] at e; exact n _ (Option.some.inj e).symm)]
    exact e
  refine ⟨o, gs', zs, ⟨dx, r, tW, k h1 (fun _ z => nomatch z), k h2 (fun _ z => nomatch z)⟩, ⟨dx', dA, tN, kvs, k e1 (fun _ z => nomatch z), k e2 (fun _ z => nomatch z), k e3 (fun _ z => nomatch z), ?_⟩, V.sub, V.len, V.mem, V.txt⟩
  exact Paired.mapP e4 fun kv g ⟨q1, t0, q2, q3⟩ => ⟨q1, t0, q2, k q3 (fun _ z => nomatch z)⟩
theorem bl_row {H : Hp} {D : Addr} {b : Bool} {xs ws : List V} {r : Rr} (hD : H D = some (.lst (.bl b :: xs))) {a : Addr} (ha : H a = some (.lst ws)) (h : RowIn H r ws) : a ≠ D := by
  rintro rfl
  rw [hD] at ha
  cases ha
  cases r with
  | nil => cases h
  | w s r =>
    obtain ⟨us, e, _⟩ := h
    cases e
  | q i r =>
    obtain ⟨a, ws, us, e, _⟩ := h
    cases e
theorem rowin_put {H : Hp} {D : Addr} {b : Bool} {xs ys : List V} (hD : H D = some (.lst (.bl b :: xs))) : ∀ {r : Rr} {vs : List V}, RowIn H r vs → RowIn (upd H D (.lst ys)) r vs
  | .nil, _, h => h
  | .w _ _, _, ⟨us, e, h⟩ => ⟨us, e, rowin_put hD h⟩
  | .q _ _, _, ⟨a, ws, us, e, ha, h1, h2⟩ => ⟨a, ws, us, e, by rw [upd_ne (bl_row hD ha h1)]; exact ha, rowin_put hD h1, rowin_put hD h2⟩
theorem row_put {H : Hp} {D : Addr} {b : Bool} {xs ys vs : List V} {l : List El} (hD : H D = some (.lst (.bl b :: xs))) (h : RowAt H vs l) : RowAt (upd H D (.lst ys)) vs l := by
  have := (rowin_put (ys := ys) hD h.inn).at
  rw [Rr.els_of] at this
  exact this
/-- the pairs of a dict, in a list -/
def PrAt (H : Hp) (d : Addr) (p : Addr) (g : G3) : Prop := ∃ t kvs, H p = some (.tup [.str g.1, .ref t]) ∧ Rd H d (.dK kvs) ∧ valV kvs (Sum.inr g.1) = some (.ref t)
theorem merge_from {H : Hp} : ∀ {more kvs : List (Key × V)} {gs gm : List G3}, Kvs H more gm → Kvs H kvs gs → (gnames (gs ++ gm)).Nodup → mergeK kvs more = kvs ++ more
  | _, kvs, gs, _, .nil, hk, _ => by rw [List.append_nil]; rfl
  | kv :: more, kvs, gs, g :: gm, .cons a b, hk, nd => by
    obtain ⟨e1, t, e2, ht⟩ := a
    have hno : g.1 ∉ gnames gs := fun z => by
      have e : gnames (gs ++ g :: gm) = gnames gs ++ g.1 :: gnames gm := by
        unfold gnames
        rw [List.map_append]
        rfl
      rw [e] at nd
      exact (List.nodup_append.mp nd).2.2 _ z _ List.mem_cons_self rfl
    have e3 : putK kvs kv.1 kv.2 = kvs ++ [kv] := by
      rw [e1, putK_new _ (hk.no hno)]
      congr 2
      exact Prod.ext e1.symm rfl
    show mergeK (putK kvs kv.1 kv.2) more = _
    rw [e3, merge_from (gs := gs ++ [g]) b (hk.snoc ⟨e1, t, e2, ht⟩) (by rw [List.append_assoc]; exact nd), List.append_assoc]
    rfl
theorem merge_nodup {H : Hp} {kvs : List (Key × V)} {gs : List G3} (h : Kvs H kvs gs) (nd : (gnames gs).Nodup) : mergeK [] kvs = kvs := merge_from (gs := []) h .nil nd
def PrIn (H : Hp) (kvs : List (Key × V)) (p : Addr) (g : G3) : Prop := ∃ t, H p = some (.tup [.str g.1, .ref t]) ∧ valV kvs (Sum.inr g.1) = some (.ref t)
theorem val_self : ∀ {kvs : List (Key × V)}, (kvs.map (·.1)).Nodup → ∀ kv ∈ kvs, valV kvs kv.1 = some kv.2
  | [], _, kv, h => by cases h
  | a :: kvs, nd, kv, h => by
    rw [List.map_cons, List.nodup_cons] at nd
    by_cases e : a.1 = kv.1
    · rcases List.mem_cons.mp h with rfl | h
      · exact valV_pos rfl
      · exact absurd (List.mem_map.mpr ⟨kv, h, e.symm⟩) nd.1
    · rcases List.mem_cons.mp h with rfl | h
      · exact absurd rfl e
      · rw [valV_neg e]
        exact val_self nd.2 kv h
theorem pairs_go {K : PySem.W.Frag} {G : Hp} {k0 : List (Key × V)} : ∀ {ps : List Addr} {kvs : List (Key × V)} {gs : List G3}, Kvs G kvs gs → (∀ kv ∈ kvs, valV k0 kv.1 = some kv.2) → Paired (fun p g => PrIn G k0 p g) ps gs → Paired (fun p kv => SqT K G p [kV kv.1, kv.2]) ps kvs
  | _, _, _, .nil, _, .nil => .nil
  | _, _, _, .cons a b, hv, .cons c d => by
    refine .cons ?_ (pairs_go b (fun kv h => hv kv (List.mem_cons_of_mem _ h)) d)
    obtain ⟨e1, t, e2, ht⟩ := a
    obtain ⟨t', h1, h2⟩ := c
    have h3 := hv _ List.mem_cons_self
    rw [e1, h2] at h3
    rw [e1, ← Option.some.inj h3]
    exact SqT.of h1
theorem pairs_kvs {K : PySem.W.Frag} {G : Hp} {ps : List Addr} {kvs : List (Key × V)} {gs : List G3} (nd : (gnames gs).Nodup) (kk : Kvs G kvs gs) (h : Paired (fun p g => PrIn G kvs p g) ps gs) : Paired (fun p kv => SqT K G p [kV kv.1, kv.2]) ps kvs := by
  refine pairs_go kk (val_self ?_) h
  rw [kk.names]
  exact List.Pairwise.map _ (fun a b h z => h (Sum.inr.inj z)) nd
theorem pairs_list {K : PySem.W.Frag} {d : Addr} {i j : Nat} {σ : L2.St} {H : Hp} {Q : VK} {gs : List G3} (hi : σ[i]? = some (some (.ref d))) (hij : i ≠ j) (hj : j < σ.length) (hd : DAt H d gs) (hl : gs.length ≤ 20)
    (q : ∀ p ps G, H p = none → Same H G → G p = some (.lst (ps.map V.ref)) → (∃ kvs, G d = some (.dK kvs) ∧ Paired (fun p g => PrIn G kvs p g) ps gs) → Q (.ref p) G) : tLockE (tLc (iKeys (tVar i)) (gName j) tYes (tTup (tCons (tVar j) (tCons (tDGet (tVar i) (tVar j)) tNil))) [j]) σ H Q := by
  obtain ⟨kvs, hk, kk⟩ := hd
  have lk : kvs.length = gs.length := Paired.length kk
  refine ⟨d, _, hk, trivial, fun od => ?_⟩
  have hf : upd H d (.frz od (.dK kvs)) d = some (.frz od (.dK kvs)) := upd_same
  generalize hH1 : upd H d (.frz od (.dK kvs)) = H1 at hf
  refine ⟨_, hi, d, od, rfl, .inl ⟨kvs, hf, fun D hD => ?_⟩⟩
  have nd : d ≠ D := ne_of_none hf hD
  refine lc_it walk_keys (fun m G => ∃ ps, Same H1 G ∧ G D = some (.lst (ps.map V.ref)) ∧ Paired (fun p g => PrIn G kvs p g) ps (gs.take m)) ⟨[], same_new (fun _ _ e => e) hD, upd_same, .nil⟩ (fun m G _ ⟨_, s2, _⟩ => s2 _ _ hf) ?_ ?_
  · rintro m x G G' hm ⟨ps, s2, hD2, hps⟩ ⟨rfl, k, v, e1, rfl⟩
    obtain ⟨g, hg, e2, t, e3, ht⟩ := Paired.at (F := _) kk e1
    have e2' : k = Sum.inr g.1 := e2
    subst e2'
    have hmem : g.1 ∈ gnames gs := List.mem_map.mpr ⟨g, List.mem_of_getElem? hg, rfl⟩
    obtain ⟨t', hv, ht'⟩ := kk.at hmem
    have hpl : ps.length = (gs.take m).length := Paired.length hps
    refine ⟨?_, keptT ⟨kV (Sum.inr g.1), ?_, .ref d, ?_, kV (Sum.inr g.1), ?_, d, .ref t', rfl, .inl ⟨kvs, Sum.inr g.1, .inr ⟨od, s2 _ _ hf⟩, rfl, hv.symm⟩, (by show 2 ≤ sizeLine; decide), fun T nT => ?_⟩⟩
    · show ((σ.set j none).set j (some _)).set j none = σ.set j none
      simp
    · show ((σ.set j none).set j (some (kV (Sum.inr g.1))))[j]? = _
      simp [hj]
    · show ((σ.set j none).set j (some (kV (Sum.inr g.1))))[i]? = _
      rw [List.getElem?_set_ne (Ne.symm hij), List.getElem?_set_ne (Ne.symm hij)]
      exact hi
    · show ((σ.set j none).set j (some (kV (Sum.inr g.1))))[j]? = _
      simp [hj]
    · have nTD : D ≠ T := ne_of_none hD2 nT
      refine ⟨_, by rw [upd_ne nTD]; exact hD2, ?_, ps ++ [T], fun b o e => ?_, ?_, ?_⟩
      · rw [List.length_map, hpl, List.length_take]
        exact Nat.lt_of_le_of_lt (by omega : _ ≤ 20) (by decide)
      · rw [upd_ne (ne_of_none e hD), upd_ne (ne_of_none (s2 _ _ e) nT)]
        exact s2 _ _ e
      · rw [upd_same, List.map_append]
        rfl
      · rw [take_more hg]
        have put : ∀ p' g', PrIn G' kvs p' g' → PrIn (upd (upd G' T (.tup [kV (Sum.inr g.1), .ref t'])) D (.lst (ps.map V.ref ++ [V.ref T]))) kvs p' g' := fun p' g' ⟨tt, h1, h2⟩ => ⟨tt, by rw [upd_ne (ne_of h1 hD2 (by intro z; cases z)), upd_ne (ne_of_none h1 nT)]; exact h1, h2⟩
        refine Paired.snoc (Paired.mapP hps fun p' g' h => put p' g' h) ⟨t', ?_, hv⟩
        rw [upd_ne (Ne.symm nTD), upd_same]
        rfl
  · rintro G ⟨ps, s2, hD2, hps⟩
    rw [lk, List.take_length] at hps
    refine ⟨s2 _ _ hf, ?_⟩
    have hD0 : H D = none := by
      rw [← hH1, upd_ne (Ne.symm nd)] at hD
      exact hD
    refine q D ps _ hD0 (fun b o e => ?_) (by rw [upd_ne (Ne.symm nd)]; exact hD2) ⟨kvs, upd_same, Paired.mapP hps fun p' g' ⟨tt, h1, h2⟩ => ⟨tt, ?_, h2⟩⟩
    · by_cases hb : b = d
      · subst hb
        rw [hk] at e
        cases e
        rw [upd_same]
      · rw [upd_ne hb]
        refine s2 _ _ ?_
        rw [← hH1, upd_ne hb]
        exact e
    · rw [upd_ne (ne_of h1 (s2 _ _ hf) (by intro z; cases z))]
      exact h1
section
variable {P : Program} {w : World} {K : PySem.W.Frag} {mg : Str → Option Value} {base : Heap} {C CP CN CM CX_ CL CD fL fO fA fU fPr fSh fLn fEP fPt fWo fTh fQd : Addr} {dL dO dA dU dPr dSh dLn dPt dWo dTh dQd : FuncData}
theorem ok_right4 {f : Addr} {fd : FuncData} (F : Fun K "_law_right" "_law_right" sRight f fd) (R : RtD P w K mg base C CP CN CM CX_ CL CD fL fO fA fU fPr fSh fLn fEP fPt fWo fTh fQd dL dO dA dU dPr dSh dLn dPt dWo dTh dQd) : FnG P w K mg base CX0 10 f fd ["_law_urn_here"] spRight := by
  have GL : FnOk P w K mg base CX0 1 fL dL ["_law_urn_here", "_law_many"] spLot := ok_lot R.DW.FL R.BL
  refine okG F scR4 (fun vs H Q E h => ?_) (fun cdv A outer s H vs Q E hgd hr h => ?_)
  · obtain ⟨u, rfl, _⟩ := h
    rfl
  · obtain ⟨u, rfl, hu, q⟩ := h
    have hr1 : Room 1 (A.deeper (PyProof.Rows.envOfC "_law_right" (defScope sRight) s.heap.objs.size f cdv)) := hr.mono (by omega)
    have hr2 : Room 2 (A.deeper (PyProof.Rows.envOfC "_law_right" (defScope sRight) s.heap.objs.size f cdv)) := hr.mono (by omega)
    have hr4 : Room 4 (A.deeper (PyProof.Rows.envOfC "_law_right" (defScope sRight) s.heap.objs.size f cdv)) := hr.mono (by omega)
    have hr7 : Room 7 (A.deeper (PyProof.Rows.envOfC "_law_right" (defScope sRight) s.heap.objs.size f cdv)) := hr.mono (by omega)
    have hr8 : Room 8 (A.deeper (PyProof.Rows.envOfC "_law_right" (defScope sRight) s.heap.objs.size f cdv)) := hr.mono (by omega)
    have hu2 := hu_of hr
    refine ⟨_, pss_cons (ps_for PassesOwn.never rfl (pi_range1 (by rfl) R.BL.range (pa_cons pe_int pa_nil)) (pg_name (i := 1) scR4.nd rfl (.inl rfl))
      (pss_cons (ps_set (i := 2) scR4.nd rfl (.inr rfl) (pe_call R.GA hr2 rfl R.gA R.kA R.bA .nil pass0 (pa_cons (pv 0) pa_nil)))
      (pss_cons (ps_set (i := 3) scR4.nd rfl (.inl rfl) (pe_ix ix_tup (pe_call R.GU2 hr rfl R.gU R.kU R.bU .nil pass0 (pa_cons (pv 0) (pa_cons (pv 2) (pa_cons (pe_op op_rep (pe_lst (pa_cons pe_str pa_nil)) (pe_call GL hr1 rfl R.DW.gL R.DW.FL.kp R.DW.bL .nil pass0 (pa_cons (pv 0) (pa_cons pe_int pa_nil)))) (pa_cons (pe_call GL hr1 rfl R.DW.gL R.DW.FL.kp R.DW.bL .nil pass0 (pa_cons (pv 0) (pa_cons pe_int pa_nil))) (pa_cons pe_int pa_nil)))))) pe_int (fun _ _ => rfl)))
      (pss_cons (ps_set (i := 4) scR4.nd rfl (.inl rfl) (pe_ix ix_tup (pe_call R.GU1 hr7 rfl R.gU R.kU R.bU .nil pass0 (pa_cons (pv 0) (pa_cons (pv 2) (pa_cons (pe_lst (pa_cons pe_str pa_nil)) (pa_cons (pe_call GL hr1 rfl R.DW.gL R.DW.FL.kp R.DW.bL .nil pass0 (pa_cons (pv 0) (pa_cons pe_int pa_nil))) (pa_cons pe_int pa_nil)))))) pe_int (fun _ _ => rfl)))
      (pss_cons (ps_par (i := 5) (j := 6) (by rfl) scR4.nd rfl rfl (by decide) rfl rfl (pa_cons (pe_call R.GP hr rfl R.gP R.kP R.bP .nil pass0 (pa_cons (pv 2) (pa_cons (pv 3) pa_nil))) (pa_cons (pe_call R.GP hr rfl R.gP R.kP R.bP .nil pass0 (pa_cons (pv 2) (pa_cons (pv 4) pa_nil))) pa_nil)) (by rfl))
      (pss_cons (ps_if (pt_not (pt_val (pe_callG R.GS hgd hr rfl R.gS R.kS R.bS pass0 (pa_cons (pv 5) (pa_cons (pv 2) (pa_cons (pv 3) pa_nil)))))) (pss_one (ps_ret pe_bl)) pss_nil)
      (pss_cons (ps_set (i := 7) scR4.nd rfl (.inl rfl) (pe_call GL hr1 rfl R.DW.gL R.DW.FL.kp R.DW.bL .nil pass0 (pa_cons (pv 0) (pa_cons (pe_op op_add (pe_callB call_len_seq (by rfl) R.B.len PySem.boot_len (pa_cons (pv 3) pa_nil)) pe_int) pa_nil))))
      (pss_cons (ps_set (i := 8) scR4.nd rfl (.inl rfl) (pe_op op_add (pv 7) (pe_call GL hr1 rfl R.DW.gL R.DW.FL.kp R.DW.bL .nil pass0 (pa_cons (pv 0) (pa_cons (pe_op op_add (pe_op op_sub (pe_callB call_len_seq (by rfl) R.B.len PySem.boot_len (pa_cons (pv 3) pa_nil)) (pv 7)) pe_int) pa_nil)))))
      (pss_cons (ps_if (pt_not (pt_val (pe_callG R.GS hgd hr rfl R.gS R.kS R.bS pass0 (pa_cons (pe_meth (pv 5) R.PV.cl R.MPt R.GPt hr7 R.bPt .nil passX (pa_cons (pv 7) (pa_cons (pv 8) pa_nil))) (pa_cons (pv 2) (pa_cons (pe_slice sl_list (pv 3) (po_some (pv 7)) (po_some (pv 8))) pa_nil)))))) (pss_one (ps_ret pe_bl)) pss_nil)
      (pss_cons (ps_if (pt_not (pt_val (pe_callG R.GS hgd hr rfl R.gS R.kS R.bS pass0 (pa_cons (pe_methK2 (pv 5) R.PV.cl R.MPt R.GPt hr7 R.kPt passX (pv 8) (pv 7)) (pa_cons (pv 2) (pa_cons (pe_slice sl_list (pv 3) (po_some (pv 7)) (po_some (pv 8))) pa_nil)))))) (pss_one (ps_ret pe_bl)) pss_nil)
      (pss_cons (ps_if (pt_cmpR op_lt (pe_op op_add (pe_fld (pv 5) rfl) (pe_fld (pv 6) rfl)) pe_int (nomark _))
          (pss_cons (ps_if (pt_not (pt_val (pe_callG R.GS hgd hr rfl R.gS R.kS R.bS pass0 (pa_cons (pe_meth (pv 5) R.PV.cl R.MTh R.GTh hr7 R.bTh .nil passX (pa_cons (pv 6) pa_nil)) (pa_cons (pv 2) (pa_cons (pe_op op_cat (pv 3) (pv 4)) pa_nil)))))) (pss_one (ps_ret pe_bl)) pss_nil)
          (pss_one (ps_if (pt_not (pt_val (pe_callG R.GS hgd hr rfl R.gS R.kS R.bS pass0 (pa_cons (pe_meth0 (pe_methK (pv 6) R.PV.cl R.MTh R.GTh hr7 R.kTh passX (pv 5)) R.PV.cl R.MQd R.GQd hr7 R.bQd .nil passX) (pa_cons (pv 2) (pa_cons (pe_lst (pa_cons (pe_op op_cat (pv 4) (pv 3)) pa_nil)) pa_nil)))))) (pss_one (ps_ret pe_bl)) pss_nil))) pss_nil)
      (pss_cons (ps_set (i := 9) scR4.nd rfl (.inl rfl) (pe_call GL hr1 rfl R.DW.gL R.DW.FL.kp R.DW.bL .nil pass0 (pa_cons (pv 0) (pa_cons (pe_callB (call_max2 rfl) (by rfl) R.BL.max (by decide +kernel) (pa_cons pe_int (pa_cons (pe_callB call_len_seq (by rfl) R.B.len PySem.boot_len (pa_cons (pv 3) pa_nil)) pa_nil))) pa_nil))))
      (pss_cons (ps_if (pt_cmpR (op_neD hr.units) (pv 3) (pe_lst pa_nil) (nomark _)) (pss_one (ps_if (pt_not (pt_val (pe_callG R.GS hgd hr rfl R.gS R.kS R.bS pass0 (pa_cons (pe_methK (pv 5) R.PV.cl R.MWo R.GWo hr7 R.kWo passX (pv 9)) (pa_cons (pv 2) (pa_cons (pe_op op_cat (pe_slice sl_list (pv 3) po_none (po_some (pv 9))) (pe_slice sl_list (pv 3) (po_some (pe_op op_add (pv 9) pe_int)) po_none)) pa_nil)))))) (pss_one (ps_ret pe_bl)) pss_nil)) pss_nil)
      (pss_cons (ps_set (i := 10) scR4.nd rfl (.inl rfl) (pe_callTy (call_dictP rfl) (by rfl) R.dict (by decide +kernel) (pa_cons (pe_op op_cat (pe_lock (pe_lc (own := [("_law_title", 11)]) (g := gName 11) (tt := tYes) rfl scR4.nd (pi_keys (pv 2)) (blkOk_by (N := nR4) (sc := defScope sRight) (by decide +kernel)) (fun _ _ _ _ _ => pg_name (i := 11) scR4.nd rfl (.inl rfl)) (fun _ _ _ _ _ => pts_nil) (fun _ _ _ _ _ => pe_tup (pa_cons (pv 11) (pa_cons (pe_dget hu2 (pv 2) (pv 11) (fun _ _ => rfl)) pa_nil))))) (pe_lst (pa_cons (pe_tup (pa_cons pe_str (pa_cons (pe_tup (pa_cons pe_int (pa_cons pe_int pa_nil))) pa_nil))) pa_nil))) pa_nil)))
      (pss_cons (ps_set (i := 12) scR4.nd rfl (.inl rfl) (pe_lst (pa_cons (pe_cmpR (op_eqOwn R.GE hr2 R.CQ) (pv 5) (pe_call R.GP hr rfl R.gP R.kP R.bP .nil pass0 (pa_cons (pv 2) (pa_cons (pv 3) pa_nil))) (by rfl)) (pa_cons (pe_cmpR (op_neOwn R.GE hr4 R.CQ) (pv 5) (pe_call R.GP hr rfl R.gP R.kP R.bP .nil pass0 (pa_cons (pv 10) (pa_cons (pv 3) pa_nil))) (by rfl)) pa_nil))))
      (pss_cons (ps_set (i := 12) scR4.nd rfl (.inl rfl) (pe_op op_cat (pv 12) (pe_lst (pa_cons (pe_cmpR (op_neOwnS R.GE hr4 R.CQ R.sst) (pv 5) (pe_call R.GLn hr8 rfl R.gL R.kL R.bL .nil pass0 (pa_cons (pv 3) pa_nil)) (by rfl)) (pa_cons (pe_cmpR (op_eqOwn R.GE hr2 R.CQ) (pv 5) (pe_meth (pv 5) R.PV.cl R.MPt R.GPt hr7 R.bPt .nil passX (pa_cons pe_int (pa_cons (pe_callB call_len_seq (by rfl) R.B.len PySem.boot_len (pa_cons (pv 3) pa_nil)) pa_nil))) (by rfl)) pa_nil)))))
      (pss_cons (ps_expr (pe_bm PySem.F.plainAttrs_list PySem.F.slot_list_append PySem.F.type_list_append mt_append (pv 12) (pa_cons (pe_cmpR op_eq (pe_cmpR (op_eqOwn R.GE hr2 R.CQ) (pv 5) (pv 6) (by rfl)) (pe_cmpR (op_eqD hr.units) (pv 3) (pv 4) (by rfl)) (by rfl)) pa_nil)))
      (pss_one (ps_if (PW.pt (pw_or (pt_cmpR (op_neD hr.units) (pv 12) (pe_op op_rep (pe_lst (pa_cons pe_bl pa_nil)) pe_int) (nomark _)) (pw_or1 (pt_not (pt_val (pe_callG R.GS hgd hr rfl R.gS R.kS R.bS pass0 (pa_cons (pv 5) (pa_cons (pv 2) (pa_cons (pv 3) pa_nil)))))))))
          (pss_one (ps_ret pe_bl)) pss_nil)))))))))))))))))))
      (pss_one (ps_ret pe_bl)), ?_⟩
    refine seq_mid (fun σ G => But u H G) (fun Nf hNf => ?_) (fun σ G b => q G b)
    refine ⟨4, rfl, by decide, by decide, for_range (lo := 0) (n := 4) (fun j σ G => ∃ v1 v2 v3 v4 v5 v6 v7 v8 v9 v10 v12, σ = sR u v1 v2 v3 v4 v5 v6 v7 v8 v9 v10 v12 ∧ But u H G ∧ urnAt G u) ⟨_, _, _, _, _, _, _, _, _, _, _, rfl, But.refl, hu⟩ ?_ (fun σ G ⟨_, _, _, _, _, _, _, _, _, _, _, _, b, _⟩ => hNf _ _ b)⟩
    rintro j σ G hj ⟨v1, v2, v3, v4, v5, v6, v7, v8, v9, v10, v12, rfl, b0, u0⟩
    generalize (V.int (0 + (j : Int))) = vt
    -- the words
    refine seq_mid (fun σ G => ∃ a gs, σ = sR u (some vt) (some (.ref a)) v3 v4 v5 v6 v7 v8 v9 v10 v12 ∧ But u H G ∧ urnAt G u ∧ DAt G a gs ∧ gs.Sublist allG) (fun N hN => ?_) ?_
    · exact ⟨_, rfl, u, rfl, u0, fun a gs G' na b hu' hA hs => hN _ _ ⟨a, gs, rfl, b0.trans b, hu', hA, hs⟩⟩
    clear b0 u0
    rintro _ G ⟨a, gs, rfl, b0, u0, hA, hs⟩
    -- the row
    refine seq_mid (fun σ G => ∃ r rv l, σ = sR u (some vt) (some (.ref a)) (some (.ref r)) v4 v5 v6 v7 v8 v9 v10 v12 ∧ But u H G ∧ urnAt G u ∧ DAt G a gs ∧ G r = some (.lst rv) ∧ RowAt G rv l ∧ Fine (gnames gs) 2 58 l) (fun N hN => ?_) ?_
    · refine ⟨_, rfl, _, rfl, (by show 1 ≤ sizeLine; decide), ?_⟩
      intro p1 n1
      generalize hG_ : upd G p1 _ = G1
      have s1 : Same G G1 := (by rw [← hG_]; exact same_new (fun _ _ e => e) n1)
      have h1 := (congrFun hG_ p1).symm.trans upd_same
      clear hG_
      refine ⟨_, rfl, u, 3, rfl, urn_same s1 u0, by decide, by decide, fun G2 d d0 d1 hu2' b2 => ?_⟩
      obtain ⟨m, rfl⟩ : ∃ m : Nat, d = m := ⟨d.toNat, by omega⟩
      refine ⟨p1, m, _, rfl, rfl, b2 _ _ h1 (urn_ne u0 n1).symm, by omega, by omega, Nat.le_trans (by show 1 * m ≤ 3; omega : _ ≤ 3) (by decide), ?_⟩
      rw [Int.toNat_natCast, flat_p]
      intro p3 n3
      generalize hG_ : upd G2 p3 _ = G3'
      have s3 : Same G2 G3' := (by rw [← hG_]; exact same_new (fun _ _ e => e) n3)
      have h3 := (congrFun hG_ p3).symm.trans upd_same
      clear hG_
      have c3 : But u G G3' := ((Same.but s1).trans b2).trans (Same.but s3)
      refine ⟨_, rfl, u, 6, rfl, urn_same s3 hu2', by decide, by decide, fun G4 c e0 e1 hu4 b4 => ?_⟩
      obtain ⟨c, rfl⟩ : ∃ c' : Nat, c = c' := ⟨c.toNat, by omega⟩
      have c4 : But u G G4 := c3.trans b4
      refine ⟨u, a, p3, c, m, gs, rfl, hu4, b4 _ _ h3 (urn_ne hu2' n3).symm, by omega, by show c ≤ 5; omega, hA.but u0 c4, hs, fun t r k' rv l n G5 b5 hu5 ht nr hr5 hR5 hF5 hk5 hkf hn => ?_⟩
      have c5 : But u G G5 := c4.trans b5
      exact ⟨t, _, 0, _, rfl, rfl, SqT.of ht, rfl, hN _ _ ⟨r, rv, l, rfl, b0.trans c5, hu5, hA.but u0 c5, hr5, hR5.same nw_sub, hF5⟩⟩
    clear b0 u0 hA
    rintro _ G ⟨r, rv, l, rfl, b0, u0, hA, hrw, hR, hF⟩
    -- the other row
    refine seq_mid (fun σ G => ∃ r2 rv2 l2, σ = sR u (some vt) (some (.ref a)) (some (.ref r)) (some (.ref r2)) v5 v6 v7 v8 v9 v10 v12 ∧ But u H G ∧ urnAt G u ∧ DAt G a gs ∧ G r = some (.lst rv) ∧ RowAt G rv l ∧ G r2 = some (.lst rv2) ∧ RowAt G rv2 l2 ∧ Fine (gnames gs) 2 9 l2) (fun N hN => ?_) ?_
    · refine ⟨_, rfl, _, rfl, (by show 1 ≤ sizeLine; decide), ?_⟩
      intro p3 n3
      generalize hG_ : upd G p3 _ = G3'
      have s3 : Same G G3' := (by rw [← hG_]; exact same_new (fun _ _ e => e) n3)
      have h3 := (congrFun hG_ p3).symm.trans upd_same
      clear hG_
      refine ⟨_, rfl, u, 3, rfl, urn_same s3 u0, by decide, by decide, fun G4 c e0 e1 hu4 b4 => ?_⟩
      obtain ⟨c, rfl⟩ : ∃ c' : Nat, c = c' := ⟨c.toNat, by omega⟩
      have c4 : But u G G4 := (Same.but s3).trans b4
      refine ⟨u, a, p3, c, 1, gs, rfl, hu4, b4 _ _ h3 (urn_ne u0 n3).symm, by decide, by show c ≤ 2; omega, hA.but u0 c4, hs, fun t r2 k' rv2 l2 n G5 b5 hu5 ht nr hr5 hR5 hF5 hk5 hkf hn => ?_⟩
      have c5 : But u G G5 := c4.trans b5
      exact ⟨t, _, 0, _, rfl, rfl, SqT.of ht, rfl, hN _ _ ⟨r2, rv2, l2, rfl, b0.trans c5, hu5, hA.but u0 c5, c5 _ _ hrw (row_urn u0 hrw hR.inn), hR.but u0 c5, hr5, hR5.same nw_sub, hF5.mono (fun _ h => h) (by decide) (Nat.le_refl _)⟩⟩
    clear b0 u0 hA hrw hR
    rintro _ G ⟨r2, rv2, l2, rfl, b0, u0, hA, hrw, hR, hrw2, hR2, hF2⟩
    -- the programs
    refine seq_mid (fun σ G => ∃ p p2, σ = sR u (some vt) (some (.ref a)) (some (.ref r)) (some (.ref r2)) (some (.ref p)) (some (.ref p2)) v7 v8 v9 v10 v12 ∧ RI C CP H u a r r2 p p2 gs rv rv2 l l2 G) (fun N hN => ?_) ?_
    · refine ⟨_, rfl, _, rfl, a, r, gs, rv, l, gnames gs, rfl, hA, allG_Z hs, hrw, hR, hF.mono (fun _ h => h) (by decide) (by decide), fun _ h => h, fun p o gs' ys G1 s1 V1 hP1 => ?_⟩
      refine ⟨_, rfl, _, rfl, a, r2, gs, rv2, l2, gnames gs, rfl, hA.same s1, allG_Z hs, s1 _ _ hrw2, hR2.same s1, hF2.mono (fun _ h => h) (by decide) (by decide), fun _ h => h, fun p2 o2 gs2 ys2 G2 s2 V2 hP2 => ?_⟩
      have z2 := st s1 s2
      exact ⟨_, _, rfl, hN _ _ ⟨p, p2, rfl, b0.trans (Same.but z2), urn_same z2 u0, hA.same z2, hs, z2 _ _ hrw, hR.same z2, hF, z2 _ _ hrw2, hR2.same z2, hF2, ⟨o, gs', ys, hP1.same s2, V1.same s2⟩, ⟨o2, gs2, ys2, hP2, V2⟩⟩⟩
    clear b0 u0 hA hrw hR hrw2 hR2 hF2 hF
    rintro _ G ⟨p, p2, rfl, I⟩
    have hF3 : ∀ {l' : List El}, Fine (gnames gs) 2 60 l' → Fine (gnames gs) 3 130 l' := fun h => h.mono (fun _ h => h) (by decide) (by decide)
    have hF := I.F.mono (fun _ h => h) (Nat.le_refl _) (by decide : 58 ≤ 60)
    have hl58 : l.length ≤ 58 := Nat.le_trans (len_size l) I.F.sz
    have hrvl : rv.length = l.length := Paired.length I.hR
    have hrvl2 : rv2.length = l2.length := Paired.length I.hR2
    have hl9 : l2.length ≤ 9 := Nat.le_trans (len_size l2) I.F2.sz
    -- shown
    refine seq_mid (fun σ G => σ = sR u (some vt) (some (.ref a)) (some (.ref r)) (some (.ref r2)) (some (.ref p)) (some (.ref p2)) v7 v8 v9 v10 v12 ∧ RI C CP H u a r r2 p p2 gs rv rv2 l l2 G) (fun N hN => ?_) ?_
    · exact ⟨_, rfl, _, rfl, _, rfl, p, a, r, gs, rv, l, gnames gs, rfl, I.hp, I.hA, allG_Z hs, I.hr, I.hR, hF3 hF, fun G' s' => ⟨_, rfl, iteF (hN _ _ ⟨rfl, I.sm s'⟩)⟩⟩
    clear I
    rintro _ G ⟨rfl, I⟩
    -- low
    refine seq_mid (fun σ G => ∃ lo : Nat, σ = sR u (some vt) (some (.ref a)) (some (.ref r)) (some (.ref r2)) (some (.ref p)) (some (.ref p2)) (some (.int lo)) v8 v9 v10 v12 ∧ RI C CP H u a r r2 p p2 gs rv rv2 l l2 G ∧ lo ≤ l.length) (fun N hN => ?_) ?_
    · refine ⟨_, rfl, _, rfl, r, rv, rfl, .inl (SqL.of I.hr), _, _, rfl, rfl, u, _, rfl, I.urn, by omega, by omega, fun G2 d d0 d1 hu2' b2 => ?_⟩
      obtain ⟨lo, rfl⟩ : ∃ m : Nat, d = m := ⟨d.toNat, by omega⟩
      exact hN _ _ ⟨lo, rfl, I.go b2 hu2', by omega⟩
    clear I
    rintro _ G ⟨lo, rfl, I, hlo⟩
    -- high
    refine seq_mid (fun σ G => ∃ hi : Nat, σ = sR u (some vt) (some (.ref a)) (some (.ref r)) (some (.ref r2)) (some (.ref p)) (some (.ref p2)) (some (.int lo)) (some (.int hi)) v9 v10 v12 ∧ RI C CP H u a r r2 p p2 gs rv rv2 l l2 G ∧ lo ≤ hi ∧ hi ≤ l.length) (fun N hN => ?_) ?_
    · refine ⟨_, rfl, _, rfl, _, rfl, r, rv, rfl, .inl (SqL.of I.hr), _, rfl, _, _, rfl, rfl, _, _, rfl, rfl, u, _, rfl, I.urn, by omega, by omega, fun G2 d d0 d1 hu2' b2 => ?_⟩
      obtain ⟨k, rfl⟩ : ∃ m : Nat, d = m := ⟨d.toNat, by omega⟩
      refine ⟨_, _, rfl, rfl, ?_⟩
      have e : (lo : Int) + (k : Int) = ((lo + k : Nat) : Int) := by omega
      show N (sR u (some vt) (some (.ref a)) (some (.ref r)) (some (.ref r2)) (some (.ref p)) (some (.ref p2)) (some (.int lo)) (some (.int ((lo : Int) + (k : Int)))) v9 v10 v12) G2
      rw [e]
      exact hN _ _ ⟨lo + k, rfl, I.go b2 hu2', by omega, by omega⟩
    clear I
    rintro _ G ⟨hi, rfl, I, hlh, hhl⟩
    have sl : ∀ {G1 : Hp}, RI C CP H u a r r2 p p2 gs rv rv2 l l2 G1 → cutV rv (some (lo : Int)) (some (hi : Int)) = (rv.drop lo).take (hi - lo) ∧ RowAt G1 ((rv.drop lo).take (hi - lo)) ((l.drop lo).take (hi - lo)) := fun I => ⟨cut_mid (by omega) (by omega), row_take _ (row_drop _ I.hR)⟩
    have hFs : Fine (gnames gs) 3 130 ((l.drop lo).take (hi - lo)) := hF3 (fine_sub hF ((List.take_sublist _ _).trans (List.drop_sublist _ _)))
    -- a part
    refine seq_mid (fun σ G => σ = sR u (some vt) (some (.ref a)) (some (.ref r)) (some (.ref r2)) (some (.ref p)) (some (.ref p2)) (some (.int lo)) (some (.int hi)) v9 v10 v12 ∧ RI C CP H u a r r2 p p2 gs rv rv2 l l2 G) (fun N hN => ?_) ?_
    · obtain ⟨dx, o, ro, tW, hpi⟩ := I.hp.ins
      refine ⟨_, rfl, p, dx, _, rfl, hpi, rfl, _, rfl, _, rfl, part_of I.hp hF hlh hhl fun p' G1 s1 hM => ?_⟩
      have I1 := I.sm s1
      refine ⟨_, rfl, _, rfl, _, rfl, _, rfl, _, rfl, _, rfl, r, rv, rfl, SqL.of I1.hr, ?_⟩
      rw [(sl I1).1]
      intro r' n2
      generalize hG_ : upd G1 r' _ = G2
      have s2 : Same G1 G2 := (by rw [← hG_]; exact same_new (fun _ _ e => e) n2)
      have h2 := (congrFun hG_ r').symm.trans upd_same
      clear hG_
      have I2 := I1.sm s2
      exact ⟨p', a, r', gs, _, _, gnames gs, rfl, hM.same s2, I2.hA, allG_Z hs, h2, (sl I2).2, hFs, fun G' s' => ⟨_, rfl, iteF (hN _ _ ⟨rfl, I2.sm s'⟩)⟩⟩
    clear I
    rintro _ G ⟨rfl, I⟩
    -- by keywords
    refine seq_mid (fun σ G => σ = sR u (some vt) (some (.ref a)) (some (.ref r)) (some (.ref r2)) (some (.ref p)) (some (.ref p2)) (some (.int lo)) (some (.int hi)) v9 v10 v12 ∧ RI C CP H u a r r2 p p2 gs rv rv2 l l2 G) (fun N hN => ?_) ?_
    · obtain ⟨dx, o, ro, tW, hpi⟩ := I.hp.ins
      refine ⟨_, rfl, p, dx, _, rfl, hpi, rfl, _, rfl, _, rfl, _, _, rfl, part_of I.hp hF hlh hhl fun p' G1 s1 hM => ?_⟩
      have I1 := I.sm s1
      refine ⟨_, rfl, _, rfl, _, rfl, _, rfl, _, rfl, _, rfl, r, rv, rfl, SqL.of I1.hr, ?_⟩
      rw [(sl I1).1]
      intro r' n2
      generalize hG_ : upd G1 r' _ = G2
      have s2 : Same G1 G2 := (by rw [← hG_]; exact same_new (fun _ _ e => e) n2)
      have h2 := (congrFun hG_ r').symm.trans upd_same
      clear hG_
      have I2 := I1.sm s2
      exact ⟨p', a, r', gs, _, _, gnames gs, rfl, hM.same s2, I2.hA, allG_Z hs, h2, (sl I2).2, hFs, fun G' s' => ⟨_, rfl, iteF (hN _ _ ⟨rfl, I2.sm s'⟩)⟩⟩
    clear I
    rintro _ G ⟨rfl, I⟩
    -- joined
    refine seq_mid (fun σ G => σ = sR u (some vt) (some (.ref a)) (some (.ref r)) (some (.ref r2)) (some (.ref p)) (some (.ref p2)) (some (.int lo)) (some (.int hi)) v9 v10 v12 ∧ RI C CP H u a r r2 p p2 gs rv rv2 l l2 G) (fun N hN => ?_) ?_
    · obtain ⟨dx, o, ro, tW, hpi⟩ := I.hp.ins
      obtain ⟨dx2, o2, ro2, tW2, hpi2⟩ := I.hp2.ins
      refine ⟨_, rfl, p, CP, dx, _, _, rfl, hpi, R.PV.cl, R.PV.nS, rfl, _, rfl, p2, CP, dx2, _, _, rfl, hpi2, R.PV.cl, R.PV.nS, rfl, _, _, rfl, rfl, _, _, rfl, rfl, _, rfl, ite2 (fun hlt => ?_) (fun _ => hN _ _ ⟨rfl, I⟩)⟩
      have hlt' := of_decide_eq_true hlt
      rw [size_toks I.F.gd, size_toks I.F2.gd] at hlt'
      have hFj : ∀ {x y : List El}, Fine (gnames gs) 2 58 x → Fine (gnames gs) 2 58 y → (rof x).size + (rof y).size ≤ 59 → Fine (gnames gs) 2 59 (x ++ y) := fun hx hy hz => ⟨good_app hx.gd hy.gd, dep_app hx.dp hy.dp, by rw [size_app]; exact hz⟩
      have F2 := I.F2.mono (fun _ h => h) (Nat.le_refl _) (by decide : 9 ≤ 58)
      have J1 : Fine (gnames gs) 2 59 (l ++ l2) := hFj I.F F2 (by omega)
      have J2 : Fine (gnames gs) 2 59 (l2 ++ l) := hFj F2 I.F (by omega)
      refine seq_mid (fun σ G => σ = sR u (some vt) (some (.ref a)) (some (.ref r)) (some (.ref r2)) (some (.ref p)) (some (.ref p2)) (some (.int lo)) (some (.int hi)) v9 v10 v12 ∧ RI C CP H u a r r2 p p2 gs rv rv2 l l2 G) (fun N2 hN2 => ?_) ?_
      · refine ⟨_, rfl, p, dx, _, rfl, hpi, rfl, _, rfl, then_of I.hp I.hp2 (J1.mono (fun _ h => h) (Nat.le_refl _) (by decide)) fun p' G1 s1 hM => ?_⟩
        have I1 := I.sm s1
        refine ⟨_, rfl, _, rfl, _, rfl, r, r2, rv, rv2, rfl, rfl, I1.hr, I1.hr2, Nat.le_trans (by omega : _ ≤ 100) (by decide), ?_⟩
        intro r' n2
        generalize hG_ : upd G1 r' _ = G2
        have s2 : Same G1 G2 := (by rw [← hG_]; exact same_new (fun _ _ e => e) n2)
        have h2 := (congrFun hG_ r').symm.trans upd_same
        clear hG_
        have I2 := I1.sm s2
        exact ⟨p', a, r', gs, _, _, gnames gs, rfl, hM.same s2, I2.hA, allG_Z hs, h2, RowAt.app I2.hR I2.hR2, hF3 (J1.mono (fun _ h => h) (Nat.le_refl _) (by decide)), fun G' s' => ⟨_, rfl, iteF (hN2 _ _ ⟨rfl, I2.sm s'⟩)⟩⟩
      clear I hpi hpi2
      rintro _ G ⟨rfl, I⟩
      obtain ⟨dx2, o2, ro2, tW2, hpi2⟩ := I.hp2.ins
      refine ⟨_, rfl, p2, dx2, _, rfl, hpi2, rfl, _, rfl, _, rfl, then_of I.hp2 I.hp (J2.mono (fun _ h => h) (Nat.le_refl _) (by decide)) fun p' G1 s1 hM => ?_⟩
      obtain ⟨dx3, o3, ro3, tW3, hpi3⟩ := hM.ins
      refine ⟨p', dx3, _, rfl, hpi3, rfl, quoted_of hM J2 fun p4 G2 s2 hM2 => ?_⟩
      have I2 := I.sm (st s1 s2)
      refine ⟨_, rfl, _, rfl, _, rfl, r2, r, rv2, rv, rfl, rfl, I2.hr2, I2.hr, Nat.le_trans (by omega : _ ≤ 100) (by decide), ?_⟩
      intro r' n3
      generalize hG_ : upd G2 r' _ = G3'
      have s3 : Same G2 G3' := (by rw [← hG_]; exact same_new (fun _ _ e => e) n3)
      have h3 := (congrFun hG_ r').symm.trans upd_same
      clear hG_
      refine ⟨(by show 1 ≤ sizeLine; decide), ?_⟩
      intro r4 n4
      generalize hG_ : upd G3' r4 _ = G4
      have s4 : Same G3' G4 := (by rw [← hG_]; exact same_new (fun _ _ e => e) n4)
      have h4 := (congrFun hG_ r4).symm.trans upd_same
      clear hG_
      have I4 := I2.sm (st s3 s4)
      exact ⟨p4, a, r4, gs, _, _, gnames gs, rfl, hM2.same (st s3 s4), I4.hA, allG_Z hs, h4, .cons ⟨r', _, rfl, s4 _ _ h3, (RowAt.app I4.hR2 I4.hR).inn⟩ .nil, (fine_quo J2).mono (fun _ h => h) (by decide) (by decide), fun G' s' => ⟨_, rfl, iteF (hN _ _ ⟨rfl, I4.sm s'⟩)⟩⟩
    clear I
    rintro _ G ⟨rfl, I⟩
    -- at
    refine seq_mid (fun σ G => ∃ k : Nat, σ = sR u (some vt) (some (.ref a)) (some (.ref r)) (some (.ref r2)) (some (.ref p)) (some (.ref p2)) (some (.int lo)) (some (.int hi)) (some (.int k)) v10 v12 ∧ RI C CP H u a r r2 p p2 gs rv rv2 l l2 G ∧ (l ≠ [] → k < l.length)) (fun N hN => ?_) ?_
    · refine ⟨_, rfl, _, rfl, r, rv, rfl, .inl (SqL.of I.hr), _, _, rfl, u, _, rfl, I.urn, ?_, ?_, fun G2 d d0 d1 hu2' b2 => ?_⟩
      · split <;> omega
      · split <;> omega
      · obtain ⟨k, rfl⟩ : ∃ m : Nat, d = m := ⟨d.toNat, by omega⟩
        refine hN _ _ ⟨k, rfl, I.go b2 hu2', fun hne => ?_⟩
        have : 0 < l.length := List.length_pos_iff.mpr hne
        split at d1 <;> omega
    clear I
    rintro _ G ⟨k, rfl, I, hk⟩
    -- without
    refine seq_mid (fun σ G => σ = sR u (some vt) (some (.ref a)) (some (.ref r)) (some (.ref r2)) (some (.ref p)) (some (.ref p2)) (some (.int lo)) (some (.int hi)) (some (.int k)) v10 v12 ∧ RI C CP H u a r r2 p p2 gs rv rv2 l l2 G) (fun N hN => ?_) ?_
    · refine ⟨_, rfl, (by show 0 ≤ sizeLine; decide), ?_⟩
      intro pn nn
      generalize hG_ : upd G pn _ = G1
      have s1 : Same G G1 := (by rw [← hG_]; exact same_new (fun _ _ e => e) nn)
      have h1 := (congrFun hG_ pn).symm.trans upd_same
      clear hG_
      have I1 := I.sm s1
      refine ⟨_, _, .lst (SqL.of I1.hr) (row_dp I1.hR.inn), .lst (SqL.of h1) .nil, row_sh I.F.gd (Nat.le_trans I.F.dp (by decide)), sh_nilL, _, rfl, ?_⟩
      rw [row_eqnil]
      by_cases e : rof l = .nil
      · rw [decide_eq_true e]
        exact iteF (hN _ _ ⟨rfl, I1⟩)
      · rw [decide_eq_false e]
        refine iteT ?_
        have hne : l ≠ [] := fun z => e (by rw [z]; rfl)
        have hkl := hk hne
        obtain ⟨dx, o, ro, tW, hpi⟩ := I1.hp.ins
        refine ⟨_, rfl, p, dx, _, rfl, hpi, rfl, _, rfl, _, rfl, without_of I1.hp hF hkl fun p' G2 s2 hM => ?_⟩
        have I2 := I1.sm s2
        refine ⟨_, rfl, _, rfl, _, rfl, _, rfl, r, rv, rfl, SqL.of I2.hr, ?_⟩
        rw [cut_head (by omega : k ≤ rv.length)]
        intro q1 n3
        generalize hG_ : upd G2 q1 _ = G3'
        have s3 : Same G2 G3' := (by rw [← hG_]; exact same_new (fun _ _ e => e) n3)
        have h3 := (congrFun hG_ q1).symm.trans upd_same
        clear hG_
        have I3 := I2.sm s3
        refine ⟨_, rfl, _, rfl, _, _, rfl, rfl, _, rfl, r, rv, rfl, SqL.of I3.hr, ?_⟩
        rw [cut_tail (by omega : k < rv.length)]
        intro q2 n4
        generalize hG_ : upd G3' q2 _ = G4
        have s4 : Same G3' G4 := (by rw [← hG_]; exact same_new (fun _ _ e => e) n4)
        have h4 := (congrFun hG_ q2).symm.trans upd_same
        clear hG_
        refine ⟨q1, q2, _, _, rfl, rfl, s4 _ _ h3, h4, Nat.le_trans (by rw [List.length_take, List.length_drop]; omega : _ ≤ 200) (by decide), ?_⟩
        intro q3 n5
        generalize hG_ : upd G4 q3 _ = G5
        have s5 : Same G4 G5 := (by rw [← hG_]; exact same_new (fun _ _ e => e) n5)
        have h5 := (congrFun hG_ q3).symm.trans upd_same
        clear hG_
        have I5 := I3.sm (st s4 s5)
        have sb : (l.take k ++ l.drop (k + 1)).Sublist l := by
          have h1 : (l.take k ++ l.drop (k + 1)).Sublist (l.take k ++ l.drop k) := List.Sublist.append (List.Sublist.refl _) (by
            rw [← List.drop_drop]
            exact List.drop_sublist _ _)
          rw [List.take_append_drop] at h1
          exact h1
        exact ⟨p', a, q3, gs, _, _, gnames gs, rfl, hM.same (st s3 (st s4 s5)), I5.hA, allG_Z hs, h5, RowAt.app (row_take _ I5.hR) (row_drop _ I5.hR), hF3 (fine_sub hF sb), fun G' s' => ⟨_, rfl, iteF (hN _ _ ⟨rfl, I5.sm s'⟩)⟩⟩
    clear I
    rintro _ G ⟨rfl, I⟩
    -- wider
    refine seq_mid (fun σ G => ∃ wi, σ = sR u (some vt) (some (.ref a)) (some (.ref r)) (some (.ref r2)) (some (.ref p)) (some (.ref p2)) (some (.int lo)) (some (.int hi)) (some (.int k)) (some (.ref wi)) v12 ∧ RI C CP H u a r r2 p p2 gs rv rv2 l l2 G ∧ DAt G wi (gs ++ [gZ])) (fun N hN => ?_) ?_
    · refine pairs_list (K := K) rfl (by decide) (by show 11 < 13; decide) I.hA (by have := hs.length_le; exact Nat.le_trans this (by decide)) fun pl ps G1 np s1 h1 ⟨kv1, hk1, hps⟩ => ?_
      have I1 := I.sm s1
      obtain ⟨kvs', hkv, kk⟩ := I1.hA
      have ek : kvs' = kv1 := by
        rw [hkv] at hk1
        cases hk1
        rfl
      rw [ek] at kk
      refine ⟨(by show 2 ≤ sizeLine; decide), ?_⟩
      intro t0 n0
      generalize hG_ : upd G1 t0 _ = G2
      have s2 : Same G1 G2 := (by rw [← hG_]; exact same_new (fun _ _ e => e) n0)
      have h2 := (congrFun hG_ t0).symm.trans upd_same
      clear hG_
      refine ⟨(by show 2 ≤ sizeLine; decide), ?_⟩
      intro t1 n1
      generalize hG_ : upd G2 t1 _ = G3'
      have s3 : Same G2 G3' := (by rw [← hG_]; exact same_new (fun _ _ e => e) n1)
      have h3 := (congrFun hG_ t1).symm.trans upd_same
      clear hG_
      refine ⟨(by show 1 ≤ sizeLine; decide), ?_⟩
      intro l1 n4
      generalize hG_ : upd G3' l1 _ = G4
      have s4 : Same G3' G4 := (by rw [← hG_]; exact same_new (fun _ _ e => e) n4)
      have h4 := (congrFun hG_ l1).symm.trans upd_same
      clear hG_
      have z4 : Same G1 G4 := st s2 (st s3 s4)
      have hpl : ps.length = gs.length := Paired.length hps
      refine ⟨pl, l1, _, _, rfl, rfl, z4 _ _ h1, h4, Nat.le_trans (by rw [List.length_map]; have := hs.length_le; show ps.length + 1 ≤ 100; have e : allG.length = 7 := rfl; omega : _ ≤ 100) (by decide), ?_⟩
      intro l2' n5
      generalize hG_ : upd G4 l2' _ = G5
      have s5 : Same G4 G5 := (by rw [← hG_]; exact same_new (fun _ _ e => e) n5)
      have h5 := (congrFun hG_ l2').symm.trans upd_same
      clear hG_
      have z5 : Same G1 G5 := st z4 s5
      replace kk := kk.same z5
      refine ⟨l2', ps ++ [t1], kv1 ++ [((Sum.inr ("zz" : Str) : Key), V.ref t0)], rfl, SqL.of (by rw [h5, List.map_append]; rfl), ?_, fun wi nw' => ?_⟩
      · refine Paired.snoc (pairs_kvs (K := K) (z_nd (allG_Z hs)) kk (Paired.mapP hps fun p' g' ⟨tt, h1, h2⟩ => ⟨tt, z5 _ _ h1, h2⟩)) (SqT.of (st s4 s5 _ _ h3))
      · have nd : (gnames (gs ++ [gZ])).Nodup := z_nd (List.Sublist.append hs (List.Sublist.refl _))
        have kk2 : Kvs G5 (kv1 ++ [((Sum.inr ("zz" : Str) : Key), V.ref t0)]) (gs ++ [gZ]) := kk.snoc ⟨rfl, t0, rfl, st s3 (st s4 s5) _ _ h2⟩
        rw [merge_nodup kk2 nd]
        have s6 : Same G5 (upd G5 wi (.dK (kv1 ++ [((Sum.inr ("zz" : Str) : Key), V.ref t0)]))) := same_new (fun _ _ e => e) nw'
        exact hN _ _ ⟨wi, rfl, I1.sm (st z5 s6), _, upd_same, kk2.same s6⟩
    clear I
    rintro _ G ⟨wi, rfl, I, hW⟩
    have hsZ : (gs ++ [gZ]).Sublist allZ := List.Sublist.append hs (List.Sublist.refl _)
    -- the same
    refine seq_mid (fun σ G => ∃ c, σ = sR u (some vt) (some (.ref a)) (some (.ref r)) (some (.ref r2)) (some (.ref p)) (some (.ref p2)) (some (.int lo)) (some (.int hi)) (some (.int k)) (some (.ref wi)) (some (.ref c)) ∧ RI C CP H u a r r2 p p2 gs rv rv2 l l2 G ∧ H c = none ∧ G c = some (.lst [.bl true, .bl true])) (fun N hN => ?_) ?_
    · refine ⟨_, rfl, _, rfl, _, rfl, a, r, gs, rv, l, gnames gs, rfl, I.hA, allG_Z hs, I.hr, I.hR, hF.mono (fun _ h => h) (by decide) (by decide), fun _ h => h, fun p3 o3 gs3 ys3 G1 s1 V3 hP3 => ?_⟩
      have I1 := I.sm s1
      obtain ⟨o, gs', ys, hP, V⟩ := I1.hp.ex
      obtain ⟨dx, o', ro, tW, hpi⟩ := I1.hp.ins
      obtain ⟨dx3, r3, tW3, hp3, hW3⟩ := hP3
      refine ⟨p, p3, dx, dx3, _, _, rfl, rfl, hpi, hp3, p, o, _, _, _, _, rfl, hP, V.vc.vx, .inr ⟨p3, o3, _, _, _, rfl, ⟨dx3, r3, tW3, hp3, hW3⟩, V3.vc.vx, _, rfl, ?_⟩⟩
      rw [decide_eq_true (V.txt.one V3.txt), decide_eq_true rfl]
      refine ⟨_, rfl, _, rfl, _, rfl, wi, r, gs ++ [gZ], rv, l, gnames gs, rfl, hW.same s1, hsZ, I1.hr, I1.hR, hF.mono (fun _ h => h) (by decide) (by decide), fun n hn => by unfold gnames; rw [List.map_append]; exact List.mem_append.mpr (.inl hn), fun p4 o4 gs4 ys4 G2 s2 V4 hP4 => ?_⟩
      have I2 := I1.sm s2
      obtain ⟨dx4, r4, tW4, hp4, hW4⟩ := hP4
      have V2 := V.same s2
      refine ⟨p, p4, dx, dx4, _, _, rfl, rfl, s2 _ _ hpi, hp4, p, o, _, _, _, _, rfl, hP.same s2, V2.vc.vx, .inr ⟨p4, o4, _, _, _, rfl, ⟨dx4, r4, tW4, hp4, hW4⟩, V4.vc.vx, _, rfl, ?_⟩⟩
      have nz := V2.txt.two (allG_Z hs) hsZ V4.txt (by rw [List.length_append]; show gs.length ≠ gs.length + 1; omega)
      rw [decide_eq_false nz]
      refine ⟨(by show 2 ≤ sizeLine; decide), ?_⟩
      intro c nc
      generalize hG_ : upd G2 c _ = G3'
      have s3 : Same G2 G3' := (by rw [← hG_]; exact same_new (fun _ _ e => e) nc)
      have h3 := (congrFun hG_ c).symm.trans upd_same
      clear hG_
      exact hN _ _ ⟨c, rfl, I2.sm s3, but_free I2.but I2.urn nc, h3⟩
    clear I hW
    rintro _ G ⟨c, rfl, I, nc, hc⟩
    -- other values
    refine seq_mid (fun σ G => ∃ c, σ = sR u (some vt) (some (.ref a)) (some (.ref r)) (some (.ref r2)) (some (.ref p)) (some (.ref p2)) (some (.int lo)) (some (.int hi)) (some (.int k)) (some (.ref wi)) (some (.ref c)) ∧ RI C CP H u a r r2 p p2 gs rv rv2 l l2 G ∧ G c = some (.lst [.bl true, .bl true, .bl true, .bl true]) ∧ c ≠ u ∧ c ≠ r ∧ c ≠ r2 ∧ H c = none) (fun N hN => ?_) ?_
    · refine ⟨_, rfl, _, rfl, _, rfl, r, rv, l, gnames gs, rfl, I.hr, I.hR, hF.mono (fun _ h => h) (by decide) (by decide), fun G1 s1 => ?_⟩
      have I1 := I.sm s1
      obtain ⟨o, gs', ys, hP, V⟩ := I1.hp.ex
      obtain ⟨dx, o', ro, tW, hpi⟩ := I1.hp.ins
      refine ⟨p, dx, _, _, rfl, rfl, hpi, p, o, _, _, _, _, rfl, hP, V.vc.vx, .inl ⟨_, .base (.str _), R.kst, _, rfl, ?_⟩⟩
      refine ⟨_, rfl, _, rfl, p, dx, _, rfl, hpi, rfl, _, rfl, r, rv, rfl, .inl (SqL.of I1.hr), ?_⟩
      rw [hrvl]
      refine part_of (i := 0) (j := l.length) I1.hp hF (Nat.zero_le _) (Nat.le_refl _) fun p3 G2 s2 hM => ?_
      have I2 := I1.sm s2
      have el : (l.drop 0).take (l.length - 0) = l := by
        rw [List.drop_zero, Nat.sub_zero, List.take_length]
      rw [el] at hM
      obtain ⟨o3, gs3, ys3, hP3, V3⟩ := hM.ex
      obtain ⟨dx3, r3, tW3, hp3, hW3⟩ := hP3
      have V2 := V.same s2
      refine ⟨p, p3, dx, dx3, _, _, rfl, rfl, s2 _ _ hpi, hp3, p, o, _, _, _, _, rfl, hP.same s2, V2.vc.vx, .inr ⟨p3, o3, _, _, _, rfl, ⟨dx3, r3, tW3, hp3, hW3⟩, V3.vc.vx, _, rfl, ?_⟩⟩
      rw [decide_eq_true (V2.txt.one V3.txt), decide_eq_true rfl]
      refine ⟨(by show 2 ≤ sizeLine; decide), ?_⟩
      intro c2 n3
      generalize hG_ : upd G2 c2 _ = G3'
      have s3 : Same G2 G3' := (by rw [← hG_]; exact same_new (fun _ _ e => e) n3)
      have h3 := (congrFun hG_ c2).symm.trans upd_same
      clear hG_
      refine ⟨c, c2, _, _, rfl, rfl, (st s1 (st s2 s3)) _ _ hc, h3, (by show 4 ≤ sizeLine; decide), ?_⟩
      intro c4 n4
      generalize hG_ : upd G3' c4 _ = G4
      have s4 : Same G3' G4 := (by rw [← hG_]; exact same_new (fun _ _ e => e) n4)
      have h4 := (congrFun hG_ c4).symm.trans upd_same
      clear hG_
      have I4 := I2.sm (st s3 s4)
      have nI := I2.sm s3
      exact hN _ _ ⟨c4, rfl, I4, h4, (urn_ne nI.urn n4).symm, (ne_of_none nI.hr n4).symm, (ne_of_none nI.hr2 n4).symm, but_free nI.but nI.urn n4⟩
    clear I hc nc
    rintro _ G ⟨c, rfl, I, hc, ncu, ncr, ncr2, nc⟩
    -- the other program
    refine seq_mid (fun σ G => σ = sR u (some vt) (some (.ref a)) (some (.ref r)) (some (.ref r2)) (some (.ref p)) (some (.ref p2)) (some (.int lo)) (some (.int hi)) (some (.int k)) (some (.ref wi)) (some (.ref c)) ∧ (∃ rv', G c = some (.lst rv') ∧ rv' = [.bl true, .bl true, .bl true, .bl true, .bl true]) ∧ But u H G ∧ urnAt G u ∧ DAt G a gs ∧ G r = some (.lst rv) ∧ RowAt G rv l ∧ Mad C CP G p gs l) (fun N hN => ?_) ?_
    · refine ⟨_, rfl, .inl ⟨rfl, _, SqL.of hc⟩, ?_⟩
      obtain ⟨o, gs', ys, hP, V⟩ := I.hp.ex
      obtain ⟨dx, ro, tW, hpi, hWi⟩ := hP
      obtain ⟨o2, gs2, ys2, hP2, V2⟩ := I.hp2.ex
      obtain ⟨dx2, ro2, tW2, hpi2, hWi2⟩ := hP2
      refine ⟨_, rfl, _, rfl, p, p2, dx, dx2, _, _, rfl, rfl, hpi, hpi2, p, o, _, _, _, _, rfl, ⟨dx, ro, tW, hpi, hWi⟩, V.vc.vx, .inr ⟨p2, o2, _, _, _, rfl, ⟨dx2, ro2, tW2, hpi2, hWi2⟩, V2.vc.vx, _, rfl, ?_⟩⟩
      rw [decide_eq_true (V.txt.one V2.txt)]
      refine ⟨_, rfl, _, rfl, _, _, .lst (SqL.of I.hr) (row_dp I.hR.inn), .lst (SqL.of I.hr2) (row_dp I.hR2.inn), row_sh I.F.gd (Nat.le_trans I.F.dp (by decide)), row_sh I.F2.gd (Nat.le_trans I.F2.dp (by decide)), ?_⟩
      rw [ne_list]
      have eb : (true && decide (jt (rof l).toks = jt (rof l2).toks)) = decide (rof l = rof l2) := by
        rw [Bool.true_and]
        by_cases e : rof l = rof l2
        · rw [decide_eq_true e, decide_eq_true ((text_inj I.F.gd I.F2.gd).mpr e)]
        · rw [decide_eq_false e, decide_eq_false fun z => e ((text_inj I.F.gd I.F2.gd).mp z)]
      rw [eb]
      refine ⟨rfl, ?_⟩
      rw [decide_eq_true rfl]
      refine ⟨c, _, _, rfl, rfl, hc, (by show 4 < sizeLine; decide), ?_⟩
      refine hN _ _ ⟨rfl, ⟨_, upd_same, rfl⟩, fun b o e n => ?_, ?_, I.hA.put hc, ?_, ?_, ?_⟩
      · rw [upd_ne (ne_of_none e nc)]
        exact I.but b o e n
      · obtain ⟨x, y, z, e⟩ := I.urn
        exact ⟨x, y, z, by rw [upd_ne (Ne.symm ncu)]; exact e⟩
      · rw [upd_ne (Ne.symm ncr)]
        exact I.hr
      · exact row_put hc I.hR
      · exact mad_put hc I.hp
    have hgd0 := I.F
    clear I hc nc
    rintro _ G ⟨rfl, ⟨rv', hc, rfl⟩, b0, u0, hA, hrw, hR, hM⟩
    -- all five
    refine ⟨_, rfl, (by show 1 ≤ sizeLine; decide), ?_⟩
    intro q1 n1
    generalize hG_ : upd G q1 _ = G1
    have s1 : Same G G1 := (by rw [← hG_]; exact same_new (fun _ _ e => e) n1)
    have h1 := (congrFun hG_ q1).symm.trans upd_same
    clear hG_
    refine ⟨q1, 5, _, rfl, rfl, h1, by decide, by decide, (by show 1 * 5 ≤ sizeLine; decide), ?_⟩
    intro q2 n2
    generalize hG_ : upd G1 q2 _ = G2
    have s2 : Same G1 G2 := (by rw [← hG_]; exact same_new (fun _ _ e => e) n2)
    have h2 := (congrFun hG_ q2).symm.trans upd_same
    clear hG_
    have z2 := st s1 s2
    refine ⟨.list [.bool true, .bool true, .bool true, .bool true, .bool true], .list [.bool true, .bool true, .bool true, .bool true, .bool true], .lst (SqL.of (z2 _ _ hc)) (.cons (.bl _) (.cons (.bl _) (.cons (.bl _) (.cons (.bl _) (.cons (.bl _) .nil))))), .lst (SqL.of h2) (.cons (.bl _) (.cons (.bl _) (.cons (.bl _) (.cons (.bl _) (.cons (.bl _) .nil))))), by decide +kernel, by decide +kernel, _, rfl, ?_⟩
    rw [show (!PyData.eqv (.list [.bool true, .bool true, .bool true, .bool true, .bool true]) (.list [.bool true, .bool true, .bool true, .bool true, .bool true])) = false from by decide +kernel]
    refine iteF ?_
    refine ⟨_, rfl, _, rfl, _, rfl, p, a, r, gs, rv, l, gnames gs, rfl, hM.same z2, hA.same z2, allG_Z hs, z2 _ _ hrw, hR.same z2, hF3 hF, fun G' s' => ⟨_, rfl, iteF ?_⟩⟩
    exact ⟨_, _, _, _, _, _, _, _, _, _, _, rfl, b0.trans (Same.but (st z2 s')), urn_same (st z2 s') u0⟩
end
end SQ4
namespace SQ4
open PySem L2 SQ
theorem isStr_ne {x z : Str} {t : Tok} (h : z ≠ x) : (Value.str x t).isStr z = false := by
  rw [PySem.W.isStr_of]
  show (x == z) = false
  exact beq_eq_false_iff_ne.mpr (Ne.symm h)
theorem isStr_eq {x : Str} {t : Tok} : (Value.str x t).isStr x = true := by
  rw [PySem.W.isStr_of]
  show (x == x) = true
  exact beq_self_eq_true x
theorem look_of {K : PySem.W.Frag} {dD : Addr} {h0 h1 h2 h3 : Int} {t0 t1 t2 t3 s0 s1 s2 s3 : Tok} {nn : Nat}
    (lD : K.lookup dD = some ⟨.type "dict", none, .dict #[⟨h0, .str "0" t0, .int 0 s0⟩, ⟨h1, .str "1" t1, .int 1 s1⟩, ⟨h2, .str "2" t2, .int 2 s2⟩, ⟨h3, .str "3" t3, .int 3 s3⟩] nn, #[]⟩) :
    ∀ z : Str, ∃ r : Option Value, PySem.W.nsIn K dD z = some r ∧ (∀ i, digOf z = some i → ∃ t, r = some (.int i t)) ∧ (digOf z = none → r = none) := by
  intro z
  unfold PySem.W.nsIn
  rw [lD]
  dsimp only
  have e : ∀ {x : Str} {t : Tok}, z ≠ x → (Value.str x t).isStr z = false := fun h => isStr_ne h
  unfold digOf
  by_cases z0 : z = "0"
  · subst z0
    refine ⟨some (.int 0 s0), ?_, fun i h => ?_, fun h => ?_⟩
    · rw [List.find?_cons_of_pos (by simp only [isStr_eq])]
    · rw [if_pos rfl] at h
      cases h
      exact ⟨_, rfl⟩
    · rw [if_pos rfl] at h
      cases h
  by_cases z1 : z = "1"
  · subst z1
    refine ⟨some (.int 1 s1), ?_, fun i h => ?_, fun h => ?_⟩
    · rw [List.find?_cons_of_neg (by simp only [e z0]; decide), List.find?_cons_of_pos (by simp only [isStr_eq])]
    · rw [if_neg z0, if_pos rfl] at h
      cases h
      exact ⟨_, rfl⟩
    · rw [if_neg z0, if_pos rfl] at h
      cases h
  by_cases z2 : z = "2"
  · subst z2
    refine ⟨some (.int 2 s2), ?_, fun i h => ?_, fun h => ?_⟩
    · rw [List.find?_cons_of_neg (by simp only [e z0]; decide), List.find?_cons_of_neg (by simp only [e z1]; decide), List.find?_cons_of_pos (by simp only [isStr_eq])]
    · rw [if_neg z0, if_neg z1, if_pos rfl] at h
      cases h
      exact ⟨_, rfl⟩
    · rw [if_neg z0, if_neg z1, if_pos rfl] at h
      cases h
  by_cases z3 : z = "3"
  · subst z3
    refine ⟨some (.int 3 s3), ?_, fun i h => ?_, fun h => ?_⟩
    · rw [List.find?_cons_of_neg (by simp only [e z0]; decide), List.find?_cons_of_neg (by simp only [e z1]; decide), List.find?_cons_of_neg (by simp only [e z2]; decide), List.find?_cons_of_pos (by simp only [isStr_eq])]
    · rw [if_neg z0, if_neg z1, if_neg z2, if_pos rfl] at h
      cases h
      exact ⟨_, rfl⟩
    · rw [if_neg z0, if_neg z1, if_neg z2, if_pos rfl] at h
      cases h
  refine ⟨none, ?_, fun i h => ?_, fun _ => rfl⟩
  · rw [List.find?_cons_of_neg (by simp only [e z0]; decide), List.find?_cons_of_neg (by simp only [e z1]; decide), List.find?_cons_of_neg (by simp only [e z2]; decide), List.find?_cons_of_neg (by simp only [e z3]; decide)]
    rfl
  · rw [if_neg z0, if_neg z1, if_neg z2, if_neg z3] at h
    cases h
end SQ4
namespace SQ4
open PySem L2 SQ
/-- all that one look at the written part tells -/
def chkA (K : PySem.W.Frag) (CE CN CT CX CL CD CM C CP fI fN fT fX fL fD fIn fEq fA fPI fTh fPt fWo fQd fEP fLP fSP fRP dD smp fRd : Addr) : Bool :=
  errOk K CE "index" bmV "ValueError.__new__" && ((PySem.W.typeIn K (.ref fI) == some (.type "function")) && ((PySem.W.typeIn K (.ref CE) == some (.type "type")) && (errOk K CN "value" bmV "ValueError.__new__" && ((PySem.W.typeIn K (.ref fN) == some (.type "function")) && ((PySem.W.typeIn K (.ref CN) == some (.type "type")) && (errOk K CT "value" bmV "ValueError.__new__" && ((PySem.W.typeIn K (.ref fT) == some (.type "function")) && ((PySem.W.typeIn K (.ref CT) == some (.type "type")) && (errOk K CX "value" bmV "ValueError.__new__" && ((PySem.W.typeIn K (.ref fX) == some (.type "function")) && ((PySem.W.typeIn K (.ref CX) == some (.type "type")) && (errOk K CL "limit" bmA "ArithmeticError.__new__" && ((PySem.W.typeIn K (.ref fL) == some (.type "function")) && ((PySem.W.typeIn K (.ref CL) == some (.type "type")) && (errOk K CD "limit" bmA "ArithmeticError.__new__" && ((PySem.W.typeIn K (.ref fD) == some (.type "function")) && ((PySem.W.typeIn K (.ref CD) == some (.type "type")) && (PySem.W.excIn K CM bmT "TypeError.__new__" && (PySem.W.keepIn K (.ref CM) && ((PySem.W.subIn K (.ref CM) (.type "BaseException") == some true) && ((PySem.W.typeIn K (.ref CM) == some (.type "type")) && (isOk K CM && ((PySem.W.specialIn K (.builtin "object.__class__") "__get__" == some (some (.builtin "getset_descriptor.__get__"))) && ((PySem.W.takesIn K (.builtin "object.__class__") == some true) && ((PySem.W.exmOne K (.ref CE) (.ref CE) == some true) && (PySem.W.plainGet K C Str.empty && (PySem.W.hasDictIn K C && (PySem.W.plainOver K C && ((PySem.W.findIn K (.ref C) "__setattr__" == some (some (.builtin "object.__setattr__"))) && (PySem.W.makesIn K C && (PySem.W.keepIn K (.ref C) && ((PySem.W.findIn K (.ref C) "__class__" == some (some (.builtin "object.__class__"))) && ((PySem.W.mroIn K C (.type "object") == some true) && ((PySem.W.kitOne K (.ref C) (.ref C) == some true) && ((PySem.W.subIn K (.ref C) (.type "object") == some true) && ((PySem.W.findIn K (.ref C) "__ne__" == some (some (.builtin "object.__ne__"))) && (PySem.W.plainGet K CP Str.empty && (PySem.W.hasDictIn K CP && (PySem.W.plainOver K CP && ((PySem.W.findIn K (.ref CP) "__setattr__" == some (some (.builtin "object.__setattr__"))) && (PySem.W.makesIn K CP && (PySem.W.keepIn K (.ref CP) && ((PySem.W.findIn K (.ref CP) "__class__" == some (some (.builtin "object.__class__"))) && ((PySem.W.mroIn K CP (.type "object") == some true) && ((PySem.W.kitOne K (.ref CP) (.ref CP) == some true) && ((PySem.W.subIn K (.ref CP) (.type "object") == some true) && ((PySem.W.findIn K (.ref CP) "__ne__" == some (some (.builtin "object.__ne__"))) && ((PySem.W.findIn K (.ref C) "arities" == some none) && ((PySem.W.findIn K (.ref C) "names" == some none) && ((PySem.W.findIn K (.ref C) "text" == some none) && ((PySem.W.findIn K (.ref CP) "vocabulary" == some none) && ((PySem.W.findIn K (.ref CP) "text" == some none) && ((PySem.W.findIn K (.ref CP) "row" == some none) && ((PySem.W.findIn K (.ref CP) "words" == some none) && ((PySem.W.findIn K (.ref CP) "size" == some none) && (PySem.W.isFn K (.ref fIn) && (PySem.W.isFn K (.ref fEq) && (PySem.W.isFn K (.ref fA) && (PySem.W.isFn K (.ref fPI) && (PySem.W.isFn K (.ref fTh) && (PySem.W.isFn K (.ref fPt) && (PySem.W.isFn K (.ref fWo) && (PySem.W.isFn K (.ref fQd) && (PySem.W.isFn K (.ref fEP) && (PySem.W.isFn K (.ref fLP) && (PySem.W.isFn K (.ref fSP) && (PySem.W.isFn K (.ref fRP) && ((PySem.W.kitOne K (.type "str") (.ref CP) == some false) && ((PySem.W.subIn K (.type "str") (.ref CP) == some false) && ((PySem.W.findIn K (.ref CP) "__bool__" == some none) && (PySem.W.readsIn K C (.type "type") && ((PySem.W.specialIn K (.ref C) "__getattribute__" == some (some (.builtin "type.__getattribute__"))) && (!(dD == sysModules))))))))))))))))))))))))))))))))))))))))))))))))))))))))))))))))))))))))))
theorem all_mk {l : PySem.W.OpenLaw} {w : World} {K : PySem.W.Frag} {h : Heap} {mg : Str → Option Value} {fa CE CN CT CX CL CD CM C CP tC fI fN fT fX fL fD fIn fEq fA fPI fTh fPt fWo fQd fEP fLP fSP fRP dD smp fRd f_0 f_1 f_2 f_3 f_4 f_5 f_6 f_7 f_8 f_9 f_10 f_11 f_12 f_13 f_14 f_15 f_16 f_17 f_18 f_19 f_20 f_21 f_22 f_23 f_24 f_25 f_26 f_27 f_28 f_29 f_30 f_31 f_32 f_33 f_34 f_35 f_36 f_37 f_38 f_39 f_40 f_41 : Addr}
    {odC : Option Addr} {u1 u2 u3 u4 u5 : Tok} {nn : Nat} {slC : Array (Option Value)}
    {t0 t1 t2 t3 s0 s1 s2 s3 : Tok} {nd : Nat}
    {oce dce pme cde cte : Value} {ode ane : Option Addr} {sle : Array (Option Value)}
    {ocn dcn pmn cdn ctn : Value} {odn ann : Option Addr} {sln : Array (Option Value)}
    {oct dct pmt cdt ctt : Value} {odt ant : Option Addr} {slt : Array (Option Value)}
    {ocx dcx pmx cdx ctx : Value} {odx anx : Option Addr} {slx : Array (Option Value)}
    {ocl dcl pml cdl ctl : Value} {odl anl : Option Addr} {sll : Array (Option Value)}
    {ocd dcd pmd cdd ctd : Value} {odd and : Option Addr} {sld : Array (Option Value)}
    {oc_0 kV_0 dc_0 pm_0 cd_0 ct_0 : Value} {od_0 an_0 : Option Addr} {sl_0 : Array (Option Value)}
    {oc_1 kV_1 dc_1 pm_1 cd_1 ct_1 : Value} {od_1 an_1 : Option Addr} {sl_1 : Array (Option Value)}
    {oc_2 kV_2 dc_2 pm_2 cd_2 ct_2 : Value} {od_2 an_2 : Option Addr} {sl_2 : Array (Option Value)}
    {oc_3 kV_3 dc_3 pm_3 cd_3 ct_3 : Value} {od_3 an_3 : Option Addr} {sl_3 : Array (Option Value)}
    {oc_4 kV_4 dc_4 pm_4 cd_4 ct_4 : Value} {od_4 an_4 : Option Addr} {sl_4 : Array (Option Value)}
    {oc_5 kV_5 dc_5 pm_5 cd_5 ct_5 : Value} {od_5 an_5 : Option Addr} {sl_5 : Array (Option Value)}
    {oc_6 kV_6 dc_6 pm_6 cd_6 ct_6 : Value} {od_6 an_6 : Option Addr} {sl_6 : Array (Option Value)}
    {oc_7 kV_7 dc_7 pm_7 cd_7 ct_7 : Value} {od_7 an_7 : Option Addr} {sl_7 : Array (Option Value)}
    {oc_8 kV_8 dc_8 pm_8 cd_8 ct_8 : Value} {od_8 an_8 : Option Addr} {sl_8 : Array (Option Value)}
    {oc_9 kV_9 dc_9 pm_9 cd_9 ct_9 : Value} {od_9 an_9 : Option Addr} {sl_9 : Array (Option Value)}
    {oc_10 kV_10 dc_10 pm_10 cd_10 ct_10 : Value} {od_10 an_10 : Option Addr} {sl_10 : Array (Option Value)}
    {oc_11 kV_11 dc_11 pm_11 cd_11 ct_11 : Value} {od_11 an_11 : Option Addr} {sl_11 : Array (Option Value)}
    {oc_12 kV_12 dc_12 pm_12 cd_12 ct_12 : Value} {od_12 an_12 : Option Addr} {sl_12 : Array (Option Value)}
    {oc_13 kV_13 dc_13 pm_13 cd_13 ct_13 : Value} {od_13 an_13 : Option Addr} {sl_13 : Array (Option Value)}
    {oc_14 kV_14 dc_14 pm_14 cd_14 ct_14 : Value} {od_14 an_14 : Option Addr} {sl_14 : Array (Option Value)}
    {oc_15 kV_15 dc_15 pm_15 cd_15 ct_15 : Value} {od_15 an_15 : Option Addr} {sl_15 : Array (Option Value)}
    {oc_16 kV_16 dc_16 pm_16 cd_16 ct_16 : Value} {od_16 an_16 : Option Addr} {sl_16 : Array (Option Value)}
    {oc_17 kV_17 dc_17 pm_17 cd_17 ct_17 : Value} {od_17 an_17 : Option Addr} {sl_17 : Array (Option Value)}
    {oc_18 kV_18 dc_18 pm_18 cd_18 ct_18 : Value} {od_18 an_18 : Option Addr} {sl_18 : Array (Option Value)}
    {oc_19 kV_19 dc_19 pm_19 cd_19 ct_19 : Value} {od_19 an_19 : Option Addr} {sl_19 : Array (Option Value)}
    {oc_20 kV_20 dc_20 pm_20 cd_20 ct_20 : Value} {od_20 an_20 : Option Addr} {sl_20 : Array (Option Value)}
    {oc_21 kV_21 dc_21 pm_21 cd_21 ct_21 : Value} {od_21 an_21 : Option Addr} {sl_21 : Array (Option Value)}
    {oc_22 kV_22 dc_22 pm_22 cd_22 ct_22 : Value} {od_22 an_22 : Option Addr} {sl_22 : Array (Option Value)}
    {oc_23 kV_23 dc_23 pm_23 cd_23 ct_23 : Value} {od_23 an_23 : Option Addr} {sl_23 : Array (Option Value)}
    {oc_24 kV_24 dc_24 pm_24 cd_24 ct_24 : Value} {od_24 an_24 : Option Addr} {sl_24 : Array (Option Value)}
    {oc_25 kV_25 dc_25 pm_25 cd_25 ct_25 : Value} {od_25 an_25 : Option Addr} {sl_25 : Array (Option Value)}
    {oc_26 kV_26 dc_26 pm_26 cd_26 ct_26 : Value} {od_26 an_26 : Option Addr} {sl_26 : Array (Option Value)}
    {oc_27 kV_27 dc_27 pm_27 cd_27 ct_27 : Value} {od_27 an_27 : Option Addr} {sl_27 : Array (Option Value)}
    {oc_28 kV_28 dc_28 pm_28 cd_28 ct_28 : Value} {od_28 an_28 : Option Addr} {sl_28 : Array (Option Value)}
    {oc_29 kV_29 dc_29 pm_29 cd_29 ct_29 : Value} {od_29 an_29 : Option Addr} {sl_29 : Array (Option Value)}
    {oc_30 kV_30 dc_30 pm_30 cd_30 ct_30 : Value} {od_30 an_30 : Option Addr} {sl_30 : Array (Option Value)}
    {oc_31 kV_31 dc_31 pm_31 cd_31 ct_31 : Value} {od_31 an_31 : Option Addr} {sl_31 : Array (Option Value)}
    {oc_32 kV_32 dc_32 pm_32 cd_32 ct_32 : Value} {od_32 an_32 : Option Addr} {sl_32 : Array (Option Value)}
    {oc_33 kV_33 dc_33 pm_33 cd_33 ct_33 : Value} {od_33 an_33 : Option Addr} {sl_33 : Array (Option Value)}
    {oc_34 kV_34 dc_34 pm_34 cd_34 ct_34 : Value} {od_34 an_34 : Option Addr} {sl_34 : Array (Option Value)}
    {oc_35 kV_35 dc_35 pm_35 cd_35 ct_35 : Value} {od_35 an_35 : Option Addr} {sl_35 : Array (Option Value)}
    {oc_36 kV_36 dc_36 pm_36 cd_36 ct_36 : Value} {od_36 an_36 : Option Addr} {sl_36 : Array (Option Value)}
    {oc_37 kV_37 dc_37 pm_37 cd_37 ct_37 : Value} {od_37 an_37 : Option Addr} {sl_37 : Array (Option Value)}
    {oc_38 kV_38 dc_38 pm_38 cd_38 ct_38 : Value} {od_38 an_38 : Option Addr} {sl_38 : Array (Option Value)}
    {oc_39 kV_39 dc_39 pm_39 cd_39 ct_39 : Value} {od_39 an_39 : Option Addr} {sl_39 : Array (Option Value)}
    {oc_40 kV_40 dc_40 pm_40 cd_40 ct_40 : Value} {od_40 an_40 : Option Addr} {sl_40 : Array (Option Value)}
    {oc_41 kV_41 dc_41 pm_41 cd_41 ct_41 : Value} {od_41 an_41 : Option Addr} {sl_41 : Array (Option Value)}
    {ocI_ kVI_ dcI_ pmI_ cdI_ ctI_ : Value} {odI_ anI_ : Option Addr} {slI_ : Array (Option Value)}
    {ocQ_ kVQ_ dcQ_ pmQ_ cdQ_ ctQ_ : Value} {odQ_ anQ_ : Option Addr} {slQ_ : Array (Option Value)}
    {ocA_ kVA_ dcA_ pmA_ cdA_ ctA_ : Value} {odA_ anA_ : Option Addr} {slA_ : Array (Option Value)}
    {ocJ_ kVJ_ dcJ_ pmJ_ cdJ_ ctJ_ : Value} {odJ_ anJ_ : Option Addr} {slJ_ : Array (Option Value)}
    {ocT_ kVT_ dcT_ pmT_ cdT_ ctT_ : Value} {odT_ anT_ : Option Addr} {slT_ : Array (Option Value)}
    {ocU_ kVU_ dcU_ pmU_ cdU_ ctU_ : Value} {odU_ anU_ : Option Addr} {slU_ : Array (Option Value)}
    {ocW_ kVW_ dcW_ pmW_ cdW_ ctW_ : Value} {odW_ anW_ : Option Addr} {slW_ : Array (Option Value)}
    {ocD_ kVD_ dcD_ pmD_ cdD_ ctD_ : Value} {odD_ anD_ : Option Addr} {slD_ : Array (Option Value)}
    {ocE_ kVE_ dcE_ pmE_ cdE_ ctE_ : Value} {odE_ anE_ : Option Addr} {slE_ : Array (Option Value)}
    {ocL_ kVL_ dcL_ pmL_ cdL_ ctL_ : Value} {odL_ anL_ : Option Addr} {slL_ : Array (Option Value)}
    {ocS_ kVS_ dcS_ pmS_ cdS_ ctS_ : Value} {odS_ anS_ : Option Addr} {slS_ : Array (Option Value)}
    {ocR_ kVR_ dcR_ pmR_ cdR_ ctR_ : Value} {odR_ anR_ : Option Addr} {slR_ : Array (Option Value)}
    {rest : List Value}
    {ocRd kVRd dcRd pmRd cdRd ctRd : Value} {odRd anRd : Option Addr} {slRd : Array (Option Value)}
    {v0 v1 v2 v3 v4 v5 v6 v7 v8 v9 v10 v11 v12 v13 v14 : Tok}
    (X : K.In h) (G : h.Ns mainGlobals mg) (hfa : mg "law" = some (.ref fa))
    (nE : PySem.W.nsIn K mainGlobals "InvalidEntries" = some (some (.ref CE)))
    (nN : PySem.W.nsIn K mainGlobals "NotAProgram" = some (some (.ref CN)))
    (nT : PySem.W.nsIn K mainGlobals "InvalidText" = some (some (.ref CT)))
    (nX : PySem.W.nsIn K mainGlobals "InvalidPlace" = some (some (.ref CX)))
    (nL : PySem.W.nsIn K mainGlobals "TooLarge" = some (some (.ref CL)))
    (nD : PySem.W.nsIn K mainGlobals "TooDeep" = some (some (.ref CD)))
    (nM : PySem.W.nsIn K mainGlobals "Mismatch" = some (some (.ref CM)))
    (nV : PySem.W.nsIn K mainGlobals "Vocabulary" = some (some (.ref C)))
    (nP : PySem.W.nsIn K mainGlobals "Program" = some (some (.ref CP)))
    (nC : PySem.W.nsIn K mainGlobals "CORE_WORDS" = some (some (.ref tC)))
    (lC : K.lookup tC = some ⟨.type "tuple", odC, .seq #[.str "call" u1, .str "dip" u2, .str "curry" u3, .str "compose" u4, .str "choose" u5] nn, slC⟩)
    (nDg : PySem.W.nsIn K mainGlobals "DIGITS" = some (some (.ref dD)))
    (lDg : K.lookup dD = some ⟨.type "dict", none, .dict #[⟨PyData.keyHash w.params "0", .str "0" t0, .int 0 s0⟩, ⟨PyData.keyHash w.params "1", .str "1" t1, .int 1 s1⟩, ⟨PyData.keyHash w.params "2", .str "2" t2, .int 2 s2⟩, ⟨PyData.keyHash w.params "3", .str "3" t3, .int 3 s3⟩] nd, #[]⟩)
    (xe : PySem.W.findIn K (.ref CE) "__init__" = some (some (.ref fI)))
    (lke : K.lookup fI = some ⟨oce, ode, .func (PySem.W.fnOf "__init__" "InvalidEntries.__init__" (iArgs "index" ⟨26, 17, 26, 21⟩ ⟨26, 23, 26, 28⟩) (iBody "index" ⟨27, 8, 27, 12⟩ ⟨27, 8, 27, 18⟩ ⟨27, 21, 27, 26⟩ ⟨27, 8, 27, 26⟩) (iScope "index") .none .none dce pme ane cde cte), sle⟩)
    (ye : PySem.W.codeIn K cde "InvalidEntries.__init__" = true)
    (xn : PySem.W.findIn K (.ref CN) "__init__" = some (some (.ref fN)))
    (lkn : K.lookup fN = some ⟨ocn, odn, .func (PySem.W.fnOf "__init__" "NotAProgram.__init__" (iArgs "value" ⟨10, 17, 10, 21⟩ ⟨10, 23, 10, 28⟩) (iBody "value" ⟨11, 8, 11, 12⟩ ⟨11, 8, 11, 18⟩ ⟨11, 21, 11, 26⟩ ⟨11, 8, 11, 26⟩) (iScope "value") .none .none dcn pmn ann cdn ctn), sln⟩)
    (yn : PySem.W.codeIn K cdn "NotAProgram.__init__" = true)
    (xt : PySem.W.findIn K (.ref CT) "__init__" = some (some (.ref fT)))
    (lkt : K.lookup fT = some ⟨oct, odt, .func (PySem.W.fnOf "__init__" "InvalidText.__init__" (iArgs "value" ⟨14, 17, 14, 21⟩ ⟨14, 23, 14, 28⟩) (iBody "value" ⟨15, 8, 15, 12⟩ ⟨15, 8, 15, 18⟩ ⟨15, 21, 15, 26⟩ ⟨15, 8, 15, 26⟩) (iScope "value") .none .none dct pmt ant cdt ctt), slt⟩)
    (yt : PySem.W.codeIn K cdt "InvalidText.__init__" = true)
    (xx : PySem.W.findIn K (.ref CX) "__init__" = some (some (.ref fX)))
    (lkx : K.lookup fX = some ⟨ocx, odx, .func (PySem.W.fnOf "__init__" "InvalidPlace.__init__" (iArgs "value" ⟨18, 17, 18, 21⟩ ⟨18, 23, 18, 28⟩) (iBody "value" ⟨19, 8, 19, 12⟩ ⟨19, 8, 19, 18⟩ ⟨19, 21, 19, 26⟩ ⟨19, 8, 19, 26⟩) (iScope "value") .none .none dcx pmx anx cdx ctx), slx⟩)
    (yx : PySem.W.codeIn K cdx "InvalidPlace.__init__" = true)
    (xl : PySem.W.findIn K (.ref CL) "__init__" = some (some (.ref fL)))
    (lkl : K.lookup fL = some ⟨ocl, odl, .func (PySem.W.fnOf "__init__" "TooLarge.__init__" (iArgs "limit" ⟨36, 17, 36, 21⟩ ⟨36, 23, 36, 28⟩) (iBody "limit" ⟨37, 8, 37, 12⟩ ⟨37, 8, 37, 18⟩ ⟨37, 21, 37, 26⟩ ⟨37, 8, 37, 26⟩) (iScope "limit") .none .none dcl pml anl cdl ctl), sll⟩)
    (yl : PySem.W.codeIn K cdl "TooLarge.__init__" = true)
    (xd : PySem.W.findIn K (.ref CD) "__init__" = some (some (.ref fD)))
    (lkd : K.lookup fD = some ⟨ocd, odd, .func (PySem.W.fnOf "__init__" "TooDeep.__init__" (iArgs "limit" ⟨40, 17, 40, 21⟩ ⟨40, 23, 40, 28⟩) (iBody "limit" ⟨41, 8, 41, 12⟩ ⟨41, 8, 41, 18⟩ ⟨41, 21, 41, 26⟩ ⟨41, 8, 41, 26⟩) (iScope "limit") .none .none dcd pmd and cdd ctd), sld⟩)
    (yd : PySem.W.codeIn K cdd "TooDeep.__init__" = true)
    (a_0 : PySem.W.nsIn K mainGlobals "is_plain_integer" = some (some (.ref f_0)))
    (l_0 : K.lookup f_0 = some ⟨oc_0, od_0, .func (PySem.W.fnOf "is_plain_integer" "is_plain_integer" (defArgs sPI) (defBody sPI) (defScope sPI) .none kV_0 dc_0 pm_0 an_0 cd_0 ct_0), sl_0⟩)
    (c_0 : PySem.W.codeIn K cd_0 "is_plain_integer" = true)
    (k_0 : PySem.W.keepIn K (.ref f_0) = true)
    (a_1 : PySem.W.nsIn K mainGlobals "is_name" = some (some (.ref f_1)))
    (l_1 : K.lookup f_1 = some ⟨oc_1, od_1, .func (PySem.W.fnOf "is_name" "is_name" (defArgs sNm) (defBody sNm) (defScope sNm) .none kV_1 dc_1 pm_1 an_1 cd_1 ct_1), sl_1⟩)
    (c_1 : PySem.W.codeIn K cd_1 "is_name" = true)
    (k_1 : PySem.W.keepIn K (.ref f_1) = true)
    (a_2 : PySem.W.nsIn K mainGlobals "is_free_name" = some (some (.ref f_2)))
    (l_2 : K.lookup f_2 = some ⟨oc_2, od_2, .func (PySem.W.fnOf "is_free_name" "is_free_name" (defArgs sFN) (defBody sFN) (defScope sFN) .none kV_2 dc_2 pm_2 an_2 cd_2 ct_2), sl_2⟩)
    (c_2 : PySem.W.codeIn K cd_2 "is_free_name" = true)
    (k_2 : PySem.W.keepIn K (.ref f_2) = true)
    (a_3 : PySem.W.nsIn K mainGlobals "is_arity" = some (some (.ref f_3)))
    (l_3 : K.lookup f_3 = some ⟨oc_3, od_3, .func (PySem.W.fnOf "is_arity" "is_arity" (defArgs sAr) (defBody sAr) (defScope sAr) .none kV_3 dc_3 pm_3 an_3 cd_3 ct_3), sl_3⟩)
    (c_3 : PySem.W.codeIn K cd_3 "is_arity" = true)
    (k_3 : PySem.W.keepIn K (.ref f_3) = true)
    (a_4 : PySem.W.nsIn K mainGlobals "is_entry" = some (some (.ref f_4)))
    (l_4 : K.lookup f_4 = some ⟨oc_4, od_4, .func (PySem.W.fnOf "is_entry" "is_entry" (defArgs sEn) (defBody sEn) (defScope sEn) .none kV_4 dc_4 pm_4 an_4 cd_4 ct_4), sl_4⟩)
    (c_4 : PySem.W.codeIn K cd_4 "is_entry" = true)
    (k_4 : PySem.W.keepIn K (.ref f_4) = true)
    (a_5 : PySem.W.nsIn K mainGlobals "check_entries" = some (some (.ref f_5)))
    (l_5 : K.lookup f_5 = some ⟨oc_5, od_5, .func (PySem.W.fnOf "check_entries" "check_entries" (defArgs sChk) (defBody sChk) (defScope sChk) .none kV_5 dc_5 pm_5 an_5 cd_5 ct_5), sl_5⟩)
    (c_5 : PySem.W.codeIn K cd_5 "check_entries" = true)
    (k_5 : PySem.W.keepIn K (.ref f_5) = true)
    (a_6 : PySem.W.nsIn K mainGlobals "entry_text" = some (some (.ref f_6)))
    (l_6 : K.lookup f_6 = some ⟨oc_6, od_6, .func (PySem.W.fnOf "entry_text" "entry_text" (defArgs sTx) (defBody sTx) (defScope sTx) .none kV_6 dc_6 pm_6 an_6 cd_6 ct_6), sl_6⟩)
    (c_6 : PySem.W.codeIn K cd_6 "entry_text" = true)
    (k_6 : PySem.W.keepIn K (.ref f_6) = true)
    (a_7 : PySem.W.nsIn K mainGlobals "_law_urn" = some (some (.ref f_7)))
    (l_7 : K.lookup f_7 = some ⟨oc_7, od_7, .func (PySem.W.fnOf "_law_urn" "_law_urn" (defArgs sUrn) (defBody sUrn) (defScope sUrn) .none kV_7 dc_7 pm_7 an_7 cd_7 ct_7), sl_7⟩)
    (c_7 : PySem.W.codeIn K cd_7 "_law_urn" = true)
    (k_7 : PySem.W.keepIn K (.ref f_7) = true)
    (a_8 : PySem.W.nsIn K mainGlobals "_law_lot" = some (some (.ref f_8)))
    (l_8 : K.lookup f_8 = some ⟨oc_8, od_8, .func (PySem.W.fnOf "_law_lot" "_law_lot" (defArgs sLot) (defBody sLot) (defScope sLot) .none kV_8 dc_8 pm_8 an_8 cd_8 ct_8), sl_8⟩)
    (c_8 : PySem.W.codeIn K cd_8 "_law_lot" = true)
    (k_8 : PySem.W.keepIn K (.ref f_8) = true)
    (a_9 : PySem.W.nsIn K mainGlobals "_law_one" = some (some (.ref f_9)))
    (l_9 : K.lookup f_9 = some ⟨oc_9, od_9, .func (PySem.W.fnOf "_law_one" "_law_one" (defArgs sOne) (defBody sOne) (defScope sOne) .none kV_9 dc_9 pm_9 an_9 cd_9 ct_9), sl_9⟩)
    (c_9 : PySem.W.codeIn K cd_9 "_law_one" = true)
    (k_9 : PySem.W.keepIn K (.ref f_9) = true)
    (a_10 : PySem.W.nsIn K mainGlobals "split_shuffle" = some (some (.ref f_10)))
    (l_10 : K.lookup f_10 = some ⟨oc_10, od_10, .func (PySem.W.fnOf "split_shuffle" "split_shuffle" (defArgs sSh) (defBody sSh) (defScope sSh) .none kV_10 dc_10 pm_10 an_10 cd_10 ct_10), sl_10⟩)
    (c_10 : PySem.W.codeIn K cd_10 "split_shuffle" = true)
    (k_10 : PySem.W.keepIn K (.ref f_10) = true)
    (a_11 : PySem.W.nsIn K mainGlobals "_law_right" = some (some (.ref f_11)))
    (l_11 : K.lookup f_11 = some ⟨oc_11, od_11, .func (PySem.W.fnOf "_law_right" "_law_right" (defArgs sRight) (defBody sRight) (defScope sRight) .none kV_11 dc_11 pm_11 an_11 cd_11 ct_11), sl_11⟩)
    (c_11 : PySem.W.codeIn K cd_11 "_law_right" = true)
    (k_11 : PySem.W.keepIn K (.ref f_11) = true)
    (a_12 : PySem.W.nsIn K mainGlobals "law" = some (some (.ref f_12)))
    (l_12 : K.lookup f_12 = some ⟨oc_12, od_12, .func (PySem.W.fnOf "law" "law" (defArgs sLaw) (defBody sLaw) (defScope sLaw) .none kV_12 dc_12 pm_12 an_12 cd_12 ct_12), sl_12⟩)
    (c_12 : PySem.W.codeIn K cd_12 "law" = true)
    (k_12 : PySem.W.keepIn K (.ref f_12) = true)
    (a_13 : PySem.W.nsIn K mainGlobals "is_literal" = some (some (.ref f_13)))
    (l_13 : K.lookup f_13 = some ⟨oc_13, od_13, .func (PySem.W.fnOf "is_literal" "is_literal" (defArgs sLi) (defBody sLi) (defScope sLi) .none kV_13 dc_13 pm_13 an_13 cd_13 ct_13), sl_13⟩)
    (c_13 : PySem.W.codeIn K cd_13 "is_literal" = true)
    (k_13 : PySem.W.keepIn K (.ref f_13) = true)
    (a_14 : PySem.W.nsIn K mainGlobals "read_word" = some (some (.ref f_14)))
    (l_14 : K.lookup f_14 = some ⟨oc_14, od_14, .func (PySem.W.fnOf "read_word" "read_word" (defArgs sWd) (defBody sWd) (defScope sWd) .none kV_14 dc_14 pm_14 an_14 cd_14 ct_14), sl_14⟩)
    (c_14 : PySem.W.codeIn K cd_14 "read_word" = true)
    (k_14 : PySem.W.keepIn K (.ref f_14) = true)
    (a_15 : PySem.W.nsIn K mainGlobals "row_text" = some (some (.ref f_15)))
    (l_15 : K.lookup f_15 = some ⟨oc_15, od_15, .func (PySem.W.fnOf "row_text" "row_text" (defArgs sRw) (defBody sRw) (defScope sRw) .none kV_15 dc_15 pm_15 an_15 cd_15 ct_15), sl_15⟩)
    (c_15 : PySem.W.codeIn K cd_15 "row_text" = true)
    (k_15 : PySem.W.keepIn K (.ref f_15) = true)
    (a_16 : PySem.W.nsIn K mainGlobals "quotation_text" = some (some (.ref f_16)))
    (l_16 : K.lookup f_16 = some ⟨oc_16, od_16, .func (PySem.W.fnOf "quotation_text" "quotation_text" (defArgs sQx) (defBody sQx) (defScope sQx) .none kV_16 dc_16 pm_16 an_16 cd_16 ct_16), sl_16⟩)
    (c_16 : PySem.W.codeIn K cd_16 "quotation_text" = true)
    (k_16 : PySem.W.keepIn K (.ref f_16) = true)
    (a_17 : PySem.W.nsIn K mainGlobals "quote" = some (some (.ref f_17)))
    (l_17 : K.lookup f_17 = some ⟨oc_17, od_17, .func (PySem.W.fnOf "quote" "quote" (defArgs sQu) (defBody sQu) (defScope sQu) .none kV_17 dc_17 pm_17 an_17 cd_17 ct_17), sl_17⟩)
    (c_17 : PySem.W.codeIn K cd_17 "quote" = true)
    (k_17 : PySem.W.keepIn K (.ref f_17) = true)
    (a_18 : PySem.W.nsIn K mainGlobals "split_tokens" = some (some (.ref f_18)))
    (l_18 : K.lookup f_18 = some ⟨oc_18, od_18, .func (PySem.W.fnOf "split_tokens" "split_tokens" (defArgs sSp) (defBody sSp) (defScope sSp) .none kV_18 dc_18 pm_18 an_18 cd_18 ct_18), sl_18⟩)
    (c_18 : PySem.W.codeIn K cd_18 "split_tokens" = true)
    (k_18 : PySem.W.keepIn K (.ref f_18) = true)
    (a_19 : PySem.W.nsIn K mainGlobals "read_row" = some (some (.ref f_19)))
    (l_19 : K.lookup f_19 = some ⟨oc_19, od_19, .func (PySem.W.fnOf "read_row" "read_row" (defArgs sRR) (defBody sRR) (defScope sRR) .none kV_19 dc_19 pm_19 an_19 cd_19 ct_19), sl_19⟩)
    (c_19 : PySem.W.codeIn K cd_19 "read_row" = true)
    (k_19 : PySem.W.keepIn K (.ref f_19) = true)
    (a_20 : PySem.W.nsIn K mainGlobals "measure_size" = some (some (.ref f_20)))
    (l_20 : K.lookup f_20 = some ⟨oc_20, od_20, .func (PySem.W.fnOf "measure_size" "measure_size" (defArgs sMs) (defBody sMs) (defScope sMs) .none kV_20 dc_20 pm_20 an_20 cd_20 ct_20), sl_20⟩)
    (c_20 : PySem.W.codeIn K cd_20 "measure_size" = true)
    (k_20 : PySem.W.keepIn K (.ref f_20) = true)
    (a_21 : PySem.W.nsIn K mainGlobals "measure_depth" = some (some (.ref f_21)))
    (l_21 : K.lookup f_21 = some ⟨oc_21, od_21, .func (PySem.W.fnOf "measure_depth" "measure_depth" (defArgs sMd) (defBody sMd) (defScope sMd) .none kV_21 dc_21 pm_21 an_21 cd_21 ct_21), sl_21⟩)
    (c_21 : PySem.W.codeIn K cd_21 "measure_depth" = true)
    (k_21 : PySem.W.keepIn K (.ref f_21) = true)
    (a_22 : PySem.W.nsIn K mainGlobals "check_vocabulary" = some (some (.ref f_22)))
    (l_22 : K.lookup f_22 = some ⟨oc_22, od_22, .func (PySem.W.fnOf "check_vocabulary" "check_vocabulary" (defArgs sCv) (defBody sCv) (defScope sCv) .none kV_22 dc_22 pm_22 an_22 cd_22 ct_22), sl_22⟩)
    (c_22 : PySem.W.codeIn K cd_22 "check_vocabulary" = true)
    (k_22 : PySem.W.keepIn K (.ref f_22) = true)
    (a_23 : PySem.W.nsIn K mainGlobals "check_program" = some (some (.ref f_23)))
    (l_23 : K.lookup f_23 = some ⟨oc_23, od_23, .func (PySem.W.fnOf "check_program" "check_program" (defArgs sCp) (defBody sCp) (defScope sCp) .none kV_23 dc_23 pm_23 an_23 cd_23 ct_23), sl_23⟩)
    (c_23 : PySem.W.codeIn K cd_23 "check_program" = true)
    (k_23 : PySem.W.keepIn K (.ref f_23) = true)
    (a_24 : PySem.W.nsIn K mainGlobals "check_both_programs" = some (some (.ref f_24)))
    (l_24 : K.lookup f_24 = some ⟨oc_24, od_24, .func (PySem.W.fnOf "check_both_programs" "check_both_programs" (defArgs sCb) (defBody sCb) (defScope sCb) .none kV_24 dc_24 pm_24 an_24 cd_24 ct_24), sl_24⟩)
    (c_24 : PySem.W.codeIn K cd_24 "check_both_programs" = true)
    (k_24 : PySem.W.keepIn K (.ref f_24) = true)
    (a_25 : PySem.W.nsIn K mainGlobals "check_place" = some (some (.ref f_25)))
    (l_25 : K.lookup f_25 = some ⟨oc_25, od_25, .func (PySem.W.fnOf "check_place" "check_place" (defArgs sCc) (defBody sCc) (defScope sCc) .none kV_25 dc_25 pm_25 an_25 cd_25 ct_25), sl_25⟩)
    (c_25 : PySem.W.codeIn K cd_25 "check_place" = true)
    (k_25 : PySem.W.keepIn K (.ref f_25) = true)
    (a_26 : PySem.W.nsIn K mainGlobals "check_limits" = some (some (.ref f_26)))
    (l_26 : K.lookup f_26 = some ⟨oc_26, od_26, .func (PySem.W.fnOf "check_limits" "check_limits" (defArgs sCl) (defBody sCl) (defScope sCl) .none kV_26 dc_26 pm_26 an_26 cd_26 ct_26), sl_26⟩)
    (c_26 : PySem.W.codeIn K cd_26 "check_limits" = true)
    (k_26 : PySem.W.keepIn K (.ref f_26) = true)
    (a_27 : PySem.W.nsIn K mainGlobals "split_entry" = some (some (.ref f_27)))
    (l_27 : K.lookup f_27 = some ⟨oc_27, od_27, .func (PySem.W.fnOf "split_entry" "split_entry" (defArgs sSE) (defBody sSE) (defScope sSE) .none kV_27 dc_27 pm_27 an_27 cd_27 ct_27), sl_27⟩)
    (c_27 : PySem.W.codeIn K cd_27 "split_entry" = true)
    (k_27 : PySem.W.keepIn K (.ref f_27) = true)
    (a_28 : PySem.W.nsIn K mainGlobals "split_entries" = some (some (.ref f_28)))
    (l_28 : K.lookup f_28 = some ⟨oc_28, od_28, .func (PySem.W.fnOf "split_entries" "split_entries" (defArgs sSS) (defBody sSS) (defScope sSS) .none kV_28 dc_28 pm_28 an_28 cd_28 ct_28), sl_28⟩)
    (c_28 : PySem.W.codeIn K cd_28 "split_entries" = true)
    (k_28 : PySem.W.keepIn K (.ref f_28) = true)
    (a_29 : PySem.W.nsIn K mainGlobals "_law_line" = some (some (.ref f_29)))
    (l_29 : K.lookup f_29 = some ⟨oc_29, od_29, .func (PySem.W.fnOf "_law_line" "_law_line" (defArgs sLine) (defBody sLine) (defScope sLine) .none kV_29 dc_29 pm_29 an_29 cd_29 ct_29), sl_29⟩)
    (c_29 : PySem.W.codeIn K cd_29 "_law_line" = true)
    (k_29 : PySem.W.keepIn K (.ref f_29) = true)
    (a_30 : PySem.W.nsIn K mainGlobals "_law_boxed" = some (some (.ref f_30)))
    (l_30 : K.lookup f_30 = some ⟨oc_30, od_30, .func (PySem.W.fnOf "_law_boxed" "_law_boxed" (defArgs sBoxd) (defBody sBoxd) (defScope sBoxd) .none kV_30 dc_30 pm_30 an_30 cd_30 ct_30), sl_30⟩)
    (c_30 : PySem.W.codeIn K cd_30 "_law_boxed" = true)
    (k_30 : PySem.W.keepIn K (.ref f_30) = true)
    (a_31 : PySem.W.nsIn K mainGlobals "_law_arities" = some (some (.ref f_31)))
    (l_31 : K.lookup f_31 = some ⟨oc_31, od_31, .func (PySem.W.fnOf "_law_arities" "_law_arities" (defArgs sAr4) (defBody sAr4) (defScope sAr4) .none kV_31 dc_31 pm_31 an_31 cd_31 ct_31), sl_31⟩)
    (c_31 : PySem.W.codeIn K cd_31 "_law_arities" = true)
    (k_31 : PySem.W.keepIn K (.ref f_31) = true)
    (a_32 : PySem.W.nsIn K mainGlobals "_law_plains" = some (some (.ref f_32)))
    (l_32 : K.lookup f_32 = some ⟨oc_32, od_32, .func (PySem.W.fnOf "_law_plains" "_law_plains" (defArgs sPla) (defBody sPla) (defScope sPla) .none kV_32 dc_32 pm_32 an_32 cd_32 ct_32), sl_32⟩)
    (c_32 : PySem.W.codeIn K cd_32 "_law_plains" = true)
    (k_32 : PySem.W.keepIn K (.ref f_32) = true)
    (a_33 : PySem.W.nsIn K mainGlobals "_law_choices" = some (some (.ref f_33)))
    (l_33 : K.lookup f_33 = some ⟨oc_33, od_33, .func (PySem.W.fnOf "_law_choices" "_law_choices" (defArgs sCh) (defBody sCh) (defScope sCh) .none kV_33 dc_33 pm_33 an_33 cd_33 ct_33), sl_33⟩)
    (c_33 : PySem.W.codeIn K cd_33 "_law_choices" = true)
    (k_33 : PySem.W.keepIn K (.ref f_33) = true)
    (a_34 : PySem.W.nsIn K mainGlobals "_law_mixed" = some (some (.ref f_34)))
    (l_34 : K.lookup f_34 = some ⟨oc_34, od_34, .func (PySem.W.fnOf "_law_mixed" "_law_mixed" (defArgs sMx) (defBody sMx) (defScope sMx) .none kV_34 dc_34 pm_34 an_34 cd_34 ct_34), sl_34⟩)
    (c_34 : PySem.W.codeIn K cd_34 "_law_mixed" = true)
    (k_34 : PySem.W.keepIn K (.ref f_34) = true)
    (a_35 : PySem.W.nsIn K mainGlobals "_law_behind" = some (some (.ref f_35)))
    (l_35 : K.lookup f_35 = some ⟨oc_35, od_35, .func (PySem.W.fnOf "_law_behind" "_law_behind" (defArgs sBh) (defBody sBh) (defScope sBh) .none kV_35 dc_35 pm_35 an_35 cd_35 ct_35), sl_35⟩)
    (c_35 : PySem.W.codeIn K cd_35 "_law_behind" = true)
    (k_35 : PySem.W.keepIn K (.ref f_35) = true)
    (a_36 : PySem.W.nsIn K mainGlobals "_law_step" = some (some (.ref f_36)))
    (l_36 : K.lookup f_36 = some ⟨oc_36, od_36, .func (PySem.W.fnOf "_law_step" "_law_step" (defArgs sStp) (defBody sStp) (defScope sStp) .none kV_36 dc_36 pm_36 an_36 cd_36 ct_36), sl_36⟩)
    (c_36 : PySem.W.codeIn K cd_36 "_law_step" = true)
    (k_36 : PySem.W.keepIn K (.ref f_36) = true)
    (a_37 : PySem.W.nsIn K mainGlobals "_law_built" = some (some (.ref f_37)))
    (l_37 : K.lookup f_37 = some ⟨oc_37, od_37, .func (PySem.W.fnOf "_law_built" "_law_built" (defArgs sBlt) (defBody sBlt) (defScope sBlt) .none kV_37 dc_37 pm_37 an_37 cd_37 ct_37), sl_37⟩)
    (c_37 : PySem.W.codeIn K cd_37 "_law_built" = true)
    (k_37 : PySem.W.keepIn K (.ref f_37) = true)
    (a_38 : PySem.W.nsIn K mainGlobals "_law_vocabulary" = some (some (.ref f_38)))
    (l_38 : K.lookup f_38 = some ⟨oc_38, od_38, .func (PySem.W.fnOf "_law_vocabulary" "_law_vocabulary" (defArgs sVo) (defBody sVo) (defScope sVo) .none kV_38 dc_38 pm_38 an_38 cd_38 ct_38), sl_38⟩)
    (c_38 : PySem.W.codeIn K cd_38 "_law_vocabulary" = true)
    (k_38 : PySem.W.keepIn K (.ref f_38) = true)
    (a_39 : PySem.W.nsIn K mainGlobals "_law_program" = some (some (.ref f_39)))
    (l_39 : K.lookup f_39 = some ⟨oc_39, od_39, .func (PySem.W.fnOf "_law_program" "_law_program" (defArgs sPr4) (defBody sPr4) (defScope sPr4) .none kV_39 dc_39 pm_39 an_39 cd_39 ct_39), sl_39⟩)
    (c_39 : PySem.W.codeIn K cd_39 "_law_program" = true)
    (k_39 : PySem.W.keepIn K (.ref f_39) = true)
    (a_40 : PySem.W.nsIn K mainGlobals "_law_size" = some (some (.ref f_40)))
    (l_40 : K.lookup f_40 = some ⟨oc_40, od_40, .func (PySem.W.fnOf "_law_size" "_law_size" (defArgs sSize) (defBody sSize) (defScope sSize) .none kV_40 dc_40 pm_40 an_40 cd_40 ct_40), sl_40⟩)
    (c_40 : PySem.W.codeIn K cd_40 "_law_size" = true)
    (k_40 : PySem.W.keepIn K (.ref f_40) = true)
    (a_41 : PySem.W.nsIn K mainGlobals "_law_shown" = some (some (.ref f_41)))
    (l_41 : K.lookup f_41 = some ⟨oc_41, od_41, .func (PySem.W.fnOf "_law_shown" "_law_shown" (defArgs sShw) (defBody sShw) (defScope sShw) .none kV_41 dc_41 pm_41 an_41 cd_41 ct_41), sl_41⟩)
    (c_41 : PySem.W.codeIn K cd_41 "_law_shown" = true)
    (k_41 : PySem.W.keepIn K (.ref f_41) = true)
    (mI : PySem.W.findIn K (.ref C) "__init__" = some (some (.ref fIn)))
    (lI_ : K.lookup fIn = some ⟨ocI_, odI_, .func (PySem.W.fnOf "__init__" "Vocabulary.__init__" (defArgs sIni) (defBody sIni) (defScope sIni) .none kVI_ dcI_ pmI_ anI_ cdI_ ctI_), slI_⟩)
    (cI_ : PySem.W.codeIn K cdI_ "Vocabulary.__init__" = true)
    (kI_ : PySem.W.keepIn K (.ref fIn) = true)
    (mQ : PySem.W.findIn K (.ref C) "__eq__" = some (some (.ref fEq)))
    (lQ_ : K.lookup fEq = some ⟨ocQ_, odQ_, .func (PySem.W.fnOf "__eq__" "Vocabulary.__eq__" (defArgs sEqV) (defBody sEqV) (defScope sEqV) .none kVQ_ dcQ_ pmQ_ anQ_ cdQ_ ctQ_), slQ_⟩)
    (cQ_ : PySem.W.codeIn K cdQ_ "Vocabulary.__eq__" = true)
    (kQ_ : PySem.W.keepIn K (.ref fEq) = true)
    (mA : PySem.W.findIn K (.ref C) "arity" = some (some (.ref fA)))
    (lA_ : K.lookup fA = some ⟨ocA_, odA_, .func (PySem.W.fnOf "arity" "Vocabulary.arity" (defArgs sAri) (defBody sAri) (defScope sAri) .none kVA_ dcA_ pmA_ anA_ cdA_ ctA_), slA_⟩)
    (cA_ : PySem.W.codeIn K cdA_ "Vocabulary.arity" = true)
    (kA_ : PySem.W.keepIn K (.ref fA) = true)
    (mJ : PySem.W.findIn K (.ref CP) "__init__" = some (some (.ref fPI)))
    (lJ_ : K.lookup fPI = some ⟨ocJ_, odJ_, .func (PySem.W.fnOf "__init__" "Program.__init__" (defArgs sPI_) (defBody sPI_) (defScope sPI_) .none kVJ_ dcJ_ pmJ_ anJ_ cdJ_ ctJ_), slJ_⟩)
    (cJ_ : PySem.W.codeIn K cdJ_ "Program.__init__" = true)
    (kJ_ : PySem.W.keepIn K (.ref fPI) = true)
    (mT : PySem.W.findIn K (.ref CP) "then" = some (some (.ref fTh)))
    (lT_ : K.lookup fTh = some ⟨ocT_, odT_, .func (PySem.W.fnOf "then" "Program.then" (defArgs sTh) (defBody sTh) (defScope sTh) .none kVT_ dcT_ pmT_ anT_ cdT_ ctT_), slT_⟩)
    (cT_ : PySem.W.codeIn K cdT_ "Program.then" = true)
    (kT_ : PySem.W.keepIn K (.ref fTh) = true)
    (mU : PySem.W.findIn K (.ref CP) "part" = some (some (.ref fPt)))
    (lU_ : K.lookup fPt = some ⟨ocU_, odU_, .func (PySem.W.fnOf "part" "Program.part" (defArgs sPt) (defBody sPt) (defScope sPt) .none kVU_ dcU_ pmU_ anU_ cdU_ ctU_), slU_⟩)
    (cU_ : PySem.W.codeIn K cdU_ "Program.part" = true)
    (kU_ : PySem.W.keepIn K (.ref fPt) = true)
    (mW : PySem.W.findIn K (.ref CP) "without" = some (some (.ref fWo)))
    (lW_ : K.lookup fWo = some ⟨ocW_, odW_, .func (PySem.W.fnOf "without" "Program.without" (defArgs sWo) (defBody sWo) (defScope sWo) .none kVW_ dcW_ pmW_ anW_ cdW_ ctW_), slW_⟩)
    (cW_ : PySem.W.codeIn K cdW_ "Program.without" = true)
    (kW_ : PySem.W.keepIn K (.ref fWo) = true)
    (mD : PySem.W.findIn K (.ref CP) "quoted" = some (some (.ref fQd)))
    (lD_ : K.lookup fQd = some ⟨ocD_, odD_, .func (PySem.W.fnOf "quoted" "Program.quoted" (defArgs sQd) (defBody sQd) (defScope sQd) .none kVD_ dcD_ pmD_ anD_ cdD_ ctD_), slD_⟩)
    (cD_ : PySem.W.codeIn K cdD_ "Program.quoted" = true)
    (kD_ : PySem.W.keepIn K (.ref fQd) = true)
    (mE : PySem.W.findIn K (.ref CP) "__eq__" = some (some (.ref fEP)))
    (lE_ : K.lookup fEP = some ⟨ocE_, odE_, .func (PySem.W.fnOf "__eq__" "Program.__eq__" (defArgs sEqP) (defBody sEqP) (defScope sEqP) .none kVE_ dcE_ pmE_ anE_ cdE_ ctE_), slE_⟩)
    (cE_ : PySem.W.codeIn K cdE_ "Program.__eq__" = true)
    (kE_ : PySem.W.keepIn K (.ref fEP) = true)
    (mL : PySem.W.findIn K (.ref CP) "__len__" = some (some (.ref fLP)))
    (lL_ : K.lookup fLP = some ⟨ocL_, odL_, .func (PySem.W.fnOf "__len__" "Program.__len__" (defArgs sLnP) (defBody sLnP) (defScope sLnP) .none kVL_ dcL_ pmL_ anL_ cdL_ ctL_), slL_⟩)
    (cL_ : PySem.W.codeIn K cdL_ "Program.__len__" = true)
    (kL_ : PySem.W.keepIn K (.ref fLP) = true)
    (mS : PySem.W.findIn K (.ref CP) "__str__" = some (some (.ref fSP)))
    (lS_ : K.lookup fSP = some ⟨ocS_, odS_, .func (PySem.W.fnOf "__str__" "Program.__str__" (defArgs sStP) (defBody sStP) (defScope sStP) .none kVS_ dcS_ pmS_ anS_ cdS_ ctS_), slS_⟩)
    (cS_ : PySem.W.codeIn K cdS_ "Program.__str__" = true)
    (kS_ : PySem.W.keepIn K (.ref fSP) = true)
    (mR : PySem.W.findIn K (.ref CP) "__repr__" = some (some (.ref fRP)))
    (lR_ : K.lookup fRP = some ⟨ocR_, odR_, .func (PySem.W.fnOf "__repr__" "Program.__repr__" (defArgs sRpP) (defBody sRpP) (defScope sRpP) .none kVR_ dcR_ pmR_ anR_ cdR_ ctR_), slR_⟩)
    (cR_ : PySem.W.codeIn K cdR_ "Program.__repr__" = true)
    (kR_ : PySem.W.keepIn K (.ref fRP) = true)
    (mRd : PySem.W.findCls K (.ref C) (.type "type") "read" = some (.get (.builtin "staticmethod.__get__") (.ref smp) .none (.ref C)))
    (rRd : PySem.W.recIn K smp "staticmethod" = some (.ref fRd :: rest))
    (lRd : K.lookup fRd = some ⟨ocRd, odRd, .func (PySem.W.fnOf "read" "Vocabulary.read" (defArgs sRd) (defBody sRd) (defScope sRd) .none kVRd dcRd pmRd anRd cdRd ctRd), slRd⟩)
    (cRd_ : PySem.W.codeIn K cdRd "Vocabulary.read" = true)
    (kRd_ : PySem.W.keepIn K (.ref fRd) = true)
    (z_int : PySem.W.nsIn K mainGlobals "int" = some none)
    (z_len : PySem.W.nsIn K mainGlobals "len" = some none)
    (z_abs : PySem.W.nsIn K mainGlobals "abs" = some none)
    (z_divmod : PySem.W.nsIn K mainGlobals "divmod" = some none)
    (z_max : PySem.W.nsIn K mainGlobals "max" = some none)
    (z_min : PySem.W.nsIn K mainGlobals "min" = some none)
    (z_range : PySem.W.nsIn K mainGlobals "range" = some none)
    (z_all : PySem.W.nsIn K mainGlobals "all" = some none)
    (z_isinstance : PySem.W.nsIn K mainGlobals "isinstance" = some none)
    (z_bool : PySem.W.nsIn K mainGlobals "bool" = some none)
    (z_str : PySem.W.nsIn K mainGlobals "str" = some none)
    (z_tuple : PySem.W.nsIn K mainGlobals "tuple" = some none)
    (z_set : PySem.W.nsIn K mainGlobals "set" = some none)
    (z_enumerate : PySem.W.nsIn K mainGlobals "enumerate" = some none)
    (z_sorted : PySem.W.nsIn K mainGlobals "sorted" = some none)
    (z_repr : PySem.W.nsIn K mainGlobals "repr" = some none)
    (z_sum : PySem.W.nsIn K mainGlobals "sum" = some none)
    (z_list : PySem.W.nsIn K mainGlobals "list" = some none)
    (z_dict : PySem.W.nsIn K mainGlobals "dict" = some none)
    (w_0 : PySem.W.nsIn K mainGlobals "LETTERS" = some (some (.str "abcdefghijklmnopqrstuvwxyz" v0)))
    (w_1 : PySem.W.nsIn K mainGlobals "LONGEST_NAME" = some (some (.int 8 v1)))
    (w_2 : PySem.W.nsIn K mainGlobals "MOST_ARITY" = some (some (.int 3 v2)))
    (w_3 : PySem.W.nsIn K mainGlobals "MOST_ENTRIES" = some (some (.int 8 v3)))
    (w_4 : PySem.W.nsIn K mainGlobals "QUOTATION" = some (some (.str "quotation" v4)))
    (w_5 : PySem.W.nsIn K mainGlobals "UNKNOWN" = some (some (.str "unknown" v5)))
    (w_6 : PySem.W.nsIn K mainGlobals "LITERAL" = some (some (.str "literal" v6)))
    (w_7 : PySem.W.nsIn K mainGlobals "FIGURES" = some (some (.str "0123456789" v7)))
    (w_8 : PySem.W.nsIn K mainGlobals "MOST_FIGURES" = some (some (.int 18 v8)))
    (w_9 : PySem.W.nsIn K mainGlobals "MOST_SIZE" = some (some (.int 60 v9)))
    (w_10 : PySem.W.nsIn K mainGlobals "MOST_NESTED" = some (some (.int 6 v10)))
    (w_11 : PySem.W.nsIn K mainGlobals "MOST_TAKEN" = some (some (.int 5 v11)))
    (w_12 : PySem.W.nsIn K mainGlobals "MOST_LEFT" = some (some (.int 8 v12)))
    (w_13 : PySem.W.nsIn K mainGlobals "CORE" = some (some (.str "core" v13)))
    (w_14 : PySem.W.nsIn K mainGlobals "SHUFFLE" = some (some (.str "shuffle" v14)))
    (hA : chkA K CE CN CT CX CL CD CM C CP fI fN fT fX fL fD fIn fEq fA fPI fTh fPt fWo fQd fEP fLP fSP fRP dD smp fRd = true) :
    AtG l w K 11 63 "_law_script" mg fa h := by
  have e := hfa.symm.trans (PySem.W.mg_of X G a_12)
  cases e
  unfold chkA at hA
  simp only [Bool.and_eq_true, beq_iff_eq, Bool.not_eq_true'] at hA
  obtain ⟨eoe, ete, ece, eon, etn, ecn, eot, ett, ect, eox, etx, ecx, eol, etl, ecl, eod, etd, ecd, qM, kpM, sbM, tyM, isM, gD, tK, xmE, pGv, hDv, pOv, sAv, mkv, kpv, fCv, mOv, ksv, sOv, nEv, pGp, hDp, pOp, sAp, mkp, kpp, fCp, mOp, ksp, sOp, nEp, av_arities, av_names, av_text, ap_vocabulary, ap_text, ap_row, ap_words, ap_size, fnI, fnQ, fnA, fnJ, fnT, fnU, fnW, fnD, fnE, fnL, fnS, fnR, kst, sst, fBo, rdI, gA, nSy⟩ := hA
  have BL : Blt mg := ⟨(PySem.W.mg_none_of X G z_int), (PySem.W.mg_none_of X G z_len), (PySem.W.mg_none_of X G z_abs), (PySem.W.mg_none_of X G z_divmod), (PySem.W.mg_none_of X G z_max), (PySem.W.mg_none_of X G z_min), (PySem.W.mg_none_of X G z_range), (PySem.W.mg_none_of X G z_all)⟩
  have B : B2 mg := ⟨(PySem.W.mg_none_of X G z_isinstance), (PySem.W.mg_none_of X G z_int), (PySem.W.mg_none_of X G z_bool), (PySem.W.mg_none_of X G z_str), (PySem.W.mg_none_of X G z_tuple), (PySem.W.mg_none_of X G z_len), (PySem.W.mg_none_of X G z_all), ⟨_, (PySem.W.mg_of X G w_0)⟩, ⟨_, (PySem.W.mg_of X G w_1)⟩, ⟨_, (PySem.W.mg_of X G w_2)⟩⟩
  have BB : B3 mg := ⟨(PySem.W.mg_none_of X G z_set), (PySem.W.mg_none_of X G z_enumerate), ⟨_, (PySem.W.mg_of X G w_3)⟩⟩
  have B4' : B4 mg := ⟨(PySem.W.mg_none_of X G z_sorted)⟩
  have W : W6 mg := ⟨⟨_, (PySem.W.mg_of X G w_4)⟩, ⟨_, (PySem.W.mg_of X G w_5)⟩, ⟨_, (PySem.W.mg_of X G w_6)⟩, ⟨_, (PySem.W.mg_of X G w_7)⟩, ⟨_, (PySem.W.mg_of X G w_8)⟩, ⟨_, (PySem.W.mg_of X G w_9)⟩, ⟨_, (PySem.W.mg_of X G w_10)⟩⟩
  have WS : WSh mg := ⟨(PySem.W.mg_none_of X G z_set), ⟨_, (PySem.W.mg_of X G w_11)⟩, ⟨_, (PySem.W.mg_of X G w_12)⟩⟩
  have WR : WRd mg := ⟨⟨_, (PySem.W.mg_of X G w_13)⟩, ⟨_, (PySem.W.mg_of X G w_14)⟩⟩
  have CW : Core K mg tC := ⟨PySem.W.mg_of X G nC, fun H => .inr ⟨_, _, _, lC, rfl, rfl, (by show 5 ≤ sizeLine; decide), .cons ⟨_, rfl⟩ (.cons ⟨_, rfl⟩ (.cons ⟨_, rfl⟩ (.cons ⟨_, rfl⟩ (.cons ⟨_, rfl⟩ .nil))))⟩⟩
  have DG : Dg K w mg dD _ _ := ⟨PySem.W.mg_of X G nDg, ⟨lDg, ⟨⟨_, _, rfl, rfl⟩, ⟨_, _, rfl, rfl⟩, ⟨_, _, rfl, rfl⟩, ⟨_, _, rfl, rfl⟩, trivial⟩, nSy⟩, look_of lDg⟩
  have F_0 := fun_mk (st := sPI) l_0 c_0 k_0
  have b_0 := F_0.binds (ps := ["value"]) fun _ _ _ _ _ _ us hl => match us, hl with | [_], _ => rfl
  have F_1 := fun_mk (st := sNm) l_1 c_1 k_1
  have b_1 := F_1.binds (ps := ["value"]) fun _ _ _ _ _ _ us hl => match us, hl with | [_], _ => rfl
  have F_2 := fun_mk (st := sFN) l_2 c_2 k_2
  have b_2 := F_2.binds (ps := ["value"]) fun _ _ _ _ _ _ us hl => match us, hl with | [_], _ => rfl
  have F_3 := fun_mk (st := sAr) l_3 c_3 k_3
  have b_3 := F_3.binds (ps := ["value"]) fun _ _ _ _ _ _ us hl => match us, hl with | [_], _ => rfl
  have F_4 := fun_mk (st := sEn) l_4 c_4 k_4
  have b_4 := F_4.binds (ps := ["value"]) fun _ _ _ _ _ _ us hl => match us, hl with | [_], _ => rfl
  have F_5 := fun_mk (st := sChk) l_5 c_5 k_5
  have b_5 := F_5.binds (ps := ["entries"]) fun _ _ _ _ _ _ us hl => match us, hl with | [_], _ => rfl
  have F_6 := fun_mk (st := sTx) l_6 c_6 k_6
  have b_6 := F_6.binds (ps := ["name", "arity"]) fun _ _ _ _ _ _ us hl => match us, hl with | [_, _], _ => rfl
  have F_7 := fun_mk (st := sUrn) l_7 c_7 k_7
  have b_7 := F_7.binds (ps := ["_law_script", "_law_k"]) fun _ _ _ _ _ _ us hl => match us, hl with | [_, _], _ => rfl
  have F_8 := fun_mk (st := sLot) l_8 c_8 k_8
  have b_8 := F_8.binds (ps := ["_law_urn_here", "_law_many"]) fun _ _ _ _ _ _ us hl => match us, hl with | [_, _], _ => rfl
  have F_9 := fun_mk (st := sOne) l_9 c_9 k_9
  have b_9 := F_9.binds (ps := ["_law_urn_here", "_law_things"]) fun _ _ _ _ _ _ us hl => match us, hl with | [_, _], _ => rfl
  have F_10 := fun_mk (st := sSh) l_10 c_10 k_10
  have b_10 := F_10.binds (ps := ["token"]) fun _ _ _ _ _ _ us hl => match us, hl with | [_], _ => rfl
  have F_11 := fun_mk (st := sRight) l_11 c_11 k_11
  have b_11 := F_11.binds (ps := ["_law_urn_here"]) fun _ _ _ _ _ _ us hl => match us, hl with | [_], _ => rfl
  have F_12 := fun_mk (st := sLaw) l_12 c_12 k_12
  have b_12 := F_12.binds (ps := ["_law_script"]) fun _ _ _ _ _ _ us hl => match us, hl with | [_], _ => rfl
  have F_13 := fun_mk (st := sLi) l_13 c_13 k_13
  have b_13 := F_13.binds (ps := ["token"]) fun _ _ _ _ _ _ us hl => match us, hl with | [_], _ => rfl
  have F_14 := fun_mk (st := sWd) l_14 c_14 k_14
  have b_14 := F_14.binds (ps := ["token", "vocabulary"]) fun _ _ _ _ _ _ us hl => match us, hl with | [_, _], _ => rfl
  have F_15 := fun_mk (st := sRw) l_15 c_15 k_15
  have b_15 := F_15.binds (ps := ["texts"]) fun _ _ _ _ _ _ us hl => match us, hl with | [_], _ => rfl
  have F_16 := fun_mk (st := sQx) l_16 c_16 k_16
  have b_16 := F_16.binds (ps := ["text"]) fun _ _ _ _ _ _ us hl => match us, hl with | [_], _ => rfl
  have F_17 := fun_mk (st := sQu) l_17 c_17 k_17
  have b_17 := F_17.binds (ps := ["row"]) fun _ _ _ _ _ _ us hl => match us, hl with | [_], _ => rfl
  have F_18 := fun_mk (st := sSp) l_18 c_18 k_18
  have b_18 := F_18.binds (ps := ["text"]) fun _ _ _ _ _ _ us hl => match us, hl with | [_], _ => rfl
  have F_19 := fun_mk (st := sRR) l_19 c_19 k_19
  have b_19 := F_19.binds (ps := ["text", "vocabulary"]) fun _ _ _ _ _ _ us hl => match us, hl with | [_, _], _ => rfl
  have F_20 := fun_mk (st := sMs) l_20 c_20 k_20
  have b_20 := F_20.binds (ps := ["text"]) fun _ _ _ _ _ _ us hl => match us, hl with | [_], _ => rfl
  have F_21 := fun_mk (st := sMd) l_21 c_21 k_21
  have b_21 := F_21.binds (ps := ["text"]) fun _ _ _ _ _ _ us hl => match us, hl with | [_], _ => rfl
  have F_22 := fun_mk (st := sCv) l_22 c_22 k_22
  have b_22 := F_22.binds (ps := ["value"]) fun _ _ _ _ _ _ us hl => match us, hl with | [_], _ => rfl
  have F_23 := fun_mk (st := sCp) l_23 c_23 k_23
  have b_23 := F_23.binds (ps := ["value"]) fun _ _ _ _ _ _ us hl => match us, hl with | [_], _ => rfl
  have F_24 := fun_mk (st := sCb) l_24 c_24 k_24
  have b_24 := F_24.binds (ps := ["program", "other_program"]) fun _ _ _ _ _ _ us hl => match us, hl with | [_, _], _ => rfl
  have F_25 := fun_mk (st := sCc) l_25 c_25 k_25
  have b_25 := F_25.binds (ps := ["value", "least", "most"]) fun _ _ _ _ _ _ us hl => match us, hl with | [_, _, _], _ => rfl
  have F_26 := fun_mk (st := sCl) l_26 c_26 k_26
  have b_26 := F_26.binds (ps := ["size", "depth"]) fun _ _ _ _ _ _ us hl => match us, hl with | [_, _], _ => rfl
  have F_27 := fun_mk (st := sSE) l_27 c_27 k_27
  have b_27 := F_27.binds (ps := ["text"]) fun _ _ _ _ _ _ us hl => match us, hl with | [_], _ => rfl
  have F_28 := fun_mk (st := sSS) l_28 c_28 k_28
  have b_28 := F_28.binds (ps := ["text"]) fun _ _ _ _ _ _ us hl => match us, hl with | [_], _ => rfl
  have F_29 := fun_mk (st := sLine) l_29 c_29 k_29
  have b_29 := F_29.binds (ps := ["_law_row_here"]) fun _ _ _ _ _ _ us hl => match us, hl with | [_], _ => rfl
  have F_30 := fun_mk (st := sBoxd) l_30 c_30 k_30
  have b_30 := F_30.binds (ps := ["_law_row_here"]) fun _ _ _ _ _ _ us hl => match us, hl with | [_], _ => rfl
  have F_31 := fun_mk (st := sAr4) l_31 c_31 k_31
  have b_31 := F_31.binds (ps := ["_law_urn_here"]) fun _ _ _ _ _ _ us hl => match us, hl with | [_], _ => rfl
  have F_32 := fun_mk (st := sPla) l_32 c_32 k_32
  have b_32 := F_32.binds (ps := ["_law_kinds"]) fun _ _ _ _ _ _ us hl => match us, hl with | [_], _ => rfl
  have F_33 := fun_mk (st := sCh) l_33 c_33 k_33
  have b_33 := F_33.binds (ps := ["_law_kinds", "_law_arities_here", "_law_level"]) fun _ _ _ _ _ _ us hl => match us, hl with | [_, _, _], _ => rfl
  have F_34 := fun_mk (st := sMx) l_34 c_34 k_34
  have b_34 := F_34.binds (ps := ["_law_urn_here", "_law_kinds"]) fun _ _ _ _ _ _ us hl => match us, hl with | [_, _], _ => rfl
  have F_35 := fun_mk (st := sBh) l_35 c_35 k_35
  have b_35 := F_35.binds (ps := ["_law_word_here", "_law_kinds"]) fun _ _ _ _ _ _ us hl => match us, hl with | [_, _], _ => rfl
  have F_36 := fun_mk (st := sStp) l_36 c_36 k_36
  have b_36 := F_36.binds (ps := ["_law_urn_here", "_law_row_here", "_law_kinds", "_law_arities_here", "_law_level"]) fun _ _ _ _ _ _ us hl => match us, hl with | [_, _, _, _, _], _ => rfl
  have F_37 := fun_mk (st := sBlt) l_37 c_37 k_37
  have b_37 := F_37.binds (ps := ["_law_urn_here", "_law_arities_here", "_law_kinds", "_law_count", "_law_level"]) fun _ _ _ _ _ _ us hl => match us, hl with | [_, _, _, _, _], _ => rfl
  have F_38 := fun_mk (st := sVo) l_38 c_38 k_38
  have b_38 := F_38.binds (ps := ["_law_arities_here"]) fun _ _ _ _ _ _ us hl => match us, hl with | [_], _ => rfl
  have F_39 := fun_mk (st := sPr4) l_39 c_39 k_39
  have b_39 := F_39.binds (ps := ["_law_arities_here", "_law_row_here"]) fun _ _ _ _ _ _ us hl => match us, hl with | [_, _], _ => rfl
  have F_40 := fun_mk (st := sSize) l_40 c_40 k_40
  have b_40 := F_40.binds (ps := ["_law_row_here"]) fun _ _ _ _ _ _ us hl => match us, hl with | [_], _ => rfl
  have F_41 := fun_mk (st := sShw) l_41 c_41 k_41
  have b_41 := F_41.binds (ps := ["_law_made", "_law_arities_here", "_law_row_here"]) fun _ _ _ _ _ _ us hl => match us, hl with | [_, _, _], _ => rfl
  have FI := fun_mk (st := sIni) lI_ cI_ kI_
  have FQ := fun_mk (st := sEqV) lQ_ cQ_ kQ_
  have bQ := FQ.binds (ps := ["self", "other"]) fun _ _ _ _ _ _ us hl => match us, hl with | [_, _], _ => rfl
  have FA := fun_mk (st := sAri) lA_ cA_ kA_
  have bA := FA.binds (ps := ["self", "name"]) fun _ _ _ _ _ _ us hl => match us, hl with | [_, _], _ => rfl
  have FJ := fun_mk (st := sPI_) lJ_ cJ_ kJ_
  have bJ := FJ.binds (ps := ["self", "vocabulary", "text"]) fun _ _ _ _ _ _ us hl => match us, hl with | [_, _, _], _ => rfl
  have FT := fun_mk (st := sTh) lT_ cT_ kT_
  have bT := FT.binds (ps := ["self", "other_program"]) fun _ _ _ _ _ _ us hl => match us, hl with | [_, _], _ => rfl
  have FU := fun_mk (st := sPt) lU_ cU_ kU_
  have bU := FU.binds (ps := ["self", "start", "end"]) fun _ _ _ _ _ _ us hl => match us, hl with | [_, _, _], _ => rfl
  have FW := fun_mk (st := sWo) lW_ cW_ kW_
  have bW := FW.binds (ps := ["self", "place"]) fun _ _ _ _ _ _ us hl => match us, hl with | [_, _], _ => rfl
  have FD := fun_mk (st := sQd) lD_ cD_ kD_
  have bD := FD.binds (ps := ["self"]) fun _ _ _ _ _ _ us hl => match us, hl with | [_], _ => rfl
  have FE := fun_mk (st := sEqP) lE_ cE_ kE_
  have bE := FE.binds (ps := ["self", "other"]) fun _ _ _ _ _ _ us hl => match us, hl with | [_, _], _ => rfl
  have FL := fun_mk (st := sLnP) lL_ cL_ kL_
  have bL := FL.binds (ps := ["self"]) fun _ _ _ _ _ _ us hl => match us, hl with | [_], _ => rfl
  have FS := fun_mk (st := sStP) lS_ cS_ kS_
  have bS := FS.binds (ps := ["self"]) fun _ _ _ _ _ _ us hl => match us, hl with | [_], _ => rfl
  have FR := fun_mk (st := sRpP) lR_ cR_ kR_
  have bR := FR.binds (ps := ["self"]) fun _ _ _ _ _ _ us hl => match us, hl with | [_], _ => rfl
  have Zn : ErX K mg "NotAProgram" CN fN "value" bmV "ValueError.__new__" := ⟨PySem.W.mg_of X G nN, ErrC.of eon, ⟨xn, etn, _, _, _, _, _, _, _, _, _, _, _, _, _, _, _, lkn, yn⟩, ecn⟩
  have Zt : ErX K mg "InvalidText" CT fT "value" bmV "ValueError.__new__" := ⟨PySem.W.mg_of X G nT, ErrC.of eot, ⟨xt, ett, _, _, _, _, _, _, _, _, _, _, _, _, _, _, _, lkt, yt⟩, ect⟩
  have Zx : ErX K mg "InvalidPlace" CX fX "value" bmV "ValueError.__new__" := ⟨PySem.W.mg_of X G nX, ErrC.of eox, ⟨xx, etx, _, _, _, _, _, _, _, _, _, _, _, _, _, _, _, lkx, yx⟩, ecx⟩
  have Zl : ErX K mg "TooLarge" CL fL "limit" bmA "ArithmeticError.__new__" := ⟨PySem.W.mg_of X G nL, ErrC.of eol, ⟨xl, etl, _, _, _, _, _, _, _, _, _, _, _, _, _, _, _, lkl, yl⟩, ecl⟩
  have Zd : ErX K mg "TooDeep" CD fD "limit" bmA "ArithmeticError.__new__" := ⟨PySem.W.mg_of X G nD, ErrC.of eod, ⟨xd, etd, _, _, _, _, _, _, _, _, _, _, _, _, _, _, _, lkd, yd⟩, ecd⟩
  have FRd := fun_mk (st := sRd) lRd cRd_ kRd_
  have bRd := FRd.binds (ps := ["text"]) fun _ _ _ _ _ _ us hl => match us, hl with | [_], _ => rfl
  have D : D2 K mg _ _ _ _ _ _ _ _ _ _ := ⟨PySem.W.mg_of X G a_0, F_0, b_0, PySem.W.mg_of X G a_1, F_1, b_1, PySem.W.mg_of X G a_2, F_2, b_2, PySem.W.mg_of X G a_3, F_3, b_3, PySem.W.mg_of X G a_4, F_4, b_4⟩
  have I : I2 K mg _ _ _ _ := ⟨PySem.W.mg_of X G a_5, F_5, b_5, PySem.W.mg_of X G a_6, F_6, b_6⟩
  have S3' : S3 K mg _ _ _ _ := ⟨PySem.W.mg_of X G a_27, F_27, b_27, PySem.W.mg_of X G a_28, F_28, b_28⟩
  have Z : EC K mg CE fI := ⟨PySem.W.mg_of X G nE, ErrC.of eoe, ⟨xe, ete, _, _, _, _, _, _, _, _, _, _, _, _, _, _, _, lke, ye⟩, ece⟩
  have ZT : TC K mg CT fT := ⟨PySem.W.mg_of X G nT, ErrC.of eot, ⟨xt, ett, _, _, _, _, _, _, _, _, _, _, _, _, _, _, _, lkt, yt⟩, ect⟩
  have ZM : Er0 K mg "Mismatch" CM bmT "TypeError.__new__" := ⟨PySem.W.mg_of X G nM, qM, kpM, sbM, tyM, IsC.of isM⟩
  have clV : Cls K C := ⟨pGv, hDv, pOv, sAv⟩
  have clP : Cls K CP := ⟨pGp, hDp, pOp, sAp⟩
  have VV : VC K mg C := ⟨PySem.W.mg_of X G nV, clV, av_arities, av_names, av_text⟩
  have PV : PC K mg CP := ⟨PySem.W.mg_of X G nP, clP, ap_vocabulary, ap_text, ap_row, ap_words, ap_size⟩
  have TV : IC K C := ⟨clV, fCv, gD, tK, mOv, ksv⟩
  have TP : IC K CP := ⟨clP, fCp, gD, tK, mOp, ksp⟩
  have MKV : Mk K C fIn := ⟨mkv, mI, fnI, kpv⟩
  have MKP : Mk K CP fPI := ⟨mkp, mJ, fnJ, kpp⟩
  have CQ : CmpC K C fEq := ⟨sOv, nEv, mQ, fnQ⟩
  have CQP : CmpC K CP fEP := ⟨sOp, nEp, mE, fnE⟩
  have RCP : RpC K CP fRP := ⟨mR, fnR⟩
  have LC : LenC K CP fLP := ⟨mL, fnL, fBo⟩
  have MA : Meth K C "arity" fA := ⟨mA, fnA, kA_⟩
  have SM : SMet K C (.type "type") "read" smp fRd := ⟨rdI, gA, mRd, ⟨_, rRd⟩, kRd_⟩
  have DW : Drw K mg _ _ _ _ := ⟨PySem.W.mg_of X G a_8, F_8, b_8, PySem.W.mg_of X G a_9, F_9, b_9⟩
  refine ⟨PySem.W.fnOf "law" "law" (defArgs sLaw) (defBody sLaw) (defScope sLaw) .none kV_12 dc_12 pm_12 an_12 cd_12 ct_12, [], spLaw K, fun p hp => (nomatch hp), fun s v => .of_eq rfl, fun H a ns hl _ hH hS => ⟨a, ns, rfl, hS, hl, fun _ => rfl⟩, fun base _ _ hTB => ?_⟩
  have GEV : FnR l.prog w K mg base CX0 1 fEq (spEqV C) := ((ok_eqV FQ B VV TV).raw bQ .nil).imp fun vs H Q E hs => by rw [List.append_nil]; exact hs
  have GRP : FnR l.prog w K mg base CX0 1 fRP (spRpQ CP) := ((ok_rpQ FR PV).raw bR .nil).imp fun vs H Q E hs => by rw [List.append_nil]; exact hs
  have GLP : FnR l.prog w K mg base CX0 1 fLP (spLnP CP) := ((ok_lnP FL B PV).raw bL .nil).imp fun vs H Q E hs => by rw [List.append_nil]; exact hs
  have GSP : FnR l.prog w K mg base CX0 1 fSP (spStP CP) := ((ok_stP FS B PV).raw bS .nil).imp fun vs H Q E hs => by rw [List.append_nil]; exact hs
  have GEP : FnR l.prog w K mg base CX0 2 fEP (spEqG K CP C) := ((ok_eqG FE B PV TP CQ GEV).raw bE .nil).imp fun vs H Q E hs => by rw [List.append_nil]; exact hs
  have GIV : FnR l.prog w K mg base (L2N.CX l.prog w) 5 fIn (spInit C CE) := ok_ini I D B CW Z BB B4' VV FI
  have GRf := ok_rd (P := l.prog) (w := w) (base := base) FRd S3' B DG Z xmE ZT VV MKV GIV
  have GR : FnR l.prog w K mg base (L2.CX l.prog w) 7 fRd (spRd K C CT) := (GRf.raw bRd .nil).imp fun vs H Q E hs => by rw [List.append_nil]; exact hs
  have GSp := ok_spG (P := l.prog) (w := w) (mg := mg) (base := base) F_18
  have GQu := ok_qu (P := l.prog) (w := w) (base := base) F_17 W (PySem.W.mg_of X G a_15) F_15 b_15 (PySem.W.mg_of X G a_16) F_16 b_16
  have GWd := ok_wdG (P := l.prog) (w := w) (base := base) F_14 B W WS WR CW VV (PySem.W.mg_of X G a_13) F_13 b_13 (PySem.W.mg_of X G a_10) F_10 b_10 MA FA bA
  have GRR := ok_rrG F_19 B ⟨PySem.W.mg_of X G a_18, F_18.kp, b_18, GSp, PySem.W.mg_of X G a_17, F_17.kp, b_17, GQu, PySem.W.mg_of X G a_14, F_14.kp, b_14, GWd⟩
  have GMs := ok_msG F_20 B (PySem.W.mg_of X G a_18) F_18.kp b_18 GSp
  have GMd := ok_mdG F_21 BL (PySem.W.mg_of X G a_18) F_18.kp b_18 GSp
  have GCv := ok_cv (P := l.prog) (w := w) (base := base) F_22 B VV TV
  have GCl := ok_cl (P := l.prog) (w := w) (base := base) F_26 W Zl Zd
  have GPI := ok_piG (CP := CP) FJ B PV Zt ⟨PySem.W.mg_of X G a_22, F_22.kp, b_22, GCv, PySem.W.mg_of X G a_19, F_19.kp, b_19, GRR, PySem.W.mg_of X G a_20, F_20.kp, b_20, GMs, PySem.W.mg_of X G a_21, F_21.kp, b_21, GMd, PySem.W.mg_of X G a_26, F_26.kp, b_26, GCl⟩
  have GCp := ok_cp (P := l.prog) (w := w) (base := base) F_23 B PV TP Zn
  have GCb := ok_cb F_24 PV (PySem.W.mg_of X G a_23) F_23.kp b_23 GCp CQ GEV ZM
  have GCc := ok_cc F_25 (PySem.W.mg_of X G a_0) F_0.kp b_0 (ok_pi (P := l.prog) (w := w) (base := base) F_0 B) Zx
  have M : M6G l.prog w K mg base C CP CN CM CX CT CL CD fPI _ _ _ _ _ _ _ _ _ := ⟨B, PV, MKP, bJ, GPI, PySem.W.mg_of X G a_24, F_24.kp, b_24, GCb, PySem.W.mg_of X G a_25, F_25.kp, b_25, GCc, PySem.W.mg_of X G a_15, F_15.kp, b_15, ok_rwt F_15, PySem.W.mg_of X G a_16, F_16.kp, b_16, ok_qx F_16⟩
  have LN : LnD K mg _ _ _ _ := ⟨PySem.W.mg_of X G a_29, F_29, b_29, PySem.W.mg_of X G a_30, F_30, b_30⟩
  have GLn := ok_lines (P := l.prog) (w := w) (base := base) LN B 3 (by decide)
  have SZ : SzD K mg _ _ := ⟨PySem.W.mg_of X G a_40, F_40, b_40, PySem.W.mg_none_of X G z_sum, PySem.W.mg_none_of X G z_list⟩
  have GZ := ok_sz (P := l.prog) (w := w) (base := base) SZ B 3
  have VD : VoD l.prog w K mg base C CT smp fRd (.type "type") := ⟨PySem.W.mg_of X G nV, SM, GR, PySem.W.mg_none_of X G z_sorted⟩
  have GVo := ok_vo F_38 B VD
  have LW : LwD l.prog w K mg base C _ _ _ _ _ _ := ⟨PySem.W.mg_of X G a_29, F_29.kp, b_29, GLn, PySem.W.mg_of X G a_40, F_40.kp, b_40, GZ, PySem.W.mg_of X G a_38, F_38.kp, b_38, GVo⟩
  have OW : OwD l.prog w K mg base C CP fLP fSP fRP fEq := ⟨PV, LC, GLP, mS, fnS, GSP, RCP, GRP, CQ, GEV, PySem.W.mg_none_of X G z_repr⟩
  have GPr := ok_pr4 F_39 M LW
  have GSh := ok_shw F_41 B LW OW
  have SD : StD l.prog w K mg base _ _ _ _ _ _ _ _ _ _ := ⟨PySem.W.mg_of X G a_33, F_33.kp, b_33, ok_ch F_33 B (PySem.W.mg_none_of X G z_sorted) (PySem.W.mg_of X G a_32) F_32 b_32, PySem.W.mg_of X G a_34, F_34.kp, b_34, ok_mx F_34 BL DW, PySem.W.mg_of X G a_35, F_35.kp, b_35, ok_bh F_35 BL, PySem.W.mg_of X G a_36, F_36, b_36, PySem.W.mg_of X G a_37, F_37, b_37⟩
  have GU2 := ok_built SD B BL DW 2 (by decide)
  have GU1 := ok_built SD B BL DW 1 (by decide)
  have RT : RtD l.prog w K mg base C CP CN CM CX CL CD _ _ _ _ _ _ _ fEP fPt fWo fTh fQd _ _ _ _ _ _ _ _ _ _ _ := ⟨B, BL, PySem.W.mg_none_of X G z_dict, DW, PySem.W.mg_of X G a_31, F_31.kp, b_31, ok_ar4 F_31 BL DW, PySem.W.mg_of X G a_37, F_37.kp, b_37, GU2, GU1, PySem.W.mg_of X G a_39, F_39.kp, b_39, GPr, PySem.W.mg_of X G a_41, F_41.kp, b_41, GSh, PySem.W.mg_of X G a_29, F_29.kp, b_29, GLn, PV, CQP, GEP, kst, sst, ⟨mU, fnU, kU_⟩, bU, fun s v u u2 => .of_eq rfl, ok_ptG FU M, ⟨mW, fnW, kW_⟩, fun s v u => .of_eq rfl, ok_woG FW M, ⟨mT, fnT, kT_⟩, bT, fun s v u => .of_eq rfl, ok_thG FT M, ⟨mD, fnD, kD_⟩, bD, ok_qdG FD M⟩
  exact ok_law (j := 9) F_12 BL (PySem.W.mg_of X G a_7) F_7 b_7 (PySem.W.mg_of X G a_11) F_11.kp b_11 (ok_right4 F_11 RT)
end SQ4
open PySem PySem.W PyProof.Rows
set_option maxRecDepth 100000 in
set_option maxHeartbeats 0 in
theorem PySem.Challenge.cw_stackquotes_k04_programs_made_holds : PySem.Challenge.rw_stackquotes_k04_programs_made.Holds := by
  w_on; o_law; k_head; (case hw => w_witness2)
  k_fill
  refine SQ.walkGT (l := PySem.Challenge.rw_stackquotes_k04_programs_made) (n := 63) (k := 11) (x := "_law_script") rfl (by decide) rfl ⟨rfl, by decide, by decide⟩ (fun w h Y => PySem.W.kIn_of Y) ?F
  case F =>
    intro w mg fa h Y KX G hmg
    refine' SQ4.all_mk KX G hmg ?nE ?nN ?nT ?nX ?nL ?nD ?nM ?nV ?nP ?nC ?lC ?nDg ?lDg ?xe ?lke ?ye ?xn ?lkn ?yn ?xt ?lkt ?yt ?xx ?lkx ?yx ?xl ?lkl ?yl ?xd ?lkd ?yd ?a_0 ?l_0 ?c_0 ?k_0 ?a_1 ?l_1 ?c_1 ?k_1 ?a_2 ?l_2 ?c_2 ?k_2 ?a_3 ?l_3 ?c_3 ?k_3 ?a_4 ?l_4 ?c_4 ?k_4 ?a_5 ?l_5 ?c_5 ?k_5 ?a_6 ?l_6 ?c_6 ?k_6 ?a_7 ?l_7 ?c_7 ?k_7 ?a_8 ?l_8 ?c_8 ?k_8 ?a_9 ?l_9 ?c_9 ?k_9 ?a_10 ?l_10 ?c_10 ?k_10 ?a_11 ?l_11 ?c_11 ?k_11 ?a_12 ?l_12 ?c_12 ?k_12 ?a_13 ?l_13 ?c_13 ?k_13 ?a_14 ?l_14 ?c_14 ?k_14 ?a_15 ?l_15 ?c_15 ?k_15 ?a_16 ?l_16 ?c_16 ?k_16 ?a_17 ?l_17 ?c_17 ?k_17 ?a_18 ?l_18 ?c_18 ?k_18 ?a_19 ?l_19 ?c_19 ?k_19 ?a_20 ?l_20 ?c_20 ?k_20 ?a_21 ?l_21 ?c_21 ?k_21 ?a_22 ?l_22 ?c_22 ?k_22 ?a_23 ?l_23 ?c_23 ?k_23 ?a_24 ?l_24 ?c_24 ?k_24 ?a_25 ?l_25 ?c_25 ?k_25 ?a_26 ?l_26 ?c_26 ?k_26 ?a_27 ?l_27 ?c_27 ?k_27 ?a_28 ?l_28 ?c_28 ?k_28 ?a_29 ?l_29 ?c_29 ?k_29 ?a_30 ?l_30 ?c_30 ?k_30 ?a_31 ?l_31 ?c_31 ?k_31 ?a_32 ?l_32 ?c_32 ?k_32 ?a_33 ?l_33 ?c_33 ?k_33 ?a_34 ?l_34 ?c_34 ?k_34 ?a_35 ?l_35 ?c_35 ?k_35 ?a_36 ?l_36 ?c_36 ?k_36 ?a_37 ?l_37 ?c_37 ?k_37 ?a_38 ?l_38 ?c_38 ?k_38 ?a_39 ?l_39 ?c_39 ?k_39 ?a_40 ?l_40 ?c_40 ?k_40 ?a_41 ?l_41 ?c_41 ?k_41 ?mI ?lI_ ?cI_ ?kI_ ?mQ ?lQ_ ?cQ_ ?kQ_ ?mA ?lA_ ?cA_ ?kA_ ?mJ ?lJ_ ?cJ_ ?kJ_ ?mT ?lT_ ?cT_ ?kT_ ?mU ?lU_ ?cU_ ?kU_ ?mW ?lW_ ?cW_ ?kW_ ?mD ?lD_ ?cD_ ?kD_ ?mE ?lE_ ?cE_ ?kE_ ?mL ?lL_ ?cL_ ?kL_ ?mS ?lS_ ?cS_ ?kS_ ?mR ?lR_ ?cR_ ?kR_ ?mRd ?rRd ?lRd ?cRd_ ?kRd_ ?z_int ?z_len ?z_abs ?z_divmod ?z_max ?z_min ?z_range ?z_all ?z_isinstance ?z_bool ?z_str ?z_tuple ?z_set ?z_enumerate ?z_sorted ?z_repr ?z_sum ?z_list ?z_dict ?w_0 ?w_1 ?w_2 ?w_3 ?w_4 ?w_5 ?w_6 ?w_7 ?w_8 ?w_9 ?w_10 ?w_11 ?w_12 ?w_13 ?w_14 ?hA
    (case nE => k_is)
    (case nN => k_is)
    (case nT => k_is)
    (case nX => k_is)
    (case nL => k_is)
    (case nD => k_is)
    (case nM => k_is)
    (case nV => k_is)
    (case nP => k_is)
    (case nC => k_is)
    (case lC => k_is)
    (case nDg => k_is)
    (case lDg => k_is)
    (case xe => k_is)
    (case lke => k_is)
    (case ye => k_is)
    (case xn => k_is)
    (case lkn => k_is)
    (case yn => k_is)
    (case xt => k_is)
    (case lkt => k_is)
    (case yt => k_is)
    (case xx => k_is)
    (case lkx => k_is)
    (case yx => k_is)
    (case xl => k_is)
    (case lkl => k_is)
    (case yl => k_is)
    (case xd => k_is)
    (case lkd => k_is)
    (case yd => k_is)
    (case a_0 => k_is)
    (case l_0 => k_is)
    (case c_0 => k_is)
    (case k_0 => k_is)
    (case a_1 => k_is)
    (case l_1 => k_is)
    (case c_1 => k_is)
    (case k_1 => k_is)
    (case a_2 => k_is)
    (case l_2 => k_is)
    (case c_2 => k_is)
    (case k_2 => k_is)
    (case a_3 => k_is)
    (case l_3 => k_is)
    (case c_3 => k_is)
    (case k_3 => k_is)
    (case a_4 => k_is)
    (case l_4 => k_is)
    (case c_4 => k_is)
    (case k_4 => k_is)
    (case a_5 => k_is)
    (case l_5 => k_is)
    (case c_5 => k_is)
    (case k_5 => k_is)
    (case a_6 => k_is)
    (case l_6 => k_is)
    (case c_6 => k_is)
    (case k_6 => k_is)
    (case a_7 => k_is)
    (case l_7 => k_is)
    (case c_7 => k_is)
    (case k_7 => k_is)
    (case a_8 => k_is)
    (case l_8 => k_is)
    (case c_8 => k_is)
    (case k_8 => k_is)
    (case a_9 => k_is)
    (case l_9 => k_is)
    (case c_9 => k_is)
    (case k_9 => k_is)
    (case a_10 => k_is)
    (case l_10 => k_is)
    (case c_10 => k_is)
    (case k_10 => k_is)
    (case a_11 => k_is)
    (case l_11 => k_is)
    (case c_11 => k_is)
    (case k_11 => k_is)
    (case a_12 => k_is)
    (case l_12 => k_is)
    (case c_12 => k_is)
    (case k_12 => k_is)
    (case a_13 => k_is)
    (case l_13 => k_is)
    (case c_13 => k_is)
    (case k_13 => k_is)
    (case a_14 => k_is)
    (case l_14 => k_is)
    (case c_14 => k_is)
    (case k_14 => k_is)
    (case a_15 => k_is)
    (case l_15 => k_is)
    (case c_15 => k_is)
    (case k_15 => k_is)
    (case a_16 => k_is)
    (case l_16 => k_is)
    (case c_16 => k_is)
    (case k_16 => k_is)
    (case a_17 => k_is)
    (case l_17 => k_is)
    (case c_17 => k_is)
    (case k_17 => k_is)
    (case a_18 => k_is)
    (case l_18 => k_is)
    (case c_18 => k_is)
    (case k_18 => k_is)
    (case a_19 => k_is)
    (case l_19 => k_is)
    (case c_19 => k_is)
    (case k_19 => k_is)
    (case a_20 => k_is)
    (case l_20 => k_is)
    (case c_20 => k_is)
    (case k_20 => k_is)
    (case a_21 => k_is)
    (case l_21 => k_is)
    (case c_21 => k_is)
    (case k_21 => k_is)
    (case a_22 => k_is)
    (case l_22 => k_is)
    (case c_22 => k_is)
    (case k_22 => k_is)
    (case a_23 => k_is)
    (case l_23 => k_is)
    (case c_23 => k_is)
    (case k_23 => k_is)
    (case a_24 => k_is)
    (case l_24 => k_is)
    (case c_24 => k_is)
    (case k_24 => k_is)
    (case a_25 => k_is)
    (case l_25 => k_is)
    (case c_25 => k_is)
    (case k_25 => k_is)
    (case a_26 => k_is)
    (case l_26 => k_is)
    (case c_26 => k_is)
    (case k_26 => k_is)
    (case a_27 => k_is)
    (case l_27 => k_is)
    (case c_27 => k_is)
    (case k_27 => k_is)
    (case a_28 => k_is)
    (case l_28 => k_is)
    (case c_28 => k_is)
    (case k_28 => k_is)
    (case a_29 => k_is)
    (case l_29 => k_is)
    (case c_29 => k_is)
    (case k_29 => k_is)
    (case a_30 => k_is)
    (case l_30 => k_is)
    (case c_30 => k_is)
    (case k_30 => k_is)
    (case a_31 => k_is)
    (case l_31 => k_is)
    (case c_31 => k_is)
    (case k_31 => k_is)
    (case a_32 => k_is)
    (case l_32 => k_is)
    (case c_32 => k_is)
    (case k_32 => k_is)
    (case a_33 => k_is)
    (case l_33 => k_is)
    (case c_33 => k_is)
    (case k_33 => k_is)
    (case a_34 => k_is)
    (case l_34 => k_is)
    (case c_34 => k_is)
    (case k_34 => k_is)
    (case a_35 => k_is)
    (case l_35 => k_is)
    (case c_35 => k_is)
    (case k_35 => k_is)
    (case a_36 => k_is)
    (case l_36 => k_is)
    (case c_36 => k_is)
    (case k_36 => k_is)
    (case a_37 => k_is)
    (case l_37 => k_is)
    (case c_37 => k_is)
    (case k_37 => k_is)
    (case a_38 => k_is)
    (case l_38 => k_is)
    (case c_38 => k_is)
    (case k_38 => k_is)
    (case a_39 => k_is)
    (case l_39 => k_is)
    (case c_39 => k_is)
    (case k_39 => k_is)
    (case a_40 => k_is)
    (case l_40 => k_is)
    (case c_40 => k_is)
    (case k_40 => k_is)
    (case a_41 => k_is)
    (case l_41 => k_is)
    (case c_41 => k_is)
    (case k_41 => k_is)
    (case mI => k_is)
    (case lI_ => k_is)
    (case cI_ => k_is)
    (case kI_ => k_is)
    (case mQ => k_is)
    (case lQ_ => k_is)
    (case cQ_ => k_is)
    (case kQ_ => k_is)
    (case mA => k_is)
    (case lA_ => k_is)
    (case cA_ => k_is)
    (case kA_ => k_is)
    (case mJ => k_is)
    (case lJ_ => k_is)
    (case cJ_ => k_is)
    (case kJ_ => k_is)
    (case mT => k_is)
    (case lT_ => k_is)
    (case cT_ => k_is)
    (case kT_ => k_is)
    (case mU => k_is)
    (case lU_ => k_is)
    (case cU_ => k_is)
    (case kU_ => k_is)
    (case mW => k_is)
    (case lW_ => k_is)
    (case cW_ => k_is)
    (case kW_ => k_is)
    (case mD => k_is)
    (case lD_ => k_is)
    (case cD_ => k_is)
    (case kD_ => k_is)
    (case mE => k_is)
    (case lE_ => k_is)
    (case cE_ => k_is)
    (case kE_ => k_is)
    (case mL => k_is)
    (case lL_ => k_is)
    (case cL_ => k_is)
    (case kL_ => k_is)
    (case mS => k_is)
    (case lS_ => k_is)
    (case cS_ => k_is)
    (case kS_ => k_is)
    (case mR => k_is)
    (case lR_ => k_is)
    (case cR_ => k_is)
    (case kR_ => k_is)
    (case mRd => k_is)
    (case rRd => k_is)
    (case lRd => k_is)
    (case cRd_ => k_is)
    (case kRd_ => k_is)
    (case z_int => k_is)
    (case z_len => k_is)
    (case z_abs => k_is)
    (case z_divmod => k_is)
    (case z_max => k_is)
    (case z_min => k_is)
    (case z_range => k_is)
    (case z_all => k_is)
    (case z_isinstance => k_is)
    (case z_bool => k_is)
    (case z_str => k_is)
    (case z_tuple => k_is)
    (case z_set => k_is)
    (case z_enumerate => k_is)
    (case z_sorted => k_is)
    (case z_repr => k_is)
    (case z_sum => k_is)
    (case z_list => k_is)
    (case z_dict => k_is)
    (case w_0 => k_is)
    (case w_1 => k_is)
    (case w_2 => k_is)
    (case w_3 => k_is)
    (case w_4 => k_is)
    (case w_5 => k_is)
    (case w_6 => k_is)
    (case w_7 => k_is)
    (case w_8 => k_is)
    (case w_9 => k_is)
    (case w_10 => k_is)
    (case w_11 => k_is)
    (case w_12 => k_is)
    (case w_13 => k_is)
    (case w_14 => k_is)
    (case hA => kernel_rfl)
