import PyProof.Rows.All
import Wide.All
import OpenK.AllK
import Wide.FinOn
import HandS.ForMost
import PyProof.ReprRoads
import HandS.IsInst
import HandS.Walk
import KE.KExcInit
import KE.KIsAll
import HandS.ForExc
import HandS.ExcInit
import HandS.ExcIs
import KE.KExcIs
import HandS.ExcValue
import HandS.TryOnly
import HandS.RaiseFrom
import HandS.SuiteRaise
import HandS.WordsExc
import HandS.Star
import KE.GoesEnum
import KE.GoesMore
import HandS.SetKeys
import HandS.FStr
import HandS.DictComp
import HandS.More
import HandS.RaiseMore
import KE.KCallOwn
import HandS.Lambda
import HandS.EndBits
import PyProof.StrLawsChain
import PyProof.StrLawsTight
import PyProof.Rows.StrMeet
import HandS.ClsMeth
import HandS.OwnEq
import PyProof.InstEq
import PyProof.ReprNest
import PyProof.ReprDict
import HandS.SetFor
import HandS.TupAny
import PyProof.SeqRoads2
import HandS.Sort
import HandS.SortOrd
import HandS.SortRule
import PyProof.Rows.SortKeyStr
import PyProof.StrOps
import PyProof.Conv_bool
import HandS.Flow
import HandS.Text
import HandS.SetTxt0
import PyProof.ListNew
import PyProof.StrWalks
import PyProof.SetRoads
import HandS.Replace
import HandS.Style
import HandS.Small
import HandS.CallLocal
import HandS.WordsDict
import PyProof.Rows.StrSplitAre
import HandS.ReplaceList
import HandS.ReplaceLit
import KE.KStateDown
import HandS.Head0
import HandS.Head1
import HandS.Head2
import HandS.HeadHook1
import HandS.HeadHook2
import HandS.HeadHook3
import PySem.Challenge.RW_stackquotes_k41_effects_of_words
set_option Elab.async false
set_option linter.all false
set_option maxRecDepth 100000
set_option maxHeartbeats 4000000
/-! Promises of defs that ask for a repr: they hold where no repr is under way (no guard on the stack). -/
namespace SQ
open PySem PySem.Spec PyProof.Rows L2

/-- what a def keeps when it is called where nothing guards -/
structure FnG (P : Program) (w : World) (K : PySem.W.Frag) (mg : Str → Option Value)
    (base : Heap) (CX : CXT) (k : Nat) (f : Addr) (fd : FuncData) (ps : List Str) (sp : Sp) : Prop where
  len : ∀ vs H Q E, sp vs H Q E → vs.length = ps.length
  go : ∀ (A : Around), A.guards = some [] → ∀ (outer : List Env) (s : Shared) (H : Hp)
    (args : Args) (us : List Value) (vs : List V) (Q : VK) (E : XK), Room k A →
    Env0 P w K mg base A outer s H → BindsTo s fd args (ps.zip us) → Vals vs us →
    sp vs H Q E → codeAny (model P w) A (.call (.ref f) args) (CR CX outer P w H s Q E) s
theorem FnG.of {P : Program} {w : World} {K : PySem.W.Frag} {mg : Str → Option Value} {base : Heap} {CX : CXT} {k : Nat} {f : Addr}
    {fd : FuncData} {ps : List Str} {sp : Sp} (F : FnOk P w K mg base CX k f fd ps sp) : FnG P w K mg base CX k f fd ps sp :=
  ⟨F.len, fun A _ outer s H args us vs Q E => F.run A outer s H args us vs Q E⟩

theorem deeper_guards {A : Around} {e : Env} (h : A.guards = some []) : (A.deeper e).guards = some [] := by
  first
    | exact h
    | (unfold Around.deeper; exact h)
    | simpa [Around.deeper] using h

section
variable {P : Program} {w : World} {K : PySem.W.Frag} {mg : Str → Option Value} {base : Heap}
/-- a def of the text, by its body: nothing leaves it as an error -/
theorem okG {x qual : Str} {st : Stmt} {f : Addr} {fd : FuncData} {N ps : List Str} {k : Nat} {sp : Sp}
    (F : Fun K x qual st f fd) (S : FnScope N ps (defScope st))
    (len : ∀ vs H Q E, sp vs H Q E → vs.length = ps.length)
    (hb : ∀ (cdv : Value) (A : Around) (outer : List Env) (s : Shared) (H : Hp) (vs : List V) (Q : VK) (E : XK),
      (A.deeper (envOfC qual (defScope st) s.heap.objs.size f cdv)).guards = some [] →
      Room k (A.deeper (envOfC qual (defScope st) s.heap.objs.size f cdv)) → sp vs H Q E →
      ∃ t, PSs (cxOf CX0 P w K mg base N qual (defScope st) f cdv A outer s H E).nox (defBody st) t ∧
        t { nx := fun _ H' => Q .non H', rt := Q } (start N vs) H) :
    FnG P w K mg base CX0 (k + 1) f fd ps sp := by
  obtain ⟨oc, od, kV, doc, pm, an, cdv, ct, osl, rfl, lk, hcd⟩ := F.ex
  refine ⟨len, fun A hgd outer s H args us vs Q E hroom en bnd rel hsp => ?_⟩
  have nargs := len _ _ _ _ hsp
  have old : ∀ b o, base.get? b = some o → s.heap.get? b = some o := fun b o q => (en.bs b o q).1
  have kin := en.mod.kin.keeps old
  have nol := en.mod.nolimit.keeps old
  have kinds : ∀ y ∈ ps.zip us, (defScope st).names.lookup y.1 = some .local ∨
      ((defScope st).names.lookup y.1 = some .cell ∧
        ((cellsFrom (s.heap.objs.size + 1) (defScope st).names []).lookup y.1).isSome = true) := by
    rintro ⟨n, v⟩ hy
    rcases S.par n (List.of_mem_zip hy).1 with q | q
    · exact Or.inl q
    · exact Or.inr ⟨q, PySem.W.cellsFrom_some _ _ _ (Or.inl q)⟩
  refine codeAny_call_function hroom.depth (kin _ _ lk) rfl S.co S.gen rfl
    (PySem.W.codeRec_of kin hcd) (bnd _ _ _ _ ?_)
  refine wpAny_newFunctionEnv_cells S.kind kinds ?_
  intro env he s1 ic
  subst he
  refine ⟨nol.keeps ic.toInCall.keep, codeAny_func ?_⟩
  obtain ⟨t, ht, hq⟩ := hb cdv A outer s H vs Q E (deeper_guards hgd) (hroom.deeper _) hsp
  have inv := inv_start (CX := CX0) (E := E) S hroom.hd en nargs rel ic
  refine wpAny_mono (ht.nox.run [] s1 (start N vs) H _ inv hq) ?_ fun e s' hs => hs
  intro fl s' hs
  cases fl with
  | ret u =>
    obtain ⟨v, σ', H', J, rv, q⟩ := hs
    exact ⟨v, H', J.os, J.bare, J.base, J.hok, rv, q⟩
  | next =>
    obtain ⟨σ', H', J, q⟩ := hs
    exact ⟨V.non, H', J.os, J.bare, J.base, J.hok, rfl, q⟩
  | brk =>
    obtain ⟨_, _, _, q⟩ := hs
    exact q.elim
  | cont =>
    obtain ⟨_, _, _, q⟩ := hs
    exact q.elim
end

section
variable {X : Cx} {CX : CXT} {k : Nat} {f : Addr} {fd : FuncData} {ps : List Str} {sp : Sp} {E : XK}
  {x : Str} {p pos : Pos} {e : Expr} {es : List Expr} {t : TA}
/-- f(e, ..), f such a def -/
theorem pe_callG (F : FnG X.prog X.w X.K X.mg X.base CX k f fd ps sp) (hgd : X.A.guards = some []) (hr : Room k X.A)
    (hg : Gl X x) (hm : X.mg x = some (.ref f)) (hk : PySem.W.keepIn X.K (.ref f) = true) (hb : Binds X.K fd ps [])
    (hx : Passes CX X E) (ha : PA X (e :: es) t) (hdb : (x == ("__debug__" : Str)) = false := by decide)
    (he : starEach (e :: es) X.env = (false, eval e X.env) :: starEach es X.env := by rfl)
    (hpl : (backTo pos (starEach es X.env)).any (·.1) = false := by rfl) :
    PE X (.Call (.Name x p) (e :: es) [] pos) (tCall sp [] E t) := by
  constructor
  intro pins s σ H Q I h
  refine wpAny_Call_Name_kw (ld_glob I hg hm ?_ hdb)
  refine PySem.W.callWith_K (h₀ := X.base) I.ok.mod.kin hk (thn (ha.run pos pins s σ H _ I h) ?_) he hpl
  intro us s1 ⟨vs, H1, I1, r, q⟩
  refine ⟨I1.kIn, ?_⟩
  have r2 : Vals (vs ++ []) (us ++ []) := r.append .nil
  have hl : (us ++ []).length = ps.length := by
    rw [← r2.length]
    exact F.len _ _ _ _ q
  show wpAny _ _ (call (.ref f) us) _ _ _
  refine wpAny_call (codeAny_mono (F.go X.A hgd X.stack s1 H1 ⟨us, []⟩ (us ++ []) (vs ++ []) Q E hr I1.env0
    (hb s1 us I1.kIn hl) r2 q) ?_)
  intro r s' hq
  rcases r with er | (_ | _ | _ | u)
  · exact hx pins σ H1 s1 er s' I1 hq
  · exact hq.elim
  · exact hq.elim
  · exact hq.elim
  · exact I1.after hq
end

end SQ
/-! repr of a list of data. -/
namespace SQ
open PySem PySem.Spec PyProof.Rows L2

mutual
theorem dp_plain {K : PySem.W.Frag} {H : Hp} : ∀ (d : PyData) (v : V), Dp K H v d → d.hasDict = false
  | .none, _, _ => by simp only [PyData.hasDict]
  | .bool _, _, _ => by simp only [PyData.hasDict]
  | .int _, _, _ => by simp only [PyData.hasDict]
  | .str _, _, _ => by simp only [PyData.hasDict]
  | .list ds, _, h => by
    cases h with
    | lst _ ha =>
      simp only [PyData.hasDict]
      exact dpAll_plain ds _ ha
  | .tuple ds, _, h => by
    cases h with
    | tup _ ha =>
      simp only [PyData.hasDict]
      exact dpAll_plain ds _ ha
  | .dict _, _, h => nomatch h
theorem dpAll_plain {K : PySem.W.Frag} {H : Hp} : ∀ (ds : List PyData) (vs : List V), DpAll K H vs ds → PyData.hasDictAll ds = false
  | [], _, _ => by simp only [PyData.hasDictAll]
  | d :: ds, _, h => by
    cases h with
    | cons h1 h2 =>
      simp only [PyData.hasDictAll, dp_plain d _ h1, dpAll_plain ds _ h2, Bool.or_false]
end

/-- None, a bool, an int, a text, an empty dict -/
inductive Flat (H : Hp) : V → PyData → Prop
  | non : Flat H .non .none
  | bl (b : Bool) : Flat H (.bl b) (.bool b)
  | int (i : Int) : Flat H (.int i) (.int i)
  | str (x : Str) : Flat H (.str x) (.str x)
  | dic {a : Addr} (h : H a = some (.dK [])) : Flat H (.ref a) (.dict [])
inductive FlatAll (H : Hp) : List V → List PyData → Prop
  | nil : FlatAll H [] []
  | cons {v : V} {vs : List V} {d : PyData} {ds : List PyData} : Flat H v d → FlatAll H vs ds → FlatAll H (v :: vs) (d :: ds)

section
variable {X : Cx} {pins : List (Addr × Obj)} {σ : L2.St} {H : Hp} {s : Shared}
theorem flat_reads (I : Inv X pins σ H s) {d : PyData} {v : V} {u : Value} (h : Flat H v d) (r : RelV v u) :
    ∃ as, Reads s.heap u d as ∧ sysModules ∉ as := by
  cases h with
  | non =>
    obtain rfl : u = Value.none := r
    exact ⟨_, Reads.none, by simp⟩
  | bl b =>
    obtain rfl : u = Value.bool b := r
    exact ⟨_, Reads.bool b, by simp⟩
  | int i =>
    obtain ⟨t, rfl⟩ := r
    exact ⟨_, Reads.int i t, by simp⟩
  | str x =>
    obtain ⟨t, rfl⟩ := r
    exact ⟨_, Reads.str x t, by simp⟩
  | @dic a ha =>
    obtain rfl : u = Value.ref a := r
    obtain ⟨_, na, vs, kv, o, es, ep, h1, h2, h3, h4⟩ := (show ObjOk X.prog X.w H s.heap a (.dK []) from I.hok a _ ha)
    cases kv
    have he : es.toList = [] := by
      have h5 := h4.2.1
      generalize es.toList = l at h5
      cases h5
      rfl
    refine ⟨a :: [] ++ [], Reads.dict (kvs := []) h1 h2.1 h3 (by rw [he]; exact .nil) (by rw [he]; exact .nil), ?_⟩
    intro hm
    have e : sysModules = a := by simpa using hm
    rw [← e] at na
    exact absurd na (by decide)
theorem flatAll_reads (I : Inv X pins σ H s) : ∀ {ds : List PyData} {vs : List V} {us : List Value}, FlatAll H vs ds → Vals vs us →
    ∃ as, ReadsAll s.heap us ds as ∧ sysModules ∉ as
  | _, _, _, .nil, .nil => ⟨[], .nil, by simp⟩
  | _, _, _, .cons h hs, .cons r rs => by
    obtain ⟨as, a1, a2⟩ := flat_reads I h r
    obtain ⟨bs, b1, b2⟩ := flatAll_reads I hs rs
    exact ⟨_, .cons a1 b1, fun hm => (List.mem_append.mp hm).elim a2 b2⟩
end

/-- repr of a list, its items ds -/
def rReprL (K : PySem.W.Frag) : List V → Hp → VK → Prop := fun xs H Q => ∃ (a : Addr) (vs : List V) (ds : List PyData), xs = [.ref a] ∧ SqL K H a vs ∧
  (DpAll K H vs ds ∨ FlatAll H vs ds) ∧ (PyData.list ds).showable = true ∧ (PyData.list ds).depth ≤ 60 ∧ (PyData.list ds).shown.length ≤ sizeLine ∧ Q (.str (PyData.list ds).shown) H
theorem cr_reprL {X : Cx} (hg : X.A.guards = some []) (hu : X.A.units + 64 < cLine) : CallR X (.builtin "repr") (rReprL X.K) := by
  intro pins s σ H xs us Q I r h
  obtain ⟨a, vs, ds, rfl, hL, hd, hs, hdp, hz, q⟩ := h
  obtain ⟨its, rv, ⟨o, n, e, c, _, dt⟩, _⟩ := I.list hL
  rw [Vals.ref1 r]
  have fin : ∀ (h' : Heap) (u tk : Nat), (∀ b o, s.heap.get? b = some o → h'.get? b = some o) → EP X pins σ Q (.str (PyData.list ds).shown u) { s with heap := h', toks := tk } :=
    fun h' u tk hk => ⟨.str _, H, I.kept hk, ⟨u, rfl⟩, q⟩
  rcases hd with hd | hd
  · obtain ⟨as, rd⟩ := Dp.reads I (.list ds) (.ref a) (.ref a) (.lst hL hd) rfl
    exact repr_of_reads' (h₀ := s.heap) rd hs (PyData.noDict_hsm (dp_plain _ _ (Dp.lst hL hd))) hg (by omega) (fun _ _ z => z) fin hz
  · obtain ⟨as, h4, hno⟩ := flatAll_reads I hd rv
    have hz' : (listText (PyData.shownAll ds)).length ≤ sizeLine := by simpa only [PyData.shown] using hz
    have hs' : PyData.showableAll ds = true := by simpa [PyData.showable] using hs
    obtain ⟨bs, hb, hk⟩ := ReprAllK.of_readsAll (prog := X.prog) (w := X.w) h4 hs' (fun _ => hno) (fun t ht => Nat.le_trans (listText_mem_le ht) hz')
    have whole : Reads s.heap (.ref a) (.list ds) (a :: as) := .list (vs := its.toArray) e c dt (by simpa using h4)
    have hna : a ∉ bs := not_mem_of_deeper whole (by simp only [PyData.depth]; omega) hb
    refine call_repr_slot (by omega) ⟨o, e, c⟩ F.slot_list_repr.toG ?_
    simp only [PyData.depth] at hdp
    have fin' : ∀ (h' : Heap) (u tk : Nat), (∀ b o, s.heap.get? b = some o → h'.get? b = some o) →
        (∃ x t, Value.str (listText (PyData.shownAll ds)) u = .str x t ∧ EP X pins σ Q (.str (listText (PyData.shownAll ds)) u) { s with heap := h', toks := tk }) :=
      fun h' u tk z => ⟨_, _, rfl, by have := fin h' u tk z; simpa only [PyData.shown] using this⟩
    cases its with
    | nil =>
      cases h4
      simp only [PyData.shownAll, listText_nil] at fin'
      exact call_list_repr_empty ⟨o, e, c⟩ e dt (fin' s.heap _ _ fun _ _ z => z)
    | cons y l =>
      exact call_list_reprK (h₀ := s.heap) e c dt hna (by simpa using hk.length_eq) (fun i y e => hk.item i y (by simpa using e)) hg (fun b _ => Clear.nil b)
        (by show X.A.units + 1 + (PyData.depthAll ds + 1) < cLine; omega) (fun _ _ z => z) fin' hz'
end SQ
namespace SQ9
open PySem L2 SQ
/-! ### the law's frame: the urn, the draws, the law itself -/
def top (i : Nat) : Stmt := PySem.Challenge.pw_stackquotes_k41_effects_of_words.main.body.getD i (.Pass ⟨0, 0, 0, 0⟩)
abbrev sPur : Stmt := top 93
abbrev sDrw : Stmt := top 94
/-- the built-ins' names are still theirs -/
structure Blt (mg : Str → Option Value) : Prop where
  int : mg "int" = none
  len : mg "len" = none
  abs : mg "abs" = none
  divmod : mg "divmod" = none
  max : mg "max" = none
  min : mg "min" = none
  range : mg "range" = none
  all : mg "all" = none
/-- all that stood stands, but at u -/
def But (u : Addr) (H H' : Hp) : Prop := ∀ b o, H b = some o → b ≠ u → H' b = some o
theorem But.refl {u : Addr} {H : Hp} : But u H H := fun _ _ e _ => e
theorem But.trans {u : Addr} {H H1 H2 : Hp} (a : But u H H1) (b : But u H1 H2) : But u H H2 := fun c o e n => b c o (a c o e n) n
theorem But.new {u p : Addr} {H H' : Hp} {o : HO} (a : But u H H') (h : H' p = none) : But u H (upd H' p o) := fun c x e n => by
  have e1 := a c x e n
  rw [upd_ne (ne_of_none e1 h)]
  exact e1
theorem But.put {u : Addr} {H H' : Hp} {o : HO} (a : But u H H') : But u H (upd H' u o) := fun c x e n => by
  rw [upd_ne n]
  exact a c x e n
theorem Same.but {u : Addr} {H H' : Hp} (a : Same H H') : But u H H' := fun c x e _ => a c x e
theorem same_new {p : Addr} {H H' : Hp} {o : HO} (a : Same H H') (h : H' p = none) : Same H (upd H' p o) := fun c x e => by
  have e1 := a c x e
  rw [upd_ne (ne_of_none e1 h)]
  exact e1
theorem keptT {σ : St} {H : Hp} {A B : Hp → Prop} (h : A H) : tYes σ H (fun b H3 => if b = true then A H3 else B H3) := by
  show (if true = true then A H else B H)
  rw [if_pos rfl]
  exact h
def urnAt (H : Hp) (u : Addr) : Prop := ∃ x y z : Int, H u = some (.lst [.int x, .int y, .int z])
theorem seq_mid {t u : TS} {D : Ends} {σ : L2.St} {H : Hp} (I : L2.St → Hp → Prop) (h1 : ∀ N : L2.St → Hp → Prop, (∀ σ' H', I σ' H' → N σ' H') → t { D with nx := N } σ H) (h2 : ∀ σ' H', I σ' H' → u D σ' H') : tSeq t u D σ H := h1 (u D) h2
def spPur (K : PySem.W.Frag) : Sp := fun vs H Q _ => ∃ (a : Addr) (ns : List Int) (k : Nat), vs = [.ref a, .int k] ∧ SqL K H a (ns.map V.int) ∧ k ≤ 63 ∧
  ∀ (H' : Hp) (p : Addr), Same H H' → H p = none → urnAt H' p → Q (.ref p) H'
def spDrw : Sp := fun vs H Q _ => ∃ (u : Addr) (m : Int), vs = [.ref u, .int m] ∧ urnAt H u ∧ 0 < m ∧ m < 1073741824 ∧
  ∀ (H' : Hp) (d : Int), 0 ≤ d → d < m → urnAt H' u → But u H H' → Q (.int d) H'
section
variable {P : Program} {w : World} {K : PySem.W.Frag} {mg : Str → Option Value} {base : Heap}
abbrev nPur : List Str := ["_law_script", "_law_k", "_law_cell", "_law_one", "_law_digits"]
theorem scPur : FnScope nPur ["_law_script", "_law_k"] (defScope sPur) := ⟨rfl, rfl, rfl, by decide +kernel, rfl, by decide +kernel, by decide +kernel⟩
theorem ok_pur {f : Addr} {fd : FuncData} (F : Fun K "_law_purse" "_law_purse" sPur f fd) (B : Blt mg) : FnOk P w K mg base CX0 1 f fd ["_law_script", "_law_k"] (spPur K) := by
  refine F.ok scPur (fun vs H Q E h => ?_) (fun cdv A outer s H vs Q E hr h => ?_)
  · obtain ⟨a, ns, k, rfl, _⟩ := h
    rfl
  · obtain ⟨a, ns, k, rfl, hS, hk, q⟩ := h
    refine ⟨_, pss_cons (ps_set (i := 2) scPur.nd rfl (.inl rfl) (pe_op op_add (pe_op op_add (pe_op op_mul (pe_op op_mul pe_int (pv 1)) (pv 1)) (pe_op op_mul pe_int (pv 1))) pe_int))
      (pss_cons (ps_if (pt_cmpR op_lt (pv 1) (pe_callB call_len_seq (by rfl) B.len PySem.boot_len (pa_cons (pv 0) pa_nil)) (nomark _))
        (pss_one (ps_set (i := 2) scPur.nd rfl (.inl rfl) (pe_ix ix_list (pv 0) (pv 1) (fun _ _ => rfl))))
        (pss_one (ps_for PassesOwn.never rfl (pi_list (pe_slice sl_list (pv 0) po_none (po_some pe_int))) (pg_name (i := 3) scPur.nd rfl (.inl rfl))
          (pss_one (ps_set (i := 2) scPur.nd rfl (.inl rfl) (pe_op op_mod (pe_callTy call_int1 (by rfl) B.int (by decide +kernel) (pa_cons (pe_op op_add (pe_op op_mul (pv 2) pe_int) (pv 3)) pa_nil)) pe_int))))))
      (pss_cons (ps_set (i := 4) scPur.nd rfl (.inl rfl) (pe_ifExp (PW.pt (pw_or (pt_cmpR op_lt (pv 2) pe_int (nomark _)) (pw_or1 (pt_cmpR op_ge (pv 2) (pe_op op_pow pe_int pe_int) (nomark _)))))
          (pe_callB call_abs (by rfl) B.abs (by decide +kernel) (pa_cons (pv 2) pa_nil)) pe_int))
      (pss_one (ps_ret (pe_lst (pa_cons (pe_op op_mod (pe_callTy call_int1 (by rfl) B.int (by decide +kernel) (pa_cons (pv 2) pa_nil)) pe_int) (pa_cons (pv 4) (pa_cons pe_int pa_nil)))))))), ?_⟩
    refine seq_mid (fun σ G => ∃ z, σ = [some (.ref a), some (.int k), some (.int z), none, none] ∧ G = H) (fun N hN => ?_) ?_
    · refine ⟨_, rfl, _, _, rfl, rfl, .inl ⟨by decide, by decide⟩, _, rfl, _, _, rfl, rfl, .inr ⟨by omega, by omega⟩, _, rfl, _, _, rfl, rfl, .inl ⟨by decide, by decide⟩, _, _, rfl, rfl, _, _, rfl, rfl, hN _ _ ⟨_, rfl, rfl⟩⟩
    rintro _ _ ⟨z0, rfl, rfl⟩
    rename_i H
    refine seq_mid (fun σ G => ∃ z v3, σ = [some (.ref a), some (.int k), some (.int z), v3, none] ∧ Same H G) (fun N hN => ?_) ?_
    · refine ⟨_, rfl, _, rfl, a, _, rfl, .inl hS, _, _, rfl, rfl, _, rfl, ?_⟩
      refine ite2 (fun hlt => ?_) (fun _ => ?_)
      · have hlt' : (k : Int) < ((ns.map V.int).length : Int) := of_decide_eq_true hlt
        have hk2 : k < ns.length := by rw [List.length_map] at hlt'; omega
        exact ⟨_, rfl, _, rfl, a, _, _, _, rfl, rfl, hS, atI_nat (by rw [List.getElem?_map, List.getElem?_eq_getElem hk2]; rfl), hN _ _ ⟨_, _, rfl, fun _ _ e => e⟩⟩
      · refine ⟨_, rfl, _, rfl, a, _, rfl, hS, fun p hp => ?_⟩
        have hp' : SqL K (upd H p (.lst (cutV (ns.map V.int) none (some 3)))) p (cutV (ns.map V.int) none (some 3)) := SqL.of upd_same
        have s1 : Same H (upd H p (.lst (cutV (ns.map V.int) none (some 3)))) := same_new (fun _ _ e => e) hp
        refine ⟨p, rfl, ⟨_, hp'⟩, for_list (K := K) (a := p) (xs := cutV (ns.map V.int) none (some 3))
          (fun i σ H2 => ∃ (m : Int) (v : Option V), σ = [some (.ref a), some (.int k), some (.int m), v, none] ∧ H2 = upd H p (.lst (cutV (ns.map V.int) none (some 3))))
          ⟨_, _, rfl, rfl⟩ (fun i σ H2 _ ⟨_, _, _, e2⟩ => by rw [e2]; exact hp') ?_ ?_⟩
        · rintro i y σ H2 hi ⟨m, v, rfl, rfl⟩
          obtain ⟨z, rfl⟩ : ∃ z, y = V.int z := by
            have hm : y ∈ ns.map V.int := List.mem_of_mem_drop (List.mem_of_mem_take (List.mem_of_getElem? hi))
            obtain ⟨z, _, e⟩ := List.mem_map.mp hm
            exact ⟨z, e.symm⟩
          refine ⟨_, rfl, _, _, rfl, rfl, .inr ⟨by decide, by decide⟩, _, rfl, _, _, rfl, rfl, .inl ⟨_, rfl, _, _, rfl, rfl, (by show (0 : Int) < 2147483249; decide), ?_⟩⟩
          exact ⟨_, _, rfl, rfl⟩
        · rintro σ H2 ⟨m, v, rfl, rfl⟩
          exact hN _ _ ⟨_, _, rfl, s1⟩
    rintro _ G ⟨z, v3, rfl, s1⟩
    refine seq_mid (fun σ G' => ∃ y : Int, σ = [some (.ref a), some (.int k), some (.int z), v3, some (.int y)] ∧ G' = G) (fun N hN => ?_) ?_
    · refine ⟨_, rfl, _, _, rfl, rfl, _, rfl, ?_⟩
      refine ite2 (fun _ => iteT ?_) (fun _ => ⟨_, rfl, _, _, rfl, rfl, ⟨by decide, by decide, by decide⟩, _, _, rfl, rfl, _, rfl, ite2 (fun _ => ?_) (fun _ => ?_)⟩)
      · exact ⟨_, rfl, _, rfl, hN _ _ ⟨_, rfl, rfl⟩⟩
      · exact ⟨_, rfl, _, rfl, hN _ _ ⟨_, rfl, rfl⟩⟩
      · exact hN _ _ ⟨_, rfl, rfl⟩
    rintro _ _ ⟨y, rfl, rfl⟩
    rename_i G
    exact ⟨_, rfl, .inl ⟨_, rfl, _, _, rfl, rfl, (by show (0 : Int) < 2147483249; decide), _, rfl, (by show 3 ≤ sizeLine; decide), fun p2 hp2 => q _ p2 (same_new s1 hp2) (s1.free hp2) ⟨_, _, _, upd_same⟩⟩⟩
abbrev nDrw : List Str := ["_law_purse_here", "_law_many", "_law_seed", "_law_step", "_law_digit"]
theorem scDrw : FnScope nDrw ["_law_purse_here", "_law_many"] (defScope sDrw) := ⟨rfl, rfl, rfl, by decide +kernel, rfl, by decide +kernel, by decide +kernel⟩
theorem ok_drw {f : Addr} {fd : FuncData} (F : Fun K "_law_draw" "_law_draw" sDrw f fd) (B : Blt mg) : FnOk P w K mg base CX0 1 f fd ["_law_purse_here", "_law_many"] spDrw := by
  refine F.ok scDrw (fun vs H Q E h => ?_) (fun cdv A outer s H vs Q E hr h => ?_)
  · obtain ⟨u, m, rfl, _⟩ := h
    rfl
  · obtain ⟨u, m, rfl, ⟨x, y, z, hu⟩, m0, m1, q⟩ := h
    refine ⟨_, pss_cons (ps_asg (pe_op op_add (pe_ix ix_list (pv 0) pe_int (fun _ _ => rfl)) pe_int) (pg_sub (pv 0) pe_int set_list))
      (pss_cons (ps_set (i := 2) scDrw.nd rfl (.inl rfl) (pe_callTy call_int1 (by rfl) B.int (by decide +kernel) (pa_cons (pe_ix ix_list (pv 0) pe_int (fun _ _ => rfl)) pa_nil)))
      (pss_cons (ps_set (i := 3) scDrw.nd rfl (.inl rfl) (pe_op op_add (pe_op op_mod (pe_callTy call_int1 (by rfl) B.int (by decide +kernel) (pa_cons (pv 2) pa_nil)) pe_int) pe_int))
      (pss_cons (ps_asg (pe_op op_mod (pe_callTy call_int1 (by rfl) B.int (by decide +kernel) (pa_cons (pe_op op_add (pe_op op_add (pe_op op_mul (pv 2) (pv 3)) (pe_op op_mul pe_int (pe_ix ix_list (pv 0) pe_int (fun _ _ => rfl)))) pe_int) pa_nil)) pe_int) (pg_sub (pv 0) pe_int set_list))
      (pss_cons (ps_if (pt_cmpR op_gt (pe_ix ix_list (pv 0) pe_int (fun _ _ => rfl)) pe_int (nomark _))
        (pss_cons (ps_asg (pe_callB call_divmod (by rfl) B.divmod (by decide +kernel) (pa_cons (pe_ix ix_list (pv 0) pe_int (fun _ _ => rfl)) (pa_cons (pv 1) pa_nil)))
          (pg_tup rfl (pgs_cons (pg_sub (pv 0) pe_int set_list) (pgs_cons (pg_name (i := 4) scDrw.nd rfl (.inl rfl)) pgs_nil))))
        (pss_one (ps_ret (pv 4)))) pss_nil)
      (pss_one (ps_ret (pe_op op_mod (pe_callTy call_int1 (by rfl) B.int (by decide +kernel) (pa_cons (pe_op op_fdiv (pe_ix ix_list (pv 0) pe_int (fun _ _ => rfl)) pe_int) pa_nil)) (pv 1)))))))), ?_⟩
    refine ⟨_, rfl, u, _, _, _, rfl, rfl, SqL.of hu, rfl, _, _, rfl, rfl, _, rfl, u, _, _, 2, rfl, rfl, hu, rfl, ?_⟩
    have h1 : (upd H u (.lst ([V.int x, V.int y, V.int z].set 2 (V.int (z + 1))))) u = some (.lst [V.int x, V.int y, V.int (z + 1)]) := upd_same
    have b1 : But u H (upd H u (.lst ([V.int x, V.int y, V.int z].set 2 (V.int (z + 1))))) := But.refl.put
    generalize upd H u (.lst ([V.int x, V.int y, V.int z].set 2 (V.int (z + 1)))) = H1 at h1 b1 ⊢
    refine ⟨_, rfl, u, _, _, _, rfl, rfl, SqL.of h1, rfl, .inl ⟨_, rfl, ?_⟩⟩
    refine ⟨_, rfl, .inl ⟨_, rfl, _, _, rfl, rfl, (by show (0 : Int) < 30011; decide), _, _, rfl, rfl, ?_⟩⟩
    have g0 := Int.emod_nonneg x (by decide : (30011 : Int) ≠ 0)
    have g1 := Int.emod_lt_of_pos x (by decide : (0 : Int) < 30011)
    refine ⟨_, rfl, _, rfl, _, _, rfl, rfl, .inr ⟨by omega, by omega⟩, _, rfl, u, _, _, _, rfl, rfl, SqL.of h1, rfl, _, _, rfl, rfl, .inl ⟨by decide, by decide⟩, _, _, rfl, rfl, _, _, rfl, rfl, .inl ⟨_, rfl, _, _, rfl, rfl, (by show (0 : Int) < 2147483249; decide), _, rfl, u, _, _, 0, rfl, rfl, h1, rfl, ?_⟩⟩
    generalize hx : ([V.int x, V.int y, V.int (z + 1)].set 0 _) = l2
    obtain ⟨x2, rfl⟩ : ∃ x2 : Int, l2 = [V.int x2, V.int y, V.int (z + 1)] := ⟨_, hx.symm⟩
    clear hx
    have h2 : (upd H1 u (.lst [V.int x2, V.int y, V.int (z + 1)])) u = some (.lst [V.int x2, V.int y, V.int (z + 1)]) := upd_same
    have b2 : But u H (upd H1 u (.lst [V.int x2, V.int y, V.int (z + 1)])) := b1.put
    generalize upd H1 u (.lst [V.int x2, V.int y, V.int (z + 1)]) = H2 at h2 b2 ⊢
    refine ⟨_, rfl, u, _, _, _, rfl, rfl, SqL.of h2, rfl, _, _, rfl, rfl, _, rfl, ?_⟩
    refine ite2 (fun _ => ?_) (fun _ => ?_)
    · refine ⟨_, rfl, u, _, _, _, rfl, rfl, SqL.of h2, rfl, _, rfl, _, _, rfl, ⟨m0, m1⟩, fun p hp => ?_⟩
      have hup : u ≠ p := ne_of_none h2 hp
      refine ⟨p, _, rfl, SqT.of upd_same, rfl, _, _, rfl, ⟨_, rfl, u, _, _, 1, rfl, rfl, by rw [upd_ne hup]; exact h2, rfl, _, _, rfl, rfl, ?_⟩⟩
      refine ⟨_, rfl, q _ _ (Int.emod_nonneg _ (by omega)) (Int.emod_lt_of_pos _ m0) ⟨_, _, _, upd_same⟩ ((b2.new hp).put)⟩
    · refine ⟨_, rfl, u, _, _, _, rfl, rfl, SqL.of h2, rfl, _, _, rfl, rfl, ⟨by decide, by decide⟩, .inl ⟨_, rfl, _, rfl, _, _, rfl, rfl, m0, ?_⟩⟩
      exact q _ _ (Int.emod_nonneg _ (by omega)) (Int.emod_lt_of_pos _ m0) ⟨_, _, _, h2⟩ b2
/-- the draws stand where they stand -/
structure Drw (K : PySem.W.Frag) (mg : Str → Option Value) (fD : Addr) (dD : FuncData) : Prop where
  g : mg "_law_draw" = some (.ref fD)
  F : Fun K "_law_draw" "_law_draw" sDrw fD dD
  b : Binds K dD ["_law_purse_here", "_law_many"] []
end
end SQ9
namespace SQ9
open PySem L2 SQ
abbrev sPI : Stmt := top 26
abbrev sNm : Stmt := top 27
abbrev sFN : Stmt := top 28
abbrev sAr : Stmt := top 70
abbrev sEn : Stmt := top 71
/-- the kinds of values that come here -/
inductive Kd (H : Hp) : V → String → Prop
  | non : Kd H .non "NoneType"
  | bl (b : Bool) : Kd H (.bl b) "bool"
  | int (i : Int) : Kd H (.int i) "int"
  | str (x : Str) (h : x.length ≤ 1000) : Kd H (.str x) "str"
  | lst {a : Addr} {xs : List V} (e : H a = some (.lst xs)) : Kd H (.ref a) "list"
  | tup {a : Addr} {xs : List V} (e : H a = some (.tup xs)) : Kd H (.ref a) "tuple"
  | dic {a : Addr} {kvs : List (Key × V)} (e : H a = some (.dK kvs)) : Kd H (.ref a) "dict"
theorem Kd.ty {K : PySem.W.Frag} {H : Hp} {v : V} {t : String} (k : Kd H v t) : TyX K H v (.type t) := by
  cases k with
  | non => exact .base .non
  | bl b => exact .base (.bl b)
  | int i => exact .base (.int i)
  | str x h => exact .base (.str x)
  | lst e => exact .base (.lst e)
  | tup e => exact .base (.tup e)
  | dic e => exact .base (.dK e)
theorem Kd.same {H H' : Hp} {v : V} {t : String} (s : Same H H') (k : Kd H v t) : Kd H' v t := by
  cases k with
  | non => exact .non
  | bl b => exact .bl b
  | int i => exact .int i
  | str x h => exact .str x h
  | lst e => exact .lst (s _ _ e)
  | tup e => exact .tup (s _ _ e)
  | dic e => exact .dic (s _ _ e)
/-- isinstance(x, n) -/
theorem isi_ok {K : PySem.W.Frag} {H : Hp} {v : V} {t n : String} {b : Bool} {Q : VK} (k : Kd H v t) (h : kitB t n = some b) (q : Q (.bl b) H) : rIsi K [v, .ty n] H Q := ⟨v, .ty n, .type t, .type n, b, rfl, .ty n, k.ty, kit_ty h, q⟩
def isInt : V → Bool
  | .int _ => true
  | _ => false
def letters : List Nat := [97, 98, 99, 100, 101, 102, 103, 104, 105, 106, 107, 108, 109, 110, 111, 112, 113, 114, 115, 116, 117, 118, 119, 120, 121, 122]
def nameOk (n : Str) : Bool := decide (1 ≤ (n.length : Int)) && decide ((n.length : Int) ≤ 8) && n.cps.toList.all fun c => decide (c ∈ letters)
def isNm : V → Bool
  | .str n => nameOk n
  | _ => false
def cores : List Str := ["call", "dip", "curry", "compose", "choose"]
def isFree : V → Bool
  | .str n => nameOk n && !decide (n ∈ cores)
  | _ => false
def isAr : V → Bool
  | .int i => decide (0 ≤ i) && decide (i ≤ 3)
  | _ => false
structure B2 (mg : Str → Option Value) : Prop where
  isi : mg "isinstance" = none
  int : mg "int" = none
  bool : mg "bool" = none
  str : mg "str" = none
  tuple : mg "tuple" = none
  len : mg "len" = none
  all : mg "all" = none
  lets : ∃ t, mg "LETTERS" = some (.str "abcdefghijklmnopqrstuvwxyz" t)
  longest : ∃ t, mg "LONGEST_NAME" = some (.int 8 t)
  ar : ∃ t, mg "MOST_ARITY" = some (.int 3 t)
section
variable {P : Program} {w : World} {K : PySem.W.Frag} {mg : Str → Option Value} {base : Heap}
def spV (f : V → Bool) : Sp := fun vs H Q _ => ∃ (v : V) (t : String), vs = [v] ∧ Kd H v t ∧ ∀ H', Same H H' → Q (.bl (f v)) H'
theorem scPI : FnScope ["value"] ["value"] (defScope sPI) := ⟨rfl, rfl, rfl, by decide +kernel, rfl, by decide +kernel, by decide +kernel⟩
theorem ok_pi {f : Addr} {fd : FuncData} (F : Fun K "is_plain_integer" "is_plain_integer" sPI f fd) (B : B2 mg) : FnOk P w K mg base CX0 1 f fd ["value"] (spV isInt) := by
  refine F.ok scPI (fun vs H Q E h => ?_) (fun cdv A outer s H vs Q E hr h => ?_)
  · obtain ⟨v, t, rfl, _⟩ := h
    rfl
  · obtain ⟨v, t, rfl, k, q⟩ := h
    have q0 := q H (fun _ _ e => e)
    refine ⟨_, pss_one (ps_ret (pe_and (pe_callB call_isi (by rfl) B.isi (by decide +kernel) (pa_cons (pv 0) (pa_cons (pe_bltn (v := .ty "int") (by rfl) B.int (by decide +kernel) rfl) pa_nil)))
      (pe_one (pe_not (pe_callB call_isi (by rfl) B.isi (by decide +kernel) (pa_cons (pv 0) (pa_cons (pe_bltn (v := .ty "bool") (by rfl) B.bool (by decide +kernel) rfl) pa_nil))))))), ?_⟩
    refine ⟨_, rfl, ?_⟩
    cases k with
    | non => exact ⟨_, _, _, _, false, rfl, .ty "int", Kd.non.ty, kit_ty (by decide +kernel), _, rfl, iteF q0⟩
    | bl b => exact ⟨_, _, _, _, true, rfl, .ty "int", (Kd.bl b).ty, kit_ty (by decide +kernel), _, rfl, iteT ⟨_, rfl, _, _, _, _, true, rfl, .ty "bool", (Kd.bl b).ty, kit_ty (by decide +kernel), _, rfl, q0⟩⟩
    | int i => exact ⟨_, _, _, _, true, rfl, .ty "int", (Kd.int i).ty, kit_ty (by decide +kernel), _, rfl, iteT ⟨_, rfl, _, _, _, _, false, rfl, .ty "bool", (Kd.int i).ty, kit_ty (by decide +kernel), _, rfl, q0⟩⟩
    | str x hx => exact ⟨_, _, _, _, false, rfl, .ty "int", (Kd.str x hx).ty, kit_ty (by decide +kernel), _, rfl, iteF q0⟩
    | lst e => exact ⟨_, _, _, _, false, rfl, .ty "int", (Kd.lst e).ty, kit_ty (by decide +kernel), _, rfl, iteF q0⟩
    | tup e => exact ⟨_, _, _, _, false, rfl, .ty "int", (Kd.tup e).ty, kit_ty (by decide +kernel), _, rfl, iteF q0⟩
    | dic e => exact ⟨_, _, _, _, false, rfl, .ty "int", (Kd.dic e).ty, kit_ty (by decide +kernel), _, rfl, iteF q0⟩
theorem scNm : FnScope ["value", "letter"] ["value"] (defScope sNm) := ⟨rfl, rfl, rfl, by decide +kernel, rfl, by decide +kernel, by decide +kernel⟩
theorem ok_nm {f : Addr} {fd : FuncData} (F : Fun K "is_name" "is_name" sNm f fd) (B : B2 mg) : FnOk P w K mg base CX0 1 f fd ["value"] (spV isNm) := by
  obtain ⟨t1, hlet⟩ := B.lets
  obtain ⟨t2, hlon⟩ := B.longest
  refine F.ok scNm (fun vs H Q E h => ?_) (fun cdv A outer s H vs Q E hr h => ?_)
  · obtain ⟨v, t, rfl, _⟩ := h
    rfl
  · obtain ⟨v, t, rfl, k, q⟩ := h
    have q0 := q H (fun _ _ e => e)
    refine ⟨_, pss_cons (ps_if (PW.pt (pw_or (pt_not (pt_val (pe_callB call_isi (by rfl) B.isi (by decide +kernel) (pa_cons (pv 0) (pa_cons (pe_bltn (v := .ty "str") (by rfl) B.str (by decide +kernel) rfl) pa_nil)))))
        (pw_or1 (pt_not (pt_chain op_le op_le pe_int (pe_callB call_len_str (by rfl) B.len PySem.boot_len (pa_cons (pv 0) pa_nil)) (pe_glob (v := .int 8) rfl hlon ⟨_, rfl⟩))))))
        (pss_one (ps_ret pe_bl)) pss_nil)
      (pss_one (ps_ret (pe_callB (cr_all rfl) (by rfl) B.all (by decide +kernel) (pa_cons (pe_lc (own := [("letter", 1)]) (g := gName 1) (tt := tYes) rfl scNm.nd (pi_str (pv 0)) (blkOk_by (N := ["value", "letter"]) (sc := defScope sNm) (by decide +kernel))
        (fun _ _ _ _ _ => pg_name (i := 1) scNm.nd rfl (Or.inl rfl)) (fun _ _ _ _ _ => pts_nil) (fun _ _ _ _ _ => pe_cmpR op_in_sign (pv 1) (pe_glob (v := .str "abcdefghijklmnopqrstuvwxyz") rfl hlet ⟨_, rfl⟩) rfl)) pa_nil)))), ?_⟩
    refine ⟨_, rfl, ?_⟩
    cases k with
    | non => exact ⟨_, _, _, _, false, rfl, .ty "str", Kd.non.ty, kit_ty (by decide +kernel), _, rfl, iteT (iteT q0)⟩
    | bl b => exact ⟨_, _, _, _, false, rfl, .ty "str", (Kd.bl b).ty, kit_ty (by decide +kernel), _, rfl, iteT (iteT q0)⟩
    | int i => exact ⟨_, _, _, _, false, rfl, .ty "str", (Kd.int i).ty, kit_ty (by decide +kernel), _, rfl, iteT (iteT q0)⟩
    | lst e => exact ⟨_, _, _, _, false, rfl, .ty "str", (Kd.lst e).ty, kit_ty (by decide +kernel), _, rfl, iteT (iteT q0)⟩
    | tup e => exact ⟨_, _, _, _, false, rfl, .ty "str", (Kd.tup e).ty, kit_ty (by decide +kernel), _, rfl, iteT (iteT q0)⟩
    | dic e => exact ⟨_, _, _, _, false, rfl, .ty "str", (Kd.dic e).ty, kit_ty (by decide +kernel), _, rfl, iteT (iteT q0)⟩
    | str x hx =>
      refine ⟨_, _, _, _, true, rfl, .ty "str", (Kd.str x hx).ty, kit_ty (by decide +kernel), _, rfl, iteF ?_⟩
      have hx' : x.length ≤ sizeLine := Nat.le_of_lt (small1000 hx)
      refine ⟨_, rfl, x, rfl, hx', _, _, rfl, rfl, _, rfl, ?_⟩
      refine ite2 (fun h1 => ⟨_, _, rfl, rfl, _, rfl, ?_⟩) (fun h1 => ⟨_, rfl, iteT ?_⟩)
      · by_cases h8 : (x.length : Int) ≤ 8
        · rw [decide_eq_true h8]
          refine iteF ?_
          have hq : isNm (.str x) = x.cps.toList.all fun c => decide (c ∈ letters) := by
            show (decide (1 ≤ (x.length : Int)) && decide ((x.length : Int) ≤ 8) && x.cps.toList.all fun c => decide (c ∈ letters)) = _
            rw [h1, decide_eq_true h8]
            rfl
          rw [hq] at q
          refine ⟨_, rfl, x, rfl, fun D hD => ?_⟩
          refine lc_it (walk_str (z := x)) (fun i H2 => H2 = upd H D (.lst (((x.cps.toList.take i).map fun c => decide (c ∈ letters)).map V.bl))) rfl (fun _ _ _ _ => trivial) ?_ ?_
          · rintro i v H2 H3 hi rfl ⟨rfl, c, hc, rfl⟩
            refine ⟨rfl, keptT ⟨_, rfl, c, _, rfl, rfl, _, upd_same, small1000 ?_, ?_⟩⟩
            · have hz : x.cps.toList.length ≤ 1000 := hx
              rw [List.length_map, List.length_map, List.length_take]
              exact Nat.le_trans (Nat.min_le_right _ _) hz
            · have e1 : (("abcdefghijklmnopqrstuvwxyz" : Str).cps.toList) = letters := by decide +kernel
              have e2 : x.cps.toList.take (i + 1) = x.cps.toList.take i ++ [c] := by
                rw [List.take_add_one]
                have : x.cps.toList[i]? = some c := by simpa using hc
                rw [this]
                rfl
              rw [upd_upd, e1, e2, List.map_append, List.map_append]
              rfl
          · rintro H2 rfl
            refine ⟨D, _, rfl, SqL.of upd_same, ?_⟩
            have e3 : ((x.cps.toList.take x.cps.size).map fun c => decide (c ∈ letters)).all id = x.cps.toList.all fun c => decide (c ∈ letters) := by
              rw [List.all_map, show x.cps.size = x.cps.toList.length from rfl, List.take_length]
              rfl
            rw [e3]
            exact q _ (same_new (fun _ _ e => e) hD)
        · rw [decide_eq_false h8]
          refine iteT ?_
          have hq : isNm (.str x) = false := by
            show (decide (1 ≤ (x.length : Int)) && decide ((x.length : Int) ≤ 8) && x.cps.toList.all fun c => decide (c ∈ letters)) = _
            rw [decide_eq_false h8, Bool.and_false]
            rfl
          rw [hq] at q0
          exact q0
      · have h1' : decide (1 ≤ (x.length : Int)) = false := Bool.eq_false_iff.mpr h1
        have hq : isNm (.str x) = false := by
          show (decide (1 ≤ (x.length : Int)) && decide ((x.length : Int) ≤ 8) && x.cps.toList.all fun c => decide (c ∈ letters)) = _
          rw [h1']
          rfl
        rw [hq] at q0
        exact q0
/-- where the helpers stand -/
structure D2 (K : PySem.W.Frag) (mg : Str → Option Value) (fP fN fF fA fE : Addr) (dP dN dF dA dE : FuncData) : Prop where
  gP : mg "is_plain_integer" = some (.ref fP)
  FP : Fun K "is_plain_integer" "is_plain_integer" sPI fP dP
  bP : Binds K dP ["value"] []
  gN : mg "is_name" = some (.ref fN)
  FN : Fun K "is_name" "is_name" sNm fN dN
  bN : Binds K dN ["value"] []
  gF : mg "is_free_name" = some (.ref fF)
  FF : Fun K "is_free_name" "is_free_name" sFN fF dF
  bF : Binds K dF ["value"] []
  gA : mg "is_arity" = some (.ref fA)
  FA : Fun K "is_arity" "is_arity" sAr fA dA
  bA : Binds K dA ["value"] []
  gE : mg "is_entry" = some (.ref fE)
  FE : Fun K "is_entry" "is_entry" sEn fE dE
  bE : Binds K dE ["value"] []
/-- CORE_WORDS -/
structure Core (K : PySem.W.Frag) (mg : Str → Option Value) (tC : Addr) : Prop where
  g : mg "CORE_WORDS" = some (.ref tC)
  at_ : ∀ H : Hp, SqT K H tC (cores.map V.str)
theorem inV_strs (x : Str) : ∀ l : List Str, inV (.str x) (l.map V.str) = decide (x ∈ l)
  | [] => rfl
  | y :: l => by
    have ih := inV_strs x l
    unfold inV at ih ⊢
    rw [List.map_cons, List.any_cons, ih]
    by_cases h : y = x
    · subst h
      simp [eqV]
    · have h' : ¬ x = y := fun e => h e.symm
      simp [eqV, h, h']
theorem inV_cores {x : Str} : inV (.str x) (cores.map V.str) = decide (x ∈ cores) := inV_strs x cores
variable {fP fN fF fA fE tC : Addr} {dP dN dF dA dE : FuncData}
theorem scFN : FnScope ["value"] ["value"] (defScope sFN) := ⟨rfl, rfl, rfl, by decide +kernel, rfl, by decide +kernel, by decide +kernel⟩
theorem ok_fn (D : D2 K mg fP fN fF fA fE dP dN dF dA dE) (B : B2 mg) (C : Core K mg tC) : FnOk P w K mg base CX0 2 fF dF ["value"] (spV isFree) := by
  have GN : FnOk P w K mg base CX0 1 fN dN ["value"] (spV isNm) := ok_nm D.FN B
  refine D.FF.ok scFN (fun vs H Q E h => ?_) (fun cdv A outer s H vs Q E hr h => ?_)
  · obtain ⟨v, t, rfl, _⟩ := h
    rfl
  · obtain ⟨v, t, rfl, k, q⟩ := h
    refine ⟨_, pss_one (ps_ret (pe_and (pe_call GN hr rfl D.gN D.FN.kp D.bN .nil pass0 (pa_cons (pv 0) pa_nil)) (pe_one (pe_cmpR op_notIn_seq (pv 0) (pe_glob (v := .ref tC) rfl C.g rfl) (by rfl))))), ?_⟩
    refine ⟨_, rfl, v, t, rfl, k, fun H1 s1 => ⟨_, rfl, ?_⟩⟩
    have q1 := q H1 s1
    cases k with
    | str x hx =>
      cases hn : nameOk x with
      | false =>
        have e : isFree (.str x) = false := by
          show (nameOk x && !decide (x ∈ cores)) = false
          rw [hn]
          rfl
        rw [e] at q1
        rw [show isNm (.str x) = false from hn]
        exact iteF q1
      | true =>
        rw [show isNm (.str x) = true from hn]
        refine iteT ⟨_, rfl, tC, _, rfl, .inr (C.at_ H1), rfl, ?_, ?_⟩
        · decide
        · have e : (!inV (.str x) (cores.map V.str)) = isFree (.str x) := by
            show _ = (nameOk x && !decide (x ∈ cores))
            rw [hn, Bool.true_and]
            rw [inV_cores]
          show Q (.bl (!inV (.str x) (cores.map V.str))) H1
          rw [e]
          exact q1
    | non => exact iteF q1
    | bl b => exact iteF q1
    | int i => exact iteF q1
    | lst e => exact iteF q1
    | tup e => exact iteF q1
    | dic e => exact iteF q1
theorem scAr : FnScope ["value"] ["value"] (defScope sAr) := ⟨rfl, rfl, rfl, by decide +kernel, rfl, by decide +kernel, by decide +kernel⟩
theorem ok_ar (D : D2 K mg fP fN fF fA fE dP dN dF dA dE) (B : B2 mg) : FnOk P w K mg base CX0 2 fA dA ["value"] (spV isAr) := by
  have GP : FnOk P w K mg base CX0 1 fP dP ["value"] (spV isInt) := ok_pi D.FP B
  obtain ⟨t3, har⟩ := B.ar
  refine D.FA.ok scAr (fun vs H Q E h => ?_) (fun cdv A outer s H vs Q E hr h => ?_)
  · obtain ⟨v, t, rfl, _⟩ := h
    rfl
  · obtain ⟨v, t, rfl, k, q⟩ := h
    refine ⟨_, pss_one (ps_ret (pe_and (pe_call GP hr rfl D.gP D.FP.kp D.bP .nil pass0 (pa_cons (pv 0) pa_nil)) (pe_one (pe_chain op_le op_le pe_int (pv 0) (pe_glob (v := .int 3) rfl har ⟨_, rfl⟩))))), ?_⟩
    refine ⟨_, rfl, v, t, rfl, k, fun H1 s1 => ⟨_, rfl, ?_⟩⟩
    have q1 := q H1 s1
    cases k with
    | int i =>
      refine iteT ⟨_, rfl, _, _, rfl, rfl, _, rfl, ite2 (fun h0 => ⟨_, _, rfl, rfl, ?_⟩) (fun h0 => ?_)⟩
      · have e : decide (i ≤ 3) = isAr (.int i) := by
          show _ = (decide (0 ≤ i) && decide (i ≤ 3))
          rw [h0, Bool.true_and]
        show Q (.bl (decide (i ≤ 3))) H1
        rw [e]
        exact q1
      · have e : isAr (.int i) = false := by
          show (decide (0 ≤ i) && decide (i ≤ 3)) = false
          rw [Bool.eq_false_iff.mpr h0]
          rfl
        rw [e] at q1
        exact q1
    | str x hx => exact iteF q1
    | non => exact iteF q1
    | bl b => exact iteF q1
    | lst e => exact iteF q1
    | tup e => exact iteF q1
    | dic e => exact iteF q1
end
end SQ9
namespace SQ9
open PySem L2 SQ
/-- what is_entry makes of a value -/
inductive Ent (H : Hp) : V → Option (Str × Int × Int) → Prop
  | no {v : V} {t : String} (k : Kd H v t) (ht : (t == "tuple") = false) : Ent H v none
  | len {a : Addr} {xs : List V} (e : H a = some (.tup xs)) (h : ((xs.length : Int) == 3) = false) : Ent H (.ref a) none
  | bad {a : Addr} {x y z : V} {tx ty tz : String} (e : H a = some (.tup [x, y, z])) (kx : Kd H x tx) (ky : Kd H y ty) (kz : Kd H z tz) (h : (isFree x && (isAr y && isAr z)) = false) : Ent H (.ref a) none
  | good {a : Addr} {n : Str} {i j : Int} (e : H a = some (.tup [.str n, .int i, .int j])) (hn : n.length ≤ 1000) (h : (isFree (.str n) && (isAr (.int i) && isAr (.int j))) = true) : Ent H (.ref a) (some (n, i, j))
theorem Ent.same {H H' : Hp} {v : V} {o : Option (Str × Int × Int)} (s : Same H H') (k : Ent H v o) : Ent H' v o := by
  cases k with
  | no k ht => exact .no (k.same s) ht
  | len e h => exact .len (s _ _ e) h
  | bad e kx ky kz h => exact .bad (s _ _ e) (kx.same s) (ky.same s) (kz.same s) h
  | good e hn h => exact .good (s _ _ e) hn h
section
variable {P : Program} {w : World} {K : PySem.W.Frag} {mg : Str → Option Value} {base : Heap} {fP fN fF fA fE tC : Addr} {dP dN dF dA dE : FuncData}
def spEn : Sp := fun vs H Q _ => ∃ (v : V) (o : Option (Str × Int × Int)), vs = [v] ∧ Ent H v o ∧ ∀ H', Same H H' → Q (.bl o.isSome) H'
theorem scEn : FnScope ["value", "name", "inputs", "outputs"] ["value"] (defScope sEn) := ⟨rfl, rfl, rfl, by decide +kernel, rfl, by decide +kernel, by decide +kernel⟩
theorem st {H H1 H2 : Hp} (a : Same H H1) (b : Same H1 H2) : Same H H2 := fun x o e => b x o (a x o e)
theorem ok_en (D : D2 K mg fP fN fF fA fE dP dN dF dA dE) (B : B2 mg) (C : Core K mg tC) : FnOk P w K mg base CX0 3 fE dE ["value"] spEn := by
  have GF : FnOk P w K mg base CX0 2 fF dF ["value"] (spV isFree) := ok_fn D B C
  have GA : FnOk P w K mg base CX0 2 fA dA ["value"] (spV isAr) := ok_ar D B
  refine D.FE.ok scEn (fun vs H Q E h => ?_) (fun cdv A outer s H vs Q E hr h => ?_)
  · obtain ⟨v, o, rfl, _⟩ := h
    rfl
  · obtain ⟨v, o, rfl, k, q⟩ := h
    refine ⟨_, pss_cons (ps_if (PW.pt (pw_or (pt_not (pt_val (pe_callB call_isi (by rfl) B.isi (by decide +kernel) (pa_cons (pv 0) (pa_cons (pe_bltn (v := .ty "tuple") (by rfl) B.tuple (by decide +kernel) rfl) pa_nil)))))
        (pw_or1 (pt_cmpR op_ne (pe_callB call_len_seq (by rfl) B.len PySem.boot_len (pa_cons (pv 0) pa_nil)) pe_int (nomark _))))) (pss_one (ps_ret pe_bl)) pss_nil)
      (pss_cons (ps_asg (pv 0) (pg_tup rfl (pgs_cons (pg_name (i := 1) scEn.nd rfl (.inl rfl)) (pgs_cons (pg_name (i := 2) scEn.nd rfl (.inl rfl)) (pgs_cons (pg_name (i := 3) scEn.nd rfl (.inl rfl)) pgs_nil)))))
      (pss_one (ps_ret (pe_and (pe_call GF hr rfl D.gF D.FF.kp D.bF .nil pass0 (pa_cons (pv 1) pa_nil)) (pe_and (pe_call GA hr rfl D.gA D.FA.kp D.bA .nil pass0 (pa_cons (pv 2) pa_nil))
        (pe_one (pe_call GA hr rfl D.gA D.FA.kp D.bA .nil pass0 (pa_cons (pv 3) pa_nil)))))))), ?_⟩
    refine ⟨_, rfl, ?_⟩
    have q0 := q H (fun _ _ e => e)
    cases k with
    | no k ht =>
      have fin : ∀ t, (t == "tuple") = false → Kd H v t → kitB t "tuple" = some false := by
        intro t h k
        cases k
        · decide +kernel
        · decide +kernel
        · decide +kernel
        · decide +kernel
        · decide +kernel
        · exact absurd h (by decide)
        · decide +kernel
      exact ⟨_, _, _, _, false, rfl, .ty "tuple", k.ty, kit_ty (fin _ ht k), _, rfl, iteT (iteT q0)⟩
    | @len a xs e h =>
      refine ⟨_, _, _, _, true, rfl, .ty "tuple", (Kd.tup e).ty, kit_ty (by decide +kernel), _, rfl, iteF ?_⟩
      refine ⟨_, rfl, a, xs, rfl, .inr (SqT.of e), rfl, _, rfl, ?_⟩
      have ne : ¬ (V.int (xs.length : Int) = V.int 3) := fun z => by
        have z' : (xs.length : Int) = 3 := V.int.inj z
        rw [z'] at h
        exact absurd h (by decide)
      rw [decide_eq_false ne]
      exact iteT q0
    | @bad a x y z tx ty tz e kx ky kz h =>
      refine ⟨_, _, _, _, true, rfl, .ty "tuple", (Kd.tup e).ty, kit_ty (by decide +kernel), _, rfl, iteF ?_⟩
      refine ⟨_, rfl, a, _, rfl, .inr (SqT.of e), rfl, _, rfl, iteNS rfl ?_⟩
      refine ⟨_, rfl, a, _, rfl, SqT.of e, rfl, _, _, rfl, _, _, rfl, _, _, rfl, rfl, ?_⟩
      refine ⟨_, rfl, x, tx, rfl, kx, fun H1 s1 => ⟨_, rfl, ?_⟩⟩
      cases hx : isFree x with
      | false => exact iteF (q H1 s1)
      | true =>
        rw [hx, Bool.true_and] at h
        refine iteT ⟨_, rfl, y, ty, rfl, ky.same s1, fun H2 s2 => ⟨_, rfl, ?_⟩⟩
        cases hy : isAr y with
        | false => exact iteF (q H2 (st s1 s2))
        | true =>
          rw [hy, Bool.true_and] at h
          refine iteT ⟨_, rfl, z, tz, rfl, (kz.same s1).same s2, fun H3 s3 => ?_⟩
          rw [h]
          exact q H3 (st s1 (st s2 s3))
    | @good a n i j e hn h =>
      refine ⟨_, _, _, _, true, rfl, .ty "tuple", (Kd.tup e).ty, kit_ty (by decide +kernel), _, rfl, iteF ?_⟩
      refine ⟨_, rfl, a, _, rfl, .inr (SqT.of e), rfl, _, rfl, iteNS rfl ?_⟩
      refine ⟨_, rfl, a, _, rfl, SqT.of e, rfl, _, _, rfl, _, _, rfl, _, _, rfl, rfl, ?_⟩
      rw [Bool.and_eq_true, Bool.and_eq_true] at h
      obtain ⟨h1, h2, h3⟩ := h
      refine ⟨_, rfl, .str n, _, rfl, .str n hn, fun H1 s1 => ⟨_, rfl, ?_⟩⟩
      rw [h1]
      refine iteT ⟨_, rfl, .int i, _, rfl, .int i, fun H2 s2 => ⟨_, rfl, ?_⟩⟩
      rw [h2]
      refine iteT ⟨_, rfl, .int j, _, rfl, .int j, fun H3 s3 => ?_⟩
      rw [h3]
      exact q H3 (st s1 (st s2 s3))
end
end SQ9
/-! Own exceptions over any of the built-in bases, made as values (by position, by keyword, without arguments), read, and asked for their class. -/
namespace SQ
open PySem PySem.Spec PyProof.Rows L2
open PySem.W (Looks)
section
variable {prog : Program} {w : World} {A : Around} {E : Value → Shared → Prop} {R : Result → Shared → Prop}
  {h : Heap} {g : Array GenState} {d : Drawn} {t : Nat} {os : OsState}
  {nm q : Str} {C N : Addr} {bs bm bmB : List Value} {hdct : Bool} {sn : List Str} {sub : List Value} {ab : Bool}
  {col : Option Bool} {dd : Option Addr} {k0 k1 k2 k3 k5 : Option Value} {B newId initId : String} {kw : List (Str × Value)}

theorem chk_new (FB : ExcBaseFacts B newId initId bmB) (hT : ∀ X : String, bm.contains (.type X) = bmB.contains (.type X))
    {rest : List Value} {Q : Unit → Shared → Prop}
    (hC : h.get? C = some (excClassObj nm q C N bs bm hdct sn sub ab col dd k0 k1 k2 k3 k5 newId))
    (hq : Q () ⟨h, g, d, t, os⟩) :
    wpAny (model prog w) A (checkBuiltinCall newId ⟨.ref C :: rest, kw⟩) Q E ⟨h, g, d, t, os⟩ := by
  have inB : (Value.ref C :: bm).contains (.type B) = true := by
    rw [List.contains_cons, hT, FB.hasB, Bool.or_true]
  have nostar := FB.noStar
  simp only [checkBuiltinCall, FB.newKind, FB.newSplit, FB.newRow]
  repeat (first
    | refine wpAny_loadPart_at hC ?_
    | (refine wpAny_isSubtype_exc hC ?_; rw [inB])
    | refine wpAny_staticBase_exc hC ?_
    | refine wpAny_madeBy_exc hC ?_
    | simp only [bne_self_eq_false, Bool.false_eq_true, if_false]
    | wp_step)
  exact hq
theorem run_new (FB : ExcBaseFacts B newId initId bmB) (hT : ∀ X : String, bm.contains (.type X) = bmB.contains (.type X))
    {rest : List Value} (hC : h.get? C = some (excClassObj nm q C N bs bm hdct sn sub ab col dd k0 k1 k2 k3 k5 newId))
    (hrest : rest.length ≤ sizeLine)
    (hq : R (.ok (.ret (.ref (h.objs.size + 1)))) ⟨(h.push (PySem.W.kdv_tup rest)).push (PySem.HandSPX.excO C h.objs.size), g, d, t, os⟩) :
    codeAny (model prog w) A (.builtin newId ⟨.ref C :: rest, kw⟩) R ⟨h, g, d, t, os⟩ := by
  have en := FB.ends
  have inB : (Value.ref C :: bm).contains (.type B) = true := by
    rw [List.contains_cons, hT, FB.hasB, Bool.or_true]
  have inA : (Value.ref C :: bm).contains (.type "AttributeError") = false := by
    rw [List.contains_cons, hT, FB.noAttr]
    rfl
  have inN : (Value.ref C :: bm).contains (.type "NameError") = false := by
    rw [List.contains_cons, hT, FB.noName]
    rfl
  refine codeAny_builtinAt FB.entry ?_
  unfold Builtin.«BaseException.__new__»
  refine PySem.wpAt_bind ?_
  show PySem.wpAt _ _ _ (stack >>= _) _ _ _
  refine PySem.wpAt_bind (PySem.wpAt_stack fun p below => PySem.wpAt_of_wpAny ?_)
  wp_walk
  refine PySem.wpAt_of_wpAny ?_
  rw [FB.owner]
  repeat (first
    | with_reducible refine wpAny_madeHere_exc FB.canon hC ?_
    | with_reducible refine wpAny_loadPart_at hC ?_
    | (with_reducible refine wpAny_isSubtype_exc hC ?_; first | rw [inB] | rw [inA] | rw [inN])
    | wp_step)
  show R _ _
  rw [Heap.size_push]
  exact hq
theorem run_tcall (FB : ExcBaseFacts B newId initId bmB) (hT : ∀ X : String, bm.contains (.type X) = bmB.contains (.type X))
    {rest : List Value} {fI : Addr} {Q : Fin → Shared → Prop}
    (hC : h.get? C = some (excClassObj nm q C N bs bm hdct sn sub ab col dd k0 k1 k2 k3 k5 newId))
    (hi : Looks (model prog w) h (typeLookup (.ref C) "__init__") (some (.ref fI)))
    (hb : ∀ self, Looks (model prog w) h (bindSpecial (.ref fI) self) (.ref fI, [self])) (hrest : rest.length ≤ sizeLine)
    (hq : codeAny (model prog w) A (.call (.ref fI) ⟨.ref (h.objs.size + 1) :: rest, kw⟩)
      (fun r s' => match r with
        | .ok (.ret v) => v = .none ∧ Q (.done (.ret (.ref (h.objs.size + 1)))) s'
        | .ok _ => False
        | .error e => E e s')
      ⟨(h.push (PySem.W.kdv_tup rest)).push (PySem.HandSPX.excO C h.objs.size), g, d, t, os⟩) :
    wpAny (model prog w) A (Builtin.«type.__call__» ⟨.ref C :: rest, kw⟩) Q E ⟨h, g, d, t, os⟩ := by
  repeat (first
    | with_reducible refine wpAny_loadPart_at hC ?_
    | with_reducible refine wpAny_madeBy_exc hC ?_
    | wp_step)
  refine codeAny_call_builtin_code (Code.quiet_builtin _ FB.quiet) (chk_new FB hT hC ?_)
  refine run_new FB hT hC hrest ?_
  show wpAny _ _ _ _ _ _
  have keep : ∀ b o, h.get? b = some o → ((h.push (PySem.W.kdv_tup rest)).push (PySem.HandSPX.excO C h.objs.size)).get? b = some o :=
    fun b o e => Heap.get?_push_of_some _ (Heap.get?_push_of_some _ e)
  have hC1 := keep _ _ hC
  have got : ((h.push (PySem.W.kdv_tup rest)).push (PySem.HandSPX.excO C h.objs.size)).get? (h.objs.size + 1) = some (PySem.HandSPX.excO C h.objs.size) := by heap_get
  have inC : (Value.ref C :: bm).contains (.ref C) = true := by simp
  have i1 := hi.keeps keep
  have b1 := (hb (.ref (h.objs.size + 1))).keeps keep
  unfold isInstance
  repeat (first
    | with_reducible refine wpAny_loadPart_at got ?_
    | (with_reducible refine wpAny_isSubtype_exc hC1 ?_; rw [inC])
    | wp_step)
  show wpAny _ _ (typeLookup (.ref C) _) _ _ _
  refine i1.at ?_
  refine wpAny_holding (wpAny_bind (b1.at ?_))
  refine wpAny_bind (wpAny_call (codeAny_mono hq fun r s' z => ?_))
  rcases r with e | (_ | _ | _ | v) <;> first | exact z | exact z.elim | skip
  obtain ⟨rfl, z⟩ := z
  first
    | exact wpAny_pure (wpAny_pure z)
    | (wp_walk; exact z)
theorem run_ccall (FB : ExcBaseFacts B newId initId bmB) (hT : ∀ X : String, bm.contains (.type X) = bmB.contains (.type X))
    {rest : List Value} {fI : Addr}
    (hC : h.get? C = some (excClassObj nm q C N bs bm hdct sn sub ab col dd k0 k1 k2 k3 k5 newId))
    (hi : Looks (model prog w) h (typeLookup (.ref C) "__init__") (some (.ref fI)))
    (hb : ∀ self, Looks (model prog w) h (bindSpecial (.ref fI) self) (.ref fI, [self])) (hrest : rest.length ≤ sizeLine)
    (hq : codeAny (model prog w) (A.under (.builtin "type.__call__" ⟨.ref C :: rest, kw⟩)) (.call (.ref fI) ⟨.ref (h.objs.size + 1) :: rest, kw⟩)
      (PySem.W.InitBack (h.objs.size + 1) R)
      ⟨(h.push (PySem.W.kdv_tup rest)).push (PySem.HandSPX.excO C h.objs.size), g, d, t, os⟩) :
    codeAny (model prog w) A (.call (.ref C) ⟨rest, kw⟩) R ⟨h, g, d, t, os⟩ := by
  have f1 := tc_lookup
  have f2 := tc_bind (.ref C)
  have hTy : (⟨h, g, d, t, os⟩ : Shared).TypeIs (.ref C) "type" := ⟨_, hC, rfl⟩
  refine codeAny_of_tree ?_
  show wpAny _ _ (callAny (.ref C) _) _ _ _
  repeat (any_goals (first | assumption | with_reducible refine wpAny_loadPart_at hC ?_ | wp_step))
  refine ⟨rfl, ?_⟩
  refine codeAny_call_builtin_at (Code.quiet_builtin _ (by decide +kernel)) entry_typeCall (wpAny_check_type_call_sub hC (run_tcall FB hT hC hi hb hrest ?_))
  refine codeAny_mono hq fun r s' z => ?_
  rcases r with e | (_ | _ | _ | v) <;> exact z
end
end SQ
namespace SQ
open PySem PySem.Spec PyProof.Rows L2

/-! ### what the written part says of an error's class -/
/-- the text of «def __init__(self, f): self.f = f» -/
def iArgs (f : Str) (p1 p2 : Pos) : Arguments := { posonlyargs := [], args := [{ arg := "self", annotation := none, pos := p1 }, { arg := f, annotation := none, pos := p2 }], vararg := none, kwonlyargs := [], kw_defaults := [], kwarg := none, defaults := [] }
def iBody (f : Str) (q1 q2 q3 q4 : Pos) : List Stmt := [.Assign [.Attribute (.Name "self" q1) f q2] (.Name f q3) q4]
def iScope (f : Str) : Scope := { kind := .function, names := [(PySem.Str.ofString "self", .local), (f, .local)], isGenerator := false, isCoroutine := false, more := [] }
/-- a built-in base: its name, its makers, its mro -/
structure BaseB (B newId initId : String) (bmB : List Value) : Prop where
  fb : ExcBaseFacts B newId initId bmB
  sf : StoreFacts B bmB "object.__setattr__" "object"
theorem bValue : BaseB "ValueError" "ValueError.__new__" "ValueError.__init__" [.type "ValueError", .type "Exception", .type "BaseException", .type "object"] := ⟨F.excBase_ValueError, F.store_ValueError⟩
theorem bType : BaseB "TypeError" "TypeError.__new__" "TypeError.__init__" [.type "TypeError", .type "Exception", .type "BaseException", .type "object"] := ⟨F.excBase_TypeError, F.store_TypeError⟩
theorem bLookup : BaseB "LookupError" "LookupError.__new__" "LookupError.__init__" [.type "LookupError", .type "Exception", .type "BaseException", .type "object"] := ⟨F.excBase_LookupError, F.store_LookupError⟩
theorem bArith : BaseB "ArithmeticError" "ArithmeticError.__new__" "ArithmeticError.__init__" [.type "ArithmeticError", .type "Exception", .type "BaseException", .type "object"] := ⟨F.excBase_ArithmeticError, F.store_ArithmeticError⟩

/-- the facts that one check finds (a class at C; its field f) -/
def errOk (K : PySem.W.Frag) (C : Addr) (f : Str) (bmB : List Value) (newId : String) : Bool :=
  PySem.W.excInitIn K C bmB newId && PySem.W.excOver K C bmB && PySem.W.hasDictIn K C && PySem.W.keepIn K (.ref C) &&
  (PySem.W.findIn K (.ref C) "__setattr__" == some (some (.builtin "object.__setattr__"))) &&
  (PySem.W.findIn K (.ref C) "__getattribute__" == some (some (.builtin "BaseException.__getattribute__"))) &&
  (PySem.W.findIn K (.ref C) "__getattr__" == some none) && (PySem.W.findIn K (.ref C) f == some none) &&
  (PySem.W.subIn K (.ref C) (.type "BaseException") == some true) && (PySem.W.clsIn K C).isSome &&
  (PySem.W.findIn K (.ref C) "__class__" == some (some (.builtin "object.__class__"))) && (PySem.W.mroIn K C (.type "object") == some true)
structure ErrC (K : PySem.W.Frag) (C : Addr) (f : Str) (bmB : List Value) (newId : String) : Prop where
  ini : PySem.W.excInitIn K C bmB newId = true
  ov : PySem.W.excOver K C bmB = true
  hd : PySem.W.hasDictIn K C = true
  kp : PySem.W.keepIn K (.ref C) = true
  sa : PySem.W.findIn K (.ref C) "__setattr__" = some (some (.builtin "object.__setattr__"))
  ga : PySem.W.findIn K (.ref C) "__getattribute__" = some (some (.builtin "BaseException.__getattribute__"))
  gg : PySem.W.findIn K (.ref C) "__getattr__" = some none
  no : PySem.W.findIn K (.ref C) f = some none
  ex : PySem.W.subIn K (.ref C) (.type "BaseException") = some true
  cl : (PySem.W.clsIn K C).isSome = true
  ca : PySem.W.findIn K (.ref C) "__class__" = some (some (.builtin "object.__class__"))
  ob : PySem.W.mroIn K C (.type "object") = some true
theorem ErrC.of {K : PySem.W.Frag} {C : Addr} {f : Str} {bmB : List Value} {newId : String} (h : errOk K C f bmB newId = true) : ErrC K C f bmB newId := by
  unfold errOk at h
  simp only [Bool.and_eq_true, beq_iff_eq] at h
  obtain ⟨⟨⟨⟨⟨⟨⟨⟨⟨⟨⟨h1, h2⟩, h3⟩, h4⟩, h5⟩, h6⟩, h7⟩, h8⟩, h9⟩, h10⟩, h11⟩, h12⟩ := h
  exact ⟨h1, h2, h3, h4, h5, h6, h7, h8, h9, h10, h11, h12⟩
/-- .. and of its __init__ -/
structure ErrI (K : PySem.W.Frag) (C fI : Addr) (f : Str) : Prop where
  at_ : PySem.W.findIn K (.ref C) "__init__" = some (some (.ref fI))
  ty : PySem.W.typeIn K (.ref fI) = some (.type "function")
  fn : ∃ (qual : Str) (oc : Value) (od : Option Addr) (doc pm : Value) (an : Option Addr) (cdv ct : Value) (osl : Array (Option Value)) (p1 p2 q1 q2 q3 q4 : Pos),
    K.lookup fI = some ⟨oc, od, .func (PySem.W.fnOf "__init__" qual (iArgs f p1 p2) (iBody f q1 q2 q3 q4) (iScope f) .none .none doc pm an cdv ct), osl⟩ ∧ PySem.W.codeIn K cdv qual = true
/-- the three fields -/
def Fld (f : Str) : Prop := f = "value" ∨ f = "index" ∨ f = "limit"

section
variable {prog : Program} {w : World} {A : Around} {E : Value → Shared → Prop} {R : Result → Shared → Prop} {hp : Heap} {g : Array GenState} {d : Drawn} {t : Nat} {os : OsState}
  {K : PySem.W.Frag} {B newId initId : String} {bmB : List Value} {C fI : Addr} {f : Str}
/-- self.f = v on an exception that has no dict yet -/
theorem store_first (SF : StoreFacts B bmB "object.__setattr__" "object") (T : ErrC K C f bmB newId) {x t0 : Addr} {tk : Tok} {v : Value} (X : K.In hp) (hx : hp.get? x = some (PySem.HandSPX.excO C t0))
    (hq : ∀ h' tk' dx, (∀ b o, b ≠ x → hp.get? b = some o → h'.get? b = some o) → hp.objs.size ≤ dx → dx ≠ x →
      h'.get? x = some { cls := .ref C, dict := some dx, data := .fields #[.ref t0, .none, .none, .none, .bool false, .none] } →
      h'.Ns1 dx (fun y => if y = f then some v else none) → R (.ok (.ret .none)) ⟨h', g, d, tk', os⟩) :
    codeAny (model prog w) A (.call (.builtin "object.__setattr__") ⟨[.ref x, .str f tk, v], []⟩) R ⟨hp, g, d, t, os⟩ := by
  have ht : PySem.W.takerIn K C f = some none := by
    unfold PySem.W.takerIn
    rw [T.no]
    rfl
  have ne : x ≠ hp.objs.size := Nat.ne_of_lt (Heap.lt_size hx)
  refine PySem.W.osa_openX (od := none) SF X ⟨hx, rfl, rfl, trivial⟩ T.ov ht fun b => ?_
  obtain ⟨cd, hc, hd'⟩ := PySem.W.any_some T.hd
  refine wpAny_bind (wpAny_pure (wpAny_bind (PySem.W.instanceDict_exc (c2 := .none) hx (PySem.W.looks_clsIn X hc) hd' ?_)))
  show wpAny _ _ (Builtin.ObjectAttr.storeInDict hp.objs.size (.str f tk) f v) _ _ _
  refine PySem.HandSPX.store_in_new ?_ ?_
  · exact ⟨_, #[], _, (Heap.get?_update_ne _ _ _ _ ne.symm).trans (Heap.get?_push_at rfl rfl), rfl, fun e he => absurd he (by simp), fun _ => rfl⟩
  · intro h' tk' hn' hs
    have hx1 : (hp.push { cls := .type "dict", data := .dict #[] }).get? x = some (PySem.HandSPX.excO C t0) := Heap.get?_push_of_some _ hx
    refine hq h' tk' hp.objs.size (fun b o hb ho => ?_) (Nat.le_refl _) ne.symm ?_ hn'
    · exact (hs.2 b (Nat.ne_of_lt (Heap.lt_size ho))).trans ((Heap.get?_update_ne _ _ _ _ hb).trans (Heap.get?_push_of_some _ ho))
    · exact (hs.2 x ne).trans (Heap.get?_update_self _ hx1 rfl)
end
/-- an error made: its object at e, its dict at dx, both new -/
structure Made (h h' : Heap) (e C dx : Addr) (f : Str) (v : Value) : Prop where
  keep : ∀ b o, h.get? b = some o → h'.get? b = some o
  new : h.objs.size ≤ e
  obj : ∃ t1 : Addr, h'.get? e = some ({ cls := .ref C, dict := some dx, data := .fields #[.ref t1, .none, .none, .none, .bool false, .none] } : Obj)
  dbig : h.objs.size ≤ dx
  dne : dx ≠ e
  ns : h'.Ns1 dx (fun y => if y = f then some v else none)
theorem ld_loc {M : Model} {s : Shared} {name : Str} {scope : Scope} {L a : Addr} {cd : Value} {m : Str → Option Value} {x : Str} {pos : Pos} {v : Value} {Q : Value → Shared → Prop} {A : Around} {E : Value → Shared → Prop} (hn : s.heap.Ns L m) (hv : m x = some v) (h : Q v s)
    (hk : scope.kind = .function := by rfl) (hl : (envOfC name scope L a cd).kindOf x = some .local := by rfl) (hd : (x == ("__debug__" : Str)) = false := by decide) :
    wpAny M A (eval (.Name x pos) (envOfC name scope L a cd)) Q E s := wpAny_Name (wpAny_loadName_local hk hl hn hv h) hd
section
variable {prog : Program} {w : World} {A : Around} {E : Value → Shared → Prop} {R : Result → Shared → Prop} {s : Shared}
  {K : PySem.W.Frag} {B newId initId : String} {bmB : List Value} {C fI : Addr} {f : Str}
/-- the run of __init__, the value coming by position or by keyword -/
theorem run_init (hf : Fld f) (SF : StoreFacts B bmB "object.__setattr__" "object") (T : ErrC K C f bmB newId) (J : ErrI K C fI f) {x t0 : Addr} {v : Value} {args : Args} (ha : args = ⟨[.ref x, v], []⟩ ∨ args = ⟨[.ref x], [(f, v)]⟩)
    (X : K.In s.heap) (hlim : s.heap.NoLimit) (hx : s.heap.get? x = some (PySem.HandSPX.excO C t0)) (hroom : A.depth < recursionLimit)
    (hq : ∀ h' tk dx, (∀ b o, b ≠ x → s.heap.get? b = some o → h'.get? b = some o) → s.heap.objs.size ≤ dx → dx ≠ x →
      h'.get? x = some { cls := .ref C, dict := some dx, data := .fields #[.ref t0, .none, .none, .none, .bool false, .none] } →
      h'.Ns1 dx (fun y => if y = f then some v else none) → R (.ok (.ret .none)) { s with heap := h', toks := tk }) :
    codeAny (model prog w) A (.call (.ref fI) args) R s := by
  obtain ⟨qual, oc, od, doc, pm, an, cdv, ct, osl, p1, p2, q1, q2, q3, q4, ho, hcd⟩ := J.fn
  have key : ∀ (bnd : BindsTo s (PySem.W.fnOf "__init__" qual (iArgs f p1 p2) (iBody f q1 q2 q3 q4) (iScope f) .none .none doc pm an cdv ct) args [("self", .ref x), (f, v)]), codeAny (model prog w) A (.call (.ref fI) args) R s := by
    intro bnd
    rcases hf with rfl | rfl | rfl
    all_goals
      refine Att.call_fn X hlim ho hcd hroom bnd (by first | rfl | decide | with_unfolding_all rfl) (fun s₁ IC => ?_) rfl rfl rfl
      obtain ⟨h₁, tk₁, rfl⟩ := IC.toInCall.same
      have k : ∀ b o, s.heap.get? b = some o → h₁.get? b = some o := IC.toInCall.keep
      have hn := IC.toInCall.ns
      have X₁ : K.In h₁ := X.keeps k
      have hx₁ := k _ _ hx
      show wpAny _ _ (execs _ _) _ _ _
      refine wpAny_execs_cons (plainObj_wpAny_Assign_Attribute ?_)
      refine ld_loc (v := v) hn (by first | rfl | with_unfolding_all rfl | kernel_rfl) (ld_loc (v := .ref x) hn (by first | rfl | with_unfolding_all rfl | kernel_rfl) ?_)
      refine PySem.W.set_plain X₁ (ox := PySem.HandSPX.excO C t0) (od := none) ⟨hx₁, rfl, rfl, trivial⟩ T.sa ?_
      refine store_first SF T X₁ hx₁ (fun h₃ tk₃ dx k₃ dn dne hx₃ hn₃ => ?_)
      show wpAny _ _ (execs _ _) _ _ _
      have z : s.heap.objs.size < h₁.objs.size := hn.lt
      exact wpAny_execs_nil (hq h₃ tk₃ dx (fun b o hb e => k₃ b o hb (k b o e)) (Nat.le_of_lt (Nat.lt_of_lt_of_le z dn)) dne hx₃ hn₃)
  refine key ?_
  rcases hf with rfl | rfl | rfl
  all_goals
    rcases ha with rfl | rfl
    · exact BindsTo.of_eq (by first | rfl | with_unfolding_all rfl | kernel_rfl)
    · exact BindsTo.of_eq (by first | rfl | with_unfolding_all rfl | kernel_rfl)
/-- C(v), C(f=v) -/
theorem run_made (hf : Fld f) (BB : BaseB B newId initId bmB) (T : ErrC K C f bmB newId) (J : ErrI K C fI f) {v : Value} {pos : List Value} {kw : List (Str × Value)} (ha : (pos = [v] ∧ kw = []) ∨ (pos = [] ∧ kw = [(f, v)]))
    (X : K.In s.heap) (hlim : s.heap.NoLimit) (hroom : A.depth + 1 < recursionLimit)
    (hq : ∀ h' tk e dx, Made s.heap h' e C dx f v → R (.ok (.ret (.ref e))) { s with heap := h', toks := tk }) :
    codeAny (model prog w) A (.call (.ref C) ⟨pos, kw⟩) R s := by
  obtain ⟨nm, N, qn, bs, bm, hdct, sn, sub, ab, col, dd, k0, k1, k2, k3, k5, hC, hT⟩ := PySem.W.excInit_of X T.ini
  obtain ⟨hp, g, dr, tk, os⟩ := s
  have k : ∀ b o, hp.get? b = some o → ((hp.push (PySem.W.kdv_tup pos)).push (PySem.HandSPX.excO C hp.objs.size)).get? b = some o := fun b o e => Heap.get?_push_of_some _ (Heap.get?_push_of_some _ e)
  have hget : ((hp.push (PySem.W.kdv_tup pos)).push (PySem.HandSPX.excO C hp.objs.size)).get? (hp.objs.size + 1) = some (PySem.HandSPX.excO C hp.objs.size) := by heap_get
  have hpos : pos.length ≤ sizeLine := by
    rcases ha with ⟨rfl, _⟩ | ⟨rfl, _⟩
    · show 1 ≤ sizeLine
      decide
    · show 0 ≤ sizeLine
      decide
  refine run_ccall BB.fb hT hC (PySem.W.looks_findIn X J.at_) (fun self => PySem.W.bind_fn X self J.ty) hpos ?_
  refine run_init (s := ⟨(hp.push (PySem.W.kdv_tup pos)).push (PySem.HandSPX.excO C hp.objs.size), g, dr, tk, os⟩) (v := v) hf BB.sf T J ?_ (X.keeps k) (hlim.keeps k) hget ?_ ?_
  · rcases ha with ⟨rfl, rfl⟩ | ⟨rfl, rfl⟩
    · exact .inl rfl
    · exact .inr rfl
  · rw [make_depth]
    exact hroom
  · intro h' tk' dx k' dn dne hx hns
    have old : ∀ b o, hp.get? b = some o → h'.get? b = some o := fun b o e => k' b o (Nat.ne_of_lt (Nat.lt_succ_of_lt (Heap.lt_size e))) (k b o e)
    have z : hp.objs.size + 1 + 1 ≤ dx := by
      have q := dn
      first
        | exact q
        | (simpa only [Heap.size_push] using q)
    exact ⟨rfl, hq h' tk' (hp.objs.size + 1) dx ⟨old, Nat.le_succ _, ⟨_, hx⟩, Nat.le_trans (Nat.le_trans (Nat.le_succ _) (Nat.le_succ _)) z, dne, hns⟩⟩
end
/-! ### the rules over the layer -/
section
variable {X : Cx} {pins : List (Addr × Obj)} {σ : L2.St} {H : Hp} {s : Shared}
end
/-- at a: an error of the class at C whose field f holds v -/
def ErrAt (H : Hp) (a C : Addr) (f : Str) (v : V) : Prop := ∃ d, H a = some (exo a C (some d)) ∧ H d = some (exd d [(f, v)])
/-- at a: an error of the class at C, with a dict or without -/
def ErrIs (H : Hp) (a C : Addr) : Prop := ∃ d, H a = some (exo a C d)  ∧ ∀ x, d = some x → ∃ fs, H x = some (exd x fs)
theorem ErrAt.is {H : Hp} {a C : Addr} {f : Str} {v : V} (h : ErrAt H a C f v) : ErrIs H a C := by
  obtain ⟨d, h1, h2⟩ := h
  exact ⟨some d, h1, fun x e => by cases e; exact ⟨_, h2⟩⟩
theorem ErrAt.same {H H' : Hp} {a C : Addr} {f : Str} {v : V} (s : Same H H') (h : ErrAt H a C f v) : ErrAt H' a C f v := by
  obtain ⟨d, h1, h2⟩ := h
  exact ⟨d, s _ _ h1, s _ _ h2⟩
theorem ErrIs.same {H H' : Hp} {a C : Addr} (s : Same H H') (h : ErrIs H a C) : ErrIs H' a C := by
  obtain ⟨d, h1, h2⟩ := h
  refine ⟨d, s _ _ h1, fun x e => ?_⟩
  obtain ⟨fs, h3⟩ := h2 x e
  exact ⟨fs, s _ _ h3⟩
section
variable {X : Cx} {B newId initId : String} {bmB : List Value} {C fI : Addr} {f x : Str} {e : Expr} {te : TE} {p pos kpos : Pos} {k : Nat}
end
/-! ### isinstance of an error -/
structure IsF (K : PySem.W.Frag) : Prop where
  gt : PySem.W.specialIn K (.builtin "object.__class__") "__get__" = some (some (.builtin "getset_descriptor.__get__"))
  tk : PySem.W.takesIn K (.builtin "object.__class__") = some true
/-- what isinstance asks of the class -/
structure IsC (K : PySem.W.Frag) (C : Addr) : Prop where
  ga : PySem.W.findIn K (.ref C) "__getattribute__" = some (some (.builtin "BaseException.__getattribute__"))
  gg : PySem.W.findIn K (.ref C) "__getattr__" = some none
  ex : PySem.W.subIn K (.ref C) (.type "BaseException") = some true
  cl : (PySem.W.clsIn K C).isSome = true
  ca : PySem.W.findIn K (.ref C) "__class__" = some (some (.builtin "object.__class__"))
  ob : PySem.W.mroIn K C (.type "object") = some true
theorem ErrC.isc {K : PySem.W.Frag} {C : Addr} {f : Str} {bmB : List Value} {newId : String} (T : ErrC K C f bmB newId) : IsC K C := ⟨T.ga, T.gg, T.ex, T.cl, T.ca, T.ob⟩
def isOk (K : PySem.W.Frag) (C : Addr) : Bool := (PySem.W.findIn K (.ref C) "__getattribute__" == some (some (.builtin "BaseException.__getattribute__"))) &&
  (PySem.W.findIn K (.ref C) "__getattr__" == some none) && (PySem.W.subIn K (.ref C) (.type "BaseException") == some true) && (PySem.W.clsIn K C).isSome &&
  (PySem.W.findIn K (.ref C) "__class__" == some (some (.builtin "object.__class__"))) && (PySem.W.mroIn K C (.type "object") == some true)
theorem IsC.of {K : PySem.W.Frag} {C : Addr} (h : isOk K C = true) : IsC K C := by
  unfold isOk at h
  simp only [Bool.and_eq_true, beq_iff_eq] at h
  obtain ⟨⟨⟨⟨⟨h1, h2⟩, h3⟩, h4⟩, h5⟩, h6⟩ := h
  exact ⟨h1, h2, h3, h4, h5, h6⟩
def rIsErr (K : PySem.W.Frag) : List V → Hp → VK → Prop := fun xs H Q => ∃ (a C : Addr) (c : V) (u : Value) (b : Bool), xs = [.ref a, c] ∧ ErrIs H a C ∧ IsC K C ∧ (∀ z, RelV c z → z = u) ∧ PySem.W.kitOne K (.ref C) u = some b ∧ Q (.bl b) H
theorem cr_isErr {X : Cx} (W : IsF X.K) : CallR X (.builtin "isinstance") (rIsErr X.K) := by
  intro pins s σ H xs us Q I r h
  obtain ⟨a, C, c, u, b, rfl, ⟨d, ha, hd⟩, T, hc, e, q⟩ := h
  obtain ⟨u1, u2, rfl, r1, r2⟩ := vals2 r
  obtain rfl : u1 = Value.ref a := r1
  have e2 := hc _ r2
  subst e2
  obtain ⟨t1, ho⟩ := exo_at I.hok ha
  have J : ∃ od, PySem.W.InstAt s.heap a { cls := .ref C, dict := d, data := .fields #[.ref t1, .none, .none, .none, .bool false, .none] } C od := by
    cases d with
    | none => exact ⟨none, ho, rfl, rfl, trivial⟩
    | some x =>
      obtain ⟨fs, hx⟩ := hd x rfl
      obtain ⟨mA, hns, _⟩ := exd_at I.hok hx
      obtain ⟨od, hod, _⟩ := lookIn_ns hns
      exact ⟨some od, ho, rfl, rfl, hod⟩
  obtain ⟨od, J⟩ := J
  exact PySem.W.kia_one (PySem.W.kitx_exc T.cl T.ga T.gg T.ex T.ca W.gt W.tk T.ob) I.kIn J e (fun z => nomatch z) fun tk => ⟨.bl b, H, I.tok tk, rfl, q⟩
end SQ
/-! Such errors raised, caught, read and asked in the suite. -/
namespace SQ
open PySem PySem.Spec PyProof.Rows L2
section
variable {X : Cx} {B newId initId : String} {bmB : List Value} {C fI : Addr} {f x : Str} {e : Expr} {te : TE} {p pos : Pos} {k : Nat}
end
section
variable {X : Cx} {a : Addr} {oe : Obj} {cls : Value} {d : Option Addr} {pn : List (Addr × Obj)} {f : Str} {e : Expr} {te : TE} {pos : Pos}
/-- what is known of the error that a suite holds -/
def Held (K : PySem.W.Frag) (H : Hp) (cls : Value) (d : Option Addr) (C : Addr) (f : Str) (v : V) : Prop := cls = .ref C ∧ ∃ dd, d = some dd ∧ H dd = some (.xd [(f, v)])
theorem held_at {pins : List (Addr × Obj)} {σ : L2.St} {H : Hp} {s : Shared} {C : Addr} {v : V} (I : Inv (X.suite a ((a, oe) :: pn)) pins σ H s) (hz : Zc cls d oe) (hf : ∃ vs, oe.data = .fields vs) (h : Held X.K H cls d C f v) :
    ∃ (od : Obj) (u : Value), PySem.W.InstAt s.heap a oe C (some od) ∧ PySem.W.lookIn f od = some (some u) ∧ RelV v u := by
  obtain ⟨rfl, dd, rfl, hd⟩ := h
  obtain ⟨ha, _⟩ := I.pin (a, oe) (List.mem_append_left _ List.mem_cons_self)
  obtain ⟨vs, hv⟩ := hf
  have hx : ObjOk X.prog X.w H s.heap dd (.xd [(f, v)]) := I.hok dd _ hd
  obtain ⟨mA, hns, hr⟩ := hx
  obtain ⟨od, ho, hl⟩ := lookIn_ns hns
  have l : List.lookup f [(f, v)] = some v := by simp [List.lookup]
  obtain ⟨u, hu, ru⟩ := RelO.some_of (v := v) (o := mA f) (by rw [← l]; exact hr f)
  exact ⟨od, u, ⟨ha, hz.1, by unfold PySem.W.notCls; rw [hv] <;> rfl, by rw [hz.2]; exact ho⟩, by rw [hl, hu], ru⟩
end
end SQ
/-! Such errors made anywhere (also in an except suite); promises that say that the error has no context. -/
namespace SQ
open PySem PySem.Spec PyProof.Rows L2
section
variable {X : Cx} {B newId initId : String} {bmB : List Value} {C fI : Addr} {f x : Str} {e : Expr} {te : TE} {p pos : Pos} {k : Nat}
/-- C(e), to be raised -/
theorem pmk5_err (hf : Fld f) (BB : BaseB B newId initId bmB) (T : ErrC X.K C f bmB newId) (J : ErrI X.K C fI f) (ty : PySem.W.typeIn X.K (.ref C) = some (.type "type")) (gC : X.mg x = some (.ref C)) (hr : X.A.depth + 1 < recursionLimit) (hg : Gl X x) (he : PE X e te)
    (hdb : (x == ("__debug__" : Str)) = false := by decide) (hs : starEach [e] X.env = (false, eval e X.env) :: starEach [] X.env := by rfl) :
    L2H.PMk5 X (.Call (.Name x p) [e] [] pos) (fun σ H Q => te σ H fun v H1 => ∀ d, H1 d = none → Q (.ref C) (some d) (upd H1 d (.xd [(f, v)]))) := by
  intro pins s σ H Q I h
  refine wpAny_Call_Name_kw (ld_glob I hg gC ?_ hdb)
  refine PySem.W.callWith_K (h₀ := X.base) I.ok.mod.kin T.kp ?_ hs (by rfl)
  rw [hs]
  show wpAny _ _ (spliced ((false, eval e X.env) :: backTo pos (starEach [] X.env))) _ _ s
  refine Calls.spliced_cons (thn (he.run pins s σ H _ I h) fun u s1 ⟨v, H1, I1, r1, q1⟩ => ?_)
  refine Calls.spliced_nil ⟨I1.kIn, ?_⟩
  show wpAny _ _ (call (.ref C) [u]) _ _ _
  have hlim := I1.nolimit
  obtain ⟨hp, g, dr, tk, os⟩ := s1
  refine wpAny_call (run_made (pos := [u]) (kw := []) hf BB T J (.inl ⟨rfl, rfl⟩) I1.kIn hlim hr fun h' tk' a dx M => ?_)
  show L2N.MkP X pins σ Q (.ref a) ⟨h', g, dr, tk', os⟩ ∧ L2H.Six (.ref a) ⟨h', g, dr, tk', os⟩
  obtain ⟨t1, ho⟩ := M.obj
  obtain ⟨G', g1, g2⟩ := restrict h' fun b => decide (b ≠ a)
  have gk : ∀ b, b ≠ a → G'.get? b = h'.get? b := fun b hb => g1 b (decide_eq_true hb)
  have ge : G'.get? a = none := g2 a (by simp)
  have old : ∀ b o, hp.get? b = some o → G'.get? b = some o := fun b o q =>
    (gk b (Nat.ne_of_lt (Nat.lt_of_lt_of_le (Heap.lt_size q) M.new))).trans (M.keep b o q)
  have ob : ObjOk X.prog X.w (upd H1 dx (.xd [(f, v)])) G' dx (.xd [(f, v)]) :=
    ⟨_, M.ns.at (fun o q => (gk dx M.dne).trans q), fun y => relO_put (fs := []) (mA := fun _ => none) r1 (fun g => True.intro) y⟩
  have J1 : Inv X pins σ (upd H1 dx (.xd [(f, v)])) ⟨G', g, dr, tk', os⟩ := I1.laid (t' := tk') old M.dbig ob
  refine ⟨⟨a, _, _, ⟨G', g, dr, tk', os⟩, _, .ref C, some dx, rfl, J1, fun b o q => ?_, ge, ho, ⟨rfl, rfl, fun vs z => by cases z; rfl⟩, rfl, rfl, ?_, rfl, I1.bare, raises_own T.ex ty, q1 dx (I1.hok.fresh M.dbig)⟩, ?_⟩
  · by_cases hb : b = a
    · have q' : G'.get? b = some o := q
      rw [hb, ge] at q'
      cases q'
    · exact (gk b hb).symm.trans q
  · rw [upd_ne (Ne.symm M.dne)]
    exact I1.hok.fresh M.new
  · intro a' oe vs ea hg hd
    cases ea
    have hg' : h'.get? a = some oe := hg
    rw [ho] at hg'
    cases hg'
    cases hd
    show (4 : Nat) < 6
    decide
theorem pmk_of5 {t : L2.St → Hp → XK → Prop} (h : L2H.PMk5 X e t) : L2.PMk X e t := fun pins s σ H Q I q => thn (h pins s σ H Q I q) fun u s' ⟨⟨a, oe, vs, sI, H', cls, d, r0, J, k, hne, ha, hz, rest⟩, _⟩ =>
  ⟨a, oe, vs, sI, H', cls, d, r0, J, k, hne, ha, hz.zc, rest⟩
end
theorem cxUpN {P : Program} {w : World} : StX.CXUp (L2N.CX P w) := by
  rintro outer s H s2 H2 E e t un kp ho ⟨a, B, H', cls, d, ea, fl, hok, ub, na, os, ag, he⟩
  have ub2 : UB (frs outer) H H' s.heap B t.heap := by
    constructor
    · exact fun b o q n hb => ub.keep b o (kp b o q) (un.free b o q n (fun z => nomatch z)) hb
    · exact fun b o q hb => ub.slot b o (kp b o q) hb
    · exact fun b o q n => ub.free b o (kp b o q) (un.free b o q n (fun z => nomatch z))
    · exact fun b o q hb => ub.there b o (kp b o q) hb
    · exact fun b xs q => ub.tups b xs (un.tups b xs q)
    · exact fun b o xs q => ub.frzs b o xs (un.frzs b o xs q)
    · intro b ps q
      obtain ⟨m1, e1⟩ := un.tbls b ps q
      obtain ⟨m2, e2⟩ := ub.tbls b _ e1
      refine ⟨m1 ++ m2, ?_⟩
      rw [e2, Array.append_assoc]
  exact ⟨a, B, H', cls, d, ea, fl, hok, ub2, na, os.trans ho, ag, he⟩
section
variable {P : Program} {w : World} {K : PySem.W.Frag} {mg : Str → Option Value} {base : Heap}
/-- a def that may raise, its error without context -/
theorem okN {x qual : Str} {st : Stmt} {f : Addr} {fd : FuncData} {N ps : List Str} {k : Nat} {sp : Sp} (F : Fun K x qual st f fd) (S : FnScope N ps (defScope st)) (len : ∀ vs H Q E, sp vs H Q E → vs.length = ps.length)
    (hb : ∀ (cdv : Value) (A : Around) (outer : List Env) (s : Shared) (H : Hp) (vs : List V) (Q : VK) (E : XK), Room k (A.deeper (envOfC qual (defScope st) s.heap.objs.size f cdv)) → sp vs H Q E →
      ∃ t, PSs (cxOf (L2N.CX P w) P w K mg base N qual (defScope st) f cdv A outer s H E) (defBody st) t ∧ t { nx := fun _ H' => Q .non H', rt := Q } (start N vs) H) : FnOk P w K mg base (L2N.CX P w) (k + 1) f fd ps sp := by
  obtain ⟨oc, od, kV, doc, pm, an, cdv, ct, osl, rfl, lk, hcd⟩ := F.ex
  exact fn_of lk hcd S len fun A outer s H vs Q E hr hsp => hb cdv A outer s H vs Q E hr hsp
end
end SQ
/-! for i, x in enumerate(a tuple) -/
namespace SQ
open PySem PySem.Spec PyProof.Rows L2
def ItT (K : PySem.W.Frag) (a : Addr) : It :=
  ⟨fun i H => ∃ (xs : List V) (x : V), SqT K H a xs ∧ xs[i]? = some x,
    fun i H v H' => ∃ T x, v = .ref T ∧ H T = none ∧ H' = upd H T (.tup [.int (i : Nat), x]) ∧ ∀ xs, SqT K H a xs → xs[i]? = some x,
    fun i H => ∃ xs : List V, SqT K H a xs ∧ xs.length = i⟩
/-- the makings of enumerate(v) -/
theorem meets_enum1 {v : Value} {o : Obj} {G : Heap → Prop} (B : Begins v o G) :
    Meets (Builtin.«enumerate.__new__» ⟨[.type "enumerate", v], []⟩) (fun _ R s => G s.heap ∧
      R (.ok (.ret (.ref (s.heap.push o).objs.size))) { s with heap := (s.heap.push o).push ({ cls := .type "enumerate", data := .fields #[.none, .bool false, .ref s.heap.objs.size, rawInt 0, .none, .none] } : Obj) }) := by
  refine .of_wp fun prog w A R s h => ?_
  obtain ⟨hp, g, d, tk, os⟩ := s
  obtain ⟨hG, hR⟩ := h
  have isSub := sub_enumerate
  have it : ∀ {A' : Around} {E : Value → Shared → Prop} {Q : Value → Shared → Prop}, Q (.ref hp.objs.size) ⟨hp.push o, g, d, tk, os⟩ →
      wpAny (model prog w) A' (pyIter v) Q E ⟨hp, g, d, tk, os⟩ := fun q => B.iter prog w _ _ ⟨hp, g, d, tk, os⟩ _ hG q
  wp_walk using it
  refine wpAny_stack_any fun st => wpAny_pure ?_
  split
  · rename_i c _ _ _ _ _
    cases (c == Value.type "enumerate") <;>
    · wp_walk using it
      exact ⟨_, rfl, hR⟩
  · wp_walk using it
    exact ⟨_, rfl, hR⟩
section
variable {prog : Program} {w : World} {A : Around} {E : Value → Shared → Prop} {s : Shared}
theorem enum_of {v : Value} {o : Obj} {G : Heap → Prop} {Q : Value → Shared → Prop} (B : Begins v o G) (hG : G s.heap)
    (h : ∀ h', IsEnum h' (s.heap.objs.size + 1) s.heap.objs.size 0 .none → h'.get? s.heap.objs.size = some o →
      (∀ b u, s.heap.get? b = some u → h'.get? b = some u) → Q (.ref (s.heap.objs.size + 1)) { s with heap := h' }) :
    wpAny (model prog w) A (call (.type "enumerate") [v]) Q E s := by
  refine callType_new F.called_enumerate (by decide) (F.typeCall_enumerate_1 _) (F.newCall_enumerate_1 _) (fun obj => F.args_object_init_2 obj _)
    F.entry_enumerate_new (meets_enum1 B) ⟨hG, ?_⟩
  have hz : (s.heap.push o).objs.size = s.heap.objs.size + 1 := Heap.size_push ..
  show _ ∧ _
  rw [hz]
  have got := Heap.get?_push_size (s.heap.push o)
    (o := { cls := .type "enumerate", data := .fields #[.none, .bool false, .ref s.heap.objs.size, rawInt 0, .none, .none] }) rfl
  rw [hz] at got
  exact ⟨⟨_, got, rfl⟩, h _ got (Heap.get?_push_of_some _ (Heap.get?_push_size _ B.free)) fun b u x => Heap.get?_push_of_some _ (Heap.get?_push_of_some _ x)⟩
end
theorem tup_of {h : Heap} {a : Addr} {its : List Value} (p : IsTup h a its.toArray) : h.IsTuple a its.toArray := by
  obtain ⟨o, e, c, n, d⟩ := p
  exact ⟨o, e, c, n, d⟩
theorem turn_enumT {P : Program} {w : World} {K : PySem.W.Frag} {elts : List Expr} {kk : Nat} {tpos : Pos} (a e it : Addr) :
    Turn P w K (.Tuple elts kk tpos) (ItT K a) [e, it] e (fun i h => (∃ old, IsEnum h e it ((i : Nat) : Int) old) ∧ h.IsTupleIter it a i ∧ e ≠ it ∧ a ≠ it ∧ e ≠ a) where
  mem := by simp
  obj := fun i h ⟨⟨old, he⟩, ⟨o, ho, hc, hd⟩, _⟩ b hb => by
    rcases (show b = e ∨ b = it by simpa using hb) with z | z
    · rw [z]
      exact ⟨_, he, fun v q => nomatch q⟩
    · rw [z]
      exact ⟨o, ho, fun v q => by rw [hd] at q; cases q⟩
  keep := fun i h h' ⟨⟨old, he⟩, ⟨o, ho, r⟩, ne⟩ k => ⟨⟨old, k e (by simp) _ he⟩, ⟨o, k it (by simp) _ ho, r⟩, ne⟩
  item := by
    intro X hP hw hK hc i pins s σ H E I hf ⟨⟨old, he⟩, hit, ne1, ne2, ne3⟩ ⟨xs, x, hq, hx⟩
    subst hP hw hK
    obtain ⟨its, rv, p, hz⟩ := I.tuple hq
    obtain ⟨u, hu, ru⟩ := rv.get hx
    have hel : e < s.heap.objs.size := Heap.lt_size he
    have hil : it < s.heap.objs.size := by
      obtain ⟨_, q, _⟩ := hit
      exact Heap.lt_size q
    have hd : X.A.in1.handled = none := I.ok.hd hc
    have hlt : i < its.toArray.size := by
      have := (List.getElem?_eq_some_iff.mp hu).1
      simpa using this
    refine wpAny_pyNext_enum_itemD (Draws.tuple (prog := X.prog) (w := X.w) (A := X.A.in1) hd it a ne2 its.toArray) he ⟨hit, tup_of p⟩ hlt ne1 (by simp [ne1, ne3]) ?_
    intro u' h' tk hu' ho ⟨hit', _⟩ hT hsz hk
    have eu : u' = u := by
      have h1 : its[i]? = some u' := by simpa using hu'
      rw [hu] at h1
      exact (Option.some.inj h1).symm
    subst eu
    refine ⟨_, rfl, wpAny_letOwnedTupleGo_enum (s := { s with heap := h', toks := tk + 1 }) ho fun h'' he' sb => ?_⟩
    have hT2 : h''.get? s.heap.objs.size = some { cls := .type "tuple", data := .seq #[.int i tk, u'] } := (sb.2 _ (Nat.ne_of_gt hel)).trans hT
    have new : ObjOk X.prog X.w (upd H s.heap.objs.size (.tup [.int (i : Nat), x])) h'' s.heap.objs.size (.tup [.int (i : Nat), x]) :=
      ⟨by show 2 ≤ sizeLine; decide, [.int i tk, u'], .cons ⟨_, rfl⟩ (.cons ru .nil), ⟨_, hT2, rfl, _, rfl⟩⟩
    have I1 : Inv X pins σ (upd H s.heap.objs.size (.tup [.int (i : Nat), x])) { s with heap := h'', toks := tk + 1 } :=
      I.turnedNew (ch := [e, it]) (fun b ob hb q => (sb.2 b (fun z => hb (by simp [z]))).trans (hk b ob (fun z => hb (by simp [z])) (fun z => hb (by simp [z])) q)) hf (Nat.le_refl _) new
    refine ⟨.ref s.heap.objs.size, _, I1, rfl, ⟨_, x, rfl, I.hok.fresh (Nat.le_refl _), rfl, fun ys hy => by rw [I.tuple_inj hy hq]; exact hx⟩, ⟨⟨u', ?_⟩, ?_, ne1, ne2, ne3⟩, fun b hb => ?_⟩
    · rw [show ((i + 1 : Nat) : Int) = (i : Int) + 1 by omega]
      exact he'
    · obtain ⟨o, q, r⟩ := hit'
      exact ⟨o, (sb.2 it (Ne.symm ne1)).trans q, r⟩
    · have hb' : b < s.heap.objs.size := by
        rcases (show b = e ∨ b = it by simpa using hb) with z | z
        · rw [z]
          exact hel
        · rw [z]
          exact hil
      rw [upd_ne (Nat.ne_of_lt hb')]
      exact (hf b hb).1
  done := by
    intro X hP hw hK hc i pins s σ H E I hf ⟨⟨old, he⟩, hit, ne1, ne2, ne3⟩ ⟨xs, hq, hx⟩
    subst hP hw hK
    obtain ⟨its, rv, p, hz⟩ := I.tuple hq
    obtain ⟨f0, f1, f2, f3, f4, f5⟩ := hf it (by simp)
    have hl := rv.length
    have hd : X.A.in1.handled = none := I.ok.hd hc
    have hn : its.toArray.size = i := by
      rw [List.size_toArray]
      omega
    refine wpAny_pyNext_enum_endD (Draws.tuple (prog := X.prog) (w := X.w) (A := X.A.in1) hd it a ne2 its.toArray) he ?_ ?_
    · rw [hn]
      exact ⟨hit, tup_of p⟩
    · intro h' eb
      exact ⟨rfl, I.turned (t' := s.toks) (fun b o hb q => eb b o hb q) f0 f1 f3 f4 f5⟩
  self := fun A i s Q E ⟨⟨_, he⟩, _⟩ h => wpAny_pyIter_enum he h
def iEnumT (K : PySem.W.Frag) (ta : TA) : TI := fun σ H R => ta σ H fun vs H1 => ∃ a xs, vs = [.ref a] ∧ SqT K H1 a xs ∧ R (ItT K a) H1
theorem pi_enumT {X : Cx} {e : Expr} {ta : TA} {p pos tpos : Pos} {elts : List Expr} {kk : Nat} (hg : Gl X "enumerate") (hm : X.mg "enumerate" = none) (ha : PA X [e] ta)
    (hs : starEach [e] X.env = [(false, eval e X.env)] := by rfl) : PI X (.Tuple elts kk tpos) (.Call (.Name "enumerate" p) [e] [] pos) (iEnumT X.K ta) := by
  constructor
  intro pins s σ H R I h
  refine Call_ (ld_blt I hg hm boot_enumerate (PyProof.Rows.callWith_type1 (thn (ha.run pos pins s σ H _ I h) ?_) hs rfl))
  intro us s1 ⟨vs, H1, I1, r1, a, xs, ex, hq, q⟩
  subst ex
  cases r1 with
  | cons r rr =>
    cases rr
    cases r
    obtain ⟨its, rv, p', hz⟩ := I1.tuple hq
    have hal : a < s1.heap.objs.size := by
      obtain ⟨o, e', _⟩ := p'
      exact Heap.lt_size e'
    refine enum_of (begins_tuple a its.toArray) (tup_of p') fun h' he hit hk => wpAny_pyIter_enum he ?_
    have I2 : Inv X pins σ H1 { s1 with heap := h' } := I1.kept (t' := s1.toks) hk
    refine ⟨s1.heap.objs.size + 1, [s1.heap.objs.size + 1, s1.heap.objs.size], _, _, H1, rfl, I2, turn_enumT a (s1.heap.objs.size + 1) s1.heap.objs.size,
      ⟨⟨.none, he⟩, ⟨_, hit, rfl, rfl⟩, Nat.succ_ne_self _, Nat.ne_of_lt hal, Nat.ne_of_gt (Nat.lt_succ_of_lt hal)⟩, fun b hb => ?_, q⟩
    have hle : s1.heap.objs.size ≤ b := by
      rcases (show b = s1.heap.objs.size + 1 ∨ b = s1.heap.objs.size by simpa using hb) with z | z
      · rw [z]
        exact Nat.le_succ _
      · rw [z]
        exact Nat.le_refl _
    exact I1.fpOk hle (I1.hok.fresh hle)
end SQ
namespace SQ9
open PySem L2 SQ
abbrev sChk : Stmt := top 72
theorem dp_of {k : Nat} {A : Around} (hr : Room k A) : A.depth + 1 < recursionLimit := by
  have := hr.dp
  omega
abbrev En := Option (Str × Int × Int)
abbrev Ents (H : Hp) (xs : List V) (os : List En) : Prop := Paired (Ent H) xs os
theorem Ents.same {H H' : Hp} {xs : List V} {os : List En} (s : Same H H') (h : Ents H xs os) : Ents H' xs os := Paired.mapP h fun a b e => e.same s
/-- the first place that is refused, what stands ahead of i having the names seen -/
def firstBad (seen : List Str) (i : Nat) : List En → Option Nat
  | [] => none
  | none :: _ => some i
  | some (n, _, _) :: os => if n ∈ seen then some i else firstBad (n :: seen) (i + 1) os
/-- what the error's index holds, if there is one -/
def verdict (os : List En) : Option V := if 8 < os.length then some .non else (firstBad [] 0 os).map fun i => .int (i : Nat)
/-- the error's class as the top has made it -/
structure EC (K : PySem.W.Frag) (mg : Str → Option Value) (CE fI : Addr) : Prop where
  g : mg "InvalidEntries" = some (.ref CE)
  T : ErrC K CE "index" [.type "ValueError", .type "Exception", .type "BaseException", .type "object"] "ValueError.__new__"
  J : ErrI K CE fI "index"
  ty : PySem.W.typeIn K (.ref CE) = some (.type "type")
structure B3 (mg : Str → Option Value) : Prop where
  set : mg "set" = none
  enumerate : mg "enumerate" = none
  most : ∃ t, mg "MOST_ENTRIES" = some (.int 8 t)
def spChk (CE : Addr) : Sp := fun vs H Q E => ∃ (t : Addr) (xs : List V) (os : List En), vs = [.ref t] ∧ H t = some (.tup xs) ∧ Ents H xs os ∧ xs.length ≤ 2000 ∧
  (∀ idx, verdict os = some idx → ∀ (d : Addr) (H' : Hp), Same H H' → H' d = some (.xd [("index", idx)]) → E (.ref CE) (some d) H') ∧ (verdict os = none → ∀ H', Same H H' → Q .non H')
section
variable {P : Program} {w : World} {K : PySem.W.Frag} {mg : Str → Option Value} {base : Heap} {fP fN fF fA fE tC CE fI : Addr} {dP dN dF dA dE : FuncData}
theorem scCk : FnScope ["entries", "taken", "place", "entry"] ["entries"] (defScope sChk) := ⟨rfl, rfl, rfl, by decide +kernel, rfl, by decide +kernel, by decide +kernel⟩
theorem walk_enumT {a : Addr} {xs : List V} : Walk (ItT K a) xs.length (fun H => SqT K H a xs) (YPair (fun i => some (.int (i : Nat))) (fun i => xs[i]?)) := by
  refine ⟨fun i _ hi q => ⟨xs, xs[i], q, by simp [hi]⟩, fun _ q => ⟨xs, q, rfl⟩, fun i H v H' _ q y => ?_⟩
  obtain ⟨T, x, h1, h2, h3, h4⟩ := y
  exact ⟨T, .int (i : Nat), x, h1, h2, h3, rfl, h4 xs q⟩
theorem Ents.get {H : Hp} : ∀ {xs : List V} {os : List En} {i : Nat} {x : V}, Ents H xs os → xs[i]? = some x → ∃ o, os[i]? = some o ∧ Ent H x o
  | _, _, _, _, .nil, e => by simp at e
  | _, _, 0, x, .cons r t, e => by
    cases e
    exact ⟨_, rfl, r⟩
  | _, _, i + 1, x, .cons r t, e => Ents.get (i := i) (x := x) t e
theorem drop_at {α : Type} : ∀ {l : List α} {i : Nat} {x : α}, l[i]? = some x → l.drop i = x :: l.drop (i + 1)
  | [], i, x, h => by simp at h
  | a :: l, 0, x, h => by
    cases h
    rfl
  | a :: l, i + 1, x, h => drop_at (l := l) (i := i) h
theorem ok_chk {f : Addr} {fd : FuncData} (F : Fun K "check_entries" "check_entries" sChk f fd) (D : D2 K mg fP fN fF fA fE dP dN dF dA dE) (B : B2 mg) (C : Core K mg tC) (Z : EC K mg CE fI) (BB : B3 mg) : FnOk P w K mg base (L2N.CX P w) 4 f fd ["entries"] (spChk CE) := by
  have GE : FnOk P w K mg base CX0 3 fE dE ["value"] spEn := ok_en D B C
  obtain ⟨tM, hM⟩ := BB.most
  refine okN F scCk (fun vs H Q E h => ?_) (fun cdv A outer s H vs Q E hr h => ?_)
  · obtain ⟨t, xs, os, rfl, _⟩ := h
    rfl
  · obtain ⟨t, xs, os, rfl, ht, he, hlen, kE, kQ⟩ := h
    have hl : xs.length = os.length := Paired.length he
    refine ⟨_, pss_cons (ps_if (pt_cmpR op_gt (pe_callB call_len_seq (by rfl) B.len PySem.boot_len (pa_cons (pv 0) pa_nil)) (pe_glob (v := .int 8) rfl hM ⟨_, rfl⟩) (nomark _))
        (pss_one (L2N.ps_raise rfl (L2N.takes_of rfl rfl rfl rfl) (L2H.PMk5.pmk (pmk5_err (.inr (.inl rfl)) bValue Z.T Z.J Z.ty Z.g (dp_of hr) rfl pe_non)))) pss_nil)
      (pss_cons (ps_set (i := 1) scCk.nd rfl (.inl rfl) (pe_callTy0 cr_set0K (by rfl) BB.set (by decide +kernel)))
      (pss_one (ps_for (passes_of rfl) rfl (pi_enumT (by rfl) BB.enumerate (pa_cons (pv 0) pa_nil)) (pg_tup rfl (pgs_cons (pg_name (i := 2) scCk.nd rfl (.inl rfl)) (pgs_cons (pg_name (i := 3) scCk.nd rfl (.inl rfl)) pgs_nil)))
        (pss_cons (ps_if (PW.pt (pw_or (pt_not (pt_val (pe_call GE hr rfl D.gE D.FE.kp D.bE .nil pass0 (pa_cons (pv 3) pa_nil)))) (pw_or1 (pt_cmpR or_sinK (pe_ix ix_tup (pv 3) pe_int (fun _ _ => rfl)) (pv 1) (by rfl)))))
          (pss_one (L2N.ps_raise rfl (L2N.takes_of rfl rfl rfl rfl) (L2H.PMk5.pmk (pmk5_err (.inr (.inl rfl)) bValue Z.T Z.J Z.ty Z.g (dp_of hr) rfl (pv 2))))) pss_nil)
        (pss_one (ps_expr (pe_saddK (pv 1) (pa_cons (pe_ix ix_tup (pv 3) pe_int (fun _ _ => rfl)) pa_nil)))))))), ?_⟩
    refine ⟨_, rfl, t, xs, rfl, .inr (SqT.of ht), _, _, rfl, rfl, _, rfl, ?_⟩
    by_cases h8 : (8 : Int) < (xs.length : Int)
    · rw [decide_eq_true h8]
      refine iteT fun d nd => ?_
      exact kE .non (by unfold verdict; rw [if_pos (by omega)]) d _ (same_new (fun _ _ e => e) nd) upd_same
    · rw [decide_eq_false h8]
      refine iteF ⟨rfl, fun p np => ?_⟩
      have sP : Same H (upd H p (SetK P w p (fun _ => false) 0)) := same_new (fun _ _ e => e) np
      have hv : verdict os = (firstBad [] 0 os).map fun i => .int (i : Nat) := by
        unfold verdict
        rw [if_neg (by omega)]
      refine ⟨_, rfl, t, xs, rfl, SqT.of (sP _ _ ht), for_it walk_enumT (fun i σ H2 => ∃ (S : Key → Bool) (n : Nat) (seen : List Str) (v2 v3 : Option V), σ = [some (.ref t), some (.ref p), v2, v3] ∧ Same H H2 ∧ H2 p = some (SetK P w p S n) ∧ n ≤ i ∧
          (∀ k : Str, S (Sum.inr k) = decide (k ∈ seen)) ∧ firstBad [] 0 os = firstBad seen i (os.drop i))
        ⟨_, 0, [], none, none, rfl, sP, upd_same, Nat.le_refl _, fun k => by simp, rfl⟩ (fun i σ H2 _ ⟨_, _, _, _, _, _, s2, _⟩ => SqT.of (s2 _ _ ht)) ?_ ?_⟩
      · rintro i v σ H2 H3 hi ⟨S, n, seen, v2, v3, rfl, s2, hp2, hn, hS, hF⟩ ⟨T, x, y, rfl, nT, rfl, e1, e2⟩
        cases e1
        obtain ⟨o, ho, en⟩ := Ents.get he e2
        have s3 : Same H2 (upd H2 T (.tup [.int (i : Nat), y])) := same_new (fun _ _ e => e) nT
        have hT : upd H2 T (.tup [.int (i : Nat), y]) T = some (.tup [.int (i : Nat), y]) := upd_same
        have hp3 := s3 _ _ hp2
        rw [drop_at ho] at hF
        generalize hG : upd H2 T (HO.tup [V.int (i : Nat), y]) = G at hT hp3 s3 ⊢
        have s23 : Same H G := st s2 s3
        refine ⟨T, _, rfl, SqT.of hT, rfl, _, _, rfl, _, _, rfl, rfl, ?_⟩
        refine ⟨_, rfl, y, o, rfl, en.same s23, fun G1 sg => ⟨_, rfl, ?_⟩⟩
        have s4 : Same H G1 := st s23 sg
        have hp4 := sg _ _ hp3
        cases o with
        | none =>
          refine iteT (iteT ⟨_, rfl, fun d nd => ?_⟩)
          refine kE (.int (i : Nat)) ?_ d _ (same_new s4 nd) upd_same
          rw [hv, hF]
          rfl
        | some o3 =>
          obtain ⟨nm, a1, a2⟩ := o3
          refine iteF ?_
          have en4 := en.same s4
          cases en4 with
          | @good ea _ _ _ eE hnm hok =>
            refine ⟨_, rfl, ea, _, _, _, rfl, rfl, SqT.of eE, rfl, _, rfl, Sum.inr nm, p, S, n, rfl, rfl, hp4, _, rfl, ?_⟩
            show (if S (Sum.inr nm) = true then _ else _)
            rw [hS nm]
            by_cases hm : nm ∈ seen
            · rw [decide_eq_true hm]
              refine iteT ⟨_, rfl, fun d nd => ?_⟩
              refine kE (.int (i : Nat)) ?_ d _ (same_new s4 nd) upd_same
              rw [hv, hF]
              show (if nm ∈ seen then some i else _).map _ = _
              rw [if_pos hm]
              rfl
            · rw [decide_eq_false hm]
              refine iteF ?_
              refine ⟨_, rfl, ⟨p, S, n, rfl, hp4⟩, _, rfl, ea, _, _, _, rfl, rfl, SqT.of eE, rfl, p, Sum.inr nm, S, n, rfl, rfl, hp4, ?_, ?_⟩
              · show n + 1 < 4096
                omega
              · refine ⟨_, _, nm :: seen, _, _, rfl, ?_, upd_same, ?_, ?_, ?_⟩
                · intro b ob e
                  rw [upd_ne (ne_of_none e np)]
                  exact s4 _ _ e
                · split <;> omega
                · intro k
                  show (S (Sum.inr k) || decide ((Sum.inr k : Key) = Sum.inr nm)) = decide (k ∈ nm :: seen)
                  rw [hS k, key_rr]
                  by_cases hk : k = nm
                  · subst hk
                    simp
                  · simp [hk]
                · rw [hF]
                  show (if nm ∈ seen then some i else firstBad (nm :: seen) (i + 1) (os.drop (i + 1))) = _
                  rw [if_neg hm]
      · rintro σ H2 ⟨S, n, seen, v2, v3, rfl, s2, hp2, hn, hS, hF⟩
        refine kQ ?_ H2 s2
        rw [hv, hF, hl, List.drop_length]
        rfl
end
end SQ9
namespace SQ9
open PySem L2 SQ
abbrev sTx : Stmt := top 73
abbrev sIni : Stmt := inClass (top 76) 0
def etext (n : Str) (i j : Int) : Str := Str.empty ++ n ++ " " ++ (toString i) ++ " " ++ (toString j)
def spTx : Sp := fun vs H Q _ => ∃ (n : Str) (t : Addr) (i j : Int), vs = [.str n, .ref t] ∧ H t = some (.tup [.int i, .int j]) ∧ n.length ≤ 1000 ∧ 0 ≤ i ∧ i ≤ 3 ∧ 0 ≤ j ∧ j ≤ 3 ∧ Q (.str (etext n i j)) H
section
variable {P : Program} {w : World} {K : PySem.W.Frag} {mg : Str → Option Value} {base : Heap} {fP fN fF fA fE tC CE fI : Addr} {dP dN dF dA dE : FuncData}
theorem scTx : FnScope ["name", "arity", "inputs", "outputs"] ["name", "arity"] (defScope sTx) := ⟨rfl, rfl, rfl, by decide +kernel, rfl, by decide +kernel, by decide +kernel⟩
theorem four {i : Int} (h0 : 0 ≤ i) (h1 : i ≤ 3) : i = 0 ∨ i = 1 ∨ i = 2 ∨ i = 3 := by omega
theorem small_log {i : Int} (h0 : 0 ≤ i) (h1 : i ≤ 3) : i.natAbs.log2 < 1920 := by
  rcases four h0 h1 with rfl | rfl | rfl | rfl <;> decide
theorem len_num {i : Int} (h0 : 0 ≤ i) (h1 : i ≤ 3) : ((toString i : String) : Str).length = 1 := by
  rcases four h0 h1 with rfl | rfl | rfl | rfl <;> decide +kernel
theorem len_app (a b : Str) : (a ++ b).length = a.length + b.length := by
  show (a.cps ++ b.cps).size = a.cps.size + b.cps.size
  exact Array.size_append
theorem ok_tx {f : Addr} {fd : FuncData} (F : Fun K "entry_text" "entry_text" sTx f fd) : FnOk P w K mg base CX0 1 f fd ["name", "arity"] spTx := by
  refine F.ok scTx (fun vs H Q E h => ?_) (fun cdv A outer s H vs Q E hr h => ?_)
  · obtain ⟨n, t, i, j, rfl, _⟩ := h
    rfl
  · obtain ⟨n, t, i, j, rfl, ht, hn, i0, i3, j0, j3, q⟩ := h
    refine ⟨_, pss_cons (ps_asg (pv 1) (pg_tup rfl (pgs_cons (pg_name (i := 2) scTx.nd rfl (.inl rfl)) (pgs_cons (pg_name (i := 3) scTx.nd rfl (.inl rfl)) pgs_nil))))
      (pss_one (ps_ret (pe_joined (.cons (pe_fmt (pv 0)) (.cons pe_str (.cons (pe_fmt (pv 2)) (.cons pe_str (.cons (pe_fmt (pv 3)) .nil)))))))), ?_⟩
    have line : ∀ {k : Nat}, k ≤ 2000 → k ≤ sizeLine := fun h => Nat.le_trans h (by decide)
    have l0 : (Str.empty).length = 0 := rfl
    have l1 : ((" " : String) : Str).length = 1 := by decide +kernel
    have li := len_num i0 i3
    have lj := len_num j0 j3
    refine ⟨_, rfl, t, _, rfl, SqT.of ht, rfl, _, _, rfl, _, _, rfl, rfl, ?_⟩
    refine ⟨_, rfl, .inl ⟨n, rfl, line (by omega), n, rfl, line (by rw [len_app]; omega), _, rfl, line (by rw [len_app, len_app]; omega), _, rfl, .inr ⟨i, rfl, small_log i0 i3, _, rfl, line (by rw [len_app, len_app, len_app, li]; omega), _, rfl, line (by rw [len_app, len_app, len_app, len_app, li]; omega), _, rfl,
      .inr ⟨j, rfl, small_log j0 j3, _, rfl, line (by rw [len_app, len_app, len_app, len_app, len_app, li, lj]; omega), q⟩⟩⟩⟩
end
end SQ9
namespace SQ9
open PySem L2 SQ
abbrev G3 := Str × Int × Int
def gnames (gs : List G3) : List Str := gs.map (·.1)
/-- nothing is refused: all are entries, the names differ -/
theorem none_bad : ∀ (os : List En) (seen : List Str) (i : Nat), firstBad seen i os = none → ∃ gs : List G3, os = gs.map some ∧ (gnames gs).Nodup ∧ ∀ n ∈ gnames gs, n ∉ seen
  | [], _, _, _ => ⟨[], rfl, List.nodup_nil, fun n h => nomatch h⟩
  | none :: _, _, _, h => nomatch h
  | some (n, a, b) :: os, seen, i, h => by
    have h' : (if n ∈ seen then some i else firstBad (n :: seen) (i + 1) os) = none := h
    by_cases hm : n ∈ seen
    · rw [if_pos hm] at h'
      cases h'
    · rw [if_neg hm] at h'
      obtain ⟨gs, e, nd, ns⟩ := none_bad os (n :: seen) (i + 1) h'
      refine ⟨(n, a, b) :: gs, by rw [e]; rfl, ?_, ?_⟩
      · refine List.nodup_cons.mpr ⟨fun hn => ns n hn List.mem_cons_self, nd⟩
      · intro m hm2
        rcases List.mem_cons.mp hm2 with e2 | e2
        · rw [e2]
          exact hm
        · exact fun z => ns m e2 (List.mem_cons_of_mem _ z)
theorem verdict_none {os : List En} (h : verdict os = none) : ∃ gs : List G3, os = gs.map some ∧ (gnames gs).Nodup ∧ gs.length ≤ 8 := by
  unfold verdict at h
  by_cases h8 : 8 < os.length
  · rw [if_pos h8] at h
    cases h
  · rw [if_neg h8, Option.map_eq_none_iff] at h
    obtain ⟨gs, e, nd, _⟩ := none_bad os [] 0 h
    refine ⟨gs, e, nd, ?_⟩
    rw [e, List.length_map] at h8
    omega
/-- the numbers of a name -/
def arOf (gs : List G3) (n : Str) : Int × Int := ((gs.find? fun g => decide (g.1 = n)).map (·.2)).getD (0, 0)
def vtext (gs : List G3) (ys : List Str) : Str := Txt.join ", " (ys.map fun n => etext n (arOf gs n).1 (arOf gs n).2)
/-- the dict of the numbers -/
def Kvs (H : Hp) (kvs : List (Key × V)) (gs : List G3) : Prop := Paired (fun kv g => kv.1 = Sum.inr g.1 ∧ ∃ t, kv.2 = .ref t ∧ H t = some (.tup [.int g.2.1, .int g.2.2])) kvs gs
theorem Kvs.same {H H' : Hp} {kvs : List (Key × V)} {gs : List G3} (s : Same H H') (h : Kvs H kvs gs) : Kvs H' kvs gs := Paired.mapP h fun a b e => ⟨e.1, let ⟨t, h1, h2⟩ := e.2; ⟨t, h1, s _ _ h2⟩⟩
theorem Kvs.names {H : Hp} : ∀ {kvs : List (Key × V)} {gs : List G3}, Kvs H kvs gs → kvs.map (·.1) = (gnames gs).map Sum.inr
  | _, _, .nil => rfl
  | _, _, .cons r t => by
    exact congr (congrArg List.cons r.1) (Kvs.names t)
theorem Kvs.no {H : Hp} {n : Str} : ∀ {kvs : List (Key × V)} {gs : List G3}, Kvs H kvs gs → n ∉ gnames gs → valV kvs (Sum.inr n) = none
  | _, _, .nil, _ => rfl
  | _, _, .cons (a := kv) (b := g) r t, hn => by
    have h1 : ¬ kv.1 = Sum.inr n := fun z => hn (by rw [r.1] at z; rw [← Sum.inr.inj z]; exact List.mem_cons_self)
    rw [valV_neg h1]
    exact Kvs.no t fun z => hn (List.mem_cons_of_mem _ z)
theorem Kvs.at {H : Hp} {n : Str} : ∀ {kvs : List (Key × V)} {gs : List G3}, Kvs H kvs gs → n ∈ gnames gs → ∃ t, valV kvs (Sum.inr n) = some (.ref t) ∧ H t = some (.tup [.int (arOf gs n).1, .int (arOf gs n).2])
  | _, _, .nil, h => nomatch h
  | _, _, .cons (a := kv) (b := g) (l₂ := gs) r t, hn => by
    by_cases h1 : g.1 = n
    · obtain ⟨t0, e1, e2⟩ := r.2
      refine ⟨t0, ?_, ?_⟩
      · rw [valV_pos (by rw [r.1, h1]), e1]
      · unfold arOf
        rw [List.find?_cons_of_pos (by simpa using h1)]
        exact e2
    · have h2 : ¬ kv.1 = Sum.inr n := fun z => h1 (by rw [r.1] at z; exact Sum.inr.inj z)
      have hn' : n ∈ gnames gs := by
        rcases List.mem_cons.mp hn with z | z
        · exact absurd z.symm h1
        · exact z
      obtain ⟨t0, e1, e2⟩ := Kvs.at t hn'
      refine ⟨t0, ?_, ?_⟩
      · rw [valV_neg h2]
        exact e1
      · unfold arOf at e2 ⊢
        rw [List.find?_cons_of_neg (by simpa using h1)]
        exact e2
theorem Kvs.snoc {H : Hp} : ∀ {kvs : List (Key × V)} {gs : List G3} {kv : Key × V} {g : G3}, Kvs H kvs gs → (kv.1 = Sum.inr g.1 ∧ ∃ t, kv.2 = .ref t ∧ H t = some (.tup [.int g.2.1, .int g.2.2])) → Kvs H (kvs ++ [kv]) (gs ++ [g])
  | _, _, _, _, .nil, h => .cons h .nil
  | _, _, _, _, .cons r t, h => .cons r (Kvs.snoc t h)
end SQ9
namespace SQ9
open PySem L2 SQ
/-- the class of the vocabularies -/
structure VC (K : PySem.W.Frag) (mg : Str → Option Value) (C : Addr) : Prop where
  g : mg "Vocabulary" = some (.ref C)
  cl : Cls K C
  nA : NoAttr K C "arities"
  nN : NoAttr K C "names"
  nT : NoAttr K C "text"
structure B4 (mg : Str → Option Value) : Prop where
  sorted : mg "sorted" = none
def flds (dA tN : Addr) (z : Str) : List (Str × V) := putF "text" (.str z) (putF "names" (.ref tN) (putF "arities" (.ref dA) []))
/-- a vocabulary at x, with the entries gs, the names ys -/
def Vc (C : Addr) (H : Hp) (x : Addr) (gs : List G3) (ys : List Str) : Prop := ∃ (dx dA tN : Addr) (kvs : List (Key × V)), H x = some (.ins C dx (flds dA tN (vtext gs ys))) ∧ H tN = some (.tup (ys.map V.str)) ∧ H dA = some (.dK kvs) ∧ Kvs H kvs gs
/-- what __init__ promises, once the entries lie in a tuple -/
def spIni0 (C CE : Addr) : Sp := fun vs H Q E => ∃ (x dx t : Addr) (xs : List V) (os : List En), vs = [.ref x, .ref t] ∧ H x = some (.ins C dx []) ∧ H t = some (.tup xs) ∧ Ents H xs os ∧ xs.length ≤ 2000 ∧
  (∀ idx, verdict os = some idx → ∀ (d : Addr) (H' : Hp), Same H H' → H' d = some (.xd [("index", idx)]) → E (.ref CE) (some d) H') ∧
  (verdict os = none → ∀ gs : List G3, os = gs.map some → ∀ (H' : Hp) (ys : List Str), ys.Perm (gnames gs) → PyProof.Rows.sortedS ys = true → But x H H' → Vc C H' x gs ys → Q .non H')
section
variable {P : Program} {w : World} {K : PySem.W.Frag} {mg : Str → Option Value} {base : Heap} {fP fN fF fA fE tC CE fI C fC fX : Addr} {dP dN dF dA dE dC dX : FuncData}
theorem scIni : FnScope ["self", "entries", "arities", "name", "inputs", "outputs"] ((["self"] : List Str) ++ (["entries"] : List Str)) (defScope sIni) := ⟨rfl, rfl, rfl, by decide +kernel, rfl, by decide +kernel, by decide +kernel⟩
structure I2 (K : PySem.W.Frag) (mg : Str → Option Value) (fC fX : Addr) (dC dX : FuncData) : Prop where
  gC : mg "check_entries" = some (.ref fC)
  FC : Fun K "check_entries" "check_entries" sChk fC dC
  bC : Binds K dC ["entries"] []
  gX : mg "entry_text" = some (.ref fX)
  FX : Fun K "entry_text" "entry_text" sTx fX dX
  bX : Binds K dX ["name", "arity"] []
theorem nodup_take {α : Type} : ∀ {l : List α} {i : Nat} {x : α}, l.Nodup → l[i]? = some x → x ∉ l.take i
  | [], i, x, _, h => by simp at h
  | a :: l, 0, x, _, h => by simp
  | a :: l, i + 1, x, nd, h => by
    have h' : l[i]? = some x := h
    obtain ⟨n1, n2⟩ := List.nodup_cons.mp nd
    rw [List.take_succ_cons]
    intro hm
    rcases List.mem_cons.mp hm with e | e
    · exact n1 (e ▸ List.mem_of_getElem? h')
    · exact nodup_take n2 h' e
theorem take_more {α : Type} {l : List α} {i : Nat} {x : α} (h : l[i]? = some x) : l.take (i + 1) = l.take i ++ [x] := by
  rw [List.take_add_one, h]
  rfl
theorem ents_good {H : Hp} : ∀ {xs : List V} {gs : List G3}, Ents H xs (gs.map some) → ∀ g ∈ gs, (isFree (.str g.1) && (isAr (.int g.2.1) && isAr (.int g.2.2))) = true
  | _, [], _, g, h => nomatch h
  | _, g0 :: gs, .cons r t, g, h => by
    rcases List.mem_cons.mp h with e | e
    · subst e
      cases r with
      | good _ _ hq => exact hq
    · exact ents_good t g e
theorem ar_mem {gs : List G3} {n : Str} (h : n ∈ gnames gs) : ∃ g ∈ gs, g.1 = n ∧ arOf gs n = g.2 := by
  unfold arOf
  cases hf : gs.find? (fun g => decide (g.1 = n)) with
  | none =>
    obtain ⟨g, hg, e⟩ := List.mem_map.mp h
    have := List.find?_eq_none.mp hf g hg
    exact absurd (by simpa using e) (by simpa using this)
  | some g => exact ⟨g, List.mem_of_find?_eq_some hf, by simpa using List.find?_some hf, rfl⟩
theorem ar_ok {i : Int} (h : isAr (.int i) = true) : 0 ≤ i ∧ i ≤ 3 := by
  have h' : (decide (0 ≤ i) && decide (i ≤ 3)) = true := h
  rw [Bool.and_eq_true] at h'
  exact ⟨of_decide_eq_true h'.1, of_decide_eq_true h'.2⟩
theorem free_len {n : Str} (h : isFree (.str n) = true) : n.length ≤ 8 := by
  have h' : (nameOk n && !decide (n ∈ cores)) = true := h
  rw [Bool.and_eq_true] at h'
  have h2 := h'.1
  unfold nameOk at h2
  rw [Bool.and_eq_true, Bool.and_eq_true] at h2
  have := of_decide_eq_true h2.1.2
  omega
/-- what is known of a name's numbers -/
theorem good_at {H : Hp} {xs : List V} {gs : List G3} {n : Str} (he : Ents H xs (gs.map some)) (h : n ∈ gnames gs) : n.length ≤ 8 ∧ (0 ≤ (arOf gs n).1 ∧ (arOf gs n).1 ≤ 3) ∧ 0 ≤ (arOf gs n).2 ∧ (arOf gs n).2 ≤ 3 := by
  obtain ⟨g, hg, rfl, e⟩ := ar_mem h
  have hh := ents_good he g hg
  rw [Bool.and_eq_true, Bool.and_eq_true] at hh
  rw [e]
  exact ⟨free_len hh.1, ar_ok hh.2.1, ar_ok hh.2.2⟩
theorem etext_len {n : Str} {i j : Int} (hn : n.length ≤ 8) (i0 : 0 ≤ i) (i3 : i ≤ 3) (j0 : 0 ≤ j) (j3 : j ≤ 3) : (etext n i j).length ≤ 12 := by
  unfold etext
  have l0 : (Str.empty).length = 0 := rfl
  have l1 : ((" " : String) : Str).length = 1 := by decide +kernel
  rw [len_app, len_app, len_app, len_app, len_app, len_num i0 i3, len_num j0 j3, l1, l0]
  omega
theorem sum_le {α : Type} (f : α → Nat) (b : Nat) : ∀ l : List α, (∀ x ∈ l, f x ≤ b) → (l.map f).sum ≤ l.length * b
  | [], _ => by simp
  | x :: l, h => by
    have h1 := h x List.mem_cons_self
    have h2 := sum_le f b l fun y hy => h y (List.mem_cons_of_mem _ hy)
    rw [List.map_cons, List.sum_cons, List.length_cons, Nat.add_mul]
    omega
theorem keptD {σ : St} {H : Hp} {A B : Hp → Prop} (h : A H) : tYes σ H (fun b H3 => if b = true then A H3 else B H3) := keptT h
theorem body_ini (I : I2 K mg fC fX dC dX) (D : D2 K mg fP fN fF fA fE dP dN dF dA dE) (B : B2 mg) (CW : Core K mg tC) (Z : EC K mg CE fI) (BB : B3 mg) (B4' : B4 mg) (VV : VC K mg C) {f : Addr} (cdv : Value) (A : Around) (outer : List Env) (s : Shared) (H : Hp) (vs : List V) (Q : VK) (E : XK)
    (hr : Room 4 (A.deeper (PyProof.Rows.envOfC "Vocabulary.__init__" (defScope sIni) s.heap.objs.size f cdv))) (h : spIni0 C CE vs H Q E) :
    ∃ t, PSs (cxOf (L2N.CX P w) P w K mg base ["self", "entries", "arities", "name", "inputs", "outputs"] "Vocabulary.__init__" (defScope sIni) f cdv A outer s H E) (defBody sIni) t ∧ t { nx := fun _ H' => Q .non H', rt := Q } (start ["self", "entries", "arities", "name", "inputs", "outputs"] vs) H := by
  have GC : FnOk P w K mg base (L2N.CX P w) 4 fC dC ["entries"] (spChk CE) := ok_chk I.FC D B CW Z BB
  have GX : FnOk P w K mg base CX0 1 fX dX ["name", "arity"] spTx := ok_tx I.FX
  obtain ⟨x, dx, t, xs, os, rfl, hx, ht, he, hlen, kE, kQ⟩ := h
  have hu := hu_of hr
  refine ⟨_, pss_cons (ps_expr (pe_call GC hr rfl I.gC I.FC.kp I.bC .nil (L2N.passes_call (L2N.takes_of rfl rfl rfl rfl) (fun _ _ _ _ h => h)) (pa_cons (pv 1) pa_nil)))
    (pss_cons (ps_set (i := 2) scIni.nd rfl (.inr rfl) (pe_dc (own := [("name", 3), ("inputs", 4), ("outputs", 5)]) (g := gTup K 3 (gCons (gName 3) (gCons (gName 4) (gCons (gName 5) gNil)))) (tt := tYes) rfl scIni.nd (pi_tup (pv 1)) (blkOk_by (N := ["self", "entries", "arities", "name", "inputs", "outputs"]) (sc := defScope sIni) (by decide +kernel))
      (fun _ _ _ _ _ => pg_tup rfl (pgs_cons (pg_name (i := 3) scIni.nd rfl (.inl rfl)) (pgs_cons (pg_name (i := 4) scIni.nd rfl (.inl rfl)) (pgs_cons (pg_name (i := 5) scIni.nd rfl (.inl rfl)) pgs_nil)))) (fun _ _ _ _ _ => pts_nil) (fun _ _ _ _ _ => pv 3) (fun _ _ _ _ _ => pe_tup (pa_cons (pv 4) (pa_cons (pv 5) pa_nil)))))
    (pss_cons (ps_fld (pv 0) (pv 2) rfl)
    (pss_cons (ps_fld (pv 0) (pe_callTy call_tuple_of (by rfl) B.tuple (by decide +kernel) (pa_cons (pe_callB (call_sortedD rfl) (by rfl) B4'.sorted (by decide +kernel) (pa_cons (pv 2) pa_nil)) pa_nil)) rfl)
    (pss_one (ps_fld (pv 0) (pe_join pe_str (pe_lc (own := [("name", 3)]) (g := gName 3) (tt := tYes) rfl scIni.nd (pi_tup (pe_fld (pv 0) rfl)) (blkOk_by (N := ["self", "entries", "arities", "name", "inputs", "outputs"]) (sc := defScope sIni) (by decide +kernel))
      (fun _ _ _ _ _ => pg_name (i := 3) scIni.nd rfl (.inl rfl)) (fun _ _ _ _ _ => pts_nil) (fun _ _ _ _ _ => pe_call GX (hr.mono (by decide)) rfl I.gX I.FX.kp I.bX .nil pass0 (pa_cons (pv 3) (pa_cons (pe_dget hu (pv 2) (pv 3) (fun _ _ => rfl)) pa_nil))))) rfl))))), ?_⟩
  refine ⟨_, rfl, t, xs, os, rfl, ht, he, hlen, kE, fun hv H1 s1 => ?_⟩
  obtain ⟨gs, rfl, nd, h8⟩ := verdict_none hv
  have hl : xs.length = gs.length := by
    have := Paired.length he
    rw [List.length_map] at this
    exact this
  -- arities = {..}
  refine ⟨_, rfl, t, rfl, ⟨_, SqT.of (s1 _ _ ht)⟩, fun D hD => ?_⟩
  refine dc_tup (K := K) (a := t) (xs := xs) (fun i H2 => ∃ kvs, H2 D = some (.dK kvs) ∧ Kvs H2 kvs (gs.take i) ∧ Same H1 H2) ⟨[], upd_same, .nil, same_new (fun _ _ e => e) hD⟩ (fun i H2 _ ⟨_, _, _, s2⟩ => SqT.of (s2 _ _ (s1 _ _ ht))) ?_ ?_
  · rintro i v H2 hi ⟨kvs, hD2, hk, s2⟩
    obtain ⟨o, ho, en⟩ := Ents.get he hi
    rw [List.getElem?_map] at ho
    cases hg : gs[i]? with
    | none =>
      rw [hg] at ho
      cases ho
    | some g =>
      rw [hg] at ho
      cases ho
      obtain ⟨n, a1, a2⟩ := g
      cases en with
      | @good ea _ _ _ eE hnm hok =>
        have eE2 := s2 _ _ (s1 _ _ eE)
        refine ⟨ea, _, rfl, SqT.of eE2, rfl, _, _, rfl, _, _, rfl, _, _, rfl, rfl, rfl, keptD ?_⟩
        refine ⟨_, rfl, _, rfl, _, rfl, (by show 2 ≤ sizeLine; decide), fun T nT => ?_⟩
        have hDT : D ≠ T := ne_of_none hD2 nT
        have hno : n ∉ gnames (gs.take i) := by
          have e1 : gnames (gs.take i) = (gnames gs).take i := by
            unfold gnames
            rw [List.map_take]
          rw [e1]
          exact nodup_take nd (by unfold gnames; rw [List.getElem?_map, hg]; rfl)
        have hl2 : kvs.length = (gs.take i).length := Paired.length hk
        refine ⟨kvs, Sum.inr n, rfl, by rw [upd_ne hDT]; exact hD2, small1000 (by rw [hl2, List.length_take]; omega), ?_⟩
        refine ⟨_, upd_same, ?_, ?_⟩
        · rw [putK_new _ (hk.no hno), take_more hg]
          have s3 : Same H2 (upd H2 T (.tup [.int a1, .int a2])) := same_new (fun _ _ e => e) nT
          have kk : Kvs (upd H2 T (.tup [.int a1, .int a2])) (kvs ++ [(Sum.inr n, .ref T)]) (gs.take i ++ [(n, a1, a2)]) := (hk.same s3).snoc ⟨rfl, T, rfl, upd_same⟩
          refine Paired.mapP kk fun kv g ⟨h1, t0, h2, h3⟩ => ⟨h1, t0, h2, ?_⟩
          rw [upd_ne (ne_of h3 (show upd H2 T (.tup [.int a1, .int a2]) D = some (.dK kvs) by rw [upd_ne hDT]; exact hD2) (by intro z; cases z))]
          exact h3
        · intro b ob e
          rw [upd_ne (ne_of_none e hD), upd_ne (ne_of_none (s2 _ _ e) nT)]
          exact s2 _ _ e
  · rintro H2 ⟨kvs, hD2, hk, s2⟩
    rw [hl, List.take_length] at hk
    have hx2 : H2 x = some (.ins C dx []) := s2 _ _ (s1 _ _ hx)
    have sH2 : Same H H2 := st s1 s2
    -- self.arities = arities
    refine ⟨_, rfl, _, rfl, x, C, dx, [], rfl, hx2, VV.cl, VV.nA, (by show 0 < 1000; decide), ?_⟩
    have hxD : x ≠ D := ne_of hx2 hD2 (by intro z; cases z)
    generalize hG3 : upd H2 x (HO.ins C dx (putF "arities" (.ref D) [])) = H3
    have b3 : But x H2 H3 := by rw [← hG3]; exact But.refl.put
    have hx3 : H3 x = some (.ins C dx (putF "arities" (.ref D) [])) := by rw [← hG3]; exact upd_same
    have hD3 : H3 D = some (.dK kvs) := b3 _ _ hD2 (Ne.symm hxD)
    have hk3 : Kvs H3 kvs gs := Paired.mapP hk fun kv g ⟨h1, t0, h2, h3⟩ => ⟨h1, t0, h2, b3 _ _ h3 (ne_of h3 hx2 (by intro z; cases z))⟩
    have hln : (gnames gs).length ≤ 8 := by
      unfold gnames
      rw [List.length_map]
      exact h8
    -- self.names = tuple(sorted(arities))
    refine ⟨_, rfl, D, kvs, gnames gs, rfl, .inl hD3, hk3.names, (by omega), fun ys p hperm hsort np => ⟨p, ys.map V.str, rfl, .inl ⟨SqL.of upd_same, fun l nl => ?_⟩⟩⟩
    have s4 : Same H3 (upd (upd H3 p (.lst (ys.map V.str))) l (.tup (ys.map V.str))) := same_new (same_new (fun _ _ e => e) np) nl
    generalize hG4 : upd (upd H3 p (HO.lst (ys.map V.str))) l (HO.tup (ys.map V.str)) = H4 at s4
    have hl4 : H4 l = some (.tup (ys.map V.str)) := by rw [← hG4]; exact upd_same
    have hx4 := s4 _ _ hx3
    refine ⟨_, rfl, x, C, dx, _, rfl, hx4, VV.cl, VV.nN, (by show 1 < 1000; decide), ?_⟩
    generalize hG5 : upd H4 x (HO.ins C dx (putF "names" (.ref l) (putF "arities" (.ref D) []))) = H5
    have b5 : But x H4 H5 := by rw [← hG5]; exact But.refl.put
    have hx5 : H5 x = some (.ins C dx (putF "names" (.ref l) (putF "arities" (.ref D) []))) := by rw [← hG5]; exact upd_same
    have hl5 : H5 l = some (.tup (ys.map V.str)) := b5 _ _ hl4 (ne_of hl4 hx4 (by intro z; cases z))
    have hD5 : H5 D = some (.dK kvs) := b5 _ _ (s4 _ _ hD3) (Ne.symm hxD)
    have hk5 : Kvs H5 kvs gs := Paired.mapP (hk3.same s4) fun kv g ⟨h1, t0, h2, h3⟩ => ⟨h1, t0, h2, b5 _ _ h3 (ne_of h3 hx4 (by intro z; cases z))⟩
    have bt : But x H H5 := ((Same.but sH2).trans b3).trans ((Same.but s4).trans b5)
    have mem : ∀ n ∈ ys, n ∈ gnames gs := fun n hn => hperm.mem_iff.mp hn
    have hly : ys.length ≤ 8 := by
      rw [hperm.length_eq]
      exact hln
    -- self.text = ', '.join(..)
    refine ⟨⟨_, rfl⟩, _, rfl, x, C, dx, _, _, rfl, hx5, VV.cl, VV.nN, rfl, l, rfl, ⟨_, SqT.of hl5⟩, fun D2 hD2' => ?_⟩
    refine lc_tup (K := K) (a := l) (xs := ys.map V.str) (fun i H6 => H6 = upd H5 D2 (.lst (((ys.take i).map fun n => etext n (arOf gs n).1 (arOf gs n).2).map V.str))) rfl (fun i H6 _ e => by rw [e]; exact SqT.of (by rw [upd_ne (ne_of_none hl5 hD2')]; exact hl5)) ?_ ?_
    · rintro i v H6 hi rfl
      rw [List.getElem?_map] at hi
      cases hy : ys[i]? with
      | none =>
        rw [hy] at hi
        cases hi
      | some n =>
        rw [hy] at hi
        cases hi
        have hn := mem n (List.mem_of_getElem? hy)
        obtain ⟨g1, ⟨g2, g3⟩, g4, g5⟩ := good_at he hn
        obtain ⟨t0, v1, v2⟩ := hk5.at hn
        refine ⟨rfl, keptT ⟨_, rfl, _, rfl, _, rfl, D, .ref t0, rfl, ?_, n, t0, _, _, rfl, ?_, by omega, g2, g3, g4, g5, _, upd_same, small1000 ?_, ?_⟩⟩
        · rw [← v1]
          exact DGet.k (k := Sum.inr n) (by rw [upd_ne (ne_of_none hD5 hD2')]; exact hD5)
        · rw [upd_ne (ne_of_none v2 hD2')]
          exact v2
        · rw [List.length_map, List.length_map, List.length_take]
          omega
        · rw [upd_upd, take_more hy, List.map_append, List.map_append]
          rfl
    · rintro H6 rfl
      rw [List.length_map, List.take_length]
      refine ⟨_, D2, _, rfl, rfl, .inl (SqL.of upd_same), ?_, ?_⟩
      · rw [List.map_map, List.length_map]
        have := sum_le ((fun z : Str => z.length) ∘ fun n => etext n (arOf gs n).1 (arOf gs n).2) 12 ys (fun n hn => by
          obtain ⟨g1, ⟨g2, g3⟩, g4, g5⟩ := good_at he (mem n hn)
          exact etext_len g1 g2 g3 g4 g5)
        have l2 : (", " : Str).length = 2 := by decide +kernel
        rw [l2]
        omega
      · have hx6 : upd H5 D2 (.lst ((ys.map fun n => etext n (arOf gs n).1 (arOf gs n).2).map V.str)) x = some (.ins C dx (putF "names" (.ref l) (putF "arities" (.ref D) []))) := by
          rw [upd_ne (ne_of_none hx5 hD2')]
          exact hx5
        refine ⟨_, rfl, x, C, dx, _, rfl, hx6, VV.cl, VV.nT, (by show 2 < 1000; decide), ?_⟩
        have lx : l ≠ x := ne_of hl5 hx5 (by intro z; cases z)
        refine kQ hv gs rfl _ ys hperm hsort ((bt.new hD2').put) ⟨dx, D, l, kvs, upd_same, ?_, ?_, ?_⟩
        · rw [upd_ne lx, upd_ne (ne_of_none hl5 hD2')]
          exact hl5
        · rw [upd_ne (Ne.symm hxD), upd_ne (ne_of_none hD5 hD2')]
          exact hD5
        · refine Paired.mapP hk5 fun kv g ⟨h1, t0, h2, h3⟩ => ⟨h1, t0, h2, ?_⟩
          rw [upd_ne (ne_of h3 hx5 (by intro z; cases z)), upd_ne (ne_of_none h3 hD2')]
          exact h3
end
end SQ9
namespace SQ9
open PySem L2 SQ
def spInit (C CE : Addr) : Sp := fun vs H Q E => ∃ ws rest, vs = ws ++ rest ∧ ws.length = (["self"] : List Str).length ∧ rest.length ≤ sizeLine ∧ ∀ p, H p = Option.none → spIni0 C CE (ws ++ [V.ref p]) (upd H p (.tup rest)) Q E
section
variable {P : Program} {w : World} {K : PySem.W.Frag} {mg : Str → Option Value} {base : Heap} {fP fN fF fA fE tC CE fI C fC fX : Addr} {dP dN dF dA dE dC dX : FuncData}
theorem ok_ini (I : I2 K mg fC fX dC dX) (D : D2 K mg fP fN fF fA fE dP dN dF dA dE) (B : B2 mg) (CW : Core K mg tC) (Z : EC K mg CE fI) (BB : B3 mg) (B4' : B4 mg) (VV : VC K mg C) {f : Addr} {fd : FuncData} (F : Fun K "__init__" "Vocabulary.__init__" sIni f fd) :
    FnR P w K mg base (L2N.CX P w) 5 f (spInit C CE) := by
  obtain ⟨oc, od, kV, doc, pm, an, cdv, ct, osl, rfl, lk, hcd⟩ := F.ex
  exact StX.fn_star (ps := ["self"]) (pv := "entries") lk hcd scIni cxUpN (StX.bind_star1 (B := fun vs => bindArgs (PySem.W.fnOf "__init__" "Vocabulary.__init__" (defArgs sIni) (defBody sIni) (defScope sIni) .none kV doc pm an cdv ct) ⟨vs, []⟩) (fun a => rfl) (fun a r rs => rfl)) (fun A outer s H vs Q E hr h => body_ini I D B CW Z BB B4' VV cdv A outer s H vs Q E hr h)
end
end SQ9
namespace SQ
open PySem PySem.Spec PyProof.Rows L2
section
variable {X : Cx} {k : Nat} {f C : Addr} {fd : FuncData} {ps : List Str} {sp : Sp}
end
end SQ
/-! The law's end for promises as in SqG where code objects are made: their tables are tracked. -/
namespace SQ
open PySem PySem.Spec PyProof.Rows L2
abbrev tab0 : Obj := { cls := .none, data := .fields #[] }
abbrev lst0 (vs : List Value) : Obj := { cls := .type "list", data := .seq vs.toArray }
/-- what may be tracked at the law's call: the script, the tables -/
def Trk (a : Addr) (ts : List Addr) (H : Hp) : Prop := ∀ b u, H b = some u → (b = a ∧ ∃ o xs, u = .frz o (.lst xs)) ∨ (b ∈ ts ∧ u = .tbl #[])
section
variable {P : Program} {w : World} {K : PySem.W.Frag} {mg mb : Str → Option Value} {s : Shared} {a : Addr} {cs : List (Addr × Addr)} {vs : List Value} {H : Hp}
theorem trk_data (ha : s.heap.get? a = some (lst0 vs)) (hT : ∀ p ∈ cs, s.heap.get? p.2 = some tab0) (tr : Trk a (cs.map (·.2)) H) {b : Addr} {o : Obj} (q : s.heap.get? b = some o)
    (n1 : ∀ l n, o.data ≠ .seq l n) (n2 : o.data ≠ .fields #[]) : H b = none := by
  cases z : H b with
  | none => rfl
  | some u =>
    rcases tr b u z with ⟨rfl, _⟩ | ⟨hm, _⟩
    · rw [ha] at q
      cases q
      exact absurd rfl (n1 _ _)
    · obtain ⟨p, hp, rfl⟩ := List.mem_map.mp hm
      rw [hT p hp] at q
      cases q
      exact absurd rfl n2
theorem trk_ns (ha : s.heap.get? a = some (lst0 vs)) (hT : ∀ p ∈ cs, s.heap.get? p.2 = some tab0) (tr : Trk a (cs.map (·.2)) H) {b : Addr} {m : Str → Option Value} : s.heap.Ns b m → (hidT s.heap H).Ns b m := by
  rintro ⟨o, es, ep, q, d, r⟩
  refine ⟨o, es, ep, hidT_get q (trk_data ha hT tr q (fun l n z => ?_) fun z => ?_), d, r⟩ <;> (rw [d] at z; cases z)
theorem trk_in (KX : K.In s.heap) (nT : ∀ p ∈ cs, K.lookup p.2 = none) (nA : H a ≠ none → K.lookup a = none) (tr : Trk a (cs.map (·.2)) H) : K.In (hidT s.heap H) := by
  intro b o q
  refine hidT_get (KX b o q) ?_
  cases z : H b with
  | none => rfl
  | some u =>
    rcases tr b u z with ⟨rfl, _⟩ | ⟨hm, _⟩
    · rw [nA (by rw [z]; simp)] at q
      cases q
    · obtain ⟨p, hp, rfl⟩ := List.mem_map.mp hm
      rw [nT p hp] at q
      cases q
theorem trk_tab (hns : s.heap.Ns mainGlobals mg) (ha : s.heap.get? a = some (lst0 vs)) (hT : ∀ p ∈ cs, s.heap.get? p.2 = some tab0) (C : ∀ p ∈ cs, PySem.W.CodeHd s.heap p.1 p.2)
    (hbm : ∃ (bm : Addr) (ob : Obj), mg "__builtins__" = some (.ref bm) ∧ bm ≠ builtinsNs ∧ s.heap.get? bm = some ob ∧ ob.cls = .type "module" ∧ ob.dict = some builtinsNs ∧ ob.data = .plain)
    (tr : Trk a (cs.map (·.2)) H) : ∀ p ∈ cs, LamX.TabB (hidT s.heap H) mg p.1 p.2 := by
  intro p hp
  have tp := hT p hp
  have nm : mainGlobals ≠ p.2 := by
    intro z
    obtain ⟨o, es, ep, q, d, _⟩ := hns
    rw [z, tp] at q
    cases q
    cases d
  refine ⟨?_, ?_, nm⟩
  · obtain ⟨o, us, fi, t1, fl, t2, b, tx, t3, q, r1, r2, r3, rest⟩ := C p hp
    refine ⟨o, us, fi, t1, fl, t2, b, tx, t3, hidT_get q (trk_data ha hT tr q (fun l n z => ?_) fun z => ?_), r1, r2, r3, rest⟩
    · rw [r2] at z
      cases z
    · rw [r2] at z
      cases z
      simp at r3
  · obtain ⟨bm, ob, b1, b2, b3, b4, b5, b6⟩ := hbm
    refine ⟨bm, ob, b1, b2, ?_, ?_, hidT_get b3 (trk_data ha hT tr b3 (fun l n z => ?_) fun z => ?_), b4, b5, b6⟩
    · rintro rfl
      obtain ⟨o, es, ep, q, d, _⟩ := hns
      rw [q] at b3
      cases b3
      rw [d] at b6
      cases b6
    · rintro rfl
      rw [tp] at b3
      cases b3
      cases b6
    · rw [b6] at z
      cases z
    · rw [b6] at z
      cases z
end
/-- the law's call: such a promise, tables tracked -/
theorem lawGT {P : Program} {w : World} {K : PySem.W.Frag} {mg mb : Str → Option Value} {k : Nat} {fa a : Addr} {cs : List (Addr × Addr)}
    {fd : FuncData} {x : Str} {sp : Sp} {s : Shared} {vs : List Value} {ns : List Int}
    (KX : K.In s.heap) (hns : s.heap.Ns mainGlobals mg) (hb : s.heap.Ns builtinsNs mb) (hbb : ∀ y : Str, y ≠ "__name__" → mb y = bootBuiltins y) (hlim : s.heap.NoLimit) (hg : s.gens = #[])
    (hT : ∀ p ∈ cs, s.heap.get? p.2 = some tab0) (nT : ∀ p ∈ cs, K.lookup p.2 = none) (C : ∀ p ∈ cs, PySem.W.CodeHd s.heap p.1 p.2)
    (hbm : ∃ (bm : Addr) (ob : Obj), mg "__builtins__" = some (.ref bm) ∧ bm ≠ builtinsNs ∧ s.heap.get? bm = some ob ∧ ob.cls = .type "module" ∧ ob.dict = some builtinsNs ∧ ob.data = .plain)
    (ha : s.heap.get? a = some (lst0 vs)) (hi : IntsAre vs ns) (hl : ns.length ≤ sizeLine) (hr : Room k callerA)
    (F : ∀ base : Heap, K.In base → base.Ns mainGlobals mg → (∀ p ∈ cs, LamX.TabB base mg p.1 p.2) → FnG P w K mg base CX0 k fa fd [x] sp)
    (hbind : ∀ (t : Shared) (u : Value), BindsTo t fd ⟨[u], []⟩ [(x, u)])
    (hsp : ∀ G : Hp, (∀ p ∈ cs, G p.2 = some (.tbl #[])) → SqL K G a (ns.map V.int) → sp [.ref a] G (fun v _ => v = .bl true) E0) :
    codeAny (model P w) callerA (.call (.ref fa) ⟨[.ref a], []⟩) (fun r t => r = .ok (.ret (.bool true)) ∧ OldK s.heap t.heap ∧ t.os = s.os ∧ AllBare t.gens) s := by
  have rv := vals_ints hi
  have inT : ∀ p ∈ cs, p.2 ∈ cs.map (·.2) := fun p hp => List.mem_map.mpr ⟨p, hp, rfl⟩
  have aT : a ∉ cs.map (·.2) := by
    intro z
    obtain ⟨p, hp, e⟩ := List.mem_map.mp z
    have e' : p.2 = a := e
    have t := hT p hp
    rw [e', ha] at t
    have t' : (lst0 vs).data = tab0.data := congrArg Obj.data (Option.some.inj t)
    cases t'
  have go : ∀ H : Hp, (∀ p ∈ cs, H p.2 = some (.tbl #[])) → Trk a (cs.map (·.2)) H → SqL K H a (ns.map V.int) → HOk P w H s.heap → (H a ≠ none → K.lookup a = none) →
      codeAny (model P w) callerA (.call (.ref fa) ⟨[.ref a], []⟩) (fun r t => r = .ok (.ret (.bool true)) ∧ OldK s.heap t.heap ∧ t.os = s.os ∧ AllBare t.gens) s := by
    intro H hH tr hS hok nA
    have kB := trk_in KX nT nA tr
    have gB := trk_ns ha hT tr hns
    have md : Mod K mg (hidT s.heap H) := ⟨kB, gB, ⟨mb, trk_ns ha hT tr hb, hbb⟩, by
      obtain ⟨mc, h1, h2⟩ := hlim
      exact ⟨mc, trk_ns ha hT tr h1, h2⟩⟩
    have en : Env0 P w K mg (hidT s.heap H) callerA [] s H := {
      frames := rfl
      mod := md
      bs := fun b o q => of_hidT q
      bsz := Nat.le_of_eq (hidT_size _ _)
      funs := trivial
      frf := fun b z => nomatch (show b ∈ ([] : List Addr) from z)
      hok := hok
      bare := .of_eq hg }
    refine codeAny_mono ((F _ kB gB (trk_tab hns ha hT C hbm tr)).go callerA rfl [] s H ⟨[.ref a], []⟩ [.ref a] [.ref a] _ _ hr en (hbind s (.ref a)) (.cons rfl .nil) (hsp H hH hS)) ?_
    intro r t h
    rcases r with er | (_ | _ | _ | u)
    · exact (show False from h).elim
    · exact h.elim
    · exact h.elim
    · exact h.elim
    · obtain ⟨v, H', os, bare, un, hok', r', q⟩ := h
      have q' : v = .bl true := q
      subst q'
      obtain rfl : u = Value.bool true := r'
      have kept : ∀ b o, b ∉ cs.map (·.2) → s.heap.get? b = some o → t.heap.get? b = some o := by
        intro b o nb e
        cases z : H b with
        | none => exact un.keep b o e z (fun y => nomatch (show b ∈ ([] : List Addr) from y)) (fun y => nomatch y)
        | some u =>
          rcases tr b u z with ⟨_, ob, xs, rfl⟩ | ⟨hm, _⟩
          · obtain ⟨e1, _⟩ := hok b _ z
            obtain ⟨e2, _⟩ := hok' b _ (un.frzs b ob _ z)
            rw [e] at e1
            cases e1
            exact e2
          · exact absurd hm nb
      have grew : ∀ p ∈ cs, ∃ more : Array Value, t.heap.get? p.2 = some { cls := .none, data := .fields more } := by
        intro p hp
        obtain ⟨m, z⟩ := un.tbls p.2 #[] (hH p hp)
        exact ⟨_, hok' p.2 _ z⟩
      refine ⟨rfl, ⟨fun b o e => ?_, fun b o e => ?_⟩, os, bare⟩
      all_goals
        by_cases hm : b ∈ cs.map (·.2)
      · obtain ⟨p, hp, rfl⟩ := List.mem_map.mp hm
        obtain ⟨m, hm2⟩ := grew p hp
        rw [hT p hp] at e
        cases e
        refine .inr (.inl ⟨((C p hp).tab (hT p hp)).isCodeTable, rfl, #[], m, rfl, ?_⟩)
        rw [Array.empty_append]
        exact hm2
      · exact .inl (kept b o hm e)
      · obtain ⟨p, hp, rfl⟩ := List.mem_map.mp hm
        obtain ⟨m, hm2⟩ := grew p hp
        exact ⟨_, hm2⟩
      · exact ⟨o, kept b o hm e⟩
  let G0 : Hp := fun b => if b ∈ cs.map (·.2) then some (.tbl #[]) else none
  have gT : ∀ b, b ∈ cs.map (·.2) → G0 b = some (.tbl #[]) := fun b hm => if_pos hm
  have gN : ∀ b, b ∉ cs.map (·.2) → G0 b = none := fun b hm => if_neg hm
  have okT : ∀ (X : Hp) b, b ∈ cs.map (·.2) → ObjOk P w X s.heap b (.tbl #[]) := by
    intro X b hm
    obtain ⟨p, hp, rfl⟩ := List.mem_map.mp hm
    exact hT p hp
  cases hk : K.lookup a with
  | some o =>
    have q := KX a o hk
    rw [ha] at q
    cases q
    refine go G0 (fun p hp => gT _ (inT p hp)) (fun b u z => ?_) (.inr ⟨_, vs.toArray, _, hk, rfl, rfl, rfl, ?_, by simpa using rv⟩) (fun b u z => ?_) (fun z => absurd (gN a aT) z)
    · by_cases hm : b ∈ cs.map (·.2)
      · rw [gT b hm] at z
        exact .inr ⟨hm, (Option.some.inj z).symm⟩
      · rw [gN b hm] at z
        cases z
    · rw [List.size_toArray, hi.length]
      exact hl
    · by_cases hm : b ∈ cs.map (·.2)
      · rw [gT b hm] at z
        cases z
        exact okT _ b hm
      · rw [gN b hm] at z
        cases z
  | none =>
    have hu : ∀ b u, upd G0 a (.frz (lst0 vs) (.lst (ns.map V.int))) b = some u → (b = a ∧ u = .frz (lst0 vs) (.lst (ns.map V.int))) ∨ (b ∈ cs.map (·.2) ∧ u = .tbl #[]) := by
      intro b u z
      by_cases hb : b = a
      · subst hb
        rw [upd_same] at z
        exact .inl ⟨rfl, (Option.some.inj z).symm⟩
      · rw [upd_ne hb] at z
        by_cases hm : b ∈ cs.map (·.2)
        · rw [gT b hm] at z
          exact .inr ⟨hm, (Option.some.inj z).symm⟩
        · rw [gN b hm] at z
          cases z
    refine go (upd G0 a (.frz (lst0 vs) (.lst (ns.map V.int)))) (fun p hp => ?_) (fun b u z => ?_) (.inl (.inr ⟨lst0 vs, upd_same⟩)) (fun b u z => ?_) (fun _ => hk)
    · have ne : p.2 ≠ a := fun e => aT (by rw [← e]; exact inT p hp)
      rw [upd_ne ne]
      exact gT _ (inT p hp)
    · rcases hu b u z with ⟨e1, e2⟩ | e
      · exact .inl ⟨e1, _, _, e2⟩
      · exact .inr e
    · rcases hu b u z with ⟨rfl, rfl⟩ | ⟨hm, rfl⟩
      · exact ⟨ha, by rw [List.length_map]; exact hl, vs, _, rv, ha⟩
      · exact okT _ b hm
/-- what is to be known of the law at the head's heap -/
def AtG (l : PySem.W.OpenLaw) (w : World) (K : PySem.W.Frag) (k n : Nat) (x : Str) (mg : Str → Option Value) (fa : Addr) (h : Heap) : Prop :=
  ∃ (fd : FuncData) (cs : List (Addr × Addr)) (sp : Sp), (∀ p ∈ cs, h.get? p.2 = some tab0 ∧ K.lookup p.2 = none ∧ PySem.W.CodeHd h p.1 p.2) ∧ (∀ (s : Shared) (u : Value), BindsTo s fd ⟨[u], []⟩ [(x, u)]) ∧
    (∀ (H : Hp) (a : Addr) (ns : List Int), ns.length ≤ n → (∀ z ∈ ns, Builtin.Int.intBits z ≤ 1048576) → (∀ p ∈ cs, H p.2 = some (.tbl #[])) → SqL K H a (ns.map V.int) → sp [.ref a] H (fun v _ => v = .bl true) E0) ∧
    ∀ base : Heap, K.In base → base.Ns mainGlobals mg → (∀ p ∈ cs, LamX.TabB base mg p.1 p.2) → FnG l.prog w K mg base CX0 k fa fd [x] sp
theorem walkGT {l : PySem.W.OpenLaw} {n k : Nat} {q : Program} {loose : List Str} {XP : (Str → Option Value) → Heap → Prop} {YP : World → Heap → Prop} {d : DefRec} {K : Params → PySem.W.Frag} {x : Str}
    (hn : l.most = some n) (hn2 : n ≤ sizeLine) (hdf : d.params.defaults = []) (hr : Room k callerA) (hY : ∀ (w : World) (h : Heap), YP w h → (K w.params).In h)
    (F : ∀ (w : World) (mg : Str → Option Value) (fa : Addr) (h : Heap), YP w h → (K w.params).In h → h.Ns mainGlobals mg → mg d.name = some (.ref fa) → AtG l w (K w.params) k n x mg fa h) :
    PySem.W.WalkO q loose XP YP l.row.toRowW d [] (fun f vs => PySem.call f vs) := by
  refine Att.attach_callB hn hdf ?_
  intro w s0 s1 mg mb fa o pm cd doc a vs ns G Y ho hd hcd hmg hobj hints hlen hbits hg
  have KX := hY w _ Y
  obtain ⟨fd, cs, sp, hc, hb, hsp, hF⟩ := F w mg fa _ Y KX G.T.g hmg
  exact lawGT KX G.T.g G.T.b G.T.builtins G.T.nolimit hg (fun p hp => (hc p hp).1) (fun p hp => (hc p hp).2.1) (fun p hp => (hc p hp).2.2) G.T.bmain hobj hints (Nat.le_trans hlen hn2) hr hF hb
    (fun H hH hS => hsp H a ns hlen hbits hH hS)
end SQ
/-! Texts cut at a separator and put together again. -/
namespace SQ
open PySem L2
theorem str_ext {a b : Str} (h : a.cps.toList = b.cps.toList) : a = b := by
  obtain ⟨ca⟩ := a
  obtain ⟨cb⟩ := b
  have e : ca = cb := Array.toList_inj.mp h
  rw [e]
theorem str_app (a b : Str) : (a ++ b).cps.toList = a.cps.toList ++ b.cps.toList := by
  show (a.cps ++ b.cps).toList = _
  exact Array.toList_append
/-- signs put together -/
def jn (S : List Nat) : List (List Nat) → List Nat
  | [] => []
  | [x] => x
  | x :: y :: r => x ++ (S ++ jn S (y :: r))
theorem tl_join (sep : Str) : ∀ l : List Str, (Str.join sep l).cps.toList = jn sep.cps.toList (l.map fun x => x.cps.toList)
  | [] => rfl
  | [x] => rfl
  | x :: y :: r => by
    have h := tl_join sep (y :: r)
    show (x ++ sep ++ Str.join sep (y :: r)).cps.toList = _
    rw [str_app, str_app, h, List.append_assoc]
    rfl
theorem spl_free {c : Nat} {S : List Nat} : ∀ (p acc r : List Nat), c ∉ p → TL.spl (c :: S) 0 acc (p ++ r) = TL.spl (c :: S) 0 (acc ++ p) r
  | [], acc, r, _ => by rw [List.append_nil]; rfl
  | x :: p, acc, r, h => by
    have hx : x ≠ c := fun e => h (e ▸ List.mem_cons_self)
    have hp : c ∉ p := fun e => h (List.mem_cons_of_mem _ e)
    rw [List.cons_append, TL.spl_miss (TL.pre_of_head S (p ++ r) hx), spl_free p _ r hp, List.append_assoc]
    rfl
theorem spl_jn {c : Nat} {S : List Nat} : ∀ (ps : List (List Nat)) (p acc : List Nat), c ∉ p → (∀ x ∈ ps, c ∉ x) → TL.spl (c :: S) 0 acc (jn (c :: S) (p :: ps)) = (acc ++ p) :: ps
  | [], p, acc, h, _ => by
    have e := spl_free (S := S) p acc [] h
    rw [List.append_nil, TL.spl_nil] at e
    exact e
  | q :: ps, p, acc, h, hs => by
    have e := spl_free (S := S) p acc ((c :: S) ++ jn (c :: S) (q :: ps)) h
    show TL.spl (c :: S) 0 acc (p ++ ((c :: S) ++ jn (c :: S) (q :: ps))) = _
    have hp : TL.pre (c :: S) (c :: (S ++ jn (c :: S) (q :: ps))) = true := TL.pre_self (c :: S) _
    rw [e, List.cons_append, TL.spl_hit hp, TL.spl_pass]
    have e2 : (S ++ jn (c :: S) (q :: ps)).drop ((c :: S).length - 1) = jn (c :: S) (q :: ps) := by
      show (S ++ jn (c :: S) (q :: ps)).drop S.length = _
      exact List.drop_left
    rw [e2, spl_jn ps q [] (hs q List.mem_cons_self) fun x hx => hs x (List.mem_cons_of_mem _ hx)]
    rfl
theorem map_tl_inj : ∀ {a b : List Str}, a.map (fun x => x.cps.toList) = b.map (fun x => x.cps.toList) → a = b
  | [], [], _ => rfl
  | [], _ :: _, h => nomatch h
  | _ :: _, [], h => nomatch h
  | x :: a, y :: b, h => by
    rw [List.map_cons, List.map_cons, List.cons.injEq] at h
    rw [str_ext h.1, map_tl_inj h.2]
/-- cut where it was put together -/
theorem split_join {sep : Str} {c : Nat} {S : List Nat} (hs : sep.cps.toList = c :: S) (hk : sep.cps.all (· < 256) = true) {ps : List Str} (hn : ps ≠ []) (hf : ∀ p ∈ ps, c ∉ p.cps.toList) : Txt.split (Str.join sep ps) sep = ps := by
  refine map_tl_inj ?_
  have hy : TL.tl sep ≠ [] := by
    show sep.cps.toList ≠ []
    rw [hs]
    exact fun z => nomatch z
  have e := TL.split_spl (Str.join sep ps) sep hy (TL.kind_ok hk)
  refine e.trans ?_
  show TL.spl sep.cps.toList 0 [] (Str.join sep ps).cps.toList = _
  rw [tl_join, hs]
  cases ps with
  | nil => exact absurd rfl hn
  | cons p ps =>
    rw [List.map_cons, spl_jn _ _ _ (hf p List.mem_cons_self) (fun x hx => by
      obtain ⟨y, hy, rfl⟩ := List.mem_map.mp hx
      exact hf y (List.mem_cons_of_mem _ hy))]
    rfl
theorem join_split (x y : Str) : Str.join y (Txt.split x y) = x := StrLaws.join_split x y
theorem split_ne (x y : Str) : Txt.split x y ≠ [] := by
  have h := PyProof.Rows.split_pos x y
  intro e
  rw [e] at h
  exact absurd h (by decide)
end SQ
/-! Static methods, called by position and by keyword; instances made with a starred list or nothing. -/
namespace SQ
open PySem PySem.Spec PyProof.Rows L2
structure SMet (K : PySem.W.Frag) (C : Addr) (mc : Value) (m : Str) (p g : Addr) : Prop where
  rd : PySem.W.readsIn K C mc = true
  ga : PySem.W.specialIn K (.ref C) "__getattribute__" = some (some (.builtin "type.__getattribute__"))
  at_ : PySem.W.findCls K (.ref C) mc m = some (.get (.builtin "staticmethod.__get__") (.ref p) .none (.ref C))
  rc : ∃ rest, PySem.W.recIn K p "staticmethod" = some (.ref g :: rest)
  kp : PySem.W.keepIn K (.ref g) = true
section
variable {X : Cx} {CX : CXT} {k : Nat} {C p g : Addr} {mc : Value} {sp : Sp} {E : XK} {o e : Expr} {es : List Expr} {x m : Str} {pos apos kpos sp_ : Pos} {ta te : TE} {t : TA} {pl : Sem Bool}
theorem getsm_ok {pins : List (Addr × Obj)} {σ : L2.St} {H : Hp} {s : Shared} {A : Around} {E : Value → Shared → Prop} {Q : Value × List Value → Shared → Prop} (I : Inv X pins σ H s) (c : SMet X.K C mc m p g)
    (h : ∀ t, Inv X pins σ H t → Q (.ref g, []) t) : wpAny (model X.prog X.w) A (getMethod (.ref C) m pl) Q E s := by
  obtain ⟨rest, hp⟩ := c.rc
  refine PySem.W.method_cls I.kIn c.ga (PySem.W.cls_bind I.kIn c.rd c.at_ ?_)
  exact wpAny_call (PySem.W.sm_get (s := { s with toks := s.toks + 1 }) I.kIn hp (PySem.W.handed_on rfl (h _ (I.tok _))))
/-- C.m(e, ..) -/
theorem pe_smeth (he : PE X o ta) (c : SMet X.K C mc m p g) (F : FnR X.prog X.w X.K X.mg X.base CX k g sp) (hr : Room k X.A) (hx : Passes CX X E) (ha : PA X (e :: es) t)
    (hst : starEach (e :: es) X.env = (false, eval e X.env) :: starEach es X.env := by rfl) (hpl : (backTo pos (starEach es X.env)).any (·.1) = false := by rfl)
    (ht : eval (.Call (.Attribute o m apos) (e :: es) [] pos) X.env = (do
      let v ← eval o X.env
      standAt apos.atName
      let (fn, pre) ← holding [v] (getMethod v m pl)
      callWith pos fn pre (backTo pos (starEach (e :: es) X.env)) (backToKw pos (keywordEach [] X.env))) := by rfl) :
    PE X (.Call (.Attribute o m apos) (e :: es) [] pos) (fun σ H Q => ta σ H fun y H1 => y = .ref C ∧ t σ H1 fun vs H2 => sp vs H2 Q E) := by
  constructor
  intro pins s σ H Q I h
  refine PySem.W.methodCall_KW (pl := pl) (thn (he.run pins s σ H _ I h) fun u s1 ⟨y, H1, I1, ry, ey, q⟩ => ?_) ht
  subst ey
  obtain rfl : u = Value.ref C := ry
  refine getsm_ok I1 c fun s2 I2 => ?_
  refine PySem.W.callWith_K (h₀ := X.base) I2.ok.mod.kin c.kp (thn (ha.run pos pins s2 σ H1 _ I2 q) fun us s3 ⟨vs, H2, I3, rv, q2⟩ => ⟨I3.kIn, ?_⟩) hst hpl
  exact wpAny_call (run_fnR F hr hx I3 rv q2)
/-- the instance is made, what __init__ lets out being taken at these slots -/
theorem make_at {f : Addr} {pins : List (Addr × Obj)} {σ : L2.St} {H : Hp} {s : Shared} {Q : VK} {us : List Value} {vs : List V} (M : Mk X.K C f) (F : FnR X.prog X.w X.K X.mg X.base CX k f sp) (hr : Room (k + 1) X.A) (hx : PassesAt CX X σ E) (I : Inv X pins σ H s) (r : Vals vs us)
    (h : ∀ q dx, H q = none → H dx = none → dx ≠ q → sp (V.ref q :: vs) (upd (upd H dx (.own q)) q (.ins C dx [])) (fun v H2 => v = .non ∧ Q (.ref q) H2) E) :
    wpAny (model X.prog X.w) X.A (call (.ref C) us) (EP X pins σ Q) X.xe s := by
  have J := Inv.made (C := C) I
  have hsp := h (s.heap.objs.size + 1) s.heap.objs.size (I.hok.fresh (Nat.le_succ _)) (I.hok.fresh (Nat.le_refl _)) (fun z => Nat.succ_ne_self _ z.symm)
  have rs : Vals (V.ref (s.heap.objs.size + 1) :: vs) (Value.ref (s.heap.objs.size + 1) :: us) := .cons rfl r
  refine wpAny_call (make_map (f := f) I.kIn M.makes M.init (beq_iff_eq.mp M.fn) ?_)
  refine codeAny_mono (F _ X.stack _ _ _ _ _ E (hr.make C us []) (J.env0.make C us []) rs hsp) ?_
  intro r t ht
  rcases r with er | (_ | _ | _ | u)
  · exact hx pins _ _ er t J ht
  · exact ht.elim
  · exact ht.elim
  · exact ht.elim
  · obtain ⟨v, G, J2, rv, rfl, q2⟩ := J.after ht
    exact ⟨rv, V.ref (s.heap.objs.size + 1), G, J2, rfl, q2⟩
/-- C(*e) in a try -/
theorem pe_makeST {f : Addr} {E : L2.St → XK} (Kx : PySem.W.Frag) (hK : X.K = Kx) (M : Mk X.K C f) (F : FnR X.prog X.w X.K X.mg X.base CX k f sp) (hr : Room (k + 1) X.A) (hg : Gl X x) (hm : X.mg x = some (.ref C)) (hx : ∀ σ, PassesAt CX X σ (E σ)) (he : PE X e te) (hdb : (x == ("__debug__" : Str)) = false := by decide)
    (hst : starEach [.Starred e sp_] X.env = [(true, eval e X.env)] := by rfl) :
    PE X (.Call (.Name x apos) [.Starred e sp_] [] pos) (fun σ H Q => te σ H fun y H1 => ∃ a xs, y = V.ref a ∧ (SqT Kx H1 a xs ∨ SqL Kx H1 a xs) ∧ ∀ q dx, H1 q = none → H1 dx = none → dx ≠ q → sp (V.ref q :: xs) (upd (upd H1 dx (.own q)) q (.ins C dx [])) (fun v H2 => v = .non ∧ Q (.ref q) H2) (E σ)) := by
  subst hK
  constructor
  intro pins s σ H Q I h
  refine wpAny_Call_Name_kw (ld_glob I hg hm ?_ hdb)
  refine PySem.W.callWith_S (h₀ := X.base) I.ok.mod.kin M.kp (thn (he.run pins s σ H _ I h) fun v s1 ⟨y, H1, I1, ry, a, xs, ey, hxs, q⟩ => ?_) hst
  subst ey
  obtain rfl : v = Value.ref a := ry
  exact StX.star_any I1 hxs fun us s2 I2 rv => ⟨I2.kIn, make_at M F hr (hx σ) I2 rv q⟩
/-- C(*e), C() by a positional promise of __init__ -/
theorem pe_makeS {f : Addr} (M : Mk X.K C f) (F : FnR X.prog X.w X.K X.mg X.base CX k f sp) (hr : Room (k + 1) X.A) (hg : Gl X x) (hm : X.mg x = some (.ref C)) (hx : Passes CX X E) (he : PE X e te) (hdb : (x == ("__debug__" : Str)) = false := by decide)
    (hst : starEach [.Starred e sp_] X.env = [(true, eval e X.env)] := by rfl) :
    PE X (.Call (.Name x apos) [.Starred e sp_] [] pos) (fun σ H Q => te σ H fun y H1 => ∃ a xs, y = V.ref a ∧ (SqT X.K H1 a xs ∨ SqL X.K H1 a xs) ∧ ∀ q dx, H1 q = none → H1 dx = none → dx ≠ q → sp (V.ref q :: xs) (upd (upd H1 dx (.own q)) q (.ins C dx [])) (fun v H2 => v = .non ∧ Q (.ref q) H2) E) := by
  constructor
  intro pins s σ H Q I h
  refine wpAny_Call_Name_kw (ld_glob I hg hm ?_ hdb)
  refine PySem.W.callWith_S (h₀ := X.base) I.ok.mod.kin M.kp (thn (he.run pins s σ H _ I h) fun v s1 ⟨y, H1, I1, ry, a, xs, ey, hxs, q⟩ => ?_) hst
  subst ey
  obtain rfl : v = Value.ref a := ry
  exact StX.star_any I1 hxs fun us s2 I2 rv => ⟨I2.kIn, StX.run_makeR M F hr hx I2 rv q⟩
theorem pe_make0R {f : Addr} (M : Mk X.K C f) (F : FnR X.prog X.w X.K X.mg X.base CX k f sp) (hr : Room (k + 1) X.A) (hg : Gl X x) (hm : X.mg x = some (.ref C)) (hx : Passes CX X E) (hdb : (x == ("__debug__" : Str)) = false := by decide) :
    PE X (.Call (.Name x apos) [] [] pos) (fun σ H Q => ∀ q dx, H q = none → H dx = none → dx ≠ q → sp [V.ref q] (upd (upd H dx (.own q)) q (.ins C dx [])) (fun v H2 => v = .non ∧ Q (.ref q) H2) E) := by
  constructor
  intro pins s σ H Q I h
  refine wpAny_Call_Name_kw (ld_glob I hg hm ?_ hdb)
  refine PySem.W.callWith_K0 I.kIn M.kp ?_
  show wpAny _ _ (call (.ref C) []) _ _ _
  exact StX.run_makeR M F hr hx I .nil h
end
end SQ
namespace SQ
open PySem PySem.Spec PyProof.Rows L2
abbrev Suite := Addr → Value → Option Addr → TS
section
variable {X : Cx} {n : Str} {i : Nat} {body : List Stmt} {hd0 : ExceptHandler} {hds : List ExceptHandler} {l : List (Value × Suite)} {pos : Pos} {tb : WX → TS}
/-- an error that the clauses look at; sI: the state without it -/
structure Aloft (X : Cx) (pins : List (Addr × Obj)) (B : Heap) (a : Addr) (cls : Value) (d : Option Addr) (σ : L2.St) (H : Hp) (sI s : Shared) : Prop where
  inv : Inv X pins σ H sI
  nb : ∀ b o, sI.heap.get? b = some o → b ∉ frs X.stack → B.get? b = some o
  up : sI.heap.UpToSlots s.heap
  fly : HandSPX.FlyingZ B X.stack a (Zc cls d) s.heap
  na : H a = none
  os : s.os = sI.os
  ag : AllBare s.gens
section
variable {pins : List (Addr × Obj)} {B : Heap} {a : Addr} {cls : Value} {d : Option Addr} {σ : L2.St} {H : Hp} {sI s : Shared} {D : Ends}
theorem Aloft.here (L : Aloft X pins B a cls d σ H sI s) : Inv X pins σ H s := L.inv.landed L.nb L.fly.1 L.up L.os L.ag
end
end
end SQ
/-! != of instances whose class has its own == and no !=. -/
namespace SQ
open PySem PySem.Spec PyProof.Rows L2
open PySem.W (InstAt findIn isFn subIn)
section
variable {prog : Program} {w : World} {A : Around} {E : Value → Shared → Prop} {s : Shared} {K : PySem.W.Frag} {x y C f : Addr} {ox oy : Obj} {od oe : Option Obj}
end
end SQ
/-! repr of an instance with its own __repr__, and of a list that holds one. -/
namespace SQ
open PySem PySem.Spec PyProof.Rows L2
open PySem.W (InstAt findIn isFn subIn)
open Builtin Builtin.List
section
variable {prog : Program} {w : World} {A : Around} {E : Value → Shared → Prop} {R : Result → Shared → Prop} {s : Shared} {K : PySem.W.Frag} {x C f : Addr} {ox : Obj} {od : Option Obj}
def SBack (Q : Str → Shared → Prop) (v : Value) (s' : Shared) : Prop := ∃ z t, v = .str z t ∧ Q z s'
theorem repr_own {Q : Str → Shared → Prop} {b : Nat} (hb : b ≤ sizeLine) (hu : A.units < cLine) (X : K.In s.heap) (I : InstAt s.heap x ox C od) (hs : findIn K (.ref C) "__repr__" = some (some (.ref f))) (hf : isFn K (.ref f) = true)
    (h : wpAny (model prog w) A (call (.ref f) [.ref x]) (SBack Q) E s) : wpAny (model prog w) A (pyReprUnder b (.ref x)) Q E s := by
  unfold pyReprUnder
  rw [if_neg (by omega)]
  refine wpAny_bind (m := pyReprObjUnder b (.ref x)) ?_
  unfold pyReprObjUnder pyReprObjBy
  refine wpAny_bind (wpAny_cRoomFor hu ?_)
  refine wpAny_bind (m := specialOf (.ref x) "__repr__") (wpAny_bind (I.type.here ((PySem.W.looks_findIn X hs).here ?_)))
  simp only [Option.isNone_some, Bool.false_eq_true, if_false]
  refine wpAny_bind (m := callSpecialIfBoundBy? _ (.ref x) "__repr__") ?_
  simp only [callSpecialIfBoundBy?, bindSpecialIfBound?]
  refine wpAny_holding (wpAny_bind (wpAny_bind (wpAny_bind (I.type.here ((PySem.W.looks_findIn X hs).here ?_)))))
  refine wpAny_bind (wpAny_askSetting (wpAny_ite ?_))
  have fin : wpAny (model prog w) A (call (.ref f) [.ref x] >>= fun v => pure (some v)) (fun a s' => wpAny (model prog w) A (match a with
        | some r => do
          let __do_lift ← isInstance r (Value.type "str")
          if __do_lift = true then pure r
            else do
              let __do_lift ← typeNameOf r
              raiseErrorMade "TypeError" (toString "__repr__ returned non-string (type " ++ toString __do_lift ++ toString ")")
        | none => unsupported "repr:special-get-raises") (fun r s2 => ∃ z t, r = .str z t ∧ Q z s2) E s') E s := by
    refine wpAny_bind (wpAny_mono h (fun v s' z => wpAny_pure ?_) fun _ _ z => z)
    obtain ⟨y, t, rfl, q⟩ := z
    refine wpAny_bind (wpAny_isInstance (T := "str") (b := true) (typeIs_str _ _ _) isSubtype_str_str ?_)
    exact wpAny_pure ⟨y, t, rfl, q⟩
  split
  · refine wpAny_bind ((PySem.W.bind_fn X _ (beq_iff_eq.mp hf)).here (wpAny_pure ?_))
    refine wpAny_mono fin (fun a s' z => wpAny_mono z (fun r s2 y => ?_) fun _ _ y => y) fun _ _ y => y
    obtain ⟨y, t, rfl, q⟩ := y
    exact wpAny_pure q
  · refine wpAny_tryCatch (wpAny_bind ((PySem.W.bind_fn X _ (beq_iff_eq.mp hf)).here (wpAny_pure ?_)))
    refine wpAny_mono fin (fun a s' z => wpAny_mono z (fun r s2 y => ?_) fun _ _ y => y) fun _ _ y => y
    obtain ⟨y, t, rfl, q⟩ := y
    exact wpAny_pure q
/-- one turn of the list's repr -/
theorem repr_turn {a P : Addr} {items : Array Value} {i sg : Nat} {oa : Obj} {na : Nat} {x : Value} (ha : s.heap.get? a = some oa) (hda : oa.data = .seq items na) (hx : items[i]? = some x)
    (h : wpAny (model prog w) (A.under (.builtin "list.__repr__.loop" ⟨[.ref a, rawInt i, .ref P, rawInt sg], []⟩)) (pyReprUnder (sg + 1) x) (fun t s' => t.length ≤ sizeLine ∧ ∃ (acc : List Value) (c : Nat), s'.heap.get? P = some { cls := .type "list", data := .seq acc.toArray c } ∧ acc.length ≤ sizeLine ∧
      codeAny (model prog w) A (.builtin "list.__repr__.loop" ⟨[.ref a, rawInt ((i + 1 : Nat) : Int), .ref P, rawInt ((sg + (t.length + 2) : Nat) : Int)], []⟩) R { s' with heap := s'.heap.update P (Obj.mapSeq (·.push (.str t s'.toks))), toks := s'.toks + 1 }) (fun e s' => R (.error e) s') s) :
    codeAny (model prog w) A (.builtin "list.__repr__.loop" ⟨[.ref a, rawInt i, .ref P, rawInt sg], []⟩) R s := by
  refine codeAny_builtin F.entry_list_repr_loop ?_
  show wpAny _ _ («list.__repr__.loop» ⟨[.ref a, .int i 0, .ref P, .int sg 0], []⟩) _ _ s
  rw [repr_loop_tree]
  refine wpAny_bind (wpAny_listItems ha hda ?_)
  have hsome : items[(i : Int).toNat]? = some x := by simpa using hx
  simp only [hsome]
  rw [Int.toNat_natCast]
  refine wpAny_bind (wpAny_holding (wpAny_mono h (fun t s' z => ?_) fun _ _ z => z))
  obtain ⟨hz, acc, c, hP, hl, hc⟩ := z
  refine wpAny_bind (wpAny_mkStr ?_ hz)
  refine wpAny_bind ?_
  show wpAny _ _ (updateSeq P _) _ _ _
  refine wpAny_updateSeq hP rfl (wpAny_pure ⟨F.quiet_list_repr_loop _, ?_⟩) (by rw [List.size_toArray]; exact hl)
  have e1 : ((i : Int) + 1) = ((i + 1 : Nat) : Int) := by omega
  rw [e1]
  exact hc
theorem repr_stop {a P : Addr} {items : Array Value} {i sg : Nat} {oa op : Obj} {na np : Nat} {done : List (Str × Tok)} (ha : s.heap.get? a = some oa) (hda : oa.data = .seq items na) (hx : items[i]? = none) (hp : s.heap.get? P = some op) (hdp : op.data = .seq (strValues done).toArray np)
    (hz : (listText (done.map (·.1))).length ≤ sizeLine) (h : R (.ok (.ret (.str (listText (done.map (·.1))) s.toks))) { s with toks := s.toks + 1 }) :
    codeAny (model prog w) A (.builtin "list.__repr__.loop" ⟨[.ref a, rawInt i, .ref P, rawInt sg], []⟩) R s := by
  refine codeAny_builtin F.entry_list_repr_loop ?_
  show wpAny _ _ («list.__repr__.loop» ⟨[.ref a, .int i 0, .ref P, .int sg 0], []⟩) _ _ s
  rw [repr_loop_tree]
  refine wpAny_bind (wpAny_listItems ha hda ?_)
  have hnone : items[(i : Int).toNat]? = none := by simpa using hx
  simp only [hnone]
  unfold reprEnd
  refine wpAny_bind (wpAny_listItems hp hdp ?_)
  rw [List.toList_toArray, repr_fold]
  refine wpAny_bind (wpAny_pure ?_)
  exact wpAny_bind (wpAny_mkStr (wpAny_pure h) hz)
end
end SQ
namespace SQ
open PySem PySem.Spec PyProof.Rows L2
open PySem.W (InstAt findIn isFn subIn)
open Builtin Builtin.List
abbrev lpC (args : Args) : Code := .builtin "list.__repr__.loop" args
theorem lp_depth (A : Around) (args : Args) : (A.under (lpC args)).depth ≤ A.depth + 1 := by
  first
    | exact Nat.le_refl _
    | exact Nat.le_succ _
    | (show A.depth + (lpC args).weight ≤ A.depth + 1; decide)
    | (simp [Around.under, Code.weight, Code.isCreation, Code.isGuard, Code.isCaller, Code.frames, Code.isFrame, guardIds])
theorem lp_frames (A : Around) (args : Args) : (A.under (lpC args)).frames = A.frames := by
  show pushEnvs (lpC args).envs A.frames = A.frames
  cases A.frames <;> rfl
theorem lp_room {k : Nat} {A : Around} (r : Room (k + 1) A) (args : Args) : Room k (A.under (lpC args)) := by
  have h1 := lp_depth A args
  have h2 := units_under_list_loop A args
  have h3 := r.dp
  have h4 := r.un
  exact ⟨r.hd, by omega, by rw [h2]; omega⟩
structure RpC (K : PySem.W.Frag) (C f : Addr) : Prop where
  rp : findIn K (.ref C) "__repr__" = some (some (.ref f))
  fn : isFn K (.ref f) = true
abbrev bT (b : Bool) : Str := if b = true then Str.ofString "True" else Str.ofString "False"
theorem same_refl (H : Hp) : Same H H := fun _ _ e => e
end SQ
/-! repr of lists in lists, with own instances in them. -/
namespace SQ
open PySem PySem.Spec PyProof.Rows L2
open PySem.W (InstAt findIn isFn subIn)
open Builtin Builtin.List
/-- A stands below X.A in reprs of the lists at L -/
structure Lw (X : Cx) (k : Nat) (L : List Addr) (A : Around) : Prop where
  fr : A.frames = X.A.frames
  rm : Room k A
  gd : ∃ g, A.guards = some g ∧ ∀ b, b ∉ L → Clear g b
section
variable {X : Cx} {pins : List (Addr × Obj)} {σ : L2.St} {H : Hp} {s : Shared} {k : Nat} {L M : List Addr} {A : Around} {a P : Addr} {v : V} {z : Str} {vs : List V} {zs : List Str}
theorem Lw.down (l : Lw X (k + 1) L A) (a : Addr) (rest : List Value) : Lw X k (a :: L) (A.under (lpC ⟨.ref a :: rest, []⟩)) := by
  obtain ⟨g, g1, g2⟩ := l.gd
  refine ⟨(lp_frames A _).trans l.fr, lp_room l.rm _, _, guards_under_guard (isGuard_list_loop _) g1, fun b hb => ?_⟩
  exact Clear.cons (g2 b fun h => hb (List.mem_cons_of_mem _ h)) fun e => hb (e ▸ List.mem_cons_self)
theorem Lw.env (l : Lw X k L A) (I : Inv X pins σ H s) : Env0 X.prog X.w X.K X.mg X.base A X.stack s H :=
  ⟨l.fr.trans I.env0.frames, I.env0.mod, I.env0.bs, I.env0.bsz, I.env0.funs, I.env0.frf, I.env0.hok, I.env0.bare⟩
/-- repr(v) is z, whatever was laid since; M: the lists and tuples within v -/
def RpX (X : Cx) (H : Hp) (k : Nat) (M : List Addr) (v : V) (z : Str) : Prop :=
  ∀ (pins : List (Addr × Obj)) (σ : L2.St) (L : List Addr) (A : Around), Lw X k L A → (∀ m ∈ M, m ∉ L) → ∀ (G : Hp) (s : Shared) (u : Value) (b : Nat) (Q : Str → Shared → Prop) (E : Value → Shared → Prop), Same H G → Inv X pins σ G s → RelV v u →
    b + z.length ≤ sizeLine → (∀ G' s', Same G G' → Inv X pins σ G' s' → Q z s') → wpAny (model X.prog X.w) A (pyReprUnder b u) Q E s
theorem RpX.of_is (h : ∀ u, RelV v u → ReprIs X.prog X.w u z) : RpX X H k M v z := fun pins σ L A l m G s u b Q E sm I r hb q => h u r b hb A E s Q fun tk => q G _ (same_refl G) (I.tok tk)
theorem RpX.of_k {d : Nat} (hd : d ≤ 200) (h : ∀ pins σ G s u, Same H G → Inv X pins σ G s → RelV v u → ReprK X.prog X.w M s.heap d u z) : RpX X H k M v z := fun pins σ L A l m G s u b Q E sm I r hb q => by
  obtain ⟨g, g1, g2⟩ := l.gd
  have hu := l.rm.un
  exact h pins σ G s u sm I r b hb A g E s Q g1 (fun c hc => g2 c (m c hc)) (by omega) (fun _ _ e => e) fun h' tk hk => q G _ (same_refl G) (I.kept hk)
theorem RpX.non : RpX X H k M .non "None" := .of_is fun u r => by
  obtain rfl : u = Value.none := r
  exact ReprIs.none
theorem RpX.bl (b : Bool) : RpX X H k M (.bl b) (bT b) := .of_is fun u r => by
  obtain rfl : u = Value.bool b := r
  exact ReprIs.bool b
theorem RpX.int {i : Int} (h : i.natAbs.log2 < 1920) : RpX X H k M (.int i) (toString i) := .of_is fun u r => by
  obtain ⟨t, rfl⟩ := r
  exact ReprIs.int t h
theorem RpX.str {x : Str} (h : (reprText x).length ≤ sizeLine) : RpX X H k M (.str x) (reprText x) := .of_is fun u r => by
  obtain ⟨t, rfl⟩ := r
  exact ReprIs.str x t h
theorem RpX.own {C f o dx : Addr} {sp : Sp} {fs : List (Str × V)} (T : RpC X.K C f) (F : FnR X.prog X.w X.K X.mg X.base CX0 k f sp) (ho : H o = some (.ins C dx fs))
    (hsp : ∀ H1, Same H H1 → sp [.ref o] H1 (fun v H2 => v = .str z ∧ Same H1 H2) E0) : RpX X H k M (.ref o) z := by
  intro pins σ L A l m G s u b Q E sm I r hb q
  obtain rfl : u = Value.ref o := r
  obtain ⟨mA, O, _⟩ := ins_get I.hok (sm _ _ ho)
  obtain ⟨od, J, _⟩ := O.look
  refine repr_own (by omega) l.rm.units0 I.kIn J T.rp T.fn (wpAny_call (codeAny_mono (F _ X.stack s G [.ref o] [.ref o] _ _ l.rm (l.env I) (.cons rfl .nil) (hsp _ sm)) fun r s3 hq => ?_))
  rcases r with er | (_ | _ | _ | v)
  · exact (show False from hq).elim
  · exact False.elim hq
  · exact False.elim hq
  · exact False.elim hq
  obtain ⟨v', H3, I3, rv3, rfl, sm3⟩ := I.after hq
  obtain ⟨tz, rfl⟩ := rv3
  exact ⟨z, tz, rfl, q _ _ sm3 I3⟩
theorem RpX.tupS {l : List Str} (h : H a = some (.tup (l.map V.str))) (hl : ∀ x ∈ l, (reprText x).length ≤ sizeLine) : RpX X H k [a] (.ref a) (tupleText (l.map reprText)) := by
  refine .of_k (d := 1) (by decide) fun pins σ G s u sm I r => ?_
  obtain rfl : u = Value.ref a := r
  obtain ⟨its, rv, ⟨o, e, c, n, dt⟩, sz⟩ := I.tuple (SqT.of (sm _ _ h))
  refine ReprK.tuple (as := []) (d := 0) e c dt (fun z => nomatch z) ?_
  rw [List.toList_toArray]
  clear e dt h sz
  induction l generalizing its with
  | nil =>
    cases rv
    exact .nil
  | cons x l ih =>
    cases rv with
    | cons r rv =>
      obtain ⟨t, rfl⟩ := r
      exact .cons (.of_is (ReprIs.str x t (hl x List.mem_cons_self)) _ _ _) (ih (fun y hy => hl y (List.mem_cons_of_mem _ hy)) _ rv)
theorem RpX.dic (h : H a = some (.dK [])) : RpX X H k [a] (.ref a) (dictText []) := by
  refine .of_k (d := 1) (by decide) fun pins σ G s u sm I r => ?_
  obtain rfl : u = Value.ref a := r
  obtain ⟨_, na, vs, kv, o, es, ep, h1, h2, h3, h4⟩ := (show ObjOk X.prog X.w G s.heap a (.dK []) from I.hok a _ (sm _ _ h))
  cases kv
  have he : es.toList = [] := by
    have h5 := h4.2.1
    generalize es.toList = l at h5
    cases h5
    rfl
  refine ReprK.dict (as := []) (d := 0) h1 h2.1 h3 na (fun z => nomatch z) ?_
  rw [he]
  exact .nil
theorem RpX.more {M' : List Addr} (h : RpX X H k M v z) (hs : ∀ m ∈ M, m ∈ M') : RpX X H k M' v z := fun pins σ L A l m => h pins σ L A l fun c hc => m c (hs c hc)
theorem RpX.lift {j : Nat} (h : RpX X H j M v z) (hj : j ≤ k) : RpX X H k M v z := fun pins σ L A l m => h pins σ L A ⟨l.fr, l.rm.mono hj, l.gd⟩ m
theorem RpX.same {H' : Hp} (h : RpX X H k M v z) (s : Same H H') : RpX X H' k M v z := fun pins σ L A l m G t u b Q E s2 I r hb q => h pins σ L A l m G t u b Q E (fun c x y => s2 _ _ (s _ _ y)) I r hb q
inductive RpAll (X : Cx) (H : Hp) (k : Nat) (M : List Addr) : List V → List Str → Prop
  | nil : RpAll X H k M [] []
  | cons {v : V} {z : Str} {vs : List V} {zs : List Str} : RpX X H k M v z → RpAll X H k M vs zs → RpAll X H k M (v :: vs) (z :: zs)
theorem RpAll.len (h : RpAll X H k M vs zs) : vs.length = zs.length := by
  induction h with
  | nil => rfl
  | cons _ _ ih => rw [List.length_cons, List.length_cons, ih]
theorem vals_strs : ∀ {l : List Str} {us : List Value}, Vals (l.map V.str) us → ∃ ps : List (Str × Tok), strValues ps = us ∧ ps.map (·.1) = l
  | [], _, .nil => ⟨[], rfl, rfl⟩
  | x :: l, _, .cons r rs => by
    obtain ⟨t, rfl⟩ := r
    obtain ⟨ps, e1, e2⟩ := vals_strs rs
    exact ⟨(x, t) :: ps, by rw [← e1]; rfl, by rw [← e2]; rfl⟩
theorem vals_at {vs : List V} {us : List Value} (h : Vals vs us) : ∀ {i : Nat} {v : V}, vs[i]? = some v → ∃ u, us[i]? = some u ∧ RelV v u := by
  induction h with
  | nil => intro i v e; simp at e
  | @cons v0 u0 vs us r _ ih =>
    intro i v e
    cases i with
    | zero =>
      cases e
      exact ⟨u0, rfl, r⟩
    | succ i => exact ih e
theorem rp_loop {R : Result → Shared → Prop} {all : List V} (l : Lw X (k + 1) L A) (hM : ∀ m ∈ M, m ∉ a :: L) (nP : H P = none) (ha : H a = some (.lst all)) :
    ∀ (rest : List V) (zs : List Str) (pre : List V) (done : List Str) (G : Hp) (s : Shared) (sg : Nat), all = pre ++ rest → RpAll X H k M rest zs → Same H G → Inv X pins σ G s → G P = some (.lst (done.map V.str)) → sg + piled zs ≤ sizeLine → done.length + zs.length ≤ 1000 → (listText (done ++ zs)).length ≤ sizeLine →
      (∀ G' s' u, Same H G' → Inv X pins σ G' s' → R (.ok (.ret (.str (listText (done ++ zs)) u))) s') → codeAny (model X.prog X.w) A (.builtin "list.__repr__.loop" ⟨[.ref a, rawInt (pre.length : Nat), .ref P, rawInt (sg : Nat)], []⟩) R s := by
  intro rest
  induction rest with
  | nil =>
    intro zs pre done G s sg e hz sm I hP hs hn ht q
    cases hz
    obtain ⟨_, its, n, rv, eA⟩ := (show ObjOk X.prog X.w G s.heap a (.lst all) from I.hok a _ (sm _ _ ha))
    obtain ⟨_, acc, c, rw', eP⟩ := (show ObjOk X.prog X.w G s.heap P (.lst (done.map V.str)) from I.hok P _ hP)
    obtain ⟨ps, e1, e2⟩ := vals_strs rw'
    have hlen : its.length = pre.length := by
      have := rv.length
      rw [e, List.append_nil] at this
      exact this.symm
    rw [List.append_nil] at ht q
    refine repr_stop (done := ps) eA rfl (by rw [List.getElem?_toArray]; exact List.getElem?_eq_none (by omega)) eP (by rw [e1]) (by rw [e2]; exact ht) ?_
    rw [e2]
    exact q G _ _ sm (I.tok _)
  | cons v rest ih =>
    intro zs pre done G s sg e hz sm I hP hs hn ht q
    cases hz with
    | @cons _ z _ zs hv hzs =>
    obtain ⟨_, its, n, rv, eA⟩ := (show ObjOk X.prog X.w G s.heap a (.lst all) from I.hok a _ (sm _ _ ha))
    obtain ⟨u, hu, ru⟩ := vals_at rv (i := pre.length) (v := v) (by rw [e]; simp)
    rw [piled_cons] at hs
    rw [List.length_cons] at hn
    refine repr_turn eA rfl (x := u) (by rw [List.getElem?_toArray]; exact hu) ?_
    refine hv pins σ (a :: L) _ (l.down a _) hM G s u (sg + 1) _ _ sm I ru (by omega) fun G' s' sm' I' => ?_
    have hP' := sm' _ _ hP
    obtain ⟨_, acc, c, rw', eP⟩ := (show ObjOk X.prog X.w G' s'.heap P (.lst (done.map V.str)) from I'.hok P _ hP')
    have hacc : acc.length = done.length := by
      have := rw'.length
      rw [List.length_map] at this
      exact this.symm
    have line : ∀ {m : Nat}, m ≤ 1000 → m ≤ sizeLine := fun h => Nat.le_trans h (by decide)
    refine ⟨by omega, acc, c, eP, line (by omega), ?_⟩
    have rv2 : Vals ((done ++ [z]).map V.str) (acc ++ [Value.str z s'.toks]) := by
      rw [List.map_append]
      exact Vals.append rw' (.cons ⟨_, rfl⟩ .nil)
    have I2 := Inv.lset (t' := s'.toks + 1) (its' := acc ++ [Value.str z s'.toks]) (f := fun y => y.push (.str z s'.toks)) I' hP' eP (by simp) rv2 (line (by rw [List.length_map, List.length_append]; show done.length + 1 ≤ 1000; omega))
    have sm2 : Same H (upd G' P (.lst ((done ++ [z]).map V.str))) := fun c x y => by
      rw [upd_ne (ne_of_none y nP)]
      exact sm' _ _ (sm _ _ y)
    have eL : (pre.length + 1 : Nat) = (pre ++ [v]).length := by simp
    rw [eL]
    have eD : done ++ z :: zs = (done ++ [z]) ++ zs := by simp
    rw [eD] at ht q
    exact ih zs (pre ++ [v]) (done ++ [z]) _ _ (sg + (z.length + 2)) (by rw [e]; simp) hzs sm2 I2 upd_same (by omega) (by rw [List.length_append]; show done.length + 1 + zs.length ≤ 1000; omega) ht q
theorem RpX.list (ha : H a = some (.lst (v :: vs))) (h : RpAll X H k M (v :: vs) zs) (na : a ∉ M) (few : zs.length ≤ 1000) : RpX X H (k + 1) (a :: M) (.ref a) (listText zs) := by
  intro pins σ L A l m G s u b Q E sm I r hb q
  obtain rfl : u = Value.ref a := r
  obtain ⟨_, its, n, rv, e⟩ := (show ObjOk X.prog X.w G s.heap a (.lst (v :: vs)) from I.hok a _ (sm _ _ ha))
  obtain ⟨g, g1, g2⟩ := l.gd
  have pl := piled_le_listText zs
  refine wpAny_pyReprUnder_ref (by omega) (wpAny_pyReprObjUnder_twin (twin := "list.__repr__.under") ⟨_, e, rfl⟩ PySem.F.slot_list_repr.toG rfl l.rm.units0 ?_)
  refine call_twin_plain PySem.F.plain_list_repr_under PySem.F.entry_list_repr_under PySem.F.check_list_repr_under ⟨_, e, rfl⟩ PySem.F.slot_list_repr.toG (PySem.F.args_list_repr_1 _) ?_
  obtain ⟨y, its, rfl⟩ : ∃ y l, its = y :: l := by
    cases rv with
    | cons _ _ => exact ⟨_, _, rfl⟩
  refine wpAny_list_repr_head (A := A.in1) g1 (fun v rest kw hm => listSameRef_of_ne (g2 a (m a List.mem_cons_self) _ _ _ _ hm)) e rfl ?_
  refine wpAny_bind (m := newList []) (wpAny_newObj_type ?_)
  refine wpAny_pure ⟨PySem.F.quiet_list_repr_loop _, ?_⟩
  have nP : G s.heap.objs.size = none := I.hok.fresh (Nat.le_refl _)
  have nH : H s.heap.objs.size = none := sm.free nP
  have I1 : Inv X pins σ (upd G s.heap.objs.size (.lst (([] : List Str).map V.str))) { s with heap := s.heap.push { cls := .type "list", data := .seq ([] : List Value).toArray } } :=
    I.laid (t' := s.toks) (fun c u y => Heap.get?_push_of_some _ y) (Nat.le_refl _) ⟨Nat.zero_le _, [], _, .nil, Heap.get?_push_size _ rfl⟩
  have sm1 : Same H (upd G s.heap.objs.size (.lst (([] : List Str).map V.str))) := fun c x y => by
    rw [upd_ne (ne_of_none y nH)]
    exact sm _ _ y
  refine rp_loop (k := k) (pins := pins) (σ := σ) (H := G) (M := M) l (fun c hc hm => ?_) nP (sm _ _ ha) (v :: vs) zs [] [] _ _ b rfl ?_ ?_ I1 upd_same (by omega) (by simpa using few) (by simpa using (by omega : (listText zs).length ≤ sizeLine)) fun G' s' u sm' I' => ?_
  · rcases List.mem_cons.mp hm with e | hm
    · exact na (e ▸ hc)
    · exact m c (List.mem_cons_of_mem _ hc) hm
  · have up : ∀ {vs : List V} {zs : List Str}, RpAll X H k M vs zs → RpAll X G k M vs zs := by
      intro vs zs h
      induction h with
      | nil => exact .nil
      | cons h _ ih => exact .cons (fun pins σ L A l m G2 s u b Q E s2 I r hb q => h pins σ L A l m G2 s u b Q E (fun c x y => s2 _ _ (sm _ _ y)) I r hb q) ih
    exact up h
  · intro c x y
    rw [upd_ne (ne_of_none y nP)]
    exact y
  · exact ⟨⟨_, _, rfl⟩, _, _, rfl, q _ _ sm' I'⟩
end
end SQ
/-! list.count of a text. -/
namespace SQ
open PySem PySem.Spec PyProof.Rows L2
def eqs (k : Str) (v : Value) : Bool := match v with
  | .str n _ => n.cps.toList == k.cps.toList
  | _ => false
theorem eqs_gives {k : Str} {t : Tok} : ∀ {l : List Str} {us : List Value}, Vals (l.map V.str) us → ∀ y ∈ us, MeetsSeq.EqGives y (.str k t) (eqs k y)
  | [], _, .nil => fun y hy => nomatch hy
  | x :: l, _, .cons r rs => fun y hy => by
    obtain ⟨t', rfl⟩ := r
    rcases List.mem_cons.mp hy with e | e
    · rw [e]
      exact SeqRoads2.EqGives.str x k t' t
    · exact eqs_gives rs y e
theorem eqs_beq (x k : Str) : (x.cps.toList == k.cps.toList) = (x == k) := by
  by_cases h : x = k
  · subst h
    rw [beq_self_eq_true, beq_self_eq_true]
  · have h2 : ¬ x.cps.toList = k.cps.toList := fun e => h (by
      cases x; cases k
      exact congrArg Str.mk (Array.toList_inj.mp e))
    rw [beq_eq_false_iff_ne.mpr h, beq_eq_false_iff_ne.mpr h2]
theorem eqs_count {k : Str} : ∀ {l : List Str} {us : List Value}, Vals (l.map V.str) us → us.countP (eqs k) = l.count k
  | [], _, .nil => rfl
  | x :: l, _, .cons r rs => by
    obtain ⟨t', rfl⟩ := r
    have ih := eqs_count (k := k) rs
    rw [List.countP_cons, List.count_cons, ih]
    show _ + (if (x.cps.toList == k.cps.toList) = true then 1 else 0) = _
    rw [eqs_beq]
def rCntS (K : PySem.W.Frag) : V → List V → Hp → VK → Prop := fun x xs H Q => ∃ (p : Addr) (l : List Str) (k : Str), x = .ref p ∧ xs = [.str k] ∧ SqL K H p (l.map V.str) ∧ Q (.int (l.count k : Nat)) H
theorem mt_countS {X : Cx} : MtR X "list.count" (rCntS X.K) := by
  intro pins s σ H x xs v us Q I rx rxs h
  obtain ⟨p, l, k, rfl, rfl, hs, q⟩ := h
  cases rx
  obtain ⟨u, rfl, t, rfl⟩ := rxs.one
  obtain ⟨its, rv, ⟨⟨cls, dd, data, sl⟩, n, ho, hc, _, hd⟩, _⟩ := I.list hs
  obtain rfl : cls = _ := hc
  obtain rfl : data = _ := hd
  have at_ := SeqAt.list_countAt p its.toArray n dd sl (.str k t) (eqs k)
  refine call_meets PySem.F.slot_list_count ⟨_, ho, rfl⟩ PySem.F.entry_list_count (PySem.F.args_list_count_2 _ _) at_ ⟨ho, fun y hy => (eqs_gives rv y (by simpa using hy)).at _ _, .int (l.count k : Nat), H, I.tok _, ⟨s.toks, ?_⟩, q⟩
  exact congrArg (fun m : Nat => Value.int (m : Int) s.toks) (eqs_count rv)
end SQ
/-! sorted of triples (text, int, int). -/
namespace SQ
open PySem PySem.Spec PyProof.Rows L2 SrtO Srt
abbrev T3 := Str × Int × Int
def lex3 (p q : T3) : Bool := if p.1 = q.1 then lexB p.2 q.2 else decide (p.1.cps.toList < q.1.cps.toList)
theorem cps_inj {x y : Str} (h : x.cps.toList = y.cps.toList) : x = y := by
  obtain ⟨a⟩ := x
  obtain ⟨b⟩ := y
  have e : a = b := Array.toList_inj.mp h
  rw [e]
theorem cps_asym {x y : Str} (h : x.cps.toList < y.cps.toList) : ¬ y.cps.toList < x.cps.toList := fun z => List.lt_irrefl _ (List.lt_trans h z)
theorem lex3_no {p q : T3} (ne : p.1 ≠ q.1) : lex3 p q = false ↔ q.1.cps.toList < p.1.cps.toList := by
  unfold lex3
  rw [if_neg ne, decide_eq_false_iff_not]
  constructor
  · intro h
    rcases List.le_iff_lt_or_eq.mp (List.not_lt.mp h) with z | z
    · exact z
    · exact absurd (cps_inj z.symm) ne
  · exact cps_asym
theorem swo3 : Swo lex3 := by
  refine ⟨fun x y h => ?_, fun x y z h1 h2 => ?_⟩
  · by_cases e : x.1 = y.1
    · unfold lex3 at h ⊢
      rw [if_pos e] at h
      rw [if_pos e.symm]
      have a := lexB_iff.mp h
      refine lexB_no.mpr ?_
      omega
    · have h' := h
      unfold lex3 at h'
      rw [if_neg e, decide_eq_true_eq] at h'
      exact (lex3_no (Ne.symm e)).mpr h'
  · by_cases e1 : y.1 = x.1
    · by_cases e2 : z.1 = y.1
      · unfold lex3 at h1 h2 ⊢
        rw [if_pos e1] at h1
        rw [if_pos e2] at h2
        rw [if_pos (e2.trans e1)]
        have a := lexB_no.mp h1
        have b := lexB_no.mp h2
        refine lexB_no.mpr ?_
        omega
      · have a := (lex3_no e2).mp h2
        refine (lex3_no (fun q => e2 (q.trans e1.symm))).mpr ?_
        rw [← e1]
        exact a
    · have a := (lex3_no e1).mp h1
      by_cases e2 : z.1 = y.1
      · refine (lex3_no (fun q => e1 (e2.symm.trans q))).mpr ?_
        rw [e2]
        exact a
      · have b := (lex3_no e2).mp h2
        have c := List.lt_trans a b
        refine (lex3_no (fun q => ?_)).mpr c
        rw [q] at c
        exact List.lt_irrefl _ c
theorem swo_at {α β : Type} {lt : β → β → Bool} (O : Swo lt) (f : α → β) : Swo fun x y => lt (f x) (f y) := ⟨fun x y => O.asym (f x) (f y), fun x y z => O.tr (f x) (f y) (f z)⟩
def Is3 (h : Heap) (v : Value) (x : T3) : Prop := ∃ a o t u r n, v = .ref a ∧ h.get? a = some o ∧ o.cls = .type "tuple" ∧ o.data = .seq #[.str x.1 t, .int x.2.1 u, .int x.2.2 r] n
theorem Is3.keeps {h h' : Heap} {v : Value} {x : T3} (p : Is3 h v x) (k : ∀ b o, h.get? b = some o → o.cls = .type "tuple" → h'.get? b = some o) : Is3 h' v x := by
  obtain ⟨a, o, t, u, r, n, e, ho, hc, hd⟩ := p
  exact ⟨a, o, t, u, r, n, e, k _ _ ho hc, hc, hd⟩
theorem firsts3 {h : Heap} : ∀ {vs : List Value}, (∀ v ∈ vs, ∃ x, Is3 h v x) → ∃ fs : List Value, PySem.W.KatTups h vs fs ∧ fs.length = vs.length ∧ ∀ f ∈ fs, ∃ x t, f = Value.str x t
  | [], _ => ⟨[], PySem.W.KatTups.nil, rfl, fun _ hm => by simp at hm⟩
  | v :: vs, hp => by
    obtain ⟨fs, h1, h2, h3⟩ := firsts3 (vs := vs) fun v' hm => hp v' (List.mem_cons_of_mem _ hm)
    obtain ⟨x, a, o, t, u, r, n, e, ho, hc, hd⟩ := hp v (List.mem_cons_self ..)
    subst e
    refine ⟨.str x.1 t :: fs, PySem.W.KatTups.cons ho hc hd rfl h1, by rw [List.length_cons, List.length_cons, h2], fun f hm => ?_⟩
    rcases List.mem_cons.mp hm with rfl | hm
    · exact ⟨_, t, rfl⟩
    · exact h3 f hm
section
variable {prog : Program} {w : World} {A : Around} {s : Shared} {E : Value → Shared → Prop}
theorem cmp3 {vs : List Value} {k : Value → T3} (hp : ∀ v ∈ vs, Is3 s.heap v (k v)) : Cmp prog w A s (tuples' true) (fun p => p.1 ∈ vs) (lt2 fun v u => lex3 (k v) (k u)) := by
  intro p q hm hm'
  have h1 := hp _ hm
  have h2 := hp _ hm'
  show wpAny (model prog w) A (keyLt' (tuples' true) p.1 q.1) (fun r s' => s' = s ∧ r = lex3 (k p.1) (k q.1)) (fun _ _ => False) s
  generalize k p.1 = K1 at h1 ⊢
  generalize k q.1 = K2 at h2 ⊢
  obtain ⟨x, y, z⟩ := K1
  obtain ⟨x', y', z'⟩ := K2
  obtain ⟨a, o, t, u, r, n, e, ho, hc, hd⟩ := h1
  obtain ⟨a', o', t', u', r', n', e', ho', hc', hd'⟩ := h2
  rw [e, e']
  refine PySem.W.kat_lt ho hd ho' hd' ?_
  show PySem.W.KatLex prog w A true (decide (3 < 3)) _ [(.str x t, .str x' t'), (.int y u, .int y' u'), (.int z r, .int z' r')] 0 s
  refine PySem.W.kat_cons (SeqAt.EqAt.str_str x t x' t' prog w _ _ ?_)
  refine PySem.W.kat_go (fun e1 => ?_) (fun e1 => ?_)
  · have ex : x = x' := by simpa using e1
    subst ex
    have e0 : lex3 (x, y, z) (x, y', z') = lexB (y, z) (y', z') := if_pos rfl
    rw [e0]
    refine PySem.W.kat_yes (PySem.W.kat_cons (SeqAt.EqAt.int_int y u y' u' prog w _ _ ?_))
    refine PySem.W.kat_go (fun e2 => ?_) (fun e2 => ?_)
    · have ey : y = y' := by simpa using e2
      subst ey
      have e3 : lexB (y, z) (y, z') = decide (z < z') := if_pos rfl
      refine PySem.W.kat_yes (PySem.W.kat_cons (SeqAt.EqAt.int_int z r z' r' prog w _ _ ?_))
      refine PySem.W.kat_go (fun e4 => ?_) (fun e4 => ?_)
      · have ez : z = z' := by simpa using e4
        subst ez
        refine PySem.W.kat_yes (PySem.W.kat_nil ⟨rfl, ?_⟩)
        rw [e3]
        simp
      · refine PySem.W.kat_no (PySem.W.kat_one _ _ (PyProof.Rows.lt_int ?_))
        exact (show s = s ∧ decide (z < z') = lexB (y, z) (y, z') from ⟨rfl, e3.symm⟩)
    · have ny : ¬ y = y' := by simpa using e2
      have e3 : lexB (y, z) (y', z') = decide (y < y') := if_neg ny
      refine PySem.W.kat_no (PySem.W.kat_one _ _ (PyProof.Rows.lt_int ?_))
      exact (show s = s ∧ decide (y < y') = lexB (y, z) (y', z') from ⟨rfl, e3.symm⟩)
  · have nx : ¬ x = x' := by simpa using e1
    have e3 : lex3 (x, y, z) (x', y', z') = decide (x.cps.toList < x'.cps.toList) := if_neg nx
    exact PySem.W.kat_no (PyProof.Rows.oneLt_str ⟨rfl, e3.symm⟩)
theorem sortable3 {a : Addr} {vs : List Value} {k : Value → T3} (h0 : 0 < vs.length) (hp : ∀ v ∈ vs, Is3 s.heap v (k v)) (ha : ∀ o, s.heap.get? a = some o → o.cls ≠ .type "tuple") : SortableO prog w A s a vs fun v u => lex3 (k v) (k u) := by
  intro h' keep
  have hp' : ∀ v ∈ vs, Is3 h' v (k v) := fun v hm => (hp v hm).keeps fun b o e c => keep b o (fun z => by subst z; exact ha o e c) e
  obtain ⟨fs, h1, h2, h3⟩ := firsts3 fun v hm => ⟨_, hp' v hm⟩
  refine ⟨tuples' true, fun Q E hq => ?_, cmp3 hp'⟩
  refine PySem.W.kat_kind (T := .type "str") h1 (by omega) (fun f hm => ?_) (by rfl) ?_
  · obtain ⟨x, t, rfl⟩ := h3 f hm
    exact PySem.W.Looks.now
  · have e : (Value.type "str" != Value.type "tuple") = true := by first | decide +kernel | rfl | decide
    rw [e]
    exact hq
theorem sorted3 {l : Addr} {vs : List Value} {k : Value → T3} {Q : Value → Shared → Prop} (hl : s.heap.IsList l vs.toArray) (hz : vs.length ≤ sizeLine) (hp : ∀ v ∈ vs, Is3 s.heap v (k v))
    (h : ∀ (h' : Heap) (d : Addr) (out : List Value), Srtd (fun v u => lex3 (k v) (k u)) out → Stb (fun v u => lex3 (k v) (k u)) out vs → (∀ b o, s.heap.get? b = some o → h'.get? b = some o) → s.heap.objs.size ≤ d → (∃ n, h'.get? d = some (seqObj "list" out.toArray n)) → Q (.ref d) { s with heap := h' }) :
    wpAny (model prog w) A (call (.builtin "sorted") [.ref l]) Q E s := by
  refine sorted_ord (swo_at swo3 k) hl hz (fun h2 h₁ a ha kk => ?_) fun out hs hb => ?_
  · refine sortable3 (s := { s with heap := h₁ }) (by omega) (fun v hm => (hp v hm).keeps fun b o e _ => (kk b o e).2) fun o e => ?_
    have e' : some o = some (seqObj "list" vs.toArray 0) := e.symm.trans ha
    cases e'
    intro c
    exact absurd (Value.type.inj c) (by decide)
  · exact h _ _ out hs hb (fun b o e => sortedAll_old e) (Nat.le_succ _) (sortedAll_at s.heap vs out.toArray)
end
/-- sorted(xs), xs a list of triples -/
def rSorted3 (K : PySem.W.Frag) : List V → Hp → VK → Prop := fun vs H Q => ∃ (a : Addr) (xs : List V) (k : V → T3), vs = [V.ref a] ∧ SqL K H a xs ∧ (∀ x ∈ xs, ∃ t, x = V.ref t ∧ H t = some (.tup [.str (k x).1, .int (k x).2.1, .int (k x).2.2])) ∧
  ∀ ys p, Srtd (fun x y => lex3 (k x) (k y)) ys → ys.Perm xs → H p = none → Q (.ref p) (upd H p (.lst ys))
theorem cr_sorted3 {X : Cx} : CallR X (.builtin "sorted") (rSorted3 X.K) := by
  intro pins s σ H vs us Q I r h
  obtain ⟨a, xs, k, rfl, hs, hx, q⟩ := h
  obtain ⟨its, rv, hl, hz⟩ := I.list hs
  obtain ⟨u, rfl, ru⟩ := vals1 r
  obtain rfl : u = Value.ref a := ru
  obtain ⟨e1, e2⟩ := refs_back rv fun x m => by
    obtain ⟨t, e, _⟩ := hx x m
    exact ⟨t, e⟩
  refine sorted3 (k := fun u => k (backV u)) hl.isList (by rw [← rv.length]; exact hz) (fun v hv => ?_) fun h' d out h1 h2 kp hd hn => ?_
  · obtain ⟨t, rfl⟩ := e2 v hv
    have hm : V.ref t ∈ xs := by rw [e1]; exact List.mem_map.mpr ⟨_, hv, rfl⟩
    obtain ⟨t', e, ht⟩ := hx _ hm
    cases e
    obtain ⟨_, its2, r2, o, ho, hc, n, hd⟩ := I.hok _ _ ht
    cases r2 with
    | cons r0 r2 =>
      cases r2 with
      | cons ri r2 =>
        cases r2 with
        | cons rj r2 =>
          cases r2
          obtain ⟨t0, rfl⟩ := r0
          obtain ⟨t1, rfl⟩ := ri
          obtain ⟨t2, rfl⟩ := rj
          exact ⟨t, o, t0, t1, t2, n, rfl, ho, hc, hd⟩
  · have h3 : ∀ u ∈ out, ∃ a, u = Value.ref a := fun u hu => e2 u (h2.perm.mem_iff.mp hu)
    obtain ⟨n, hn⟩ := hn
    have hb : (out.map backV).Perm xs := by
      rw [e1]
      exact h2.perm.map backV
    refine ⟨.ref d, upd H d (.lst (out.map backV)), I.laid (t' := s.toks) kp hd ⟨?_, out, n, vals_back h3, hn⟩, rfl, q _ d (List.pairwise_map.mpr h1) hb (I.hok.fresh hd)⟩
    rw [hb.length_eq]
    exact hz
end SQ
/-! len, bool, repr, == of an instance with own methods; a method by keyword. -/
namespace SQ
open PySem PySem.Spec PyProof.Rows L2
open PySem.W (InstAt findIn isFn subIn)
section
variable {prog : Program} {w : World} {A : Around} {E : Value → Shared → Prop} {s : Shared} {K : PySem.W.Frag} {x C f : Addr} {ox : Obj} {od : Option Obj}
end
end SQ
namespace SQ
open PySem PySem.Spec PyProof.Rows L2
open PySem.W (InstAt findIn isFn subIn)
section
variable {prog : Program} {w : World} {A : Around} {E : Value → Shared → Prop} {s : Shared} {K : PySem.W.Frag} {x C f : Addr} {ox : Obj} {od : Option Obj}
end
section
variable {X : Cx} {k : Nat} {f C : Addr} {sp : Sp}
end
section
variable {X : Cx} {CX : CXT} {k : Nat} {C g : Addr} {sp : Sp} {E : XK} {o e : Expr} {m : Str} {pos apos kpos : Pos} {ta te : TE} {pl : Sem Bool}
end
end SQ
namespace SQ9
open PySem L2 SQ
/-! ### rows of tokens -/
abbrev sRw : Stmt := top 42
abbrev sQx : Stmt := top 43
abbrev sQu : Stmt := top 44
abbrev sSp : Stmt := top 45
/-- tokens: not empty, without a space -/
def Tk (t : Str) : Prop := t ≠ "" ∧ (32 : Nat) ∉ t.cps.toList ∧ t.length ≤ 1000
def jt (ts : List Str) : Str := Txt.join " " ts
theorem jt_eq (ts : List Str) : jt ts = Str.join " " ts := StrLaws.glued_eq_join " " ts
def qtext (x : Str) : Str := if x = "" then "[ ]" else Str.empty ++ "[ " ++ x ++ " ]"
theorem Paired.at {α β : Type} {F : α → β → Prop} : ∀ {l : List α} {m : List β} {i : Nat} {x : α}, Paired F l m → l[i]? = some x → ∃ y, m[i]? = some y ∧ F x y
  | _, _, i, x, .nil, h => by simp at h
  | _, _, 0, x, .cons r t, h => by
    simp at h
    subst h
    exact ⟨_, rfl, r⟩
  | _, _, i + 1, x, .cons r t, h => by
    rw [List.getElem?_cons_succ] at h
    obtain ⟨y, h1, h2⟩ := Paired.at t h
    exact ⟨y, by rw [List.getElem?_cons_succ]; exact h1, h2⟩
/-- the words at ws have the texts xs -/
def Rw (H : Hp) (ws : List V) (xs : List Str) : Prop := Paired (fun w x => ∃ (t : Addr) (k d : V), w = V.ref t ∧ H t = some (.tup [k, .str x, d])) ws xs
theorem Rw.same {H H' : Hp} {ws : List V} {xs : List Str} (s : Same H H') (h : Rw H ws xs) : Rw H' ws xs := Paired.mapP h fun _ _ ⟨t, k, d, e1, e2⟩ => ⟨t, k, d, e1, s _ _ e2⟩
theorem Rw.put {D : Addr} {H : Hp} {ws ys zs : List V} {xs : List Str} (hD : H D = some (.lst ys)) (h : Rw H ws xs) : Rw (upd H D (.lst zs)) ws xs :=
  Paired.mapP h fun _ _ ⟨t, k, d, e1, e2⟩ => ⟨t, k, d, e1, by rw [upd_ne (ne_of e2 hD (by intro z; cases z))]; exact e2⟩
theorem Rw.snoc {H : Hp} : ∀ {ws : List V} {xs : List Str} {v : V} {x : Str}, Rw H ws xs → (∃ (t : Addr) (k d : V), v = V.ref t ∧ H t = some (.tup [k, .str x, d])) → Rw H (ws ++ [v]) (xs ++ [x])
  | _, _, _, _, .nil, h => .cons h .nil
  | _, _, _, _, .cons r t, h => .cons r (Rw.snoc t h)
theorem Rw.len {H : Hp} {ws : List V} {xs : List Str} (h : Rw H ws xs) : ws.length = xs.length := Paired.length h
structure W6 (mg : Str → Option Value) : Prop where
  quo : ∃ t, mg "QUOTATION_words" = some (.str "quotation" t)
  unk : ∃ t, mg "UNKNOWN" = some (.str "unknown" t)
  lit : ∃ t, mg "LITERAL" = some (.str "literal" t)
  fig : ∃ t, mg "FIGURES" = some (.str "0123456789" t)
  mfg : ∃ t, mg "MOST_FIGURES" = some (.int 18 t)
  msz : ∃ t, mg "MOST_SIZE" = some (.int 60 t)
  mnd : ∃ t, mg "MOST_NESTED" = some (.int 6 t)
section
variable {P : Program} {w : World} {K : PySem.W.Frag} {mg : Str → Option Value} {base : Heap}
def spRwT (K : PySem.W.Frag) : Sp := fun vs H Q _ => ∃ (p : Addr) (l : List Str), vs = [.ref p] ∧ (SqL K H p (l.map V.str) ∨ SqT K H p (l.map V.str)) ∧ (l.map (·.length)).sum + l.length ≤ 16777216 ∧ Q (.str (jt l)) H
theorem scRw : FnScope ["texts"] ["texts"] (defScope sRw) := ⟨rfl, rfl, rfl, by decide +kernel, rfl, by decide +kernel, by decide +kernel⟩
theorem ok_rwt {f : Addr} {fd : FuncData} (F : Fun K "row_text" "row_text" sRw f fd) : FnOk P w K mg base CX0 1 f fd ["texts"] (spRwT K) := by
  refine F.ok scRw (fun vs H Q E h => ?_) (fun cdv A outer s H vs Q E hr h => ?_)
  · obtain ⟨p, l, rfl, _⟩ := h
    rfl
  · obtain ⟨p, l, rfl, hp, hz, q⟩ := h
    refine ⟨_, pss_one (ps_ret (pe_join pe_str (pv 0))), ?_⟩
    refine ⟨⟨_, rfl⟩, _, rfl, _, p, l, rfl, rfl, hp, ?_, q⟩
    show _ + l.length * 1 ≤ _
    omega
def spQx : Sp := fun vs H Q _ => ∃ x : Str, vs = [.str x] ∧ x.length ≤ 10000 ∧ Q (.str (qtext x)) H
theorem scQx : FnScope ["text"] ["text"] (defScope sQx) := ⟨rfl, rfl, rfl, by decide +kernel, rfl, by decide +kernel, by decide +kernel⟩
theorem ok_qx {f : Addr} {fd : FuncData} (F : Fun K "quotation_text" "quotation_text" sQx f fd) : FnOk P w K mg base CX0 1 f fd ["text"] spQx := by
  refine F.ok scQx (fun vs H Q E h => ?_) (fun cdv A outer s H vs Q E hr h => ?_)
  · obtain ⟨x, rfl, _⟩ := h
    rfl
  · obtain ⟨x, rfl, hx, q⟩ := h
    have line : ∀ {n : Nat}, n ≤ 20000 → n ≤ sizeLine := fun h => Nat.le_trans h (by decide)
    refine ⟨_, pss_one (ps_ret (pe_ifExp (pt_truth (pv 0) (by intro _; rfl)) (pe_joined (.cons pe_str (.cons (pe_fmt (pv 0)) (.cons pe_str .nil)))) pe_str)), ?_⟩
    refine ⟨_, rfl, _, ⟨line (by omega), rfl⟩, ?_⟩
    by_cases h0 : x = ""
    · subst h0
      exact iteF q
    · have hl : ((x.length : Int) != 0) = true := by
        rw [bne_iff_ne]
        intro e0
        have e : x.length = 0 := by omega
        refine h0 (str_ext ?_)
        have : x.cps.toList.length = 0 := by simpa [Str.length] using e
        rw [List.length_eq_zero_iff.mp this]
        rfl
      rw [hl]
      refine iteT ?_
      have l1 : (Str.empty ++ ("[ " : Str)).length = 2 := by decide
      have l2 : (" ]" : Str).length = 2 := rfl
      have e : qtext x = Str.empty ++ "[ " ++ x ++ " ]" := if_neg h0
      rw [e] at q
      refine ⟨_, rfl, by rw [l1]; exact line (by decide), _, rfl, .inl ⟨x, rfl, line (by omega), _, rfl, ?_, _, rfl, ?_, q⟩⟩
      · rw [len_app, l1]
        exact line (by omega)
      · rw [len_app, len_app, l1, l2]
        exact line (by omega)
theorem scSp : FnScope ["text"] ["text"] (defScope sSp) := ⟨rfl, rfl, rfl, by decide +kernel, rfl, by decide +kernel, by decide +kernel⟩
end
end SQ9
namespace SQ9
open PySem L2 SQ
abbrev sLi : Stmt := top 39
abbrev sWd : Stmt := top 41
abbrev sAri : Stmt := inClass (top 76) 2
theorem ixT {X : Cx} {K : PySem.W.Frag} (h : X.K = K) : IxR X (rIxT K) := by
  subst h
  exact ix_tup
section
variable {P : Program} {w : World} {K : PySem.W.Frag} {mg : Str → Option Value} {base : Heap} {C tC : Addr}
/-! ### quote -/
def spQu : Sp := fun vs H Q _ => ∃ (r : Addr) (ws : List V) (xs : List Str), vs = [.ref r] ∧ H r = some (.tup ws) ∧ Rw H ws xs ∧ xs.length ≤ 900 ∧ (xs.map (·.length)).sum ≤ 9000 ∧ (jt xs).length ≤ 10000 ∧
  ∀ (t : Addr) (H' : Hp), Same H H' → H t = none → H' t = some (.tup [.str "quotation", .str (qtext (jt xs)), .ref r]) → Q (.ref t) H'
theorem scQu : FnScope ["row", "word"] ["row"] (defScope sQu) := ⟨rfl, rfl, rfl, by decide +kernel, rfl, by decide +kernel, by decide +kernel⟩
theorem ok_qu {f fR fQ : Addr} {fd dR dQ : FuncData} (F : Fun K "quote" "quote" sQu f fd) (W : W6 mg) (gR : mg "row_text" = some (.ref fR)) (FR : Fun K "row_text" "row_text" sRw fR dR) (bR : Binds K dR ["texts"] []) (gQ : mg "quotation_text" = some (.ref fQ)) (FQ : Fun K "quotation_text" "quotation_text" sQx fQ dQ) (bQ : Binds K dQ ["text"] []) :
    FnOk P w K mg base CX0 2 f fd ["row"] spQu := by
  have GR : FnOk P w K mg base CX0 1 fR dR ["texts"] (spRwT K) := ok_rwt FR
  have GQ : FnOk P w K mg base CX0 1 fQ dQ ["text"] spQx := ok_qx FQ
  refine F.ok scQu (fun vs H Q E h => ?_) (fun cdv A outer s H vs Q E hr h => ?_)
  · obtain ⟨r, ws, xs, rfl, _⟩ := h
    rfl
  · obtain ⟨r, ws, xs, rfl, hr', hw, h5, h9, hj, q⟩ := h
    obtain ⟨tq, gq⟩ := W.quo
    refine ⟨_, pss_one (ps_ret (pe_tup (pa_cons (pe_glob (v := .str "quotation") rfl gq ⟨_, rfl⟩) (pa_cons (pe_call GQ hr rfl gQ FQ.kp bQ .nil pass0 (pa_cons (pe_call GR hr rfl gR FR.kp bR .nil pass0 (pa_cons
      (pe_lc (own := [("word", 1)]) (g := gName 1) (tt := tYes) rfl scQu.nd (pi_tup (pv 0)) (blkOk_by (N := ["row", "word"]) (sc := defScope sQu) (by decide +kernel)) (fun _ _ _ _ _ => pg_name (i := 1) scQu.nd rfl (.inl rfl)) (fun _ _ _ _ _ => pts_nil) (fun _ _ _ _ _ => pe_ix (ixT (K := K) rfl) (pv 1) pe_int (fun _ _ => rfl))) pa_nil)) pa_nil)) (pa_cons (pv 0) pa_nil))))), ?_⟩
    refine ⟨_, rfl, r, rfl, ⟨_, SqT.of hr'⟩, fun D nD => ?_⟩
    refine lc_tup (K := K) (a := r) (xs := ws) (fun i G => Same H G ∧ G D = some (.lst ((xs.take i).map V.str))) ⟨same_new (fun _ _ e => e) nD, upd_same⟩ (fun i G _ h => SqT.of (h.1 _ _ hr')) ?_ ?_
    · rintro i v G hi ⟨s1, hD⟩
      obtain ⟨x, hx, t, k, d, rfl, e2⟩ := Paired.at (F := _) hw hi
      have hl : (xs.take i).length ≤ 900 := by rw [List.length_take]; omega
      refine ⟨rfl, keptT ⟨_, rfl, t, _, 1, _, rfl, rfl, SqT.of (s1 _ _ e2), rfl, _, hD, small1000 (by rw [List.length_map]; omega), ?_, ?_⟩⟩
      · intro b ob e
        rw [upd_ne (ne_of_none e nD)]
        exact s1 _ _ e
      · rw [upd_same, take_more hx, List.map_append]
        rfl
    · rintro G ⟨s1, hD⟩
      have hl : ws.length = xs.length := hw.len
      rw [hl, List.take_length] at hD
      refine ⟨D, xs, rfl, .inl (SqL.of hD), by omega, ?_⟩
      refine ⟨_, rfl, hj, _, rfl, (by show 3 ≤ sizeLine; decide), fun t nt => ?_⟩
      exact q t _ (st s1 (same_new (fun _ _ e => e) nt)) (s1.free nt) upd_same
/-! ### Vocabulary.arity of a name -/
def spAri (C : Addr) : Sp := fun vs H Q _ => ∃ (a : Addr) (gs : List G3) (ys : List Str) (n : Str), vs = [.ref a, .str n] ∧ Vc C H a gs ys ∧ n ∈ gnames gs ∧ ∀ t, H t = some (.tup [.int (arOf gs n).1, .int (arOf gs n).2]) → Q (.ref t) H
theorem scAri : FnScope ["self", "name"] ["self", "name"] (defScope sAri) := ⟨rfl, rfl, rfl, by decide +kernel, rfl, by decide +kernel, by decide +kernel⟩
theorem ok_ari {f : Addr} {fd : FuncData} (F : Fun K "arity" "Vocabulary.arity" sAri f fd) (B : B2 mg) (VV : VC K mg C) : FnOk P w K mg base CX0 2 f fd ["self", "name"] (spAri C) := by
  refine F.ok scAri (fun vs H Q E h => ?_) (fun cdv A outer s H vs Q E hr h => ?_)
  · obtain ⟨a, gs, ys, n, rfl, _⟩ := h
    rfl
  · obtain ⟨a, gs, ys, n, rfl, ⟨dx, dA, tN, kvs, ha, hN, hA, hk⟩, hn, q⟩ := h
    have hu := hu_of hr
    refine ⟨_, pss_cons (ps_if (PW.pt (pw_or (pt_not (pt_val (pe_callB call_isi (by rfl) B.isi (by decide +kernel) (pa_cons (pv 1) (pa_cons (pe_bltn (v := .ty "str") (by rfl) B.str (by decide +kernel) rfl) pa_nil)))))
        (pw_or1 (pt_cmp (pc_dnotin hu (pv 1) (pe_fld (pv 0) rfl)))))) (pss_one ps_never) pss_nil)
      (pss_one (ps_ret (pe_dget hu (pe_fld (pv 0) rfl) (pv 1) (fun _ _ => rfl)))), ?_⟩
    obtain ⟨t, v1, v2⟩ := hk.at hn
    refine ⟨_, rfl, .str n, .ty "str", .type "str", .type "str", true, rfl, .ty "str", .base (.str n), kit_ty (by decide +kernel), _, rfl, iteF ?_⟩
    refine ⟨_, rfl, _, rfl, a, C, dx, _, _, rfl, ha, VV.cl, VV.nA, rfl, dA, _, rfl, DGet.k (k := Sum.inr n) hA, _, rfl, ?_⟩
    rw [v1]
    refine iteF ⟨_, rfl, a, C, dx, _, _, rfl, ha, VV.cl, VV.nA, rfl, _, rfl, dA, .ref t, rfl, ?_, q t v2⟩
    rw [← v1]
    exact DGet.k (k := Sum.inr n) hA
end
end SQ9
namespace SQ9
open PySem L2 SQ
theorem itYg {c A B : Prop} [Decidable c] (hc : c) (h : A) : if decide c = true then A else B := by
  rw [if_pos (decide_eq_true hc)]
  exact h
theorem itNg {c A B : Prop} [Decidable c] (hc : ¬ c) (h : B) : if decide c = true then A else B := by
  rw [decide_eq_false hc]
  exact iteF h
/-- the signs from 0 to 9 -/
def figsG : List Nat := [48, 49, 50, 51, 52, 53, 54, 55, 56, 57]
/-- what is_literal looks at: the token behind its minus -/
def figOf (x : Str) : Str := if Txt.startswith x "-" = true then cutS x (some 1) none else x
theorem figOf_len (x : Str) : (figOf x).length ≤ x.length := by
  unfold figOf
  split
  · exact cutS_length x _ _
  · exact Nat.le_refl _
/-- is it an integer as a program writes it -/
def isLit (x : Str) : Bool :=
  decide (1 ≤ (figOf x).length) && decide ((figOf x).length ≤ 18) && ((figOf x).cps.toList.all fun c => decide (c ∈ figsG)) && (decide (x = "0") || !Txt.startswith (figOf x) "0")
theorem pickFig {x : Str} {H : Hp} {Kk : VK} (hx : x.length ≤ sizeLine) (h : Kk (.str (figOf x)) H) :
    if Txt.startswith x "-" = true then tSl rSlS (tVar 0) (tPart (tC (.int 1))) tNoPart (L2.start ["token", "figures", "figure"] [.str x]) H Kk
    else tVar 0 (L2.start ["token", "figures", "figure"] [.str x]) H Kk := by
  unfold figOf at h
  split
  · rename_i hs
    rw [if_pos hs] at h
    refine ⟨_, rfl, ⟨_, rfl, x, rfl, hx, h⟩⟩
  · rename_i hs
    rw [if_neg hs] at h
    exact ⟨_, rfl, h⟩
section
variable {P : Program} {w : World} {K : PySem.W.Frag} {mg : Str → Option Value} {base : Heap}
/-! ### is_literal of any token -/
def spLiG : Sp := fun vs H Q _ => ∃ x : Str, vs = [.str x] ∧ x.length ≤ sizeLine ∧ ∀ H', Same H H' → Q (.bl (isLit x)) H'
theorem scLiG : FnScope ["token", "figures", "figure"] ["token"] (defScope sLi) := ⟨rfl, rfl, rfl, by decide +kernel, rfl, by decide +kernel, by decide +kernel⟩
theorem ok_liG {f : Addr} {fd : FuncData} (F : Fun K "is_literal" "is_literal" sLi f fd) (B : B2 mg) (W : W6 mg) : FnOk P w K mg base CX0 1 f fd ["token"] spLiG := by
  refine F.ok scLiG (fun vs H Q E h => ?_) (fun cdv A outer s H vs Q E hr h => ?_)
  · obtain ⟨x, rfl, _⟩ := h
    rfl
  · obtain ⟨x, rfl, hx, q⟩ := h
    obtain ⟨t1, g1⟩ := W.fig
    obtain ⟨t2, g2⟩ := W.mfg
    refine ⟨_, pss_cons (ps_set (i := 1) scLiG.nd rfl (.inl rfl) (pe_ifExp (pt_val (pe_m1 PySem.F.slot_str_startswith PySem.F.type_str_startswith mt_startswith (pv 0) pe_str)) (pe_slice sl_str (pv 0) (po_some pe_int) po_none) (pv 0)))
      (pss_cons (ps_if (pt_not (pt_chain op_le op_le pe_int (pe_callB call_len_str (by rfl) B.len PySem.boot_len (pa_cons (pv 1) pa_nil)) (pe_glob (v := .int 18) rfl g2 ⟨_, rfl⟩))) (pss_one (ps_ret pe_bl)) pss_nil)
      (pss_cons (ps_if (pt_not (pt_val (pe_callB (cr_all rfl) (by rfl) B.all (by decide +kernel) (pa_cons (pe_lc (own := [("figure", 2)]) (g := gName 2) (tt := tYes) rfl scLiG.nd (pi_str (pv 1)) (blkOk_by (N := ["token", "figures", "figure"]) (sc := defScope sLi) (by decide +kernel)) (fun _ _ _ _ _ => pg_name (i := 2) scLiG.nd rfl (.inl rfl)) (fun _ _ _ _ _ => pts_nil)
          (fun _ _ _ _ _ => pe_cmpR op_in_sign (pv 2) (pe_glob (v := .str "0123456789") rfl g1 ⟨_, rfl⟩) rfl)) pa_nil)))) (pss_one (ps_ret pe_bl)) pss_nil)
      (pss_one (ps_ret (pe_or (pe_cmpR op_eq (pv 0) pe_str (by rfl)) (pe_one (pe_not (pe_m1 PySem.F.slot_str_startswith PySem.F.type_str_startswith mt_startswith (pv 1) pe_str)))))))), ?_⟩
    refine ⟨_, rfl, ⟨_, rfl⟩, _, _, rfl, rfl, _, rfl, ?_⟩
    refine pickFig hx ?_
    have hz : (figOf x).length ≤ sizeLine := Nat.le_trans (figOf_len x) hx
    generalize fe : figOf x = z at hz
    have lit : isLit x = (decide (1 ≤ z.length) && decide (z.length ≤ 18) && (z.cps.toList.all fun c => decide (c ∈ figsG)) && (decide (x = "0") || !Txt.startswith z "0")) := by
      unfold isLit
      rw [fe]
    refine ⟨_, rfl, _, rfl, hz, _, _, rfl, rfl, ?_⟩
    refine ⟨_, rfl, ?_⟩
    by_cases h1 : 1 ≤ z.length
    case neg =>
      refine itNg (fun h => h1 (by omega)) ⟨_, rfl, ?_⟩
      have e : isLit x = false := by
        rw [lit, decide_eq_false h1]
        rfl
      have q' := q H (Same.refl H)
      rw [e] at q'
      exact iteT q'
    refine itYg (by omega) ⟨_, _, rfl, rfl, _, rfl, ?_⟩
    by_cases h2 : z.length ≤ 18
    case neg =>
      rw [decide_eq_false (show ¬ ((z.length : Nat) : Int) ≤ 18 by omega)]
      have e : isLit x = false := by
        rw [lit, decide_eq_false h2, Bool.and_false]
        rfl
      have q' := q H (Same.refl H)
      rw [e] at q'
      exact iteT q'
    rw [decide_eq_true (show ((z.length : Nat) : Int) ≤ 18 by omega)]
    refine iteF ?_
    refine ⟨_, rfl, z, rfl, fun D hD => ?_⟩
    have zl : z.cps.toList.length ≤ 18 := by simpa [Str.length] using h2
    refine lc_it (walk_str (z := z)) (fun i H2 => H2 = upd H D (.lst (((z.cps.toList.take i).map fun c => decide (c ∈ figsG)).map V.bl))) rfl (fun _ _ _ _ => trivial) ?_ ?_
    · rintro i v H2 H3 hi rfl ⟨rfl, c, hc, rfl⟩
      refine ⟨rfl, keptT ⟨_, rfl, c, _, rfl, rfl, _, upd_same, small1000 ?_, ?_⟩⟩
      · rw [List.length_map, List.length_map, List.length_take]
        omega
      · have e1 : (("0123456789" : Str).cps.toList) = figsG := by decide +kernel
        have e2 : z.cps.toList.take (i + 1) = z.cps.toList.take i ++ [c] := by
          rw [List.take_add_one]
          have : z.cps.toList[i]? = some c := by simpa using hc
          rw [this]
          rfl
        rw [upd_upd, e1, e2, List.map_append, List.map_append]
        rfl
    · rintro H2 rfl
      refine ⟨D, _, rfl, SqL.of upd_same, ?_⟩
      have ea : ((z.cps.toList.take z.cps.size).map fun c => decide (c ∈ figsG)).all id = z.cps.toList.all fun c => decide (c ∈ figsG) := by
        rw [List.take_of_length_le (by simp), List.all_map]
        rfl
      rw [ea]
      have sm : Same H (upd H D (.lst (((z.cps.toList.take z.cps.size).map fun c => decide (c ∈ figsG)).map V.bl))) := same_new (fun _ _ e => e) hD
      cases ha : z.cps.toList.all fun c => decide (c ∈ figsG)
      · have e : isLit x = false := by
          rw [lit, ha, Bool.and_false]
          rfl
        have q' := q _ sm
        rw [e] at q'
        exact ⟨_, rfl, iteT q'⟩
      have e : isLit x = (decide (x = "0") || !Txt.startswith z "0") := by
        rw [lit, ha, decide_eq_true h1, decide_eq_true h2]
        rfl
      refine ⟨_, rfl, iteF ?_⟩
      rw [e] at q
      refine ⟨_, rfl, rfl, _, rfl, ?_⟩
      by_cases hx0 : x = "0"
      · rw [decide_eq_true hx0] at q
        refine itYg (by rw [hx0]) ?_
        exact q _ sm
      · rw [decide_eq_false hx0] at q
        refine itNg (fun h => hx0 (V.str.inj h)) ⟨_, rfl, ⟨_, rfl⟩, _, _, rfl, rfl, _, rfl, ?_⟩
        exact q _ sm
end
end SQ9
/-! Sets of texts: set(a list of texts), sorted(such a set). -/
namespace SQ
open PySem PySem.Spec PyProof.Rows L2
/-- the text that a member is -/
def txK (e : Int × Value) : Str := match e.2 with
  | .str x _ => x
  | _ => ""
def IsTx (e : Int × Value) : Prop := ∃ x t, e.2 = Value.str x t
/-- the table of such a set can be walked -/
structure TxW (w : World) (D : Froz.SD) (l : List Str) : Prop where
  tx : ∀ e ∈ D.1.toList, IsTx e
  pm : (D.1.toList.map txK).Perm l
  nd : l.Nodup
  ris : Ris D.2.2.place.toList
  led : w.params.followText "set-order" = true ∨ D.2.2.led = true
theorem txw_tail {w : World} {ep : Nat} {es1 : Array (Int × Value)} {t2 : SetTable} {wd : Bool} {l : List Str} (W : TxW w (es1, ep, t2) l) : TxW w (Froz.tailTx ep es1 t2 wd) l := by
  unfold Froz.tailTx
  by_cases c : (!wd && t2.tooFull) = true
  · rw [if_pos c]
    have p := relayAll_perm t2 es1 (SetTable.grown es1.size)
    exact ⟨fun e he => W.tx e (p.mem_iff.mp he), (p.map txK).trans W.pm, W.nd, relayAll_ris t2 es1 _, W.led.imp id fun z => (relayAll_led t2 es1 _).trans z⟩
  · rw [if_neg c]
    exact ⟨W.tx, W.pm, W.nd, W.ris, W.led⟩
theorem txw_add {w : World} {D : Froz.SD} {l : List Str} {k : Str} (u : Tok) (W : TxW w D l) (hk : k ∉ l) : TxW w (Froz.addTx (hashStr w k) (.str k u) D) (k :: l) := by
  obtain ⟨es, ep, t⟩ := D
  have p := layNew_perm t es (hashStr w k) (.str k u)
  have r := layNew_ris t es (hashStr w k) (.str k u) W.ris
  have d := layNew_led t es (hashStr w k) (.str k u)
  rw [Array.toList_push] at p
  have q := p.trans (List.perm_append_singleton (hashStr w k, Value.str k u) es.toList)
  refine txw_tail ⟨fun e he => ?_, (q.map txK).trans (W.pm.cons k), List.nodup_cons.mpr ⟨hk, W.nd⟩, ?_, ?_⟩
  · rcases List.mem_cons.mp (q.mem_iff.mp he) with z | z
    · exact ⟨k, u, by rw [z]⟩
    · exact W.tx e z
  · show Ris (if (layNew t es (hashStr w k) (.str k u)).2.1.plain = true then _ else _ : SetTable).place.toList
    split <;> exact r
  · refine W.led.imp id fun z => ?_
    show (if (layNew t es (hashStr w k) (.str k u)).2.1.plain = true then _ else _ : SetTable).led = true
    split <;> exact d.trans z
/-- the set of the texts l at a -/
def SetS (P : Program) (w : World) (h : Heap) (a : Addr) (l : List Str) : Prop := ∃ D, h.get? a = some (Froz.sObj "set" D) ∧ Froz.TxOk P w D l ∧ TxW w D l
theorem SetS.at {P : Program} {w : World} {h h' : Heap} {a : Addr} {l : List Str} (R : SetS P w h a l) (k : ∀ o, h.get? a = some o → h'.get? a = some o) : SetS P w h' a l := by
  obtain ⟨D, e, r⟩ := R
  exact ⟨D, k _ e, r⟩
/-- one more -/
def one_more (l : List Str) (k : Str) : List Str := if k ∈ l then l else k :: l
def uniq (xs : List Str) : List Str := xs.foldl one_more []
theorem fold_mem (k : Str) : ∀ (xs l : List Str), k ∈ xs.foldl one_more l ↔ k ∈ l ∨ k ∈ xs
  | [], l => by simp
  | x :: xs, l => by
    rw [List.foldl_cons, fold_mem k xs]
    unfold one_more
    by_cases h : x ∈ l
    · rw [if_pos h, List.mem_cons]
      constructor
      · exact fun z => z.elim .inl fun y => .inr (.inr y)
      · rintro (z | z | z)
        · exact .inl z
        · exact .inl (z ▸ h)
        · exact .inr z
    · rw [if_neg h, List.mem_cons, List.mem_cons]
      constructor
      · rintro ((z | z) | z)
        · exact .inr (.inl z)
        · exact .inl z
        · exact .inr (.inr z)
      · rintro (z | z | z)
        · exact .inl (.inr z)
        · exact .inl (.inl z)
        · exact .inr z
theorem uniq_mem {k : Str} {xs : List Str} : k ∈ uniq xs ↔ k ∈ xs := by
  unfold uniq
  rw [fold_mem]
  simp
theorem fold_nd : ∀ (xs l : List Str), l.Nodup → (xs.foldl one_more l).Nodup
  | [], l, h => h
  | x :: xs, l, h => by
    rw [List.foldl_cons]
    refine fold_nd xs _ ?_
    unfold one_more
    by_cases z : x ∈ l
    · rw [if_pos z]
      exact h
    · rw [if_neg z]
      exact List.nodup_cons.mpr ⟨z, h⟩
theorem uniq_nd (xs : List Str) : (uniq xs).Nodup := fold_nd xs [] List.nodup_nil
theorem fold_len : ∀ (xs l : List Str), (xs.foldl one_more l).length ≤ l.length + xs.length
  | [], l => by simp
  | x :: xs, l => by
    rw [List.foldl_cons]
    have h := fold_len xs (one_more l x)
    have h2 : (one_more l x).length ≤ l.length + 1 := by
      unfold one_more
      split
      · omega
      · simp
    rw [List.length_cons]
    omega
theorem uniq_len (xs : List Str) : (uniq xs).length ≤ xs.length := by
  have h := fold_len xs []
  simpa [uniq] using h
theorem uniq_take {xs : List Str} {i : Nat} {k : Str} (h : xs[i]? = some k) : uniq (xs.take (i + 1)) = one_more (uniq (xs.take i)) k := by
  unfold uniq
  rw [List.take_add_one, h, List.foldl_append]
  rfl
section
variable {P : Program} {w : World} {A : Around} {E : Value → Shared → Prop} {s : Shared} {a : Addr} {l : List Str}
theorem setS_there {k : Str} {u : Tok} {Q : Bool → Shared → Prop} (R : SetS P w s.heap a l) (hk : k ∈ l) (room : l.length < scanBound) (h : Q false s) : wpAny (model P w) A (setAddHashed a (.str k u) (hashStr w k)) Q E s := by
  obtain ⟨⟨es, ep, t⟩, ho, F, W⟩ := R
  have hd : (Froz.sObj "set" (es, ep, t)).data = .set es ep t := rfl
  have hel : ElemsOf (PySem.strKind P w) es.toList := F.el
  have hsz : es.size = l.length := F.sz
  obtain ⟨e0, m0, z0⟩ := (F.mem k).mp hk
  unfold setAddHashed setAddHashedIn
  refine wpAny_holding (wpAny_bind (wpAny_setState_of ho hd F.fit ?_))
  dsimp only
  rw [byScan_of rfl (by rw [hsz]; exact room) hel]
  simp only [↓reduceIte]
  unfold setAddByScan
  refine wpAny_bind (wpAny_bind (wpAny_rule (wpAny_bind (wpAny_setScan_of (knd := PySem.strKind P w) (k := k) (Froz.is_str k u) ho hd F.fit hel ?_))))
  cases hf : List.findIdx? (fun e => (PySem.strKind P w).is k e.2) es.toList with
  | none =>
    have c := List.findIdx?_eq_none_iff.mp hf e0 m0
    rw [z0] at c
    cases c
  | some j =>
    dsimp only
    exact wpAny_pure (wpAny_pure h)
theorem setS_add {k : Str} {u : Tok} {Q : Bool → Shared → Prop} (R : SetS P w s.heap a l) (room : l.length + 1 < scanBound)
    (h : ∀ b h', Heap.SameBut a s.heap h' → SetS P w h' a (one_more l k) → Q b { s with heap := h' }) : wpAny (model P w) A (setAddHashed a (.str k u) (hashStr w k)) Q E s := by
  unfold one_more at h
  by_cases hk : k ∈ l
  · rw [if_pos hk] at h
    exact setS_there R hk (by omega) (h false s.heap (Heap.SameBut.refl a s.heap) R)
  · rw [if_neg hk] at h
    obtain ⟨D, ho, F, W⟩ := R
    refine Froz.add_x ho F hk room (h true _ (Heap.SameBut.update ..) ⟨_, Froz.get_upd _ ho rfl, Froz.add_ok u F, txw_add u W hk⟩)
/-- the loop of the making -/
theorem fill_texts {I : Addr} {fp wr : List Addr} {G : Array GenState → Array GenState → Prop} {n : Nat} {Pv : Nat → Value → Prop} {St : Nat → Shared → Prop} {R : Result → Shared → Prop}
    (W : WalksS P w A.in1 I fp wr G n Pv St) (S : Addr) (hSf : S ∉ fp) (xs : List Str) (hn : n = xs.length) (hb : xs.length + 1 < scanBound) (hval : ∀ i v, Pv i v → ∃ k t, xs[i]? = some k ∧ v = .str k t) :
    ∀ (j i : Nat) (s : Shared), n - i = j → i ≤ n → St i s → SetS P w s.heap S (uniq (xs.take i)) →
      (∀ s', Moved (S :: wr) G s s' → SetS P w s'.heap S (uniq xs) → R (.ok (.ret .none)) s') →
      codeAny (model P w) A (.builtin "set.update.loop" ⟨[.ref S, .ref I], []⟩) R s := by
  have out : S ∉ wr := fun z => hSf (W.sub _ z)
  have sub : ∀ b ∈ wr, b ∈ S :: wr := fun b z => List.mem_cons_of_mem _ z
  intro j
  induction j with
  | zero =>
    intro i s ej hi st R0 k
    obtain rfl : i = n := by omega
    refine codeAny_builtin F.entry_set_update_loop ?_
    rw [Around.under_plainId F.plain_set_update_loop _]
    refine wpAny_bind (W.done s _ _ st fun s' mv => ?_)
    rw [List.take_of_length_le (by omega)] at R0
    exact wpAny_pure (k s' (mv.mono sub) (R0.at fun o e => mv.heap S o out e))
  | succ j ih =>
    intro i s ej hi st R0 k
    have lt : i < n := by omega
    refine codeAny_builtin F.entry_set_update_loop ?_
    rw [Around.under_plainId F.plain_set_update_loop _]
    refine wpAny_bind (W.item i s _ _ lt st fun v s' pv st' mv => ?_)
    obtain ⟨x, t, hx, rfl⟩ := hval i v pv
    have R1 : SetS P w s'.heap S (uniq (xs.take i)) := R0.at fun o e => mv.heap S o out e
    have ll := uniq_len (xs.take i)
    rw [List.length_take] at ll
    refine wpAny_bind (m := holding [Value.str x t] (setAdd S (.str x t))) (wpAny_holding ?_)
    unfold setAdd
    refine wpAny_holding (wpAny_bind ((PySem.strKind P w).pyHash (k := x) (Froz.is_str x t) ?_))
    refine setS_add (s := { s' with toks := s'.toks + 1 }) R1 (by omega) fun b h' sb R2 => ?_
    rw [← uniq_take hx] at R2
    refine wpAny_pure ⟨plainId_quiet F.plain_set_update_loop _, ih (i + 1) _ (by omega) lt (W.frame _ s' _ _ st' (Nat.le_succ _) fun c hc o e => ?_) R2 fun s2 mv2 R3 => k s2 (Moved.trans W.gtrans ((mv.mono sub).then_heap (Nat.le_succ _) fun c o hc e => ?_) mv2) R3⟩
    · exact (sb.2 c fun z => hSf (z ▸ hc)).trans e
    · exact (sb.2 c fun z => hc (z ▸ List.mem_cons_self)).trans e
abbrev newSet (w : World) : Obj := { cls := .type "set", dict := none, data := .set #[] 0 (.fresh 0 0 (!w.params.followText "set-order")) }
theorem setS_new {h : Heap} {xs : List Str} (e : h.get? a = some (newSet w)) : SetS P w h a (uniq (xs.take 0)) := by
  refine ⟨(#[], 0, .fresh 0 0 (!w.params.followText "set-order")), e, Froz.TxOk.nil rfl, fun e he => by simp at he, List.Perm.refl _, List.nodup_nil, List.Pairwise.nil, ?_⟩
  show _ ∨ (!w.params.followText "set-order") = true
  cases w.params.followText "set-order"
  · exact .inr rfl
  · exact .inl rfl
end
end SQ
namespace SQ
open PySem PySem.Spec PyProof.Rows L2
section
variable {P : Program} {w : World} {A : Around} {E : Value → Shared → Prop} {s : Shared}
end
end SQ
namespace SQ
open PySem PySem.Spec PyProof.Rows L2
section
variable {P : Program} {w : World} {A : Around} {E : Value → Shared → Prop} {s : Shared}
set_option maxHeartbeats 8000000 in
end
/-- the set in the layer's heap -/
def SetSO (P : Program) (w : World) (a : Addr) (l : List Str) : HO := .ext fun h => SetS P w h a l
section
variable {X : Cx}
end
end SQ
/-! set(a text), len(a set of texts). -/
namespace SQ
open PySem PySem.Spec PyProof.Rows L2
/-- the signs of a text, each as a text -/
def signs1 (x : Str) : List Str := x.cps.toList.map fun c => ⟨#[c]⟩
theorem signs1_len (x : Str) : (signs1 x).length = x.cps.size := by
  unfold signs1
  rw [List.length_map, Array.length_toList]
theorem signs1_at {x : Str} {i : Nat} {c : Nat} (h : x.cps[i]? = some c) : (signs1 x)[i]? = some ⟨#[c]⟩ := by
  unfold signs1
  rw [List.getElem?_map, Array.getElem?_toList, h]
  rfl
section
variable {P : Program} {w : World} {A : Around} {E : Value → Shared → Prop} {s : Shared}
/-- set.__init__ over a text -/
theorem init_text {a : Addr} {x : Str} {t : Tok} {R : Value → Shared → Prop} (hh : A.handled = none) (ha : s.heap.get? a = some (newSet w)) (hb : x.cps.size + 1 < scanBound)
    (h : ∀ h' tk, SetS P w h' a (uniq (signs1 x)) → (∀ b o, b ≠ a → s.heap.get? b = some o → h'.get? b = some o) → R .none { s with heap := h', toks := tk }) :
    codeAny (model P w) A (.call (.builtin "set.__init__") ⟨[.ref a, .str x t], []⟩) (wants R E) s := by
  have T : s.TypeIs (.ref a) "set" := ⟨_, ha, rfl⟩
  refine codeAny_call_builtin F.called_set.init.plain F.entry_set_init (check_set_init_1 T ?_)
  have n1 : isSubtype (.type "str") (.type "set") = pure false := by rw [isSubtype_type]; kernel_rfl
  have n2 : isSubtype (.type "str") (.type "frozenset") = pure false := by rw [isSubtype_type]; kernel_rfl
  have n3 : (Value.type "str" == Value.type "dict") = false := by decide
  unfold Builtin.«set.__init__» noKeywords Builtin.Frozenset.updateFrom
  generalize hPI : pyIter = PI
  wp_walk
  subst hPI
  have h1 : A.in1.in1.handled = none := by simp [hh]
  have hal1 : a < s.heap.objs.size := Heap.lt_size ha
  refine wpAny_pyIter_str fun o St W st0 => wpAny_bind (wpAny_runValue ?_)
  refine fill_texts ((W A.in1.in1 h1).toS) a (by
    simp only [List.mem_cons, List.not_mem_nil, or_false]
    exact Nat.ne_of_lt hal1) (signs1 x) (signs1_len x).symm (by rw [signs1_len]; exact hb) (fun i v z => by
      obtain ⟨c, u, hc, rfl⟩ := z
      exact ⟨_, _, signs1_at hc, rfl⟩) (x.cps.size - 0) 0 _ rfl (Nat.zero_le _)
    st0 (setS_new (Heap.get?_push_of_some _ ha)) fun s' mv R1 => ?_
  obtain ⟨h', g', d', tk', os'⟩ := s'
  obtain rfl : g' = s.gens := mv.gens
  obtain rfl : d' = s.drawn := mv.drawn
  obtain rfl : os' = s.os := mv.os
  show wpAny _ _ _ _ _ _
  refine wpAny_pure (wpAny_pure (h h' tk' R1 fun b o hb0 e => ?_))
  refine mv.heap b o ?_ (Heap.get?_push_of_some _ e)
  simp only [List.mem_cons, List.not_mem_nil, or_false, not_or]
  exact ⟨hb0, Nat.ne_of_lt (Heap.lt_size e)⟩
set_option maxHeartbeats 8000000 in
theorem call_setT {x : Str} {t : Tok} {Q : Value → Shared → Prop} (hh : A.handled = none) (hb : x.cps.size + 1 < scanBound)
    (h : ∀ h' tk, SetS P w h' s.heap.objs.size (uniq (signs1 x)) → (∀ b o, s.heap.get? b = some o → h'.get? b = some o) → Q (.ref s.heap.objs.size) { s with heap := h', toks := tk }) :
    wpAny (model P w) A (call (.type "set") [.str x t]) Q E s := by
  obtain ⟨c, tl, m1⟩ := F.called_set.mro
  have m2 := F.called_set.made
  have m3 := F.called_set.sub
  have m4 := F.called_set.notType
  have m5 := F.called_set.canCreate
  have m6 := F.typeCall_set_1 (.str x t)
  refine wpAny_call (codeAny_of_tree ?_)
  show wpAny _ _ (callAny (.type "set") _) _ _ _
  refine wpAny_pure ⟨Code.quiet_builtin _ (by decide +kernel), codeAny_builtin F.entry_type_call ?_⟩
  rw [Around.under_plain (weight_type_call_type "set" [.str x t] []) rfl]
  repeat (any_goals (first | assumption | wp_step))
  refine codeAny_mono (code_set_led1 (.str x t) (E := E) (Q₁ := fun o t => o = .ref s.heap.objs.size ∧ t = { s with heap := s.heap.push (newSet w) }) ⟨rfl, rfl⟩) fun r t hr => ?_
  rcases r with e | (_ | _ | _ | o)
  · exact hr
  · exact hr.elim
  · exact hr.elim
  · exact hr.elim
  obtain ⟨rfl, rfl⟩ := hr
  have got : (s.heap.push (newSet w)).get? s.heap.objs.size = some (newSet w) := Heap.get?_push_size _ rfl
  have T : Shared.TypeIs { s with heap := s.heap.push (newSet w) } (.ref s.heap.objs.size) "set" := ⟨_, got, rfl⟩
  have n1 := F.called_set.init.lookup
  have n2 := F.called_set.init.bind (.ref s.heap.objs.size)
  repeat (any_goals (first | assumption | wp_step))
  refine codeAny_mono (init_text (s := { s with heap := s.heap.push (newSet w) }) (E := E) (R := fun r t => r = .none ∧ ∃ h' tk, t = { s with heap := h', toks := tk } ∧ SetS P w h' s.heap.objs.size (uniq (signs1 x)) ∧ ∀ b o, s.heap.get? b = some o → h'.get? b = some o)
    (by simp [hh]) got hb fun h' tk S1 kp => ⟨rfl, h', tk, rfl, S1, fun b o e => kp b o (Nat.ne_of_lt (Heap.lt_size e)) (Heap.get?_push_of_some _ e)⟩) fun r t hr => ?_
  rcases r with e | (_ | _ | _ | v)
  · exact hr
  · exact hr.elim
  · exact hr.elim
  · exact hr.elim
  obtain ⟨rfl, h', tk, rfl, S1, kp⟩ := hr
  repeat (any_goals (first | assumption | wp_step))
  exact h h' tk S1 kp
end
section
variable {X : Cx}
/-- set(text) -/
def rSetT (P : Program) (w : World) : List V → Hp → VK → Prop := fun vs H Q => ∃ x : Str, vs = [.str x] ∧ x.cps.size ≤ 1000 ∧ ∀ p, H p = none → Q (.ref p) (upd H p (SetSO P w p (uniq (signs1 x))))
theorem cr_setT (hc : X.calm = true) : CallR X (.type "set") (rSetT X.prog X.w) := by
  intro pins s σ H vs us Q I r h
  obtain ⟨x, rfl, hl, q⟩ := h
  obtain ⟨u, rfl, hu⟩ : ∃ u, us = [u] ∧ RelV (.str x) u := by
    cases r with
    | cons a b => cases b; exact ⟨_, rfl, a⟩
  obtain ⟨t, rfl⟩ := hu
  refine call_setT (I.ok.hd hc) (by unfold scanBound; omega) fun h' tk S1 kp => ?_
  have ob : ObjOk X.prog X.w (upd H s.heap.objs.size (SetSO X.prog X.w s.heap.objs.size (uniq (signs1 x)))) h' s.heap.objs.size (SetSO X.prog X.w s.heap.objs.size (uniq (signs1 x))) := by
    obtain ⟨D, e, _⟩ := id S1
    exact ⟨S1, ⟨_, e⟩, fun h1 h2 p k => p.at k⟩
  exact ⟨.ref _, _, I.laid (t' := tk) kp (Nat.le_refl _) ob, rfl, q _ (I.hok.fresh (Nat.le_refl _))⟩
/-- len(such a set) -/
def rLenS (P : Program) (w : World) : List V → Hp → VK → Prop := fun vs H Q => ∃ (a : Addr) (l : List Str), vs = [.ref a] ∧ H a = some (SetSO P w a l) ∧ l.length ≤ 1000 ∧ Q (.int (l.length : Nat)) H
theorem cr_lenS : CallR X (.builtin "len") (rLenS X.prog X.w) := by
  intro pins s σ H vs us Q I r h
  obtain ⟨a, l, rfl, hs, hl, q⟩ := h
  rw [Vals.ref1 r]
  have R : SetS X.prog X.w s.heap a l := (I.hok a _ hs).1
  obtain ⟨⟨es, ep, t⟩, ho, F, W⟩ := R
  have e : es.size = l.length := F.sz
  refine call_len_set ho ⟨rfl, rfl, rfl⟩ rfl F.fit (by rw [e]; omega) ⟨.int (l.length : Nat), H, I.tok _, ⟨_, by rw [e]⟩, q⟩
end
end SQ
namespace SQ9
open PySem L2 SQ
abbrev sSh : Stmt := top 40
/-- what lies between the brackets of a shuffle, cut at its dash -/
def shParts (x : Str) : Str × Str × Str := Txt.partition (cutS x (some 1) (some (-1))) "-"
def lettersG : List Nat := ("abcdefghijklmnopqrstuvwxyz" : Str).cps.toList
/-- the letters before and after the dash, if it is a shuffle -/
def shuf (x : Str) : Option (Str × Str) :=
  if Txt.startswith x "(" = false then none
  else if Txt.endswith x ")" = false then none
  else if (shParts x).2.1 = "" then none
  else if 5 < (shParts x).1.length then none
  else if 8 < (shParts x).2.2.length then none
  else if (uniq (signs1 (shParts x).1)).length < (shParts x).1.length then none
  else if ((shParts x).1.cps.toList.all fun c => decide (c ∈ lettersG)) = false then none
  else if ((shParts x).2.2.cps.toList.all fun c => decide (c ∈ (shParts x).1.cps.toList)) = false then none
  else some ((shParts x).1, (shParts x).2.2)
theorem strSub_len (x : Str) (i j : Nat) : (PySem.Builtin.Str.strSub x i j).length ≤ x.length := by
  rw [TL.len_tl, TL.tl_strSub, List.length_take, List.length_drop, TL.len_tl x]
  omega
theorem partition_len (a b : Str) : (Txt.partition a b).1.length ≤ a.length ∧ (Txt.partition a b).2.2.length ≤ a.length := by
  unfold Txt.partition
  cases Builtin.Str.occurrences a b 0 a.length 1 with
  | nil => exact ⟨Nat.le_refl _, Nat.zero_le _⟩
  | cons i r => exact ⟨strSub_len _ _ _, strSub_len _ _ _⟩
theorem shuf_def (x : Str) : shuf x = if Txt.startswith x "(" = false then none
  else if Txt.endswith x ")" = false then none
  else if (shParts x).2.1 = "" then none
  else if 5 < (shParts x).1.length then none
  else if 8 < (shParts x).2.2.length then none
  else if (uniq (signs1 (shParts x).1)).length < (shParts x).1.length then none
  else if ((shParts x).1.cps.toList.all fun c => decide (c ∈ lettersG)) = false then none
  else if ((shParts x).2.2.cps.toList.all fun c => decide (c ∈ (shParts x).1.cps.toList)) = false then none
  else some ((shParts x).1, (shParts x).2.2) := rfl
structure WSh (mg : Str → Option Value) : Prop where
  set : mg "set" = none
  mt : ∃ t, mg "MOST_TAKEN" = some (.int 5 t)
  ml : ∃ t, mg "MOST_LEFT" = some (.int 8 t)
section
variable {P : Program} {w : World} {K : PySem.W.Frag} {mg : Str → Option Value} {base : Heap}
def ShAt (H : Hp) (v : V) : Option (Str × Str) → Prop
  | none => v = .non
  | some (a, b) => ∃ t, v = .ref t ∧ H t = some (.tup [.str a, .str b])
def spSh : Sp := fun vs H Q _ => ∃ x : Str, vs = [.str x] ∧ x.length ≤ sizeLine ∧ ∀ v H', Same H H' → ShAt H' v (shuf x) → Q v H'
theorem scSh : FnScope ["token", "taken", "dash", "left", "letter"] ["token"] (defScope sSh) := ⟨rfl, rfl, rfl, by decide +kernel, rfl, by decide +kernel, by decide +kernel⟩
theorem ok_sh {f : Addr} {fd : FuncData} (F : Fun K "split_shuffle" "split_shuffle" sSh f fd) (B : B2 mg) (W : WSh mg) : FnOk P w K mg base CX0 1 f fd ["token"] spSh := by
  refine F.ok scSh (fun vs H Q E h => ?_) (fun cdv A outer s H vs Q E hr h => ?_)
  · obtain ⟨x, rfl, _⟩ := h
    rfl
  · obtain ⟨x, rfl, hx, q⟩ := h
    obtain ⟨t1, g1⟩ := W.mt
    obtain ⟨t2, g2⟩ := W.ml
    obtain ⟨t3, g3⟩ := B.lets
    refine ⟨_, pss_cons (ps_if (PW.pt (pw_or (pt_not (pt_val (pe_m1 PySem.F.slot_str_startswith PySem.F.type_str_startswith mt_startswith (pv 0) pe_str))) (pw_or1 (pt_not (pt_val (pe_m1 PySem.F.slot_str_endswith PySem.F.type_str_endswith mt_endswith (pv 0) pe_str)))))) (pss_one (ps_ret pe_non)) pss_nil)
      (pss_cons (ps_asg (pe_partition (pe_slice sl_str (pv 0) (po_some pe_int) (po_some (pe_un un_neg pe_int))) pe_str) (pg_tup rfl (pgs_cons (pg_name (i := 1) scSh.nd rfl (.inr rfl)) (pgs_cons (pg_name (i := 2) scSh.nd rfl (.inl rfl)) (pgs_cons (pg_name (i := 3) scSh.nd rfl (.inl rfl)) pgs_nil)))))
      (pss_cons (ps_if (PW.pt (pw_or (pt_cmpR op_eq (pv 2) pe_str (by rfl)) (pw_or (pt_cmpR op_gt (pe_callB call_len_str (by rfl) B.len PySem.boot_len (pa_cons (pv 1) pa_nil)) (pe_glob (v := .int 5) rfl g1 ⟨_, rfl⟩) (nomark _)) (pw_or1 (pt_cmpR op_gt (pe_callB call_len_str (by rfl) B.len PySem.boot_len (pa_cons (pv 3) pa_nil)) (pe_glob (v := .int 8) rfl g2 ⟨_, rfl⟩) (nomark _)))))) (pss_one (ps_ret pe_non)) pss_nil)
      (pss_cons (ps_if (PW.pt (pw_or (pt_cmpR op_lt (pe_callB cr_lenS (by rfl) B.len PySem.boot_len (pa_cons (pe_callTy (cr_setT rfl) (by rfl) W.set (by decide +kernel) (pa_cons (pv 1) pa_nil)) pa_nil)) (pe_callB call_len_str (by rfl) B.len PySem.boot_len (pa_cons (pv 1) pa_nil)) (nomark _))
          (pw_or1 (pt_not (pt_val (pe_callB (cr_all rfl) (by rfl) B.all (by decide +kernel) (pa_cons (pe_lc (own := [("letter", 4)]) (g := gName 4) (tt := tYes) rfl scSh.nd (pi_str (pv 1)) (blkOk_by (N := ["token", "taken", "dash", "left", "letter"]) (sc := defScope sSh) (by decide +kernel)) (fun _ _ _ _ _ => pg_name (i := 4) scSh.nd rfl (.inl rfl)) (fun _ _ _ _ _ => pts_nil)
            (fun _ _ _ _ _ => pe_cmpR op_in_sign (pv 4) (pe_glob (v := .str "abcdefghijklmnopqrstuvwxyz") rfl g3 ⟨_, rfl⟩) rfl)) pa_nil))))))) (pss_one (ps_ret pe_non)) pss_nil)
      (pss_cons (ps_if (pt_not (pt_val (pe_callB (cr_all rfl) (by rfl) B.all (by decide +kernel) (pa_cons (pe_lc (own := [("letter", 4)]) (g := gName 4) (tt := tYes) rfl scSh.nd (pi_str (pv 3)) (blkOk_by (N := ["token", "taken", "dash", "left", "letter"]) (sc := defScope sSh) (by decide +kernel)) (fun _ _ _ _ _ => pg_name (i := 4) scSh.nd rfl (.inl rfl)) (fun _ _ _ _ _ => pts_nil)
            (fun _ _ _ _ _ => pe_cmpR op_in_sign (pv 4) (pv 1) rfl)) pa_nil)))) (pss_one (ps_ret pe_non)) pss_nil)
      (pss_one (ps_ret (pe_tup (pa_cons (pv 1) (pa_cons (pv 3) pa_nil))))))))), ?_⟩
    have sh0 := shuf_def x
    have q0 : shuf x = none → ∀ H', Same H H' → Q .non H' := fun e H' s1 => q .non H' s1 (by rw [e]; exact rfl)
    refine ⟨_, rfl, ⟨_, rfl⟩, _, _, rfl, rfl, _, rfl, ?_⟩
    cases h1 : Txt.startswith x "("
    case false =>
      refine iteT (iteT (q0 (by rw [sh0, if_pos h1]) H (Same.refl H)))
    rw [if_neg (by rw [h1]; decide)] at sh0
    refine iteF ⟨_, rfl, ⟨_, rfl⟩, _, _, rfl, rfl, _, rfl, ?_⟩
    cases h2 : Txt.endswith x ")"
    case false =>
      refine iteT (q0 (by rw [sh0, if_pos h2]) H (Same.refl H))
    rw [if_neg (by rw [h2]; decide)] at sh0
    refine iteF ?_
    have hc : (cutS x (some 1) (some (-1))).length ≤ sizeLine := Nat.le_trans (cutS_length x _ _) hx
    refine ⟨_, rfl, _, rfl, _, rfl, _, rfl, _, rfl, hx, ⟨_, rfl⟩, _, _, rfl, rfl, by decide +kernel, hc, fun p np => ?_⟩
    obtain ⟨l1, l2⟩ := partition_len (cutS x (some 1) (some (-1))) "-"
    have sp : Txt.partition (cutS x (some 1) (some (-1))) "-" = shParts x := rfl
    rw [sp] at l1 l2 ⊢
    generalize shParts x = ps at sh0 l1 l2 ⊢
    obtain ⟨a, d, b⟩ := ps
    dsimp only at sh0 l1 l2 ⊢
    have la : a.length ≤ sizeLine := Nat.le_trans l1 hc
    have lb : b.length ≤ sizeLine := Nat.le_trans l2 hc
    have s1 : Same H (upd H p (.tup [.str a, .str d, .str b])) := same_new (fun _ _ e => e) np
    have hp : upd H p (.tup [.str a, .str d, .str b]) p = some (.tup [.str a, .str d, .str b]) := upd_same
    generalize upd H p (.tup [.str a, .str d, .str b]) = H1 at s1 hp ⊢
    refine ⟨p, _, rfl, SqT.of hp, rfl, _, _, rfl, _, _, rfl, _, _, rfl, rfl, ?_⟩
    refine ⟨_, rfl, rfl, _, rfl, ?_⟩
    by_cases h3 : d = ""
    case pos =>
      exact itYg (by rw [h3]) (iteT (q0 (by rw [sh0, if_pos h3]) H1 s1))
    rw [if_neg h3] at sh0
    refine itNg (fun h => h3 (V.str.inj h)) ?_
    refine ⟨_, rfl, _, rfl, la, _, _, rfl, rfl, _, rfl, ?_⟩
    by_cases h4 : 5 < a.length
    case pos =>
      exact itYg (by omega) (iteT (q0 (by rw [sh0, if_pos h4]) H1 s1))
    rw [if_neg h4] at sh0
    refine itNg (by omega) ?_
    refine ⟨_, rfl, _, rfl, lb, _, _, rfl, rfl, _, rfl, ?_⟩
    by_cases h5 : 8 < b.length
    case pos =>
      exact itYg (by omega) (q0 (by rw [sh0, if_pos h5]) H1 s1)
    rw [if_neg h5] at sh0
    refine itNg (by omega) ?_
    have sa : a.cps.size = a.length := rfl
    have ul : (uniq (signs1 a)).length ≤ a.length := by
      have := uniq_len (signs1 a)
      rw [signs1_len] at this
      exact this
    refine ⟨_, rfl, a, rfl, by omega, fun m nm => ?_⟩
    have s2 : Same H1 (upd H1 m (SetSO P w m (uniq (signs1 a)))) := same_new (fun _ _ e => e) nm
    refine ⟨m, _, rfl, upd_same, by omega, ?_⟩
    refine ⟨_, rfl, _, rfl, la, _, _, rfl, rfl, _, rfl, ?_⟩
    by_cases h6 : (uniq (signs1 a)).length < a.length
    case pos =>
      exact itYg (by omega) (iteT (q0 (by rw [sh0, if_pos h6]) _ (st s1 s2)))
    rw [if_neg h6] at sh0
    refine itNg (by omega) ?_
    have al : a.cps.toList.length ≤ 5 := by rw [Array.length_toList]; omega
    have bl : b.cps.toList.length ≤ 8 := by
      have : b.cps.size = b.length := rfl
      rw [Array.length_toList]; omega
    refine ⟨_, rfl, a, rfl, fun D hD => ?_⟩
    refine lc_it (walk_str (z := a)) (fun i H2 => H2 = upd (upd H1 m (SetSO P w m (uniq (signs1 a)))) D (.lst (((a.cps.toList.take i).map fun c => decide (c ∈ lettersG)).map V.bl))) rfl (fun _ _ _ _ => trivial) ?_ ?_
    · rintro i v H2 H3 hi rfl ⟨rfl, c, hc, rfl⟩
      refine ⟨rfl, keptT ⟨_, rfl, c, _, rfl, rfl, _, upd_same, small1000 ?_, ?_⟩⟩
      · rw [List.length_map, List.length_map, List.length_take]
        omega
      · have e2 : a.cps.toList.take (i + 1) = a.cps.toList.take i ++ [c] := by
          rw [List.take_add_one]
          have : a.cps.toList[i]? = some c := by simpa using hc
          rw [this]
          rfl
        rw [upd_upd, e2, List.map_append, List.map_append]
        rfl
    rintro H2 rfl
    refine ⟨D, _, rfl, SqL.of upd_same, ?_⟩
    have ea : ((a.cps.toList.take a.cps.size).map fun c => decide (c ∈ lettersG)).all id = a.cps.toList.all fun c => decide (c ∈ lettersG) := by
      rw [List.take_of_length_le (by simp), List.all_map]
      rfl
    rw [ea]
    have s3 : Same H (upd (upd H1 m (SetSO P w m (uniq (signs1 a)))) D (.lst (((a.cps.toList.take a.cps.size).map fun c => decide (c ∈ lettersG)).map V.bl))) := same_new (st s1 s2) hD
    generalize upd (upd H1 m (SetSO P w m (uniq (signs1 a)))) D (.lst (((a.cps.toList.take a.cps.size).map fun c => decide (c ∈ lettersG)).map V.bl)) = H3 at s3 ⊢
    cases h7 : a.cps.toList.all fun c => decide (c ∈ lettersG)
    case false => exact ⟨_, rfl, iteT (q0 (by rw [sh0, if_pos h7]) _ s3)⟩
    rw [if_neg (by rw [h7]; decide)] at sh0
    refine ⟨_, rfl, iteF ?_⟩
    refine ⟨_, rfl, b, rfl, fun D2 hD2 => ?_⟩
    refine lc_it (walk_str (z := b)) (fun i H2 => H2 = upd H3 D2 (.lst (((b.cps.toList.take i).map fun c => decide (c ∈ a.cps.toList)).map V.bl))) rfl (fun _ _ _ _ => trivial) ?_ ?_
    · rintro i v H2 H4 hi rfl ⟨rfl, c, hc, rfl⟩
      refine ⟨rfl, keptT ⟨_, rfl, _, rfl, c, _, rfl, rfl, _, upd_same, small1000 ?_, ?_⟩⟩
      · rw [List.length_map, List.length_map, List.length_take]
        omega
      · have e2 : b.cps.toList.take (i + 1) = b.cps.toList.take i ++ [c] := by
          rw [List.take_add_one]
          have : b.cps.toList[i]? = some c := by simpa using hc
          rw [this]
          rfl
        rw [upd_upd, e2, List.map_append, List.map_append]
        rfl
    rintro H2 rfl
    refine ⟨D2, _, rfl, SqL.of upd_same, ?_⟩
    have eb : ((b.cps.toList.take b.cps.size).map fun c => decide (c ∈ a.cps.toList)).all id = b.cps.toList.all fun c => decide (c ∈ a.cps.toList) := by
      rw [List.take_of_length_le (by simp), List.all_map]
      rfl
    rw [eb]
    have s4 : Same H (upd H3 D2 (.lst (((b.cps.toList.take b.cps.size).map fun c => decide (c ∈ a.cps.toList)).map V.bl))) := same_new s3 hD2
    generalize upd H3 D2 (.lst (((b.cps.toList.take b.cps.size).map fun c => decide (c ∈ a.cps.toList)).map V.bl)) = H4 at s4 ⊢
    cases h8 : b.cps.toList.all fun c => decide (c ∈ a.cps.toList)
    case false => exact ⟨_, rfl, iteT (q0 (by rw [sh0, if_pos h8]) _ s4)⟩
    rw [if_neg (by rw [h8]; decide)] at sh0
    refine ⟨_, rfl, iteF ?_⟩
    refine ⟨_, rfl, _, rfl, (by show 2 ≤ sizeLine; decide), fun r nr => ?_⟩
    refine q _ _ (same_new s4 nr) ?_
    rw [sh0]
    exact ⟨r, rfl, upd_same⟩
end
end SQ9
namespace SQ9
open PySem L2 SQ
theorem itY {c A B : Prop} [Decidable c] (hc : c) (h : A) : if decide c = true then A else B := by
  rw [if_pos (decide_eq_true hc)]
  exact h
theorem itN {c A B : Prop} [Decidable c] (hc : ¬ c) (h : B) : if decide c = true then A else B := by
  rw [decide_eq_false hc]
  exact iteF h
section
variable {P : Program} {w : World} {K : PySem.W.Frag} {mg : Str → Option Value} {base : Heap} {C tC fA : Addr} {dA : FuncData}
/-! ### is_literal of "5" -/
/-! ### read_word of "t" and of "5" -/
theorem scWd : FnScope ["token", "vocabulary", "letters", "taken", "left", "letter"] ["token", "vocabulary"] (defScope sWd) := ⟨rfl, rfl, rfl, by decide +kernel, rfl, by decide +kernel, by decide +kernel⟩
end
end SQ9
namespace SQ9
open PySem L2 SQ
theorem starts_minus {x : Str} (h : Txt.startswith x "-" = true) : ∃ cs, x.cps.toList = 45 :: cs ∧ (cutS x (some 1) none).cps.toList = cs := by
  unfold Txt.startswith at h
  rw [Bool.and_eq_true, PySem.StrLaws.subAt_eq, List.drop_zero] at h
  have e := eq_of_beq h.2
  have e1 : ("-" : Str).cps.toList = [45] := by decide +kernel
  have e2 : ("-" : Str).length = 1 := by decide +kernel
  rw [e1, e2] at e
  cases hx : x.cps.toList with
  | nil =>
    rw [hx] at e
    cases e
  | cons c cs =>
    rw [hx] at e
    have ec : c = 45 := by simpa using e
    subst ec
    refine ⟨cs, rfl, ?_⟩
    have ln : x.length = cs.length + 1 := by
      show x.cps.size = _
      rw [← Array.length_toList, hx]
      rfl
    show (((x.cps.toList.drop (HT.sIx x.length 0 (some 1))).take (HT.sIx x.length x.length none - HT.sIx x.length 0 (some 1))).toArray).toList = cs
    have s1 : HT.sIx x.length 0 (some 1) = 1 := by
      rw [show (1 : Int) = ((1 : Nat) : Int) from rfl, HT.sIx_nat]
      omega
    rw [s1, HT.sIx_none, hx, ln]
    show (cs.take (cs.length + 1 - 1)) = cs
    rw [Nat.add_sub_cancel, List.take_length]
theorem figs_digits {l : List Nat} (h : (l.all fun c => decide (c ∈ figsG)) = true) : NumText.AllDigits l := by
  intro c hc
  have := List.all_eq_true.mp h c hc
  have m : c ∈ figsG := of_decide_eq_true this
  unfold figsG at m
  simp only [List.mem_cons, List.not_mem_nil, or_false] at m
  omega
theorem lit_int {x : Str} (h : isLit x = true) : ∃ n, PySem.intText? x = some n ∧ x.length ≤ 19 := by
  unfold isLit at h
  rw [Bool.and_eq_true, Bool.and_eq_true, Bool.and_eq_true] at h
  obtain ⟨⟨⟨h1, h2⟩, h3⟩, _⟩ := h
  have h1 := of_decide_eq_true h1
  have h2 := of_decide_eq_true h2
  cases hs : Txt.startswith x "-"
  · have fe : figOf x = x := by unfold figOf; rw [hs]; rfl
    rw [fe] at h1 h2 h3
    refine ⟨_, intText_digits (figs_digits h3) ?_ (by omega), by omega⟩
    intro e
    have : x.length = 0 := by
      show x.cps.size = 0
      rw [← Array.length_toList, e]
      rfl
    omega
  · have fe : figOf x = cutS x (some 1) none := by unfold figOf; rw [hs]; rfl
    rw [fe] at h1 h2 h3
    obtain ⟨cs, e1, e2⟩ := starts_minus hs
    rw [e2] at h3
    have ln : x.length = cs.length + 1 := by
      show x.cps.size = _
      rw [← Array.length_toList, e1]
      rfl
    have lc : (cutS x (some 1) none).length = cs.length := by
      show (cutS x (some 1) none).cps.size = _
      rw [← Array.length_toList, e2]
    rw [lc] at h1 h2
    refine ⟨_, intText_neg e1 (figs_digits h3) ?_ (by omega), by omega⟩
    intro e
    rw [e] at h1
    exact absurd h1 (by decide)
theorem occ_one {a : Str} {c : Nat} (h : c ∈ a.cps.toList) : ∃ i rest, Builtin.Str.occurrences a ⟨#[c]⟩ 0 a.length 1 = i :: rest := by
  have f := PySem.StrLaws.found_one a c
  rw [decide_eq_true h] at f
  cases e : Builtin.Str.occurrences a ⟨#[c]⟩ 0 a.length 1 with
  | nil =>
    rw [e] at f
    cases f
  | cons i rest => exact ⟨i, rest, rfl⟩
theorem shuf_some {x a b : Str} (h : shuf x = some (a, b)) : a.length ≤ sizeLine ∧ b.cps.toList.length ≤ 8 ∧ (∀ c ∈ b.cps.toList, c ∈ a.cps.toList) := by
  rw [shuf_def] at h
  iterate 8
    split at h
    · cases h
  rename_i h1 h2 h3 h4 h5 h6 h7 h8
  have e := Option.some.inj h
  have ea : (shParts x).1 = a := congrArg Prod.fst e
  have eb : (shParts x).2.2 = b := congrArg Prod.snd e
  rw [ea] at h4 h8
  rw [eb] at h5 h8
  refine ⟨?_, ?_, fun c hc => ?_⟩
  · have : (5 : Nat) ≤ sizeLine := by decide
    omega
  · have : b.cps.toList.length = b.length := Array.length_toList
    omega
  · rw [Bool.not_eq_false] at h8
    exact of_decide_eq_true (List.all_eq_true.mp h8 c hc)
/-- the words but quotations -/
def isWord (ys : List Str) (x : Str) : Bool := decide (x ∈ cores) || decide (x ∈ ys) || isLit x || (shuf x).isSome
structure WRd (mg : Str → Option Value) : Prop where
  cor : ∃ t, mg "CORE" = some (.str "core" t)
  shu : ∃ t, mg "SHUFFLE" = some (.str "shuffle" t)
section
variable {P : Program} {w : World} {K : PySem.W.Frag} {mg : Str → Option Value} {base : Heap} {C tC fA : Addr} {dA : FuncData}
/-! ### read_word of any token -/
end
end SQ9
namespace SQ9
open PySem L2 SQ
abbrev sRR : Stmt := top 46
/-! ### what a row of tokens says: the groups that are begun, the topmost first -/
def rd : List Str → List (List Str) → Option (List (List Str))
  | [], s => some s
  | t :: ts, s => if t = "[" then rd ts ([] :: s) else if t = "]" then (match s with
    | g :: h :: r => rd ts ((h ++ [qtext (jt g)]) :: r)
    | _ => none) else (match s with
    | g :: r => rd ts ((g ++ [t]) :: r)
    | [] => none)
def isTok (t : Str) : Prop := t = "[" ∨ t = "]" ∨ t = "t" ∨ t = "5"
theorem isTok.tk {t : Str} (h : isTok t) : Tk t := by
  rcases h with rfl | rfl | rfl | rfl <;> exact ⟨by decide +kernel, by decide +kernel, by decide +kernel⟩
theorem isTok.len {t : Str} (h : isTok t) : t.length = 1 := by
  rcases h with rfl | rfl | rfl | rfl <;> decide +kernel
def wt (g : List Str) : Nat := (g.map (·.length)).sum + g.length
def mt (s : List (List Str)) : Nat := (s.map wt).sum + 2 * s.length
theorem wt_snoc (g : List Str) (x : Str) : wt (g ++ [x]) = wt g + (x.length + 1) := by
  unfold wt
  simp
  omega
theorem mt_cons (g : List Str) (s : List (List Str)) : mt (g :: s) = wt g + 2 + mt s := by
  unfold mt
  simp
  omega
theorem jt_len (g : List Str) : (jt g).length ≤ wt g := by
  rw [jt_eq]
  have := StrLaws.join_length_le " " g
  have e : (" " : Str).length = 1 := rfl
  rw [e] at this
  unfold wt
  omega
theorem qtext_len (x : Str) : (qtext x).length ≤ x.length + 4 := by
  unfold qtext
  split
  · have : ("[ ]" : Str).length = 3 := by decide +kernel
    omega
  · have l1 : (Str.empty ++ ("[ " : Str)).length = 2 := by decide
    have l2 : (" ]" : Str).length = 2 := rfl
    rw [len_app, len_app, l1, l2]
    omega
/-- the lists that stand for the groups -/
def Gr (H : Hp) (as : List Addr) (s : List (List Str)) : Prop := Paired (fun a g => ∃ ws, H a = some (.lst ws) ∧ Rw H ws g) as s
theorem Gr.same {H H' : Hp} {as : List Addr} {s : List (List Str)} (e : Same H H') (h : Gr H as s) : Gr H' as s := Paired.mapP h fun _ _ ⟨ws, e1, e2⟩ => ⟨ws, e _ _ e1, e2.same e⟩
theorem Gr.put {D : Addr} {H : Hp} {as : List Addr} {s : List (List Str)} {ys zs : List V} (hD : H D = some (.lst ys)) (n : D ∉ as) (h : Gr H as s) : Gr (upd H D (.lst zs)) as s := by
  induction h with
  | nil => exact .nil
  | @cons a g as s r t ih =>
    obtain ⟨ws, e1, e2⟩ := r
    have ne : a ≠ D := fun z => n (z ▸ List.mem_cons_self)
    exact .cons ⟨ws, by rw [upd_ne ne]; exact e1, e2.put hD⟩ (ih fun z => n (List.mem_cons_of_mem _ z))
theorem Gr.len {H : Hp} {as : List Addr} {s : List (List Str)} (h : Gr H as s) : as.length = s.length := Paired.length h
theorem at_last (ws : List V) (v : V) : atI (ws ++ [v]) (-1) = some v := by
  unfold atI
  have e : ixN (ws ++ [v]).length (-1) = some ws.length := by
    unfold ixN
    rw [List.length_append]
    simp
    omega
  rw [e]
  simp
def refs (as : List Addr) : List V := as.reverse.map V.ref
theorem refs_cons (a : Addr) (as : List Addr) : refs (a :: as) = refs as ++ [.ref a] := by
  unfold refs
  rw [List.reverse_cons, List.map_append]
  rfl
theorem refs_len (as : List Addr) : (refs as).length = as.length := by
  unfold refs
  rw [List.length_map, List.length_reverse]
/-- what stands while the row is read -/
structure RS (H0 H : Hp) (b : Addr) (as : List Addr) (s : List (List Str)) : Prop where
  same : Same H0 H
  beg : H b = some (.lst (refs as))
  gr : Gr H as s
  nd : as.Nodup
  nb : b ∉ as
  fa : ∀ a ∈ as, H0 a = none
  fb : H0 b = none
section
variable {H0 H H' : Hp} {b : Addr} {as : List Addr} {s : List (List Str)}
theorem RS.on (r : RS H0 H b as s) (e : Same H H') : RS H0 H' b as s := ⟨st r.same e, e _ _ r.beg, r.gr.same e, r.nd, r.nb, r.fa, r.fb⟩
/-- a group is begun -/
theorem RS.begin_ {a : Addr} (r : RS H0 H b as s) (na : H a = none) : RS H0 (upd (upd H a (.lst [])) b (.lst (refs as ++ [.ref a]))) b (a :: as) ([] :: s) := by
  have s1 : Same H (upd H a (.lst [])) := same_new (fun _ _ e => e) na
  have ab : a ≠ b := (ne_of_none r.beg na).symm
  have naa : a ∉ as := fun m => by
    have h : ∃ g, H a = some g := by
      have hg := r.gr
      clear r s1 ab
      induction hg with
      | nil => cases m
      | @cons c g as s q t ih =>
        rcases List.mem_cons.mp m with e | m
        · obtain ⟨ws, e1, _⟩ := q
          exact ⟨_, e ▸ e1⟩
        · exact ih m
    obtain ⟨g, e⟩ := h
    rw [na] at e
    cases e
  refine ⟨fun c o e => ?_, by rw [upd_same, refs_cons], .cons ⟨[], ?_, .nil⟩ ?_, List.nodup_cons.mpr ⟨naa, r.nd⟩, fun m => ?_, fun c m => ?_, r.fb⟩
  · rw [upd_ne (ne_of_none e r.fb)]
    exact s1 _ _ (r.same _ _ e)
  · rw [upd_ne ab]
    exact upd_same
  · exact (r.gr.same s1).put (s1 _ _ r.beg) r.nb
  · rcases List.mem_cons.mp m with e | m
    · exact ab e.symm
    · exact r.nb m
  · rcases List.mem_cons.mp m with e | m
    · rw [e]
      exact r.same.free na
    · exact r.fa c m
/-- the topmost group goes -/
theorem RS.pop {a : Addr} {g : List Str} (r : RS H0 H b (a :: as) (g :: s)) : RS H0 (upd H b (.lst (refs as))) b as s ∧ ∃ ws, upd H b (.lst (refs as)) a = some (.lst ws) ∧ Rw (upd H b (.lst (refs as))) ws g := by
  obtain ⟨q, t⟩ : (∃ ws, H a = some (.lst ws) ∧ Rw H ws g) ∧ Gr H as s := by
    cases r.gr with
    | cons q t => exact ⟨q, t⟩
  obtain ⟨n1, n2⟩ := List.nodup_cons.mp r.nd
  have nb : b ∉ as := fun m => r.nb (List.mem_cons_of_mem _ m)
  obtain ⟨ws, e1, e2⟩ := q
  have ab : a ≠ b := fun z => r.nb (z ▸ List.mem_cons_self)
  refine ⟨⟨fun c o e => ?_, upd_same, t.put r.beg nb, n2, nb, fun c m => r.fa c (List.mem_cons_of_mem _ m), r.fb⟩, ws, by rw [upd_ne ab]; exact e1, e2.put r.beg⟩
  rw [upd_ne (ne_of_none e r.fb)]
  exact r.same _ _ e
/-- a word is added to the topmost group -/
theorem RS.add {a t : Addr} {g : List Str} {x : Str} {k d : V} {ws : List V} (r : RS H0 H b (a :: as) (g :: s)) (ha : H a = some (.lst ws)) (ht : H t = some (.tup [k, .str x, d])) : RS H0 (upd H a (.lst (ws ++ [.ref t]))) b (a :: as) ((g ++ [x]) :: s) := by
  obtain ⟨q, tl⟩ : (∃ ws, H a = some (.lst ws) ∧ Rw H ws g) ∧ Gr H as s := by
    cases r.gr with
    | cons q t => exact ⟨q, t⟩
  obtain ⟨ws', e1, e2⟩ := q
  obtain rfl : ws = ws' := by
    rw [ha] at e1
    exact HO.lst.inj (Option.some.inj e1)
  obtain ⟨n1, n2⟩ := List.nodup_cons.mp r.nd
  have ab : b ≠ a := fun z => r.nb (z ▸ List.mem_cons_self)
  refine ⟨fun c o e => ?_, by rw [upd_ne ab]; exact r.beg, .cons ⟨_, upd_same, (e2.snoc ⟨t, k, d, rfl, ht⟩).put ha⟩ (tl.put ha n1), r.nd, r.nb, r.fa, r.fb⟩
  rw [upd_ne (ne_of_none e (r.fa a List.mem_cons_self))]
  exact r.same _ _ e
end
end SQ9
namespace SQ9
open PySem L2 SQ
theorem Vc.same {C o : Addr} {H H' : Hp} {gs : List G3} {ys : List Str} (s : Same H H') (h : Vc C H o gs ys) : Vc C H' o gs ys := by
  obtain ⟨dx, dA, tN, kvs, e1, e2, e3, e4⟩ := h
  exact ⟨dx, dA, tN, kvs, s _ _ e1, s _ _ e2, s _ _ e3, e4.same s⟩
def tw (ts : List Str) : Nat := (ts.map (·.length)).sum + 2 * ts.length
theorem tw_snoc (ts : List Str) (x : Str) : tw (ts ++ [x]) = tw ts + (x.length + 2) := by
  unfold tw
  simp
  omega
section
variable {P : Program} {w : World} {K : PySem.W.Frag} {mg : Str → Option Value} {base : Heap} {C tC : Addr}
theorem scRR : FnScope ["text", "vocabulary", "begun", "token", "word"] ["text", "vocabulary"] (defScope sRR) := ⟨rfl, rfl, rfl, by decide +kernel, rfl, by decide +kernel, by decide +kernel⟩
end
end SQ9
namespace SQ9
open PySem L2 SQ
/-- tokens without a space, of which the text can be cut back -/
def SfT (ts : List Str) : Prop := (∀ t ∈ ts, (32 : Nat) ∉ t.cps.toList) ∧ (jt ts = "" → ts = [])
/-! ### what a row of any tokens says -/
def rdG (ok : Str → Bool) : List Str → List (List Str) → Option (List (List Str))
  | [], s => some s
  | t :: ts, s => if t = "[" then rdG ok ts ([] :: s) else if t = "]" then (match s with
    | g :: h :: r => rdG ok ts ((h ++ [qtext (jt g)]) :: r)
    | _ => none) else if ok t = true then (match s with
    | g :: r => rdG ok ts ((g ++ [t]) :: r)
    | [] => none) else none
def rowG (ok : Str → Bool) (ts : List Str) : Option (List Str) := match rdG ok ts [[]] with
  | some [xs] => some xs
  | _ => none
theorem rdG_open (ok : Str → Bool) (ts : List Str) (s : List (List Str)) : rdG ok ("[" :: ts) s = rdG ok ts ([] :: s) := by
  conv => lhs; unfold rdG
  exact if_pos rfl
theorem rdG_close (ok : Str → Bool) (ts : List Str) (g h : List Str) (r : List (List Str)) : rdG ok ("]" :: ts) (g :: h :: r) = rdG ok ts ((h ++ [qtext (jt g)]) :: r) := by
  conv => lhs; unfold rdG
  rw [if_neg (by decide +kernel), if_pos rfl]
theorem rdG_close1 (ok : Str → Bool) (ts : List Str) (g : List Str) : rdG ok ("]" :: ts) [g] = none := by
  conv => lhs; unfold rdG
  rw [if_neg (by decide +kernel), if_pos rfl]
theorem rdG_word {ok : Str → Bool} {t : Str} (c1 : ¬ t = "[") (c2 : ¬ t = "]") (c3 : ok t = true) (ts : List Str) (g : List Str) (r : List (List Str)) : rdG ok (t :: ts) (g :: r) = rdG ok ts ((g ++ [t]) :: r) := by
  conv => lhs; unfold rdG
  rw [if_neg c1, if_neg c2, if_pos c3]
theorem rdG_bad {ok : Str → Bool} {t : Str} (c1 : ¬ t = "[") (c2 : ¬ t = "]") (c3 : ok t = false) (ts : List Str) (s : List (List Str)) : rdG ok (t :: ts) s = none := by
  conv => lhs; unfold rdG
  rw [if_neg c1, if_neg c2, if_neg (by rw [c3]; decide)]
/-- how many words and groups -/
def cnt (s : List (List Str)) : Nat := (s.map (·.length)).sum + s.length
theorem cnt_cons (g : List Str) (s : List (List Str)) : cnt (g :: s) = g.length + 1 + cnt s := by
  unfold cnt
  simp
  omega
theorem tw_take (ts : List Str) (i : Nat) : tw (ts.take i) ≤ tw ts := by
  have e : tw ts = tw (ts.take i) + tw (ts.drop i) := by
    conv => lhs; rw [← List.take_append_drop i ts]
    unfold tw
    rw [List.map_append, List.sum_append, List.length_append]
    omega
  omega
section
variable {P : Program} {w : World} {K : PySem.W.Frag} {mg : Str → Option Value} {base : Heap} {C tC : Addr}
def spSpG : Sp := fun vs H Q _ => ∃ ts : List Str, vs = [.str (jt ts)] ∧ SfT ts ∧ (jt ts).length ≤ 10000 ∧ ∀ p, H p = none → Q (.ref p) (upd H p (.lst (ts.map V.str)))
theorem ok_spG {f : Addr} {fd : FuncData} (F : Fun K "split_tokens" "split_tokens" sSp f fd) : FnOk P w K mg base CX0 1 f fd ["text"] spSpG := by
  refine F.ok scSp (fun vs H Q E h => ?_) (fun cdv A outer s H vs Q E hr h => ?_)
  · obtain ⟨ts, rfl, _⟩ := h
    rfl
  · obtain ⟨ts, rfl, ht, hl, q⟩ := h
    have line : ∀ {n : Nat}, n ≤ 20000 → n ≤ sizeLine := fun h => Nat.le_trans h (by decide)
    refine ⟨_, pss_one (ps_ret (pe_ifExp (pt_truth (pv 0) (by intro _; rfl)) (pe_split (pv 0) pe_str) (pe_lst pa_nil))), ?_⟩
    refine ⟨_, rfl, _, ⟨line (by omega), rfl⟩, ?_⟩
    by_cases hn : ts = []
    · subst hn
      exact iteF ⟨(by show 0 ≤ sizeLine; decide), fun p np => q p np⟩
    · have ne : (((jt ts).length : Int) != 0) = true := by
        rw [bne_iff_ne]
        intro e0
        have e : (jt ts).length = 0 := by omega
        refine hn (ht.2 (str_ext ?_))
        have e2 : (jt ts).cps.toList.length = 0 := by simpa [Str.length] using e
        exact List.length_eq_zero_iff.mp e2
      rw [ne]
      refine iteT ?_
      refine ⟨_, rfl, ⟨_, rfl⟩, _, _, rfl, rfl, by decide, line (by omega), fun p np => ?_⟩
      have e : Txt.split (jt ts) " " = ts := by
        rw [jt_eq]
        exact split_join (c := 32) (S := []) (by decide +kernel) (by decide +kernel) hn fun p hp => ht.1 p hp
      rw [e]
      exact q p np
end
end SQ9
/-! own errors without an argument: raised, looked at in a suite; errors by their facts. -/
namespace SQ
open PySem PySem.Spec PyProof.Rows L2
section
variable {X : Cx} {C : Addr} {x : Str} {B newId initId : String} {bmB : List Value} {p pos : Pos}
variable {a : Addr} {oe : Obj} {cls : Value} {d : Option Addr} {pn : List (Addr × Obj)}
end
end SQ
namespace SQ9
open PySem L2 SQ
abbrev sMs : Stmt := top 47
abbrev sMd : Stmt := top 48
abbrev sCv : Stmt := top 78
abbrev sCl : Stmt := top 81
abbrev bmV : List Value := [.type "ValueError", .type "Exception", .type "BaseException", .type "object"]
def sizeT (ts : List Str) : Int := (ts.length : Int) - (ts.count ("]" : Str) : Nat)
def dstep (a : Int × Int) (t : Str) : Int × Int := if t = "[" then (a.1 + 1, if a.1 + 1 > a.2 then a.1 + 1 else a.2) else if t = "]" then (a.1 - 1, a.2) else a
def depthT (ts : List Str) : Int := (ts.foldl dstep (0, 0)).2
section
variable {P : Program} {w : World} {K : PySem.W.Frag} {mg : Str → Option Value} {base : Heap} {C : Addr}
theorem scMs : FnScope ["text", "tokens"] ["text"] (defScope sMs) := ⟨rfl, rfl, rfl, by decide +kernel, rfl, by decide +kernel, by decide +kernel⟩
theorem scMd : FnScope ["text", "depth", "deepest", "token"] ["text"] (defScope sMd) := ⟨rfl, rfl, rfl, by decide +kernel, rfl, by decide +kernel, by decide +kernel⟩
/-! ### the limits -/
theorem scCl : FnScope ["size", "depth"] ["size", "depth"] (defScope sCl) := ⟨rfl, rfl, rfl, by decide +kernel, rfl, by decide +kernel, by decide +kernel⟩
end
end SQ9
namespace SQ9
open PySem L2 SQ
abbrev sPI_ : Stmt := inClass (top 82) 0
structure IC (K : PySem.W.Frag) (C : Addr) : Prop where
  cl : Cls K C
  ha : PySem.W.findIn K (.ref C) "__class__" = some (some (.builtin "object.__class__"))
  hn : PySem.W.specialIn K (.builtin "object.__class__") "__get__" = some (some (.builtin "getset_descriptor.__get__"))
  htk : PySem.W.takesIn K (.builtin "object.__class__") = some true
  hm : PySem.W.mroIn K C (.type "object") = some true
  self : PySem.W.kitOne K (.ref C) (.ref C) = some true
theorem IC.ty {K : PySem.W.Frag} {C a dx : Addr} {H : Hp} {fs : List (Str × V)} (T : IC K C) (e : H a = some (.ins C dx fs)) : TyX K H (.ref a) (.ref C) := .base (.ins e T.cl T.ha T.hn T.htk T.hm)
/-- the class Program, as the top has made it -/
structure PC (K : PySem.W.Frag) (mg : Str → Option Value) (C : Addr) : Prop where
  g : mg "Program" = some (.ref C)
  cl : Cls K C
  nV : NoAttr K C "vocabulary"
  nT : NoAttr K C "text"
  nR : NoAttr K C "row"
  nW : NoAttr K C "words"
  nS : NoAttr K C "size"
def pfl (o r tW : Addr) (x : Str) (n : Int) : List (Str × V) := putF "size" (.int n) (putF "words" (.ref tW) (putF "row" (.ref r) (putF "text" (.str x) (putF "vocabulary" (.ref o) []))))
/-- a program at p: its vocabulary at o, its tokens ts, its words xs -/
def Pg (CP : Addr) (H : Hp) (p o : Addr) (ts xs : List Str) : Prop := ∃ dx r tW, H p = some (.ins CP dx (pfl o r tW (jt ts) (sizeT ts))) ∧ H tW = some (.tup (xs.map V.str))
theorem Pg.same {CP : Addr} {H H' : Hp} {p o : Addr} {ts xs : List Str} (s : Same H H') (h : Pg CP H p o ts xs) : Pg CP H' p o ts xs := by
  obtain ⟨dx, r, tW, h1, h2⟩ := h
  exact ⟨dx, r, tW, s _ _ h1, s _ _ h2⟩
/-- tokens of the law's programs -/
structure Good (ts xs : List Str) : Prop where
  tok : ∀ t ∈ ts, isTok t
  len : ts.length ≤ 200
  rd : rd ts [[]] = some [xs]
section
variable {P : Program} {w : World} {K : PySem.W.Frag} {mg : Str → Option Value} {base : Heap} {C CP : Addr}
def spCv (C : Addr) : Sp := fun vs H Q _ => ∃ (o dx : Addr) (fs : List (Str × V)), vs = [.ref o] ∧ H o = some (.ins C dx fs) ∧ Q .non H
theorem scCv : FnScope ["value"] ["value"] (defScope sCv) := ⟨rfl, rfl, rfl, by decide +kernel, rfl, by decide +kernel, by decide +kernel⟩
theorem ok_cv {f : Addr} {fd : FuncData} (F : Fun K "check_vocabulary" "check_vocabulary" sCv f fd) (B : B2 mg) (VV : VC K mg C) (T : IC K C) : FnOk P w K mg base CX0 1 f fd ["value"] (spCv C) := by
  refine F.ok scCv (fun vs H Q E h => ?_) (fun cdv A outer s H vs Q E hr h => ?_)
  · obtain ⟨o, dx, fs, rfl, _⟩ := h
    rfl
  · obtain ⟨o, dx, fs, rfl, ho, q⟩ := h
    refine ⟨_, pss_one (ps_if (pt_not (pt_val (pe_callB call_isi (by rfl) B.isi (by decide +kernel) (pa_cons (pv 0) (pa_cons (pe_glob (v := .ref C) rfl VV.g rfl) pa_nil))))) (pss_one ps_never) pss_nil), ?_⟩
    exact ⟨_, rfl, _, _, _, _, true, rfl, .own C, T.ty ho, T.self, _, rfl, iteF q⟩
/-- the ways out of Program(..) -/
structure Lim (CL CD : Addr) (ts : List Str) (H : Hp) (R : Prop) (E : XK) : Prop where
  big : 60 < sizeT ts → ∀ d H', Same H H' → H' d = some (.xd [("limit", .int 60)]) → E (.ref CL) (some d) H'
  deep : ¬ 60 < sizeT ts → 6 < depthT ts → ∀ d H', Same H H' → H' d = some (.xd [("limit", .int 6)]) → E (.ref CD) (some d) H'
  fit : ¬ 60 < sizeT ts → ¬ 6 < depthT ts → R
def spPI (CP C CL CD : Addr) : Sp := fun vs H Q E => ∃ (p o dx : Addr) (gs : List G3) (ts xs : List Str), vs = [.ref p, .ref o, .str (jt ts)] ∧ H p = some (.ins CP dx []) ∧ Vc C H o gs [("t" : Str)] ∧ gnames gs = [("t" : Str)] ∧ Good ts xs ∧
  Lim CL CD ts H (∀ H', But p H H' → Pg CP H' p o ts xs → Q .non H') E
theorem scPr : FnScope ["self", "vocabulary", "text", "row", "size", "word"] ["self", "vocabulary", "text"] (defScope sPI_) := ⟨rfl, rfl, rfl, by decide +kernel, rfl, by decide +kernel, by decide +kernel⟩
end
end SQ9
namespace SQ9
open PySem L2 SQ
/-- tokens within the bounds that are kept here -/
structure TB (ts : List Str) : Prop where
  sf : SfT ts
  len : ts.length ≤ 900
  wt : tw ts ≤ 8000
theorem TB.jl {ts : List Str} (h : TB ts) : (jt ts).length ≤ 10000 := by
  have h1 := jt_len ts
  have h2 := h.wt
  unfold SQ9.wt at h1
  unfold tw at h2
  omega
theorem rdG_cnt {ok : Str → Bool} : ∀ {ts : List Str} {s u : List (List Str)}, rdG ok ts s = some u → cnt u ≤ cnt s + ts.length
  | [], s, u, h => by
    cases h
    exact Nat.le_add_right _ _
  | t :: ts, s, u, h => by
    rw [List.length_cons]
    by_cases c1 : t = "["
    · subst c1
      rw [rdG_open] at h
      have := rdG_cnt h
      rw [cnt_cons, List.length_nil] at this
      omega
    by_cases c2 : t = "]"
    · subst c2
      match s, h with
      | [], h =>
        unfold rdG at h
        rw [if_neg (by decide +kernel), if_pos rfl] at h
        cases h
      | [g], h =>
        rw [rdG_close1] at h
        cases h
      | g :: k :: r, h =>
        rw [rdG_close] at h
        have := rdG_cnt h
        rw [cnt_cons, List.length_append, List.length_singleton] at this
        rw [cnt_cons, cnt_cons]
        omega
    · cases c3 : ok t with
      | false =>
        rw [rdG_bad c1 c2 c3] at h
        cases h
      | true =>
        match s, h with
        | [], h =>
          unfold rdG at h
          rw [if_neg c1, if_neg c2, if_pos c3] at h
          cases h
        | g :: r, h =>
          rw [rdG_word c1 c2 c3] at h
          have := rdG_cnt h
          rw [cnt_cons, List.length_append, List.length_singleton] at this
          rw [cnt_cons]
          omega
theorem rowG_cnt {ok : Str → Bool} {ts xs : List Str} (h : rowG ok ts = some xs) : xs.length ≤ ts.length := by
  unfold rowG at h
  split at h
  · rename_i ys e
    cases h
    have := rdG_cnt e
    have c1 : cnt [xs] = xs.length + 1 + 0 := cnt_cons xs []
    have c2 : cnt [([] : List Str)] = 1 := by decide
    omega
  · cases h
section
variable {P : Program} {w : World} {K : PySem.W.Frag} {mg : Str → Option Value} {base : Heap} {C CP : Addr}
def spMsG : Sp := fun vs H Q _ => ∃ ts : List Str, vs = [.str (jt ts)] ∧ TB ts ∧ ∀ H', Same H H' → Q (.int (sizeT ts)) H'
theorem ok_msG {f fS : Addr} {fd dS : FuncData} (F : Fun K "measure_size" "measure_size" sMs f fd) (B : B2 mg) (gS : mg "split_tokens" = some (.ref fS)) (kS : PySem.W.keepIn K (.ref fS) = true) (bS : Binds K dS ["text"] []) (GS : FnOk P w K mg base CX0 1 fS dS ["text"] spSpG) : FnOk P w K mg base CX0 2 f fd ["text"] spMsG := by
  refine F.ok scMs (fun vs H Q E h => ?_) (fun cdv A outer s H vs Q E hr h => ?_)
  · obtain ⟨ts, rfl, _⟩ := h
    rfl
  · obtain ⟨ts, rfl, ht, q⟩ := h
    refine ⟨_, pss_cons (ps_set (i := 1) scMs.nd rfl (.inl rfl) (pe_call GS hr rfl gS kS bS .nil pass0 (pa_cons (pv 0) pa_nil)))
      (pss_one (ps_ret (pe_op op_sub (pe_callB call_len_seq (by rfl) B.len PySem.boot_len (pa_cons (pv 1) pa_nil)) (pe_bm PySem.F.plainAttrs_list PySem.F.slot_list_count PySem.F.type_list_count mt_countS (pv 1) (pa_cons pe_str pa_nil))))), ?_⟩
    refine ⟨_, rfl, ts, rfl, ht.sf, ht.jl, fun p np => ?_⟩
    refine ⟨_, rfl, p, _, rfl, .inl (SqL.of upd_same), _, rfl, .inl ⟨rfl, _, SqL.of upd_same⟩, p, ts, _, rfl, rfl, SqL.of upd_same, _, _, rfl, rfl, ?_⟩
    rw [List.length_map]
    exact q _ (same_new (fun _ _ e => e) np)
def spMdG : Sp := fun vs H Q _ => ∃ ts : List Str, vs = [.str (jt ts)] ∧ TB ts ∧ ∀ H', Same H H' → Q (.int (depthT ts)) H'
theorem ok_mdG {f fS : Addr} {fd dS : FuncData} (F : Fun K "measure_depth" "measure_depth" sMd f fd) (BL : Blt mg) (gS : mg "split_tokens" = some (.ref fS)) (kS : PySem.W.keepIn K (.ref fS) = true) (bS : Binds K dS ["text"] []) (GS : FnOk P w K mg base CX0 1 fS dS ["text"] spSpG) : FnOk P w K mg base CX0 2 f fd ["text"] spMdG := by
  refine F.ok scMd (fun vs H Q E h => ?_) (fun cdv A outer s H vs Q E hr h => ?_)
  · obtain ⟨ts, rfl, _⟩ := h
    rfl
  · obtain ⟨ts, rfl, ht, q⟩ := h
    refine ⟨_, pss_cons (ps_asg2 pe_int (pg_name (i := 1) scMd.nd rfl (.inl rfl)) (pg_name (i := 2) scMd.nd rfl (.inl rfl)))
      (pss_cons (ps_for PassesOwn.never rfl (pi_list (pe_call GS hr rfl gS kS bS .nil pass0 (pa_cons (pv 0) pa_nil))) (pg_name (i := 3) scMd.nd rfl (.inl rfl))
        (pss_one (ps_if (pt_cmpR op_eq (pv 3) pe_str (nomark _)) (pss_cons (ps_aug (i := 1) scMd.nd rfl (.inl rfl) pe_int ip_add) (pss_one (ps_set (i := 2) scMd.nd rfl (.inl rfl) (pe_callB (call_max2 rfl) (by rfl) BL.max (by decide +kernel) (pa_cons (pv 2) (pa_cons (pv 1) pa_nil))))))
          (pss_one (ps_if (pt_cmpR op_eq (pv 3) pe_str (nomark _)) (pss_one (ps_aug (i := 1) scMd.nd rfl (.inl rfl) pe_int ip_sub)) pss_nil)))))
      (pss_one (ps_ret (pv 2)))), ?_⟩
    refine ⟨_, rfl, ts, rfl, ht.sf, ht.jl, fun p np => ?_⟩
    have s1 : Same H (upd H p (.lst (ts.map V.str))) := same_new (fun _ _ e => e) np
    have hp1 : upd H p (.lst (ts.map V.str)) p = some (.lst (ts.map V.str)) := upd_same
    generalize upd H p (.lst (ts.map V.str)) = G1 at s1 hp1 ⊢
    refine ⟨p, rfl, ⟨_, SqL.of hp1⟩, for_list (K := K) (a := p) (xs := ts.map V.str) (fun i σ G => ∃ v3, σ = [some (.str (jt ts)), some (.int ((ts.take i).foldl dstep (0, 0)).1), some (.int ((ts.take i).foldl dstep (0, 0)).2), v3] ∧ G = G1)
      ⟨_, rfl, rfl⟩ (fun i σ G _ ⟨_, _, e⟩ => by rw [e]; exact SqL.of hp1) ?_ ?_⟩
    · rintro i x σ G hi ⟨v3, rfl, rfl⟩
      rw [List.getElem?_map] at hi
      cases hti : ts[i]? with
      | none =>
        rw [hti] at hi
        cases hi
      | some t =>
        rw [hti] at hi
        cases hi
        have et : (ts.take (i + 1)).foldl dstep (0, 0) = dstep ((ts.take i).foldl dstep (0, 0)) t := by
          rw [take_more hti, List.foldl_append]
          rfl
        rw [et]
        generalize (ts.take i).foldl dstep (0, 0) = a
        obtain ⟨d, m⟩ := a
        refine ⟨_, rfl, rfl, _, rfl, ?_⟩
        unfold dstep
        by_cases c1 : t = "["
        · rw [if_pos c1]
          subst c1
          refine itY rfl ?_
          refine ⟨_, rfl, _, _, rfl, rfl, _, rfl, _, rfl, _, _, rfl, ?_⟩
          exact ⟨_, rfl, rfl⟩
        rw [if_neg c1]
        refine itN (fun z => c1 (V.str.inj z)) ?_
        refine ⟨_, rfl, rfl, _, rfl, ?_⟩
        by_cases c2 : t = "]"
        · rw [if_pos c2]
          subst c2
          refine itY rfl ?_
          refine ⟨_, rfl, _, _, rfl, rfl, ?_⟩
          exact ⟨_, rfl, rfl⟩
        · rw [if_neg c2]
          refine itN (fun z => c2 (V.str.inj z)) ?_
          exact ⟨_, rfl, rfl⟩
    · rintro σ G ⟨v3, rfl, rfl⟩
      rw [List.length_map, List.take_length]
      exact ⟨_, rfl, q _ s1⟩
end
end SQ9
namespace SQ9
open PySem L2 SQ
/-! ### the store of shapes -/
/-- kinds, parts, and for each shape the one that stands for it -/
structure Sto where
  kinds : List Str
  parts : List (List Nat)
  rt : List Nat
  deriving DecidableEq
namespace Sto
def n (S : Sto) : Nat := S.rt.length
def root (S : Sto) (x : Nat) : Nat := S.rt.getD x x
def kind (S : Sto) (x : Nat) : Str := S.kinds.getD x ""
def part (S : Sto) (x : Nat) : List Nat := S.parts.getD x []
def mk' (S : Sto) (k : Str) (ps : List Nat) : Sto := ⟨S.kinds ++ [k], S.parts ++ [ps], S.rt ++ [S.rt.length]⟩
def link (S : Sto) (f s : Nat) : Sto := { S with rt := S.rt.map fun r => if r = f then s else r }
def pile (S : Sto) (b : Nat) : List Nat → Sto × Nat
  | [] => (S, b)
  | x :: xs => pile (S.mk' "push" [b, x]) S.n xs
def isVar (S : Sto) (x : Nat) : Bool := decide (S.kind x = "stack variable") || decide (S.kind x = "value variable")
def nil : Sto := ⟨[], [], []⟩
/-- all is as it should be -/
structure Ok (S : Sto) : Prop where
  kl : S.kinds.length = S.rt.length
  pl : S.parts.length = S.rt.length
  lt : ∀ x ∈ S.rt, x < S.rt.length
  id : ∀ x ∈ S.rt, S.root x = x
  ps : ∀ l ∈ S.parts, ∀ x ∈ l, x < S.rt.length
  few : S.rt.length ≤ 100000
  p2 : ∀ l ∈ S.parts, l.length ≤ 2
theorem root_at {S : Sto} {x : Nat} (h : x < S.rt.length) : S.rt[x]? = some (S.root x) := by
  unfold root
  rw [List.getD_eq_getElem?_getD, List.getElem?_eq_getElem h]
  rfl
theorem Ok.root_mem {S : Sto} (o : S.Ok) {x : Nat} (h : x < S.n) : S.root x ∈ S.rt := List.mem_of_getElem? (root_at h)
theorem Ok.root_lt {S : Sto} (o : S.Ok) {x : Nat} (h : x < S.n) : S.root x < S.n := o.lt _ (o.root_mem h)
theorem Ok.root_id {S : Sto} (o : S.Ok) {x : Nat} (h : x < S.n) : S.root (S.root x) = S.root x := o.id _ (o.root_mem h)
theorem Ok.kind_at {S : Sto} (o : S.Ok) {x : Nat} (h : x < S.n) : S.kinds[x]? = some (S.kind x) := by
  unfold kind
  have h' : x < S.kinds.length := by rw [o.kl]; exact h
  rw [List.getD_eq_getElem?_getD, List.getElem?_eq_getElem h']
  rfl
theorem Ok.part_at {S : Sto} (o : S.Ok) {x : Nat} (h : x < S.n) : S.parts[x]? = some (S.part x) := by
  unfold part
  have h' : x < S.parts.length := by rw [o.pl]; exact h
  rw [List.getD_eq_getElem?_getD, List.getElem?_eq_getElem h']
  rfl
theorem Ok.part_lt {S : Sto} (o : S.Ok) {x : Nat} (h : x < S.n) : ∀ y ∈ S.part x, y < S.n := o.ps _ (List.mem_of_getElem? (o.part_at h))
theorem Ok.part_2 {S : Sto} (o : S.Ok) {x : Nat} (h : x < S.n) : (S.part x).length ≤ 2 := o.p2 _ (List.mem_of_getElem? (o.part_at h))
theorem ok_nil : nil.Ok := ⟨rfl, rfl, (fun _ h => nomatch h), (fun _ h => nomatch h), (fun _ h => nomatch h), by decide, (fun _ h => nomatch h)⟩
theorem root_app {S : Sto} {k : Str} {ps : List Nat} {x : Nat} (h : x < S.n) : (S.mk' k ps).root x = S.root x := by
  unfold root mk'
  show (S.rt ++ [S.rt.length]).getD x x = S.rt.getD x x
  rw [List.getD_eq_getElem?_getD, List.getD_eq_getElem?_getD, List.getElem?_append_left h]
theorem root_new {S : Sto} {k : Str} {ps : List Nat} : (S.mk' k ps).root S.n = S.n := by
  unfold root mk' n
  show (S.rt ++ [S.rt.length]).getD S.rt.length S.rt.length = S.rt.length
  rw [List.getD_eq_getElem?_getD, List.getElem?_append_right (Nat.le_refl _), Nat.sub_self]
  rfl
theorem n_mk {S : Sto} {k : Str} {ps : List Nat} : (S.mk' k ps).n = S.n + 1 := by
  show (S.rt ++ [S.rt.length]).length = _
  rw [List.length_append]
  rfl
theorem Ok.mk' {S : Sto} (o : S.Ok) {k : Str} {ps : List Nat} (hp : ∀ x ∈ ps, x < S.n) (few : S.n + 1 ≤ 100000) (h2 : ps.length ≤ 2) : (S.mk' k ps).Ok := by
  have e : (S.mk' k ps).rt.length = S.rt.length + 1 := n_mk
  refine ⟨?_, ?_, fun x hx => ?_, fun x hx => ?_, fun l hl x hx => ?_, by rw [e]; exact few, fun l hl => ?_⟩
  · show (S.kinds ++ [k]).length = _
    rw [e, List.length_append, o.kl]
    rfl
  · show (S.parts ++ [ps]).length = _
    rw [e, List.length_append, o.pl]
    rfl
  · rw [e]
    rcases List.mem_append.mp (show x ∈ S.rt ++ [S.rt.length] from hx) with h | h
    · have := o.lt x h
      omega
    · rw [List.mem_singleton.mp h]
      omega
  · rcases List.mem_append.mp (show x ∈ S.rt ++ [S.rt.length] from hx) with h | h
    · rw [root_app (o.lt x h)]
      exact o.id x h
    · rw [List.mem_singleton.mp h]
      exact root_new
  · rw [e]
    rcases List.mem_append.mp (show l ∈ S.parts ++ [ps] from hl) with h | h
    · have := o.ps l h x hx
      omega
    · rw [List.mem_singleton.mp h] at hx
      have : x < S.rt.length := hp x hx
      omega
  · rcases List.mem_append.mp (show l ∈ S.parts ++ [ps] from hl) with h | h
    · exact o.p2 l h
    · rw [List.mem_singleton.mp h]
      exact h2
theorem n_link {S : Sto} {f s : Nat} : (S.link f s).n = S.n := List.length_map _
theorem root_link {S : Sto} {f s x : Nat} (h : x < S.n) : (S.link f s).root x = if S.root x = f then s else S.root x := by
  show (S.rt.map _).getD x x = _
  rw [List.getD_eq_getElem?_getD, List.getElem?_map, root_at h]
  rfl
theorem Ok.link {S : Sto} (o : S.Ok) {f s : Nat} (hs : s < S.n) (rs : S.root s = s) (ne : f ≠ s) : (S.link f s).Ok := by
  have e : (S.link f s).rt.length = S.rt.length := n_link
  refine ⟨o.kl.trans e.symm, o.pl.trans e.symm, fun x hx => ?_, fun x hx => ?_, fun l hl x hx => by rw [e]; exact o.ps l hl x hx, by rw [e]; exact o.few, o.p2⟩
  · rw [e]
    obtain ⟨r, hr, rfl⟩ := List.mem_map.mp hx
    show (if r = f then s else r) < _
    split
    · exact hs
    · exact o.lt r hr
  · obtain ⟨r, hr, rfl⟩ := List.mem_map.mp hx
    show (S.link f s).root (if r = f then s else r) = if r = f then s else r
    split
    · rw [root_link hs, rs, if_neg (Ne.symm ne)]
    · rename_i h
      rw [root_link (o.lt r hr), o.id r hr, if_neg h]
end Sto
/-- links that lead to the shapes that stand for them -/
structure Lk (L : List Nat) (S : Sto) (rk : Nat → Nat) : Prop where
  len : L.length = S.n
  up : ∀ x y, L[x]? = some y → y < S.n ∧ S.root y = S.root x ∧ (y = x → S.root x = x) ∧ (y ≠ x → rk y < rk x)
theorem Lk.nil : Lk [] Sto.nil (fun _ => 0) := ⟨rfl, fun x y h => by simp at h⟩
theorem Lk.at {L : List Nat} {S : Sto} {rk : Nat → Nat} (l : Lk L S rk) {x : Nat} (h : x < S.n) : ∃ y, L[x]? = some y := ⟨_, List.getElem?_eq_getElem (by rw [l.len]; exact h)⟩
/-- one step of settle -/
theorem Lk.half {L : List Nat} {S : Sto} {rk : Nat → Nat} (l : Lk L S rk) {x y z : Nat} (hy : L[x]? = some y) (ne : y ≠ x) (hz : L[y]? = some z) : Lk (L.set x z) S rk ∧ z < S.n ∧ S.root z = S.root x ∧ rk z < rk x := by
  obtain ⟨y1, y2, _, y4⟩ := l.up x y hy
  obtain ⟨z1, z2, z3, z4⟩ := l.up y z hz
  have hr : rk z < rk x := by
    have := y4 ne
    by_cases e : z = y
    · rw [e]
      exact this
    · have := z4 e
      omega
  have nzx : z ≠ x := fun e => by rw [e] at hr; exact absurd hr (Nat.lt_irrefl _)
  refine ⟨⟨by rw [List.length_set]; exact l.len, fun a b h => ?_⟩, z1, z2.trans y2, hr⟩
  by_cases e : a = x
  · subst e
    have hlt : a < L.length := (List.getElem?_eq_some_iff.mp hy).1
    rw [List.getElem?_set_self hlt] at h
    cases h
    exact ⟨z1, z2.trans y2, fun e => absurd e nzx, fun _ => hr⟩
  · rw [List.getElem?_set_ne (Ne.symm e)] at h
    exact l.up a b h
theorem Lk.root {L : List Nat} {S : Sto} {rk : Nat → Nat} (l : Lk L S rk) {x : Nat} (h : L[x]? = some x) : S.root x = x := (l.up x x h).2.2.1 rfl
theorem Lk.mk' {L : List Nat} {S : Sto} {rk : Nat → Nat} (l : Lk L S rk) {k : Str} {ps : List Nat} : Lk (L ++ [L.length]) (S.mk' k ps) rk := by
  refine ⟨by rw [List.length_append, l.len, Sto.n_mk]; rfl, fun x y h => ?_⟩
  rw [Sto.n_mk]
  by_cases hx : x < L.length
  · rw [List.getElem?_append_left hx] at h
    obtain ⟨a, b, c, d⟩ := l.up x y h
    have hx' : x < S.n := by rw [← l.len]; exact hx
    rw [Sto.root_app a, Sto.root_app hx']
    exact ⟨by omega, b, c, d⟩
  · have hle : L.length ≤ x := Nat.le_of_not_lt hx
    rw [List.getElem?_append_right hle] at h
    have e0 : x - L.length = 0 := by
      rcases Nat.eq_zero_or_pos (x - L.length) with e | e
      · exact e
      · rw [List.getElem?_eq_none (by rw [List.length_singleton]; exact e)] at h
        cases h
    rw [e0] at h
    have ey : y = L.length := (Option.some.inj h).symm
    have ex : x = S.n := by
      rw [← l.len]
      omega
    rw [ey, l.len, ex, Sto.root_new]
    exact ⟨by omega, rfl, fun _ => rfl, fun z => absurd rfl z⟩
theorem Lk.link {L : List Nat} {S : Sto} {rk : Nat → Nat} (l : Lk L S rk) (o : S.Ok) {f s : Nat} (hf : f < S.n) (hs : s < S.n) (rf : S.root f = f) (rs : S.root s = s) (ne : f ≠ s) : Lk (L.set f s) (S.link f s) (fun x => if S.root x = f then rk x + rk s + 1 else rk x) := by
  refine ⟨by rw [List.length_set, l.len, Sto.n_link], fun x y h => ?_⟩
  rw [Sto.n_link]
  have hx : x < S.n := by
    have := (List.getElem?_eq_some_iff.mp h).1
    rw [List.length_set, l.len] at this
    exact this
  by_cases e : x = f
  · subst e
    have hlt : x < L.length := by rw [l.len]; exact hf
    rw [List.getElem?_set_self hlt] at h
    cases h
    refine ⟨hs, ?_, fun z => absurd z (Ne.symm ne), fun _ => ?_⟩
    · rw [Sto.root_link hs, Sto.root_link hf, rf, rs, if_pos rfl, if_neg (Ne.symm ne)]
    · show (if S.root s = x then _ else rk s) < if S.root x = x then rk x + rk s + 1 else rk x
      rw [rs, rf, if_pos rfl, if_neg (Ne.symm ne)]
      omega
  · rw [List.getElem?_set_ne (Ne.symm e)] at h
    obtain ⟨a, b, c, d⟩ := l.up x y h
    refine ⟨a, ?_, fun z => ?_, fun z => ?_⟩
    · rw [Sto.root_link a, Sto.root_link hx, b]
    · have := c z
      rw [Sto.root_link hx, this, if_neg e]
    · have := d z
      show (if S.root y = f then rk y + rk s + 1 else rk y) < if S.root x = f then rk x + rk s + 1 else rk x
      rw [b]
      split <;> omega
/-! ### the store in the heap -/
abbrev vN (n : Nat) : V := .int (n : Int)
def sfl (k p l : Addr) : List (Str × V) := putF "links" (.ref l) (putF "parts" (.ref p) (putF "kinds" (.ref k) []))
/-- where a store lies -/
structure Sad where
  o : Addr
  k : Addr
  p : Addr
  l : Addr
structure ShIn (CS : Addr) (H : Hp) (d : Sad) (S : Sto) : Prop where
  ok : S.Ok
  ins : ∃ dx, H d.o = some (.ins CS dx (sfl d.k d.p d.l))
  hk : H d.k = some (.lst (S.kinds.map V.str))
  hp : ∃ ps : List Addr, H d.p = some (.lst (ps.map V.ref)) ∧ Paired (fun a ns => H a = some (.tup (ns.map vN))) ps S.parts
  hl : ∃ L rk, H d.l = some (.lst (L.map vN)) ∧ Lk L S rk
  ne : d.k ≠ d.p ∧ d.k ≠ d.l ∧ d.p ≠ d.l
/-- all that stood stands, but the three lists of the store -/
def But3 (d : Sad) (H H' : Hp) : Prop := ∀ b o, H b = some o → b ≠ d.k → b ≠ d.p → b ≠ d.l → H' b = some o
theorem But3.refl {d : Sad} {H : Hp} : But3 d H H := fun _ _ e _ _ _ => e
theorem But3.trans {d : Sad} {H H1 H2 : Hp} (a : But3 d H H1) (b : But3 d H1 H2) : But3 d H H2 := fun c o e n1 n2 n3 => b c o (a c o e n1 n2 n3) n1 n2 n3
theorem But3.same {d : Sad} {H H' : Hp} (a : Same H H') : But3 d H H' := fun c o e _ _ _ => a c o e
theorem But3.butl {d : Sad} {H H' : Hp} (a : But d.l H H') : But3 d H H' := fun c o e _ _ n => a c o e n
theorem ShIn.same {CS : Addr} {H H' : Hp} {d : Sad} {S : Sto} (s : Same H H') (h : ShIn CS H d S) : ShIn CS H' d S := by
  obtain ⟨dx, e⟩ := h.ins
  obtain ⟨ps, e1, e2⟩ := h.hp
  obtain ⟨L, rk, e3, e4⟩ := h.hl
  exact ⟨h.ok, ⟨dx, s _ _ e⟩, s _ _ h.hk, ⟨ps, s _ _ e1, Paired.mapP e2 fun _ _ z => s _ _ z⟩, ⟨L, rk, s _ _ e3, e4⟩, h.ne⟩
end SQ9
namespace SQ9
open PySem L2 SQ
abbrev sSI : Stmt := inClass (top 21) 0
abbrev sMk : Stmt := inClass (top 21) 1
abbrev sPil : Stmt := inClass (top 21) 2
/-- the class of the stores -/
structure SC (K : PySem.W.Frag) (mg : Str → Option Value) (CS : Addr) : Prop where
  g : mg "Shapes" = some (.ref CS)
  cl : Cls K CS
  nK : NoAttr K CS "kinds"
  nP : NoAttr K CS "parts"
  nL : NoAttr K CS "links"
section
variable {P : Program} {w : World} {K : PySem.W.Frag} {mg : Str → Option Value} {base : Heap} {CS : Addr}
/-! ### a new store -/
def spSI (CS : Addr) : Sp := fun vs H Q _ => ∃ (x dx : Addr), vs = [.ref x] ∧ H x = some (.ins CS dx []) ∧ ∀ (H' : Hp) (d : Sad), d.o = x → But x H H' → H d.k = none → H d.p = none → H d.l = none → ShIn CS H' d Sto.nil → Q .non H'
theorem scSI : FnScope ["self"] ["self"] (defScope sSI) := ⟨rfl, rfl, rfl, by decide +kernel, rfl, by decide +kernel, by decide +kernel⟩
theorem ok_si {f : Addr} {fd : FuncData} (F : Fun K "__init__" "Shapes.__init__" sSI f fd) (C : SC K mg CS) : FnOk P w K mg base CX0 1 f fd ["self"] (spSI CS) := by
  refine F.ok scSI (fun vs H Q E h => ?_) (fun cdv A outer s H vs Q E hr h => ?_)
  · obtain ⟨x, dx, rfl, _⟩ := h
    rfl
  · obtain ⟨x, dx, rfl, hx, q⟩ := h
    refine ⟨_, pss_cons (ps_fld (pv 0) (pe_lst pa_nil) rfl) (pss_cons (ps_fld (pv 0) (pe_lst pa_nil) rfl) (pss_one (ps_fld (pv 0) (pe_lst pa_nil) rfl))), ?_⟩
    refine ⟨(by show 0 ≤ sizeLine; decide), fun k nk => ?_⟩
    have nxk : x ≠ k := ne_of_none hx nk
    have hk1 : upd H k (.lst []) k = some (.lst []) := upd_same
    have hx1 : upd H k (.lst []) x = some (.ins CS dx []) := by rw [upd_ne nxk]; exact hx
    have b1 : But x H (upd H k (.lst [])) := Same.but (same_new (fun _ _ e => e) nk)
    generalize upd H k (.lst []) = H1 at hk1 hx1 b1 ⊢
    refine ⟨_, rfl, x, CS, dx, [], rfl, hx1, C.cl, C.nK, (by show 0 < 1000; decide), ?_⟩
    have hx2 : upd H1 x (.ins CS dx (putF "kinds" (.ref k) [])) x = some (.ins CS dx (putF "kinds" (.ref k) [])) := upd_same
    have hk2 : upd H1 x (.ins CS dx (putF "kinds" (.ref k) [])) k = some (.lst []) := by rw [upd_ne (Ne.symm nxk)]; exact hk1
    have b2 : But x H (upd H1 x (.ins CS dx (putF "kinds" (.ref k) []))) := b1.put
    generalize upd H1 x (.ins CS dx (putF "kinds" (.ref k) [])) = H2 at hx2 hk2 b2 ⊢
    refine ⟨(by show 0 ≤ sizeLine; decide), fun p np => ?_⟩
    have nxp : x ≠ p := ne_of_none hx2 np
    have nkp : k ≠ p := ne_of_none hk2 np
    have np0 : H p = none := by
      cases e : H p with
      | none => rfl
      | some o => rw [b2 p o e (Ne.symm nxp)] at np; cases np
    have hp3 : upd H2 p (.lst []) p = some (.lst []) := upd_same
    have hx3 : upd H2 p (.lst []) x = _ := (upd_ne nxp).trans hx2
    have hk3 : upd H2 p (.lst []) k = _ := (upd_ne nkp).trans hk2
    have b3 : But x H (upd H2 p (.lst [])) := b2.new np
    generalize upd H2 p (.lst []) = H3 at hp3 hx3 hk3 b3 ⊢
    refine ⟨_, rfl, x, CS, dx, _, rfl, hx3, C.cl, C.nP, (by show 1 < 1000; decide), ?_⟩
    have hx4 : upd H3 x (.ins CS dx (putF "parts" (.ref p) (putF "kinds" (.ref k) []))) x = some (.ins CS dx (putF "parts" (.ref p) (putF "kinds" (.ref k) []))) := upd_same
    have hk4 : upd H3 x (.ins CS dx (putF "parts" (.ref p) (putF "kinds" (.ref k) []))) k = _ := (upd_ne (Ne.symm nxk)).trans hk3
    have hp4 : upd H3 x (.ins CS dx (putF "parts" (.ref p) (putF "kinds" (.ref k) []))) p = _ := (upd_ne (Ne.symm nxp)).trans hp3
    have b4 : But x H (upd H3 x (.ins CS dx (putF "parts" (.ref p) (putF "kinds" (.ref k) [])))) := b3.put
    generalize upd H3 x (.ins CS dx (putF "parts" (.ref p) (putF "kinds" (.ref k) []))) = H4 at hx4 hk4 hp4 b4 ⊢
    refine ⟨(by show 0 ≤ sizeLine; decide), fun l nl => ?_⟩
    have nxl : x ≠ l := ne_of_none hx4 nl
    have nkl : k ≠ l := ne_of_none hk4 nl
    have npl : p ≠ l := ne_of_none hp4 nl
    have nl0 : H l = none := by
      cases e : H l with
      | none => rfl
      | some o => rw [b4 l o e (Ne.symm nxl)] at nl; cases nl
    have hl5 : upd H4 l (.lst []) l = some (.lst []) := upd_same
    have hx5 : upd H4 l (.lst []) x = _ := (upd_ne nxl).trans hx4
    have hk5 : upd H4 l (.lst []) k = _ := (upd_ne nkl).trans hk4
    have hp5 : upd H4 l (.lst []) p = _ := (upd_ne npl).trans hp4
    have b5 : But x H (upd H4 l (.lst [])) := b4.new nl
    generalize upd H4 l (.lst []) = H5 at hl5 hp5 hx5 hk5 b5 ⊢
    refine ⟨_, rfl, x, CS, dx, _, rfl, hx5, C.cl, C.nL, (by show 2 < 1000; decide), ?_⟩
    refine q _ ⟨x, k, p, l⟩ rfl b5.put nk np0 nl0 ⟨Sto.ok_nil, ⟨dx, upd_same⟩, (upd_ne (Ne.symm nxk)).trans hk5, ⟨[], (upd_ne (Ne.symm nxp)).trans hp5, .nil⟩, ⟨[], _, (upd_ne (Ne.symm nxl)).trans hl5, Lk.nil⟩, nkp, nkl, npl⟩
/-! ### make -/
def spMk0 (CS : Addr) : Sp := fun vs H Q _ => ∃ (d : Sad) (S : Sto) (kind : Str) (t : Addr) (ps : List Nat), vs = [.ref d.o, .str kind, .ref t] ∧ H t = some (.tup (ps.map vN)) ∧ ShIn CS H d S ∧ (∀ x ∈ ps, x < S.n) ∧ S.n < 100000 ∧ ps.length ≤ 2 ∧ ∀ H', But3 d H H' → ShIn CS H' d (S.mk' kind ps) → Q (vN S.n) H'
def spMk (CS : Addr) : Sp := fun vs H Q _ => ∃ (d : Sad) (S : Sto) (kind : Str) (ps : List Nat), vs = .ref d.o :: .str kind :: ps.map vN ∧ ShIn CS H d S ∧ (∀ x ∈ ps, x < S.n) ∧ S.n < 100000 ∧ ps.length ≤ 2 ∧ ∀ H', But3 d H H' → ShIn CS H' d (S.mk' kind ps) → Q (vN S.n) H'
abbrev nMk : List Str := ["self", "kind", "parts"]
theorem scMk : FnScope nMk ((["self", "kind"] : List Str) ++ (["parts"] : List Str)) (defScope sMk) := ⟨rfl, rfl, rfl, by decide +kernel, rfl, by decide +kernel, by decide +kernel⟩
theorem body_mk (B : B2 mg) (C : SC K mg CS) {f : Addr} (cdv : Value) (A : Around) (outer : List Env) (s : Shared) (H : Hp) (vs : List V) (Q : VK) (E : XK)
    (hr : Room 0 (A.deeper (PyProof.Rows.envOfC "Shapes.make" (defScope sMk) s.heap.objs.size f cdv))) (h : spMk0 CS vs H Q E) :
    ∃ t, PSs (cxOf CX0 P w K mg base nMk "Shapes.make" (defScope sMk) f cdv A outer s H E) (defBody sMk) t ∧ t { nx := fun _ H' => Q .non H', rt := Q } (start nMk vs) H := by
  obtain ⟨d, S, kind, t, ps, rfl, ht, h, hps, hn, hp2', q⟩ := h
  obtain ⟨dx, hi⟩ := h.ins
  obtain ⟨as, hp, hpp⟩ := h.hp
  obtain ⟨L, rk, hl, lk⟩ := h.hl
  obtain ⟨n1, n2, n3⟩ := h.ne
  have hk := h.hk
  have ok := h.ok
  refine ⟨_, pss_cons (ps_expr (pe_bm PySem.F.plainAttrs_list PySem.F.slot_list_append PySem.F.type_list_append mt_append (pe_fld (pv 0) rfl) (pa_cons (pv 1) pa_nil)))
    (pss_cons (ps_expr (pe_bm PySem.F.plainAttrs_list PySem.F.slot_list_append PySem.F.type_list_append mt_append (pe_fld (pv 0) rfl) (pa_cons (pv 2) pa_nil)))
    (pss_cons (ps_expr (pe_bm PySem.F.plainAttrs_list PySem.F.slot_list_append PySem.F.type_list_append mt_append (pe_fld (pv 0) rfl) (pa_cons (pe_callB call_len_seq (by rfl) B.len PySem.boot_len (pa_cons (pe_fld (pv 0) rfl) pa_nil)) pa_nil)))
    (pss_one (ps_ret (pe_op op_sub (pe_callB call_len_seq (by rfl) B.len PySem.boot_len (pa_cons (pe_fld (pv 0) rfl) pa_nil)) pe_int))))), ?_⟩
  have io : ∀ {a : Addr} {xs : List V}, H a = some (.lst xs) → d.o ≠ a := fun {a xs} e z => by
    rw [z, e] at hi
    cases hi
  have it : ∀ {a : Addr} {xs : List V}, H a = some (.lst xs) → t ≠ a := fun {a xs} e z => by
    rw [z, e] at ht
    cases ht
  have lenk : S.kinds.length = S.n := ok.kl
  have lenp : as.length = S.n := (Paired.length hpp).trans ok.pl
  have big : ∀ {m : Nat}, m ≤ 100000 → m < sizeLine := fun h => Nat.lt_of_le_of_lt h (by decide)
  refine ⟨_, rfl, d.o, CS, dx, _, _, rfl, hi, C.cl, C.nK, rfl, .inl ⟨rfl, _, SqL.of hk⟩, _, rfl, d.k, _, _, rfl, rfl, hk, big (by rw [List.length_map, lenk]; omega), ?_⟩
  have hk1 : upd H d.k (.lst (S.kinds.map V.str ++ [.str kind])) d.k = some (.lst ((S.kinds ++ [kind]).map V.str)) := by rw [upd_same, List.map_append]; rfl
  have k1 : ∀ {a : Addr} {o : HO}, a ≠ d.k → H a = some o → upd H d.k (.lst (S.kinds.map V.str ++ [.str kind])) a = some o := fun n e => (upd_ne n).trans e
  generalize upd H d.k (.lst (S.kinds.map V.str ++ [.str kind])) = H1 at hk1 k1 ⊢
  have hi1 := k1 (io hk) hi
  have hp1 := k1 (Ne.symm n1) hp
  have hl1 := k1 (Ne.symm n2) hl
  have ht1 := k1 (it hk) ht
  refine ⟨_, rfl, d.o, CS, dx, _, _, rfl, hi1, C.cl, C.nP, rfl, .inl ⟨rfl, _, SqL.of hp1⟩, _, rfl, d.p, _, _, rfl, rfl, hp1, big (by rw [List.length_map, lenp]; omega), ?_⟩
  have hp2 : upd H1 d.p (.lst (as.map V.ref ++ [.ref t])) d.p = some (.lst ((as ++ [t]).map V.ref)) := by rw [upd_same, List.map_append]; rfl
  have k2 : ∀ {a : Addr} {o : HO}, a ≠ d.p → H1 a = some o → upd H1 d.p (.lst (as.map V.ref ++ [.ref t])) a = some o := fun n e => (upd_ne n).trans e
  generalize upd H1 d.p (.lst (as.map V.ref ++ [.ref t])) = H2 at hp2 k2 ⊢
  have hi2 := k2 (io hp) hi1
  have hk2 := k2 n1 hk1
  have hl2 := k2 (Ne.symm n3) hl1
  have ht2 := k2 (it hp) ht1
  refine ⟨_, rfl, d.o, CS, dx, _, _, rfl, hi2, C.cl, C.nL, rfl, .inl ⟨rfl, _, SqL.of hl2⟩, _, rfl, d.o, CS, dx, _, _, rfl, hi2, C.cl, C.nL, rfl, d.l, _, rfl, .inl (SqL.of hl2), d.l, _, _, rfl, rfl, hl2, big (by rw [List.length_map, lk.len]; omega), ?_⟩
  have el : ((L.map vN).length : Nat) = L.length := List.length_map _
  have hl3 : upd H2 d.l (.lst (L.map vN ++ [.int ((L.map vN).length : Nat)])) d.l = some (.lst ((L ++ [L.length]).map vN)) := by rw [upd_same, List.map_append, el]; rfl
  have k3 : ∀ {a : Addr} {o : HO}, a ≠ d.l → H2 a = some o → upd H2 d.l (.lst (L.map vN ++ [.int ((L.map vN).length : Nat)])) a = some o := fun n e => (upd_ne n).trans e
  generalize upd H2 d.l (.lst (L.map vN ++ [.int ((L.map vN).length : Nat)])) = H3 at hl3 k3 ⊢
  have hi3 := k3 (io hl) hi2
  have hk3 := k3 n2 hk2
  have hp3 := k3 n3 hp2
  have ht3 := k3 (it hl) ht2
  refine ⟨_, rfl, d.o, CS, dx, _, _, rfl, hi3, C.cl, C.nL, rfl, d.l, _, rfl, .inl (SqL.of hl3), _, _, rfl, rfl, ?_⟩
  have e9 : (((L ++ [L.length]).map vN).length : Nat) = L.length + 1 := by rw [List.length_map, List.length_append]; rfl
  rw [e9]
  have e8 : (((L.length + 1 : Nat) : Int) - 1) = ((S.n : Nat) : Int) := by rw [← lk.len]; omega
  show Q (V.int (((L.length + 1 : Nat) : Int) - 1)) H3
  rw [e8]
  have all : ∀ {a : Addr} {o : HO}, a ≠ d.k → a ≠ d.p → a ≠ d.l → H a = some o → H3 a = some o := fun a1 a2 a3 e => k3 a3 (k2 a2 (k1 a1 e))
  refine q H3 (fun b o e a1 a2 a3 => all a1 a2 a3 e) ⟨ok.mk' hps (by omega) hp2', ⟨dx, hi3⟩, hk3, ⟨as ++ [t], hp3, ?_⟩, ⟨_, rk, hl3, lk.mk'⟩, n1, n2, n3⟩
  refine Paired.snoc (Paired.mapP hpp fun a ns e => ?_) ht3
  have ne : ∀ {a2 : Addr} {xs : List V}, H a2 = some (.lst xs) → a ≠ a2 := fun {a2 xs} e2 z => by
    rw [z, e2] at e
    cases e
  exact all (ne hk) (ne hp) (ne hl) e
theorem ok_mk {f : Addr} {fd : FuncData} (F : Fun K "make" "Shapes.make" sMk f fd) (B : B2 mg) (C : SC K mg CS) : FnR P w K mg base CX0 1 f (spMk CS) := by
  obtain ⟨oc, od, kV, doc, pm, an, cdv, ct, osl, rfl, lk, hcd⟩ := F.ex
  refine FnR.imp (StX.fn_star (CX := CX0) (ps := ["self", "kind"]) (pv := "parts") lk hcd scMk StX.cxUp_none (StX.bind_star2 (B := fun vs => bindArgs (PySem.W.fnOf "make" "Shapes.make" (defArgs sMk) (defBody sMk) (defScope sMk) .none kV doc pm an cdv ct) ⟨vs, []⟩) (fun a b => rfl) (fun a b r rs => rfl)) (fun A outer s H vs Q E hr h => body_mk B C cdv A outer s H vs Q E hr h)) fun vs H Q E hs => ?_
  obtain ⟨d, S, kind, ps, rfl, h, hps, hn, hl, q⟩ := hs
  refine ⟨[.ref d.o, .str kind], ps.map vN, rfl, rfl, Nat.le_trans (by rw [List.length_map]; exact hl) (by decide), fun p np => ?_⟩
  have s1 : Same H (upd H p (.tup (ps.map vN))) := same_new (fun _ _ e => e) np
  exact ⟨d, S, kind, p, ps, rfl, upd_same, h.same s1, hps, hn, hl, fun H' b h' => q H' ((But3.same s1).trans b) h'⟩
/-! ### pile -/
def Off (d : Sad) (a : Addr) : Prop := a ≠ d.k ∧ a ≠ d.p ∧ a ≠ d.l
theorem But3.at {d : Sad} {H H' : Hp} {a : Addr} {o : HO} (b : But3 d H H') (h : Off d a) (e : H a = some o) : H' a = some o := b a o e h.1 h.2.1 h.2.2
theorem pile_snoc : ∀ (S : Sto) (b : Nat) (xs : List Nat) (x : Nat), S.pile b (xs ++ [x]) = ((S.pile b xs).1.mk' "push" [(S.pile b xs).2, x], (S.pile b xs).1.n)
  | S, b, [], x => rfl
  | S, b, y :: xs, x => pile_snoc (S.mk' "push" [b, y]) S.n xs x
theorem pile_n : ∀ (S : Sto) (b : Nat) (xs : List Nat), (S.pile b xs).1.n = S.n + xs.length
  | S, b, [] => rfl
  | S, b, y :: xs => by
    show ((S.mk' "push" [b, y]).pile S.n xs).1.n = _
    rw [pile_n, Sto.n_mk, List.length_cons]
    omega
theorem pile_lt : ∀ (S : Sto) (b : Nat) (xs : List Nat), b < S.n → (S.pile b xs).2 < (S.pile b xs).1.n
  | S, b, [], h => h
  | S, b, y :: xs, h => pile_lt (S.mk' "push" [b, y]) S.n xs (by rw [Sto.n_mk]; omega)
/-- where make lies -/
structure MkD (P : Program) (w : World) (K : PySem.W.Frag) (mg : Str → Option Value) (base : Heap) (CS fM : Addr) : Prop where
  C : SC K mg CS
  M : Meth K CS "make" fM
  G : FnR P w K mg base CX0 1 fM (spMk CS)
  push : ∃ t, mg "PUSH" = some (.str "push" t)
def spPil (CS : Addr) : Sp := fun vs H Q _ => ∃ (d : Sad) (S : Sto) (b : Nat) (a : Addr) (xs : List Nat), vs = [.ref d.o, vN b, .ref a] ∧ ShIn CS H d S ∧ H a = some (.lst (xs.map vN)) ∧ Off d a ∧ b < S.n ∧ (∀ x ∈ xs, x < S.n) ∧ S.n + xs.length ≤ 100000 ∧ ∀ H', But3 d H H' → ShIn CS H' d (S.pile b xs).1 → Q (vN (S.pile b xs).2) H'
abbrev nPil : List Str := ["self", "stack", "shapes", "shape"]
theorem scPil : FnScope nPil ["self", "stack", "shapes"] (defScope sPil) := ⟨rfl, rfl, rfl, by decide +kernel, rfl, by decide +kernel, by decide +kernel⟩
theorem ok_pil {f fM : Addr} {fd : FuncData} (F : Fun K "pile" "Shapes.pile" sPil f fd) (D : MkD P w K mg base CS fM) : FnOk P w K mg base CX0 2 f fd ["self", "stack", "shapes"] (spPil CS) := by
  obtain ⟨tp, hpu⟩ := D.push
  refine F.ok scPil (fun vs H Q E h => ?_) (fun cdv A outer s H vs Q E hr h => ?_)
  · obtain ⟨d, S, b, a, xs, rfl, _⟩ := h
    rfl
  · obtain ⟨d, S, b, a, xs, rfl, h, ha, ho, hb, hx, hl, q⟩ := h
    refine ⟨_, pss_cons (ps_for PassesOwn.never rfl (pi_list (pv 2)) (pg_name (i := 3) scPil.nd rfl (.inl rfl)) (pss_one (ps_set (i := 1) scPil.nd rfl (.inl rfl) (pe_methR (pv 0) D.C.cl D.M D.G hr pass0 (pa_cons (pe_glob (v := .str "push") rfl hpu ⟨_, rfl⟩) (pa_cons (pv 1) (pa_cons (pv 3) pa_nil)))))))
      (pss_one (ps_ret (pv 1))), ?_⟩
    refine ⟨_, rfl, a, rfl, ⟨_, SqL.of ha⟩, for_list (K := K) (a := a) (xs := xs.map vN) (fun i σ G => ∃ v3, σ = [some (.ref d.o), some (vN (S.pile b (xs.take i)).2), some (.ref a), v3] ∧ But3 d H G ∧ ShIn CS G d (S.pile b (xs.take i)).1) ⟨_, rfl, But3.refl, h⟩ (fun i σ G _ ⟨_, _, bt, _⟩ => SqL.of (bt.at ho ha)) ?_ ?_⟩
    · rintro i v σ G hi ⟨v3, rfl, bt, hG⟩
      rw [List.getElem?_map] at hi
      cases hg : xs[i]? with
      | none =>
        rw [hg] at hi
        cases hi
      | some x =>
        rw [hg] at hi
        cases hi
        have hxm : x ∈ xs := List.mem_of_getElem? hg
        have hil : i < xs.length := (List.getElem?_eq_some_iff.mp hg).1
        have en := pile_n S b (xs.take i)
        rw [List.length_take, Nat.min_eq_left (by omega)] at en
        obtain ⟨dx, hins⟩ := hG.ins
        refine ⟨_, rfl, d.o, dx, _, rfl, hins, rfl, _, rfl, _, rfl, d, _, "push", [(S.pile b (xs.take i)).2, x], rfl, hG, fun y hy => ?_, by omega, (by show 2 ≤ 2; decide), fun G' b' h' => ?_⟩
        · rcases List.mem_cons.mp hy with rfl | hy
          · exact pile_lt S b _ hb
          · rw [List.mem_singleton.mp hy, en]
            have := hx x hxm
            omega
        · rw [take_more hg, pile_snoc]
          exact ⟨_, rfl, bt.trans b', h'⟩
    · rintro σ G ⟨v3, rfl, bt, hG⟩
      have e9 : (xs.map vN).length = xs.length := List.length_map _
      rw [e9, List.take_length] at hG ⊢
      exact ⟨_, rfl, q G bt hG⟩
end
end SQ9
namespace SQ9
open PySem L2 SQ
abbrev sSet : Stmt := inClass (top 21) 3
abbrev sKin : Stmt := inClass (top 21) 4
abbrev sVar : Stmt := inClass (top 21) 5
abbrev sPar : Stmt := inClass (top 21) 6
theorem dec_vN (a b : Nat) : decide (vN a = vN b) = decide (a = b) := by
  by_cases h : a = b
  · subst h
    rw [decide_eq_true rfl, decide_eq_true rfl]
  · rw [decide_eq_false h, decide_eq_false fun z => h (by have := V.int.inj z; omega)]
theorem ixN_nat {n k : Nat} (h : k < n) : ixN n (k : Int) = some k := by
  unfold ixN
  rw [if_pos (by omega), if_pos (by omega)]
  simp
theorem at_vN {l : List Nat} {x y : Nat} (h : l[x]? = some y) : (l.map vN)[x]? = some (vN y) := by
  rw [List.getElem?_map, h]
  rfl
section
variable {P : Program} {w : World} {K : PySem.W.Frag} {mg : Str → Option Value} {base : Heap} {CS : Addr}
theorem ShIn.rel {H H' : Hp} {d : Sad} {S : Sto} (h : ShIn CS H d S) (b : But d.l H H') (hl : ∃ L rk, H' d.l = some (.lst (L.map vN)) ∧ Lk L S rk) : ShIn CS H' d S := by
  obtain ⟨dx, e⟩ := h.ins
  obtain ⟨ps, e1, e2⟩ := h.hp
  obtain ⟨L, rk, e3, e4⟩ := h.hl
  obtain ⟨n1, n2, n3⟩ := h.ne
  exact ⟨h.ok, ⟨dx, b _ _ e (ne_of e e3 (by intro z; cases z))⟩, b _ _ h.hk n2, ⟨ps, b _ _ e1 n3, Paired.mapP e2 fun _ _ z => b _ _ z (ne_of z e3 (by intro q; cases q))⟩, hl, n1, n2, n3⟩
theorem ShIn.put_other {H : Hp} {d : Sad} {S : Sto} {D : Addr} {xs ys : List V} (h : ShIn CS H d S) (hD : H D = some (.lst xs)) (n1 : D ≠ d.l) (n2 : D ≠ d.k) (n3 : D ≠ d.p) : ShIn CS (upd H D (.lst ys)) d S := by
  obtain ⟨dx, e⟩ := h.ins
  obtain ⟨ps, e1, e2⟩ := h.hp
  obtain ⟨L, rk, e3, e4⟩ := h.hl
  refine ⟨h.ok, ⟨dx, ?_⟩, (upd_ne (Ne.symm n2)).trans h.hk, ⟨ps, (upd_ne (Ne.symm n3)).trans e1, Paired.mapP e2 fun a _ z => ?_⟩, ⟨L, rk, (upd_ne (Ne.symm n1)).trans e3, e4⟩, h.ne⟩
  · rw [upd_ne (ne_of e hD (by intro z; cases z))]
    exact e
  · rw [upd_ne (ne_of z hD (by intro q; cases q))]
    exact z
theorem paired_at {α β : Type} {R : α → β → Prop} : ∀ {xs : List α} {ys : List β}, Paired R xs ys → ∀ {i : Nat} {y : β}, ys[i]? = some y → ∃ x, xs[i]? = some x ∧ R x y
  | _, _, .nil, i, y, h => by simp at h
  | _, _, .cons r _, 0, y, h => by
    cases h
    exact ⟨_, rfl, r⟩
  | _, _, .cons _ p, i + 1, y, h => paired_at p h
/-! ### settle -/
def spSet (CS : Addr) : Sp := fun vs H Q _ => ∃ (d : Sad) (S : Sto) (x : Nat), vs = [.ref d.o, vN x] ∧ ShIn CS H d S ∧ x < S.n ∧ ∀ H', But d.l H H' → ShIn CS H' d S → Q (vN (S.root x)) H'
theorem scSet : FnScope ["self", "shape"] ["self", "shape"] (defScope sSet) := ⟨rfl, rfl, rfl, by decide +kernel, rfl, by decide +kernel, by decide +kernel⟩
theorem ok_set {f : Addr} {fd : FuncData} (F : Fun K "settle" "Shapes.settle" sSet f fd) (C : SC K mg CS) : FnOk P w K mg base CX0 1 f fd ["self", "shape"] (spSet CS) := by
  refine F.ok scSet (fun vs H Q E h => ?_) (fun cdv A outer s H vs Q E hr h => ?_)
  · obtain ⟨d, S, x, rfl, _⟩ := h
    rfl
  · obtain ⟨d, S, x, rfl, h, hx, q⟩ := h
    refine ⟨_, pss_cons (ps_while PassesOwn.never (pt_cmpR op_ne (pe_ix ix_list (pe_fld (pv 0) rfl) (pv 1) (fun _ _ => rfl)) (pv 1) (nomark _))
        (pss_cons (ps_asg (pe_ix ix_list (pe_fld (pv 0) rfl) (pe_ix ix_list (pe_fld (pv 0) rfl) (pv 1) (fun _ _ => rfl)) (fun _ _ => rfl)) (pg_sub (pe_fld (pv 0) rfl) (pv 1) set_list))
        (pss_one (ps_set (i := 1) scSet.nd rfl (.inl rfl) (pe_ix ix_list (pe_fld (pv 0) rfl) (pv 1) (fun _ _ => rfl))))))
      (pss_one (ps_ret (pv 1))), ?_⟩
    obtain ⟨dx, hi⟩ := h.ins
    obtain ⟨L0, rk, hl0, lk0⟩ := h.hl
    have nol : d.o ≠ d.l := ne_of hi hl0 (by intro z; cases z)
    refine ⟨fun m σ G => ∃ y L, m = rk y ∧ σ = [some (.ref d.o), some (vN y)] ∧ G d.l = some (.lst (L.map vN)) ∧ Lk L S rk ∧ y < S.n ∧ S.root y = S.root x ∧ But d.l H G, ⟨_, x, L0, rfl, rfl, hl0, lk0, hx, rfl, But.refl⟩, ?_⟩
    rintro m σ G ⟨y, L, rfl, rfl, hl, lk, hy, ry, bt⟩
    have hiG := bt _ _ hi nol
    obtain ⟨z, hz⟩ := lk.at hy
    refine ⟨_, rfl, d.o, CS, dx, _, _, rfl, hiG, C.cl, C.nL, rfl, _, rfl, d.l, _, _, _, rfl, rfl, SqL.of hl, atI_nat (at_vN hz), _, rfl, rfl, _, rfl, ?_⟩
    rw [dec_vN]
    by_cases e : z = y
    · rw [decide_eq_true e]
      refine iteF ⟨_, rfl, ?_⟩
      have hr0 : S.root y = y := lk.root (by rw [hz, e])
      rw [← ry, hr0] at q
      exact q G bt (h.rel bt ⟨L, rk, hl, lk⟩)
    · rw [decide_eq_false e]
      have hz1 := (lk.up y z hz).1
      obtain ⟨v, hv⟩ := lk.at hz1
      obtain ⟨lk2, v1, v2, v3⟩ := lk.half hz e hv
      refine iteT ⟨fun σ' G' => ∃ L', σ' = [some (.ref d.o), some (vN v)] ∧ G' d.l = some (.lst (L'.map vN)) ∧ Lk L' S rk ∧ But d.l H G', fun σ' G' ⟨L', e1, e2, e3, e4⟩ => ⟨rk v, v3, v, L', rfl, e1, e2, e3, v1, v2.trans ry, e4⟩, ?_⟩
      refine ⟨_, rfl, d.o, CS, dx, _, _, rfl, hiG, C.cl, C.nL, rfl, _, rfl, d.o, CS, dx, _, _, rfl, hiG, C.cl, C.nL, rfl, _, rfl, d.l, _, _, _, rfl, rfl, SqL.of hl, atI_nat (at_vN hz), d.l, _, _, _, rfl, rfl, SqL.of hl, atI_nat (at_vN hv), ?_⟩
      have hyl : y < (L.map vN).length := by
        rw [List.length_map, lk.len]
        exact hy
      refine ⟨_, rfl, d.o, CS, dx, _, _, rfl, hiG, C.cl, C.nL, rfl, _, rfl, d.l, _, _, y, rfl, rfl, hl, ixN_nat hyl, ?_⟩
      have hl2 : upd G d.l (.lst ((L.map vN).set y (vN v))) d.l = some (.lst ((L.set y v).map vN)) := by rw [upd_same, List.map_set]
      have b2 : But d.l H (upd G d.l (.lst ((L.map vN).set y (vN v)))) := bt.put
      have hi2 : upd G d.l (.lst ((L.map vN).set y (vN v))) d.o = _ := (upd_ne nol).trans hiG
      generalize upd G d.l (.lst ((L.map vN).set y (vN v))) = G2 at hl2 b2 hi2 ⊢
      have hself : (L.set y v)[y]? = some v := List.getElem?_set_self (by rw [lk.len]; exact hy)
      exact ⟨_, rfl, d.o, CS, dx, _, _, rfl, hi2, C.cl, C.nL, rfl, _, rfl, d.l, _, _, _, rfl, rfl, SqL.of hl2, atI_nat (at_vN hself), _, rfl, hl2, lk2, b2⟩
/-- where settle lies -/
structure StD (P : Program) (w : World) (K : PySem.W.Frag) (mg : Str → Option Value) (base : Heap) (CS fS : Addr) (dS : FuncData) : Prop where
  C : SC K mg CS
  M : Meth K CS "settle" fS
  b : Binds K dS ["self", "shape"] []
  G : FnOk P w K mg base CX0 1 fS dS ["self", "shape"] (spSet CS)
/-! ### kind_of, is_variable, parts_of -/
def spKin (CS : Addr) : Sp := fun vs H Q _ => ∃ (d : Sad) (S : Sto) (x : Nat), vs = [.ref d.o, vN x] ∧ ShIn CS H d S ∧ x < S.n ∧ ∀ H', But d.l H H' → ShIn CS H' d S → Q (.str (S.kind (S.root x))) H'
theorem scKin : FnScope ["self", "shape"] ["self", "shape"] (defScope sKin) := ⟨rfl, rfl, rfl, by decide +kernel, rfl, by decide +kernel, by decide +kernel⟩
theorem at_kind {S : Sto} (o : S.Ok) {x : Nat} (h : x < S.n) : (S.kinds.map V.str)[x]? = some (.str (S.kind x)) := by
  rw [List.getElem?_map, o.kind_at h]
  rfl
theorem ok_kin {f fS : Addr} {fd dS : FuncData} (F : Fun K "kind_of" "Shapes.kind_of" sKin f fd) (D : StD P w K mg base CS fS dS) : FnOk P w K mg base CX0 2 f fd ["self", "shape"] (spKin CS) := by
  refine F.ok scKin (fun vs H Q E h => ?_) (fun cdv A outer s H vs Q E hr h => ?_)
  · obtain ⟨d, S, x, rfl, _⟩ := h
    rfl
  · obtain ⟨d, S, x, rfl, h, hx, q⟩ := h
    refine ⟨_, pss_one (ps_ret (pe_ix ix_list (pe_fld (pv 0) rfl) (pe_meth (pv 0) D.C.cl D.M D.G hr D.b .nil pass0 (pa_cons (pv 1) pa_nil)) (fun _ _ => rfl))), ?_⟩
    obtain ⟨dx, hi⟩ := h.ins
    refine ⟨_, rfl, d.o, CS, dx, _, _, rfl, hi, D.C.cl, D.C.nK, rfl, _, rfl, d.o, dx, _, rfl, hi, rfl, _, rfl, d, S, x, rfl, h, hx, fun H' b h' => ?_⟩
    exact ⟨d.k, _, _, _, rfl, rfl, SqL.of h'.hk, atI_nat (at_kind h'.ok (h'.ok.root_lt hx)), q H' b h'⟩
def spVar (CS : Addr) : Sp := fun vs H Q _ => ∃ (d : Sad) (S : Sto) (x : Nat), vs = [.ref d.o, vN x] ∧ ShIn CS H d S ∧ x < S.n ∧ ∀ H', Same H H' → Q (.bl (S.isVar x)) H'
theorem scVar : FnScope ["self", "shape"] ["self", "shape"] (defScope sVar) := ⟨rfl, rfl, rfl, by decide +kernel, rfl, by decide +kernel, by decide +kernel⟩
structure Kn4 (mg : Str → Option Value) : Prop where
  sv : ∃ t, mg "STACK_VARIABLE" = some (.str "stack variable" t)
  vv : ∃ t, mg "VALUE_VARIABLE" = some (.str "value variable" t)
theorem in_two (x a b : Str) : inV (.str x) [.str a, .str b] = (decide (x = a) || decide (x = b)) := by
  have e : ∀ y : Str, eqV (.str y) (.str x) = decide (x = y) := fun y => by
    unfold eqV
    by_cases h : x = y
    · subst h
      simp
    · rw [decide_eq_false h]
      simp
      exact fun z => h z.symm
  unfold inV
  rw [List.any_cons, List.any_cons, List.any_nil, e, e, Bool.or_false]
theorem ok_var {f : Addr} {fd : FuncData} (F : Fun K "is_variable" "Shapes.is_variable" sVar f fd) (C : SC K mg CS) (W : Kn4 mg) : FnOk P w K mg base CX0 1 f fd ["self", "shape"] (spVar CS) := by
  obtain ⟨t1, g1⟩ := W.sv
  obtain ⟨t2, g2⟩ := W.vv
  refine F.ok scVar (fun vs H Q E h => ?_) (fun cdv A outer s H vs Q E hr h => ?_)
  · obtain ⟨d, S, x, rfl, _⟩ := h
    rfl
  · obtain ⟨d, S, x, rfl, h, hx, q⟩ := h
    refine ⟨_, pss_one (ps_ret (pe_cmpR op_in_seq (pe_ix ix_list (pe_fld (pv 0) rfl) (pv 1) (fun _ _ => rfl)) (pe_tup (pa_cons (pe_glob (v := .str "stack variable") rfl g1 ⟨_, rfl⟩) (pa_cons (pe_glob (v := .str "value variable") rfl g2 ⟨_, rfl⟩) pa_nil))) (by rfl))), ?_⟩
    obtain ⟨dx, hi⟩ := h.ins
    refine ⟨_, rfl, d.o, CS, dx, _, _, rfl, hi, C.cl, C.nK, rfl, _, rfl, d.k, _, _, _, rfl, rfl, SqL.of h.hk, atI_nat (at_kind h.ok hx), (by show 2 ≤ sizeLine; decide), fun p np => ?_⟩
    refine ⟨p, _, rfl, .inr (SqT.of upd_same), rfl, rfl, ?_⟩
    rw [in_two]
    exact q _ (same_new (fun _ _ e => e) np)
def spPar (CS : Addr) : Sp := fun vs H Q _ => ∃ (d : Sad) (S : Sto) (x : Nat), vs = [.ref d.o, vN x] ∧ ShIn CS H d S ∧ x < S.n ∧ ∀ (H' : Hp) (p : Addr), But d.l H H' → H p = none → ShIn CS H' d S → H' p = some (.lst (((S.part (S.root x)).map S.root).map vN)) → Q (.ref p) H'
abbrev nPar : List Str := ["self", "shape", "part"]
theorem scPar : FnScope nPar ["self", "shape"] (defScope sPar) := ⟨rfl, rfl, rfl, by decide +kernel, rfl, by decide +kernel, by decide +kernel⟩
theorem ok_par {f fS : Addr} {fd dS : FuncData} (F : Fun K "parts_of" "Shapes.parts_of" sPar f fd) (D : StD P w K mg base CS fS dS) : FnOk P w K mg base CX0 2 f fd ["self", "shape"] (spPar CS) := by
  refine F.ok scPar (fun vs H Q E h => ?_) (fun cdv A outer s H vs Q E hr h => ?_)
  · obtain ⟨d, S, x, rfl, _⟩ := h
    rfl
  · obtain ⟨d, S, x, rfl, h, hx, q⟩ := h
    have hl := h.ok.part_2 (h.ok.root_lt hx)
    refine ⟨_, pss_one (ps_ret (pe_lc (own := [("part", 2)]) (g := gName 2) (tt := tYes) rfl scPar.nd (pi_tup (pe_ix ix_list (pe_fld (pv 0) rfl) (pe_meth (pv 0) D.C.cl D.M D.G hr D.b .nil pass0 (pa_cons (pv 1) pa_nil)) (fun _ _ => rfl))) (blkOk_by (N := nPar) (sc := defScope sPar) (by decide +kernel)) (fun _ _ _ _ _ => pg_name (i := 2) scPar.nd rfl (.inl rfl)) (fun _ _ _ _ _ => pts_nil)
      (fun _ _ _ _ _ => pe_meth (pv 0) D.C.cl D.M D.G hr D.b .nil pass0 (pa_cons (pv 2) pa_nil)))), ?_⟩
    obtain ⟨dx, hi⟩ := h.ins
    refine ⟨_, rfl, d.o, CS, dx, _, _, rfl, hi, D.C.cl, D.C.nP, rfl, _, rfl, d.o, dx, _, rfl, hi, rfl, _, rfl, d, S, x, rfl, h, hx, fun H1 b1 h1 => ?_⟩
    obtain ⟨ps, hp, hpp⟩ := h1.hp
    have hrl := h1.ok.root_lt hx
    obtain ⟨a, ha, hta⟩ := paired_at hpp (h1.ok.part_at hrl)
    have hpa : (ps.map V.ref)[S.root x]? = some (.ref a) := by
      rw [List.getElem?_map, ha]
      rfl
    refine ⟨d.p, _, _, _, rfl, rfl, SqL.of hp, atI_nat hpa, a, rfl, ⟨_, SqT.of hta⟩, fun D2 nD => ?_⟩
    obtain ⟨L1, rk1, hl1, lk1⟩ := h1.hl
    have nla : a ≠ d.l := ne_of hta hl1 (by intro z; cases z)
    have nlD : D2 ≠ d.l := (ne_of_none hl1 nD).symm
    have s2 : Same H1 (upd H1 D2 (.lst [])) := same_new (fun _ _ e => e) nD
    refine lc_tup (K := K) (a := a) (xs := (S.part (S.root x)).map vN) (fun i G => But d.l H1 G ∧ ShIn CS G d S ∧ G D2 = some (.lst ((((S.part (S.root x)).take i).map S.root).map vN))) ⟨Same.but s2, h1.same s2, upd_same⟩ (fun i G _ hG => SqT.of (hG.1 _ _ hta nla)) ?_ ?_
    · rintro i v G hi' ⟨bG, hG, hD⟩
      rw [List.getElem?_map] at hi'
      cases hg : (S.part (S.root x))[i]? with
      | none =>
        rw [hg] at hi'
        cases hi'
      | some y =>
        rw [hg] at hi'
        cases hi'
        have hy : y < S.n := h1.ok.part_lt hrl y (List.mem_of_getElem? hg)
        obtain ⟨dx2, hi2⟩ := hG.ins
        refine ⟨rfl, keptT ⟨_, rfl, d.o, dx2, _, rfl, hi2, rfl, _, rfl, d, S, y, rfl, hG, hy, fun G2 b2 h2 => ?_⟩⟩
        have hD2 := b2 _ _ hD nlD
        refine ⟨_, hD2, ?_, ?_, ?_, ?_⟩
        · rw [List.length_map, List.length_map]
          exact small1000 (Nat.le_trans (List.take_sublist _ _).length_le (by omega))
        · intro b o e nb
          rw [upd_ne (ne_of_none e nD)]
          exact b2 b o (bG b o e nb) nb
        · exact h2.put_other hD2 nlD (ne_of_none h1.hk nD).symm (ne_of_none hp nD).symm
        · rw [upd_same, take_more hg, List.map_append, List.map_append]
          rfl
    · rintro G ⟨bG, hG, hD⟩
      have e9 : ((S.part (S.root x)).map vN).length = (S.part (S.root x)).length := List.length_map _
      rw [e9, List.take_length] at hD
      refine q G D2 (b1.trans bG) ?_ hG hD
      cases e : H D2 with
      | none => rfl
      | some o => rw [b1 D2 o e nlD] at nD; cases nD
end
end SQ9
namespace SQ9
open PySem L2 SQ
abbrev sSpr : Stmt := inClass (top 21) 7
abbrev sFin : Stmt := inClass (top 21) 9
theorem ShIn.put' {CS : Addr} {H : Hp} {d : Sad} {S : Sto} {D : Addr} {old new : HO} (h : ShIn CS H d S) (hD : H D = some old) (ht : ∀ vs, old ≠ .tup vs) (hi : ∀ C dx fs, old ≠ .ins C dx fs) (off : Off d D) : ShIn CS (upd H D new) d S := by
  obtain ⟨dx, e⟩ := h.ins
  obtain ⟨ps, e1, e2⟩ := h.hp
  obtain ⟨L, rk, e3, e4⟩ := h.hl
  refine ⟨h.ok, ⟨dx, ?_⟩, (upd_ne (Ne.symm off.1)).trans h.hk, ⟨ps, (upd_ne (Ne.symm off.2.1)).trans e1, Paired.mapP e2 fun a _ z => ?_⟩, ⟨L, rk, (upd_ne (Ne.symm off.2.2)).trans e3, e4⟩, h.ne⟩
  · rw [upd_ne (fun q => by rw [q, hD] at e; exact hi _ _ _ (Option.some.inj e))]
    exact e
  · rw [upd_ne (fun q => by rw [q, hD] at z; exact ht _ (Option.some.inj z))]
    exact z
theorem ShIn.off {CS : Addr} {H : Hp} {d : Sad} {S : Sto} {p : Addr} (h : ShIn CS H d S) (n : H p = none) : Off d p := by
  obtain ⟨ps, e1, _⟩ := h.hp
  obtain ⟨L, rk, e3, _⟩ := h.hl
  exact ⟨(ne_of_none h.hk n).symm, (ne_of_none e1 n).symm, (ne_of_none e3 n).symm⟩
theorem but_free {l p : Addr} {H G : Hp} (b : But l H G) (n : G p = none) (ne : p ≠ l) : H p = none := by
  cases e : H p with
  | none => rfl
  | some o => rw [b p o e ne] at n; cases n
/-! ### spread -/
def sprF : Nat → Sto → Nat → List Nat → Option (Nat × List Nat)
  | 0, _, _, _ => none
  | m + 1, S, x, acc => if S.kind x = "push" then (match S.part x with | [a, b] => sprF m S (S.root a) (S.root b :: acc) | _ => none) else some (x, acc)
section
variable {P : Program} {w : World} {K : PySem.W.Frag} {mg : Str → Option Value} {base : Heap} {CS : Addr}
/-- where the methods of a store lie -/
structure ShD (P : Program) (w : World) (K : PySem.W.Frag) (mg : Str → Option Value) (base : Heap) (CS fM fS fK fV fP : Addr) (dS dK dV dP : FuncData) : Prop where
  m : MkD P w K mg base CS fM
  s : StD P w K mg base CS fS dS
  mK : Meth K CS "kind_of" fK
  bK : Binds K dK ["self", "shape"] []
  GK : FnOk P w K mg base CX0 2 fK dK ["self", "shape"] (spKin CS)
  mV : Meth K CS "is_variable" fV
  bV : Binds K dV ["self", "shape"] []
  GV : FnOk P w K mg base CX0 1 fV dV ["self", "shape"] (spVar CS)
  mP : Meth K CS "parts_of" fP
  bP : Binds K dP ["self", "shape"] []
  GP : FnOk P w K mg base CX0 2 fP dP ["self", "shape"] (spPar CS)
variable {fM fS fK fV fP : Addr} {dS dK dV dP : FuncData}
def spSpr (CS : Addr) : Sp := fun vs H Q _ => ∃ (d : Sad) (S : Sto) (x m b : Nat) (xs : List Nat), vs = [.ref d.o, vN x] ∧ ShIn CS H d S ∧ x < S.n ∧ m ≤ 100000 ∧ sprF m S (S.root x) [] = some (b, xs) ∧
  ∀ (H' : Hp) (t p : Addr), But d.l H H' → ShIn CS H' d S → H p = none → H t = none → H' t = some (.tup [vN b, .ref p]) → H' p = some (.lst (xs.map vN)) → Q (.ref t) H'
abbrev nSpr : List Str := ["self", "stack", "shapes", "shape"]
theorem scSpr : FnScope nSpr ["self", "stack"] (defScope sSpr) := ⟨rfl, rfl, rfl, by decide +kernel, rfl, by decide +kernel, by decide +kernel⟩
theorem ok_spr {f : Addr} {fd : FuncData} (F : Fun K "spread" "Shapes.spread" sSpr f fd) (D : ShD P w K mg base CS fM fS fK fV fP dS dK dV dP) : FnOk P w K mg base CX0 3 f fd ["self", "stack"] (spSpr CS) := by
  obtain ⟨tp, hpu⟩ := D.m.push
  have C := D.m.C
  refine F.ok scSpr (fun vs H Q E h => ?_) (fun cdv A outer s H vs Q E hr h => ?_)
  · obtain ⟨d, S, x, m, b, xs, rfl, _⟩ := h
    rfl
  · obtain ⟨d, S, x, m, b, xs, rfl, h, hx, hm, hF, q⟩ := h
    refine ⟨_, pss_cons (ps_set (i := 2) scSpr.nd rfl (.inl rfl) (pe_lst pa_nil))
      (pss_cons (ps_set (i := 1) scSpr.nd rfl (.inl rfl) (pe_meth (pv 0) C.cl D.s.M D.s.G (hr.mono (by decide)) D.s.b .nil pass0 (pa_cons (pv 1) pa_nil)))
      (pss_cons (ps_while PassesOwn.never (pt_cmpR op_eq (pe_ix ix_list (pe_fld (pv 0) rfl) (pv 1) (fun _ _ => rfl)) (pe_glob (v := .str "push") rfl hpu ⟨_, rfl⟩) (nomark _))
        (pss_cons (ps_asg (pe_meth (pv 0) C.cl D.mP D.GP (hr.mono (by decide)) D.bP .nil pass0 (pa_cons (pv 1) pa_nil)) (pg_lst rfl (pgs_cons (pg_name (i := 1) scSpr.nd rfl (.inl rfl)) (pgs_cons (pg_name (i := 3) scSpr.nd rfl (.inl rfl)) pgs_nil))))
        (pss_one (ps_expr (pe_bm PySem.F.plainAttrs_list PySem.F.slot_list_append PySem.F.type_list_append mt_append (pv 2) (pa_cons (pv 3) pa_nil))))))
      (pss_one (ps_ret (pe_tup (pa_cons (pv 1) (pa_cons (pe_revL (pv 2)) pa_nil))))))), ?_⟩
    refine ⟨(by show 0 ≤ sizeLine; decide), fun sh nsh => ?_⟩
    have s1 : Same H (upd H sh (.lst [])) := same_new (fun _ _ e => e) nsh
    have e1 : upd H sh (.lst []) sh = some (.lst []) := upd_same
    generalize upd H sh (.lst []) = H1 at s1 e1 ⊢
    have h1 := h.same s1
    have off := h.off nsh
    obtain ⟨dx, hi⟩ := h1.ins
    refine ⟨_, rfl, d.o, dx, _, rfl, hi, rfl, _, rfl, d, S, x, rfl, h1, hx, fun H2 b2 h2 => ?_⟩
    have e2 := b2 _ _ e1 off.2.2
    refine ⟨fun k σ G => ∃ y acc v3, sprF k S y acc = some (b, xs) ∧ y < S.n ∧ S.root y = y ∧ σ = [some (.ref d.o), some (vN y), some (.ref sh), v3] ∧ G sh = some (.lst (acc.reverse.map vN)) ∧ But d.l H G ∧ ShIn CS G d S ∧ acc.length + k ≤ m, ⟨m, S.root x, [], none, hF, h.ok.root_lt hx, h.ok.root_id hx, rfl, e2, (Same.but s1).trans b2, h2, by show 0 + m ≤ m; omega⟩, ?_⟩
    rintro k σ G ⟨y, acc, v3, hk, hy, ry, rfl, hsh, bG, hG, hlen⟩
    cases k with
    | zero => cases hk
    | succ k =>
      obtain ⟨dx2, hi2⟩ := hG.ins
      refine ⟨_, rfl, d.o, CS, dx2, _, _, rfl, hi2, C.cl, C.nK, rfl, _, rfl, d.k, _, _, _, rfl, rfl, SqL.of hG.hk, atI_nat (at_kind hG.ok hy), rfl, _, rfl, ?_⟩
      unfold sprF at hk
      by_cases e : S.kind y = "push"
      · rw [if_pos e] at hk
        rw [decide_eq_true (by rw [e])]
        refine iteT ?_
        match hp : S.part y, hk with
        | [p1, p2], hk =>
          have l1 : p1 < S.n := hG.ok.part_lt hy p1 (by rw [hp]; exact List.mem_cons_self)
          have l2 : p2 < S.n := hG.ok.part_lt hy p2 (by rw [hp]; exact List.mem_cons_of_mem _ List.mem_cons_self)
          refine ⟨fun σ' G' => ∃ v3', σ' = [some (.ref d.o), some (vN (S.root p1)), some (.ref sh), v3'] ∧ G' sh = some (.lst ((S.root p2 :: acc).reverse.map vN)) ∧ But d.l H G' ∧ ShIn CS G' d S, fun σ' G' ⟨v3', z1, z2, z3, z4⟩ => ⟨k, Nat.lt_succ_self k, S.root p1, S.root p2 :: acc, v3', hk, hG.ok.root_lt l1, hG.ok.root_id l1, z1, z2, z3, z4, by rw [List.length_cons]; omega⟩, ?_⟩
          refine ⟨_, rfl, d.o, dx2, _, rfl, hi2, rfl, _, rfl, d, S, y, rfl, hG, hy, fun G3 pl b3 npl h3 hpl => ?_⟩
          rw [ry, hp] at hpl
          refine ⟨pl, _, rfl, SqL.of hpl, rfl, _, _, rfl, _, _, rfl, rfl, ?_⟩
          have hsh3 := b3 _ _ hsh off.2.2
          refine ⟨_, rfl, .inl ⟨rfl, _, SqL.of hsh3⟩, _, rfl, sh, _, _, rfl, rfl, hsh3, ?_, ?_⟩
          · rw [List.length_map, List.length_reverse]
            exact Nat.lt_of_le_of_lt (by omega : acc.length ≤ 100000) (by decide)
          · refine ⟨_, rfl, ?_, ?_, h3.put' hsh3 (fun _ z => nomatch z) (fun _ _ _ z => nomatch z) off⟩
            · rw [upd_same, List.reverse_cons, List.map_append]
              rfl
            · intro a o ea na
              rw [upd_ne (ne_of_none ea nsh)]
              exact b3 a o (bG a o ea na) na
        | [], hk => cases hk
        | [_], hk => cases hk
        | _ :: _ :: _ :: _, hk => cases hk
      · rw [if_neg e] at hk
        cases hk
        rw [decide_eq_false (fun z => e (V.str.inj z))]
        refine iteF ?_
        refine ⟨_, rfl, _, rfl, sh, _, rfl, SqL.of hsh, fun p np => ⟨(by show 2 ≤ sizeLine; decide), fun t nt => ?_⟩⟩
        rw [List.map_reverse, List.reverse_reverse] at nt ⊢
        have offp := hG.off np
        have s4 : Same G (upd G p (.lst (xs.map vN))) := same_new (fun _ _ e => e) np
        have e4 : upd G p (.lst (xs.map vN)) p = some (.lst (xs.map vN)) := upd_same
        generalize upd G p (.lst (xs.map vN)) = G4 at s4 e4 nt ⊢
        have h4 := hG.same s4
        have offt := h4.off nt
        have s5 : Same G4 (upd G4 t (.tup [vN b, .ref p])) := same_new (fun _ _ e => e) nt
        exact q _ t p (bG.trans (Same.but (st s4 s5))) (h4.same s5) (but_free bG np offp.2.2) (but_free (bG.trans (Same.but s4)) nt offt.2.2) upd_same (s5 _ _ e4)
/-! ### is_finite -/
def kvL (lf : List (Nat × Bool)) : List (Key × V) := lf.map fun p => (Sum.inl (p.1 : Int), V.bl p.2)
def lget (lf : List (Nat × Bool)) (x : Nat) : Option Bool := (lf.find? fun p => decide (p.1 = x)).map (·.2)
def lput (lf : List (Nat × Bool)) (x : Nat) (b : Bool) : List (Nat × Bool) := if (lf.any fun p => decide (p.1 = x)) = true then lf.map (fun p => if p.1 = x then (p.1, b) else p) else lf ++ [(x, b)]
theorem dec_inl (a b : Nat) : decide ((Sum.inl (a : Int) : Key) = Sum.inl (b : Int)) = decide (a = b) := by
  by_cases h : a = b
  · rw [decide_eq_true h, decide_eq_true (by rw [h])]
  · rw [decide_eq_false h, decide_eq_false fun z => h (by have := Sum.inl.inj z; omega)]
theorem kvL_get (lf : List (Nat × Bool)) (x : Nat) : valV (kvL lf) (Sum.inl (x : Int)) = (lget lf x).map V.bl := by
  unfold valV lget kvL
  induction lf with
  | nil => rfl
  | cons p lf ih =>
    rw [List.map_cons, List.find?_cons, List.find?_cons, dec_inl]
    cases decide (p.1 = x) with
    | true => rfl
    | false => exact ih
theorem kvL_any (lf : List (Nat × Bool)) (x : Nat) : ((kvL lf).any fun kv => decide (kv.1 = Sum.inl (x : Int))) = lf.any fun p => decide (p.1 = x) := by
  unfold kvL
  rw [List.any_map]
  congr 1
  funext p
  exact dec_inl p.1 x
theorem kvL_put (lf : List (Nat × Bool)) (x : Nat) (b : Bool) : putK (kvL lf) (Sum.inl (x : Int)) (V.bl b) = kvL (lput lf x b) := by
  unfold putK lput
  rw [kvL_any]
  split
  · unfold kvL
    rw [List.map_map, List.map_map]
    refine List.map_congr_left fun p _ => ?_
    show (if (Sum.inl (p.1 : Int) : Key) = Sum.inl (x : Int) then _ else _) = _
    by_cases h : p.1 = x
    · rw [if_pos (by rw [h])]
      show _ = (fun p => ((Sum.inl (p.1 : Int) : Key), V.bl p.2)) (if p.1 = x then (p.1, b) else p)
      rw [if_pos h]
    · rw [if_neg fun z => h (by have := Sum.inl.inj z; omega)]
      show _ = (fun p => ((Sum.inl (p.1 : Int) : Key), V.bl p.2)) (if p.1 = x then (p.1, b) else p)
      rw [if_neg h]
  · unfold kvL
    rw [List.map_append]
    rfl
theorem lput_len (lf : List (Nat × Bool)) (x : Nat) (b : Bool) : (lput lf x b).length ≤ lf.length + 1 := by
  unfold lput
  split
  · rw [List.length_map]
    omega
  · rw [List.length_append]
    exact Nat.le_refl _
/-- what a shape's parts do -/
def finP (lf : List (Nat × Bool)) : List Nat → List Nat → Option (List Nat)
  | [], pend => some pend
  | p :: ps, pend => match lget lf p with
    | none => finP lf ps (p :: pend)
    | some b => if b then finP lf ps pend else none
theorem finP_cons (lf : List (Nat × Bool)) (p : Nat) (ps pend : List Nat) : finP lf (p :: ps) pend = (match lget lf p with | none => finP lf ps (p :: pend) | some b => if b then finP lf ps pend else none) := rfl
def finF : Nat → Sto → List (Nat × Bool) → List Nat → Option Bool
  | 0, _, _, _ => none
  | _ + 1, _, _, [] => some true
  | m + 1, S, lf, t :: rest => match lget lf (S.root t) with
    | some _ => finF m S (lput lf (S.root t) true) rest
    | none => match finP (lput lf (S.root t) false) ((S.part (S.root t)).map S.root) (t :: rest) with
      | none => some false
      | some pend => finF m S (lput lf (S.root t) false) pend
def spFin (CS : Addr) : Sp := fun vs H Q _ => ∃ (d : Sad) (S : Sto) (x m : Nat) (b : Bool), vs = [.ref d.o, vN x] ∧ ShIn CS H d S ∧ x < S.n ∧ m ≤ 100000 ∧ finF m S [] [x] = some b ∧ ∀ H', But d.l H H' → ShIn CS H' d S → Q (.bl b) H'
abbrev nFin : List Str := ["self", "shape", "left", "pending", "inner", "part"]
theorem scFin : FnScope nFin ["self", "shape"] (defScope sFin) := ⟨rfl, rfl, rfl, by decide +kernel, rfl, by decide +kernel, by decide +kernel⟩
theorem last_rev {α : Type} (t : α) (l : List α) (f : α → V) : atI (((t :: l).reverse).map f) (-1) = some (f t) := by
  rw [List.reverse_cons, List.map_append]
  unfold atI ixN
  rw [if_neg (by decide), if_pos (by rw [List.length_append]; simp only [List.length_map, List.length_singleton, List.map_cons, List.map_nil, List.length_reverse]; omega)]
  show ((l.reverse.map f) ++ [f t])[_]? = _
  rw [List.length_append]
  rw [List.getElem?_append_right (by simp only [List.length_map, List.length_singleton, List.length_reverse, List.map_cons, List.map_nil]; omega)]
  simp only [List.length_map, List.length_singleton, List.length_reverse, List.map_cons, List.map_nil]
  rw [show (-1 + ((l.length + 1 : Nat) : Int)).toNat - l.length = 0 from by omega]
  rfl
theorem ok_fin {f : Addr} {fd : FuncData} (F : Fun K "is_finite" "Shapes.is_finite" sFin f fd) (D : ShD P w K mg base CS fM fS fK fV fP dS dK dV dP) : FnOk P w K mg base CX0 3 f fd ["self", "shape"] (spFin CS) := by
  have C := D.m.C
  refine F.ok scFin (fun vs H Q E h => ?_) (fun cdv A outer s H vs Q E hr h => ?_)
  · obtain ⟨d, S, x, m, b, rfl, _⟩ := h
    rfl
  · obtain ⟨d, S, x, m, b, rfl, h, hx, hm, hF, q⟩ := h
    have hu := hu_of hr
    refine ⟨_, pss_cons (ps_set (i := 2) scFin.nd rfl (.inl rfl) pe_dnewK)
      (pss_cons (ps_set (i := 3) scFin.nd rfl (.inl rfl) (pe_lst (pa_cons (pv 1) pa_nil)))
      (pss_cons (ps_while PassesOwn.never (pt_truth (pv 3) (fun _ => rfl))
        (pss_cons (ps_set (i := 4) scFin.nd rfl (.inl rfl) (pe_meth (pv 0) C.cl D.s.M D.s.G (hr.mono (by decide)) D.s.b .nil pass0 (pa_cons (pe_ix ix_list (pv 3) (pe_un un_neg pe_int) (fun _ _ => rfl)) pa_nil)))
        (pss_cons (ps_if (pt_cmp (pc_din hu (pv 4) (pv 2)))
          (pss_cons (ps_asg pe_bl (pg_sub (pv 2) (pv 4) (set_dict hu)))
          (pss_cons (ps_expr (pe_bm0 PySem.F.plainAttrs_list PySem.F.slot_list_pop PySem.F.type_list_pop mt_pop (pv 3)))
          (pss_one ps_continue))) pss_nil)
        (pss_cons (ps_asg pe_bl (pg_sub (pv 2) (pv 4) (set_dict hu)))
        (pss_one (ps_for PassesOwn.never rfl (pi_list (pe_meth (pv 0) C.cl D.mP D.GP (hr.mono (by decide)) D.bP .nil pass0 (pa_cons (pv 4) pa_nil))) (pg_name (i := 5) scFin.nd rfl (.inl rfl))
          (pss_one (ps_if (pt_cmp (pc_dnotin hu (pv 5) (pv 2))) (pss_one (ps_expr (pe_bm PySem.F.plainAttrs_list PySem.F.slot_list_append PySem.F.type_list_append mt_append (pv 3) (pa_cons (pv 5) pa_nil))))
            (pss_one (ps_if (pt_not (pt_val (pe_dget hu (pv 2) (pv 5) (fun _ _ => rfl)))) (pss_one (ps_ret pe_bl)) pss_nil))))))))))
      (pss_one (ps_ret pe_bl)))), ?_⟩
    intro aL nL
    have s1 : Same H (upd H aL (.dK [])) := same_new (fun _ _ e => e) nL
    have e1 : upd H aL (.dK []) aL = some (.dK []) := upd_same
    have offL := h.off nL
    generalize upd H aL (.dK []) = H1 at s1 e1 ⊢
    refine ⟨_, rfl, (by show 1 ≤ sizeLine; decide), fun aP nP => ?_⟩
    have h1 := h.same s1
    have offP := h1.off nP
    have nLP : aL ≠ aP := ne_of_none e1 nP
    have s2 : Same H1 (upd H1 aP (.lst [vN x])) := same_new (fun _ _ e => e) nP
    have e2 : upd H1 aP (.lst [vN x]) aP = some (.lst [vN x]) := upd_same
    have nP0 : H aP = none := s1.free nP
    generalize upd H1 aP (.lst [vN x]) = H2 at s2 e2 ⊢
    have big : ∀ {k : Nat}, k ≤ 300000 → k < sizeLine := fun h => Nat.lt_of_le_of_lt h (by decide)
    refine ⟨fun k σ G => ∃ lf pend v4 v5, finF k S lf pend = some b ∧ (∀ t ∈ pend, t < S.n) ∧ σ = [some (.ref d.o), some (vN x), some (.ref aL), some (.ref aP), v4, v5] ∧ G aL = some (.dK (kvL lf)) ∧ G aP = some (.lst (pend.reverse.map vN)) ∧ But d.l H G ∧ ShIn CS G d S ∧ lf.length + k ≤ m ∧ pend.length + 2 * k ≤ 2 * m + 1,
      ⟨m, [], [x], none, none, hF, (fun t ht => by rw [List.mem_singleton.mp ht]; exact hx), rfl, s2 _ _ e1, e2, (Same.but (st s1 s2)), h1.same s2, by show 0 + m ≤ m; omega, by show 1 + 2 * m ≤ _; omega⟩, ?_⟩
    rintro k σ G ⟨lf, pend, v4, v5, hk, hpd, rfl, hL, hP, bG, hG, m1, m2⟩
    cases k with
    | zero => cases hk
    | succ k =>
      refine ⟨_, rfl, _, .inl ⟨_, SqL.of hP, rfl⟩, ?_⟩
      cases pend with
      | nil =>
        cases hk
        exact iteF (q G bG hG)
      | cons t rest =>
        have ene : (!(((t :: rest).reverse).map vN).isEmpty) = true := by
          rw [List.reverse_cons, List.map_append]
          cases (rest.reverse.map vN) <;> rfl
        rw [ene]
        refine iteT ?_
        have ht : t < S.n := hpd t List.mem_cons_self
        have hrl := hG.ok.root_lt ht
        refine ⟨fun σ' G' => ∃ lf' pend' v4' v5', finF k S lf' pend' = some b ∧ (∀ t ∈ pend', t < S.n) ∧ σ' = [some (.ref d.o), some (vN x), some (.ref aL), some (.ref aP), v4', v5'] ∧ G' aL = some (.dK (kvL lf')) ∧ G' aP = some (.lst (pend'.reverse.map vN)) ∧ But d.l H G' ∧ ShIn CS G' d S ∧ lf'.length + k ≤ m ∧ pend'.length + 2 * k ≤ 2 * m + 1, fun σ' G' hh => ⟨k, Nat.lt_succ_self k, hh⟩, ?_⟩
        obtain ⟨dx2, hi2⟩ := hG.ins
        refine ⟨_, rfl, d.o, dx2, _, rfl, hi2, rfl, _, rfl, _, rfl, aP, _, _, _, rfl, rfl, SqL.of hP, last_rev t rest vN, d, S, t, rfl, hG, ht, fun G2 b2 h2 => ?_⟩
        have hL2 := b2 _ _ hL offL.2.2
        have hP2 := b2 _ _ hP offP.2.2
        have bG2 := bG.trans b2
        refine ⟨_, rfl, _, rfl, aL, _, rfl, .inl ⟨_, Sum.inl ((S.root t : Nat) : Int), .inl hL2, rfl, rfl⟩, _, rfl, ?_⟩
        rw [kvL_get]
        have hk0 := hk
        unfold finF at hk
        have len2 : (kvL lf).length < sizeLine := big (by unfold kvL; rw [List.length_map]; omega)
        cases hg : lget lf (S.root t) with
        | some c =>
          rw [hg] at hk
          refine iteT ?_
          refine ⟨_, rfl, _, rfl, aL, _, rfl, DPut.k (k := Sum.inl ((S.root t : Nat) : Int)) hL2 len2, ?_⟩
          rw [kvL_put]
          have h3 := h2.put' (new := .dK (kvL (lput lf (S.root t) true))) hL2 (fun _ z => nomatch z) (fun _ _ _ z => nomatch z) offL
          have hL3 : upd G2 aL (.dK (kvL (lput lf (S.root t) true))) aL = some (.dK (kvL (lput lf (S.root t) true))) := upd_same
          have hP3 : upd G2 aL (.dK (kvL (lput lf (S.root t) true))) aP = _ := (upd_ne (Ne.symm nLP)).trans hP2
          have b3 : But d.l H (upd G2 aL (.dK (kvL (lput lf (S.root t) true)))) := fun a o ea na => by
            rw [upd_ne (ne_of_none ea nL)]
            exact bG2 a o ea na
          generalize upd G2 aL (.dK (kvL (lput lf (S.root t) true))) = G3 at h3 hL3 hP3 b3 ⊢
          refine ⟨_, rfl, .inl ⟨rfl, _, SqL.of hP3⟩, aP, _, vN t, rfl, rfl, hP3, ?_, ?_⟩
          · rw [List.reverse_cons, List.map_append, List.length_append]
            rw [List.getElem?_append_right (by simp only [List.length_map, List.length_singleton, List.length_reverse, List.map_cons, List.map_nil]; omega)]
            simp only [List.length_map, List.length_singleton, List.length_reverse, List.map_cons, List.map_nil]
            rw [show rest.length + 1 - 1 - rest.length = 0 from by omega]
            rfl
          · refine ⟨lput lf (S.root t) true, rest, _, _, hk, fun y hy => hpd y (List.mem_cons_of_mem _ hy), rfl, (upd_ne nLP).trans hL3, ?_, fun a o ea na => ?_, h3.put' hP3 (fun _ z => nomatch z) (fun _ _ _ z => nomatch z) offP, ?_, ?_⟩
            · rw [upd_same, List.reverse_cons, List.map_append]
              show some (HO.lst ((rest.reverse.map vN ++ [vN t]).dropLast)) = _
              rw [List.dropLast_concat]
            · rw [upd_ne (ne_of_none ea nP0)]
              exact b3 a o ea na
            · have := lput_len lf (S.root t) true
              omega
            · rw [List.length_cons] at m2
              omega
        | none =>
          rw [hg] at hk
          refine iteF ?_
          refine ⟨_, rfl, _, rfl, aL, _, rfl, DPut.k (k := Sum.inl ((S.root t : Nat) : Int)) hL2 len2, ?_⟩
          rw [kvL_put]
          generalize hlf : lput lf (S.root t) false = lf1 at hk ⊢
          have hlen1 : lf1.length ≤ lf.length + 1 := by
            rw [← hlf]
            exact lput_len lf (S.root t) false
          have h3 := h2.put' (new := .dK (kvL lf1)) hL2 (fun _ z => nomatch z) (fun _ _ _ z => nomatch z) offL
          have hL3 : upd G2 aL (.dK (kvL lf1)) aL = some (.dK (kvL lf1)) := upd_same
          have hP3 : upd G2 aL (.dK (kvL lf1)) aP = _ := (upd_ne (Ne.symm nLP)).trans hP2
          have b3 : But d.l H (upd G2 aL (.dK (kvL lf1))) := fun a o ea na => by
            rw [upd_ne (ne_of_none ea nL)]
            exact bG2 a o ea na
          generalize upd G2 aL (.dK (kvL lf1)) = G3 at h3 hL3 hP3 b3 ⊢
          obtain ⟨dx3, hi3⟩ := h3.ins
          refine ⟨_, rfl, d.o, dx3, _, rfl, hi3, rfl, _, rfl, d, S, S.root t, rfl, h3, hrl, fun G4 pl b4 npl h4 hpl => ?_⟩
          rw [hG.ok.root_id ht] at hpl
          have p2 : (S.part (S.root t)).length ≤ 2 := hG.ok.part_2 hrl
          have pn : ∀ y ∈ (S.part (S.root t)).map S.root, y < S.n := fun y hy => by
            obtain ⟨z, hz, rfl⟩ := List.mem_map.mp hy
            exact hG.ok.root_lt (hG.ok.part_lt hrl z hz)
          have p3 : ((S.part (S.root t)).map S.root).length ≤ 2 := by rw [List.length_map]; exact p2
          generalize (S.part (S.root t)).map S.root = qs at hk hpl pn p3
          have offpl : pl ≠ aP := (ne_of_none hP3 npl).symm
          have offpL : pl ≠ aL := (ne_of_none hL3 npl).symm
          have npl0 : H pl = none := but_free b3 npl (h3.off npl).2.2
          have b4' : But d.l H G4 := b3.trans b4
          have hL4 := b4 _ _ hL3 offL.2.2
          have hP4 := b4 _ _ hP3 offP.2.2
          refine ⟨pl, rfl, ⟨_, SqL.of hpl⟩, for_list (K := K) (a := pl) (xs := qs.map vN) (fun i σ G5 => ∃ pd v5', σ = [some (.ref d.o), some (vN x), some (.ref aL), some (.ref aP), some (vN (S.root t)), v5'] ∧ finP lf1 (qs.drop i) pd = finP lf1 qs (t :: rest) ∧ (∀ y ∈ pd, y < S.n) ∧ G5 aL = some (.dK (kvL lf1)) ∧ G5 aP = some (.lst (pd.reverse.map vN)) ∧ But d.l H G5 ∧ ShIn CS G5 d S ∧ pd.length ≤ (t :: rest).length + i ∧ G5 pl = some (.lst (qs.map vN)))
            ⟨t :: rest, _, rfl, rfl, hpd, hL4, hP4, b4', h4, Nat.le_refl _, hpl⟩ (fun i σ G5 _ ⟨_, _, _, _, _, _, _, _, _, _, z⟩ => SqL.of z) ?_ ?_⟩
          · rintro i v σ G5 hi5 ⟨pd, v5', rfl, hfp, hpdn, hL5, hP5, b5, h5, hlen5, hpl5⟩
            rw [List.getElem?_map] at hi5
            cases hgi : qs[i]? with
            | none =>
              rw [hgi] at hi5
              cases hi5
            | some p =>
              rw [hgi] at hi5
              cases hi5
              have hlt := (List.getElem?_eq_some_iff.mp hgi).1
              have hge := (List.getElem?_eq_some_iff.mp hgi).2
              have hdr : qs.drop i = p :: qs.drop (i + 1) := by
                rw [List.drop_eq_getElem_cons hlt, hge]
              rw [hdr, finP_cons] at hfp
              refine ⟨_, rfl, _, rfl, aL, _, rfl, .inl ⟨_, Sum.inl (p : Int), .inl hL5, rfl, rfl⟩, _, rfl, ?_⟩
              rw [kvL_get]
              cases hgp : lget lf1 p with
              | none =>
                rw [hgp] at hfp
                refine iteT ⟨_, rfl, .inl ⟨rfl, _, SqL.of hP5⟩, _, rfl, aP, _, _, rfl, rfl, hP5, ?_, ?_⟩
                · rw [List.length_map, List.length_reverse]
                  refine big ?_
                  omega
                · refine ⟨p :: pd, _, rfl, hfp, fun y hy => ?_, (upd_ne nLP).trans hL5, ?_, fun a o ea na => ?_, h5.put' hP5 (fun _ z => nomatch z) (fun _ _ _ z => nomatch z) offP, ?_, (upd_ne offpl).trans hpl5⟩
                  · rcases List.mem_cons.mp hy with rfl | hy
                    · exact pn _ (List.mem_of_getElem? hgi)
                    · exact hpdn y hy
                  · rw [upd_same, List.reverse_cons, List.map_append]
                    rfl
                  · rw [upd_ne (ne_of_none ea nP0)]
                    exact b5 a o ea na
                  · rw [List.length_cons]
                    omega
              | some c =>
                rw [hgp] at hfp
                refine iteF ⟨_, rfl, _, rfl, aL, V.bl c, rfl, .inl ⟨_, Sum.inl (p : Int), .inl hL5, rfl, by rw [kvL_get, hgp]; rfl⟩, _, rfl, ?_⟩
                cases c with
                | true =>
                  exact iteF ⟨pd, _, rfl, hfp, hpdn, hL5, hP5, b5, h5, by omega, hpl5⟩
                | false =>
                  refine iteT ?_
                  have e0 : finP lf1 qs (t :: rest) = none := hfp.symm
                  rw [e0] at hk
                  cases hk
                  exact q G5 b5 h5
          · rintro σ G5 ⟨pd, v5', rfl, hfp, hpdn, hL5, hP5, b5, h5, hlen5, hpl5⟩
            have e9 : (qs.map vN).length = qs.length := List.length_map _
            rw [e9] at hfp hlen5
            rw [List.drop_length] at hfp
            have e0 : finP lf1 qs (t :: rest) = some pd := hfp.symm
            rw [e0] at hk
            exact ⟨lf1, pd, _, _, hk, hpdn, rfl, hL5, hP5, b5, h5, by omega, by omega⟩
end
end SQ9
namespace SQ9
open PySem L2 SQ
abbrev sUni : Stmt := inClass (top 21) 8
/-- a statement that is never come to -/
theorem ps_never {X : Cx} {st : Stmt} : PS X st (fun _ _ _ => False) := ⟨fun _ _ _ _ _ _ h => h.elim⟩
/-- one pair of shapes of which one is a variable, or both are the same -/
def uni1 (S : Sto) (x y : Nat) : Option Sto := if S.root x = S.root y then some S else if S.isVar (S.root y) = true then some (S.link (S.root y) (S.root x)) else if S.isVar (S.root x) = true then some (S.link (S.root x) (S.root y)) else none
section
variable {P : Program} {w : World} {K : PySem.W.Frag} {mg : Str → Option Value} {base : Heap} {CS : Addr}
variable {fM fS fK fV fP : Addr} {dS dK dV dP : FuncData}
theorem ShIn.link {H : Hp} {d : Sad} {S : Sto} (h : ShIn CS H d S) {f s : Nat} (hf : f < S.n) (hs : s < S.n) (rf : S.root f = f) (rs : S.root s = s) (ne : f ≠ s) : ∃ L : List Nat, H d.l = some (.lst (L.map vN)) ∧ L.length = S.n ∧ ShIn CS (upd H d.l (.lst ((L.map vN).set f (vN s)))) d (S.link f s) := by
  obtain ⟨dx, e⟩ := h.ins
  obtain ⟨ps, e1, e2⟩ := h.hp
  obtain ⟨L, rk, e3, e4⟩ := h.hl
  obtain ⟨n1, n2, n3⟩ := h.ne
  refine ⟨L, e3, e4.len, h.ok.link hs rs ne, ⟨dx, ?_⟩, (upd_ne n2).trans h.hk, ⟨ps, (upd_ne n3).trans e1, Paired.mapP e2 fun a _ z => ?_⟩, ⟨L.set f s, _, ?_, e4.link h.ok hf hs rf rs ne⟩, n1, n2, n3⟩
  · rw [upd_ne (ne_of e e3 (by intro z; cases z))]
    exact e
  · rw [upd_ne (ne_of z e3 (by intro q; cases q))]
    exact z
  · rw [upd_same, List.map_set]
def spUni (CS : Addr) : Sp := fun vs H Q _ => ∃ (d : Sad) (S S1 : Sto) (x y m : Nat) (b : Bool), vs = [.ref d.o, vN x, vN y] ∧ ShIn CS H d S ∧ x < S.n ∧ y < S.n ∧ uni1 S x y = some S1 ∧ m ≤ 100000 ∧ finF m S1 [] [x] = some b ∧ ∀ H', But d.l H H' → ShIn CS H' d S1 → Q (.bl b) H'
abbrev nUni : List Str := ["self", "one", "other", "pending", "first", "second"]
theorem scUni : FnScope nUni ["self", "one", "other"] (defScope sUni) := ⟨rfl, rfl, rfl, by decide +kernel, rfl, by decide +kernel, by decide +kernel⟩
theorem ok_uni {f fF : Addr} {fd dF : FuncData} (F : Fun K "unify" "Shapes.unify" sUni f fd) (D : ShD P w K mg base CS fM fS fK fV fP dS dK dV dP) (MF : Meth K CS "is_finite" fF) (bF : Binds K dF ["self", "shape"] []) (GF : FnOk P w K mg base CX0 3 fF dF ["self", "shape"] (spFin CS)) : FnOk P w K mg base CX0 4 f fd ["self", "one", "other"] (spUni CS) := by
  have C := D.m.C
  refine F.ok scUni (fun vs H Q E h => ?_) (fun cdv A outer s H vs Q E hr h => ?_)
  · obtain ⟨d, S, S1, x, y, m, b, rfl, _⟩ := h
    rfl
  · obtain ⟨d, S, S1, x, y, m, b, rfl, h, hx, hy, hU, hm, hF, q⟩ := h
    refine ⟨_, pss_cons (ps_set (i := 3) scUni.nd rfl (.inl rfl) (pe_lst (pa_cons (pe_tup (pa_cons (pv 1) (pa_cons (pv 2) pa_nil))) pa_nil)))
      (pss_cons (ps_while PassesOwn.never (pt_truth (pv 3) (fun _ => rfl))
        (pss_cons (ps_asg (pe_bm0 PySem.F.plainAttrs_list PySem.F.slot_list_pop PySem.F.type_list_pop mt_pop (pv 3)) (pg_tup rfl (pgs_cons (pg_name (i := 4) scUni.nd rfl (.inl rfl)) (pgs_cons (pg_name (i := 5) scUni.nd rfl (.inl rfl)) pgs_nil))))
        (pss_cons (ps_par (i := 4) (j := 5) (by rfl) scUni.nd rfl rfl (by decide) rfl rfl (pa_cons (pe_meth (pv 0) C.cl D.s.M D.s.G (hr.mono (by decide)) D.s.b .nil pass0 (pa_cons (pv 4) pa_nil)) (pa_cons (pe_meth (pv 0) C.cl D.s.M D.s.G (hr.mono (by decide)) D.s.b .nil pass0 (pa_cons (pv 5) pa_nil)) pa_nil)) (by rfl))
        (pss_cons (ps_if (pt_cmpR op_eq (pv 4) (pv 5) (nomark _)) (pss_one ps_continue) pss_nil)
        (pss_cons (ps_if (pt_val (pe_meth (pv 0) C.cl D.mV D.GV (hr.mono (by decide)) D.bV .nil pass0 (pa_cons (pv 5) pa_nil))) (pss_one (ps_par (i := 4) (j := 5) (by rfl) scUni.nd rfl rfl (by decide) rfl rfl (pa_cons (pv 5) (pa_cons (pv 4) pa_nil)) (by rfl))) pss_nil)
        (pss_cons (ps_if (pt_not (pt_val (pe_meth (pv 0) C.cl D.mV D.GV (hr.mono (by decide)) D.bV .nil pass0 (pa_cons (pv 4) pa_nil)))) (pss_cons ps_never (pss_one ps_never)) pss_nil)
        (pss_one (ps_asg (pv 5) (pg_sub (pe_fld (pv 0) rfl) (pv 4) set_list)))))))))
      (pss_one (ps_ret (pe_meth (pv 0) C.cl MF GF hr bF .nil pass0 (pa_cons (pv 1) pa_nil))))), ?_⟩
    refine ⟨_, rfl, _, rfl, (by show 2 ≤ sizeLine; decide), fun t nt => ⟨(by show 1 ≤ sizeLine; decide), fun aP nP => ?_⟩⟩
    have s1 : Same H (upd H t (.tup [vN x, vN y])) := same_new (fun _ _ e => e) nt
    have e1 : upd H t (.tup [vN x, vN y]) t = some (.tup [vN x, vN y]) := upd_same
    generalize upd H t (.tup [vN x, vN y]) = H1 at s1 e1 nP ⊢
    have h1 := h.same s1
    have offP := h1.off nP
    have nP0 : H aP = none := s1.free nP
    have s2 : Same H1 (upd H1 aP (.lst [.ref t])) := same_new (fun _ _ e => e) nP
    have e2 : upd H1 aP (.lst [.ref t]) aP = some (.lst [.ref t]) := upd_same
    generalize upd H1 aP (.lst [.ref t]) = H2 at s2 e2 ⊢
    have hrx := h.ok.root_lt hx
    have hry := h.ok.root_lt hy
    refine ⟨fun k σ G => (k = 1 ∧ σ = [some (.ref d.o), some (vN x), some (vN y), some (.ref aP), none, none] ∧ G = H2) ∨ (k = 0 ∧ ∃ v4 v5, σ = [some (.ref d.o), some (vN x), some (vN y), some (.ref aP), v4, v5] ∧ G aP = some (.lst []) ∧ But d.l H G ∧ ShIn CS G d S1), ⟨1, .inl ⟨rfl, rfl, rfl⟩⟩, ?_⟩
    rintro k σ G (⟨rfl, rfl, rfl⟩ | ⟨rfl, v4, v5, rfl, hP, bG, hG⟩)
    · have hG := h1.same s2
      have bG : But d.l H G := Same.but (st s1 s2)
      refine ⟨_, rfl, _, .inl ⟨_, SqL.of e2, rfl⟩, iteT ⟨fun σ' G' => ∃ v4 v5, σ' = [some (.ref d.o), some (vN x), some (vN y), some (.ref aP), v4, v5] ∧ G' aP = some (.lst []) ∧ But d.l H G' ∧ ShIn CS G' d S1, fun σ' G' hh => ⟨0, Nat.zero_lt_one, .inr ⟨rfl, hh⟩⟩, ?_⟩⟩
      have h3 := hG.put' (new := .lst []) e2 (fun _ z => nomatch z) (fun _ _ _ z => nomatch z) offP
      refine ⟨_, rfl, .inl ⟨rfl, _, SqL.of e2⟩, aP, _, .ref t, rfl, rfl, e2, rfl, ?_⟩
      have e3 : upd G aP (.lst ([V.ref t].dropLast)) aP = some (.lst []) := upd_same
      have ntP : t ≠ aP := ne_of_none e1 nP
      have t3 : upd G aP (.lst ([V.ref t].dropLast)) t = some (.tup [vN x, vN y]) := (upd_ne ntP).trans (s2 _ _ e1)
      have b3 : But d.l H (upd G aP (.lst ([V.ref t].dropLast))) := fun a o ea na => by
        rw [upd_ne (ne_of_none ea nP0)]
        exact bG a o ea na
      have h3' : ShIn CS (upd G aP (.lst ([V.ref t].dropLast))) d S := h3
      generalize upd G aP (.lst ([V.ref t].dropLast)) = G3 at e3 t3 b3 h3' ⊢
      clear h3
      refine ⟨t, _, rfl, SqT.of t3, rfl, _, _, rfl, _, _, rfl, rfl, ?_⟩
      obtain ⟨dx3, hi3⟩ := h3'.ins
      refine ⟨_, rfl, d.o, dx3, _, rfl, hi3, rfl, _, rfl, d, S, x, rfl, h3', hx, fun G4 b4 h4 => ?_⟩
      obtain ⟨dx4, hi4⟩ := h4.ins
      refine ⟨_, rfl, d.o, dx4, _, rfl, hi4, rfl, _, rfl, d, S, y, rfl, h4, hy, fun G5 b5 h5 => ?_⟩
      have e5 := b5 _ _ (b4 _ _ e3 offP.2.2) offP.2.2
      have bb5 : But d.l H G5 := (b3.trans b4).trans b5
      refine ⟨_, _, rfl, ?_⟩
      have rrx := h.ok.root_id hx
      have rry := h.ok.root_id hy
      unfold uni1 at hU
      refine ⟨_, rfl, _, rfl, rfl, _, rfl, ?_⟩
      rw [dec_vN]
      by_cases exy : S.root x = S.root y
      · rw [decide_eq_true exy]
        rw [if_pos exy] at hU
        cases hU
        exact iteT ⟨_, _, rfl, e5, bb5, h5⟩
      · rw [decide_eq_false exy]
        rw [if_neg exy] at hU
        refine iteF ?_
        obtain ⟨dx5, hi5⟩ := h5.ins
        refine ⟨_, rfl, d.o, dx5, _, rfl, hi5, rfl, _, rfl, d, S, S.root y, rfl, h5, hry, fun G6 s6 => ⟨_, rfl, ?_⟩⟩
        have h6 := h5.same s6
        have e6 := s6 _ _ e5
        have bb6 : But d.l H G6 := bb5.trans (Same.but s6)
        obtain ⟨dx6, hi6⟩ := h6.ins
        have go : ∀ {f s : Nat}, f < S.n → s < S.n → S.root f = f → S.root s = s → f ≠ s → S.isVar f = true → some (S.link f s) = some S1 → ∀ (N : L2.St → Hp → Prop), (∀ v4 v5 G', G' aP = some (.lst []) → But d.l H G' → ShIn CS G' d S1 → N [some (.ref d.o), some (vN x), some (vN y), some (.ref aP), v4, v5] G') → ∀ G7, Same G6 G7 → ∃ L : List Nat, G7 d.l = some (.lst (L.map vN)) ∧ f < (L.map vN).length ∧ N [some (.ref d.o), some (vN x), some (vN y), some (.ref aP), some (vN f), some (vN s)] (upd G7 d.l (.lst ((L.map vN).set f (vN s)))) := fun {f s} hf hs rf rs ne hv eS N hN G7 s7 => by
          obtain ⟨L, hL, lL, hS⟩ := (h6.same s7).link hf hs rf rs ne
          cases eS
          refine ⟨L, hL, by rw [List.length_map, lL]; exact hf, hN _ _ _ ?_ ?_ hS⟩
          · rw [upd_ne offP.2.2]
            exact s7 _ _ e6
          · exact (bb6.trans (Same.but s7)).put
        by_cases vy : S.isVar (S.root y) = true
        · rw [if_pos vy] at hU
          rw [vy]
          refine iteT ⟨_, rfl, _, rfl, _, _, rfl, ?_⟩
          refine ⟨_, rfl, d.o, dx6, _, rfl, hi6, rfl, _, rfl, d, S, S.root y, rfl, h6, hry, fun G7 s7 => ⟨_, rfl, ?_⟩⟩
          rw [vy]
          refine iteF ?_
          obtain ⟨dx7, hi7⟩ := (h6.same s7).ins
          obtain ⟨L, hL, hlt, hN⟩ := go hry hrx rry rrx (Ne.symm exy) vy hU (fun σ' G' => ∃ v4 v5, σ' = [some (.ref d.o), some (vN x), some (vN y), some (.ref aP), v4, v5] ∧ G' aP = some (.lst []) ∧ But d.l H G' ∧ ShIn CS G' d S1) (fun v4 v5 G' a b c => ⟨v4, v5, rfl, a, b, c⟩) G7 s7
          exact ⟨_, rfl, _, rfl, d.o, CS, dx7, _, _, rfl, hi7, C.cl, C.nL, rfl, _, rfl, d.l, _, _, S.root y, rfl, rfl, hL, ixN_nat hlt, hN⟩
        · rw [if_neg vy] at hU
          have vy' : S.isVar (S.root y) = false := by
            cases e : S.isVar (S.root y) with
            | false => rfl
            | true => exact absurd e vy
          rw [vy']
          refine iteF ?_
          by_cases vx : S.isVar (S.root x) = true
          · rw [if_pos vx] at hU
            refine ⟨_, rfl, d.o, dx6, _, rfl, hi6, rfl, _, rfl, d, S, S.root x, rfl, h6, hrx, fun G7 s7 => ⟨_, rfl, ?_⟩⟩
            rw [vx]
            refine iteF ?_
            obtain ⟨dx7, hi7⟩ := (h6.same s7).ins
            obtain ⟨L, hL, hlt, hN⟩ := go hrx hry rrx rry exy vx hU (fun σ' G' => ∃ v4 v5, σ' = [some (.ref d.o), some (vN x), some (vN y), some (.ref aP), v4, v5] ∧ G' aP = some (.lst []) ∧ But d.l H G' ∧ ShIn CS G' d S1) (fun v4 v5 G' a b c => ⟨v4, v5, rfl, a, b, c⟩) G7 s7
            exact ⟨_, rfl, _, rfl, d.o, CS, dx7, _, _, rfl, hi7, C.cl, C.nL, rfl, _, rfl, d.l, _, _, S.root x, rfl, rfl, hL, ixN_nat hlt, hN⟩
          · rw [if_neg vx] at hU
            cases hU
    · refine ⟨_, rfl, _, .inl ⟨_, SqL.of hP, rfl⟩, iteF ?_⟩
      obtain ⟨dx, hi⟩ := hG.ins
      have en : S1.n = S.n := by
        unfold uni1 at hU
        split at hU
        · cases hU
          rfl
        · split at hU
          · cases hU
            exact Sto.n_link
          · split at hU
            · cases hU
              exact Sto.n_link
            · cases hU
      exact ⟨_, rfl, d.o, dx, _, rfl, hi, rfl, _, rfl, d, S1, x, m, b, rfl, hG, by rw [en]; exact hx, hm, hF, fun H' b' h' => q H' (bG.trans b') h'⟩
end
end SQ9
namespace SQ9
open PySem L2 SQ
abbrev sSv : Stmt := top 51
abbrev sVv : Stmt := top 52
abbrev sPl : Stmt := top 53
/-- so many new shapes of a kind -/
def mkN (S : Sto) (k : Str) : Nat → Sto
  | 0 => S
  | m + 1 => (mkN S k m).mk' k []
theorem mkN_n (S : Sto) (k : Str) : ∀ m, (mkN S k m).n = S.n + m
  | 0 => rfl
  | m + 1 => by
    show ((mkN S k m).mk' k []).n = _
    rw [Sto.n_mk, mkN_n S k m]
    omega
section
variable {P : Program} {w : World} {K : PySem.W.Frag} {mg : Str → Option Value} {base : Heap} {CS : Addr}
variable {fM fS fK fV fP : Addr} {dS dK dV dP : FuncData}
/-! ### new variables, plain values -/
structure Kn5 (mg : Str → Option Value) : Prop where
  sv : ∃ t, mg "STACK_VARIABLE" = some (.str "stack variable" t)
  vv : ∃ t, mg "VALUE_VARIABLE" = some (.str "value variable" t)
  pl : ∃ t, mg "PLAIN" = some (.str "plain" t)
  qu : ∃ t, mg "QUOTATION_shapes" = some (.str "quotation" t)
def spNew (CS : Addr) (k : Str) : Sp := fun vs H Q _ => ∃ (d : Sad) (S : Sto) (m : Nat), vs = [.ref d.o, vN m] ∧ ShIn CS H d S ∧ m ≤ 900 ∧ S.n + m ≤ 100000 ∧ ∀ (H' : Hp) (p : Addr), But3 d H H' → H p = none → ShIn CS H' d (mkN S k m) → H' p = some (.lst ((List.range' S.n m).map vN)) → Q (.ref p) H'
theorem scSv : FnScope ["shapes", "many", "place"] ["shapes", "many"] (defScope sSv) := ⟨rfl, rfl, rfl, by decide +kernel, rfl, by decide +kernel, by decide +kernel⟩
theorem ok_sv {f : Addr} {fd : FuncData} (F : Fun K "stack_variables" "stack_variables" sSv f fd) (BL : Blt mg) (D : MkD P w K mg base CS fM) (W : Kn5 mg) : FnOk P w K mg base CX0 2 f fd ["shapes", "many"] (spNew CS "stack variable") := by
  obtain ⟨tk, hk⟩ := W.sv
  refine F.ok scSv (fun vs H Q E h => ?_) (fun cdv A outer s H vs Q E hr h => ?_)
  · obtain ⟨d, S, m, rfl, _⟩ := h
    rfl
  · obtain ⟨d, S, m, rfl, h, hm, hn, q⟩ := h
    refine ⟨_, pss_one (ps_ret (pe_lc (own := [("place", 2)]) (g := gName 2) (tt := tYes) rfl scSv.nd (pi_range1 (by rfl) BL.range (pa_cons (pv 1) pa_nil)) (blkOk_by (N := ["shapes", "many", "place"]) (sc := defScope sSv) (by decide +kernel)) (fun _ _ _ _ _ => pg_name (i := 2) scSv.nd rfl (.inl rfl)) (fun _ _ _ _ _ => pts_nil)
      (fun _ _ _ _ _ => pe_methR (pv 0) D.C.cl D.M D.G hr pass0 (pa_cons (pe_glob (v := .str "stack variable") rfl hk ⟨_, rfl⟩) pa_nil)))), ?_⟩
    refine ⟨_, rfl, _, rfl, by omega, by omega, fun D2 nD => ?_⟩
    have off := h.off nD
    have s1 : Same H (upd H D2 (.lst [])) := same_new (fun _ _ e => e) nD
    refine lc_range (lo := 0) (n := ((m : Nat) : Int).toNat) (fun i G => But3 d H G ∧ ShIn CS G d (mkN S "stack variable" i) ∧ G D2 = some (.lst ((List.range' S.n i).map vN))) ⟨But3.same s1, h.same s1, upd_same⟩ ?_ ?_
    · rintro i G hi ⟨bG, hG, hD⟩
      rw [Int.toNat_natCast] at hi
      have en := mkN_n S "stack variable" i
      obtain ⟨dx, hins⟩ := hG.ins
      refine ⟨rfl, keptT ⟨_, rfl, d.o, dx, _, rfl, hins, rfl, d, _, "stack variable", [], rfl, hG, (fun _ z => nomatch z), by omega, (by show 0 ≤ 2; decide), fun G2 b2 h2 => ?_⟩⟩
      have hD2 := b2.at off hD
      refine ⟨_, hD2, ?_, fun b o e n1 n2 n3 => ?_, h2.put' hD2 (fun _ z => nomatch z) (fun _ _ _ z => nomatch z) off, ?_⟩
      · rw [List.length_map, List.length_range']
        exact small1000 (by omega)
      · rw [upd_ne (ne_of_none e nD)]
        exact b2 b o (bG b o e n1 n2 n3) n1 n2 n3
      · rw [upd_same, en, List.range'_concat, List.map_append]
        simp
    · rintro G ⟨bG, hG, hD⟩
      rw [Int.toNat_natCast] at hG hD
      exact q G D2 bG nD hG hD
theorem scVv : FnScope ["shapes", "many", "place"] ["shapes", "many"] (defScope sVv) := ⟨rfl, rfl, rfl, by decide +kernel, rfl, by decide +kernel, by decide +kernel⟩
theorem ok_vv {f : Addr} {fd : FuncData} (F : Fun K "value_variables" "value_variables" sVv f fd) (BL : Blt mg) (D : MkD P w K mg base CS fM) (W : Kn5 mg) : FnOk P w K mg base CX0 2 f fd ["shapes", "many"] (spNew CS "value variable") := by
  obtain ⟨tk, hk⟩ := W.vv
  refine F.ok scVv (fun vs H Q E h => ?_) (fun cdv A outer s H vs Q E hr h => ?_)
  · obtain ⟨d, S, m, rfl, _⟩ := h
    rfl
  · obtain ⟨d, S, m, rfl, h, hm, hn, q⟩ := h
    refine ⟨_, pss_one (ps_ret (pe_lc (own := [("place", 2)]) (g := gName 2) (tt := tYes) rfl scVv.nd (pi_range1 (by rfl) BL.range (pa_cons (pv 1) pa_nil)) (blkOk_by (N := ["shapes", "many", "place"]) (sc := defScope sVv) (by decide +kernel)) (fun _ _ _ _ _ => pg_name (i := 2) scVv.nd rfl (.inl rfl)) (fun _ _ _ _ _ => pts_nil)
      (fun _ _ _ _ _ => pe_methR (pv 0) D.C.cl D.M D.G hr pass0 (pa_cons (pe_glob (v := .str "value variable") rfl hk ⟨_, rfl⟩) pa_nil)))), ?_⟩
    refine ⟨_, rfl, _, rfl, by omega, by omega, fun D2 nD => ?_⟩
    have off := h.off nD
    have s1 : Same H (upd H D2 (.lst [])) := same_new (fun _ _ e => e) nD
    refine lc_range (lo := 0) (n := ((m : Nat) : Int).toNat) (fun i G => But3 d H G ∧ ShIn CS G d (mkN S "value variable" i) ∧ G D2 = some (.lst ((List.range' S.n i).map vN))) ⟨But3.same s1, h.same s1, upd_same⟩ ?_ ?_
    · rintro i G hi ⟨bG, hG, hD⟩
      rw [Int.toNat_natCast] at hi
      have en := mkN_n S "value variable" i
      obtain ⟨dx, hins⟩ := hG.ins
      refine ⟨rfl, keptT ⟨_, rfl, d.o, dx, _, rfl, hins, rfl, d, _, "value variable", [], rfl, hG, (fun _ z => nomatch z), by omega, (by show 0 ≤ 2; decide), fun G2 b2 h2 => ?_⟩⟩
      have hD2 := b2.at off hD
      refine ⟨_, hD2, ?_, fun b o e n1 n2 n3 => ?_, h2.put' hD2 (fun _ z => nomatch z) (fun _ _ _ z => nomatch z) off, ?_⟩
      · rw [List.length_map, List.length_range']
        exact small1000 (by omega)
      · rw [upd_ne (ne_of_none e nD)]
        exact b2 b o (bG b o e n1 n2 n3) n1 n2 n3
      · rw [upd_same, en, List.range'_concat, List.map_append]
        simp
    · rintro G ⟨bG, hG, hD⟩
      rw [Int.toNat_natCast] at hG hD
      exact q G D2 bG nD hG hD
theorem scPl : FnScope ["shapes", "many", "place"] ["shapes", "many"] (defScope sPl) := ⟨rfl, rfl, rfl, by decide +kernel, rfl, by decide +kernel, by decide +kernel⟩
theorem ok_pl {f : Addr} {fd : FuncData} (F : Fun K "plains" "plains" sPl f fd) (BL : Blt mg) (D : MkD P w K mg base CS fM) (W : Kn5 mg) : FnOk P w K mg base CX0 2 f fd ["shapes", "many"] (spNew CS "plain") := by
  obtain ⟨tk, hk⟩ := W.pl
  refine F.ok scPl (fun vs H Q E h => ?_) (fun cdv A outer s H vs Q E hr h => ?_)
  · obtain ⟨d, S, m, rfl, _⟩ := h
    rfl
  · obtain ⟨d, S, m, rfl, h, hm, hn, q⟩ := h
    refine ⟨_, pss_one (ps_ret (pe_lc (own := [("place", 2)]) (g := gName 2) (tt := tYes) rfl scPl.nd (pi_range1 (by rfl) BL.range (pa_cons (pv 1) pa_nil)) (blkOk_by (N := ["shapes", "many", "place"]) (sc := defScope sPl) (by decide +kernel)) (fun _ _ _ _ _ => pg_name (i := 2) scPl.nd rfl (.inl rfl)) (fun _ _ _ _ _ => pts_nil)
      (fun _ _ _ _ _ => pe_methR (pv 0) D.C.cl D.M D.G hr pass0 (pa_cons (pe_glob (v := .str "plain") rfl hk ⟨_, rfl⟩) pa_nil)))), ?_⟩
    refine ⟨_, rfl, _, rfl, by omega, by omega, fun D2 nD => ?_⟩
    have off := h.off nD
    have s1 : Same H (upd H D2 (.lst [])) := same_new (fun _ _ e => e) nD
    refine lc_range (lo := 0) (n := ((m : Nat) : Int).toNat) (fun i G => But3 d H G ∧ ShIn CS G d (mkN S "plain" i) ∧ G D2 = some (.lst ((List.range' S.n i).map vN))) ⟨But3.same s1, h.same s1, upd_same⟩ ?_ ?_
    · rintro i G hi ⟨bG, hG, hD⟩
      rw [Int.toNat_natCast] at hi
      have en := mkN_n S "plain" i
      obtain ⟨dx, hins⟩ := hG.ins
      refine ⟨rfl, keptT ⟨_, rfl, d.o, dx, _, rfl, hins, rfl, d, _, "plain", [], rfl, hG, (fun _ z => nomatch z), by omega, (by show 0 ≤ 2; decide), fun G2 b2 h2 => ?_⟩⟩
      have hD2 := b2.at off hD
      refine ⟨_, hD2, ?_, fun b o e n1 n2 n3 => ?_, h2.put' hD2 (fun _ z => nomatch z) (fun _ _ _ z => nomatch z) off, ?_⟩
      · rw [List.length_map, List.length_range']
        exact small1000 (by omega)
      · rw [upd_ne (ne_of_none e nD)]
        exact b2 b o (bG b o e n1 n2 n3) n1 n2 n3
      · rw [upd_same, en, List.range'_concat, List.map_append]
        simp
    · rintro G ⟨bG, hG, hD⟩
      rw [Int.toNat_natCast] at hG hD
      exact q G D2 bG nD hG hD
end
end SQ9
namespace SQ9
open PySem L2 SQ
abbrev sEca : Stmt := top 54
abbrev sEdi : Stmt := top 55
abbrev sEcu : Stmt := top 56
abbrev sEco : Stmt := top 57
abbrev sEch : Stmt := top 58
abbrev kS : Str := "stack variable"
abbrev kV9 : Str := "value variable"
abbrev kP : Str := "plain"
abbrev kQ : Str := "quotation"
def eCall (S : Sto) : Sto × Nat × Nat :=
  let S1 := mkN S kS 2
  let r := (S1.mk' kQ [S.n, S.n + 1]).pile S.n [S1.n]
  (r.1, r.2, S.n + 1)
def eDip (S : Sto) : Sto × Nat × Nat :=
  let S1 := mkN S kS 2
  let S2 := S1.mk' kV9 []
  let r := (S2.mk' kQ [S.n, S.n + 1]).pile S.n [S1.n, S2.n]
  let g := r.1.pile (S.n + 1) [S1.n]
  (g.1, r.2, g.2)
def eCurry (S : Sto) : Sto × Nat × Nat :=
  let S1 := mkN S kS 3
  let S2 := S1.mk' kV9 []
  let p := S2.pile (S.n + 1) [S1.n]
  let S3 := p.1.mk' kQ [p.2, S.n + 2]
  let S4 := S3.mk' kQ [S.n + 1, S.n + 2]
  let r := S4.pile S.n [S1.n, p.1.n]
  let g := r.1.pile S.n [S3.n]
  (g.1, r.2, g.2)
def eCompose (S : Sto) : Sto × Nat × Nat :=
  let S1 := mkN S kS 4
  let S2 := S1.mk' kQ [S.n + 1, S.n + 2]
  let S3 := S2.mk' kQ [S.n + 2, S.n + 3]
  let S4 := S3.mk' kQ [S.n + 1, S.n + 3]
  let r := S4.pile S.n [S1.n, S2.n]
  let g := r.1.pile S.n [S3.n]
  (g.1, r.2, g.2)
def eChoose (S : Sto) : Sto × Nat × Nat :=
  let S1 := S.mk' kS []
  let S2 := S1.mk' kV9 []
  let S3 := S2.mk' kP []
  let r := S3.pile S.n [S2.n, S1.n, S1.n]
  let g := r.1.pile S.n [S1.n]
  (g.1, r.2, g.2)
section
variable {P : Program} {w : World} {K : PySem.W.Frag} {mg : Str → Option Value} {base : Heap} {CS : Addr}
variable {fM fS fK fV fP : Addr} {dS dK dV dP : FuncData}
/-- what the effects of words are made with -/
structure IfD (P : Program) (w : World) (K : PySem.W.Frag) (mg : Str → Option Value) (base : Heap) (CS fM fPi fSv fVv fPl : Addr) (dPi dSv dVv dPl : FuncData) : Prop where
  m : MkD P w K mg base CS fM
  W : Kn5 mg
  mPi : Meth K CS "pile" fPi
  bPi : Binds K dPi ["self", "stack", "shapes"] []
  GPi : FnOk P w K mg base CX0 2 fPi dPi ["self", "stack", "shapes"] (spPil CS)
  gSv : mg "stack_variables" = some (.ref fSv)
  kSv : PySem.W.keepIn K (.ref fSv) = true
  bSv : Binds K dSv ["shapes", "many"] []
  GSv : FnOk P w K mg base CX0 2 fSv dSv ["shapes", "many"] (spNew CS kS)
  gVv : mg "value_variables" = some (.ref fVv)
  kVv : PySem.W.keepIn K (.ref fVv) = true
  bVv : Binds K dVv ["shapes", "many"] []
  GVv : FnOk P w K mg base CX0 2 fVv dVv ["shapes", "many"] (spNew CS kV9)
  gPl : mg "plains" = some (.ref fPl)
  kPl : PySem.W.keepIn K (.ref fPl) = true
  bPl : Binds K dPl ["shapes", "many"] []
  GPl : FnOk P w K mg base CX0 2 fPl dPl ["shapes", "many"] (spNew CS kP)
variable {fPi fSv fVv fPl : Addr} {dPi dSv dVv dPl : FuncData}
def spEff (CS : Addr) (m : Sto → Sto × Nat × Nat) : Sp := fun vs H Q _ => ∃ (d : Sad) (S : Sto), vs = [.ref d.o] ∧ ShIn CS H d S ∧ S.n + 20 ≤ 100000 ∧ ∀ (H' : Hp) (t : Addr), But3 d H H' → H t = none → ShIn CS H' d (m S).1 → H' t = some (.tup [vN (m S).2.1, vN (m S).2.2]) → Q (.ref t) H'
theorem mem2 {a b x : Nat} {n : Nat} (h : x ∈ [a, b]) (ha : a < n) (hb : b < n) : x < n := by
  rcases List.mem_cons.mp h with rfl | h
  · exact ha
  · rw [List.mem_singleton.mp h]
    exact hb
theorem mem1 {a x : Nat} {n : Nat} (h : x ∈ [a]) (ha : a < n) : x < n := by
  rw [List.mem_singleton.mp h]
  exact ha
theorem b3_free {d : Sad} {H G : Hp} {p : Addr} (b : But3 d H G) (n : G p = none) (o : Off d p) : H p = none := by
  cases e : H p with
  | none => rfl
  | some x => rw [b p x e o.1 o.2.1 o.2.2] at n; cases n
theorem scEca : FnScope ["shapes", "below", "after"] ["shapes"] (defScope sEca) := ⟨rfl, rfl, rfl, by decide +kernel, rfl, by decide +kernel, by decide +kernel⟩
theorem ok_eca {f : Addr} {fd : FuncData} (F : Fun K "effect_of_call" "effect_of_call" sEca f fd) (I : IfD P w K mg base CS fM fPi fSv fVv fPl dPi dSv dVv dPl) : FnOk P w K mg base CX0 3 f fd ["shapes"] (spEff CS eCall) := by
  obtain ⟨tq, hq⟩ := I.W.qu
  have C := I.m.C
  refine F.ok scEca (fun vs H Q E h => ?_) (fun cdv A outer s H vs Q E hr h => ?_)
  · obtain ⟨d, S, rfl, _⟩ := h
    rfl
  · obtain ⟨d, S, rfl, h, hn, q⟩ := h
    refine ⟨_, pss_cons (ps_asg (pe_call I.GSv hr rfl I.gSv I.kSv I.bSv .nil pass0 (pa_cons (pv 0) (pa_cons pe_int pa_nil))) (pg_lst rfl (pgs_cons (pg_name (i := 1) scEca.nd rfl (.inl rfl)) (pgs_cons (pg_name (i := 2) scEca.nd rfl (.inl rfl)) pgs_nil))))
      (pss_one (ps_ret (pe_tup (pa_cons (pe_meth (pv 0) C.cl I.mPi I.GPi hr I.bPi .nil pass0 (pa_cons (pv 1) (pa_cons (pe_lst (pa_cons (pe_methR (pv 0) C.cl I.m.M I.m.G (hr.mono (by decide)) pass0 (pa_cons (pe_glob (v := .str "quotation") rfl hq ⟨_, rfl⟩) (pa_cons (pv 1) (pa_cons (pv 2) pa_nil)))) pa_nil)) pa_nil))) (pa_cons (pv 2) pa_nil))))), ?_⟩
    refine ⟨_, rfl, d, S, 2, rfl, h, by decide, by omega, fun H1 p b1 np h1 hp => ?_⟩
    have e1 := mkN_n S kS 2
    refine ⟨p, _, rfl, SqL.of hp, rfl, _, _, rfl, _, _, rfl, rfl, ?_⟩
    obtain ⟨dx1, i1⟩ := h1.ins
    refine ⟨_, rfl, d.o, dx1, _, rfl, i1, rfl, _, rfl, _, rfl, d.o, dx1, _, rfl, i1, rfl, _, rfl, _, rfl, d, _, kQ, [S.n, S.n + 1], rfl, h1, fun x hx => mem2 hx (by omega) (by omega), by omega, (by show 2 ≤ 2; decide), fun H2 b2 h2 => ?_⟩
    have e2 : ((mkN S kS 2).mk' kQ [S.n, S.n + 1]).n = S.n + 3 := by rw [Sto.n_mk, e1]
    refine ⟨(by show 1 ≤ sizeLine; decide), fun l nl => ?_⟩
    have s3 : Same H2 (upd H2 l (.lst [vN (mkN S kS 2).n])) := same_new (fun _ _ e => e) nl
    have e3 : upd H2 l (.lst [vN (mkN S kS 2).n]) l = some (.lst [vN (mkN S kS 2).n]) := upd_same
    have offl := h2.off nl
    generalize upd H2 l (.lst [vN (mkN S kS 2).n]) = H3 at s3 e3 ⊢
    refine ⟨d, _, S.n, l, [(mkN S kS 2).n], rfl, h2.same s3, e3, offl, by omega, fun x hx => mem1 hx (by omega), (by rw [e2]; show S.n + 3 + 1 ≤ _; omega), fun H4 b4 h4 => ?_⟩
    refine ⟨_, rfl, (by show 2 ≤ sizeLine; decide), fun t nt => ?_⟩
    have bb : But3 d H H4 := ((b1.trans b2).trans (But3.same s3)).trans b4
    have s5 := same_new (o := .tup [vN (eCall S).2.1, vN (eCall S).2.2]) (fun _ _ e => e : Same H4 H4) nt
    exact q _ t (bb.trans (But3.same s5)) (b3_free bb nt (h4.off nt)) (h4.same s5) upd_same
end
end SQ9
namespace SQ9
open PySem L2 SQ
section
variable {P : Program} {w : World} {K : PySem.W.Frag} {mg : Str → Option Value} {base : Heap} {CS : Addr}
variable {fM fS fK fV fP : Addr} {dS dK dV dP : FuncData}
variable {fPi fSv fVv fPl : Addr} {dPi dSv dVv dPl : FuncData}
theorem mem3 {a b c x : Nat} {n : Nat} (h : x ∈ [a, b, c]) (ha : a < n) (hb : b < n) (hc : c < n) : x < n := by
  rcases List.mem_cons.mp h with rfl | h
  · exact ha
  · exact mem2 h hb hc
theorem scEdi : FnScope ["shapes", "below", "after", "kept", "taken"] ["shapes"] (defScope sEdi) := ⟨rfl, rfl, rfl, by decide +kernel, rfl, by decide +kernel, by decide +kernel⟩
theorem ok_edi {f : Addr} {fd : FuncData} (F : Fun K "effect_of_dip" "effect_of_dip" sEdi f fd) (I : IfD P w K mg base CS fM fPi fSv fVv fPl dPi dSv dVv dPl) : FnOk P w K mg base CX0 3 f fd ["shapes"] (spEff CS eDip) := by
  obtain ⟨tq, hqu⟩ := I.W.qu
  obtain ⟨tv, hvv⟩ := I.W.vv
  obtain ⟨ts, hsv⟩ := I.W.sv
  obtain ⟨tp, hpl⟩ := I.W.pl
  have C := I.m.C
  refine F.ok scEdi (fun vs H Q E h => ?_) (fun cdv A outer s H vs Q E hr h => ?_)
  · obtain ⟨d, S, rfl, _⟩ := h
    rfl
  · obtain ⟨d, S, rfl, h, hn, q⟩ := h
    refine ⟨_, (pss_cons (ps_asg (pe_call I.GSv hr rfl I.gSv I.kSv I.bSv .nil pass0 (pa_cons (pv 0) (pa_cons pe_int pa_nil))) (pg_lst rfl (pgs_cons (pg_name (i := 1) scEdi.nd rfl (.inl rfl)) (pgs_cons (pg_name (i := 2) scEdi.nd rfl (.inl rfl)) pgs_nil))))
      (pss_cons (ps_set (i := 3) scEdi.nd rfl (.inl rfl) (pe_methR (pv 0) C.cl I.m.M I.m.G (hr.mono (by decide)) pass0 (pa_cons (pe_glob (v := .str "value variable") rfl hvv ⟨_, rfl⟩) pa_nil)))
      (pss_cons (ps_set (i := 4) scEdi.nd rfl (.inl rfl) (pe_meth (pv 0) C.cl I.mPi I.GPi hr I.bPi .nil pass0 (pa_cons (pv 1) (pa_cons (pe_lst (pa_cons (pv 3) (pa_cons (pe_methR (pv 0) C.cl I.m.M I.m.G (hr.mono (by decide)) pass0 (pa_cons (pe_glob (v := .str "quotation") rfl hqu ⟨_, rfl⟩) (pa_cons (pv 1) (pa_cons (pv 2) pa_nil)))) pa_nil))) pa_nil))))
      (pss_one (ps_ret (pe_tup (pa_cons (pv 4) (pa_cons (pe_meth (pv 0) C.cl I.mPi I.GPi hr I.bPi .nil pass0 (pa_cons (pv 2) (pa_cons (pe_lst (pa_cons (pv 3) pa_nil)) pa_nil))) pa_nil)))))))), ?_⟩
    refine ⟨_, rfl, d, S, 2, rfl, h, by decide, by omega, fun H1 p1 b1 np1 h1 hp1 => ?_⟩
    have n1 : (mkN S kS 2).n = S.n + 2 := mkN_n S kS 2
    refine ⟨p1, _, rfl, SqL.of hp1, rfl, _, _, rfl, _, _, rfl, rfl, ?_⟩
    obtain ⟨dx2, i2⟩ := h1.ins
    refine ⟨_, rfl, d.o, dx2, _, rfl, i2, rfl, d, _, kV9, [], rfl, h1, (fun _ z => nomatch z), by omega, (by show 0 ≤ 2; decide), fun H3 b3 h3 => ?_⟩
    have n3 : ((mkN S kS 2).mk' kV9 []).n = S.n + 3 := by (rw [Sto.n_mk]) <;> omega
    obtain ⟨dx4, i4⟩ := h3.ins
    obtain ⟨dx5, i5⟩ := h3.ins
    refine ⟨_, rfl, d.o, dx4, _, rfl, i4, rfl, _, rfl, _, rfl, _, rfl, d.o, dx5, _, rfl, i5, rfl, _, rfl, _, rfl, d, _, kQ, [S.n, (S.n + 1)], rfl, h3, (fun x hx => mem2 hx (by omega) (by omega)), by omega, (by show 2 ≤ 2; decide), fun H6 b6 h6 => ?_⟩
    have n6 : (((mkN S kS 2).mk' kV9 []).mk' kQ [S.n, (S.n + 1)]).n = S.n + 4 := by (rw [Sto.n_mk]) <;> omega
    refine ⟨(by show 2 ≤ sizeLine; decide), fun l7 nl7 => ?_⟩
    have s7 : Same H6 (upd H6 l7 (.lst [vN (mkN S kS 2).n, vN ((mkN S kS 2).mk' kV9 []).n])) := same_new (fun _ _ e => e) nl7
    have e7 : upd H6 l7 (.lst [vN (mkN S kS 2).n, vN ((mkN S kS 2).mk' kV9 []).n]) l7 = some (.lst [vN (mkN S kS 2).n, vN ((mkN S kS 2).mk' kV9 []).n]) := upd_same
    have off7 := h6.off nl7
    have h7 := h6.same s7
    generalize upd H6 l7 (.lst [vN (mkN S kS 2).n, vN ((mkN S kS 2).mk' kV9 []).n]) = H7 at s7 e7 h7 ⊢
    refine ⟨d, _, S.n, l7, [(mkN S kS 2).n, ((mkN S kS 2).mk' kV9 []).n], rfl, h7, e7, off7, by omega, (fun x hx => mem2 hx (by omega) (by omega)), (by show (((mkN S kS 2).mk' kV9 []).mk' kQ [S.n, (S.n + 1)]).n + 2 ≤ _; omega), fun H8 b8 h8 => ?_⟩
    have n8 : ((((mkN S kS 2).mk' kV9 []).mk' kQ [S.n, (S.n + 1)]).pile S.n [(mkN S kS 2).n, ((mkN S kS 2).mk' kV9 []).n]).1.n = S.n + 6 := by rw [pile_n]; show (((mkN S kS 2).mk' kV9 []).mk' kQ [S.n, (S.n + 1)]).n + 2 = _; omega
    have r8 : ((((mkN S kS 2).mk' kV9 []).mk' kQ [S.n, (S.n + 1)]).pile S.n [(mkN S kS 2).n, ((mkN S kS 2).mk' kV9 []).n]).2 < S.n + 6 := by rw [← n8]; exact pile_lt _ _ _ (by omega)
    obtain ⟨dx9, i9⟩ := h8.ins
    refine ⟨_, rfl, _, rfl, d.o, dx9, _, rfl, i9, rfl, _, rfl, _, rfl, (by show 1 ≤ sizeLine; decide), fun l10 nl10 => ?_⟩
    have s10 : Same H8 (upd H8 l10 (.lst [vN (mkN S kS 2).n])) := same_new (fun _ _ e => e) nl10
    have e10 : upd H8 l10 (.lst [vN (mkN S kS 2).n]) l10 = some (.lst [vN (mkN S kS 2).n]) := upd_same
    have off10 := h8.off nl10
    have h10 := h8.same s10
    generalize upd H8 l10 (.lst [vN (mkN S kS 2).n]) = H10 at s10 e10 h10 ⊢
    refine ⟨d, _, (S.n + 1), l10, [(mkN S kS 2).n], rfl, h10, e10, off10, by omega, (fun x hx => mem1 hx (by omega)), (by show ((((mkN S kS 2).mk' kV9 []).mk' kQ [S.n, (S.n + 1)]).pile S.n [(mkN S kS 2).n, ((mkN S kS 2).mk' kV9 []).n]).1.n + 1 ≤ _; omega), fun H11 b11 h11 => ?_⟩
    have n11 : (((((mkN S kS 2).mk' kV9 []).mk' kQ [S.n, (S.n + 1)]).pile S.n [(mkN S kS 2).n, ((mkN S kS 2).mk' kV9 []).n]).1.pile (S.n + 1) [(mkN S kS 2).n]).1.n = S.n + 7 := by rw [pile_n]; show ((((mkN S kS 2).mk' kV9 []).mk' kQ [S.n, (S.n + 1)]).pile S.n [(mkN S kS 2).n, ((mkN S kS 2).mk' kV9 []).n]).1.n + 1 = _; omega
    have r11 : (((((mkN S kS 2).mk' kV9 []).mk' kQ [S.n, (S.n + 1)]).pile S.n [(mkN S kS 2).n, ((mkN S kS 2).mk' kV9 []).n]).1.pile (S.n + 1) [(mkN S kS 2).n]).2 < S.n + 7 := by rw [← n11]; exact pile_lt _ _ _ (by omega)
    have bb : But3 d H H11 := ((((((b1).trans b3).trans b6).trans (But3.same s7)).trans b8).trans (But3.same s10)).trans b11
    refine ⟨(by show 2 ≤ sizeLine; decide), fun t nt => ?_⟩
    have s5 := same_new (o := .tup [vN (eDip S).2.1, vN (eDip S).2.2]) (fun _ _ e => e : Same H11 H11) nt
    exact q _ t (bb.trans (But3.same s5)) (b3_free bb nt (h11.off nt)) (h11.same s5) upd_same
theorem scEcu : FnScope ["shapes", "below", "before", "after", "pushed", "asked", "made"] ["shapes"] (defScope sEcu) := ⟨rfl, rfl, rfl, by decide +kernel, rfl, by decide +kernel, by decide +kernel⟩
theorem ok_ecu {f : Addr} {fd : FuncData} (F : Fun K "effect_of_curry" "effect_of_curry" sEcu f fd) (I : IfD P w K mg base CS fM fPi fSv fVv fPl dPi dSv dVv dPl) : FnOk P w K mg base CX0 3 f fd ["shapes"] (spEff CS eCurry) := by
  obtain ⟨tq, hqu⟩ := I.W.qu
  obtain ⟨tv, hvv⟩ := I.W.vv
  obtain ⟨ts, hsv⟩ := I.W.sv
  obtain ⟨tp, hpl⟩ := I.W.pl
  have C := I.m.C
  refine F.ok scEcu (fun vs H Q E h => ?_) (fun cdv A outer s H vs Q E hr h => ?_)
  · obtain ⟨d, S, rfl, _⟩ := h
    rfl
  · obtain ⟨d, S, rfl, h, hn, q⟩ := h
    refine ⟨_, (pss_cons (ps_asg (pe_call I.GSv hr rfl I.gSv I.kSv I.bSv .nil pass0 (pa_cons (pv 0) (pa_cons pe_int pa_nil))) (pg_lst rfl (pgs_cons (pg_name (i := 1) scEcu.nd rfl (.inl rfl)) (pgs_cons (pg_name (i := 2) scEcu.nd rfl (.inl rfl)) (pgs_cons (pg_name (i := 3) scEcu.nd rfl (.inl rfl)) pgs_nil)))))
      (pss_cons (ps_set (i := 4) scEcu.nd rfl (.inl rfl) (pe_methR (pv 0) C.cl I.m.M I.m.G (hr.mono (by decide)) pass0 (pa_cons (pe_glob (v := .str "value variable") rfl hvv ⟨_, rfl⟩) pa_nil)))
      (pss_cons (ps_set (i := 5) scEcu.nd rfl (.inl rfl) (pe_methR (pv 0) C.cl I.m.M I.m.G (hr.mono (by decide)) pass0 (pa_cons (pe_glob (v := .str "quotation") rfl hqu ⟨_, rfl⟩) (pa_cons (pe_meth (pv 0) C.cl I.mPi I.GPi hr I.bPi .nil pass0 (pa_cons (pv 2) (pa_cons (pe_lst (pa_cons (pv 4) pa_nil)) pa_nil))) (pa_cons (pv 3) pa_nil)))))
      (pss_cons (ps_set (i := 6) scEcu.nd rfl (.inl rfl) (pe_methR (pv 0) C.cl I.m.M I.m.G (hr.mono (by decide)) pass0 (pa_cons (pe_glob (v := .str "quotation") rfl hqu ⟨_, rfl⟩) (pa_cons (pv 2) (pa_cons (pv 3) pa_nil)))))
      (pss_one (ps_ret (pe_tup (pa_cons (pe_meth (pv 0) C.cl I.mPi I.GPi hr I.bPi .nil pass0 (pa_cons (pv 1) (pa_cons (pe_lst (pa_cons (pv 4) (pa_cons (pv 5) pa_nil))) pa_nil))) (pa_cons (pe_meth (pv 0) C.cl I.mPi I.GPi hr I.bPi .nil pass0 (pa_cons (pv 1) (pa_cons (pe_lst (pa_cons (pv 6) pa_nil)) pa_nil))) pa_nil))))))))), ?_⟩
    refine ⟨_, rfl, d, S, 3, rfl, h, by decide, by omega, fun H1 p1 b1 np1 h1 hp1 => ?_⟩
    have n1 : (mkN S kS 3).n = S.n + 3 := mkN_n S kS 3
    refine ⟨p1, _, rfl, SqL.of hp1, rfl, _, _, rfl, _, _, rfl, _, _, rfl, rfl, ?_⟩
    obtain ⟨dx2, i2⟩ := h1.ins
    refine ⟨_, rfl, d.o, dx2, _, rfl, i2, rfl, d, _, kV9, [], rfl, h1, (fun _ z => nomatch z), by omega, (by show 0 ≤ 2; decide), fun H3 b3 h3 => ?_⟩
    have n3 : ((mkN S kS 3).mk' kV9 []).n = S.n + 4 := by (rw [Sto.n_mk]) <;> omega
    obtain ⟨dx4, i4⟩ := h3.ins
    obtain ⟨dx5, i5⟩ := h3.ins
    refine ⟨_, rfl, d.o, dx4, _, rfl, i4, rfl, _, rfl, d.o, dx5, _, rfl, i5, rfl, _, rfl, _, rfl, (by show 1 ≤ sizeLine; decide), fun l6 nl6 => ?_⟩
    have s6 : Same H3 (upd H3 l6 (.lst [vN (mkN S kS 3).n])) := same_new (fun _ _ e => e) nl6
    have e6 : upd H3 l6 (.lst [vN (mkN S kS 3).n]) l6 = some (.lst [vN (mkN S kS 3).n]) := upd_same
    have off6 := h3.off nl6
    have h6 := h3.same s6
    generalize upd H3 l6 (.lst [vN (mkN S kS 3).n]) = H6 at s6 e6 h6 ⊢
    refine ⟨d, _, (S.n + 1), l6, [(mkN S kS 3).n], rfl, h6, e6, off6, by omega, (fun x hx => mem1 hx (by omega)), (by show ((mkN S kS 3).mk' kV9 []).n + 1 ≤ _; omega), fun H7 b7 h7 => ?_⟩
    have n7 : (((mkN S kS 3).mk' kV9 []).pile (S.n + 1) [(mkN S kS 3).n]).1.n = S.n + 5 := by rw [pile_n]; show ((mkN S kS 3).mk' kV9 []).n + 1 = _; omega
    have r7 : (((mkN S kS 3).mk' kV9 []).pile (S.n + 1) [(mkN S kS 3).n]).2 < S.n + 5 := by rw [← n7]; exact pile_lt _ _ _ (by omega)
    refine ⟨_, rfl, d, _, kQ, [(((mkN S kS 3).mk' kV9 []).pile (S.n + 1) [(mkN S kS 3).n]).2, S.n + 2], rfl, h7, (fun x hx => mem2 hx (by omega) (by omega)), by omega, (by show 2 ≤ 2; decide), fun H8 b8 h8 => ?_⟩
    have n8 : ((((mkN S kS 3).mk' kV9 []).pile (S.n + 1) [(mkN S kS 3).n]).1.mk' kQ [(((mkN S kS 3).mk' kV9 []).pile (S.n + 1) [(mkN S kS 3).n]).2, S.n + 2]).n = S.n + 6 := by (rw [Sto.n_mk]) <;> omega
    obtain ⟨dx9, i9⟩ := h8.ins
    refine ⟨_, rfl, d.o, dx9, _, rfl, i9, rfl, _, rfl, _, rfl, d, _, kQ, [(S.n + 1), (S.n + 2)], rfl, h8, (fun x hx => mem2 hx (by omega) (by omega)), by omega, (by show 2 ≤ 2; decide), fun H10 b10 h10 => ?_⟩
    have n10 : (((((mkN S kS 3).mk' kV9 []).pile (S.n + 1) [(mkN S kS 3).n]).1.mk' kQ [(((mkN S kS 3).mk' kV9 []).pile (S.n + 1) [(mkN S kS 3).n]).2, S.n + 2]).mk' kQ [(S.n + 1), (S.n + 2)]).n = S.n + 7 := by (rw [Sto.n_mk]) <;> omega
    obtain ⟨dx11, i11⟩ := h10.ins
    refine ⟨_, rfl, d.o, dx11, _, rfl, i11, rfl, _, rfl, _, rfl, _, rfl, (by show 2 ≤ sizeLine; decide), fun l12 nl12 => ?_⟩
    have s12 : Same H10 (upd H10 l12 (.lst [vN (mkN S kS 3).n, vN (((mkN S kS 3).mk' kV9 []).pile (S.n + 1) [(mkN S kS 3).n]).1.n])) := same_new (fun _ _ e => e) nl12
    have e12 : upd H10 l12 (.lst [vN (mkN S kS 3).n, vN (((mkN S kS 3).mk' kV9 []).pile (S.n + 1) [(mkN S kS 3).n]).1.n]) l12 = some (.lst [vN (mkN S kS 3).n, vN (((mkN S kS 3).mk' kV9 []).pile (S.n + 1) [(mkN S kS 3).n]).1.n]) := upd_same
    have off12 := h10.off nl12
    have h12 := h10.same s12
    generalize upd H10 l12 (.lst [vN (mkN S kS 3).n, vN (((mkN S kS 3).mk' kV9 []).pile (S.n + 1) [(mkN S kS 3).n]).1.n]) = H12 at s12 e12 h12 ⊢
    refine ⟨d, _, S.n, l12, [(mkN S kS 3).n, (((mkN S kS 3).mk' kV9 []).pile (S.n + 1) [(mkN S kS 3).n]).1.n], rfl, h12, e12, off12, by omega, (fun x hx => mem2 hx (by omega) (by omega)), (by show (((((mkN S kS 3).mk' kV9 []).pile (S.n + 1) [(mkN S kS 3).n]).1.mk' kQ [(((mkN S kS 3).mk' kV9 []).pile (S.n + 1) [(mkN S kS 3).n]).2, S.n + 2]).mk' kQ [(S.n + 1), (S.n + 2)]).n + 2 ≤ _; omega), fun H13 b13 h13 => ?_⟩
    have n13 : ((((((mkN S kS 3).mk' kV9 []).pile (S.n + 1) [(mkN S kS 3).n]).1.mk' kQ [(((mkN S kS 3).mk' kV9 []).pile (S.n + 1) [(mkN S kS 3).n]).2, S.n + 2]).mk' kQ [(S.n + 1), (S.n + 2)]).pile S.n [(mkN S kS 3).n, (((mkN S kS 3).mk' kV9 []).pile (S.n + 1) [(mkN S kS 3).n]).1.n]).1.n = S.n + 9 := by rw [pile_n]; show (((((mkN S kS 3).mk' kV9 []).pile (S.n + 1) [(mkN S kS 3).n]).1.mk' kQ [(((mkN S kS 3).mk' kV9 []).pile (S.n + 1) [(mkN S kS 3).n]).2, S.n + 2]).mk' kQ [(S.n + 1), (S.n + 2)]).n + 2 = _; omega
    have r13 : ((((((mkN S kS 3).mk' kV9 []).pile (S.n + 1) [(mkN S kS 3).n]).1.mk' kQ [(((mkN S kS 3).mk' kV9 []).pile (S.n + 1) [(mkN S kS 3).n]).2, S.n + 2]).mk' kQ [(S.n + 1), (S.n + 2)]).pile S.n [(mkN S kS 3).n, (((mkN S kS 3).mk' kV9 []).pile (S.n + 1) [(mkN S kS 3).n]).1.n]).2 < S.n + 9 := by rw [← n13]; exact pile_lt _ _ _ (by omega)
    obtain ⟨dx14, i14⟩ := h13.ins
    refine ⟨_, rfl, d.o, dx14, _, rfl, i14, rfl, _, rfl, _, rfl, (by show 1 ≤ sizeLine; decide), fun l15 nl15 => ?_⟩
    have s15 : Same H13 (upd H13 l15 (.lst [vN ((((mkN S kS 3).mk' kV9 []).pile (S.n + 1) [(mkN S kS 3).n]).1.mk' kQ [(((mkN S kS 3).mk' kV9 []).pile (S.n + 1) [(mkN S kS 3).n]).2, S.n + 2]).n])) := same_new (fun _ _ e => e) nl15
    have e15 : upd H13 l15 (.lst [vN ((((mkN S kS 3).mk' kV9 []).pile (S.n + 1) [(mkN S kS 3).n]).1.mk' kQ [(((mkN S kS 3).mk' kV9 []).pile (S.n + 1) [(mkN S kS 3).n]).2, S.n + 2]).n]) l15 = some (.lst [vN ((((mkN S kS 3).mk' kV9 []).pile (S.n + 1) [(mkN S kS 3).n]).1.mk' kQ [(((mkN S kS 3).mk' kV9 []).pile (S.n + 1) [(mkN S kS 3).n]).2, S.n + 2]).n]) := upd_same
    have off15 := h13.off nl15
    have h15 := h13.same s15
    generalize upd H13 l15 (.lst [vN ((((mkN S kS 3).mk' kV9 []).pile (S.n + 1) [(mkN S kS 3).n]).1.mk' kQ [(((mkN S kS 3).mk' kV9 []).pile (S.n + 1) [(mkN S kS 3).n]).2, S.n + 2]).n]) = H15 at s15 e15 h15 ⊢
    refine ⟨d, _, S.n, l15, [((((mkN S kS 3).mk' kV9 []).pile (S.n + 1) [(mkN S kS 3).n]).1.mk' kQ [(((mkN S kS 3).mk' kV9 []).pile (S.n + 1) [(mkN S kS 3).n]).2, S.n + 2]).n], rfl, h15, e15, off15, by omega, (fun x hx => mem1 hx (by omega)), (by show ((((((mkN S kS 3).mk' kV9 []).pile (S.n + 1) [(mkN S kS 3).n]).1.mk' kQ [(((mkN S kS 3).mk' kV9 []).pile (S.n + 1) [(mkN S kS 3).n]).2, S.n + 2]).mk' kQ [(S.n + 1), (S.n + 2)]).pile S.n [(mkN S kS 3).n, (((mkN S kS 3).mk' kV9 []).pile (S.n + 1) [(mkN S kS 3).n]).1.n]).1.n + 1 ≤ _; omega), fun H16 b16 h16 => ?_⟩
    have n16 : (((((((mkN S kS 3).mk' kV9 []).pile (S.n + 1) [(mkN S kS 3).n]).1.mk' kQ [(((mkN S kS 3).mk' kV9 []).pile (S.n + 1) [(mkN S kS 3).n]).2, S.n + 2]).mk' kQ [(S.n + 1), (S.n + 2)]).pile S.n [(mkN S kS 3).n, (((mkN S kS 3).mk' kV9 []).pile (S.n + 1) [(mkN S kS 3).n]).1.n]).1.pile S.n [((((mkN S kS 3).mk' kV9 []).pile (S.n + 1) [(mkN S kS 3).n]).1.mk' kQ [(((mkN S kS 3).mk' kV9 []).pile (S.n + 1) [(mkN S kS 3).n]).2, S.n + 2]).n]).1.n = S.n + 10 := by rw [pile_n]; show ((((((mkN S kS 3).mk' kV9 []).pile (S.n + 1) [(mkN S kS 3).n]).1.mk' kQ [(((mkN S kS 3).mk' kV9 []).pile (S.n + 1) [(mkN S kS 3).n]).2, S.n + 2]).mk' kQ [(S.n + 1), (S.n + 2)]).pile S.n [(mkN S kS 3).n, (((mkN S kS 3).mk' kV9 []).pile (S.n + 1) [(mkN S kS 3).n]).1.n]).1.n + 1 = _; omega
    have r16 : (((((((mkN S kS 3).mk' kV9 []).pile (S.n + 1) [(mkN S kS 3).n]).1.mk' kQ [(((mkN S kS 3).mk' kV9 []).pile (S.n + 1) [(mkN S kS 3).n]).2, S.n + 2]).mk' kQ [(S.n + 1), (S.n + 2)]).pile S.n [(mkN S kS 3).n, (((mkN S kS 3).mk' kV9 []).pile (S.n + 1) [(mkN S kS 3).n]).1.n]).1.pile S.n [((((mkN S kS 3).mk' kV9 []).pile (S.n + 1) [(mkN S kS 3).n]).1.mk' kQ [(((mkN S kS 3).mk' kV9 []).pile (S.n + 1) [(mkN S kS 3).n]).2, S.n + 2]).n]).2 < S.n + 10 := by rw [← n16]; exact pile_lt _ _ _ (by omega)
    have bb : But3 d H H16 := (((((((((b1).trans b3).trans (But3.same s6)).trans b7).trans b8).trans b10).trans (But3.same s12)).trans b13).trans (But3.same s15)).trans b16
    refine ⟨(by show 2 ≤ sizeLine; decide), fun t nt => ?_⟩
    have s5 := same_new (o := .tup [vN (eCurry S).2.1, vN (eCurry S).2.2]) (fun _ _ e => e : Same H16 H16) nt
    exact q _ t (bb.trans (But3.same s5)) (b3_free bb nt (h16.off nt)) (h16.same s5) upd_same
theorem scEco : FnScope ["shapes", "below", "before", "between", "after", "first", "second", "made"] ["shapes"] (defScope sEco) := ⟨rfl, rfl, rfl, by decide +kernel, rfl, by decide +kernel, by decide +kernel⟩
theorem ok_eco {f : Addr} {fd : FuncData} (F : Fun K "effect_of_compose" "effect_of_compose" sEco f fd) (I : IfD P w K mg base CS fM fPi fSv fVv fPl dPi dSv dVv dPl) : FnOk P w K mg base CX0 3 f fd ["shapes"] (spEff CS eCompose) := by
  obtain ⟨tq, hqu⟩ := I.W.qu
  obtain ⟨tv, hvv⟩ := I.W.vv
  obtain ⟨ts, hsv⟩ := I.W.sv
  obtain ⟨tp, hpl⟩ := I.W.pl
  have C := I.m.C
  refine F.ok scEco (fun vs H Q E h => ?_) (fun cdv A outer s H vs Q E hr h => ?_)
  · obtain ⟨d, S, rfl, _⟩ := h
    rfl
  · obtain ⟨d, S, rfl, h, hn, q⟩ := h
    refine ⟨_, (pss_cons (ps_asg (pe_call I.GSv hr rfl I.gSv I.kSv I.bSv .nil pass0 (pa_cons (pv 0) (pa_cons pe_int pa_nil))) (pg_lst rfl (pgs_cons (pg_name (i := 1) scEco.nd rfl (.inl rfl)) (pgs_cons (pg_name (i := 2) scEco.nd rfl (.inl rfl)) (pgs_cons (pg_name (i := 3) scEco.nd rfl (.inl rfl)) (pgs_cons (pg_name (i := 4) scEco.nd rfl (.inl rfl)) pgs_nil))))))
      (pss_cons (ps_set (i := 5) scEco.nd rfl (.inl rfl) (pe_methR (pv 0) C.cl I.m.M I.m.G (hr.mono (by decide)) pass0 (pa_cons (pe_glob (v := .str "quotation") rfl hqu ⟨_, rfl⟩) (pa_cons (pv 2) (pa_cons (pv 3) pa_nil)))))
      (pss_cons (ps_set (i := 6) scEco.nd rfl (.inl rfl) (pe_methR (pv 0) C.cl I.m.M I.m.G (hr.mono (by decide)) pass0 (pa_cons (pe_glob (v := .str "quotation") rfl hqu ⟨_, rfl⟩) (pa_cons (pv 3) (pa_cons (pv 4) pa_nil)))))
      (pss_cons (ps_set (i := 7) scEco.nd rfl (.inl rfl) (pe_methR (pv 0) C.cl I.m.M I.m.G (hr.mono (by decide)) pass0 (pa_cons (pe_glob (v := .str "quotation") rfl hqu ⟨_, rfl⟩) (pa_cons (pv 2) (pa_cons (pv 4) pa_nil)))))
      (pss_one (ps_ret (pe_tup (pa_cons (pe_meth (pv 0) C.cl I.mPi I.GPi hr I.bPi .nil pass0 (pa_cons (pv 1) (pa_cons (pe_lst (pa_cons (pv 5) (pa_cons (pv 6) pa_nil))) pa_nil))) (pa_cons (pe_meth (pv 0) C.cl I.mPi I.GPi hr I.bPi .nil pass0 (pa_cons (pv 1) (pa_cons (pe_lst (pa_cons (pv 7) pa_nil)) pa_nil))) pa_nil))))))))), ?_⟩
    refine ⟨_, rfl, d, S, 4, rfl, h, by decide, by omega, fun H1 p1 b1 np1 h1 hp1 => ?_⟩
    have n1 : (mkN S kS 4).n = S.n + 4 := mkN_n S kS 4
    refine ⟨p1, _, rfl, SqL.of hp1, rfl, _, _, rfl, _, _, rfl, _, _, rfl, _, _, rfl, rfl, ?_⟩
    obtain ⟨dx2, i2⟩ := h1.ins
    refine ⟨_, rfl, d.o, dx2, _, rfl, i2, rfl, _, rfl, _, rfl, d, _, kQ, [(S.n + 1), (S.n + 2)], rfl, h1, (fun x hx => mem2 hx (by omega) (by omega)), by omega, (by show 2 ≤ 2; decide), fun H3 b3 h3 => ?_⟩
    have n3 : ((mkN S kS 4).mk' kQ [(S.n + 1), (S.n + 2)]).n = S.n + 5 := by (rw [Sto.n_mk]) <;> omega
    obtain ⟨dx4, i4⟩ := h3.ins
    refine ⟨_, rfl, d.o, dx4, _, rfl, i4, rfl, _, rfl, _, rfl, d, _, kQ, [(S.n + 2), (S.n + 3)], rfl, h3, (fun x hx => mem2 hx (by omega) (by omega)), by omega, (by show 2 ≤ 2; decide), fun H5 b5 h5 => ?_⟩
    have n5 : (((mkN S kS 4).mk' kQ [(S.n + 1), (S.n + 2)]).mk' kQ [(S.n + 2), (S.n + 3)]).n = S.n + 6 := by (rw [Sto.n_mk]) <;> omega
    obtain ⟨dx6, i6⟩ := h5.ins
    refine ⟨_, rfl, d.o, dx6, _, rfl, i6, rfl, _, rfl, _, rfl, d, _, kQ, [(S.n + 1), (S.n + 3)], rfl, h5, (fun x hx => mem2 hx (by omega) (by omega)), by omega, (by show 2 ≤ 2; decide), fun H7 b7 h7 => ?_⟩
    have n7 : ((((mkN S kS 4).mk' kQ [(S.n + 1), (S.n + 2)]).mk' kQ [(S.n + 2), (S.n + 3)]).mk' kQ [(S.n + 1), (S.n + 3)]).n = S.n + 7 := by (rw [Sto.n_mk]) <;> omega
    obtain ⟨dx8, i8⟩ := h7.ins
    refine ⟨_, rfl, d.o, dx8, _, rfl, i8, rfl, _, rfl, _, rfl, _, rfl, (by show 2 ≤ sizeLine; decide), fun l9 nl9 => ?_⟩
    have s9 : Same H7 (upd H7 l9 (.lst [vN (mkN S kS 4).n, vN ((mkN S kS 4).mk' kQ [(S.n + 1), (S.n + 2)]).n])) := same_new (fun _ _ e => e) nl9
    have e9 : upd H7 l9 (.lst [vN (mkN S kS 4).n, vN ((mkN S kS 4).mk' kQ [(S.n + 1), (S.n + 2)]).n]) l9 = some (.lst [vN (mkN S kS 4).n, vN ((mkN S kS 4).mk' kQ [(S.n + 1), (S.n + 2)]).n]) := upd_same
    have off9 := h7.off nl9
    have h9 := h7.same s9
    generalize upd H7 l9 (.lst [vN (mkN S kS 4).n, vN ((mkN S kS 4).mk' kQ [(S.n + 1), (S.n + 2)]).n]) = H9 at s9 e9 h9 ⊢
    refine ⟨d, _, S.n, l9, [(mkN S kS 4).n, ((mkN S kS 4).mk' kQ [(S.n + 1), (S.n + 2)]).n], rfl, h9, e9, off9, by omega, (fun x hx => mem2 hx (by omega) (by omega)), (by show ((((mkN S kS 4).mk' kQ [(S.n + 1), (S.n + 2)]).mk' kQ [(S.n + 2), (S.n + 3)]).mk' kQ [(S.n + 1), (S.n + 3)]).n + 2 ≤ _; omega), fun H10 b10 h10 => ?_⟩
    have n10 : (((((mkN S kS 4).mk' kQ [(S.n + 1), (S.n + 2)]).mk' kQ [(S.n + 2), (S.n + 3)]).mk' kQ [(S.n + 1), (S.n + 3)]).pile S.n [(mkN S kS 4).n, ((mkN S kS 4).mk' kQ [(S.n + 1), (S.n + 2)]).n]).1.n = S.n + 9 := by rw [pile_n]; show ((((mkN S kS 4).mk' kQ [(S.n + 1), (S.n + 2)]).mk' kQ [(S.n + 2), (S.n + 3)]).mk' kQ [(S.n + 1), (S.n + 3)]).n + 2 = _; omega
    have r10 : (((((mkN S kS 4).mk' kQ [(S.n + 1), (S.n + 2)]).mk' kQ [(S.n + 2), (S.n + 3)]).mk' kQ [(S.n + 1), (S.n + 3)]).pile S.n [(mkN S kS 4).n, ((mkN S kS 4).mk' kQ [(S.n + 1), (S.n + 2)]).n]).2 < S.n + 9 := by rw [← n10]; exact pile_lt _ _ _ (by omega)
    obtain ⟨dx11, i11⟩ := h10.ins
    refine ⟨_, rfl, d.o, dx11, _, rfl, i11, rfl, _, rfl, _, rfl, (by show 1 ≤ sizeLine; decide), fun l12 nl12 => ?_⟩
    have s12 : Same H10 (upd H10 l12 (.lst [vN (((mkN S kS 4).mk' kQ [(S.n + 1), (S.n + 2)]).mk' kQ [(S.n + 2), (S.n + 3)]).n])) := same_new (fun _ _ e => e) nl12
    have e12 : upd H10 l12 (.lst [vN (((mkN S kS 4).mk' kQ [(S.n + 1), (S.n + 2)]).mk' kQ [(S.n + 2), (S.n + 3)]).n]) l12 = some (.lst [vN (((mkN S kS 4).mk' kQ [(S.n + 1), (S.n + 2)]).mk' kQ [(S.n + 2), (S.n + 3)]).n]) := upd_same
    have off12 := h10.off nl12
    have h12 := h10.same s12
    generalize upd H10 l12 (.lst [vN (((mkN S kS 4).mk' kQ [(S.n + 1), (S.n + 2)]).mk' kQ [(S.n + 2), (S.n + 3)]).n]) = H12 at s12 e12 h12 ⊢
    refine ⟨d, _, S.n, l12, [(((mkN S kS 4).mk' kQ [(S.n + 1), (S.n + 2)]).mk' kQ [(S.n + 2), (S.n + 3)]).n], rfl, h12, e12, off12, by omega, (fun x hx => mem1 hx (by omega)), (by show (((((mkN S kS 4).mk' kQ [(S.n + 1), (S.n + 2)]).mk' kQ [(S.n + 2), (S.n + 3)]).mk' kQ [(S.n + 1), (S.n + 3)]).pile S.n [(mkN S kS 4).n, ((mkN S kS 4).mk' kQ [(S.n + 1), (S.n + 2)]).n]).1.n + 1 ≤ _; omega), fun H13 b13 h13 => ?_⟩
    have n13 : ((((((mkN S kS 4).mk' kQ [(S.n + 1), (S.n + 2)]).mk' kQ [(S.n + 2), (S.n + 3)]).mk' kQ [(S.n + 1), (S.n + 3)]).pile S.n [(mkN S kS 4).n, ((mkN S kS 4).mk' kQ [(S.n + 1), (S.n + 2)]).n]).1.pile S.n [(((mkN S kS 4).mk' kQ [(S.n + 1), (S.n + 2)]).mk' kQ [(S.n + 2), (S.n + 3)]).n]).1.n = S.n + 10 := by rw [pile_n]; show (((((mkN S kS 4).mk' kQ [(S.n + 1), (S.n + 2)]).mk' kQ [(S.n + 2), (S.n + 3)]).mk' kQ [(S.n + 1), (S.n + 3)]).pile S.n [(mkN S kS 4).n, ((mkN S kS 4).mk' kQ [(S.n + 1), (S.n + 2)]).n]).1.n + 1 = _; omega
    have r13 : ((((((mkN S kS 4).mk' kQ [(S.n + 1), (S.n + 2)]).mk' kQ [(S.n + 2), (S.n + 3)]).mk' kQ [(S.n + 1), (S.n + 3)]).pile S.n [(mkN S kS 4).n, ((mkN S kS 4).mk' kQ [(S.n + 1), (S.n + 2)]).n]).1.pile S.n [(((mkN S kS 4).mk' kQ [(S.n + 1), (S.n + 2)]).mk' kQ [(S.n + 2), (S.n + 3)]).n]).2 < S.n + 10 := by rw [← n13]; exact pile_lt _ _ _ (by omega)
    have bb : But3 d H H13 := (((((((b1).trans b3).trans b5).trans b7).trans (But3.same s9)).trans b10).trans (But3.same s12)).trans b13
    refine ⟨(by show 2 ≤ sizeLine; decide), fun t nt => ?_⟩
    have s5 := same_new (o := .tup [vN (eCompose S).2.1, vN (eCompose S).2.2]) (fun _ _ e => e : Same H13 H13) nt
    exact q _ t (bb.trans (But3.same s5)) (b3_free bb nt (h13.off nt)) (h13.same s5) upd_same
theorem scEch : FnScope ["shapes", "below", "chosen", "taken"] ["shapes"] (defScope sEch) := ⟨rfl, rfl, rfl, by decide +kernel, rfl, by decide +kernel, by decide +kernel⟩
theorem ok_ech {f : Addr} {fd : FuncData} (F : Fun K "effect_of_choose" "effect_of_choose" sEch f fd) (I : IfD P w K mg base CS fM fPi fSv fVv fPl dPi dSv dVv dPl) : FnOk P w K mg base CX0 3 f fd ["shapes"] (spEff CS eChoose) := by
  obtain ⟨tq, hqu⟩ := I.W.qu
  obtain ⟨tv, hvv⟩ := I.W.vv
  obtain ⟨ts, hsv⟩ := I.W.sv
  obtain ⟨tp, hpl⟩ := I.W.pl
  have C := I.m.C
  refine F.ok scEch (fun vs H Q E h => ?_) (fun cdv A outer s H vs Q E hr h => ?_)
  · obtain ⟨d, S, rfl, _⟩ := h
    rfl
  · obtain ⟨d, S, rfl, h, hn, q⟩ := h
    refine ⟨_, (pss_cons (ps_set (i := 1) scEch.nd rfl (.inl rfl) (pe_methR (pv 0) C.cl I.m.M I.m.G (hr.mono (by decide)) pass0 (pa_cons (pe_glob (v := .str "stack variable") rfl hsv ⟨_, rfl⟩) pa_nil)))
      (pss_cons (ps_set (i := 2) scEch.nd rfl (.inl rfl) (pe_methR (pv 0) C.cl I.m.M I.m.G (hr.mono (by decide)) pass0 (pa_cons (pe_glob (v := .str "value variable") rfl hvv ⟨_, rfl⟩) pa_nil)))
      (pss_cons (ps_set (i := 3) scEch.nd rfl (.inl rfl) (pe_meth (pv 0) C.cl I.mPi I.GPi hr I.bPi .nil pass0 (pa_cons (pv 1) (pa_cons (pe_lst (pa_cons (pe_methR (pv 0) C.cl I.m.M I.m.G (hr.mono (by decide)) pass0 (pa_cons (pe_glob (v := .str "plain") rfl hpl ⟨_, rfl⟩) pa_nil)) (pa_cons (pv 2) (pa_cons (pv 2) pa_nil)))) pa_nil))))
      (pss_one (ps_ret (pe_tup (pa_cons (pv 3) (pa_cons (pe_meth (pv 0) C.cl I.mPi I.GPi hr I.bPi .nil pass0 (pa_cons (pv 1) (pa_cons (pe_lst (pa_cons (pv 2) pa_nil)) pa_nil))) pa_nil)))))))), ?_⟩
    have n0 : S.n = S.n + 0 := rfl
    obtain ⟨dx1, i1⟩ := h.ins
    refine ⟨_, rfl, d.o, dx1, _, rfl, i1, rfl, d, _, kS, [], rfl, h, (fun _ z => nomatch z), by omega, (by show 0 ≤ 2; decide), fun H2 b2 h2 => ?_⟩
    have n2 : (S.mk' kS []).n = S.n + 1 := by (rw [Sto.n_mk]) <;> omega
    obtain ⟨dx3, i3⟩ := h2.ins
    refine ⟨_, rfl, d.o, dx3, _, rfl, i3, rfl, d, _, kV9, [], rfl, h2, (fun _ z => nomatch z), by omega, (by show 0 ≤ 2; decide), fun H4 b4 h4 => ?_⟩
    have n4 : ((S.mk' kS []).mk' kV9 []).n = S.n + 2 := by (rw [Sto.n_mk]) <;> omega
    obtain ⟨dx5, i5⟩ := h4.ins
    obtain ⟨dx6, i6⟩ := h4.ins
    refine ⟨_, rfl, d.o, dx5, _, rfl, i5, rfl, _, rfl, _, rfl, d.o, dx6, _, rfl, i6, rfl, d, _, kP, [], rfl, h4, (fun _ z => nomatch z), by omega, (by show 0 ≤ 2; decide), fun H7 b7 h7 => ?_⟩
    have n7 : (((S.mk' kS []).mk' kV9 []).mk' kP []).n = S.n + 3 := by (rw [Sto.n_mk]) <;> omega
    refine ⟨_, rfl, _, rfl, (by show 3 ≤ sizeLine; decide), fun l8 nl8 => ?_⟩
    have s8 : Same H7 (upd H7 l8 (.lst [vN ((S.mk' kS []).mk' kV9 []).n, vN (S.mk' kS []).n, vN (S.mk' kS []).n])) := same_new (fun _ _ e => e) nl8
    have e8 : upd H7 l8 (.lst [vN ((S.mk' kS []).mk' kV9 []).n, vN (S.mk' kS []).n, vN (S.mk' kS []).n]) l8 = some (.lst [vN ((S.mk' kS []).mk' kV9 []).n, vN (S.mk' kS []).n, vN (S.mk' kS []).n]) := upd_same
    have off8 := h7.off nl8
    have h8 := h7.same s8
    generalize upd H7 l8 (.lst [vN ((S.mk' kS []).mk' kV9 []).n, vN (S.mk' kS []).n, vN (S.mk' kS []).n]) = H8 at s8 e8 h8 ⊢
    refine ⟨d, _, S.n, l8, [((S.mk' kS []).mk' kV9 []).n, (S.mk' kS []).n, (S.mk' kS []).n], rfl, h8, e8, off8, by omega, (fun x hx => mem3 hx (by omega) (by omega) (by omega)), (by show (((S.mk' kS []).mk' kV9 []).mk' kP []).n + 3 ≤ _; omega), fun H9 b9 h9 => ?_⟩
    have n9 : ((((S.mk' kS []).mk' kV9 []).mk' kP []).pile S.n [((S.mk' kS []).mk' kV9 []).n, (S.mk' kS []).n, (S.mk' kS []).n]).1.n = S.n + 6 := by rw [pile_n]; show (((S.mk' kS []).mk' kV9 []).mk' kP []).n + 3 = _; omega
    have r9 : ((((S.mk' kS []).mk' kV9 []).mk' kP []).pile S.n [((S.mk' kS []).mk' kV9 []).n, (S.mk' kS []).n, (S.mk' kS []).n]).2 < S.n + 6 := by rw [← n9]; exact pile_lt _ _ _ (by omega)
    obtain ⟨dx10, i10⟩ := h9.ins
    refine ⟨_, rfl, _, rfl, d.o, dx10, _, rfl, i10, rfl, _, rfl, _, rfl, (by show 1 ≤ sizeLine; decide), fun l11 nl11 => ?_⟩
    have s11 : Same H9 (upd H9 l11 (.lst [vN (S.mk' kS []).n])) := same_new (fun _ _ e => e) nl11
    have e11 : upd H9 l11 (.lst [vN (S.mk' kS []).n]) l11 = some (.lst [vN (S.mk' kS []).n]) := upd_same
    have off11 := h9.off nl11
    have h11 := h9.same s11
    generalize upd H9 l11 (.lst [vN (S.mk' kS []).n]) = H11 at s11 e11 h11 ⊢
    refine ⟨d, _, S.n, l11, [(S.mk' kS []).n], rfl, h11, e11, off11, by omega, (fun x hx => mem1 hx (by omega)), (by show ((((S.mk' kS []).mk' kV9 []).mk' kP []).pile S.n [((S.mk' kS []).mk' kV9 []).n, (S.mk' kS []).n, (S.mk' kS []).n]).1.n + 1 ≤ _; omega), fun H12 b12 h12 => ?_⟩
    have n12 : (((((S.mk' kS []).mk' kV9 []).mk' kP []).pile S.n [((S.mk' kS []).mk' kV9 []).n, (S.mk' kS []).n, (S.mk' kS []).n]).1.pile S.n [(S.mk' kS []).n]).1.n = S.n + 7 := by rw [pile_n]; show ((((S.mk' kS []).mk' kV9 []).mk' kP []).pile S.n [((S.mk' kS []).mk' kV9 []).n, (S.mk' kS []).n, (S.mk' kS []).n]).1.n + 1 = _; omega
    have r12 : (((((S.mk' kS []).mk' kV9 []).mk' kP []).pile S.n [((S.mk' kS []).mk' kV9 []).n, (S.mk' kS []).n, (S.mk' kS []).n]).1.pile S.n [(S.mk' kS []).n]).2 < S.n + 7 := by rw [← n12]; exact pile_lt _ _ _ (by omega)
    have bb : But3 d H H12 := ((((((b2).trans b4).trans b7).trans (But3.same s8)).trans b9).trans (But3.same s11)).trans b12
    refine ⟨(by show 2 ≤ sizeLine; decide), fun t nt => ?_⟩
    have s5 := same_new (o := .tup [vN (eChoose S).2.1, vN (eChoose S).2.2]) (fun _ _ e => e : Same H12 H12) nt
    exact q _ t (bb.trans (But3.same s5)) (b3_free bb nt (h12.off nt)) (h12.same s5) upd_same
end
end SQ9
namespace SQ9
open PySem L2 SQ
abbrev sEW : Stmt := top 60
abbrev sER : Stmt := top 61
/-! ### words and rows of words -/
inductive W0 where
  | lit (t : Str) (i : Int)
  | unk (t : Str) (i o : Nat)
  | core (t : Str)
  | shu (t : Str) (n : Nat) (ps : List Nat)
  deriving DecidableEq
inductive Rw9 where
  | nil
  | w (x : W0) (r : Rw9)
  | q (t : Str) (i r : Rw9)
  deriving DecidableEq
def W0At (H : Hp) (a : Addr) : W0 → Prop
  | .lit t i => H a = some (.tup [.str "literal", .str t, .int i])
  | .unk t i o => ∃ b, H a = some (.tup [.str "unknown", .str t, .ref b]) ∧ H b = some (.tup [vN i, vN o])
  | .core t => H a = some (.tup [.str "core", .str t, .non])
  | .shu t n ps => ∃ b c, H a = some (.tup [.str "shuffle", .str t, .ref b]) ∧ H b = some (.tup [vN n, .ref c]) ∧ H c = some (.tup (ps.map vN))
def Rw9At (H : Hp) : Rw9 → List V → Prop
  | .nil, vs => vs = []
  | .w x r, vs => ∃ a us, vs = .ref a :: us ∧ W0At H a x ∧ Rw9At H r us
  | .q t i r, vs => ∃ a b ws us, vs = .ref a :: us ∧ H a = some (.tup [.str "quotation", .str t, .ref b]) ∧ H b = some (.tup ws) ∧ Rw9At H i ws ∧ Rw9At H r us
/-- tuples stay -/
def TupS (H H' : Hp) : Prop := ∀ a vs, H a = some (.tup vs) → H' a = some (.tup vs)
theorem TupS.same {H H' : Hp} (s : Same H H') : TupS H H' := fun a vs e => s _ _ e
theorem TupS.b3 {CS : Addr} {d : Sad} {S : Sto} {H H' : Hp} (h : ShIn CS H d S) (b : But3 d H H') : TupS H H' := fun a vs e => by
  obtain ⟨ps, e1, _⟩ := h.hp
  obtain ⟨L, rk, e3, _⟩ := h.hl
  exact b a _ e (ne_of e h.hk (by intro z; cases z)) (ne_of e e1 (by intro z; cases z)) (ne_of e e3 (by intro z; cases z))
theorem TupS.trans {H H1 H2 : Hp} (a : TupS H H1) (b : TupS H1 H2) : TupS H H2 := fun x vs e => b _ _ (a _ _ e)
theorem W0At.mono {H H' : Hp} {a : Addr} {x : W0} (s : TupS H H') (h : W0At H a x) : W0At H' a x := by
  cases x with
  | lit t i => exact s _ _ h
  | unk t i o =>
    obtain ⟨b, e1, e2⟩ := h
    exact ⟨b, s _ _ e1, s _ _ e2⟩
  | core t => exact s _ _ h
  | shu t n ps =>
    obtain ⟨b, c, e1, e2, e3⟩ := h
    exact ⟨b, c, s _ _ e1, s _ _ e2, s _ _ e3⟩
theorem Rw9At.mono {H H' : Hp} (s : TupS H H') : ∀ {r : Rw9} {vs : List V}, Rw9At H r vs → Rw9At H' r vs
  | .nil, _, h => h
  | .w x r, _, ⟨a, us, e, h1, h2⟩ => ⟨a, us, e, h1.mono s, Rw9At.mono s h2⟩
  | .q t i r, _, ⟨a, b, ws, us, e, h1, h2, h3, h4⟩ => ⟨a, b, ws, us, e, s _ _ h1, s _ _ h2, Rw9At.mono s h3, Rw9At.mono s h4⟩
def W0.ok : W0 → Prop
  | .lit _ _ => True
  | .unk _ i o => i ≤ 3 ∧ o ≤ 3
  | .core t => t ∈ cores
  | .shu _ n ps => n ≤ 5 ∧ ps.length ≤ 8 ∧ ∀ p ∈ ps, p < n
def Rw9.ok : Rw9 → Prop
  | .nil => True
  | .w x r => x.ok ∧ r.ok
  | .q _ i r => i.ok ∧ r.ok
def Rw9.size : Rw9 → Nat
  | .nil => 0
  | .w _ r => r.size + 1
  | .q _ i r => i.size + r.size + 1
def Rw9.dep : Rw9 → Nat
  | .nil => 0
  | .w _ r => r.dep
  | .q _ i r => max (i.dep + 1) r.dep
/-! ### their effects -/
def coreE (t : Str) (S : Sto) : Sto × Nat × Nat := if t = "call" then eCall S else if t = "dip" then eDip S else if t = "curry" then eCurry S else if t = "compose" then eCompose S else eChoose S
def effW (S : Sto) : W0 → Sto × Nat × Nat
  | .lit _ _ =>
    let S1 := S.mk' kS []
    let r := (mkN S1 kP 1).pile S.n (List.range' S1.n 1)
    (r.1, S.n, r.2)
  | .unk _ i o =>
    let S1 := S.mk' kS []
    let r := (mkN S1 kP i).pile S.n (List.range' S1.n i)
    let g := (mkN r.1 kP o).pile S.n (List.range' r.1.n o)
    (g.1, r.2, g.2)
  | .core t => coreE t S
  | .shu _ n ps =>
    let S1 := S.mk' kS []
    let r := (mkN S1 kV9 n).pile S.n (List.range' S1.n n)
    let g := r.1.pile S.n (ps.map fun p => S1.n + p)
    (g.1, r.2, g.2)
/-- a quotation's effect, once its row's is known -/
def effQ (b : Nat) (S : Sto) (l r : Nat) : Sto × Nat × Nat :=
  let p := (S.mk' kQ [l, r]).pile b [S.n]
  (p.1, b, p.2)
/-- one word more -/
def join1 (m : Nat) (e : Sto × Nat × Nat) (r : Nat) : Option (Sto × Nat) := match uni1 e.1 r e.2.1 with
  | none => none
  | some S2 => if finF m S2 [] [r] = some true then some (S2, e.2.2) else none
def effL : Sto → Nat → Nat → Rw9 → Option (Sto × Nat × Nat)
  | S, l, r, .nil => some (S, l, r)
  | S, l, r, .w x rest => match join1 1000 (effW S x) r with
    | none => none
    | some (S2, g) => effL S2 l g rest
  | S, l, r, .q _ i rest => match effL ((S.mk' kS []).mk' kS []) (S.n + 1) (S.n + 1) i with
    | none => none
    | some (S1, il, ir) => match join1 1000 (effQ S.n S1 il ir) r with
      | none => none
      | some (S2, g) => effL S2 l g rest
def effR (S : Sto) (row : Rw9) : Option (Sto × Nat × Nat) := effL (S.mk' kS []) S.n S.n row
end SQ9
namespace SQ9
open PySem L2 SQ
/-! ### how large the stores become -/
theorem pile_res (S : Sto) (b : Nat) (xs : List Nat) (h : b < S.n) : (S.pile b xs).2 < S.n + xs.length := by
  rw [← pile_n S b xs]
  exact pile_lt S b xs h
theorem range_lt {x n m k : Nat} (h : x ∈ List.range' n m) (hk : n + m ≤ k) : x < k := by
  have := (List.mem_range'_1.mp h).2
  omega
theorem effW_n {S : Sto} {x : W0} (h : x.ok) : (effW S x).1.n ≤ S.n + 40 ∧ S.n < (effW S x).1.n ∧ (effW S x).2.1 < (effW S x).1.n ∧ (effW S x).2.2 < (effW S x).1.n := by
  cases x with
  | lit t i =>
    have e1 : (S.mk' kS []).n = S.n + 1 := Sto.n_mk
    have e2 := mkN_n (S.mk' kS []) kP 1
    have e3 := pile_n (mkN (S.mk' kS []) kP 1) S.n (List.range' (S.mk' kS []).n 1)
    have e4 := pile_res (mkN (S.mk' kS []) kP 1) S.n (List.range' (S.mk' kS []).n 1) (by omega)
    rw [List.length_range'] at e3 e4
    show (_ : Sto).n ≤ _ ∧ _ ∧ S.n < _ ∧ _
    show ((mkN (S.mk' kS []) kP 1).pile S.n (List.range' (S.mk' kS []).n 1)).1.n ≤ _ ∧ S.n < ((mkN (S.mk' kS []) kP 1).pile S.n (List.range' (S.mk' kS []).n 1)).1.n ∧ S.n < ((mkN (S.mk' kS []) kP 1).pile S.n (List.range' (S.mk' kS []).n 1)).1.n ∧ ((mkN (S.mk' kS []) kP 1).pile S.n (List.range' (S.mk' kS []).n 1)).2 < ((mkN (S.mk' kS []) kP 1).pile S.n (List.range' (S.mk' kS []).n 1)).1.n
    omega
  | unk t i o =>
    obtain ⟨hi, ho⟩ := h
    have e1 : (S.mk' kS []).n = S.n + 1 := Sto.n_mk
    have e2 := mkN_n (S.mk' kS []) kP i
    have e3 := pile_n (mkN (S.mk' kS []) kP i) S.n (List.range' (S.mk' kS []).n i)
    have e4 := pile_res (mkN (S.mk' kS []) kP i) S.n (List.range' (S.mk' kS []).n i) (by omega)
    rw [List.length_range'] at e3 e4
    show (let r := (mkN (S.mk' kS []) kP i).pile S.n (List.range' (S.mk' kS []).n i); let g := (mkN r.1 kP o).pile S.n (List.range' r.1.n o); g.1.n ≤ S.n + 40 ∧ S.n < g.1.n ∧ r.2 < g.1.n ∧ g.2 < g.1.n)
    intro r
    have e3' : r.1.n = _ := e3
    have e4' : r.2 < _ := e4
    intro g
    have e5 := mkN_n r.1 kP o
    have e6 : g.1.n = _ := pile_n (mkN r.1 kP o) S.n (List.range' r.1.n o)
    have e7 : g.2 < _ := pile_res (mkN r.1 kP o) S.n (List.range' r.1.n o) (by omega)
    rw [List.length_range'] at e6 e7
    omega
  | core t =>
    have two := mkN_n S kS 2
    have three := mkN_n S kS 3
    have four := mkN_n S kS 4
    have go : ∀ (S2 : Sto) (b : Nat) (xs ys : List Nat) (b2 : Nat), b < S2.n → b2 < S2.n → S.n < S2.n → S2.n + xs.length + ys.length ≤ S.n + 40 → ((S2.pile b xs).1.pile b2 ys).1.n ≤ S.n + 40 ∧ S.n < ((S2.pile b xs).1.pile b2 ys).1.n ∧ (S2.pile b xs).2 < ((S2.pile b xs).1.pile b2 ys).1.n ∧ ((S2.pile b xs).1.pile b2 ys).2 < ((S2.pile b xs).1.pile b2 ys).1.n := fun S2 b xs ys b2 hb hb2 hS hl => by
      have a1 := pile_n S2 b xs
      have a2 := pile_res S2 b xs hb
      have a3 := pile_n (S2.pile b xs).1 b2 ys
      have a4 := pile_res (S2.pile b xs).1 b2 ys (by omega)
      omega
    show (coreE t S).1.n ≤ _ ∧ S.n < (coreE t S).1.n ∧ (coreE t S).2.1 < (coreE t S).1.n ∧ (coreE t S).2.2 < (coreE t S).1.n
    unfold coreE
    split
    · have e1 : ((mkN S kS 2).mk' kQ [S.n, S.n + 1]).n = S.n + 3 := by rw [Sto.n_mk, two]
      have a1 := pile_n ((mkN S kS 2).mk' kQ [S.n, S.n + 1]) S.n [(mkN S kS 2).n]
      have a2 := pile_res ((mkN S kS 2).mk' kQ [S.n, S.n + 1]) S.n [(mkN S kS 2).n] (by omega)
      rw [List.length_singleton] at a1 a2
      show (((mkN S kS 2).mk' kQ [S.n, S.n + 1]).pile S.n [(mkN S kS 2).n]).1.n ≤ _ ∧ S.n < (((mkN S kS 2).mk' kQ [S.n, S.n + 1]).pile S.n [(mkN S kS 2).n]).1.n ∧ (((mkN S kS 2).mk' kQ [S.n, S.n + 1]).pile S.n [(mkN S kS 2).n]).2 < (((mkN S kS 2).mk' kQ [S.n, S.n + 1]).pile S.n [(mkN S kS 2).n]).1.n ∧ S.n + 1 < (((mkN S kS 2).mk' kQ [S.n, S.n + 1]).pile S.n [(mkN S kS 2).n]).1.n
      omega
    · split
      · refine go _ S.n _ _ (S.n + 1) ?_ ?_ ?_ ?_ <;> simp only [Sto.n_mk, two, List.length_cons, List.length_nil] <;> omega
      · split
        · refine go _ S.n _ _ S.n ?_ ?_ ?_ ?_ <;> simp only [Sto.n_mk, pile_n, three, List.length_cons, List.length_nil] <;> omega
        · split
          · refine go _ S.n _ _ S.n ?_ ?_ ?_ ?_ <;> simp only [Sto.n_mk, four, List.length_cons, List.length_nil] <;> omega
          · refine go _ S.n _ _ S.n ?_ ?_ ?_ ?_ <;> simp only [Sto.n_mk, List.length_cons, List.length_nil] <;> omega
  | shu t n ps =>
    obtain ⟨hn, hl, _⟩ := h
    have e1 : (S.mk' kS []).n = S.n + 1 := Sto.n_mk
    have e2 := mkN_n (S.mk' kS []) kV9 n
    have e3 := pile_n (mkN (S.mk' kS []) kV9 n) S.n (List.range' (S.mk' kS []).n n)
    have e4 := pile_res (mkN (S.mk' kS []) kV9 n) S.n (List.range' (S.mk' kS []).n n) (by omega)
    rw [List.length_range'] at e3 e4
    show (let r := (mkN (S.mk' kS []) kV9 n).pile S.n (List.range' (S.mk' kS []).n n); let g := r.1.pile S.n (ps.map fun p => (S.mk' kS []).n + p); g.1.n ≤ S.n + 40 ∧ S.n < g.1.n ∧ r.2 < g.1.n ∧ g.2 < g.1.n)
    intro r
    have e3' : r.1.n = _ := e3
    have e4' : r.2 < _ := e4
    intro g
    have e6 : g.1.n = _ := pile_n r.1 S.n (ps.map fun p => (S.mk' kS []).n + p)
    have e7 : g.2 < _ := pile_res r.1 S.n (ps.map fun p => (S.mk' kS []).n + p) (by omega)
    rw [List.length_map] at e6 e7
    omega
theorem effQ_n {S : Sto} {b l r : Nat} (h : b < S.n) : (effQ b S l r).1.n = S.n + 2 ∧ (effQ b S l r).2.2 < S.n + 2 := by
  have e1 : (S.mk' kQ [l, r]).n = S.n + 1 := Sto.n_mk
  have a1 := pile_n (S.mk' kQ [l, r]) b [S.n]
  have a2 := pile_res (S.mk' kQ [l, r]) b [S.n] (by omega)
  rw [List.length_singleton] at a1 a2
  show ((S.mk' kQ [l, r]).pile b [S.n]).1.n = _ ∧ ((S.mk' kQ [l, r]).pile b [S.n]).2 < _
  omega
theorem uni1_n {S S1 : Sto} {x y : Nat} (h : uni1 S x y = some S1) : S1.n = S.n := by
  unfold uni1 at h
  split at h
  · cases h
    rfl
  · split at h
    · cases h
      exact Sto.n_link
    · split at h
      · cases h
        exact Sto.n_link
      · cases h
theorem join1_n {m : Nat} {e : Sto × Nat × Nat} {r : Nat} {S2 : Sto} {g : Nat} (h : join1 m e r = some (S2, g)) : uni1 e.1 r e.2.1 = some S2 ∧ finF m S2 [] [r] = some true ∧ g = e.2.2 ∧ S2.n = e.1.n := by
  unfold join1 at h
  cases hu : uni1 e.1 r e.2.1 with
  | none =>
    rw [hu] at h
    cases h
  | some S3 =>
    rw [hu] at h
    dsimp only at h
    split at h
    · cases h
      rename_i hf
      exact ⟨rfl, hf, rfl, uni1_n hu⟩
    · cases h
theorem effL_n : ∀ (row : Rw9) {S S' : Sto} {l r l' r' : Nat}, row.ok → l < S.n → r < S.n → effL S l r row = some (S', l', r') → S'.n ≤ S.n + 40 * row.size ∧ S.n ≤ S'.n ∧ l' < S'.n ∧ r' < S'.n
  | .nil, S, S', l, r, l', r', _, hl, hr, h => by
    cases h
    exact ⟨Nat.le_refl _, Nat.le_refl _, hl, hr⟩
  | .w x rest, S, S', l, r, l', r', ok, hl, hr, h => by
    unfold effL at h
    cases hj : join1 1000 (effW S x) r with
    | none =>
      rw [hj] at h
      cases h
    | some sg =>
      obtain ⟨S2, g⟩ := sg
      rw [hj] at h
      obtain ⟨_, _, e3, e4⟩ := join1_n hj
      obtain ⟨n1, n2, n3, n4⟩ := effW_n (S := S) ok.1
      have ih := effL_n rest ok.2 (show l < S2.n by omega) (show g < S2.n by rw [e3]; omega) h
      show _ ≤ S.n + 40 * (rest.size + 1) ∧ _
      omega
  | .q t i rest, S, S', l, r, l', r', ok, hl, hr, h => by
    unfold effL at h
    have e0 : ((S.mk' kS []).mk' kS []).n = S.n + 2 := by rw [Sto.n_mk, Sto.n_mk]
    cases hi : effL ((S.mk' kS []).mk' kS []) (S.n + 1) (S.n + 1) i with
    | none =>
      rw [hi] at h
      cases h
    | some sg =>
      obtain ⟨S1, il, ir⟩ := sg
      rw [hi] at h
      have ih1 := effL_n i ok.1 (show S.n + 1 < _ by omega) (show S.n + 1 < _ by omega) hi
      dsimp only at h
      cases hj : join1 1000 (effQ S.n S1 il ir) r with
      | none =>
        rw [hj] at h
        cases h
      | some sg =>
        obtain ⟨S2, g⟩ := sg
        rw [hj] at h
        obtain ⟨_, _, e3, e4⟩ := join1_n hj
        obtain ⟨n1, n2⟩ := effQ_n (S := S1) (b := S.n) (l := il) (r := ir) (by omega)
        have ih := effL_n rest ok.2 (show l < S2.n by omega) (show g < S2.n by rw [e3]; omega) h
        show _ ≤ S.n + 40 * (i.size + rest.size + 1) ∧ _
        omega
end SQ9
namespace SQ9
open PySem L2 SQ
section
variable {P : Program} {w : World} {K : PySem.W.Frag} {mg : Str → Option Value} {base : Heap} {CS : Addr}
variable {fM fPi fSv fVv fPl : Addr} {dPi dSv dVv dPl : FuncData}
/-- the words' kinds, the table of the core words' effects, what effect_of_word and effect_of_row are -/
structure EfD (P : Program) (w : World) (K : PySem.W.Frag) (mg : Str → Option Value) (base : Heap) (CS fM fPi fSv fVv fPl dC fW fR fU : Addr) (dPi dSv dVv dPl dW dR dU : FuncData) (fE : Str → Addr) : Prop where
  i : IfD P w K mg base CS fM fPi fSv fVv fPl dPi dSv dVv dPl
  cor : ∃ t, mg "CORE" = some (.str "core" t)
  li : ∃ t, mg "LITERAL" = some (.str "literal" t)
  un : ∃ t, mg "UNKNOWN" = some (.str "unknown" t)
  sh : ∃ t, mg "SHUFFLE" = some (.str "shuffle" t)
  gC : mg "CORE_EFFECTS" = some (.ref dC)
  KC : ∃ es n, KDict K w dC es n
  lC : ∀ t ∈ cores, PySem.W.nsIn K dC t = some (some (.ref (fE t)))
  HC : ∀ t ∈ cores, Held P w K mg base 3 (fE t) (spEff CS (coreE t))
  inj : ∀ t ∈ cores, ∀ t' ∈ cores, fE t = fE t' → t = t'
  en : mg "enumerate" = none
  gW : mg "effect_of_word" = some (.ref fW)
  FW : Fun K "effect_of_word" "effect_of_word" sEW fW dW
  bW : Binds K dW ["shapes", "word"] []
  gR : mg "effect_of_row" = some (.ref fR)
  FR : Fun K "effect_of_row" "effect_of_row" sER fR dR
  bR : Binds K dR ["shapes", "row"] []
  mU : Meth K CS "unify" fU
  bU : Binds K dU ["self", "one", "other"] []
  GU : FnOk P w K mg base CX0 4 fU dU ["self", "one", "other"] (spUni CS)
variable {dC fW fR fU : Addr} {dW dR dU : FuncData} {fE : Str → Addr}
def spEW (CS : Addr) (dep : Nat) : Sp := fun vs H Q _ => ∃ (d : Sad) (S : Sto) (a : Addr), vs = [.ref d.o, .ref a] ∧ ShIn CS H d S ∧
  ((∃ x, W0At H a x ∧ x.ok ∧ S.n + 180 ≤ 100000 ∧ ∀ (H' : Hp) (t : Addr), But3 d H H' → H t = none → ShIn CS H' d (effW S x).1 → H' t = some (.tup [vN (effW S x).2.1, vN (effW S x).2.2]) → Q (.ref t) H') ∨
   ∃ (tx : Str) (b : Addr) (ws : List V) (i : Rw9) (S1 : Sto) (il ir : Nat), H a = some (.tup [.str "quotation", .str tx, .ref b]) ∧ H b = some (.tup ws) ∧ Rw9At H i ws ∧ i.ok ∧ i.dep + 1 ≤ dep ∧ i.size ≤ 200 ∧ S.n + 40 * i.size + 160 ≤ 100000 ∧ effL ((S.mk' kS []).mk' kS []) (S.n + 1) (S.n + 1) i = some (S1, il, ir) ∧
     ∀ (H' : Hp) (t : Addr), But3 d H H' → H t = none → ShIn CS H' d (effQ S.n S1 il ir).1 → H' t = some (.tup [vN S.n, vN (effQ S.n S1 il ir).2.2]) → Q (.ref t) H')
def spER (CS : Addr) (dep : Nat) : Sp := fun vs H Q _ => ∃ (d : Sad) (S S' : Sto) (b : Addr) (ws : List V) (row : Rw9) (l r : Nat), vs = [.ref d.o, .ref b] ∧ ShIn CS H d S ∧ H b = some (.tup ws) ∧ Rw9At H row ws ∧ row.ok ∧ row.dep ≤ dep ∧ row.size ≤ 200 ∧ S.n + 40 * row.size + 150 ≤ 100000 ∧ effR S row = some (S', l, r) ∧
  ∀ (H' : Hp) (t : Addr), But3 d H H' → H t = none → ShIn CS H' d S' → H' t = some (.tup [vN l, vN r]) → Q (.ref t) H'
def spER0 (CS : Addr) : Nat → Sp
  | 0 => fun _ _ _ _ => False
  | n + 1 => spER CS n
abbrev nEW : List Str := ["shapes", "word", "kind", "text", "detail", "core_effect", "below", "inputs", "outputs", "taken", "places", "letters", "left", "right", "place"]
theorem scEW : FnScope nEW ["shapes", "word"] (defScope sEW) := ⟨rfl, rfl, rfl, by decide +kernel, rfl, by decide +kernel, by decide +kernel⟩
theorem ixL9 {X : Cx} {K : PySem.W.Frag} (h : X.K = K) : IxR X (rIxL K) := h ▸ ix_list
theorem dec_kind (x y : Str) : decide (V.str x = V.str y) = decide (x = y) := by
  by_cases h : x = y
  · rw [decide_eq_true h, decide_eq_true (by rw [h])]
  · rw [decide_eq_false h, decide_eq_false fun z => h (V.str.inj z)]
theorem ok_ew {dep k : Nat} (D : EfD P w K mg base CS fM fPi fSv fVv fPl dC fW fR fU dPi dSv dVv dPl dW dR dU fE) (hk : 4 ≤ k) (GR : FnOk P w K mg base CX0 k fR dR ["shapes", "row"] (spER0 CS dep)) : FnOk P w K mg base CX0 (k + 1) fW dW ["shapes", "word"] (spEW CS dep) := by
  obtain ⟨t1, h1⟩ := D.cor
  obtain ⟨t2, h2⟩ := D.li
  obtain ⟨t3, h3⟩ := D.un
  obtain ⟨t4, h4⟩ := D.sh
  obtain ⟨t5, h5⟩ := D.i.W.sv
  obtain ⟨t6, h6⟩ := D.i.W.qu
  obtain ⟨es, ne, KC⟩ := D.KC
  have C := D.i.m.C
  have I := D.i
  refine D.FW.ok scEW (fun vs H Q E h => ?_) (fun cdv A outer s H vs Q E hr h => ?_)
  · obtain ⟨d, S, a, rfl, _⟩ := h
    rfl
  · obtain ⟨d, S, a, rfl, hS, h⟩ := h
    have hr2 : Room 2 (A.deeper (PyProof.Rows.envOfC "effect_of_word" (defScope sEW) s.heap.objs.size fW cdv)) := hr.mono (by omega)
    have hr1 : Room 1 (A.deeper (PyProof.Rows.envOfC "effect_of_word" (defScope sEW) s.heap.objs.size fW cdv)) := hr.mono (by omega)
    have hr3 : Room 3 (A.deeper (PyProof.Rows.envOfC "effect_of_word" (defScope sEW) s.heap.objs.size fW cdv)) := hr.mono (by omega)
    have hH : ∀ f sp, (fun f => if h : ∃ t ∈ cores, fE t = f then some (spEff CS (coreE (Classical.choose h))) else none : Addr → Option Sp) f = some sp → Held P w K mg base 3 f sp := fun f sp e => by
      dsimp only at e
      split at e
      · rename_i hh
        cases e
        obtain ⟨z1, z2⟩ := Classical.choose_spec hh
        have := D.HC _ z1
        rw [z2] at this
        exact this
      · cases e
    refine ⟨_, pss_cons (ps_asg (pv 1) (pg_tup rfl (pgs_cons (pg_name (i := 2) scEW.nd rfl (.inl rfl)) (pgs_cons (pg_name (i := 3) scEW.nd rfl (.inl rfl)) (pgs_cons (pg_name (i := 4) scEW.nd rfl (.inl rfl)) pgs_nil)))))
      (pss_cons (ps_if (pt_cmpR op_eq (pv 2) (pe_glob (v := .str "core") rfl h1 ⟨_, rfl⟩) (nomark _))
        (pss_cons (ps_set (i := 5) scEW.nd rfl (.inl rfl) (pe_ix ix_kdict (pe_glob (v := .ref dC) rfl D.gC rfl) (pv 3) (fun _ _ => rfl)))
        (pss_one (ps_ret (pe_callA (i := 5) hH hr3 rfl (.inl rfl) (pa_cons (pv 0) pa_nil))))) pss_nil)
      (pss_cons (ps_set (i := 6) scEW.nd rfl (.inl rfl) (pe_methR (pv 0) C.cl I.m.M I.m.G hr1 pass0 (pa_cons (pe_glob (v := .str "stack variable") rfl h5 ⟨_, rfl⟩) pa_nil)))
      (pss_cons (ps_if (pt_cmpR op_eq (pv 2) (pe_glob (v := .str "literal") rfl h2 ⟨_, rfl⟩) (nomark _))
        (pss_one (ps_ret (pe_tup (pa_cons (pv 6) (pa_cons (pe_meth (pv 0) C.cl I.mPi I.GPi hr2 I.bPi .nil pass0 (pa_cons (pv 6) (pa_cons (pe_call I.GPl hr2 rfl I.gPl I.kPl I.bPl .nil pass0 (pa_cons (pv 0) (pa_cons pe_int pa_nil))) pa_nil))) pa_nil))))) pss_nil)
      (pss_cons (ps_if (pt_cmpR op_eq (pv 2) (pe_glob (v := .str "unknown") rfl h3 ⟨_, rfl⟩) (nomark _))
        (pss_cons (ps_asg (pv 4) (pg_tup rfl (pgs_cons (pg_name (i := 7) scEW.nd rfl (.inl rfl)) (pgs_cons (pg_name (i := 8) scEW.nd rfl (.inl rfl)) pgs_nil))))
        (pss_one (ps_ret (pe_tup (pa_cons (pe_meth (pv 0) C.cl I.mPi I.GPi hr2 I.bPi .nil pass0 (pa_cons (pv 6) (pa_cons (pe_call I.GPl hr2 rfl I.gPl I.kPl I.bPl .nil pass0 (pa_cons (pv 0) (pa_cons (pv 7) pa_nil))) pa_nil))) (pa_cons (pe_meth (pv 0) C.cl I.mPi I.GPi hr2 I.bPi .nil pass0 (pa_cons (pv 6) (pa_cons (pe_call I.GPl hr2 rfl I.gPl I.kPl I.bPl .nil pass0 (pa_cons (pv 0) (pa_cons (pv 8) pa_nil))) pa_nil))) pa_nil)))))) pss_nil)
      (pss_cons (ps_if (pt_cmpR op_eq (pv 2) (pe_glob (v := .str "shuffle") rfl h4 ⟨_, rfl⟩) (nomark _))
        (pss_cons (ps_asg (pv 4) (pg_tup rfl (pgs_cons (pg_name (i := 9) scEW.nd rfl (.inl rfl)) (pgs_cons (pg_name (i := 10) scEW.nd rfl (.inl rfl)) pgs_nil))))
        (pss_cons (ps_set (i := 11) scEW.nd rfl (.inr rfl) (pe_call I.GVv hr2 rfl I.gVv I.kVv I.bVv .nil pass0 (pa_cons (pv 0) (pa_cons (pv 9) pa_nil))))
        (pss_one (ps_ret (pe_tup (pa_cons (pe_meth (pv 0) C.cl I.mPi I.GPi hr2 I.bPi .nil pass0 (pa_cons (pv 6) (pa_cons (pv 11) pa_nil))) (pa_cons (pe_meth (pv 0) C.cl I.mPi I.GPi hr2 I.bPi .nil pass0 (pa_cons (pv 6) (pa_cons (pe_lc (own := [("place", 14)]) (g := gName 14) (tt := tYes) rfl scEW.nd (pi_tup (pv 10)) (blkOk_by (N := nEW) (sc := defScope sEW) (by decide +kernel)) (fun _ _ _ _ _ => pg_name (i := 14) scEW.nd rfl (.inl rfl)) (fun _ _ _ _ _ => pts_nil) (fun _ _ _ _ _ => pe_ix (ixL9 (K := K) rfl) (pv 11) (pv 14) (fun _ _ => rfl))) pa_nil))) pa_nil))))))) pss_nil)
      (pss_cons (ps_asg (pe_call GR hr rfl D.gR D.FR.kp D.bR .nil pass0 (pa_cons (pv 0) (pa_cons (pv 4) pa_nil))) (pg_tup rfl (pgs_cons (pg_name (i := 12) scEW.nd rfl (.inl rfl)) (pgs_cons (pg_name (i := 13) scEW.nd rfl (.inl rfl)) pgs_nil))))
      (pss_one (ps_ret (pe_tup (pa_cons (pv 6) (pa_cons (pe_meth (pv 0) C.cl I.mPi I.GPi hr2 I.bPi .nil pass0 (pa_cons (pv 6) (pa_cons (pe_lst (pa_cons (pe_methR (pv 0) C.cl I.m.M I.m.G hr1 pass0 (pa_cons (pe_glob (v := .str "quotation") rfl h6 ⟨_, rfl⟩) (pa_cons (pv 12) (pa_cons (pv 13) pa_nil)))) pa_nil)) pa_nil))) pa_nil))))))))))), ?_⟩
    obtain ⟨dx, hi⟩ := hS.ins
    rcases h with ⟨x, hx, ok, hn, q⟩ | ⟨tx, b, ws, i, S1, il, ir, ha, hb, hR, iok, idep, isz, hn, hE, q⟩
    · cases x with
      | lit t i =>
        refine ⟨_, rfl, a, _, rfl, SqT.of hx, rfl, _, _, rfl, _, _, rfl, _, _, rfl, rfl, ?_⟩
        refine ⟨_, rfl, rfl, _, rfl, ?_⟩
        rw [dec_kind, show decide (("literal" : Str) = "core") = false from by decide +kernel]
        refine iteF ?_
        refine ⟨_, rfl, d.o, dx, _, rfl, hi, rfl, d, S, kS, [], rfl, hS, (fun _ z => nomatch z), by omega, (by show 0 ≤ 2; decide), fun H1 b1 g1 => ?_⟩
        have e1 : (S.mk' kS []).n = S.n + 1 := Sto.n_mk
        obtain ⟨dx1, i1⟩ := g1.ins
        have ts1 : TupS H H1 := TupS.b3 hS b1
        refine ⟨_, rfl, rfl, _, rfl, ?_⟩
        rw [dec_kind, show decide (("literal" : Str) = "literal") = true from by decide +kernel]
        refine iteT ?_
        refine ⟨_, rfl, _, rfl, d.o, dx1, _, rfl, i1, rfl, _, rfl, _, rfl, d, _, 1, rfl, g1, by decide, by omega, fun H2 p b2 np g2 hp => ?_⟩
        have e2 := mkN_n (S.mk' kS []) kP 1
        refine ⟨d, _, S.n, p, _, rfl, g2, hp, g1.off np, by omega, (fun y hy => range_lt hy (by omega)), (by rw [List.length_range']; omega), fun H3 b3 g3 => ?_⟩
        refine ⟨(by show 2 ≤ sizeLine; decide), fun t' nt => ?_⟩
        have bb : But3 d H H3 := (b1.trans b2).trans b3
        have s5 := same_new (o := .tup [vN (effW S (.lit t i)).2.1, vN (effW S (.lit t i)).2.2]) (fun _ _ e => e : Same H3 H3) nt
        exact q _ t' (bb.trans (But3.same s5)) (b3_free bb nt (g3.off nt)) (g3.same s5) upd_same
      | unk t i o =>
        obtain ⟨b, hx1, hx2⟩ := hx
        obtain ⟨hi3, ho3⟩ := ok
        refine ⟨_, rfl, a, _, rfl, SqT.of hx1, rfl, _, _, rfl, _, _, rfl, _, _, rfl, rfl, ?_⟩
        refine ⟨_, rfl, rfl, _, rfl, ?_⟩
        rw [dec_kind, show decide (("unknown" : Str) = "core") = false from by decide +kernel]
        refine iteF ?_
        refine ⟨_, rfl, d.o, dx, _, rfl, hi, rfl, d, S, kS, [], rfl, hS, (fun _ z => nomatch z), by omega, (by show 0 ≤ 2; decide), fun H1 b1 g1 => ?_⟩
        have e1 : (S.mk' kS []).n = S.n + 1 := Sto.n_mk
        obtain ⟨dx1, i1⟩ := g1.ins
        have ts1 : TupS H H1 := TupS.b3 hS b1
        refine ⟨_, rfl, rfl, _, rfl, ?_⟩
        rw [dec_kind, show decide (("unknown" : Str) = "literal") = false from by decide +kernel]
        refine iteF ?_
        refine ⟨_, rfl, rfl, _, rfl, ?_⟩
        rw [dec_kind, show decide (("unknown" : Str) = "unknown") = true from by decide +kernel]
        refine iteT ?_
        refine ⟨_, rfl, b, _, rfl, SqT.of (ts1 _ _ hx2), rfl, _, _, rfl, _, _, rfl, rfl, ?_⟩
        refine ⟨_, rfl, d.o, dx1, _, rfl, i1, rfl, _, rfl, _, rfl, _, rfl, d, _, i, rfl, g1, by omega, by omega, fun H2 p b2 np g2 hp => ?_⟩
        have e2 := mkN_n (S.mk' kS []) kP i
        refine ⟨d, _, S.n, p, _, rfl, g2, hp, g1.off np, by omega, (fun y hy => range_lt hy (by omega)), (by rw [List.length_range']; omega), fun H3 b3 g3 => ?_⟩
        have e3 := pile_n (mkN (S.mk' kS []) kP i) S.n (List.range' (S.mk' kS []).n i)
        rw [List.length_range'] at e3
        obtain ⟨dx3, i3⟩ := g3.ins
        refine ⟨_, rfl, d.o, dx3, _, rfl, i3, rfl, _, rfl, _, rfl, _, rfl, d, _, o, rfl, g3, by omega, by omega, fun H4 p4 b4 np4 g4 hp4 => ?_⟩
        have e4 := mkN_n ((mkN (S.mk' kS []) kP i).pile S.n (List.range' (S.mk' kS []).n i)).1 kP o
        refine ⟨d, _, S.n, p4, _, rfl, g4, hp4, g3.off np4, by omega, (fun y hy => range_lt hy (by omega)), (by rw [List.length_range']; omega), fun H5 b5 g5 => ?_⟩
        refine ⟨(by show 2 ≤ sizeLine; decide), fun t' nt => ?_⟩
        have bb : But3 d H H5 := (((b1.trans b2).trans b3).trans b4).trans b5
        have s5 := same_new (o := .tup [vN (effW S (.unk t i o)).2.1, vN (effW S (.unk t i o)).2.2]) (fun _ _ e => e : Same H5 H5) nt
        exact q _ t' (bb.trans (But3.same s5)) (b3_free bb nt (g5.off nt)) (g5.same s5) upd_same
      | core t =>
        refine ⟨_, rfl, a, _, rfl, SqT.of hx, rfl, _, _, rfl, _, _, rfl, _, _, rfl, rfl, ?_⟩
        refine ⟨_, rfl, rfl, _, rfl, ?_⟩
        rw [dec_kind, show decide (("core" : Str) = "core") = true from by decide +kernel]
        refine iteT ?_
        have hc : t ∈ cores := ok
        refine ⟨_, rfl, dC, t, .ref (fE t), rfl, rfl, ⟨es, ne, _, KC.at_, KC.lit, D.lC t hc, rfl⟩, ?_⟩
        have hh : ∃ t' ∈ cores, fE t' = fE t := ⟨t, hc, rfl⟩
        have ec : Classical.choose hh = t := D.inj _ (Classical.choose_spec hh).1 _ hc (Classical.choose_spec hh).2
        refine ⟨fE t, spEff CS (coreE t), rfl, ?_, _, rfl, d, S, rfl, hS, by omega, fun H' t' b' n' g' h' => q H' t' b' n' g' h'⟩
        show (if h : ∃ t' ∈ cores, fE t' = fE t then some (spEff CS (coreE (Classical.choose h))) else none) = _
        rw [dif_pos hh, ec]
      | shu t n ps =>
        obtain ⟨b, c, hx1, hx2, hx3⟩ := hx
        obtain ⟨hn5, hl8, hlt⟩ := ok
        refine ⟨_, rfl, a, _, rfl, SqT.of hx1, rfl, _, _, rfl, _, _, rfl, _, _, rfl, rfl, ?_⟩
        refine ⟨_, rfl, rfl, _, rfl, ?_⟩
        rw [dec_kind, show decide (("shuffle" : Str) = "core") = false from by decide +kernel]
        refine iteF ?_
        refine ⟨_, rfl, d.o, dx, _, rfl, hi, rfl, d, S, kS, [], rfl, hS, (fun _ z => nomatch z), by omega, (by show 0 ≤ 2; decide), fun H1 b1 g1 => ?_⟩
        have e1 : (S.mk' kS []).n = S.n + 1 := Sto.n_mk
        obtain ⟨dx1, i1⟩ := g1.ins
        have ts1 : TupS H H1 := TupS.b3 hS b1
        refine ⟨_, rfl, rfl, _, rfl, ?_⟩
        rw [dec_kind, show decide (("shuffle" : Str) = "literal") = false from by decide +kernel]
        refine iteF ?_
        refine ⟨_, rfl, rfl, _, rfl, ?_⟩
        rw [dec_kind, show decide (("shuffle" : Str) = "unknown") = false from by decide +kernel]
        refine iteF ?_
        refine ⟨_, rfl, rfl, _, rfl, ?_⟩
        rw [dec_kind, show decide (("shuffle" : Str) = "shuffle") = true from by decide +kernel]
        refine iteT ?_
        refine ⟨_, rfl, b, _, rfl, SqT.of (ts1 _ _ hx2), rfl, _, _, rfl, _, _, rfl, rfl, ?_⟩
        refine ⟨_, rfl, _, rfl, d, _, n, rfl, g1, by omega, by omega, fun H2 p b2 np g2 hp => ?_⟩
        have e2 := mkN_n (S.mk' kS []) kV9 n
        have offp := g1.off np
        obtain ⟨dx2, i2⟩ := g2.ins
        refine ⟨_, rfl, d.o, dx2, _, rfl, i2, rfl, _, rfl, _, rfl, d, _, S.n, p, _, rfl, g2, hp, offp, by omega, (fun y hy => range_lt hy (by omega)), (by rw [List.length_range']; omega), fun H3 b3 g3 => ?_⟩
        have e3 := pile_n (mkN (S.mk' kS []) kV9 n) S.n (List.range' (S.mk' kS []).n n)
        rw [List.length_range'] at e3
        have hp3 := b3.at offp hp
        have ts3 : TupS H H3 := (ts1.trans (TupS.b3 g1 b2)).trans (TupS.b3 g2 b3)
        have hc3 := ts3 _ _ hx3
        obtain ⟨dx3, i3⟩ := g3.ins
        refine ⟨_, rfl, d.o, dx3, _, rfl, i3, rfl, _, rfl, _, rfl, c, rfl, ⟨_, SqT.of hc3⟩, fun D2 nD => ?_⟩
        have offD := g3.off nD
        have s4 : Same H3 (upd H3 D2 (.lst [])) := same_new (fun _ _ e => e) nD
        refine lc_tup (K := K) (a := c) (xs := ps.map vN) (fun j G => Same H3 G ∧ G D2 = some (.lst (((ps.take j).map fun p => (S.mk' kS []).n + p).map vN))) ⟨s4, upd_same⟩ (fun j G _ hG => SqT.of (hG.1 _ _ hc3)) ?_ ?_
        · rintro j v G hj ⟨sG, hD⟩
          rw [List.getElem?_map] at hj
          cases hg : ps[j]? with
          | none =>
            rw [hg] at hj
            cases hj
          | some y =>
            rw [hg] at hj
            cases hj
            have hy := hlt y (List.mem_of_getElem? hg)
            have hat : (List.range' (S.mk' kS []).n n)[y]? = some ((S.mk' kS []).n + y) := by
              rw [List.getElem?_range' hy]
              simp
            refine ⟨rfl, keptT ⟨_, rfl, _, rfl, p, _, _, _, rfl, rfl, SqL.of (sG _ _ hp3), atI_nat (at_vN hat), _, hD, ?_, ?_, ?_⟩⟩
            · rw [List.length_map, List.length_map]
              exact small1000 (Nat.le_trans (List.take_sublist _ _).length_le (by omega))
            · intro b' o e
              rw [upd_ne (ne_of_none e nD)]
              exact sG _ _ e
            · rw [upd_same, take_more hg, List.map_append, List.map_append]
              rfl
        · rintro G ⟨sG, hD⟩
          have e9 : (ps.map vN).length = ps.length := List.length_map _
          rw [e9, List.take_length] at hD
          have gG := g3.same sG
          refine ⟨d, _, S.n, D2, _, rfl, gG, hD, offD, by omega, (fun y hy => ?_), (by rw [List.length_map]; omega), fun H5 b5 g5 => ?_⟩
          · obtain ⟨z, hz, rfl⟩ := List.mem_map.mp hy
            have := hlt z hz
            omega
          · refine ⟨(by show 2 ≤ sizeLine; decide), fun t' nt => ?_⟩
            have bb : But3 d H H5 := (((b1.trans b2).trans b3).trans (But3.same sG)).trans b5
            have s5 := same_new (o := .tup [vN (effW S (.shu t n ps)).2.1, vN (effW S (.shu t n ps)).2.2]) (fun _ _ e => e : Same H5 H5) nt
            exact q _ t' (bb.trans (But3.same s5)) (b3_free bb nt (g5.off nt)) (g5.same s5) upd_same
    · refine ⟨_, rfl, a, _, rfl, SqT.of ha, rfl, _, _, rfl, _, _, rfl, _, _, rfl, rfl, ?_⟩
      refine ⟨_, rfl, rfl, _, rfl, ?_⟩
      rw [dec_kind, show decide (("quotation" : Str) = "core") = false from by decide +kernel]
      refine iteF ?_
      refine ⟨_, rfl, d.o, dx, _, rfl, hi, rfl, d, S, kS, [], rfl, hS, (fun _ z => nomatch z), by omega, (by show 0 ≤ 2; decide), fun H1 b1 g1 => ?_⟩
      have e1 : (S.mk' kS []).n = S.n + 1 := Sto.n_mk
      obtain ⟨dx1, i1⟩ := g1.ins
      have ts1 : TupS H H1 := TupS.b3 hS b1
      refine ⟨_, rfl, rfl, _, rfl, ?_⟩
      rw [dec_kind, show decide (("quotation" : Str) = "literal") = false from by decide +kernel]
      refine iteF ?_
      refine ⟨_, rfl, rfl, _, rfl, ?_⟩
      rw [dec_kind, show decide (("quotation" : Str) = "unknown") = false from by decide +kernel]
      refine iteF ?_
      refine ⟨_, rfl, rfl, _, rfl, ?_⟩
      rw [dec_kind, show decide (("quotation" : Str) = "shuffle") = false from by decide +kernel]
      refine iteF ?_
      cases dep with
      | zero => omega
      | succ dep =>
      have hE' : effR (S.mk' kS []) i = some (S1, il, ir) := by
        unfold effR
        rw [e1]
        exact hE
      refine ⟨_, rfl, _, rfl, d, _, S1, b, ws, i, il, ir, rfl, g1, ts1 _ _ hb, hR.mono ts1, iok, by omega, isz, by omega, hE', fun H2 t2 b2 nt2 g2 ht2 => ?_⟩
      have e0 : ((S.mk' kS []).mk' kS []).n = S.n + 2 := by rw [Sto.n_mk, e1]
      obtain ⟨m1, m2, m3, m4⟩ := effL_n i iok (show S.n + 1 < ((S.mk' kS []).mk' kS []).n by omega) (show S.n + 1 < ((S.mk' kS []).mk' kS []).n by omega) hE
      refine ⟨t2, _, rfl, SqT.of ht2, rfl, _, _, rfl, _, _, rfl, rfl, ?_⟩
      obtain ⟨dx2, i2⟩ := g2.ins
      refine ⟨_, rfl, _, rfl, d.o, dx2, _, rfl, i2, rfl, _, rfl, _, rfl, d.o, dx2, _, rfl, i2, rfl, _, rfl, _, rfl, d, _, kQ, [il, ir], rfl, g2, (fun x hx => mem2 hx m3 m4), by omega, (by show 2 ≤ 2; decide), fun H3 b3 g3 => ?_⟩
      have e3 : (S1.mk' kQ [il, ir]).n = S1.n + 1 := Sto.n_mk
      refine ⟨(by show 1 ≤ sizeLine; decide), fun l nl => ?_⟩
      have s4 : Same H3 (upd H3 l (.lst [vN S1.n])) := same_new (fun _ _ e => e) nl
      have e4 : upd H3 l (.lst [vN S1.n]) l = some (.lst [vN S1.n]) := upd_same
      have offl := g3.off nl
      generalize upd H3 l (.lst [vN S1.n]) = H4 at s4 e4 ⊢
      refine ⟨d, _, S.n, l, [S1.n], rfl, g3.same s4, e4, offl, by omega, (fun x hx => mem1 hx (by omega)), (by rw [List.length_singleton]; omega), fun H5 b5 g5 => ?_⟩
      refine ⟨(by show 2 ≤ sizeLine; decide), fun t' nt => ?_⟩
      have bb : But3 d H H5 := (((b1.trans b2).trans b3).trans (But3.same s4)).trans b5
      have s5 := same_new (o := .tup [vN S.n, vN (effQ S.n S1 il ir).2.2]) (fun _ _ e => e : Same H5 H5) nt
      exact q _ t' (bb.trans (But3.same s5)) (b3_free bb nt (g5.off nt)) (g5.same s5) upd_same
end
end SQ9
namespace SQ9
open PySem L2 SQ
abbrev sPE : Stmt := top 62
abbrev sEI : Stmt := inClass (top 50) 0
section
variable {P : Program} {w : World} {K : PySem.W.Frag} {mg : Str → Option Value} {base : Heap} {CS : Addr}
variable {fM fPi fSv fVv fPl : Addr} {dPi dSv dVv dPl : FuncData}
variable {dC fW fR fU : Addr} {dW dR dU : FuncData} {fE : Str → Addr}
abbrev nER : List Str := ["shapes", "row", "left", "right", "place", "word", "taken", "given"]
theorem scER : FnScope nER ["shapes", "row"] (defScope sER) := ⟨rfl, rfl, rfl, by decide +kernel, rfl, by decide +kernel, by decide +kernel⟩
theorem rw_len {H : Hp} : ∀ {r : Rw9} {vs : List V}, Rw9At H r vs → vs.length ≤ r.size
  | .nil, _, h => by
    rw [show _ = [] from h]
    exact Nat.le_refl _
  | .w x r, _, ⟨a, us, e, _, h⟩ => by
    rw [e, List.length_cons]
    exact Nat.succ_le_succ (rw_len h)
  | .q t i r, _, ⟨a, b, ws, us, e, _, _, _, h⟩ => by
    rw [e, List.length_cons]
    have := rw_len h
    show us.length + 1 ≤ i.size + r.size + 1
    omega
theorem ok_er {dep k : Nat} (D : EfD P w K mg base CS fM fPi fSv fVv fPl dC fW fR fU dPi dSv dVv dPl dW dR dU fE) (hk : 4 ≤ k) (GW : FnOk P w K mg base CX0 k fW dW ["shapes", "word"] (spEW CS dep)) : FnOk P w K mg base CX0 (k + 1) fR dR ["shapes", "row"] (spER CS dep) := by
  obtain ⟨t5, h5⟩ := D.i.W.sv
  have C := D.i.m.C
  have I := D.i
  refine D.FR.ok scER (fun vs H Q E h => ?_) (fun cdv A outer s H vs Q E hr h => ?_)
  · obtain ⟨d, S, S', b, ws, row, l, r, rfl, _⟩ := h
    rfl
  · obtain ⟨d, S, S', b, ws, row, l, r, rfl, hS, hb, hR, ok, hdep, hsz, hn, hE, q⟩ := h
    have hr1 : Room 1 (A.deeper (PyProof.Rows.envOfC "effect_of_row" (defScope sER) s.heap.objs.size fR cdv)) := hr.mono (by omega)
    have hr4 : Room 4 (A.deeper (PyProof.Rows.envOfC "effect_of_row" (defScope sER) s.heap.objs.size fR cdv)) := hr.mono (by omega)
    refine ⟨_, pss_cons (ps_asg2 (pe_methR (pv 0) C.cl I.m.M I.m.G hr1 pass0 (pa_cons (pe_glob (v := .str "stack variable") rfl h5 ⟨_, rfl⟩) pa_nil)) (pg_name (i := 2) scER.nd rfl (.inl rfl)) (pg_name (i := 3) scER.nd rfl (.inl rfl)))
      (pss_cons (ps_for PassesOwn.never rfl (pi_enumT (by rfl) D.en (pa_cons (pv 1) pa_nil)) (pg_tup rfl (pgs_cons (pg_name (i := 4) scER.nd rfl (.inl rfl)) (pgs_cons (pg_name (i := 5) scER.nd rfl (.inl rfl)) pgs_nil)))
        (pss_cons (ps_try_thru0 (pss_one (ps_asg (pe_call GW hr rfl D.gW D.FW.kp D.bW .nil pass0 (pa_cons (pv 0) (pa_cons (pv 5) pa_nil))) (pg_tup rfl (pgs_cons (pg_name (i := 6) scER.nd rfl (.inl rfl)) (pgs_cons (pg_name (i := 7) scER.nd rfl (.inl rfl)) pgs_nil))))))
        (pss_cons (ps_if (pt_not (pt_val (pe_meth (pv 0) C.cl D.mU D.GU hr4 D.bU .nil pass0 (pa_cons (pv 3) (pa_cons (pv 6) pa_nil))))) (pss_one ps_never) pss_nil)
        (pss_one (ps_set (i := 3) scER.nd rfl (.inl rfl) (pv 7))))))
      (pss_one (ps_ret (pe_tup (pa_cons (pv 2) (pa_cons (pv 3) pa_nil)))))), ?_⟩
    obtain ⟨dx, hi⟩ := hS.ins
    refine ⟨_, rfl, d.o, dx, _, rfl, hi, rfl, d, S, kS, [], rfl, hS, (fun _ z => nomatch z), by omega, (by show 0 ≤ 2; decide), fun H1 b1 g1 => ?_⟩
    have e1 : (S.mk' kS []).n = S.n + 1 := Sto.n_mk
    have ts1 : TupS H H1 := TupS.b3 hS b1
    have hwl := rw_len hR
    refine ⟨_, rfl, b, ws, rfl, SqT.of (ts1 _ _ hb), for_it walk_enumT (fun i σ G => ∃ (Sc : Sto) (rc : Nat) (rest : Rw9) (v4 v5 v6 v7 : Option V), σ = [some (.ref d.o), some (.ref b), some (vN S.n), some (vN rc), v4, v5, v6, v7] ∧ But3 d H G ∧ ShIn CS G d Sc ∧ rc < Sc.n ∧ S.n < Sc.n ∧ Rw9At G rest (ws.drop i) ∧ rest.ok ∧ rest.dep ≤ dep ∧ rest.size ≤ 200 ∧ Sc.n + 40 * rest.size + 149 ≤ 100000 ∧ effL Sc S.n rc rest = some (S', l, r) ∧ G b = some (.tup ws))
      ⟨_, S.n, row, none, none, none, none, rfl, b1, g1, by omega, by omega, hR.mono ts1, ok, hdep, hsz, by omega, hE, ts1 _ _ hb⟩ (fun i σ G _ ⟨_, _, _, _, _, _, _, _, _, _, _, _, _, _, _, _, _, _, z⟩ => SqT.of z) ?_ ?_⟩
    · rintro i v σ G G' hlt ⟨Sc, rc, rest, v4, v5, v6, v7, rfl, bG, gG, hrc, hSn, hRr, rok, rdep, rsz, rn, rE, hbG⟩ ⟨T, x, y, rfl, nT, rfl, ex, ey⟩
      cases ex
      have hdr : ws.drop i = y :: ws.drop (i + 1) := by
        have h1 := (List.getElem?_eq_some_iff.mp ey).1
        have h2 := (List.getElem?_eq_some_iff.mp ey).2
        rw [List.drop_eq_getElem_cons h1, h2]
      rw [hdr] at hRr
      have s2 : Same G (upd G T (.tup [.int (i : Nat), y])) := same_new (fun _ _ e => e) nT
      have hT : upd G T (.tup [.int (i : Nat), y]) T = some (.tup [.int (i : Nat), y]) := upd_same
      generalize upd G T (.tup [.int (i : Nat), y]) = G2 at hT s2 ⊢
      have g2 := gG.same s2
      have hR2 := hRr.mono (TupS.same s2)
      have hb2 := s2 _ _ hbG
      refine ⟨T, _, rfl, SqT.of hT, rfl, _, _, rfl, _, _, rfl, rfl, ?_⟩
      -- what follows the word's effect
      have next : ∀ (e : Sto × Nat × Nat) (rest' : Rw9), rest'.size + 1 ≤ rest.size → rest'.ok → rest'.dep ≤ dep → Rw9At G2 rest' (ws.drop (i + 1)) → rc < e.1.n → S.n < e.1.n → e.2.1 < e.1.n → e.2.2 < e.1.n → e.1.n + 40 * rest'.size + 149 ≤ 100000 → (∃ S2, join1 1000 e rc = some (S2, e.2.2) ∧ effL S2 S.n e.2.2 rest' = some (S', l, r)) →
          ∀ (H3 : Hp) (t3 : Addr) (N : L2.St → Hp → Prop), But3 d G2 H3 → ShIn CS H3 d e.1 → H3 t3 = some (.tup [vN e.2.1, vN e.2.2]) →
          (∀ σ' G', (∃ (Sc : Sto) (rc : Nat) (rest : Rw9) (v4 v5 v6 v7 : Option V), σ' = [some (.ref d.o), some (.ref b), some (vN S.n), some (vN rc), v4, v5, v6, v7] ∧ But3 d H G' ∧ ShIn CS G' d Sc ∧ rc < Sc.n ∧ S.n < Sc.n ∧ Rw9At G' rest (ws.drop (i + 1)) ∧ rest.ok ∧ rest.dep ≤ dep ∧ rest.size ≤ 200 ∧ Sc.n + 40 * rest.size + 149 ≤ 100000 ∧ effL Sc S.n rc rest = some (S', l, r) ∧ G' b = some (.tup ws)) → N σ' G') →
          ∃ (S2 : Sto) (dx3 : Addr), uni1 e.1 rc e.2.1 = some S2 ∧ finF 1000 S2 [] [rc] = some true ∧ H3 d.o = some (.ins CS dx3 (sfl d.k d.p d.l)) ∧ ∀ H4, But d.l H3 H4 → ShIn CS H4 d S2 → ∀ v4 v5 v6 v7, N [some (.ref d.o), some (.ref b), some (vN S.n), some (vN e.2.2), v4, v5, v6, v7] H4 := by
        intro e rest' z1 z2 z3 z4 z5 z6 z7 z8 z9 ⟨S2, j1, j2⟩ H3 t3 N b3 g3 ht3 hN
        obtain ⟨u1, u2, _, u4⟩ := join1_n j1
        obtain ⟨dx3, i3⟩ := g3.ins
        refine ⟨S2, dx3, u1, u2, i3, fun H4 b4 g4 v4 v5 v6 v7 => hN _ _ ⟨S2, e.2.2, rest', v4, v5, v6, v7, rfl, ?_, g4, by omega, by omega, ?_, z2, z3, by omega, by omega, j2, ?_⟩⟩
        · exact ((bG.trans (But3.same s2)).trans b3).trans (But3.butl b4)
        · exact z4.mono ((TupS.b3 g2 b3).trans (TupS.b3 g3 (But3.butl b4)))
        · exact ((TupS.b3 g2 b3).trans (TupS.b3 g3 (But3.butl b4))) _ _ hb2
      cases rest with
      | nil => cases hR2
      | w x rest' =>
        obtain ⟨a, us, eV, hx, hu⟩ := hR2
        cases eV
        have hE2 := rE
        unfold effL at hE2
        obtain ⟨m1, m2, m3, m4⟩ := effW_n (S := Sc) rok.1
        have hz : (Rw9.w x rest').size = rest'.size + 1 := rfl
        cases hj : join1 1000 (effW Sc x) rc with
        | none =>
          rw [hj] at hE2
          cases hE2
        | some sg =>
          obtain ⟨S2, g⟩ := sg
          rw [hj] at hE2
          have eg := (join1_n hj).2.2.1
          subst eg
          refine ⟨_, rfl, _, rfl, d, Sc, a, rfl, g2, .inl ⟨x, hx, rok.1, by omega, fun H3 t3 b3 n3 g3 ht3 => ?_⟩⟩
          refine ⟨t3, _, rfl, SqT.of ht3, rfl, _, _, rfl, _, _, rfl, rfl, ?_⟩
          obtain ⟨S2', dx3, u1, u2, i3, hN⟩ := next (effW Sc x) rest' (by omega) rok.2 rdep hu (by omega) (by omega) m3 m4 (by omega) ⟨S2, hj, hE2⟩ H3 t3 _ b3 g3 ht3 (fun σ' G' z => z)
          refine ⟨_, rfl, d.o, dx3, _, rfl, i3, rfl, _, rfl, _, rfl, d, _, S2', rc, (effW Sc x).2.1, 1000, true, rfl, g3, by omega, m3, u1, by decide, u2, fun H4 b4 g4 => ⟨_, rfl, iteF ?_⟩⟩
          exact ⟨_, rfl, hN H4 b4 g4 _ _ _ _⟩
      | q tx i' rest' =>
        obtain ⟨a, bq, wq, us, eV, ha, hbq, hi', hu⟩ := hR2
        cases eV
        have hE2 := rE
        unfold effL at hE2
        have hz : (Rw9.q tx i' rest').size = i'.size + rest'.size + 1 := rfl
        have hdp : max (i'.dep + 1) rest'.dep ≤ dep := rdep
        have e0 : ((Sc.mk' kS []).mk' kS []).n = Sc.n + 2 := by rw [Sto.n_mk, Sto.n_mk]
        cases hq : effL ((Sc.mk' kS []).mk' kS []) (Sc.n + 1) (Sc.n + 1) i' with
        | none =>
          rw [hq] at hE2
          cases hE2
        | some sg =>
          obtain ⟨S1, il, ir⟩ := sg
          rw [hq] at hE2
          dsimp only at hE2
          obtain ⟨k1, k2, k3, k4⟩ := effL_n i' rok.1 (show Sc.n + 1 < ((Sc.mk' kS []).mk' kS []).n by omega) (show Sc.n + 1 < ((Sc.mk' kS []).mk' kS []).n by omega) hq
          obtain ⟨p1, p2⟩ := effQ_n (S := S1) (b := Sc.n) (l := il) (r := ir) (by omega)
          cases hj : join1 1000 (effQ Sc.n S1 il ir) rc with
          | none =>
            rw [hj] at hE2
            cases hE2
          | some sg =>
            obtain ⟨S2, g⟩ := sg
            rw [hj] at hE2
            have eg := (join1_n hj).2.2.1
            subst eg
            have et : (effQ Sc.n S1 il ir).2.1 = Sc.n := rfl
            refine ⟨_, rfl, _, rfl, d, Sc, a, rfl, g2, .inr ⟨tx, bq, wq, i', S1, il, ir, ha, hbq, hi', rok.1, by omega, by omega, by omega, hq, fun H3 t3 b3 n3 g3 ht3 => ?_⟩⟩
            refine ⟨t3, _, rfl, SqT.of ht3, rfl, _, _, rfl, _, _, rfl, rfl, ?_⟩
            obtain ⟨S2', dx3, u1, u2, i3, hN⟩ := next (effQ Sc.n S1 il ir) rest' (by omega) rok.2 (by omega) hu (by omega) (by omega) (by rw [et]; omega) (by omega) (by omega) ⟨S2, hj, hE2⟩ H3 t3 _ b3 g3 ht3 (fun σ' G' z => z)
            refine ⟨_, rfl, d.o, dx3, _, rfl, i3, rfl, _, rfl, _, rfl, d, _, S2', rc, Sc.n, 1000, true, rfl, g3, by omega, by omega, u1, by decide, u2, fun H4 b4 g4 => ⟨_, rfl, iteF ?_⟩⟩
            exact ⟨_, rfl, hN H4 b4 g4 _ _ _ _⟩
    · rintro σ G ⟨Sc, rc, rest, v4, v5, v6, v7, rfl, bG, gG, hrc, hSn, hRr, rok, rdep, rsz, rn, rE, hbG⟩
      rw [List.drop_length] at hRr
      cases rest with
      | nil =>
        cases rE
        refine ⟨_, rfl, _, rfl, (by show 2 ≤ sizeLine; decide), fun t nt => ?_⟩
        have s5 := same_new (o := .tup [vN S.n, vN r]) (fun _ _ e => e : Same G G) nt
        exact q _ t (bG.trans (But3.same s5)) (b3_free bG nt (gG.off nt)) (gG.same s5) upd_same
      | w x rest' =>
        obtain ⟨a, us, eV, _⟩ := hRr
        cases eV
      | q tx i' rest' =>
        obtain ⟨a, bq, wq, us, eV, _⟩ := hRr
        cases eV
end
end SQ9
namespace SQ9
open PySem L2 SQ
section
variable {P : Program} {w : World} {K : PySem.W.Frag} {mg : Str → Option Value} {base : Heap} {CS CF CP : Addr}
variable {fM fPi fSv fVv fPl : Addr} {dPi dSv dVv dPl : FuncData}
variable {dC fW fR fU : Addr} {dW dR dU : FuncData} {fE : Str → Addr}
theorem ok_ers (D : EfD P w K mg base CS fM fPi fSv fVv fPl dC fW fR fU dPi dSv dVv dPl dW dR dU fE) : ∀ d, FnOk P w K mg base CX0 (2 * d + 6) fR dR ["shapes", "row"] (spER CS d)
  | 0 => ok_er D (by decide) (ok_ew (dep := 0) (k := 4) D (by decide) (D.FR.ok scER (fun vs H Q E h => h.elim) (fun cdv A outer s H vs Q E hr h => h.elim)))
  | d + 1 => ok_er (dep := d + 1) (k := 2 * d + 7) D (by omega) (ok_ew (dep := d + 1) (k := 2 * d + 6) D (by omega) (ok_ers D d))
/-! ### Effect, principal_effect -/
structure FC (K : PySem.W.Frag) (mg : Str → Option Value) (CF : Addr) : Prop where
  g : mg "Effect" = some (.ref CF)
  cl : Cls K CF
  nS : NoAttr K CF "shapes"
  nL : NoAttr K CF "left"
  nR : NoAttr K CF "right"
def efl (o : Addr) (l r : Nat) : List (Str × V) := putF "right" (vN r) (putF "left" (vN l) (putF "shapes" (.ref o) []))
def spEI (CF : Addr) : Sp := fun vs H Q _ => ∃ (x dx o : Addr) (l r : Nat), vs = [.ref x, .ref o, vN l, vN r] ∧ H x = some (.ins CF dx []) ∧ ∀ H', But x H H' → H' x = some (.ins CF dx (efl o l r)) → Q .non H'
theorem scEI : FnScope ["self", "shapes", "left", "right"] ["self", "shapes", "left", "right"] (defScope sEI) := ⟨rfl, rfl, rfl, by decide +kernel, rfl, by decide +kernel, by decide +kernel⟩
theorem ok_ei {f : Addr} {fd : FuncData} (F : Fun K "__init__" "Effect.__init__" sEI f fd) (C : FC K mg CF) : FnOk P w K mg base CX0 1 f fd ["self", "shapes", "left", "right"] (spEI CF) := by
  refine F.ok scEI (fun vs H Q E h => ?_) (fun cdv A outer s H vs Q E hr h => ?_)
  · obtain ⟨x, dx, o, l, r, rfl, _⟩ := h
    rfl
  · obtain ⟨x, dx, o, l, r, rfl, hx, q⟩ := h
    refine ⟨_, pss_cons (ps_fld (pv 0) (pv 1) rfl) (pss_cons (ps_fld (pv 0) (pv 2) rfl) (pss_one (ps_fld (pv 0) (pv 3) rfl))), ?_⟩
    refine ⟨_, rfl, _, rfl, x, CF, dx, [], rfl, hx, C.cl, C.nS, (by show 0 < 1000; decide), ?_⟩
    refine ⟨_, rfl, _, rfl, x, CF, dx, _, rfl, upd_same, C.cl, C.nL, (by show 1 < 1000; decide), ?_⟩
    refine ⟨_, rfl, _, rfl, x, CF, dx, _, rfl, upd_same, C.cl, C.nR, (by show 2 < 1000; decide), ?_⟩
    exact q _ But.refl.put.put.put upd_same
/-- a program with the row of words that its text says -/
structure PgR (CP : Addr) (H : Hp) (p : Addr) (row : Rw9) : Prop where
  ex : ∃ dx o r tW x n ws, H p = some (.ins CP dx (pfl o r tW x n)) ∧ H r = some (.tup ws) ∧ Rw9At H row ws
theorem PgR.same {H H' : Hp} {p : Addr} {row : Rw9} (s : Same H H') (h : PgR CP H p row) : PgR CP H' p row := by
  obtain ⟨dx, o, r, tW, x, n, ws, e1, e2, e3⟩ := h.ex
  exact ⟨dx, o, r, tW, x, n, ws, s _ _ e1, s _ _ e2, e3.mono (TupS.same s)⟩
/-- a found effect -/
structure EfAt (CS CF : Addr) (H : Hp) (e : Addr) (d : Sad) (S : Sto) (l r : Nat) : Prop where
  ins : ∃ dx, H e = some (.ins CF dx (efl d.o l r))
  sh : ShIn CS H d S
  hl : l < S.n
  hr : r < S.n
def spPE (CS CF CP : Addr) : Sp := fun vs H Q _ => ∃ (p : Addr) (row : Rw9) (S : Sto) (l r : Nat), vs = [.ref p] ∧ PgR CP H p row ∧ row.ok ∧ row.dep ≤ 2 ∧ row.size ≤ 200 ∧ effR Sto.nil row = some (S, l, r) ∧
  ∀ (H' : Hp) (e : Addr) (d : Sad), Same H H' → H d.k = none → H d.p = none → H d.l = none → H e = none → EfAt CS CF H' e d S l r → Q (.ref e) H'
abbrev nPE : List Str := ["program", "shapes", "left", "right"]
theorem scPE : FnScope nPE ["program"] (defScope sPE) := ⟨rfl, rfl, rfl, by decide +kernel, rfl, by decide +kernel, by decide +kernel⟩
/-- where Shapes() and Effect(..) lie -/
structure PrD (P : Program) (w : World) (K : PySem.W.Frag) (mg : Str → Option Value) (base : Heap) (CS CF CP fSI fEI : Addr) (dSI dEI : FuncData) : Prop where
  S : SC K mg CS
  F : FC K mg CF
  V : PC K mg CP
  mS : Mk K CS fSI
  bS : Binds K dSI ["self"] []
  GS : FnOk P w K mg base CX0 1 fSI dSI ["self"] (spSI CS)
  mF : Mk K CF fEI
  bF : Binds K dEI ["self", "shapes", "left", "right"] []
  GF : FnOk P w K mg base CX0 1 fEI dEI ["self", "shapes", "left", "right"] (spEI CF)
variable {fSI fEI : Addr} {dSI dEI : FuncData}
theorem ok_pe {f : Addr} {fd : FuncData} (F : Fun K "principal_effect" "principal_effect" sPE f fd) (D : EfD P w K mg base CS fM fPi fSv fVv fPl dC fW fR fU dPi dSv dVv dPl dW dR dU fE) (R : PrD P w K mg base CS CF CP fSI fEI dSI dEI) : FnOk P w K mg base CX0 11 f fd ["program"] (spPE CS CF CP) := by
  have GR : FnOk P w K mg base CX0 10 fR dR ["shapes", "row"] (spER CS 2) := ok_ers D 2
  refine F.ok scPE (fun vs H Q E h => ?_) (fun cdv A outer s H vs Q E hr h => ?_)
  · obtain ⟨p, row, S, l, r, rfl, _⟩ := h
    rfl
  · obtain ⟨p, row, S, l, r, rfl, hp, ok, dep, sz, hE, q⟩ := h
    refine ⟨_, pss_cons (ps_set (i := 1) scPE.nd rfl (.inl rfl) (pe_make0 R.mS R.GS (hr.mono (by decide)) rfl R.S.g R.bS .nil pass0))
      (pss_cons (ps_asg (pe_call GR hr rfl D.gR D.FR.kp D.bR .nil pass0 (pa_cons (pv 1) (pa_cons (pe_fld (pv 0) rfl) pa_nil))) (pg_tup rfl (pgs_cons (pg_name (i := 2) scPE.nd rfl (.inl rfl)) (pgs_cons (pg_name (i := 3) scPE.nd rfl (.inl rfl)) pgs_nil))))
      (pss_one (ps_ret (pe_make R.mF R.GF (hr.mono (by decide)) rfl R.F.g R.bF .nil pass0 (pa_cons (pv 1) (pa_cons (pv 2) (pa_cons (pv 3) pa_nil))))))), ?_⟩
    dsimp only [tNil, tMake]
    intro x dx nx ndx ne
    have s1 : Same H (upd (upd H dx (.own x)) x (.ins CS dx [])) := same_new (same_new (fun _ _ e => e) ndx) (by rw [upd_ne (Ne.symm ne)]; exact nx)
    refine ⟨x, dx, rfl, upd_same, fun H1 d hd b1 nk np nl g1 => ⟨rfl, ?_⟩⟩
    subst hd
    have fr : ∀ {a : Addr}, upd (upd H dx (.own d.o)) d.o (.ins CS dx []) a = none → H a = none := fun {a} n => s1.free n
    have t1 : Same H H1 := fun a o e => b1 a o (s1 _ _ e) (ne_of_none e nx)
    obtain ⟨dxp, o, rr, tW, xt, n, ws, e1, e2, e3⟩ := (hp.same t1).ex
    refine ⟨_, rfl, _, rfl, p, CP, dxp, _, _, rfl, e1, R.V.cl, R.V.nR, rfl, d, Sto.nil, S, rr, ws, row, l, r, rfl, g1, e2, e3, ok, dep, sz, (by show 0 + 40 * row.size + 150 ≤ 100000; omega), hE, fun H2 t b2 nt g2 ht => ?_⟩
    have t2 : Same H H2 := fun a o e => b2 a o (t1 _ _ e) (ne_of_none e (fr nk)) (ne_of_none e (fr np)) (ne_of_none e (fr nl))
    refine ⟨t, _, rfl, SqT.of ht, rfl, _, _, rfl, _, _, rfl, rfl, ?_⟩
    refine ⟨_, rfl, _, rfl, _, rfl, fun e dxe nxe ndxe nee => ?_⟩
    have s3 : Same H2 (upd (upd H2 dxe (.own e)) e (.ins CF dxe [])) := same_new (same_new (fun _ _ e => e) ndxe) (by rw [upd_ne (Ne.symm nee)]; exact nxe)
    refine ⟨e, dxe, d.o, l, r, rfl, upd_same, fun H3 b3 h3 => ⟨rfl, ?_⟩⟩
    have t3 : Same H2 H3 := fun a o ea => b3 a o (s3 _ _ ea) (ne_of_none ea nxe)
    have hnn : Sto.nil.n = 0 := rfl
    obtain ⟨k1, k2, k3, k4⟩ := effL_n row ok (show (0 : Nat) < (Sto.nil.mk' kS []).n by decide) (show (0 : Nat) < (Sto.nil.mk' kS []).n by decide) (show effL (Sto.nil.mk' kS []) 0 0 row = some (S, l, r) from hE)
    exact q H3 e d (st t2 t3) (fr nk) (fr np) (fr nl) (t2.free nxe) ⟨⟨dxe, h3⟩, g2.same t3, k3, k4⟩
end
end SQ9
namespace SQ9
open PySem L2 SQ
abbrev sNV : Stmt := top 85
abbrev sPS : Stmt := top 86
/-! ### the names of variables -/
/-- variables in the order of their numbers -/
def nvL : Nat → List Nat → List (Key × V)
  | _, [] => []
  | k, x :: xs => (Sum.inl (x : Int), vN k) :: nvL (k + 1) xs
def addV (ns : List Nat) (x : Nat) : List Nat := if x ∈ ns then ns else ns ++ [x]
def idxV (ns : List Nat) (x : Nat) : Nat := (addV ns x).idxOf x
def nameT (l : Str) (n : Nat) : Str := Str.empty ++ l ++ ((toString ((n : Nat) : Int) : String) : Str)
theorem nvL_len : ∀ (k : Nat) (ns : List Nat), (nvL k ns).length = ns.length
  | _, [] => rfl
  | k, x :: xs => by
    show (nvL (k + 1) xs).length + 1 = _
    rw [nvL_len]
    rfl
theorem nvL_app : ∀ (k : Nat) (ns : List Nat) (x : Nat), nvL k (ns ++ [x]) = nvL k ns ++ [(Sum.inl (x : Int), vN (k + ns.length))]
  | k, [], x => rfl
  | k, y :: ys, x => by
    show _ :: nvL (k + 1) (ys ++ [x]) = _ :: (nvL (k + 1) ys ++ _)
    rw [nvL_app, List.length_cons, show k + 1 + ys.length = k + (ys.length + 1) from by omega]
theorem nvL_no : ∀ {k : Nat} {ns : List Nat} {x : Nat}, x ∉ ns → valV (nvL k ns) (Sum.inl (x : Int)) = none
  | _, [], _, _ => rfl
  | k, y :: ys, x, h => by
    have h1 : y ≠ x := fun z => h (z ▸ List.mem_cons_self)
    show valV ((Sum.inl (y : Int), vN k) :: nvL (k + 1) ys) _ = none
    rw [valV_neg (fun z => h1 (by have := Sum.inl.inj z; omega))]
    exact nvL_no fun z => h (List.mem_cons_of_mem _ z)
theorem nvL_at : ∀ {k : Nat} {ns : List Nat} {x : Nat}, x ∈ ns → valV (nvL k ns) (Sum.inl (x : Int)) = some (vN (k + ns.idxOf x))
  | _, [], _, h => nomatch h
  | k, y :: ys, x, h => by
    by_cases e : y = x
    · subst e
      show valV ((Sum.inl (y : Int), vN k) :: nvL (k + 1) ys) _ = _
      rw [valV_pos rfl, List.idxOf_cons_self]
      rfl
    · show valV ((Sum.inl (y : Int), vN k) :: nvL (k + 1) ys) _ = _
      rw [valV_neg (fun z => e (by have := Sum.inl.inj z; omega)), List.idxOf_cons, show (y == x) = false from by simpa using e]
      show valV (nvL (k + 1) ys) _ = some (vN (k + (ys.idxOf x + 1)))
      have hm : x ∈ ys := by
        rcases List.mem_cons.mp h with z | z
        · exact absurd z.symm e
        · exact z
      rw [nvL_at hm, show k + 1 + ys.idxOf x = k + (ys.idxOf x + 1) from by omega]
theorem addV_mem (ns : List Nat) (x : Nat) : x ∈ addV ns x := by
  unfold addV
  split
  · assumption
  · exact List.mem_append.mpr (.inr List.mem_cons_self)
theorem addV_len (ns : List Nat) (x : Nat) : (addV ns x).length ≤ ns.length + 1 := by
  unfold addV
  split
  · omega
  · rw [List.length_append]
    exact Nat.le_refl _
theorem idxV_lt (ns : List Nat) (x : Nat) : idxV ns x < ns.length + 1 := Nat.lt_of_lt_of_le (List.idxOf_lt_length_of_mem (addV_mem ns x)) (addV_len ns x)
theorem num_len : ∀ k ∈ List.range 1001, ((toString ((k : Nat) : Int) : String) : Str).length ≤ 4 := by decide +kernel
theorem name_len {l : Str} {n : Nat} (h : n ≤ 1000) : (nameT l n).length ≤ l.length + 4 := by
  unfold nameT
  rw [len_app, len_app]
  have := num_len n (List.mem_range.mpr (by omega))
  show 0 + l.length + _ ≤ _
  omega
section
variable {P : Program} {w : World} {K : PySem.W.Frag} {mg : Str → Option Value} {base : Heap} {CS : Addr}
variable {fM fS fK fV fP : Addr} {dS dK dV dP : FuncData}
def spNV : Sp := fun vs H Q _ => ∃ (l : Str) (x : Nat) (a : Addr) (ns : List Nat), vs = [.str l, vN x, .ref a] ∧ H a = some (.dK (nvL 0 ns)) ∧ ns.length ≤ 900 ∧ l.length ≤ 5 ∧ ∀ H', But a H H' → H' a = some (.dK (nvL 0 (addV ns x))) → Q (.str (nameT l (idxV ns x))) H'
theorem scNV : FnScope ["letter", "variable", "numbers"] ["letter", "variable", "numbers"] (defScope sNV) := ⟨rfl, rfl, rfl, by decide +kernel, rfl, by decide +kernel, by decide +kernel⟩
theorem ok_nv {f : Addr} {fd : FuncData} (F : Fun K "name_variable" "name_variable" sNV f fd) (B : B2 mg) : FnOk P w K mg base CX0 1 f fd ["letter", "variable", "numbers"] spNV := by
  refine F.ok scNV (fun vs H Q E h => ?_) (fun cdv A outer s H vs Q E hr h => ?_)
  · obtain ⟨l, x, a, ns, rfl, _⟩ := h
    rfl
  · obtain ⟨l, x, a, ns, rfl, ha, hn, hl, q⟩ := h
    have hu := hu_of hr
    refine ⟨_, pss_cons (ps_if (pt_cmp (pc_dnotin hu (pv 1) (pv 2))) (pss_one (ps_asg (pe_callB call_lenD (by rfl) B.len PySem.boot_len (pa_cons (pv 2) pa_nil)) (pg_sub (pv 2) (pv 1) (set_dict hu)))) pss_nil)
      (pss_one (ps_ret (pe_joined (.cons (pe_fmt (pv 0)) (.cons (pe_fmt (pe_dget hu (pv 2) (pv 1) (fun _ _ => rfl))) .nil))))), ?_⟩
    have il := idxV_lt ns x
    have line : ∀ {k : Nat}, k ≤ 2000 → k ≤ sizeLine := fun h => Nat.le_trans h (by decide)
    refine seq_mid (fun σ G => σ = [some (.str l), some (vN x), some (.ref a)] ∧ But a H G ∧ G a = some (.dK (nvL 0 (addV ns x)))) (fun N hN => ?_) ?_
    · refine ⟨_, rfl, _, rfl, a, _, rfl, .inl ⟨_, Sum.inl (x : Int), .inl ha, rfl, rfl⟩, _, rfl, ?_⟩
      by_cases hm : x ∈ ns
      · rw [nvL_at hm]
        refine iteF (hN _ _ ⟨rfl, But.refl, ?_⟩)
        unfold addV
        rw [if_pos hm]
        exact ha
      · rw [nvL_no hm]
        refine iteT ⟨_, rfl, a, _, rfl, ha, _, rfl, _, rfl, a, _, rfl, DPut.k (k := Sum.inl (x : Int)) ha (by rw [nvL_len]; exact Nat.lt_of_le_of_lt hn (by decide)), hN _ _ ⟨rfl, But.refl.put, ?_⟩⟩
        rw [upd_same, putK_new _ (nvL_no hm)]
        unfold addV
        rw [if_neg hm, nvL_app, nvL_len, Nat.zero_add]
    rintro _ H' ⟨rfl, b', h'⟩
    have hv := nvL_at (k := 0) (addV_mem ns x)
    rw [Nat.zero_add] at hv
    have nl := num_len (idxV ns x) (List.mem_range.mpr (by omega))
    have l0 : (Str.empty).length = 0 := rfl
    refine ⟨_, rfl, .inl ⟨l, rfl, line (by omega), l, rfl, line (by rw [len_app]; omega), _, rfl, _, rfl, a, _, rfl, .inl ⟨_, Sum.inl (x : Int), .inl h', rfl, hv.symm⟩, .inr ⟨_, rfl, ?_, _, rfl, ?_, q H' b' h'⟩⟩⟩
    · exact Nat.lt_of_le_of_lt (Nat.log2_le_self _) (by show idxV ns x < 1920; omega)
    · rw [len_app, len_app]
      exact line (by show 0 + l.length + _ ≤ 2000; have : ((toString (((addV ns x).idxOf x : Nat) : Int) : String) : Str).length ≤ 4 := nl; omega)
/-! ### the pieces of a shape's text -/
abbrev Pc := Sum Str Nat
def pcV : Pc → V
  | .inl x => .str x
  | .inr n => vN n
def pcs (S : Sto) (ns vs : List Nat) (x : Nat) : Option (List Pc × List Nat × List Nat) :=
  if S.kind x = kS then some ([.inl (nameT "s" (idxV ns x))], addV ns x, vs)
  else if S.kind x = kV9 then some ([.inl (nameT "a" (idxV vs x))], ns, addV vs x)
  else if S.kind x = kP then some ([.inl "*"], ns, vs)
  else if S.kind x = kQ then (match S.part x with | [a, b] => some ([.inl "[", .inr (S.root a), .inl " -> ", .inr (S.root b), .inl "]"], ns, vs) | _ => none)
  else (match S.part x with | [a, b] => some ([.inr (S.root a), .inl " ", .inr (S.root b)], ns, vs) | _ => none)
/-- the numbers of both kinds of variables -/
structure NbAt (H : Hp) (aN aS aV : Addr) (ns vs : List Nat) : Prop where
  n : H aN = some (.dK [(Sum.inr kS, .ref aS), (Sum.inr kV9, .ref aV)])
  s : H aS = some (.dK (nvL 0 ns))
  v : H aV = some (.dK (nvL 0 vs))
  ne : aS ≠ aV ∧ aN ≠ aS ∧ aN ≠ aV
/-- all stands but the links and the numbers -/
def FrW (d : Sad) (aS aV : Addr) (H H' : Hp) : Prop := ∀ b o, H b = some o → b ≠ d.l → b ≠ aS → b ≠ aV → H' b = some o
theorem FrW.refl {d : Sad} {aS aV : Addr} {H : Hp} : FrW d aS aV H H := fun _ _ e _ _ _ => e
theorem FrW.trans {d : Sad} {aS aV : Addr} {H H1 H2 : Hp} (a : FrW d aS aV H H1) (b : FrW d aS aV H1 H2) : FrW d aS aV H H2 := fun c o e n1 n2 n3 => b c o (a c o e n1 n2 n3) n1 n2 n3
theorem FrW.l {d : Sad} {aS aV : Addr} {H H' : Hp} (b : But d.l H H') : FrW d aS aV H H' := fun c o e n _ _ => b c o e n
theorem FrW.same {d : Sad} {aS aV : Addr} {H H' : Hp} (b : Same H H') : FrW d aS aV H H' := fun c o e _ _ _ => b c o e
theorem NbAt.same {H H' : Hp} {aN aS aV : Addr} {ns vs : List Nat} (s : Same H H') (h : NbAt H aN aS aV ns vs) : NbAt H' aN aS aV ns vs := ⟨s _ _ h.n, s _ _ h.s, s _ _ h.v, h.ne⟩
theorem NbAt.butl {CS : Addr} {d : Sad} {S : Sto} {H H' : Hp} {aN aS aV : Addr} {ns vs : List Nat} (hS : ShIn CS H d S) (b : But d.l H H') (h : NbAt H aN aS aV ns vs) : NbAt H' aN aS aV ns vs := by
  obtain ⟨L, rk, e3, _⟩ := hS.hl
  exact ⟨b _ _ h.n (ne_of h.n e3 (by intro z; cases z)), b _ _ h.s (ne_of h.s e3 (by intro z; cases z)), b _ _ h.v (ne_of h.v e3 (by intro z; cases z)), h.ne⟩
theorem ShIn.butd {H H' : Hp} {d : Sad} {S : Sto} {a : Addr} {kvs kvs' : List (Key × V)} (h : ShIn CS H d S) (ha : H a = some (.dK kvs)) (b : But a H H') : ShIn CS H' d S := by
  obtain ⟨dx, e⟩ := h.ins
  obtain ⟨ps, e1, e2⟩ := h.hp
  obtain ⟨L, rk, e3, e4⟩ := h.hl
  exact ⟨h.ok, ⟨dx, b _ _ e (ne_of e ha (by intro z; cases z))⟩, b _ _ h.hk (ne_of h.hk ha (by intro z; cases z)), ⟨ps, b _ _ e1 (ne_of e1 ha (by intro z; cases z)), Paired.mapP e2 fun _ _ z => b _ _ z (ne_of z ha (by intro q; cases q))⟩, ⟨L, rk, b _ _ e3 (ne_of e3 ha (by intro z; cases z)), e4⟩, h.ne⟩
structure PsD (P : Program) (w : World) (K : PySem.W.Frag) (mg : Str → Option Value) (base : Heap) (fN : Addr) (dN : FuncData) : Prop where
  W : Kn5 mg
  ar : ∃ t, mg "ARROW" = some (.str " -> " t)
  gN : mg "name_variable" = some (.ref fN)
  kN : PySem.W.keepIn K (.ref fN) = true
  bN : Binds K dN ["letter", "variable", "numbers"] []
  GN : FnOk P w K mg base CX0 1 fN dN ["letter", "variable", "numbers"] spNV
variable {fN : Addr} {dN : FuncData}
def spPS (CS : Addr) : Sp := fun vs H Q _ => ∃ (d : Sad) (S : Sto) (x : Nat) (aN aS aV : Addr) (n1 n2 m1 m2 : List Nat) (ps : List Pc), vs = [.ref d.o, vN x, .ref aN] ∧ ShIn CS H d S ∧ x < S.n ∧ S.root x = x ∧ NbAt H aN aS aV n1 n2 ∧ n1.length ≤ 900 ∧ n2.length ≤ 900 ∧ pcs S n1 n2 x = some (ps, m1, m2) ∧
  ∀ (H' : Hp) (p : Addr), FrW d aS aV H H' → H p = none → ShIn CS H' d S → NbAt H' aN aS aV m1 m2 → H' p = some (.lst (ps.map pcV)) → Q (.ref p) H'
abbrev nPS : List Str := ["shapes", "shape", "numbers", "kind", "left", "right", "stack", "top"]
theorem scPS : FnScope nPS ["shapes", "shape", "numbers"] (defScope sPS) := ⟨rfl, rfl, rfl, by decide +kernel, rfl, by decide +kernel, by decide +kernel⟩
theorem ok_ps {f : Addr} {fd : FuncData} (F : Fun K "pieces_of_shape" "pieces_of_shape" sPS f fd) (D : ShD P w K mg base CS fM fS fK fV fP dS dK dV dP) (N : PsD P w K mg base fN dN) : FnOk P w K mg base CX0 3 f fd ["shapes", "shape", "numbers"] (spPS CS) := by
  obtain ⟨t1, h1⟩ := N.W.sv
  obtain ⟨t2, h2⟩ := N.W.vv
  obtain ⟨t3, h3⟩ := N.W.pl
  obtain ⟨t4, h4⟩ := N.W.qu
  obtain ⟨t5, h5⟩ := N.ar
  have C := D.m.C
  refine F.ok scPS (fun vs H Q E h => ?_) (fun cdv A outer s H vs Q E hr h => ?_)
  · obtain ⟨d, S, x, aN, aS, aV, n1, n2, m1, m2, ps, rfl, _⟩ := h
    rfl
  · obtain ⟨d, S, x, aN, aS, aV, n1, n2, m1, m2, ps, rfl, h, hx, rx, hN, l1, l2, hP, q⟩ := h
    have hu := hu_of hr
    refine ⟨_, pss_cons (ps_set (i := 3) scPS.nd rfl (.inl rfl) (pe_meth (pv 0) C.cl D.mK D.GK hr D.bK .nil pass0 (pa_cons (pv 1) pa_nil)))
      (pss_cons (ps_if (pt_cmpR op_eq (pv 3) (pe_glob (v := .str "stack variable") rfl h1 ⟨_, rfl⟩) (nomark _)) (pss_one (ps_ret (pe_lst (pa_cons (pe_call N.GN (hr.mono (by decide)) rfl N.gN N.kN N.bN .nil pass0 (pa_cons pe_str (pa_cons (pv 1) (pa_cons (pe_dget hu (pv 2) (pv 3) (fun _ _ => rfl)) pa_nil)))) pa_nil)))) pss_nil)
      (pss_cons (ps_if (pt_cmpR op_eq (pv 3) (pe_glob (v := .str "value variable") rfl h2 ⟨_, rfl⟩) (nomark _)) (pss_one (ps_ret (pe_lst (pa_cons (pe_call N.GN (hr.mono (by decide)) rfl N.gN N.kN N.bN .nil pass0 (pa_cons pe_str (pa_cons (pv 1) (pa_cons (pe_dget hu (pv 2) (pv 3) (fun _ _ => rfl)) pa_nil)))) pa_nil)))) pss_nil)
      (pss_cons (ps_if (pt_cmpR op_eq (pv 3) (pe_glob (v := .str "plain") rfl h3 ⟨_, rfl⟩) (nomark _)) (pss_one (ps_ret (pe_lst (pa_cons pe_str pa_nil)))) pss_nil)
      (pss_cons (ps_if (pt_cmpR op_eq (pv 3) (pe_glob (v := .str "quotation") rfl h4 ⟨_, rfl⟩) (nomark _))
        (pss_cons (ps_asg (pe_meth (pv 0) C.cl D.mP D.GP hr D.bP .nil pass0 (pa_cons (pv 1) pa_nil)) (pg_lst rfl (pgs_cons (pg_name (i := 4) scPS.nd rfl (.inl rfl)) (pgs_cons (pg_name (i := 5) scPS.nd rfl (.inl rfl)) pgs_nil))))
        (pss_one (ps_ret (pe_lst (pa_cons pe_str (pa_cons (pv 4) (pa_cons (pe_glob (v := .str " -> ") rfl h5 ⟨_, rfl⟩) (pa_cons (pv 5) (pa_cons pe_str pa_nil))))))))) pss_nil)
      (pss_cons (ps_asg (pe_meth (pv 0) C.cl D.mP D.GP hr D.bP .nil pass0 (pa_cons (pv 1) pa_nil)) (pg_lst rfl (pgs_cons (pg_name (i := 6) scPS.nd rfl (.inl rfl)) (pgs_cons (pg_name (i := 7) scPS.nd rfl (.inl rfl)) pgs_nil))))
      (pss_one (ps_ret (pe_lst (pa_cons (pv 6) (pa_cons pe_str (pa_cons (pv 7) pa_nil))))))))))), ?_⟩
    obtain ⟨dx, hi⟩ := h.ins
    refine ⟨_, rfl, d.o, dx, _, rfl, hi, rfl, _, rfl, d, S, x, rfl, h, hx, fun H1 b1 g1 => ?_⟩
    rw [rx]
    have N1 := hN.butl h b1
    obtain ⟨dx1, i1⟩ := g1.ins
    unfold pcs at hP
    have fr : ∀ {p : Addr} {G : Hp}, FrW d aS aV H G → ShIn CS G d S → NbAt G aN aS aV n1 n2 → G p = none → H p = none := fun {p G} fG gG nG n => by
      cases e : H p with
      | none => rfl
      | some o =>
        rw [fG p o e (fun z => by obtain ⟨L, rk, e3, _⟩ := gG.hl; rw [z, e3] at n; cases n) (fun z => by rw [z, nG.s] at n; cases n) (fun z => by rw [z, nG.v] at n; cases n)] at n
        cases n
    refine ⟨_, rfl, rfl, _, rfl, ?_⟩
    rw [dec_kind]
    by_cases c1 : S.kind x = kS
    · rw [if_pos c1] at hP
      cases hP
      rw [decide_eq_true c1]
      refine iteT ⟨_, rfl, _, rfl, _, rfl, aN, .ref aS, rfl, .inl ⟨_, Sum.inr (S.kind x), .inl N1.n, rfl, ?_⟩, "s", x, aS, n1, rfl, N1.s, l1, by decide, fun H2 b2 h2 => ?_⟩
      · rw [c1, valV_pos rfl]
      refine ⟨(by show 1 ≤ sizeLine; decide), fun p np => ?_⟩
      have g2 := g1.butd (kvs' := []) N1.s b2
      have hv2 := b2 _ _ N1.v (Ne.symm N1.ne.1)
      have hn2 := b2 _ _ N1.n N1.ne.2.1
      have s3 := same_new (o := .lst [V.str (nameT "s" (idxV n1 x))]) (fun _ _ e => e : Same H2 H2) np
      have N2 : NbAt H2 aN aS aV (addV n1 x) n2 := ⟨hn2, h2, hv2, N1.ne⟩
      have f2 : FrW d aS aV H H2 := fun b o e a1 a2 a3 => b2 b o (b1 b o e a1) a2
      refine q _ p (f2.trans (FrW.same s3)) ?_ (g2.same s3) (N2.same s3) upd_same
      cases e : H p with
      | none => rfl
      | some o =>
        rw [f2 p o e (fun z => by obtain ⟨L, rk, e3, _⟩ := g2.hl; rw [z, e3] at np; cases np) (fun z => by rw [z, h2] at np; cases np) (fun z => by rw [z, hv2] at np; cases np)] at np
        cases np
    rw [if_neg c1] at hP
    rw [decide_eq_false c1]
    refine iteF ⟨_, rfl, rfl, _, rfl, ?_⟩
    rw [dec_kind]
    by_cases c2 : S.kind x = kV9
    · rw [if_pos c2] at hP
      cases hP
      rw [decide_eq_true c2]
      refine iteT ⟨_, rfl, _, rfl, _, rfl, aN, .ref aV, rfl, .inl ⟨_, Sum.inr (S.kind x), .inl N1.n, rfl, ?_⟩, "a", x, aV, n2, rfl, N1.v, l2, by decide, fun H2 b2 h2 => ?_⟩
      · rw [c2, valV_neg (by intro z; exact absurd (Sum.inr.inj z) (by decide +kernel)), valV_pos rfl]
      refine ⟨(by show 1 ≤ sizeLine; decide), fun p np => ?_⟩
      have g2 := g1.butd (kvs' := []) N1.v b2
      have hs2 := b2 _ _ N1.s N1.ne.1
      have hn2 := b2 _ _ N1.n N1.ne.2.2
      have s3 := same_new (o := .lst [V.str (nameT "a" (idxV n2 x))]) (fun _ _ e => e : Same H2 H2) np
      have N2 : NbAt H2 aN aS aV n1 (addV n2 x) := ⟨hn2, hs2, h2, N1.ne⟩
      have f2 : FrW d aS aV H H2 := fun b o e a1 a2 a3 => b2 b o (b1 b o e a1) a3
      refine q _ p (f2.trans (FrW.same s3)) ?_ (g2.same s3) (N2.same s3) upd_same
      cases e : H p with
      | none => rfl
      | some o =>
        rw [f2 p o e (fun z => by obtain ⟨L, rk, e3, _⟩ := g2.hl; rw [z, e3] at np; cases np) (fun z => by rw [z, hs2] at np; cases np) (fun z => by rw [z, h2] at np; cases np)] at np
        cases np
    rw [if_neg c2] at hP
    rw [decide_eq_false c2]
    refine iteF ⟨_, rfl, rfl, _, rfl, ?_⟩
    rw [dec_kind]
    by_cases c3 : S.kind x = kP
    · rw [if_pos c3] at hP
      cases hP
      rw [decide_eq_true c3]
      refine iteT ⟨(by show 1 ≤ sizeLine; decide), fun p np => ?_⟩
      have s3 := same_new (o := .lst [V.str "*"]) (fun _ _ e => e : Same H1 H1) np
      exact q _ p ((FrW.l b1).trans (FrW.same s3)) (fr (FrW.l b1) g1 N1 np) (g1.same s3) (N1.same s3) upd_same
    rw [if_neg c3] at hP
    rw [decide_eq_false c3]
    refine iteF ⟨_, rfl, rfl, _, rfl, ?_⟩
    rw [dec_kind]
    by_cases c4 : S.kind x = kQ
    · rw [if_pos c4] at hP
      rw [decide_eq_true c4]
      match hpt : S.part x, hP with
      | [a, b], hP =>
        cases hP
        refine iteT ⟨_, rfl, d.o, dx1, _, rfl, i1, rfl, _, rfl, d, S, x, rfl, g1, hx, fun H2 pl b2 npl g2 hpl => ?_⟩
        rw [rx, hpt] at hpl
        have N2 := N1.butl g1 b2
        refine ⟨pl, _, rfl, SqL.of hpl, rfl, _, _, rfl, _, _, rfl, rfl, ?_⟩
        refine ⟨_, rfl, _, rfl, (by show 5 ≤ sizeLine; decide), fun p np => ?_⟩
        have s3 := same_new (o := .lst (([.inl "[", .inr (S.root a), .inl " -> ", .inr (S.root b), .inl "]"] : List Pc).map pcV)) (fun _ _ e => e : Same H2 H2) np
        exact q _ p ((FrW.l (b1.trans b2)).trans (FrW.same s3)) (fr (FrW.l (b1.trans b2)) g2 N2 np) (g2.same s3) (N2.same s3) upd_same
      | [], hP => cases hP
      | [_], hP => cases hP
      | _ :: _ :: _ :: _, hP => cases hP
    · rw [if_neg c4] at hP
      rw [decide_eq_false c4]
      match hpt : S.part x, hP with
      | [a, b], hP =>
        cases hP
        refine iteF ⟨_, rfl, d.o, dx1, _, rfl, i1, rfl, _, rfl, d, S, x, rfl, g1, hx, fun H2 pl b2 npl g2 hpl => ?_⟩
        rw [rx, hpt] at hpl
        have N2 := N1.butl g1 b2
        refine ⟨pl, _, rfl, SqL.of hpl, rfl, _, _, rfl, _, _, rfl, rfl, ?_⟩
        refine ⟨_, rfl, _, rfl, (by show 3 ≤ sizeLine; decide), fun p np => ?_⟩
        have s3 := same_new (o := .lst (([.inr (S.root a), .inl " ", .inr (S.root b)] : List Pc).map pcV)) (fun _ _ e => e : Same H2 H2) np
        exact q _ p ((FrW.l (b1.trans b2)).trans (FrW.same s3)) (fr (FrW.l (b1.trans b2)) g2 N2 np) (g2.same s3) (N2.same s3) upd_same
      | [], hP => cases hP
      | [_], hP => cases hP
      | _ :: _ :: _ :: _, hP => cases hP
end
end SQ9
namespace SQ9
open PySem L2 SQ
abbrev sWE : Stmt := top 87
def wrF : Nat → Sto → List Nat → List Nat → List Pc → List Str → Nat → Option (List Str)
  | 0, _, _, _, _, _, _ => none
  | _ + 1, _, _, _, [], wr, _ => some wr
  | m + 1, S, ns, vs, .inl t :: rest, wr, len => if len + t.length ≤ 2000 then wrF m S ns vs rest (wr ++ [t]) (len + t.length) else none
  | m + 1, S, ns, vs, .inr x :: rest, wr, len => match pcs S ns vs (S.root x) with
    | none => none
    | some (ps, ns', vs') => if ns'.length ≤ 900 ∧ vs'.length ≤ 900 then wrF m S ns' vs' (ps ++ rest) wr len else none
theorem pcs_ok {S : Sto} (o : S.Ok) {ns vs ns' vs' : List Nat} {x : Nat} {ps : List Pc} (hx : x < S.n) (h : pcs S ns vs x = some (ps, ns', vs')) : ps.length ≤ 5 ∧ ∀ y, Sum.inr y ∈ ps → y < S.n := by
  unfold pcs at h
  have go : ∀ {z : Str} {y : Nat}, Sum.inr y ∈ ([.inl z] : List Pc) → y < S.n := fun {z y} hm => by
    have := List.mem_singleton.mp hm
    cases this
  split at h
  · cases h
    exact ⟨(by show 1 ≤ 5; decide), fun y hy => go hy⟩
  · split at h
    · cases h
      exact ⟨(by show 1 ≤ 5; decide), fun y hy => go hy⟩
    · split at h
      · cases h
        exact ⟨(by show 1 ≤ 5; decide), fun y hy => go hy⟩
      · split at h
        · match hp : S.part x, h with
          | [a, b], h =>
            cases h
            have la := o.root_lt (o.part_lt hx a (by rw [hp]; exact List.mem_cons_self))
            have lb := o.root_lt (o.part_lt hx b (by rw [hp]; exact List.mem_cons_of_mem _ List.mem_cons_self))
            refine ⟨by show 5 ≤ 5; decide, fun y hy => ?_⟩
            simp only [List.mem_cons, List.not_mem_nil, or_false, reduceCtorEq, false_or, Sum.inr.injEq] at hy
            rcases hy with rfl | rfl
            · exact la
            · exact lb
          | [], h => cases h
          | [_], h => cases h
          | _ :: _ :: _ :: _, h => cases h
        · match hp : S.part x, h with
          | [a, b], h =>
            cases h
            have la := o.root_lt (o.part_lt hx a (by rw [hp]; exact List.mem_cons_self))
            have lb := o.root_lt (o.part_lt hx b (by rw [hp]; exact List.mem_cons_of_mem _ List.mem_cons_self))
            refine ⟨by show 3 ≤ 5; decide, fun y hy => ?_⟩
            simp only [List.mem_cons, List.not_mem_nil, or_false, reduceCtorEq, false_or, Sum.inr.injEq] at hy
            rcases hy with rfl | rfl
            · exact la
            · exact lb
          | [], h => cases h
          | [_], h => cases h
          | _ :: _ :: _ :: _, h => cases h
section
variable {P : Program} {w : World} {K : PySem.W.Frag} {mg : Str → Option Value} {base : Heap} {CS CF CP : Addr}
variable {fM fS fK fV fP fN fQ : Addr} {dS dK dV dP dN dQ : FuncData}
def spWE (CS CF : Addr) : Sp := fun vs H Q _ => ∃ (e : Addr) (d : Sad) (S : Sto) (l r m : Nat) (wr : List Str), vs = [.ref e, .int 2000] ∧ EfAt CS CF H e d S l r ∧ m ≤ 100000 ∧ wrF m S [] [] [.inr l, .inl " -> ", .inr r] [] 0 = some wr ∧ ∀ H', But d.l H H' → EfAt CS CF H' e d S l r → Q (.str (Txt.join "" wr)) H'
abbrev nWE : List Str := ["found", "most", "numbers", "written", "length", "pending", "piece", "shape"]
theorem scWE : FnScope nWE ["found", "most"] (defScope sWE) := ⟨rfl, rfl, rfl, by decide +kernel, rfl, by decide +kernel, by decide +kernel⟩
theorem ok_we {f : Addr} {fd : FuncData} (F : Fun K "write_effect" "write_effect" sWE f fd) (B : B2 mg) (FCl : FC K mg CF) (D : ShD P w K mg base CS fM fS fK fV fP dS dK dV dP) (N : PsD P w K mg base fN dN) (gQ : mg "pieces_of_shape" = some (.ref fQ)) (kQ' : PySem.W.keepIn K (.ref fQ) = true) (bQ : Binds K dQ ["shapes", "shape", "numbers"] []) (GQ : FnOk P w K mg base CX0 3 fQ dQ ["shapes", "shape", "numbers"] (spPS CS)) : FnOk P w K mg base CX0 4 f fd ["found", "most"] (spWE CS CF) := by
  obtain ⟨t1, h1⟩ := N.W.sv
  obtain ⟨t2, h2⟩ := N.W.vv
  obtain ⟨t5, h5⟩ := N.ar
  have C := D.m.C
  refine F.ok scWE (fun vs H Q E h => ?_) (fun cdv A outer s H vs Q E hr h => ?_)
  · obtain ⟨e, d, S, l, r, m, wr, rfl, _⟩ := h
    rfl
  · obtain ⟨e, d, S, l, r, m, wr, rfl, hE, hm, hW, q⟩ := h
    have hu := hu_of hr
    refine ⟨_, (pss_cons (ps_set (i := 2) scWE.nd rfl (.inl rfl) (pe_disp (pps_cons (pe_glob (v := .str "stack variable") rfl h1 ⟨_, rfl⟩) pe_dnewK (pps_cons (pe_glob (v := .str "value variable") rfl h2 ⟨_, rfl⟩) pe_dnewK pps_nil)) rfl rfl (by intro z; cases z) (by show 2 ≤ 15; decide)))
      (pss_cons (ps_set (i := 3) scWE.nd rfl (.inl rfl) (pe_lst pa_nil))
      (pss_cons (ps_set (i := 4) scWE.nd rfl (.inl rfl) pe_int)
      (pss_cons (ps_set (i := 5) scWE.nd rfl (.inl rfl) (pe_lst (pa_cons (pe_fld (pv 0) rfl) (pa_cons (pe_glob (v := .str " -> ") rfl h5 ⟨_, rfl⟩) (pa_cons (pe_fld (pv 0) rfl) pa_nil)))))
      (pss_cons (ps_while PassesOwn.never (PW.pt (pw_and (pt_truth (pv 5) (fun _ => rfl)) (pw_and1 (pt_cmpR op_le (pv 4) (pv 1) (nomark _))))) (pss_cons (ps_set (i := 6) scWE.nd rfl (.inl rfl) (pe_bm0 PySem.F.plainAttrs_list PySem.F.slot_list_pop PySem.F.type_list_pop mt_pop (pv 5)))
      (pss_one (ps_if (pt_val (pe_callB call_isi (by rfl) B.isi (by decide +kernel) (pa_cons (pv 6) (pa_cons (pe_bltn (v := .ty "str") (by rfl) B.str (by decide +kernel) rfl) pa_nil)))) (pss_cons (ps_expr (pe_bm PySem.F.plainAttrs_list PySem.F.slot_list_append PySem.F.type_list_append mt_append (pv 3) (pa_cons (pv 6) pa_nil)))
      (pss_one (ps_aug (i := 4) scWE.nd rfl (.inl rfl) (pe_callB call_len_str (by rfl) B.len PySem.boot_len (pa_cons (pv 6) pa_nil)) ip_add))) (pss_cons (ps_set (i := 7) scWE.nd rfl (.inl rfl) (pe_meth (pe_fld (pv 0) rfl) C.cl D.s.M D.s.G (hr.mono (by decide)) D.s.b .nil pass0 (pa_cons (pv 6) pa_nil)))
      (pss_one (ps_expr (pe_bm PySem.F.plainAttrs_list PySem.F.slot_list_extend PySem.F.type_list_extend mt_extend (pv 5) (pa_cons (pe_revL (pe_call GQ hr rfl gQ kQ' bQ .nil pass0 (pa_cons (pe_fld (pv 0) rfl) (pa_cons (pv 7) (pa_cons (pv 2) pa_nil))))) pa_nil)))))))))
      (pss_one (ps_ret (pe_ifExp (pt_cmpR op_le (pv 4) (pv 1) (nomark _)) (pe_join pe_str (pv 3)) pe_non)))))))), ?_⟩
    have hS0 := hE.sh
    intro aN nN
    have s1 : Same H (upd H aN (.dK [])) := same_new (fun _ _ e => e) nN
    have e1 : upd H aN (.dK []) aN = some (.dK []) := upd_same
    generalize upd H aN (.dK []) = H1 at s1 e1 ⊢
    intro aS nS
    have s2 : Same H1 (upd H1 aS (.dK [])) := same_new (fun _ _ e => e) nS
    have e2 : upd H1 aS (.dK []) aS = some (.dK []) := upd_same
    have nNS : aN ≠ aS := ne_of_none e1 nS
    generalize upd H1 aS (.dK []) = H2 at s2 e2 ⊢
    intro aV nV
    have s3 : Same H2 (upd H2 aV (.dK [])) := same_new (fun _ _ e => e) nV
    have e3 : upd H2 aV (.dK []) aV = some (.dK []) := upd_same
    have nNV : aN ≠ aV := ne_of_none (s2 _ _ e1) nV
    have nSV : aS ≠ aV := ne_of_none e2 nV
    generalize upd H2 aV (.dK []) = H3 at s3 e3 ⊢
    refine ⟨s3 _ _ (s2 _ _ e1), [(Sum.inr kS, .ref aS), (Sum.inr kV9, .ref aV)], rfl, (by show 2 ≤ 15; decide), ?_⟩
    have em : mergeK [] [((Sum.inr kS : Key), V.ref aS), (Sum.inr kV9, .ref aV)] = [(Sum.inr kS, .ref aS), (Sum.inr kV9, .ref aV)] := by rfl
    rw [em]
    have n2 : H aS = none := s1.free nS
    have n3 : H aV = none := (st s1 s2).free nV
    have t3 : Same H H3 := st s1 (st s2 s3)
    have F4 : Same H (upd H3 aN (.dK [(Sum.inr kS, .ref aS), (Sum.inr kV9, .ref aV)])) := fun b o eb => by
      rw [upd_ne (ne_of_none eb nN)]
      exact t3 _ _ eb
    have N4 : NbAt (upd H3 aN (.dK [(Sum.inr kS, .ref aS), (Sum.inr kV9, .ref aV)])) aN aS aV [] [] := ⟨upd_same, (upd_ne (Ne.symm nNS)).trans (s3 _ _ e2), (upd_ne (Ne.symm nNV)).trans e3, nSV, nNS, nNV⟩
    generalize upd H3 aN (.dK [(Sum.inr kS, .ref aS), (Sum.inr kV9, .ref aV)]) = H4 at F4 N4 ⊢
    have g4 := hS0.same F4
    obtain ⟨dxe, he0⟩ := hE.ins
    refine ⟨(by show 0 ≤ sizeLine; decide), fun aW nW => ?_⟩
    have offW := g4.off nW
    have s5 : Same H4 (upd H4 aW (.lst [])) := same_new (fun _ _ e => e) nW
    have e5 : upd H4 aW (.lst []) aW = some (.lst (([] : List Str).map V.str)) := upd_same
    have nW0 : H aW = none := F4.free nW
    generalize upd H4 aW (.lst []) = H5 at s5 e5 ⊢
    have he5 := s5 _ _ (F4 _ _ he0)
    refine ⟨_, rfl, e, CF, dxe, _, _, rfl, he5, FCl.cl, FCl.nR, rfl, _, rfl, e, CF, dxe, _, _, rfl, he5, FCl.cl, FCl.nL, rfl, (by show 3 ≤ sizeLine; decide), fun aP nP => ?_⟩
    have g5 := g4.same s5
    have offP := g5.off nP
    have nWP : aW ≠ aP := ne_of_none e5 nP
    have nP0 : H aP = none := (st F4 s5).free nP
    have s6 : Same H5 (upd H5 aP (.lst [vN r, .str " -> ", vN l])) := same_new (fun _ _ e => e) nP
    have e6 : upd H5 aP (.lst [vN r, .str " -> ", vN l]) aP = some (.lst ((([.inr l, .inl " -> ", .inr r] : List Pc).reverse).map pcV)) := upd_same
    generalize upd H5 aP (.lst [vN r, .str " -> ", vN l]) = H6 at s6 e6 ⊢
    have T6 : Same H H6 := st F4 (st s5 s6)
    have big : ∀ {k : Nat}, k ≤ 600000 → k < sizeLine := fun h => Nat.lt_of_le_of_lt h (by decide)
    have oe : ∀ {G : Hp}, But d.l H G → G e = some (.ins CF dxe (efl d.o l r)) := fun {G} bG => by
      obtain ⟨L, rk, e3', _⟩ := hS0.hl
      exact bG _ _ he0 (ne_of he0 e3' (by intro z; cases z))
    refine ⟨fun k σ G => ∃ ns vs pend wrc len v6 v7, wrF k S ns vs pend wrc len = some wr ∧ σ = [some (.ref e), some (.int 2000), some (.ref aN), some (.ref aW), some (vN len), some (.ref aP), v6, v7] ∧ NbAt G aN aS aV ns vs ∧ ns.length ≤ 900 ∧ vs.length ≤ 900 ∧ G aW = some (.lst (wrc.map V.str)) ∧ G aP = some (.lst (pend.reverse.map pcV)) ∧ But d.l H G ∧ ShIn CS G d S ∧ (∀ y, Sum.inr y ∈ pend → y < S.n) ∧ len = (wrc.map (·.length)).sum ∧ len ≤ 2000 ∧ wrc.length + k ≤ m ∧ pend.length + 5 * k ≤ 5 * m + 3,
      ⟨m, [], [], [.inr l, .inl " -> ", .inr r], [], 0, none, none, hW, rfl, (N4.same s5).same s6, by decide, by decide, s6 _ _ e5, e6, Same.but T6, (g4.same s5).same s6, fun y hy => ?_, rfl, by decide, by show 0 + m ≤ m; omega, by show 3 + 5 * m ≤ _; omega⟩, ?_⟩
    · simp only [List.mem_cons, List.not_mem_nil, or_false, reduceCtorEq, false_or, Sum.inr.injEq] at hy
      rcases hy with rfl | rfl
      · exact hE.hl
      · exact hE.hr
    rintro k σ G ⟨ns, vs, pend, wrc, len, v6, v7, hk, rfl, NG, l1, l2, hW', hP, bG, gG, hpd, hlen, hl2, m1, m2⟩
    have hle : decide (((len : Nat) : Int) ≤ 2000) = true := decide_eq_true (by omega)
    cases k with
    | zero => cases hk
    | succ k =>
      refine ⟨_, rfl, _, .inl ⟨_, SqL.of hP, rfl⟩, ?_⟩
      cases pend with
      | nil =>
        cases hk
        refine iteF (iteF ?_)
        refine ⟨_, rfl, _, rfl, _, _, rfl, rfl, _, rfl, ?_⟩
        rw [hle]
        refine iteT ⟨⟨_, rfl⟩, _, rfl, _, aW, wr, rfl, rfl, .inl (SqL.of hW'), ?_, ?_⟩
        · show (wr.map (·.length)).sum + wr.length * 0 ≤ _
          omega
        · obtain ⟨dx', e'⟩ := hE.ins
          exact q G bG ⟨⟨dxe, oe bG⟩, gG, hE.hl, hE.hr⟩
      | cons t rest =>
        have ene : (!(((t :: rest).reverse).map pcV).isEmpty) = true := by
          rw [List.reverse_cons, List.map_append]
          cases (rest.reverse.map pcV) <;> rfl
        rw [ene]
        refine iteT ⟨_, rfl, _, rfl, _, _, rfl, rfl, _, rfl, ?_⟩
        rw [hle]
        refine iteT ?_
        refine ⟨fun σ' G' => ∃ ns vs pend wrc len v6 v7, wrF k S ns vs pend wrc len = some wr ∧ σ' = [some (.ref e), some (.int 2000), some (.ref aN), some (.ref aW), some (vN len), some (.ref aP), v6, v7] ∧ NbAt G' aN aS aV ns vs ∧ ns.length ≤ 900 ∧ vs.length ≤ 900 ∧ G' aW = some (.lst (wrc.map V.str)) ∧ G' aP = some (.lst (pend.reverse.map pcV)) ∧ But d.l H G' ∧ ShIn CS G' d S ∧ (∀ y, Sum.inr y ∈ pend → y < S.n) ∧ len = (wrc.map (·.length)).sum ∧ len ≤ 2000 ∧ wrc.length + k ≤ m ∧ pend.length + 5 * k ≤ 5 * m + 3, fun σ' G' hh => ⟨k, Nat.lt_succ_self k, hh⟩, ?_⟩
        -- pop
        refine ⟨_, rfl, .inl ⟨rfl, _, SqL.of hP⟩, aP, _, pcV t, rfl, rfl, hP, ?_, ?_⟩
        · rw [List.reverse_cons, List.map_append, List.length_append]
          rw [List.getElem?_append_right (by simp only [List.length_map, List.length_singleton, List.length_reverse, List.map_cons, List.map_nil]; omega)]
          simp only [List.length_map, List.length_singleton, List.length_reverse, List.map_cons, List.map_nil]
          rw [show rest.length + 1 - 1 - rest.length = 0 from by omega]
          rfl
        have e7 : upd G aP (.lst ((((t :: rest).reverse).map pcV).dropLast)) aP = some (.lst (rest.reverse.map pcV)) := by
          rw [upd_same, List.reverse_cons, List.map_append]
          show some (HO.lst ((rest.reverse.map pcV ++ [pcV t]).dropLast)) = _
          rw [List.dropLast_concat]
        have nPk : ∀ {b : Addr} {kvs : List (Key × V)}, G b = some (.dK kvs) → b ≠ aP := fun {b kvs} eb z => by
          rw [z, hP] at eb
          cases eb
        have N7 : NbAt (upd G aP (.lst ((((t :: rest).reverse).map pcV).dropLast))) aN aS aV ns vs := ⟨(upd_ne (nPk NG.n)).trans NG.n, (upd_ne (nPk NG.s)).trans NG.s, (upd_ne (nPk NG.v)).trans NG.v, NG.ne⟩
        have g7 := gG.put' (new := .lst ((((t :: rest).reverse).map pcV).dropLast)) hP (fun _ z => nomatch z) (fun _ _ _ z => nomatch z) offP
        have w7 : upd G aP (.lst ((((t :: rest).reverse).map pcV).dropLast)) aW = some (.lst (wrc.map V.str)) := (upd_ne nWP).trans hW'
        have b7 : But d.l H (upd G aP (.lst ((((t :: rest).reverse).map pcV).dropLast))) := fun b o eb nb => by
          rw [upd_ne (ne_of_none eb nP0)]
          exact bG b o eb nb
        generalize upd G aP (.lst ((((t :: rest).reverse).map pcV).dropLast)) = G7 at e7 N7 g7 w7 b7 ⊢
        rw [List.length_cons] at m2
        cases t with
        | inl t =>
          unfold wrF at hk
          split at hk
          · rename_i h2000
            refine ⟨_, rfl, .str t, .ty "str", .type "str", .type "str", true, rfl, .ty "str", .base (.str _), kit_ty (by decide +kernel), _, rfl, iteT ?_⟩
            refine ⟨_, rfl, .inl ⟨rfl, _, SqL.of w7⟩, _, rfl, aW, _, _, rfl, rfl, w7, big (by rw [List.length_map]; omega), ?_⟩
            refine ⟨_, rfl, _, rfl, t, rfl, Nat.le_trans (by omega : t.length ≤ 2000) (by decide), _, _, rfl, rfl, ?_⟩
            have nWk : ∀ {b : Addr} {kvs : List (Key × V)}, G7 b = some (.dK kvs) → b ≠ aW := fun {b kvs} eb z => by
              rw [z, w7] at eb
              cases eb
            refine ⟨ns, vs, rest, wrc ++ [t], len + t.length, some (.str t), v7, hk, ?_, ⟨(upd_ne (nWk N7.n)).trans N7.n, (upd_ne (nWk N7.s)).trans N7.s, (upd_ne (nWk N7.v)).trans N7.v, N7.ne⟩, l1, l2, ?_, (upd_ne (Ne.symm nWP)).trans e7, fun b o eb nb => ?_, g7.put' w7 (fun _ z => nomatch z) (fun _ _ _ z => nomatch z) offW, fun y hy => hpd y (List.mem_cons_of_mem _ hy), ?_, h2000, ?_, ?_⟩
            · show [some (V.ref e), some (V.int 2000), some (V.ref aN), some (V.ref aW), some (V.int ((len : Int) + (t.length : Int))), some (V.ref aP), some (V.str t), v7] = _
              rw [show ((len : Int) + (t.length : Int)) = ((len + t.length : Nat) : Int) from by omega]
            · rw [upd_same, List.map_append]
              rfl
            · rw [upd_ne (ne_of_none eb nW0)]
              exact b7 b o eb nb
            · rw [List.map_append, List.sum_append, hlen]
              simp
            · rw [List.length_append, List.length_singleton]
              omega
            · omega
          · cases hk
        | inr x =>
          have hx : x < S.n := hpd x List.mem_cons_self
          have hrl := g7.ok.root_lt hx
          have rid := g7.ok.root_id hx
          have hk' : (match pcs S ns vs (S.root x) with | none => none | some (ps, ns', vs') => if ns'.length ≤ 900 ∧ vs'.length ≤ 900 then wrF k S ns' vs' (ps ++ rest) wrc len else none) = some wr := hk
          cases hpc : pcs S ns vs (S.root x) with
          | none =>
            rw [hpc] at hk'
            cases hk'
          | some pp =>
            obtain ⟨ps, ns', vs'⟩ := pp
            rw [hpc] at hk'
            dsimp only at hk'
            split at hk'
            · rename_i h900
              obtain ⟨p5, pn⟩ := pcs_ok g7.ok hrl hpc
              refine ⟨_, rfl, vN x, .ty "str", .type "int", .type "str", false, rfl, .ty "str", .base (.int _), kit_ty (by decide +kernel), _, rfl, iteF ?_⟩
              obtain ⟨dx7, i7⟩ := g7.ins
              refine ⟨_, rfl, e, CF, dxe, _, _, rfl, oe b7, FCl.cl, FCl.nS, rfl, d.o, dx7, _, rfl, i7, rfl, _, rfl, d, S, x, rfl, g7, hx, fun G8 b8 g8 => ?_⟩
              have N8 := N7.butl g7 b8
              have e8 := b8 _ _ e7 offP.2.2
              have w8 := b8 _ _ w7 offW.2.2
              have bb8 : But d.l H G8 := b7.trans b8
              refine ⟨_, rfl, .inl ⟨rfl, _, SqL.of e8⟩, _, rfl, e, CF, dxe, _, _, rfl, oe bb8, FCl.cl, FCl.nS, rfl, _, rfl, _, rfl, d, S, S.root x, aN, aS, aV, ns, vs, ns', vs', ps, rfl, g8, hrl, rid, N8, l1, l2, hpc, fun G9 pl f9 npl g9 N9 hpl => ?_⟩
              have nke : ∀ {b : Addr} {xs : List V}, G8 b = some (.lst xs) → b ≠ aS ∧ b ≠ aV := fun {b xs} eb => ⟨(fun z => by rw [z, N8.s] at eb; cases eb), (fun z => by rw [z, N8.v] at eb; cases eb)⟩
              have e9 := f9 _ _ e8 offP.2.2 (nke e8).1 (nke e8).2
              have w9 := f9 _ _ w8 offW.2.2 (nke w8).1 (nke w8).2
              have b9 : But d.l H G9 := fun b o eb nb => f9 b o (bb8 b o eb nb) nb (ne_of_none eb n2) (ne_of_none eb n3)
              refine ⟨pl, _, rfl, SqL.of hpl, fun pr npr => ?_⟩
              have s10 : Same G9 (upd G9 pr (.lst ((ps.map pcV).reverse))) := same_new (fun _ _ e => e) npr
              have e10 : upd G9 pr (.lst ((ps.map pcV).reverse)) pr = some (.lst ((ps.map pcV).reverse)) := upd_same
              generalize upd G9 pr (.lst ((ps.map pcV).reverse)) = G10 at s10 e10 ⊢
              have e11 := s10 _ _ e9
              have w11 := s10 _ _ w9
              have N11 := N9.same s10
              refine ⟨aP, pr, _, _, rfl, rfl, e11, e10, ?_, ?_⟩
              · rw [List.length_map, List.length_reverse, List.length_reverse, List.length_map]
                exact Nat.le_of_lt (big (by omega))
              have nPk2 : ∀ {b : Addr} {kvs : List (Key × V)}, G10 b = some (.dK kvs) → b ≠ aP := fun {b kvs} eb z => by
                rw [z, e11] at eb
                cases eb
              refine ⟨ns', vs', ps ++ rest, wrc, len, _, _, hk', rfl, ⟨(upd_ne (nPk2 N11.n)).trans N11.n, (upd_ne (nPk2 N11.s)).trans N11.s, (upd_ne (nPk2 N11.v)).trans N11.v, N11.ne⟩, h900.1, h900.2, (upd_ne nWP).trans w11, ?_, fun b o eb nb => ?_, (g9.same s10).put' e11 (fun _ z => nomatch z) (fun _ _ _ z => nomatch z) offP, fun y hy => ?_, hlen, hl2, by omega, ?_⟩
              · rw [upd_same, List.reverse_append, List.map_append, List.map_reverse, List.map_reverse]
              · rw [upd_ne (ne_of_none eb nP0)]
                exact s10 _ _ (b9 b o eb nb)
              · rcases List.mem_append.mp hy with z | z
                · exact pn y z
                · exact hpd y (List.mem_cons_of_mem _ z)
              · rw [List.length_append]
                omega
            · cases hk'
end
end SQ9
namespace SQ9
open PySem L2 SQ
abbrev sCp : Stmt := top 79
abbrev sEf : Stmt := top 88
abbrev sRe : Stmt := top 89
abbrev sFo : Stmt := top 90
abbrev sIf : Stmt := top 91
section
variable {P : Program} {w : World} {K : PySem.W.Frag} {mg : Str → Option Value} {base : Heap} {CS CF CP : Addr}
def spCp (CP : Addr) : Sp := fun vs H Q _ => ∃ (p dx : Addr) (fs : List (Str × V)), vs = [.ref p] ∧ H p = some (.ins CP dx fs) ∧ Q .non H
theorem scCp : FnScope ["value"] ["value"] (defScope sCp) := ⟨rfl, rfl, rfl, by decide +kernel, rfl, by decide +kernel, by decide +kernel⟩
theorem ok_cp9 {f : Addr} {fd : FuncData} (F : Fun K "check_program" "check_program" sCp f fd) (B : B2 mg) (PV : PC K mg CP) (T : IC K CP) : FnOk P w K mg base CX0 1 f fd ["value"] (spCp CP) := by
  refine F.ok scCp (fun vs H Q E h => ?_) (fun cdv A outer s H vs Q E hr h => ?_)
  · obtain ⟨p, dx, fs, rfl, _⟩ := h
    rfl
  · obtain ⟨p, dx, fs, rfl, hp, q⟩ := h
    refine ⟨_, pss_one (ps_if (pt_not (pt_val (pe_callB call_isi (by rfl) B.isi (by decide +kernel) (pa_cons (pv 0) (pa_cons (pe_glob (v := .ref CP) rfl PV.g rfl) pa_nil))))) (pss_one ps_never) pss_nil), ?_⟩
    exact ⟨_, rfl, _, _, _, _, true, rfl, .own CP, T.ty hp, T.self, _, rfl, iteF q⟩
/-- what the questions about effects lean on -/
structure QuD (P : Program) (w : World) (K : PySem.W.Frag) (mg : Str → Option Value) (base : Heap) (CS CF CP fC fPE fWE fSp fKo : Addr) (dC dPE dWE dSp dKo : FuncData) : Prop where
  B : B2 mg
  S : SC K mg CS
  F : FC K mg CF
  V : PC K mg CP
  gC : mg "check_program" = some (.ref fC)
  kC : PySem.W.keepIn K (.ref fC) = true
  bC : Binds K dC ["value"] []
  GC : FnOk P w K mg base CX0 1 fC dC ["value"] (spCp CP)
  gP : mg "principal_effect" = some (.ref fPE)
  kP : PySem.W.keepIn K (.ref fPE) = true
  bP : Binds K dPE ["program"] []
  GP : FnOk P w K mg base CX0 11 fPE dPE ["program"] (spPE CS CF CP)
  gW : mg "write_effect" = some (.ref fWE)
  kW : PySem.W.keepIn K (.ref fWE) = true
  bW : Binds K dWE ["found", "most"] []
  GW : FnOk P w K mg base CX0 4 fWE dWE ["found", "most"] (spWE CS CF)
  most : ∃ t, mg "MOST_TEXT" = some (.int 2000 t)
  mS : Meth K CS "spread" fSp
  bS : Binds K dSp ["self", "stack"] []
  GS : FnOk P w K mg base CX0 3 fSp dSp ["self", "stack"] (spSpr CS)
  mK : Meth K CS "kind_of" fKo
  bK : Binds K dKo ["self", "shape"] []
  GK : FnOk P w K mg base CX0 2 fKo dKo ["self", "shape"] (spKin CS)
  W : Kn5 mg
variable {fC fPE fWE fSp fKo : Addr} {dC dPE dWE dSp dKo : FuncData}
/-- a program whose row has an effect -/
structure HasE (CP : Addr) (H : Hp) (p : Addr) (S : Sto) (l r : Nat) : Prop where
  ex : ∃ row, PgR CP H p row ∧ row.ok ∧ row.dep ≤ 2 ∧ row.size ≤ 200 ∧ effR Sto.nil row = some (S, l, r)
theorem HasE.same {H H' : Hp} {p : Addr} {S : Sto} {l r : Nat} (s : Same H H') (h : HasE CP H p S l r) : HasE CP H' p S l r := by
  obtain ⟨row, a, b⟩ := h.ex
  exact ⟨row, a.same s, b⟩
def spEf (CP : Addr) : Sp := fun vs H Q _ => ∃ (p : Addr) (S : Sto) (l r m : Nat) (wr : List Str), vs = [.ref p] ∧ HasE CP H p S l r ∧ m ≤ 100000 ∧ wrF m S [] [] [.inr l, .inl " -> ", .inr r] [] 0 = some wr ∧ ∀ H', Same H H' → Q (.str (Txt.join "" wr)) H'
theorem scEf : FnScope ["program", "text"] ["program"] (defScope sEf) := ⟨rfl, rfl, rfl, by decide +kernel, rfl, by decide +kernel, by decide +kernel⟩
theorem ok_ef {f : Addr} {fd : FuncData} (F : Fun K "effect" "effect" sEf f fd) (D : QuD P w K mg base CS CF CP fC fPE fWE fSp fKo dC dPE dWE dSp dKo) : FnOk P w K mg base CX0 12 f fd ["program"] (spEf CP) := by
  obtain ⟨tm, hm⟩ := D.most
  refine F.ok scEf (fun vs H Q E h => ?_) (fun cdv A outer s H vs Q E hr h => ?_)
  · obtain ⟨p, S, l, r, m, wr, rfl, _⟩ := h
    rfl
  · obtain ⟨p, S, l, r, m, wr, rfl, hE, hm9, hW, q⟩ := h
    refine ⟨_, pss_cons (ps_expr (pe_call D.GC (hr.mono (by decide)) rfl D.gC D.kC D.bC .nil pass0 (pa_cons (pv 0) pa_nil)))
      (pss_cons (ps_set (i := 1) scEf.nd rfl (.inl rfl) (pe_call D.GW (hr.mono (by decide)) rfl D.gW D.kW D.bW .nil pass0 (pa_cons (pe_call D.GP hr rfl D.gP D.kP D.bP .nil pass0 (pa_cons (pv 0) pa_nil)) (pa_cons (pe_glob (v := .int 2000) rfl hm ⟨_, rfl⟩) pa_nil))))
      (pss_cons (ps_if (pt_cmpR op_isN (pv 1) pe_non (nomark _)) (pss_one ps_never) pss_nil)
      (pss_one (ps_ret (pv 1))))), ?_⟩
    obtain ⟨row, hp, ok, dep, sz, hR⟩ := hE.ex
    obtain ⟨dx, o, rr, tW, xt, n, ws, e1, e2, e3⟩ := hp.ex
    refine ⟨_, rfl, p, dx, _, rfl, e1, ?_⟩
    refine ⟨_, rfl, p, row, S, l, r, rfl, hp, ok, dep, sz, hR, fun H1 e d s1 nk np nl ne h1 => ?_⟩
    refine ⟨e, d, S, l, r, m, wr, rfl, h1, hm9, hW, fun H2 b2 h2 => ?_⟩
    have t2 : Same H H2 := fun b ob eb => b2 b ob (s1 _ _ eb) (ne_of_none eb nl)
    refine ⟨_, rfl, rfl, _, rfl, itN (fun z => nomatch z) ⟨_, rfl, q H2 t2⟩⟩
/-! ### reach, is_first_order -/
def spRe (CP : Addr) : Sp := fun vs H Q _ => ∃ (p : Addr) (S : Sto) (l r m b1 b2 : Nat) (x1 x2 : List Nat), vs = [.ref p] ∧ HasE CP H p S l r ∧ m ≤ 100000 ∧ sprF m S (S.root l) [] = some (b1, x1) ∧ sprF m S (S.root r) [] = some (b2, x2) ∧ ∀ (H' : Hp) (t : Addr), Same H H' → H' t = some (.tup [vN x1.length, vN x2.length]) → Q (.ref t) H'
abbrev nRe : List Str := ["program", "found", "taken", "left"]
theorem scRe : FnScope nRe ["program"] (defScope sRe) := ⟨rfl, rfl, rfl, by decide +kernel, rfl, by decide +kernel, by decide +kernel⟩
theorem ok_re {f : Addr} {fd : FuncData} (F : Fun K "reach" "reach" sRe f fd) (D : QuD P w K mg base CS CF CP fC fPE fWE fSp fKo dC dPE dWE dSp dKo) : FnOk P w K mg base CX0 12 f fd ["program"] (spRe CP) := by
  refine F.ok scRe (fun vs H Q E h => ?_) (fun cdv A outer s H vs Q E hr h => ?_)
  · obtain ⟨p, S, l, r, m, b1, b2, x1, x2, rfl, _⟩ := h
    rfl
  · obtain ⟨p, S, l, r, m, b1, b2, x1, x2, rfl, hE, hm9, hs1, hs2, q⟩ := h
    refine ⟨_, pss_cons (ps_expr (pe_call D.GC (hr.mono (by decide)) rfl D.gC D.kC D.bC .nil pass0 (pa_cons (pv 0) pa_nil)))
      (pss_cons (ps_set (i := 1) scRe.nd rfl (.inl rfl) (pe_call D.GP hr rfl D.gP D.kP D.bP .nil pass0 (pa_cons (pv 0) pa_nil)))
      (pss_cons (ps_set (i := 2) scRe.nd rfl (.inl rfl) (pe_ix ix_tup (pe_meth (pe_fld (pv 1) rfl) D.S.cl D.mS D.GS (hr.mono (by decide)) D.bS .nil pass0 (pa_cons (pe_fld (pv 1) rfl) pa_nil)) pe_int (fun _ _ => rfl)))
      (pss_cons (ps_set (i := 3) scRe.nd rfl (.inl rfl) (pe_ix ix_tup (pe_meth (pe_fld (pv 1) rfl) D.S.cl D.mS D.GS (hr.mono (by decide)) D.bS .nil pass0 (pa_cons (pe_fld (pv 1) rfl) pa_nil)) pe_int (fun _ _ => rfl)))
      (pss_one (ps_ret (pe_tup (pa_cons (pe_callB call_len_seq (by rfl) D.B.len PySem.boot_len (pa_cons (pv 2) pa_nil)) (pa_cons (pe_callB call_len_seq (by rfl) D.B.len PySem.boot_len (pa_cons (pv 3) pa_nil)) pa_nil)))))))), ?_⟩
    obtain ⟨row, hp, ok, dep, sz, hR⟩ := hE.ex
    obtain ⟨dx, o, rr, tW, xt, n, ws, e1, e2, e3⟩ := hp.ex
    refine ⟨_, rfl, p, dx, _, rfl, e1, ?_⟩
    refine ⟨_, rfl, p, row, S, l, r, rfl, hp, ok, dep, sz, hR, fun H1 e d s1 nk np nl ne h1 => ?_⟩
    obtain ⟨dxe, he⟩ := h1.ins
    obtain ⟨dx1, i1⟩ := h1.sh.ins
    have nel : ∀ {G : Hp}, ShIn CS G d S → G e = some (.ins CF dxe (efl d.o l r)) → e ≠ d.l := fun {G} g ee => by
      obtain ⟨L, rk, e3', _⟩ := g.hl
      exact ne_of ee e3' (by intro z; cases z)
    refine ⟨_, rfl, e, CF, dxe, _, _, rfl, he, D.F.cl, D.F.nS, rfl, d.o, dx1, _, rfl, i1, rfl, _, rfl, e, CF, dxe, _, _, rfl, he, D.F.cl, D.F.nL, rfl, d, S, l, m, b1, x1, rfl, h1.sh, h1.hl, hm9, hs1, fun H2 t2 p2 bb2 g2 np2 nt2 ht2 hp2 => ?_⟩
    refine ⟨t2, _, 1, _, rfl, rfl, SqT.of ht2, rfl, ?_⟩
    have he2 := bb2 _ _ he (nel h1.sh he)
    obtain ⟨dx2, i2⟩ := g2.ins
    refine ⟨_, rfl, e, CF, dxe, _, _, rfl, he2, D.F.cl, D.F.nS, rfl, d.o, dx2, _, rfl, i2, rfl, _, rfl, e, CF, dxe, _, _, rfl, he2, D.F.cl, D.F.nR, rfl, d, S, r, m, b2, x2, rfl, g2, h1.hr, hm9, hs2, fun H3 t3 p3 bb3 g3 np3 nt3 ht3 hp3 => ?_⟩
    refine ⟨t3, _, 1, _, rfl, rfl, SqT.of ht3, rfl, ?_⟩
    have off2 := h1.sh.off np2
    have hp23 := bb3 _ _ hp2 off2.2.2
    refine ⟨_, rfl, p2, _, rfl, .inl (SqL.of hp23), _, rfl, p3, _, rfl, .inl (SqL.of hp3), (by show 2 ≤ sizeLine; decide), fun t nt => ?_⟩
    rw [List.length_map, List.length_map]
    have tt : Same H H3 := fun b ob eb => bb3 b ob (bb2 b ob (s1 _ _ eb) (ne_of_none eb nl)) (ne_of_none eb nl)
    exact q _ t (same_new tt nt) upd_same
def foB (S : Sto) (b1 b2 : Nat) (x1 x2 : List Nat) : Bool := decide (b1 = b2) && (x1 ++ x2).all fun x => !decide (S.kind (S.root x) = kQ)
def spFo (CS CF : Addr) : Sp := fun vs H Q _ => ∃ (e : Addr) (d : Sad) (S : Sto) (l r m b1 b2 : Nat) (x1 x2 : List Nat), vs = [.ref e] ∧ EfAt CS CF H e d S l r ∧ m ≤ 100000 ∧ sprF m S (S.root l) [] = some (b1, x1) ∧ sprF m S (S.root r) [] = some (b2, x2) ∧ (∀ x ∈ x1 ++ x2, x < S.n) ∧ x1.length + x2.length ≤ 900 ∧ ∀ H', But d.l H H' → Q (.bl (foB S b1 b2 x1 x2)) H'
abbrev nFo : List Str := ["found", "shapes", "below", "taken", "after", "left", "shape"]
theorem scFo : FnScope nFo ["found"] (defScope sFo) := ⟨rfl, rfl, rfl, by decide +kernel, rfl, by decide +kernel, by decide +kernel⟩
theorem ok_fo {f : Addr} {fd : FuncData} (F : Fun K "is_first_order_effect" "is_first_order_effect" sFo f fd) (D : QuD P w K mg base CS CF CP fC fPE fWE fSp fKo dC dPE dWE dSp dKo) : FnOk P w K mg base CX0 4 f fd ["found"] (spFo CS CF) := by
  obtain ⟨tq, hq⟩ := D.W.qu
  refine F.ok scFo (fun vs H Q E h => ?_) (fun cdv A outer s H vs Q E hr h => ?_)
  · obtain ⟨e, d, S, l, r, m, b1, b2, x1, x2, rfl, _⟩ := h
    rfl
  · obtain ⟨e, d, S, l, r, m, b1, b2, x1, x2, rfl, hE, hm9, hs1, hs2, hlt, hlen, q⟩ := h
    refine ⟨_, pss_cons (ps_set (i := 1) scFo.nd rfl (.inr rfl) (pe_fld (pv 0) rfl))
      (pss_cons (ps_asg (pe_meth (pv 1) D.S.cl D.mS D.GS hr D.bS .nil pass0 (pa_cons (pe_fld (pv 0) rfl) pa_nil)) (pg_tup rfl (pgs_cons (pg_name (i := 2) scFo.nd rfl (.inl rfl)) (pgs_cons (pg_name (i := 3) scFo.nd rfl (.inl rfl)) pgs_nil))))
      (pss_cons (ps_asg (pe_meth (pv 1) D.S.cl D.mS D.GS hr D.bS .nil pass0 (pa_cons (pe_fld (pv 0) rfl) pa_nil)) (pg_tup rfl (pgs_cons (pg_name (i := 4) scFo.nd rfl (.inl rfl)) (pgs_cons (pg_name (i := 5) scFo.nd rfl (.inl rfl)) pgs_nil))))
      (pss_one (ps_ret (pe_and (pe_cmpR op_eq (pv 2) (pv 4) (by rfl)) (pe_one (pe_callB (cr_all rfl) (by rfl) D.B.all (by decide +kernel) (pa_cons (pe_lc (own := [("shape", 6)]) (g := gName 6) (tt := tYes) rfl scFo.nd (pi_list (pe_op op_cat (pv 3) (pv 5))) (blkOk_by (N := nFo) (sc := defScope sFo) (by decide +kernel)) (fun _ _ _ _ _ => pg_name (i := 6) scFo.nd rfl (.inl rfl)) (fun _ _ _ _ _ => pts_nil)
        (fun _ _ _ _ _ => pe_cmpR op_ne (pe_meth (pv 1) D.S.cl D.mK D.GK (hr.mono (by decide)) D.bK .nil pass0 (pa_cons (pv 6) pa_nil)) (pe_glob (v := .str "quotation") rfl hq ⟨_, rfl⟩) (by rfl))) pa_nil)))))))), ?_⟩
    obtain ⟨dxe, he⟩ := hE.ins
    obtain ⟨dx1, i1⟩ := hE.sh.ins
    have nel : e ≠ d.l := by
      obtain ⟨L, rk, e3', _⟩ := hE.sh.hl
      exact ne_of he e3' (by intro z; cases z)
    refine ⟨_, rfl, e, CF, dxe, _, _, rfl, he, D.F.cl, D.F.nS, rfl, ?_⟩
    refine ⟨_, rfl, d.o, dx1, _, rfl, i1, rfl, _, rfl, e, CF, dxe, _, _, rfl, he, D.F.cl, D.F.nL, rfl, d, S, l, m, b1, x1, rfl, hE.sh, hE.hl, hm9, hs1, fun H2 t2 p2 bb2 g2 np2 nt2 ht2 hp2 => ?_⟩
    refine ⟨t2, _, rfl, SqT.of ht2, rfl, _, _, rfl, _, _, rfl, rfl, ?_⟩
    have he2 := bb2 _ _ he nel
    obtain ⟨dx2, i2⟩ := g2.ins
    refine ⟨_, rfl, d.o, dx2, _, rfl, i2, rfl, _, rfl, e, CF, dxe, _, _, rfl, he2, D.F.cl, D.F.nR, rfl, d, S, r, m, b2, x2, rfl, g2, hE.hr, hm9, hs2, fun H3 t3 p3 bb3 g3 np3 nt3 ht3 hp3 => ?_⟩
    refine ⟨t3, _, rfl, SqT.of ht3, rfl, _, _, rfl, _, _, rfl, rfl, ?_⟩
    have off2 := hE.sh.off np2
    have hp23 := bb3 _ _ hp2 off2.2.2
    have bb : But d.l H H3 := bb2.trans bb3
    refine ⟨_, rfl, _, rfl, rfl, _, rfl, ?_⟩
    rw [dec_vN]
    by_cases eb : b1 = b2
    · rw [decide_eq_true eb]
      refine iteT ?_
      refine ⟨_, rfl, _, rfl, p2, p3, _, _, rfl, rfl, hp23, hp3, Nat.le_trans (by rw [List.length_map, List.length_map]; omega : _ ≤ 1000) (by decide), fun pc npc => ?_⟩
      have offc := g3.off npc
      have s4 : Same H3 (upd H3 pc (.lst (x1.map vN ++ x2.map vN))) := same_new (fun _ _ e => e) npc
      have e4 : upd H3 pc (.lst (x1.map vN ++ x2.map vN)) pc = some (.lst ((x1 ++ x2).map vN)) := by rw [upd_same, List.map_append]
      generalize upd H3 pc (.lst (x1.map vN ++ x2.map vN)) = H4 at s4 e4 ⊢
      refine ⟨pc, rfl, ⟨_, SqL.of e4⟩, fun D2 nD => ?_⟩
      have g4 := g3.same s4
      have offD := g4.off nD
      have nDc : D2 ≠ pc := (ne_of_none e4 nD).symm
      have s5 : Same H4 (upd H4 D2 (.lst [])) := same_new (fun _ _ e => e) nD
      refine lc_list (K := K) (a := pc) (xs := (x1 ++ x2).map vN) (fun i G => But d.l H4 G ∧ ShIn CS G d S ∧ G D2 = some (.lst ((((x1 ++ x2).take i).map fun x => !decide (S.kind (S.root x) = kQ)).map V.bl))) ⟨Same.but s5, g4.same s5, upd_same⟩ (fun i G _ hG => SqL.of (hG.1 _ _ e4 offc.2.2)) ?_ ?_
      · rintro i v G hi' ⟨bG, gG, hD⟩
        rw [List.getElem?_map] at hi'
        cases hg : (x1 ++ x2)[i]? with
        | none =>
          rw [hg] at hi'
          cases hi'
        | some y =>
          rw [hg] at hi'
          cases hi'
          have hy : y < S.n := hlt y (List.mem_of_getElem? hg)
          obtain ⟨dx5, i5⟩ := gG.ins
          refine ⟨rfl, keptT ⟨_, rfl, d.o, dx5, _, rfl, i5, rfl, _, rfl, d, S, y, rfl, gG, hy, fun G2 b5 g5 => ⟨rfl, ?_⟩⟩⟩
          rw [dec_kind]
          have hD2 := b5 _ _ hD offD.2.2
          refine ⟨_, hD2, ?_, ?_, g5.put' hD2 (fun _ z => nomatch z) (fun _ _ _ z => nomatch z) offD, ?_⟩
          · rw [List.length_map, List.length_map]
            refine small1000 (Nat.le_trans (List.take_sublist _ _).length_le ?_)
            rw [List.length_append]
            omega
          · intro b o e nb
            rw [upd_ne (ne_of_none e nD)]
            exact b5 b o (bG b o e nb) nb
          · rw [upd_same, take_more hg, List.map_append, List.map_append]
            rfl
      · rintro G ⟨bG, gG, hD⟩
        have e9 : ((x1 ++ x2).map vN).length = (x1 ++ x2).length := List.length_map _
        rw [e9, List.take_length] at hD
        refine ⟨D2, _, rfl, SqL.of hD, ?_⟩
        have q' := q G (bb.trans ((Same.but s4).trans bG))
        unfold foB at q'
        rw [decide_eq_true eb, Bool.true_and] at q'
        rw [List.all_map]
        exact q'
    · rw [decide_eq_false eb]
      refine iteF ?_
      have q' := q H3 bb
      unfold foB at q'
      rw [decide_eq_false eb, Bool.false_and] at q'
      exact q'
def spIf (CS CF CP : Addr) : Sp := fun vs H Q _ => ∃ (p : Addr) (S : Sto) (l r m b1 b2 : Nat) (x1 x2 : List Nat), vs = [.ref p] ∧ HasE CP H p S l r ∧ m ≤ 100000 ∧ sprF m S (S.root l) [] = some (b1, x1) ∧ sprF m S (S.root r) [] = some (b2, x2) ∧ (∀ x ∈ x1 ++ x2, x < S.n) ∧ x1.length + x2.length ≤ 900 ∧ ∀ H', Same H H' → Q (.bl (foB S b1 b2 x1 x2)) H'
theorem scIf : FnScope ["program", "found"] ["program"] (defScope sIf) := ⟨rfl, rfl, rfl, by decide +kernel, rfl, by decide +kernel, by decide +kernel⟩
theorem ok_if {f fF : Addr} {fd dF : FuncData} (F : Fun K "is_first_order" "is_first_order" sIf f fd) (D : QuD P w K mg base CS CF CP fC fPE fWE fSp fKo dC dPE dWE dSp dKo) (gF : mg "is_first_order_effect" = some (.ref fF)) (kF : PySem.W.keepIn K (.ref fF) = true) (bF : Binds K dF ["found"] []) (GF : FnOk P w K mg base CX0 4 fF dF ["found"] (spFo CS CF)) : FnOk P w K mg base CX0 12 f fd ["program"] (spIf CS CF CP) := by
  refine F.ok scIf (fun vs H Q E h => ?_) (fun cdv A outer s H vs Q E hr h => ?_)
  · obtain ⟨p, S, l, r, m, b1, b2, x1, x2, rfl, _⟩ := h
    rfl
  · obtain ⟨p, S, l, r, m, b1, b2, x1, x2, rfl, hE, hm9, hs1, hs2, hlt, hlen, q⟩ := h
    refine ⟨_, pss_cons (ps_expr (pe_call D.GC (hr.mono (by decide)) rfl D.gC D.kC D.bC .nil pass0 (pa_cons (pv 0) pa_nil)))
      (pss_cons (ps_try_thru0 (pss_one (ps_set (i := 1) scIf.nd rfl (.inl rfl) (pe_call D.GP hr rfl D.gP D.kP D.bP .nil pass0 (pa_cons (pv 0) pa_nil)))))
      (pss_one (ps_ret (pe_call GF (hr.mono (by decide)) rfl gF kF bF .nil pass0 (pa_cons (pv 1) pa_nil))))), ?_⟩
    obtain ⟨row, hp, ok, dep, sz, hR⟩ := hE.ex
    obtain ⟨dx, o, rr, tW, xt, n, ws, e1, e2, e3⟩ := hp.ex
    refine ⟨_, rfl, p, dx, _, rfl, e1, ?_⟩
    refine ⟨_, rfl, p, row, S, l, r, rfl, hp, ok, dep, sz, hR, fun H1 e d s1 nk np nl ne h1 => ?_⟩
    refine ⟨_, rfl, e, d, S, l, r, m, b1, b2, x1, x2, rfl, h1, hm9, hs1, hs2, hlt, hlen, fun H2 bb2 => ?_⟩
    exact q H2 fun b ob eb => bb2 b ob (s1 _ _ eb) (ne_of_none eb nl)
end
end SQ9
namespace SQ9
open PySem L2 SQ
/-! ### the first place of a sign -/
theorem occ_first {a : Str} {c : Nat} {i : Nat} {rest : List Nat} (hm : c ∈ a.cps.toList) (h : Builtin.Str.occurrences a ⟨#[c]⟩ 0 a.length 1 = i :: rest) : i = a.cps.toList.idxOf c := by
  obtain ⟨f, hc⟩ := PySem.StrLaws.occ_chain a ⟨#[c]⟩ 1
  rw [h] at hc
  have h1 := hc.2.1.1
  have l1 : (⟨#[c]⟩ : Str).length = 1 := rfl
  rw [l1] at h1
  have hla : a.cps.toList.length = a.length := Array.length_toList
  have hk := List.idxOf_lt_length_of_mem hm
  generalize hidx : a.cps.toList.idxOf c = k at hk
  have hge : a.cps.toList[k] = c := by
    subst hidx
    exact List.getElem_idxOf hk
  have hsplit : a.cps.toList = a.cps.toList.take k ++ (c :: a.cps.toList.drop (k + 1)) := by
    conv => lhs; rw [← List.take_append_drop k a.cps.toList, List.drop_eq_getElem_cons hk, hge]
  have hno : ∀ (l : List Nat), c ∉ l.take (l.idxOf c) := fun l => by
    induction l with
    | nil => simp
    | cons y l ih =>
      rw [List.idxOf_cons]
      by_cases e : y = c
      · rw [show (y == c) = true from by simpa using e]
        simp
      · rw [show (y == c) = false from by simpa using e]
        show c ∉ (y :: l).take (l.idxOf c + 1)
        rw [List.take_succ_cons]
        intro z
        rcases List.mem_cons.mp z with z | z
        · exact e z.symm
        · exact ih z
  have hno' : c ∉ a.cps.toList.take k := by
    rw [← hidx]
    exact hno _
  have ea : a = (⟨(a.cps.toList.take k).toArray⟩ : Str) ++ (⟨#[c]⟩ : Str) ++ (⟨(a.cps.toList.drop (k + 1)).toArray⟩ : Str) := by
    refine str_ext ?_
    rw [str_app, str_app]
    show a.cps.toList = (a.cps.toList.take k ++ [c]) ++ a.cps.toList.drop (k + 1)
    rw [List.append_assoc]
    exact hsplit
  have hp := TL.partition_app (y := (⟨#[c]⟩ : Str)) (s := c) (S := []) rfl (a := (⟨(a.cps.toList.take k).toArray⟩ : Str)) (b := (⟨(a.cps.toList.drop (k + 1)).toArray⟩ : Str)) hno'
  rw [← ea] at hp
  unfold Txt.partition at hp
  rw [h] at hp
  have h3 := congrArg (fun z : Str × Str × Str => z.1.cps.toList) hp
  have h4 : (Builtin.Str.strSub a 0 i).cps.toList = a.cps.toList.take k := h3
  have h5 : (Builtin.Str.strSub a 0 i).cps.toList = ((a.cps.toList).drop 0).take (i - 0) := TL.tl_strSub a 0 i
  rw [h5, List.drop_zero, Nat.sub_zero] at h4
  have h6 := congrArg List.length h4
  rw [List.length_take, List.length_take] at h6
  omega
/-! ### what a token is -/
def word0 (gs : List G3) (ys : List Str) (x : Str) : Option W0 :=
  if x ∈ cores then some (.core x)
  else if x ∈ ys then some (.unk x (arOf gs x).1.toNat (arOf gs x).2.toNat)
  else if isLit x = true then some (.lit x ((PySem.intText? x).getD 0))
  else match shuf x with
    | none => none
    | some (a, b) => some (.shu x a.length (b.cps.toList.map fun c => a.cps.toList.idxOf c))
def W0.txt : W0 → Str
  | .lit t _ => t
  | .unk t _ _ => t
  | .core t => t
  | .shu t _ _ => t
theorem word0_txt {gs : List G3} {ys : List Str} {x : Str} {v : W0} (h : word0 gs ys x = some v) : v.txt = x := by
  unfold word0 at h
  split at h
  · cases h
    rfl
  · split at h
    · cases h
      rfl
    · split at h
      · cases h
        rfl
      · split at h
        · cases h
        · cases h
          rfl
/-- the numbers of the words of a vocabulary -/
def ArOk (gs : List G3) (ys : List Str) : Prop := ∀ n ∈ ys, (0 ≤ (arOf gs n).1 ∧ (arOf gs n).1 ≤ 3) ∧ 0 ≤ (arOf gs n).2 ∧ (arOf gs n).2 ≤ 3
theorem shuf_five {x a b : Str} (h : shuf x = some (a, b)) : a.length ≤ 5 ∧ b.length ≤ 8 := by
  rw [shuf_def] at h
  iterate 8
    split at h
    · cases h
  rename_i h1 h2 h3 h4 h5 h6 h7 h8
  have e := Option.some.inj h
  have ea : (shParts x).1 = a := congrArg Prod.fst e
  have eb : (shParts x).2.2 = b := congrArg Prod.snd e
  rw [ea] at h4
  rw [eb] at h5
  omega
theorem word0_ok {gs : List G3} {ys : List Str} (ho : ArOk gs ys) {x : Str} {v : W0} (h : word0 gs ys x = some v) : v.ok := by
  unfold word0 at h
  split at h
  · cases h
    assumption
  · split at h
    · rename_i hx
      cases h
      have := ho x hx
      show (arOf gs x).1.toNat ≤ 3 ∧ (arOf gs x).2.toNat ≤ 3
      omega
    · split at h
      · cases h
        trivial
      · split at h
        · cases h
        · rename_i a b hs
          cases h
          obtain ⟨f1, f2⟩ := shuf_five hs
          obtain ⟨_, g2, g3⟩ := shuf_some hs
          refine ⟨f1, by rw [List.length_map]; exact g2, fun p hp => ?_⟩
          obtain ⟨c, hc, rfl⟩ := List.mem_map.mp hp
          have := List.idxOf_lt_length_of_mem (g3 c hc)
          rw [Array.length_toList] at this
          exact this
section
variable {P : Program} {w : World} {K : PySem.W.Frag} {mg : Str → Option Value} {base : Heap} {C tC fA : Addr} {dA : FuncData}
def WordAt9 (H H' : Hp) (v : V) : Option W0 → Prop
  | none => v = .non
  | some x => ∃ t, v = .ref t ∧ H t = none ∧ W0At H' t x
def spWd9 (C : Addr) : Sp := fun vs H Q _ => ∃ (x : Str) (o : Addr) (gs : List G3) (ys : List Str), vs = [.str x, .ref o] ∧ Vc C H o gs ys ∧ (∀ n ∈ ys, n ∈ gnames gs) ∧ ArOk gs ys ∧ ys.length ≤ 1000 ∧ x.length ≤ sizeLine ∧
  ∀ v H', Same H H' → WordAt9 H H' v (word0 gs ys x) → Q v H'
theorem ok_wd9 {f fL fS : Addr} {fd dL dS : FuncData} (F : Fun K "read_word" "read_word" sWd f fd) (B : B2 mg) (W : W6 mg) (WS : WSh mg) (WR : WRd mg) (CW : Core K mg tC) (VV : VC K mg C)
    (gL : mg "is_literal" = some (.ref fL)) (FL : Fun K "is_literal" "is_literal" sLi fL dL) (bL : Binds K dL ["token"] [])
    (gS : mg "split_shuffle" = some (.ref fS)) (FS : Fun K "split_shuffle" "split_shuffle" sSh fS dS) (bS : Binds K dS ["token"] [])
    (MA : Meth K C "arity" fA) (FA : Fun K "arity" "Vocabulary.arity" sAri fA dA) (bA : Binds K dA ["self", "name"] []) : FnOk P w K mg base CX0 3 f fd ["token", "vocabulary"] (spWd9 C) := by
  have GL : FnOk P w K mg base CX0 1 fL dL ["token"] spLiG := ok_liG FL B W
  have GS : FnOk P w K mg base CX0 1 fS dS ["token"] spSh := ok_sh FS B WS
  have GA : FnOk P w K mg base CX0 2 fA dA ["self", "name"] (spAri C) := ok_ari FA B VV
  refine F.ok scWd (fun vs H Q E h => ?_) (fun cdv A outer s H vs Q E hr h => ?_)
  · obtain ⟨x, o, gs, ys, rfl, _⟩ := h
    rfl
  · obtain ⟨x, o, gs, ys, rfl, hV, hg, hao, hy, hx, q⟩ := h
    have hV0 := hV
    obtain ⟨dx, dA', tN, kvs, ha, hN, hA, hk⟩ := hV
    obtain ⟨t1, g1⟩ := W.unk
    obtain ⟨t2, g2⟩ := W.lit
    obtain ⟨t3, g3⟩ := WR.cor
    obtain ⟨t4, g4⟩ := WR.shu
    refine ⟨_, pss_cons (ps_if (pt_cmpR op_in_seq (pv 0) (pe_glob (v := .ref tC) rfl CW.g rfl) (by rfl)) (pss_one (ps_ret (pe_tup (pa_cons (pe_glob (v := .str "core") rfl g3 ⟨_, rfl⟩) (pa_cons (pv 0) (pa_cons pe_non pa_nil)))))) pss_nil)
      (pss_cons (ps_if (pt_cmpR op_in_seq (pv 0) (pe_fld (pv 1) rfl) (by rfl)) (pss_one (ps_ret (pe_tup (pa_cons (pe_glob (v := .str "unknown") rfl g1 ⟨_, rfl⟩) (pa_cons (pv 0) (pa_cons (pe_meth (pv 1) VV.cl MA GA (hr.mono (by decide)) bA .nil pass0 (pa_cons (pv 0) pa_nil)) pa_nil)))))) pss_nil)
      (pss_cons (ps_if (pt_val (pe_call GL (hr.mono (by decide)) rfl gL FL.kp bL .nil pass0 (pa_cons (pv 0) pa_nil))) (pss_one (ps_ret (pe_tup (pa_cons (pe_glob (v := .str "literal") rfl g2 ⟨_, rfl⟩) (pa_cons (pv 0) (pa_cons (pe_callTy call_int_str (by rfl) B.int (by decide +kernel) (pa_cons (pv 0) pa_nil)) pa_nil)))))) pss_nil)
      (pss_cons (ps_set (i := 2) scWd.nd rfl (.inl rfl) (pe_call GS (hr.mono (by decide)) rfl gS FS.kp bS .nil pass0 (pa_cons (pv 0) pa_nil)))
      (pss_cons (ps_if (pt_cmpR op_isN (pv 2) pe_non (nomark _)) (pss_one (ps_ret pe_non)) pss_nil)
      (pss_cons (ps_asg (pv 2) (pg_tup rfl (pgs_cons (pg_name (i := 3) scWd.nd rfl (.inr rfl)) (pgs_cons (pg_name (i := 4) scWd.nd rfl (.inl rfl)) pgs_nil))))
      (pss_one (ps_ret (pe_tup (pa_cons (pe_glob (v := .str "shuffle") rfl g4 ⟨_, rfl⟩) (pa_cons (pv 0) (pa_cons (pe_tup (pa_cons (pe_callB call_len_str (by rfl) B.len PySem.boot_len (pa_cons (pv 3) pa_nil)) (pa_cons
        (pe_callTy call_tuple_of (by rfl) B.tuple (by decide +kernel) (pa_cons (pe_lc (own := [("letter", 5)]) (g := gName 5) (tt := tYes) rfl scWd.nd (pi_str (pv 4)) (blkOk_by (N := ["token", "vocabulary", "letters", "taken", "left", "letter"]) (sc := defScope sWd) (by decide +kernel)) (fun _ _ _ _ _ => pg_name (i := 5) scWd.nd rfl (.inl rfl)) (fun _ _ _ _ _ => pts_nil)
          (fun _ _ _ _ _ => pe_m1 PySem.F.slot_str_index PySem.F.type_str_index mt_sindex (pv 3) (pv 5))) pa_nil)) pa_nil))) pa_nil))))))))))), ?_⟩
    have qw : ∀ {w0 : W0}, word0 gs ys x = some w0 → ∀ (t : Addr) (H' : Hp), Same H H' → H t = none → W0At H' t w0 → Q (.ref t) H' := fun e t H' s1 n1 e1 => q _ _ s1 (by
      rw [e]
      exact ⟨t, rfl, n1, e1⟩)
    have t3 : 3 ≤ sizeLine := by decide
    refine ⟨_, rfl, tC, _, rfl, .inr (CW.at_ H), rfl, by decide, _, rfl, ?_⟩
    show (if (inV (.str x) (cores.map V.str)) = true then _ else _)
    rw [inV_cores]
    by_cases h1 : x ∈ cores
    · refine itY h1 ⟨_, rfl, t3, fun p np => ?_⟩
      exact qw (w0 := .core x) (by unfold word0; rw [if_pos h1]) p _ (same_new (fun _ _ e => e) np) np upd_same
    refine itN h1 ?_
    refine ⟨_, rfl, _, rfl, o, C, dx, _, _, rfl, ha, VV.cl, VV.nN, rfl, tN, _, rfl, .inr (SqT.of hN), rfl, ?_, _, rfl, ?_⟩
    · rw [List.all_map]
      exact List.all_eq_true.mpr fun _ _ => rfl
    show (if (inV (.str x) (ys.map V.str)) = true then _ else _)
    rw [inV_strs]
    by_cases h2 : x ∈ ys
    · refine itY h2 ?_
      refine ⟨_, rfl, _, rfl, o, dx, _, rfl, ha, rfl, _, rfl, ?_⟩
      refine ⟨o, gs, ys, x, rfl, hV0, hg x h2, fun t ht => ⟨t3, fun p np => ?_⟩⟩
      have s2 := same_new (o := .tup [.str "unknown", .str x, .ref t]) (fun _ _ e => e : Same H H) np
      have har := hao x h2
      refine qw (w0 := .unk x (arOf gs x).1.toNat (arOf gs x).2.toNat) (by unfold word0; rw [if_neg h1, if_pos h2]) p _ s2 np ⟨t, upd_same, ?_⟩
      have e1 : vN (arOf gs x).1.toNat = .int (arOf gs x).1 := by show V.int _ = _; rw [Int.toNat_of_nonneg har.1.1]
      have e2 : vN (arOf gs x).2.toNat = .int (arOf gs x).2 := by show V.int _ = _; rw [Int.toNat_of_nonneg har.2.1]
      rw [e1, e2]
      exact s2 _ _ ht
    refine itN h2 ?_
    refine ⟨_, rfl, x, rfl, hx, fun H1 s1 => ⟨_, rfl, ?_⟩⟩
    cases h3 : isLit x
    case true =>
      obtain ⟨n, hn, hl⟩ := lit_int h3
      refine iteT ⟨_, rfl, _, rfl, x, n, rfl, hn, by omega, t3, fun p np => ?_⟩
      exact qw (w0 := .lit x n) (by unfold word0; rw [if_neg h1, if_neg h2, if_pos h3, hn]; rfl) p _ (st s1 (same_new (fun _ _ e => e) np)) (s1.free np) upd_same
    refine iteF ?_
    refine ⟨_, rfl, x, rfl, hx, fun v H2 s2 hv => ?_⟩
    have s12 := st s1 s2
    have hw : word0 gs ys x = (match shuf x with | none => none | some (a, b) => some (.shu x a.length (b.cps.toList.map fun c => a.cps.toList.idxOf c))) := by
      unfold word0
      rw [if_neg h1, if_neg h2, if_neg (by rw [h3]; decide)]
    refine ⟨_, rfl, rfl, _, rfl, ?_⟩
    cases h4 : shuf x with
    | none =>
      rw [h4] at hv hw
      have e : v = .non := hv
      subst e
      refine iteT (q .non H2 s12 ?_)
      rw [hw]
      exact rfl
    | some ab =>
      obtain ⟨a, b⟩ := ab
      have hs := shuf_some h4
      rw [h4] at hv hw
      obtain ⟨p, rfl, hp⟩ := hv
      refine iteF ?_
      refine ⟨_, rfl, p, _, rfl, SqT.of hp, rfl, _, _, rfl, _, _, rfl, rfl, ?_⟩
      refine ⟨_, rfl, _, rfl, _, rfl, hs.1, _, rfl, b, rfl, fun D nD => ?_⟩
      refine lc_it (walk_str (z := b)) (fun i G => ∃ ns : List V, ns = ((b.cps.toList.take i).map fun c => a.cps.toList.idxOf c).map vN ∧ ns.length = i ∧ G = upd H2 D (.lst ns)) ⟨[], rfl, rfl, rfl⟩ (fun _ _ _ _ => trivial) ?_ ?_
      · rintro i v G H4 hi ⟨ns, hns, rfl, rfl⟩ ⟨rfl, c, hc, rfl⟩
        have mc : c ∈ b.cps.toList := List.mem_iff_getElem?.mpr ⟨_, by rw [Array.getElem?_toList]; exact hc⟩
        obtain ⟨k, rest, ho⟩ := occ_one (hs.2.2 c mc)
        have hi' : ns.length < b.cps.toList.length := by rw [Array.length_toList]; exact hi
        have h8 := hs.2.1
        refine ⟨rfl, keptT ⟨_, rfl, ⟨_, rfl⟩, _, rfl, _, _, k, rest, rfl, rfl, ho, _, upd_same, small1000 (by omega), ?_⟩⟩
        have hk := occ_first (hs.2.2 c mc) ho
        refine ⟨ns ++ [.int (k : Nat)], ?_, by simp, ?_⟩
        · have hct : b.cps.toList[ns.length]? = some c := by rw [Array.getElem?_toList]; exact hc
          rw [take_more hct, List.map_append, List.map_append, ← hns, hk]
          rfl
        · rw [upd_upd]
      · rintro G ⟨ns, hns, hn, rfl⟩
        refine ⟨D, ns, rfl, .inl ⟨SqL.of upd_same, fun l nl => ?_⟩⟩
        refine ⟨(by show 2 ≤ sizeLine; decide), fun m nm => ⟨t3, fun r nr => ?_⟩⟩
        have sD : Same H2 (upd H2 D (.lst ns)) := same_new (fun _ _ e => e) nD
        have sl := same_new (o := .tup ns) (st s12 sD) nl
        have sm := same_new (o := .tup [.int (a.length : Nat), .ref l]) sl nm
        have e9 : b.cps.size = b.cps.toList.length := (Array.length_toList).symm
        have sr := same_new (o := .tup [.str "shuffle", .str x, .ref m]) sm nr
        have hns2 : ns = (b.cps.toList.map fun c => a.cps.toList.idxOf c).map vN := by
          rw [hns]
          congr 2
          exact List.take_of_length_le (Nat.le_of_eq e9.symm)
        refine qw (w0 := .shu x a.length (b.cps.toList.map fun c => a.cps.toList.idxOf c)) hw r _ sr (sm.free nr) ⟨m, l, upd_same, ?_, ?_⟩
        · exact (upd_ne (ne_of_none upd_same nr)).trans upd_same
        · rw [← hns2]
          have e1 : upd (upd H2 D (.lst ns)) l (.tup ns) l = some (.tup ns) := upd_same
          exact (upd_ne (ne_of_none ((upd_ne (ne_of_none e1 nm)).trans e1) nr)).trans ((upd_ne (ne_of_none e1 nm)).trans e1)
end
end SQ9
namespace SQ9
open PySem L2 SQ
/-! ### rows of words while they are read -/
inductive E9 where
  | w (x : W0)
  | q (t : Str) (r : Rw9)
  deriving DecidableEq
def etx : E9 → Str
  | .w x => x.txt
  | .q t _ => t
def rofE : List E9 → Rw9
  | [] => .nil
  | .w x :: l => .w x (rofE l)
  | .q t i :: l => .q t i (rofE l)
def E9At (H : Hp) (v : V) : E9 → Prop
  | .w x => ∃ a, v = .ref a ∧ W0At H a x
  | .q t i => ∃ a b ws, v = .ref a ∧ H a = some (.tup [.str "quotation", .str t, .ref b]) ∧ H b = some (.tup ws) ∧ Rw9At H i ws
theorem E9At.mono {H H' : Hp} {v : V} {e : E9} (s : TupS H H') (h : E9At H v e) : E9At H' v e := by
  cases e with
  | w x =>
    obtain ⟨a, e, h⟩ := h
    exact ⟨a, e, h.mono s⟩
  | q t i =>
    obtain ⟨a, b, ws, e, h1, h2, h3⟩ := h
    exact ⟨a, b, ws, e, s _ _ h1, s _ _ h2, h3.mono s⟩
theorem TupS.put {H : Hp} {D : Addr} {ys zs : List V} (hD : H D = some (.lst ys)) : TupS H (upd H D (.lst zs)) := fun a vs e => by
  rw [upd_ne (ne_of e hD (by intro z; cases z))]
  exact e
def RwE (H : Hp) (ws : List V) (es : List E9) : Prop := Paired (fun v e => E9At H v e) ws es
theorem RwE.mono {H H' : Hp} {ws : List V} {es : List E9} (s : TupS H H') (h : RwE H ws es) : RwE H' ws es := Paired.mapP h fun _ _ e => e.mono s
theorem RwE.same {H H' : Hp} {ws : List V} {es : List E9} (s : Same H H') (h : RwE H ws es) : RwE H' ws es := h.mono (TupS.same s)
theorem RwE.put {D : Addr} {H : Hp} {ws ys zs : List V} {es : List E9} (hD : H D = some (.lst ys)) (h : RwE H ws es) : RwE (upd H D (.lst zs)) ws es := h.mono (TupS.put hD)
theorem RwE.snoc {H : Hp} {ws : List V} {es : List E9} {v : V} {e : E9} (h : RwE H ws es) (he : E9At H v e) : RwE H (ws ++ [v]) (es ++ [e]) := Paired.snoc h he
theorem RwE.len {H : Hp} {ws : List V} {es : List E9} (h : RwE H ws es) : ws.length = es.length := Paired.length h
theorem e9_tup {H : Hp} {v : V} {e : E9} (h : E9At H v e) : ∃ (t : Addr) (k d : V), v = V.ref t ∧ H t = some (.tup [k, .str (etx e), d]) := by
  cases e with
  | w x =>
    obtain ⟨a, e, h⟩ := h
    cases x with
    | lit t i => exact ⟨a, _, _, e, h⟩
    | unk t i o =>
      obtain ⟨b, h1, _⟩ := h
      exact ⟨a, _, _, e, h1⟩
    | core t => exact ⟨a, _, _, e, h⟩
    | shu t n ps =>
      obtain ⟨b, c, h1, _⟩ := h
      exact ⟨a, _, _, e, h1⟩
  | q t i =>
    obtain ⟨a, b, ws, e, h1, _⟩ := h
    exact ⟨a, _, _, e, h1⟩
theorem RwE.rw {H : Hp} : ∀ {ws : List V} {es : List E9}, RwE H ws es → Rw H ws (es.map etx)
  | _, _, .nil => .nil
  | _, _, .cons a b => .cons (e9_tup a) (RwE.rw b)
theorem RwE.row {H : Hp} : ∀ {ws : List V} {es : List E9}, RwE H ws es → Rw9At H (rofE es) ws
  | _, _, .nil => rfl
  | _, .w x :: es, .cons a b => by
    obtain ⟨ad, e, h⟩ := a
    exact ⟨ad, _, by rw [e], h, RwE.row b⟩
  | _, .q t i :: es, .cons a b => by
    obtain ⟨ad, b', ws, e, h1, h2, h3⟩ := a
    exact ⟨ad, b', ws, _, by rw [e], h1, h2, h3, RwE.row b⟩
/-- the lists that stand for the groups -/
def GrE (H : Hp) (as : List Addr) (s : List (List E9)) : Prop := Paired (fun a g => ∃ ws, H a = some (.lst ws) ∧ RwE H ws g) as s
theorem GrE.same {H H' : Hp} {as : List Addr} {s : List (List E9)} (e : Same H H') (h : GrE H as s) : GrE H' as s := Paired.mapP h fun _ _ ⟨ws, e1, e2⟩ => ⟨ws, e _ _ e1, e2.same e⟩
theorem GrE.put {D : Addr} {H : Hp} {as : List Addr} {s : List (List E9)} {ys zs : List V} (hD : H D = some (.lst ys)) (n : D ∉ as) (h : GrE H as s) : GrE (upd H D (.lst zs)) as s := by
  induction h with
  | nil => exact .nil
  | @cons a g as s r t ih =>
    obtain ⟨ws, e1, e2⟩ := r
    have ne : a ≠ D := fun z => n (z ▸ List.mem_cons_self)
    exact .cons ⟨ws, by rw [upd_ne ne]; exact e1, e2.put hD⟩ (ih fun z => n (List.mem_cons_of_mem _ z))
theorem GrE.len {H : Hp} {as : List Addr} {s : List (List E9)} (h : GrE H as s) : as.length = s.length := Paired.length h
/-- what stands while the row is read -/
structure RSE (H0 H : Hp) (b : Addr) (as : List Addr) (s : List (List E9)) : Prop where
  same : Same H0 H
  beg : H b = some (.lst (refs as))
  gr : GrE H as s
  nd : as.Nodup
  nb : b ∉ as
  fa : ∀ a ∈ as, H0 a = none
  fb : H0 b = none
section
variable {H0 H H' : Hp} {b : Addr} {as : List Addr} {s : List (List E9)}
theorem RSE.on (r : RSE H0 H b as s) (e : Same H H') : RSE H0 H' b as s := ⟨st r.same e, e _ _ r.beg, r.gr.same e, r.nd, r.nb, r.fa, r.fb⟩
/-- a group is begun -/
theorem RSE.begin_ {a : Addr} (r : RSE H0 H b as s) (na : H a = none) : RSE H0 (upd (upd H a (.lst [])) b (.lst (refs as ++ [.ref a]))) b (a :: as) ([] :: s) := by
  have s1 : Same H (upd H a (.lst [])) := same_new (fun _ _ e => e) na
  have ab : a ≠ b := (ne_of_none r.beg na).symm
  have naa : a ∉ as := fun m => by
    have h : ∃ g, H a = some g := by
      have hg := r.gr
      clear r s1 ab
      induction hg with
      | nil => cases m
      | @cons c g as s q t ih =>
        rcases List.mem_cons.mp m with e | m
        · obtain ⟨ws, e1, _⟩ := q
          exact ⟨_, e ▸ e1⟩
        · exact ih m
    obtain ⟨g, e⟩ := h
    rw [na] at e
    cases e
  refine ⟨fun c o e => ?_, by rw [upd_same, refs_cons], .cons ⟨[], ?_, .nil⟩ ?_, List.nodup_cons.mpr ⟨naa, r.nd⟩, fun m => ?_, fun c m => ?_, r.fb⟩
  · rw [upd_ne (ne_of_none e r.fb)]
    exact s1 _ _ (r.same _ _ e)
  · rw [upd_ne ab]
    exact upd_same
  · exact (r.gr.same s1).put (s1 _ _ r.beg) r.nb
  · rcases List.mem_cons.mp m with e | m
    · exact ab e.symm
    · exact r.nb m
  · rcases List.mem_cons.mp m with e | m
    · rw [e]
      exact r.same.free na
    · exact r.fa c m
/-- the topmost group goes -/
theorem RSE.pop {a : Addr} {g : List E9} (r : RSE H0 H b (a :: as) (g :: s)) : RSE H0 (upd H b (.lst (refs as))) b as s ∧ ∃ ws, upd H b (.lst (refs as)) a = some (.lst ws) ∧ RwE (upd H b (.lst (refs as))) ws g := by
  obtain ⟨q, t⟩ : (∃ ws, H a = some (.lst ws) ∧ RwE H ws g) ∧ GrE H as s := by
    cases r.gr with
    | cons q t => exact ⟨q, t⟩
  obtain ⟨n1, n2⟩ := List.nodup_cons.mp r.nd
  have nb : b ∉ as := fun m => r.nb (List.mem_cons_of_mem _ m)
  obtain ⟨ws, e1, e2⟩ := q
  have ab : a ≠ b := fun z => r.nb (z ▸ List.mem_cons_self)
  refine ⟨⟨fun c o e => ?_, upd_same, t.put r.beg nb, n2, nb, fun c m => r.fa c (List.mem_cons_of_mem _ m), r.fb⟩, ws, by rw [upd_ne ab]; exact e1, e2.put r.beg⟩
  rw [upd_ne (ne_of_none e r.fb)]
  exact r.same _ _ e
/-- a word is added to the topmost group -/
theorem RSE.add {a t : Addr} {g : List E9} {x : E9} {ws : List V} (r : RSE H0 H b (a :: as) (g :: s)) (ha : H a = some (.lst ws)) (ht : E9At H (.ref t) x) : RSE H0 (upd H a (.lst (ws ++ [.ref t]))) b (a :: as) ((g ++ [x]) :: s) := by
  obtain ⟨q, tl⟩ : (∃ ws, H a = some (.lst ws) ∧ RwE H ws g) ∧ GrE H as s := by
    cases r.gr with
    | cons q t => exact ⟨q, t⟩
  obtain ⟨ws', e1, e2⟩ := q
  obtain rfl : ws = ws' := by
    rw [ha] at e1
    exact HO.lst.inj (Option.some.inj e1)
  obtain ⟨n1, n2⟩ := List.nodup_cons.mp r.nd
  have ab : b ≠ a := fun z => r.nb (z ▸ List.mem_cons_self)
  refine ⟨fun c o e => ?_, by rw [upd_ne ab]; exact r.beg, .cons ⟨_, upd_same, (e2.snoc ht).put ha⟩ (tl.put ha n1), r.nd, r.nb, r.fa, r.fb⟩
  rw [upd_ne (ne_of_none e (r.fa a List.mem_cons_self))]
  exact r.same _ _ e
end
/-! ### what a row of any tokens says -/
def rdE (f : Str → Option W0) : List Str → List (List E9) → Option (List (List E9))
  | [], s => some s
  | t :: ts, s => if t = "[" then rdE f ts ([] :: s) else if t = "]" then (match s with
    | g :: h :: r => rdE f ts ((h ++ [.q (qtext (jt (g.map etx))) (rofE g)]) :: r)
    | _ => none) else (match f t with
    | some x => (match s with
      | g :: r => rdE f ts ((g ++ [.w x]) :: r)
      | [] => none)
    | none => none)
def rowE (f : Str → Option W0) (ts : List Str) : Option (List E9) := match rdE f ts [[]] with
  | some [xs] => some xs
  | _ => none
theorem rdE_open (f : Str → Option W0) (ts : List Str) (s : List (List E9)) : rdE f ("[" :: ts) s = rdE f ts ([] :: s) := by
  conv => lhs; unfold rdE
  exact if_pos rfl
theorem rdE_close (f : Str → Option W0) (ts : List Str) (g h : List E9) (r : List (List E9)) : rdE f ("]" :: ts) (g :: h :: r) = rdE f ts ((h ++ [.q (qtext (jt (g.map etx))) (rofE g)]) :: r) := by
  conv => lhs; unfold rdE
  rw [if_neg (by decide +kernel), if_pos rfl]
theorem rdE_close1 (f : Str → Option W0) (ts : List Str) (g : List E9) : rdE f ("]" :: ts) [g] = none := by
  conv => lhs; unfold rdE
  rw [if_neg (by decide +kernel), if_pos rfl]
theorem rdE_word {f : Str → Option W0} {t : Str} {x : W0} (c1 : ¬ t = "[") (c2 : ¬ t = "]") (c3 : f t = some x) (ts : List Str) (g : List E9) (r : List (List E9)) : rdE f (t :: ts) (g :: r) = rdE f ts ((g ++ [.w x]) :: r) := by
  conv => lhs; unfold rdE
  rw [if_neg c1, if_neg c2, c3]
theorem rdE_bad {f : Str → Option W0} {t : Str} (c1 : ¬ t = "[") (c2 : ¬ t = "]") (c3 : f t = none) (ts : List Str) (s : List (List E9)) : rdE f (t :: ts) s = none := by
  conv => lhs; unfold rdE
  rw [if_neg c1, if_neg c2, c3]
def cntE (s : List (List E9)) : Nat := (s.map (·.length)).sum + s.length
theorem cntE_cons (g : List E9) (s : List (List E9)) : cntE (g :: s) = g.length + 1 + cntE s := by
  unfold cntE
  simp
  omega
def mtE (s : List (List E9)) : Nat := mt (s.map (·.map etx))
theorem mtE_cons (g : List E9) (s : List (List E9)) : mtE (g :: s) = wt (g.map etx) + 2 + mtE s := mt_cons _ _
section
variable {P : Program} {w : World} {K : PySem.W.Frag} {mg : Str → Option Value} {base : Heap} {C tC : Addr}
def spRR9 (C : Addr) : Sp := fun vs H Q _ => ∃ (ts : List Str) (o : Addr) (gs : List G3) (ys : List Str), vs = [.str (jt ts), .ref o] ∧ Vc C H o gs ys ∧ (∀ n ∈ ys, n ∈ gnames gs) ∧ ArOk gs ys ∧ ys.length ≤ 1000 ∧ SfT ts ∧ ts.length ≤ 900 ∧ tw ts ≤ 8000 ∧
  (rowE (word0 gs ys) ts = none → ∀ H', Same H H' → Q .non H') ∧
  ∀ xs, rowE (word0 gs ys) ts = some xs → ∀ (p : Addr) (ws : List V) (H' : Hp), Same H H' → H' p = some (.tup ws) → RwE H' ws xs → Q (.ref p) H'
structure R69 (P : Program) (w : World) (K : PySem.W.Frag) (mg : Str → Option Value) (base : Heap) (C fS fQ fW : Addr) (dS dQ dW : FuncData) : Prop where
  gS : mg "split_tokens" = some (.ref fS)
  kS : PySem.W.keepIn K (.ref fS) = true
  bS : Binds K dS ["text"] []
  GS : FnOk P w K mg base CX0 1 fS dS ["text"] spSpG
  gQ : mg "quote" = some (.ref fQ)
  kQ : PySem.W.keepIn K (.ref fQ) = true
  bQ : Binds K dQ ["row"] []
  GQ : FnOk P w K mg base CX0 2 fQ dQ ["row"] spQu
  gW : mg "read_word" = some (.ref fW)
  kW : PySem.W.keepIn K (.ref fW) = true
  bW : Binds K dW ["token", "vocabulary"] []
  GW : FnOk P w K mg base CX0 3 fW dW ["token", "vocabulary"] (spWd9 C)
theorem ok_rr9 {f fS fQ fW : Addr} {fd dS dQ dW : FuncData} (F : Fun K "read_row" "read_row" sRR f fd) (B : B2 mg) (R : R69 P w K mg base C fS fQ fW dS dQ dW) : FnOk P w K mg base CX0 4 f fd ["text", "vocabulary"] (spRR9 C) := by
  refine F.ok scRR (fun vs H Q E h => ?_) (fun cdv A outer s H vs Q E hr h => ?_)
  · obtain ⟨ts, o, gs, ys, rfl, _⟩ := h
    rfl
  · obtain ⟨ts, o, gs, ys, rfl, hV, hg, hao, hy, ht, hl, h8, q0, q⟩ := h
    have line : ∀ {n : Nat}, n ≤ 1000 → n < sizeLine := fun h => small1000 h
    refine ⟨_, pss_cons (ps_set (i := 2) scRR.nd rfl (.inl rfl) (pe_lst (pa_cons (pe_lst pa_nil) pa_nil)))
      (pss_cons (ps_for PassesOwn.never rfl (pi_list (pe_call R.GS (hr.mono (by decide)) rfl R.gS R.kS R.bS .nil pass0 (pa_cons (pv 0) pa_nil))) (pg_name (i := 3) scRR.nd rfl (.inl rfl))
        (pss_cons (ps_if (pt_cmpR op_eq (pv 3) pe_str (nomark _)) (pss_cons (ps_expr (pe_bm PySem.F.plainAttrs_list PySem.F.slot_list_append PySem.F.type_list_append mt_append (pv 2) (pa_cons (pe_lst pa_nil) pa_nil))) (pss_one ps_continue)) pss_nil)
        (pss_cons (ps_if (pt_cmpR op_eq (pv 3) pe_str (nomark _))
          (pss_one (ps_set (i := 4) scRR.nd rfl (.inl rfl) (pe_ifExp (pt_cmpR op_gt (pe_callB call_len_seq (by rfl) B.len PySem.boot_len (pa_cons (pv 2) pa_nil)) pe_int (nomark _)) (pe_call R.GQ (hr.mono (by decide)) rfl R.gQ R.kQ R.bQ .nil pass0 (pa_cons (pe_callTy call_tuple_of (by rfl) B.tuple (by decide +kernel) (pa_cons (pe_bm0 PySem.F.plainAttrs_list PySem.F.slot_list_pop PySem.F.type_list_pop mt_pop (pv 2)) pa_nil)) pa_nil)) pe_non)))
          (pss_one (ps_set (i := 4) scRR.nd rfl (.inl rfl) (pe_call R.GW (hr.mono (by decide)) rfl R.gW R.kW R.bW .nil pass0 (pa_cons (pv 3) (pa_cons (pv 1) pa_nil))))))
        (pss_cons (ps_if (pt_cmpR op_isN (pv 4) pe_non (nomark _)) (pss_one (ps_ret pe_non)) pss_nil)
        (pss_one (ps_expr (pe_bm PySem.F.plainAttrs_list PySem.F.slot_list_append PySem.F.type_list_append mt_append (pe_ix ix_list (pv 2) (pe_un un_neg pe_int) (fun _ _ => rfl)) (pa_cons (pv 4) pa_nil))))))))
      (pss_one (ps_ret (pe_ifExp (pt_cmpR op_eq (pe_callB call_len_seq (by rfl) B.len PySem.boot_len (pa_cons (pv 2) pa_nil)) pe_int (nomark _)) (pe_callTy call_tuple_of (by rfl) B.tuple (by decide +kernel) (pa_cons (pe_ix ix_list (pv 2) pe_int (fun _ _ => rfl)) pa_nil)) pe_non)))), ?_⟩
    refine ⟨(by show 0 ≤ sizeLine; decide), fun a0 n0 => ⟨(by show 1 ≤ sizeLine; decide), fun b nb => ?_⟩⟩
    have b0 : b ≠ a0 := (ne_of_none upd_same nb).symm
    have fb : H b = none := (same_new (fun _ _ e => e : Same H H) n0).free nb
    have RS0 : RSE H (upd (upd H a0 (.lst [])) b (.lst [.ref a0])) b [a0] [[]] := by
      refine ⟨same_new (same_new (fun _ _ e => e) n0) nb, upd_same, .cons ⟨[], by rw [upd_ne b0.symm]; exact upd_same, .nil⟩ .nil, by simp, by simpa using b0, fun c m => ?_, fb⟩
      rw [List.mem_singleton.mp m]
      exact n0
    generalize upd (upd H a0 (.lst [])) b (.lst [.ref a0]) = G0 at RS0 ⊢
    have jl0 : (jt ts).length ≤ 10000 := by
      have h1 := jt_len ts
      unfold wt at h1
      unfold tw at h8
      omega
    refine ⟨_, rfl, ts, rfl, ht, jl0, fun p np => ?_⟩
    have s1 : Same G0 (upd G0 p (.lst (ts.map V.str))) := same_new (fun _ _ e => e) np
    have hp1 : upd G0 p (.lst (ts.map V.str)) p = some (.lst (ts.map V.str)) := upd_same
    have hpH : H p = none := RS0.same.free np
    have RS1 := RS0.on s1
    generalize upd G0 p (.lst (ts.map V.str)) = G1 at s1 hp1 RS1 ⊢
    have pb : p ≠ b := fun z => by
      have e := RS0.beg
      rw [← z, np] at e
      cases e
    have bad : ∀ {ts' : List Str} {sg : List (List E9)}, rdE (word0 gs ys) ts' sg = rdE (word0 gs ys) ts [[]] → rdE (word0 gs ys) ts' sg = none → rowE (word0 gs ys) ts = none := fun e1 e2 => by
      unfold rowE
      rw [← e1, e2]
    refine ⟨p, rfl, ⟨_, SqL.of hp1⟩, for_list (K := K) (a := p) (xs := ts.map V.str) (fun i σ G => ∃ (as : List Addr) (sg : List (List E9)) (v3 v4 : Option V), σ = [some (.str (jt ts)), some (.ref o), some (.ref b), v3, v4] ∧ RSE H G b as sg ∧ p ∉ as ∧ G p = some (.lst (ts.map V.str)) ∧ rdE (word0 gs ys) (ts.drop i) sg = rdE (word0 gs ys) ts [[]] ∧ sg ≠ [] ∧ mtE sg ≤ 2 + tw (ts.take i) ∧ cntE sg ≤ 1 + i)
      ⟨[a0], [[]], _, _, rfl, RS1, ?_, hp1, rfl, by simp, ?_, by decide⟩ (fun i σ G _ ⟨_, _, _, _, _, _, _, e, _⟩ => SqL.of e) ?_ ?_⟩
    · intro m
      rw [List.mem_singleton.mp m] at np
      have e := RS0.gr
      cases e with
      | cons q t =>
        obtain ⟨ws, e1, _⟩ := q
        rw [np] at e1
        cases e1
    · exact Nat.le_trans (by decide : mtE [[]] ≤ 2) (Nat.le_add_right _ _)
    · rintro i x σ G hi ⟨as, sg, v3, v4, rfl, R', pn, hp, hr', sn, hm, hcn⟩
      rw [List.getElem?_map] at hi
      cases hti : ts[i]? with
      | none =>
        rw [hti] at hi
        cases hi
      | some t =>
        rw [hti] at hi
        cases hi
        obtain ⟨il, ie⟩ := List.getElem?_eq_some_iff.mp hti
        have ed : ts.drop i = t :: ts.drop (i + 1) := by
          rw [List.drop_eq_getElem_cons il, ie]
        rw [ed] at hr'
        have et : ts.take (i + 1) = ts.take i ++ [t] := take_more hti
        have twi : tw (ts.take (i + 1)) = tw (ts.take i) + (t.length + 2) := by rw [et, tw_snoc]
        have lm : tw (ts.take (i + 1)) ≤ 8000 := Nat.le_trans (tw_take ts (i + 1)) h8
        have al := R'.gr.len
        have sl : sg.length ≤ cntE sg := Nat.le_add_left _ _
        have hVG := Vc.same R'.same hV
        refine ⟨_, rfl, rfl, _, rfl, ?_⟩
        by_cases c1 : t = "["
        · subst c1
          refine itY rfl ?_
          rw [rdE_open] at hr'
          refine ⟨_, rfl, .inl ⟨rfl, _, SqL.of R'.beg⟩, (by show 0 ≤ sizeLine; decide), fun a na => ?_⟩
          have s2 : Same G (upd G a (.lst [])) := same_new (fun _ _ e => e) na
          refine ⟨b, _, _, rfl, rfl, s2 _ _ R'.beg, line (by rw [refs_len]; omega), ?_⟩
          refine ⟨a :: as, [] :: sg, _, _, rfl, R'.begin_ na, fun m => ?_, ?_, hr', by simp, ?_, ?_⟩
          · rcases List.mem_cons.mp m with e | m
            · exact ne_of_none hp na e
            · exact pn m
          · rw [upd_ne pb]
            exact s2 _ _ hp
          · rw [mtE_cons, twi]
            have : wt (([] : List E9).map etx) = 0 := rfl
            omega
          · rw [cntE_cons, List.length_nil]
            omega
        refine itN (fun z => c1 (V.str.inj z)) ?_
        refine ⟨_, rfl, rfl, _, rfl, ?_⟩
        by_cases c2 : t = "]"
        · subst c2
          refine itY rfl ?_
          match sg, as, R', pn, al, hr', sn, hm, hcn with
          | [g], [a], R', pn, al, hr', sn, hm, hcn =>
            refine ⟨_, rfl, b, _, rfl, .inl (SqL.of R'.beg), _, _, rfl, rfl, _, rfl, ?_⟩
            refine itN (by rw [refs_len]; simp) ?_
            refine ⟨_, rfl, rfl, _, rfl, itY rfl ?_⟩
            exact q0 (bad hr' (rdE_close1 _ _ _)) G R'.same
          | g :: h :: r, a :: a2 :: as', R', pn, al, hr', sn, hm, hcn =>
          rw [rdE_close] at hr'
          refine ⟨_, rfl, b, _, rfl, .inl (SqL.of R'.beg), _, _, rfl, rfl, _, rfl, ?_⟩
          refine itY (by rw [refs_len]; simp only [List.length_cons]; omega) ?_
          have eb := refs_cons a (a2 :: as')
          refine ⟨_, rfl, .inl ⟨rfl, _, SqL.of R'.beg⟩, b, _, .ref a, rfl, rfl, R'.beg, by rw [eb]; simp, ?_⟩
          have ep : (refs (a :: a2 :: as')).dropLast = refs (a2 :: as') := by rw [eb, List.dropLast_concat]
          rw [ep]
          obtain ⟨R2, ws, e1, e2⟩ := R'.pop
          have hp2 : upd G b (.lst (refs (a2 :: as'))) p = some (.lst (ts.map V.str)) := by rw [upd_ne pb]; exact hp
          generalize upd G b (.lst (refs (a2 :: as'))) = G2 at R2 e1 e2 hp2 ⊢
          refine ⟨a, _, rfl, .inl ⟨SqL.of e1, fun l nl => ?_⟩⟩
          have s3 : Same G2 (upd G2 l (.tup ws)) := same_new (fun _ _ e => e) nl
          have h3 : upd G2 l (.tup ws) l = some (.tup ws) := upd_same
          generalize upd G2 l (.tup ws) = G3 at s3 h3 ⊢
          rw [mtE_cons, mtE_cons] at hm
          rw [cntE_cons, cntE_cons] at hcn
          have jl := jt_len (g.map etx)
          have gl : ((g.map etx).map (·.length)).sum + (g.map etx).length = wt (g.map etx) := rfl
          have gln : (g.map etx).length = g.length := List.length_map _
          dsimp only [tNil]
          refine ⟨l, ws, g.map etx, rfl, h3, (e2.same s3).rw, by omega, by omega, by omega, fun t4 G4 s4 n4 h4 => ?_⟩
          have R4 := (R2.on s3).on s4
          refine ⟨_, rfl, rfl, _, rfl, itN (fun z => nomatch z) ?_⟩
          obtain ⟨ws2, e5⟩ : ∃ ws2, G4 a2 = some (.lst ws2) := by
            cases R4.gr with
            | cons q _ =>
              obtain ⟨ws2, e, _⟩ := q
              exact ⟨ws2, e⟩
          refine ⟨_, rfl, 1, rfl, b, _, _, .ref a2, rfl, rfl, SqL.of R4.beg, by rw [refs_cons]; exact at_last _ _, .inl ⟨rfl, _, SqL.of e5⟩, _, rfl, a2, _, _, rfl, rfl, e5, ?_, ?_⟩
          · have hl2 : ws2.length = h.length := by
              cases R4.gr with
              | cons q _ =>
                obtain ⟨ws', e, er⟩ := q
                rw [e5] at e
                cases e
                exact er.len
            exact line (by omega)
          · refine ⟨a2 :: as', _, _, _, rfl, R4.add (t := t4) (x := .q (qtext (jt (g.map etx))) (rofE g)) e5 ⟨t4, l, ws, rfl, h4, s4 _ _ h3, (RwE.row e2).mono (TupS.same (st s3 s4))⟩, fun m => pn (List.mem_cons_of_mem _ m), ?_, hr', by simp, ?_, ?_⟩
            · rw [upd_ne (show p ≠ a2 from fun z => pn (by rw [z]; exact List.mem_cons_of_mem _ List.mem_cons_self))]
              exact s4 _ _ (s3 _ _ hp2)
            · have ql := qtext_len (jt (g.map etx))
              have l1 : ("]" : Str).length = 1 := by decide +kernel
              rw [mtE_cons, List.map_append]
              show wt (h.map etx ++ [qtext (jt (g.map etx))]) + 2 + _ ≤ _
              rw [wt_snoc, twi]
              omega
            · rw [cntE_cons, List.length_append, List.length_singleton]
              omega
        · refine itN (fun z => c2 (V.str.inj z)) ?_
          match sg, as, R', pn, al, hr', sn, hm, hcn with
          | g :: r, a :: as', R', pn, al, hr', sn, hm, hcn =>
          have tl1 : t.length ≤ sizeLine := by
            have : (8000 : Nat) ≤ sizeLine := by decide
            omega
          refine ⟨_, rfl, _, rfl, t, o, gs, ys, rfl, hVG, hg, hao, hy, tl1, fun v4 G4 s4 hv => ?_⟩
          cases c3 : word0 gs ys t with
          | none =>
            rw [c3] at hv
            have e : v4 = .non := hv
            subst e
            refine ⟨_, rfl, rfl, _, rfl, itY rfl ?_⟩
            exact q0 (bad hr' (rdE_bad c1 c2 c3 _ _)) G4 (st R'.same s4)
          | some wx =>
          rw [c3] at hv
          obtain ⟨t4, rfl, n4, h4⟩ := hv
          have etw : wx.txt = t := word0_txt c3
          rw [rdE_word c1 c2 c3] at hr'
          have R4 := R'.on s4
          refine ⟨_, rfl, rfl, _, rfl, itN (fun z => nomatch z) ?_⟩
          obtain ⟨ws2, e5⟩ : ∃ ws2, G4 a = some (.lst ws2) := by
            cases R4.gr with
            | cons q _ =>
              obtain ⟨ws2, e, _⟩ := q
              exact ⟨ws2, e⟩
          rw [cntE_cons] at hcn
          refine ⟨_, rfl, 1, rfl, b, _, _, .ref a, rfl, rfl, SqL.of R4.beg, by rw [refs_cons]; exact at_last _ _, .inl ⟨rfl, _, SqL.of e5⟩, _, rfl, a, _, _, rfl, rfl, e5, ?_, ?_⟩
          · have hl2 : ws2.length = g.length := by
              cases R4.gr with
              | cons q _ =>
                obtain ⟨ws', e, er⟩ := q
                rw [e5] at e
                cases e
                exact er.len
            exact line (by omega)
          · refine ⟨a :: as', _, _, _, rfl, R4.add (t := t4) (x := .w wx) e5 ⟨t4, rfl, h4⟩, pn, ?_, hr', by simp, ?_, ?_⟩
            · rw [upd_ne (show p ≠ a from fun z => pn (by rw [z]; exact List.mem_cons_self))]
              exact s4 _ _ hp
            · rw [mtE_cons] at hm
              rw [mtE_cons, List.map_append]
              show wt (g.map etx ++ [wx.txt]) + 2 + _ ≤ _
              rw [wt_snoc, twi, etw]
              omega
            · rw [cntE_cons, List.length_append, List.length_singleton]
              omega
    · rintro σ G ⟨as, sg, v3, v4, rfl, R', pn, hp, hr', sn, hm, hcn⟩
      rw [List.length_map, List.drop_length] at hr'
      have hr2 : some sg = rdE (word0 gs ys) ts [[]] := hr'
      match sg, as, R', R'.gr.len, hr2, sn, hcn with
      | [g], [a], R', _, hr2, _, _ =>
        refine ⟨_, rfl, b, _, rfl, .inl (SqL.of R'.beg), rfl, _, rfl, ?_⟩
        refine itY rfl ?_
        obtain ⟨ws, e1, e2⟩ : ∃ ws, G a = some (.lst ws) ∧ RwE G ws g := by
          cases R'.gr with
          | cons q _ => exact q
        refine ⟨_, rfl, b, _, _, _, rfl, rfl, SqL.of R'.beg, atI_nat (j := 0) rfl, a, _, rfl, .inl ⟨SqL.of e1, fun l nl => ?_⟩⟩
        have s3 : Same G (upd G l (.tup ws)) := same_new (fun _ _ e => e) nl
        refine q g ?_ l ws _ (st R'.same s3) upd_same (e2.same s3)
        unfold rowE
        rw [← hr2]
      | g :: g2 :: r, a :: a2 :: as', R', _, hr2, _, _ =>
        refine ⟨_, rfl, b, _, rfl, .inl (SqL.of R'.beg), rfl, _, rfl, ?_⟩
        refine itN (fun z => ?_) ?_
        · have z2 := V.int.inj z
          rw [refs_len] at z2
          simp only [List.length_cons] at z2
          omega
        · refine q0 ?_ G R'.same
          unfold rowE
          rw [← hr2]
end
end SQ9
namespace SQ9
open PySem L2 SQ
abbrev sQd : Stmt := inClass (top 82) 4
section
variable {P : Program} {w : World} {K : PySem.W.Frag} {mg : Str → Option Value} {base : Heap} {C CP : Addr}
/-! ### limits that are kept -/
def spCl9 : Sp := fun vs H Q _ => ∃ n m : Int, vs = [.int n, .int m] ∧ n ≤ 60 ∧ m ≤ 6 ∧ Q .non H
theorem ok_cl9 {f : Addr} {fd : FuncData} (F : Fun K "check_limits" "check_limits" sCl f fd) (W : W6 mg) : FnOk P w K mg base CX0 1 f fd ["size", "depth"] spCl9 := by
  refine F.ok scCl (fun vs H Q E h => ?_) (fun cdv A outer s H vs Q E hr h => ?_)
  · obtain ⟨n, m, rfl, _⟩ := h
    rfl
  · obtain ⟨n, m, rfl, h1, h2, q⟩ := h
    obtain ⟨t1, g1⟩ := W.msz
    obtain ⟨t2, g2⟩ := W.mnd
    refine ⟨_, pss_cons (ps_if (pt_cmpR op_gt (pv 0) (pe_glob (v := .int 60) rfl g1 ⟨_, rfl⟩) (nomark _)) (pss_one ps_never) pss_nil)
      (pss_one (ps_if (pt_cmpR op_gt (pv 1) (pe_glob (v := .int 6) rfl g2 ⟨_, rfl⟩) (nomark _)) (pss_one ps_never) pss_nil)), ?_⟩
    refine ⟨_, rfl, _, _, rfl, rfl, _, rfl, itN (by omega) ⟨_, rfl, _, _, rfl, rfl, _, rfl, itN (by omega) q⟩⟩
theorem rdE_cnt {f : Str → Option W0} : ∀ {ts : List Str} {s u : List (List E9)}, rdE f ts s = some u → cntE u ≤ cntE s + ts.length
  | [], s, u, h => by
    cases h
    exact Nat.le_add_right _ _
  | t :: ts, s, u, h => by
    rw [List.length_cons]
    by_cases c1 : t = "["
    · subst c1
      rw [rdE_open] at h
      have := rdE_cnt h
      rw [cntE_cons, List.length_nil] at this
      omega
    by_cases c2 : t = "]"
    · subst c2
      match s, h with
      | [], h =>
        unfold rdE at h
        rw [if_neg (by decide +kernel), if_pos rfl] at h
        cases h
      | [g], h =>
        rw [rdE_close1] at h
        cases h
      | g :: k :: r, h =>
        rw [rdE_close] at h
        have := rdE_cnt h
        rw [cntE_cons, List.length_append, List.length_singleton] at this
        rw [cntE_cons, cntE_cons]
        omega
    · cases c3 : f t with
      | none =>
        rw [rdE_bad c1 c2 c3] at h
        cases h
      | some x =>
        match s, h with
        | [], h =>
          unfold rdE at h
          rw [if_neg c1, if_neg c2, c3] at h
          cases h
        | g :: r, h =>
          rw [rdE_word c1 c2 c3] at h
          have := rdE_cnt h
          rw [cntE_cons, List.length_append, List.length_singleton] at this
          rw [cntE_cons]
          omega
theorem rowE_cnt {f : Str → Option W0} {ts : List Str} {xs : List E9} (h : rowE f ts = some xs) : xs.length ≤ ts.length := by
  unfold rowE at h
  split at h
  · rename_i ys e
    cases h
    have := rdE_cnt e
    have c1 : cntE [xs] = xs.length + 1 + 0 := cntE_cons xs []
    have c2 : cntE [([] : List E9)] = 1 := by decide
    omega
  · cases h
/-! ### a program of a text that is one -/
def Pg9 (CP : Addr) (H : Hp) (p o : Addr) (ts : List Str) (es : List E9) : Prop := ∃ dx r tW ws, H p = some (.ins CP dx (pfl o r tW (jt ts) (sizeT ts))) ∧ H r = some (.tup ws) ∧ RwE H ws es
theorem Pg9.same {H H' : Hp} {p o : Addr} {ts : List Str} {es : List E9} (s : Same H H') (h : Pg9 CP H p o ts es) : Pg9 CP H' p o ts es := by
  obtain ⟨dx, r, tW, ws, e1, e2, e3⟩ := h
  exact ⟨dx, r, tW, ws, s _ _ e1, s _ _ e2, e3.same s⟩
theorem Pg9.row {H : Hp} {p o : Addr} {ts : List Str} {es : List E9} (h : Pg9 CP H p o ts es) : PgR CP H p (rofE es) := by
  obtain ⟨dx, r, tW, ws, e1, e2, e3⟩ := h
  exact ⟨dx, o, r, tW, _, _, ws, e1, e2, e3.row⟩
/-- a vocabulary, its words and their numbers -/
structure Vo9 (C : Addr) (H : Hp) (o : Addr) (gs : List G3) (ys : List Str) : Prop where
  vc : Vc C H o gs ys
  sub : ∀ n ∈ ys, n ∈ gnames gs
  ar : ArOk gs ys
  few : ys.length ≤ 1000
theorem Vo9.same {H H' : Hp} {o : Addr} {gs : List G3} {ys : List Str} (s : Same H H') (h : Vo9 C H o gs ys) : Vo9 C H' o gs ys := ⟨Vc.same s h.vc, h.sub, h.ar, h.few⟩
/-- a text that is a program -/
structure Ok9 (gs : List G3) (ys : List Str) (ts : List Str) (es : List E9) : Prop where
  tb : TB ts
  row : rowE (word0 gs ys) ts = some es
  sz : sizeT ts ≤ 60
  dp : depthT ts ≤ 6
def spPI9 (CP C : Addr) : Sp := fun vs H Q _ => ∃ (p o dx : Addr) (gs : List G3) (ys ts : List Str) (es : List E9), vs = [.ref p, .ref o, .str (jt ts)] ∧ H p = some (.ins CP dx []) ∧ Vo9 C H o gs ys ∧ Ok9 gs ys ts es ∧ ∀ H', But p H H' → Pg9 CP H' p o ts es → Q .non H'
structure I69 (P : Program) (w : World) (K : PySem.W.Frag) (mg : Str → Option Value) (base : Heap) (C fV fR fM fD fL : Addr) (dV dR dM dD dL : FuncData) : Prop where
  gV : mg "check_vocabulary" = some (.ref fV)
  kV : PySem.W.keepIn K (.ref fV) = true
  bV : Binds K dV ["value"] []
  GV : FnOk P w K mg base CX0 1 fV dV ["value"] (spCv C)
  gR : mg "read_row" = some (.ref fR)
  kR : PySem.W.keepIn K (.ref fR) = true
  bR : Binds K dR ["text", "vocabulary"] []
  GR : FnOk P w K mg base CX0 4 fR dR ["text", "vocabulary"] (spRR9 C)
  gM : mg "measure_size" = some (.ref fM)
  kM : PySem.W.keepIn K (.ref fM) = true
  bM : Binds K dM ["text"] []
  GM : FnOk P w K mg base CX0 2 fM dM ["text"] spMsG
  gD : mg "measure_depth" = some (.ref fD)
  kD : PySem.W.keepIn K (.ref fD) = true
  bD : Binds K dD ["text"] []
  GD : FnOk P w K mg base CX0 2 fD dD ["text"] spMdG
  gL : mg "check_limits" = some (.ref fL)
  kL : PySem.W.keepIn K (.ref fL) = true
  bL : Binds K dL ["size", "depth"] []
  GL : FnOk P w K mg base CX0 1 fL dL ["size", "depth"] spCl9
theorem ok_pi9 {f fV fR fM fD fL : Addr} {fd dV dR dM dD dL : FuncData} (F : Fun K "__init__" "Program.__init__" sPI_ f fd) (B : B2 mg) (PV : PC K mg CP) (I : I69 P w K mg base C fV fR fM fD fL dV dR dM dD dL) : FnOk P w K mg base CX0 5 f fd ["self", "vocabulary", "text"] (spPI9 CP C) := by
  refine F.ok scPr (fun vs H Q E h => ?_) (fun cdv A outer s H vs Q E hr h => ?_)
  · obtain ⟨p, o, dx, gs, ys, ts, es, rfl, _⟩ := h
    rfl
  · obtain ⟨p, o, dx, gs, ys, ts, es, rfl, hp, hVo, hO, q⟩ := h
    refine ⟨_, pss_cons (ps_expr (pe_call I.GV (hr.mono (by decide)) rfl I.gV I.kV I.bV .nil pass0 (pa_cons (pv 1) pa_nil)))
      (pss_cons (ps_set (i := 3) scPr.nd rfl (.inl rfl) (pe_ifExp (pt_val (pe_callB call_isi (by rfl) B.isi (by decide +kernel) (pa_cons (pv 2) (pa_cons (pe_bltn (v := .ty "str") (by rfl) B.str (by decide +kernel) rfl) pa_nil)))) (pe_call I.GR hr rfl I.gR I.kR I.bR .nil pass0 (pa_cons (pv 2) (pa_cons (pv 1) pa_nil))) pe_non))
      (pss_cons (ps_if (pt_cmpR op_isN (pv 3) pe_non (nomark _)) (pss_one ps_never) pss_nil)
      (pss_cons (ps_set (i := 4) scPr.nd rfl (.inl rfl) (pe_call I.GM (hr.mono (by decide)) rfl I.gM I.kM I.bM .nil pass0 (pa_cons (pv 2) pa_nil)))
      (pss_cons (ps_expr (pe_call I.GL (hr.mono (by decide)) rfl I.gL I.kL I.bL .nil pass0 (pa_cons (pv 4) (pa_cons (pe_call I.GD (hr.mono (by decide)) rfl I.gD I.kD I.bD .nil pass0 (pa_cons (pv 2) pa_nil)) pa_nil))))
      (pss_cons (ps_fld (pv 0) (pv 1) rfl)
      (pss_cons (ps_fld (pv 0) (pv 2) rfl)
      (pss_cons (ps_fld (pv 0) (pv 3) rfl)
      (pss_cons (ps_fld (pv 0) (pe_callTy call_tuple_of (by rfl) B.tuple (by decide +kernel) (pa_cons (pe_lc (own := [("word", 5)]) (g := gName 5) (tt := tYes) rfl scPr.nd (pi_tup (pv 3)) (blkOk_by (N := ["self", "vocabulary", "text", "row", "size", "word"]) (sc := defScope sPI_) (by decide +kernel)) (fun _ _ _ _ _ => pg_name (i := 5) scPr.nd rfl (.inl rfl)) (fun _ _ _ _ _ => pts_nil) (fun _ _ _ _ _ => pe_ix (ixT (K := K) rfl) (pv 5) pe_int (fun _ _ => rfl))) pa_nil)) rfl)
      (pss_one (ps_fld (pv 0) (pv 4) rfl)))))))))), ?_⟩
    have hV := hVo.vc
    have T := hO.tb
    have hx := hO.row
    obtain ⟨dv, dA, tN, kvs, ho, _⟩ := hVo.vc
    refine ⟨_, rfl, o, dv, _, rfl, ho, ?_⟩
    refine ⟨_, rfl, .str (jt ts), .ty "str", .type "str", .type "str", true, rfl, .ty "str", .base (.str _), kit_ty (by decide +kernel), _, rfl, iteT ?_⟩
    refine ⟨_, rfl, _, rfl, ts, o, gs, ys, rfl, hV, hVo.sub, hVo.ar, hVo.few, T.sf, T.len, T.wt, (fun hb => by rw [hx] at hb; cases hb), fun xs hxs r ws H1 s1 h1 hw => ?_⟩
    rw [hx] at hxs
    cases hxs
    refine ⟨_, rfl, rfl, _, rfl, itN (fun z => nomatch z) ?_⟩
    refine ⟨_, rfl, ts, rfl, T, fun H2 s2 => ?_⟩
    refine ⟨_, rfl, _, rfl, ts, rfl, T, fun H3 s3 => ?_⟩
    have t3 : Same H H3 := st s1 (st s2 s3)
    refine ⟨_, _, rfl, hO.sz, hO.dp, ?_⟩
    have hp3 := t3 _ _ hp
    have hr3 := s3 _ _ (s2 _ _ h1)
    have hw3e : RwE H3 ws es := (hw.same s2).same s3
    have hw3 : Rw H3 ws (es.map etx) := hw3e.rw
    refine ⟨_, rfl, _, rfl, p, CP, dx, [], rfl, hp3, PV.cl, PV.nV, (by show 0 < 1000; decide), ?_⟩
    have b4 : But p H3 (upd H3 p (.ins CP dx (putF "vocabulary" (.ref o) []))) := But.refl.put
    have hp4 : upd H3 p (.ins CP dx (putF "vocabulary" (.ref o) [])) p = some (.ins CP dx (putF "vocabulary" (.ref o) [])) := upd_same
    generalize upd H3 p (.ins CP dx (putF "vocabulary" (.ref o) [])) = H4 at b4 hp4 ⊢
    refine ⟨_, rfl, _, rfl, p, CP, dx, _, rfl, hp4, PV.cl, PV.nT, (by show 1 < 1000; decide), ?_⟩
    have b5 : But p H4 (upd H4 p (.ins CP dx (putF "text" (.str (jt ts)) (putF "vocabulary" (.ref o) [])))) := But.refl.put
    have hp5 : upd H4 p (.ins CP dx (putF "text" (.str (jt ts)) (putF "vocabulary" (.ref o) []))) p = some (.ins CP dx (putF "text" (.str (jt ts)) (putF "vocabulary" (.ref o) []))) := upd_same
    generalize upd H4 p (.ins CP dx (putF "text" (.str (jt ts)) (putF "vocabulary" (.ref o) []))) = H5 at b5 hp5 ⊢
    refine ⟨_, rfl, _, rfl, p, CP, dx, _, rfl, hp5, PV.cl, PV.nR, (by show 2 < 1000; decide), ?_⟩
    have b6 : But p H5 (upd H5 p (.ins CP dx (putF "row" (.ref r) (putF "text" (.str (jt ts)) (putF "vocabulary" (.ref o) []))))) := But.refl.put
    have hp6 : upd H5 p (.ins CP dx (putF "row" (.ref r) (putF "text" (.str (jt ts)) (putF "vocabulary" (.ref o) [])))) p = some (.ins CP dx (putF "row" (.ref r) (putF "text" (.str (jt ts)) (putF "vocabulary" (.ref o) [])))) := upd_same
    generalize upd H5 p (.ins CP dx (putF "row" (.ref r) (putF "text" (.str (jt ts)) (putF "vocabulary" (.ref o) [])))) = H6 at b6 hp6 ⊢
    have bb : But p H3 H6 := (b4.trans b5).trans b6
    have rp : r ≠ p := ne_of hr3 hp3 (by intro z; cases z)
    have hr6 : H6 r = some (.tup ws) := bb _ _ hr3 rp
    have hw6 : Rw H6 ws (es.map etx) := Paired.mapP hw3 fun _ _ ⟨t, k, d, e1, e2⟩ => ⟨t, k, d, e1, bb _ _ e2 (ne_of e2 hp3 (by intro z; cases z))⟩
    have few : (es.map etx).length ≤ 900 := by
      rw [List.length_map]
      exact Nat.le_trans (rowE_cnt hx) T.len
    refine ⟨_, rfl, r, rfl, ⟨_, SqT.of hr6⟩, fun D nD => ?_⟩
    refine lc_tup (K := K) (a := r) (xs := ws) (fun i G => Same H6 G ∧ G D = some (.lst (((es.map etx).take i).map V.str))) ⟨same_new (fun _ _ e => e) nD, upd_same⟩ (fun i G _ h => SqT.of (h.1 _ _ hr6)) ?_ ?_
    · rintro i v G' hi ⟨sG, hD⟩
      obtain ⟨x, hx', t, k, d, rfl, e2⟩ := Paired.at (F := _) hw6 hi
      have hl : ((es.map etx).take i).length ≤ 900 := by rw [List.length_take]; omega
      refine ⟨rfl, keptT ⟨_, rfl, t, _, 1, _, rfl, rfl, SqT.of (sG _ _ e2), rfl, _, hD, small1000 (by rw [List.length_map]; omega), ?_, ?_⟩⟩
      · intro b ob e
        rw [upd_ne (ne_of_none e nD)]
        exact sG _ _ e
      · rw [upd_same, take_more hx', List.map_append]
        rfl
    · rintro G' ⟨sG, hD⟩
      have hl : ws.length = (es.map etx).length := hw3.len
      rw [hl, List.take_length] at hD
      refine ⟨D, _, rfl, .inl ⟨SqL.of hD, fun l nl => ?_⟩⟩
      have s8 : Same G' (upd G' l (.tup ((es.map etx).map V.str))) := same_new (fun _ _ e => e) nl
      have h8 : upd G' l (.tup ((es.map etx).map V.str)) l = some (.tup ((es.map etx).map V.str)) := upd_same
      generalize upd G' l (.tup ((es.map etx).map V.str)) = H8 at s8 h8 ⊢
      have hp8 := s8 _ _ (sG _ _ hp6)
      refine ⟨_, rfl, p, CP, dx, _, rfl, hp8, PV.cl, PV.nW, (by show 3 < 1000; decide), ?_⟩
      have b9 : But p H8 (upd H8 p (.ins CP dx (putF "words" (.ref l) (putF "row" (.ref r) (putF "text" (.str (jt ts)) (putF "vocabulary" (.ref o) [])))))) := But.refl.put
      have hp9 : upd H8 p (.ins CP dx (putF "words" (.ref l) (putF "row" (.ref r) (putF "text" (.str (jt ts)) (putF "vocabulary" (.ref o) []))))) p = some (.ins CP dx (putF "words" (.ref l) (putF "row" (.ref r) (putF "text" (.str (jt ts)) (putF "vocabulary" (.ref o) []))))) := upd_same
      generalize upd H8 p (.ins CP dx (putF "words" (.ref l) (putF "row" (.ref r) (putF "text" (.str (jt ts)) (putF "vocabulary" (.ref o) []))))) = H9 at b9 hp9 ⊢
      refine ⟨_, rfl, _, rfl, p, CP, dx, _, rfl, hp9, PV.cl, PV.nS, (by show 4 < 1000; decide), ?_⟩
      have lp : l ≠ p := ne_of h8 hp8 (by intro z; cases z)
      refine q _ ((((Same.but t3).trans bb).trans (Same.but sG)).trans ((Same.but s8).trans (b9.trans But.refl.put))) ⟨dx, r, l, ws, upd_same, ?_, ?_⟩
      · have hr9 := b9 _ _ (s8 _ _ (sG _ _ hr6)) rp
        rw [upd_ne rp]
        exact hr9
      · have tb : TupS H3 H9 := fun a vs e => by
          have e6 := bb _ _ e (ne_of e hp3 (by intro z; cases z))
          exact b9 _ _ (s8 _ _ (sG _ _ e6)) (ne_of e6 hp6 (by intro z; cases z))
        refine (hw3e.mono tb).mono fun a vs e => ?_
        rw [upd_ne (ne_of e hp9 (by intro z; cases z))]
        exact e
/-! ### quoted -/
def spQd9 (CP C : Addr) : Sp := fun vs H Q _ => ∃ (p o : Addr) (ts ts' : List Str) (es es' : List E9) (gs : List G3) (ys : List Str), vs = [.ref p] ∧ Pg9 CP H p o ts es ∧ (jt ts).length ≤ 9000 ∧ Vo9 C H o gs ys ∧ qtext (jt ts) = jt ts' ∧ Ok9 gs ys ts' es' ∧ ∀ (q : Addr) (H' : Hp), Same H H' → Pg9 CP H' q o ts' es' → Q (.ref q) H'
theorem scQd9 : FnScope ["self"] ["self"] (defScope sQd) := ⟨rfl, rfl, rfl, by decide +kernel, rfl, by decide +kernel, by decide +kernel⟩
/-- how programs are made -/
structure Mk9 (P : Program) (w : World) (K : PySem.W.Frag) (mg : Str → Option Value) (base : Heap) (C CP fI fQ : Addr) (dI dQ : FuncData) : Prop where
  V : PC K mg CP
  M : Mk K CP fI
  b : Binds K dI ["self", "vocabulary", "text"] []
  G : FnOk P w K mg base CX0 5 fI dI ["self", "vocabulary", "text"] (spPI9 CP C)
  gQ : mg "quotation_text" = some (.ref fQ)
  kQ : PySem.W.keepIn K (.ref fQ) = true
  bQ : Binds K dQ ["text"] []
  GQ : FnOk P w K mg base CX0 1 fQ dQ ["text"] spQx
theorem new9 {x dx o : Addr} {H : Hp} {gs : List G3} {ys ts : List Str} {es : List E9} {R : Hp → Prop} {y : Str} (nx : H x = none) (ndx : H dx = none) (ne : dx ≠ x) (ey : y = jt ts) (hV : Vo9 C H o gs ys) (hO : Ok9 gs ys ts es) (q : ∀ H', Same H H' → Pg9 CP H' x o ts es → R H') :
    spPI9 CP C [.ref x, .ref o, .str y] (upd (upd H dx (.own x)) x (.ins CP dx [])) (fun v H' => v = .non ∧ R H') E0 := by
  subst ey
  have s1 : Same H (upd (upd H dx (.own x)) x (.ins CP dx [])) := same_new (same_new (fun _ _ e => e) ndx) (by rw [upd_ne (Ne.symm ne)]; exact nx)
  exact ⟨x, o, dx, gs, ys, ts, es, rfl, upd_same, hV.same s1, hO, fun H' b hP => ⟨rfl, q H' (fun a ob e => b a ob (s1 _ _ e) (ne_of_none e nx)) hP⟩⟩
theorem ok_qd9 {f fI fQ : Addr} {fd dI dQ : FuncData} (F : Fun K "quoted" "Program.quoted" sQd f fd) (M : Mk9 P w K mg base C CP fI fQ dI dQ) : FnOk P w K mg base CX0 7 f fd ["self"] (spQd9 CP C) := by
  refine F.ok scQd9 (fun vs H Q E h => ?_) (fun cdv A outer s H vs Q E hr h => ?_)
  · obtain ⟨p, o, ts, ts', es, es', gs, ys, rfl, _⟩ := h
    rfl
  · obtain ⟨p, o, ts, ts', es, es', gs, ys, rfl, ⟨dx, r, tW, ws, hp, hr', hw⟩, hl, hV, ej, hO, q⟩ := h
    refine ⟨_, pss_one (ps_ret (pe_make M.M M.G hr rfl M.V.g M.b .nil pass0 (pa_cons (pe_fld (pv 0) rfl) (pa_cons (pe_call M.GQ (hr.mono (by decide)) rfl M.gQ M.kQ M.bQ .nil pass0 (pa_cons (pe_fld (pv 0) rfl) pa_nil)) pa_nil)))), ?_⟩
    refine ⟨_, rfl, p, CP, dx, _, _, rfl, hp, M.V.cl, M.V.nV, rfl, _, rfl, p, CP, dx, _, _, rfl, hp, M.V.cl, M.V.nT, rfl, ?_⟩
    refine ⟨_, rfl, by omega, fun x dx nx ndx ne => ?_⟩
    exact new9 nx ndx ne ej hV hO fun H' s' hP => q x H' s' hP
end
end SQ9
namespace SQ9
open PySem L2 SQ
/-! ### what is told of a row -/
/-- the effect's text, the numbers of shapes, whether it is first-order -/
structure Told (row : Rw9) (txt : Str) (i o : Nat) (fo : Bool) : Prop where
  ok : row.ok
  dep : row.dep ≤ 2
  sz : row.size ≤ 200
  ex : ∃ S l r wr b1 b2 x1 x2, effR Sto.nil row = some (S, l, r) ∧ wrF 1000 S [] [] [.inr l, .inl " -> ", .inr r] [] 0 = some wr ∧ Txt.join "" wr = txt ∧ sprF 1000 S (S.root l) [] = some (b1, x1) ∧ sprF 1000 S (S.root r) [] = some (b2, x2) ∧ x1.length = i ∧ x2.length = o ∧ foB S b1 b2 x1 x2 = fo ∧ (∀ x ∈ x1 ++ x2, x < S.n) ∧ x1.length + x2.length ≤ 900
def chkT (row : Rw9) (txt : Str) (i o : Nat) (fo : Bool) : Bool := match effR Sto.nil row with
  | none => false
  | some (S, l, r) => match wrF 1000 S [] [] [.inr l, .inl " -> ", .inr r] [] 0 with
    | none => false
    | some wr => decide (Txt.join "" wr = txt) && (match sprF 1000 S (S.root l) [], sprF 1000 S (S.root r) [] with
      | some (b1, x1), some (b2, x2) => decide (x1.length = i) && decide (x2.length = o) && (foB S b1 b2 x1 x2 == fo) && ((x1 ++ x2).all fun x => decide (x < S.n)) && decide (x1.length + x2.length ≤ 900)
      | _, _ => false)
theorem told_of {row : Rw9} {txt : Str} {i o : Nat} {fo : Bool} (ok : row.ok) (dep : row.dep ≤ 2) (sz : row.size ≤ 200) (h : chkT row txt i o fo = true) : Told row txt i o fo := by
  refine ⟨ok, dep, sz, ?_⟩
  unfold chkT at h
  cases he : effR Sto.nil row with
  | none =>
    rw [he] at h
    cases h
  | some slr =>
    obtain ⟨S, l, r⟩ := slr
    rw [he] at h
    dsimp only at h
    cases hw : wrF 1000 S [] [] [.inr l, .inl " -> ", .inr r] [] 0 with
    | none =>
      rw [hw] at h
      cases h
    | some wr =>
      rw [hw] at h
      dsimp only at h
      cases h1 : sprF 1000 S (S.root l) [] with
      | none =>
        rw [h1] at h
        simp at h
      | some bx1 =>
        obtain ⟨b1, x1⟩ := bx1
        rw [h1] at h
        cases h2 : sprF 1000 S (S.root r) [] with
        | none =>
          rw [h2] at h
          simp at h
        | some bx2 =>
          obtain ⟨b2, x2⟩ := bx2
          rw [h2] at h
          dsimp only at h
          simp only [Bool.and_eq_true, decide_eq_true_eq, beq_iff_eq] at h
          obtain ⟨ht, ⟨⟨⟨e1, e2⟩, e3⟩, e4⟩, e5⟩ := h
          exact ⟨S, l, r, wr, b1, b2, x1, x2, rfl, hw, ht, h1, h2, e1, e2, e3, fun x hx => of_decide_eq_true (List.all_eq_true.mp e4 x hx), e5⟩
abbrev one9 (x : W0) : Rw9 := .w x .nil
abbrev quo9 (t : Str) (r : Rw9) : Rw9 := .q t r .nil
theorem told_nil : Told (.nil) "s0 -> s0" 0 0 true := told_of trivial (by show _ ≤ 2; decide) (by show _ ≤ 200; decide) (by decide +kernel)
theorem told_q0 : Told (quo9 "[ ]" .nil) "s0 -> s0 [s1 -> s1]" 0 1 false := told_of ⟨trivial, trivial⟩ (by show _ ≤ 2; decide) (by show _ ≤ 200; decide) (by decide +kernel)
theorem told_q00 : Told (quo9 "[ [ ] ]" (quo9 "[ ]" .nil)) "s0 -> s0 [s1 -> s1 [s2 -> s2]]" 0 1 false := told_of ⟨⟨trivial, trivial⟩, trivial⟩ (by show _ ≤ 2; decide) (by show _ ≤ 200; decide) (by decide +kernel)
theorem told_call : Told (one9 (.core "call")) "s0 [s0 -> s1] -> s1" 1 0 false := told_of ⟨(show ("call" : Str) ∈ cores from by decide +kernel), trivial⟩ (by show _ ≤ 2; decide) (by show _ ≤ 200; decide) (by decide +kernel)
theorem toldq_call : Told (quo9 "[ call ]" (one9 (.core "call"))) "s0 -> s0 [s1 [s1 -> s2] -> s2]" 0 1 false := told_of ⟨⟨(show ("call" : Str) ∈ cores from by decide +kernel), trivial⟩, trivial⟩ (by show _ ≤ 2; decide) (by show _ ≤ 200; decide) (by decide +kernel)
theorem told_dip : Told (one9 (.core "dip")) "s0 a0 [s0 -> s1] -> s1 a0" 2 1 false := told_of ⟨(show ("dip" : Str) ∈ cores from by decide +kernel), trivial⟩ (by show _ ≤ 2; decide) (by show _ ≤ 200; decide) (by decide +kernel)
theorem toldq_dip : Told (quo9 "[ dip ]" (one9 (.core "dip"))) "s0 -> s0 [s1 a0 [s1 -> s2] -> s2 a0]" 0 1 false := told_of ⟨⟨(show ("dip" : Str) ∈ cores from by decide +kernel), trivial⟩, trivial⟩ (by show _ ≤ 2; decide) (by show _ ≤ 200; decide) (by decide +kernel)
theorem told_curry : Told (one9 (.core "curry")) "s0 a0 [s1 a0 -> s2] -> s0 [s1 -> s2]" 2 1 false := told_of ⟨(show ("curry" : Str) ∈ cores from by decide +kernel), trivial⟩ (by show _ ≤ 2; decide) (by show _ ≤ 200; decide) (by decide +kernel)
theorem toldq_curry : Told (quo9 "[ curry ]" (one9 (.core "curry"))) "s0 -> s0 [s1 a0 [s2 a0 -> s3] -> s1 [s2 -> s3]]" 0 1 false := told_of ⟨⟨(show ("curry" : Str) ∈ cores from by decide +kernel), trivial⟩, trivial⟩ (by show _ ≤ 2; decide) (by show _ ≤ 200; decide) (by decide +kernel)
theorem told_compose : Told (one9 (.core "compose")) "s0 [s1 -> s2] [s2 -> s3] -> s0 [s1 -> s3]" 2 1 false := told_of ⟨(show ("compose" : Str) ∈ cores from by decide +kernel), trivial⟩ (by show _ ≤ 2; decide) (by show _ ≤ 200; decide) (by decide +kernel)
theorem toldq_compose : Told (quo9 "[ compose ]" (one9 (.core "compose"))) "s0 -> s0 [s1 [s2 -> s3] [s3 -> s4] -> s1 [s2 -> s4]]" 0 1 false := told_of ⟨⟨(show ("compose" : Str) ∈ cores from by decide +kernel), trivial⟩, trivial⟩ (by show _ ≤ 2; decide) (by show _ ≤ 200; decide) (by decide +kernel)
theorem told_choose : Told (one9 (.core "choose")) "s0 * a0 a0 -> s0 a0" 3 1 true := told_of ⟨(show ("choose" : Str) ∈ cores from by decide +kernel), trivial⟩ (by show _ ≤ 2; decide) (by show _ ≤ 200; decide) (by decide +kernel)
theorem toldq_choose : Told (quo9 "[ choose ]" (one9 (.core "choose"))) "s0 -> s0 [s1 * a0 a0 -> s1 a0]" 0 1 false := told_of ⟨⟨(show ("choose" : Str) ∈ cores from by decide +kernel), trivial⟩, trivial⟩ (by show _ ≤ 2; decide) (by show _ ≤ 200; decide) (by decide +kernel)
theorem told_lit (t : Str) (i : Int) : Told (one9 (.lit t i)) "s0 -> s0 *" 0 1 true := told_of ⟨trivial, trivial⟩ (by show 0 ≤ 2; decide) (by show 1 ≤ 200; decide) (by kernel_rfl)
theorem toldq_lit (q t : Str) (i : Int) : Told (quo9 q (one9 (.lit t i))) "s0 -> s0 [s1 -> s1 *]" 0 1 false := told_of ⟨⟨trivial, trivial⟩, trivial⟩ (by show 1 ≤ 2; decide) (by show 2 ≤ 200; decide) (by kernel_rfl)
/-- so many stars -/
def stars : Nat → Str
  | 0 => ""
  | k + 1 => " *" ++ stars k
def unkT (i o : Nat) : Str := "s0" ++ stars i ++ " -> s0" ++ stars o
def unkQ (i o : Nat) : Str := "s0 -> s0 [s1" ++ stars i ++ " -> s1" ++ stars o ++ "]"
theorem told_unk (t : Str) {i o : Nat} (hi : i ≤ 3) (ho : o ≤ 3) : Told (one9 (.unk t i o)) (unkT i o) i o true := by
  refine told_of ⟨⟨hi, ho⟩, trivial⟩ (by show 0 ≤ 2; decide) (by show 1 ≤ 200; decide) ?_
  match i, o, hi, ho with
  | 0, 0, _, _ => kernel_rfl
  | 0, 1, _, _ => kernel_rfl
  | 0, 2, _, _ => kernel_rfl
  | 0, 3, _, _ => kernel_rfl
  | 1, 0, _, _ => kernel_rfl
  | 1, 1, _, _ => kernel_rfl
  | 1, 2, _, _ => kernel_rfl
  | 1, 3, _, _ => kernel_rfl
  | 2, 0, _, _ => kernel_rfl
  | 2, 1, _, _ => kernel_rfl
  | 2, 2, _, _ => kernel_rfl
  | 2, 3, _, _ => kernel_rfl
  | 3, 0, _, _ => kernel_rfl
  | 3, 1, _, _ => kernel_rfl
  | 3, 2, _, _ => kernel_rfl
  | 3, 3, _, _ => kernel_rfl
theorem toldq_unk (q t : Str) {i o : Nat} (hi : i ≤ 3) (ho : o ≤ 3) : Told (quo9 q (one9 (.unk t i o))) (unkQ i o) 0 1 false := by
  refine told_of ⟨⟨⟨hi, ho⟩, trivial⟩, trivial⟩ (by show 1 ≤ 2; decide) (by show 2 ≤ 200; decide) ?_
  match i, o, hi, ho with
  | 0, 0, _, _ => kernel_rfl
  | 0, 1, _, _ => kernel_rfl
  | 0, 2, _, _ => kernel_rfl
  | 0, 3, _, _ => kernel_rfl
  | 1, 0, _, _ => kernel_rfl
  | 1, 1, _, _ => kernel_rfl
  | 1, 2, _, _ => kernel_rfl
  | 1, 3, _, _ => kernel_rfl
  | 2, 0, _, _ => kernel_rfl
  | 2, 1, _, _ => kernel_rfl
  | 2, 2, _, _ => kernel_rfl
  | 2, 3, _, _ => kernel_rfl
  | 3, 0, _, _ => kernel_rfl
  | 3, 1, _, _ => kernel_rfl
  | 3, 2, _, _ => kernel_rfl
  | 3, 3, _, _ => kernel_rfl
end SQ9
namespace SQ9
open PySem L2 SQ
/-! ### a store and a larger one -/
structure Ext (A B : Sto) : Prop where
  le : A.n ≤ B.n
  rt : ∀ x, x < A.n → B.root x = A.root x
  kd : ∀ x, x < A.n → B.kind x = A.kind x
  pt : ∀ x, x < A.n → B.part x = A.part x
theorem Ext.refl (A : Sto) : Ext A A := ⟨Nat.le_refl _, fun _ _ => rfl, fun _ _ => rfl, fun _ _ => rfl⟩
theorem Ext.trans {A B C : Sto} (h : Ext A B) (g : Ext B C) : Ext A C := ⟨Nat.le_trans h.le g.le, fun x hx => (g.rt x (Nat.lt_of_lt_of_le hx h.le)).trans (h.rt x hx), fun x hx => (g.kd x (Nat.lt_of_lt_of_le hx h.le)).trans (h.kd x hx), fun x hx => (g.pt x (Nat.lt_of_lt_of_le hx h.le)).trans (h.pt x hx)⟩
/-- the three lists are of one length -/
def Even (A : Sto) : Prop := A.kinds.length = A.n ∧ A.parts.length = A.n
theorem Even.mk' {A : Sto} (h : Even A) (k : Str) (ps : List Nat) : Even (A.mk' k ps) := by
  obtain ⟨h1, h2⟩ := h
  constructor
  · show (A.kinds ++ [k]).length = _
    rw [Sto.n_mk, List.length_append, h1]
    rfl
  · show (A.parts ++ [ps]).length = _
    rw [Sto.n_mk, List.length_append, h2]
    rfl
theorem Even.pile : ∀ {A : Sto} {b : Nat} {xs : List Nat}, Even A → Even (A.pile b xs).1
  | A, b, [], h => h
  | A, b, x :: xs, h => Even.pile (A := A.mk' "push" [b, x]) (h.mk' _ _)
theorem ext_mk {A : Sto} (h : Even A) (k : Str) (ps : List Nat) : Ext A (A.mk' k ps) := by
  obtain ⟨h1, h2⟩ := h
  refine ⟨by rw [Sto.n_mk]; omega, fun x hx => Sto.root_app hx, fun x hx => ?_, fun x hx => ?_⟩
  · show (A.kinds ++ [k]).getD x "" = A.kinds.getD x ""
    rw [List.getD_eq_getElem?_getD, List.getD_eq_getElem?_getD, List.getElem?_append_left (by omega)]
  · show (A.parts ++ [ps]).getD x [] = A.parts.getD x []
    rw [List.getD_eq_getElem?_getD, List.getD_eq_getElem?_getD, List.getElem?_append_left (by omega)]
theorem ext_pile : ∀ {A : Sto} {b : Nat} {xs : List Nat}, Even A → Ext A (A.pile b xs).1
  | A, b, [], h => Ext.refl A
  | A, b, x :: xs, h => (ext_mk h _ _).trans (ext_pile (A := A.mk' "push" [b, x]) (h.mk' _ _))
theorem new_kind {A : Sto} (h : Even A) (k : Str) (ps : List Nat) : (A.mk' k ps).kind A.n = k ∧ (A.mk' k ps).part A.n = ps := by
  obtain ⟨h1, h2⟩ := h
  constructor
  · show (A.kinds ++ [k]).getD A.n "" = k
    rw [List.getD_eq_getElem?_getD, List.getElem?_append_right (by omega), h1, Nat.sub_self]
    rfl
  · show (A.parts ++ [ps]).getD A.n [] = ps
    rw [List.getD_eq_getElem?_getD, List.getElem?_append_right (by omega), h2, Nat.sub_self]
    rfl
theorem ext_link {A B : Sto} (h : Ext A B) {f s : Nat} : Ext (A.link f s) (B.link f s) := by
  refine ⟨by rw [Sto.n_link, Sto.n_link]; exact h.le, fun x hx => ?_, fun x hx => h.kd x (by rw [Sto.n_link] at hx; exact hx), fun x hx => h.pt x (by rw [Sto.n_link] at hx; exact hx)⟩
  rw [Sto.n_link] at hx
  rw [Sto.root_link hx, Sto.root_link (Nat.lt_of_lt_of_le hx h.le), h.rt x hx]
/-- nothing leads out of it -/
def Clo (A : Sto) : Prop := (∀ x, x < A.n → A.root x < A.n) ∧ ∀ x, x < A.n → ∀ y ∈ A.part x, y < A.n
theorem finP_lt {lf : List (Nat × Bool)} {n : Nat} : ∀ {ps pend pd : List Nat}, (∀ y ∈ ps, y < n) → (∀ y ∈ pend, y < n) → finP lf ps pend = some pd → ∀ y ∈ pd, y < n
  | [], pend, pd, _, h2, h => by
    cases h
    exact h2
  | p :: ps, pend, pd, h1, h2, h => by
    rw [finP_cons] at h
    have h1' : ∀ y ∈ ps, y < n := fun y hy => h1 y (List.mem_cons_of_mem _ hy)
    split at h
    · exact finP_lt h1' (fun y hy => by rcases List.mem_cons.mp hy with rfl | hy; exact h1 _ List.mem_cons_self; exact h2 y hy) h
    · split at h
      · exact finP_lt h1' h2 h
      · cases h
theorem ext_fin {A B : Sto} (h : Ext A B) (c : Clo A) : ∀ (m : Nat) (lf : List (Nat × Bool)) (pend : List Nat), (∀ y ∈ pend, y < A.n) → finF m B lf pend = finF m A lf pend
  | 0, _, _, _ => rfl
  | m + 1, lf, [], _ => rfl
  | m + 1, lf, t :: rest, hp => by
    have ht := hp t List.mem_cons_self
    have hr : ∀ y ∈ rest, y < A.n := fun y hy => hp y (List.mem_cons_of_mem _ hy)
    have er := h.rt t ht
    have hrl := c.1 t ht
    have epp : (B.part (A.root t)).map B.root = (A.part (A.root t)).map A.root := by
      rw [h.pt _ hrl]
      exact List.map_congr_left fun y hy => h.rt y (c.2 _ hrl y hy)
    show (match lget lf (B.root t) with | some _ => finF m B (lput lf (B.root t) true) rest | none => match finP (lput lf (B.root t) false) ((B.part (B.root t)).map B.root) (t :: rest) with | none => some false | some pend => finF m B (lput lf (B.root t) false) pend) = (match lget lf (A.root t) with | some _ => finF m A (lput lf (A.root t) true) rest | none => match finP (lput lf (A.root t) false) ((A.part (A.root t)).map A.root) (t :: rest) with | none => some false | some pend => finF m A (lput lf (A.root t) false) pend)
    rw [er, epp]
    cases lget lf (A.root t) with
    | some _ => exact ext_fin h c m _ rest hr
    | none =>
      dsimp only
      cases hf : finP (lput lf (A.root t) false) ((A.part (A.root t)).map A.root) (t :: rest) with
      | none => rfl
      | some pd =>
        exact ext_fin h c m _ pd (finP_lt (fun y hy => by
          obtain ⟨z, hz, rfl⟩ := List.mem_map.mp hy
          exact c.1 z (c.2 _ hrl z hz)) hp hf)
/-! ### writing, piece by piece -/
def wrP : Nat → Sto → List Nat → List Nat → List Pc → Option (List Nat × List Nat × List Str)
  | _, _, ns, vs, [] => some (ns, vs, [])
  | 0, _, _, _, _ :: _ => none
  | m + 1, S, ns, vs, .inl t :: rest => match wrP m S ns vs rest with
    | none => none
    | some (a, b, ts) => some (a, b, t :: ts)
  | m + 1, S, ns, vs, .inr x :: rest => match pcs S ns vs (S.root x) with
    | none => none
    | some (ps, n1, v1) => if n1.length ≤ 900 ∧ v1.length ≤ 900 then wrP m S n1 v1 (ps ++ rest) else none
theorem wrP_wr : ∀ (m : Nat) {S : Sto} {ns vs n' v' : List Nat} {pend : List Pc} {ts wr : List Str} {len : Nat}, wrP m S ns vs pend = some (n', v', ts) → len + (ts.map (·.length)).sum ≤ 2000 → wrF (m + 1) S ns vs pend wr len = some (wr ++ ts)
  | m, S, ns, vs, n', v', [], ts, wr, len, h, hl => by
    have e : ts = [] := by
      cases m <;> (cases h; rfl)
    rw [e, List.append_nil]
    rfl
  | 0, S, ns, vs, n', v', _ :: _, ts, wr, len, h, hl => by cases h
  | m + 1, S, ns, vs, n', v', .inl t :: rest, ts, wr, len, h, hl => by
    have h' : (match wrP m S ns vs rest with | none => none | some (a, b, ts) => some (a, b, t :: ts)) = some (n', v', ts) := h
    cases hr : wrP m S ns vs rest with
    | none =>
      rw [hr] at h'
      cases h'
    | some p =>
      obtain ⟨a, b, ts'⟩ := p
      rw [hr] at h'
      cases h'
      rw [List.map_cons, List.sum_cons] at hl
      show (if len + t.length ≤ 2000 then wrF (m + 1) S ns vs rest (wr ++ [t]) (len + t.length) else none) = _
      rw [if_pos (by omega), wrP_wr m hr (by omega), List.append_assoc]
      rfl
  | m + 1, S, ns, vs, n', v', .inr x :: rest, ts, wr, len, h, hl => by
    have h' : (match pcs S ns vs (S.root x) with | none => none | some (ps, n1, v1) => if n1.length ≤ 900 ∧ v1.length ≤ 900 then wrP m S n1 v1 (ps ++ rest) else none) = some (n', v', ts) := h
    show (match pcs S ns vs (S.root x) with | none => none | some (ps, n1, v1) => if n1.length ≤ 900 ∧ v1.length ≤ 900 then wrF (m + 1) S n1 v1 (ps ++ rest) wr len else none) = _
    cases hp : pcs S ns vs (S.root x) with
    | none =>
      rw [hp] at h'
      cases h'
    | some p =>
      obtain ⟨ps, n1, v1⟩ := p
      rw [hp] at h'
      dsimp only at h' ⊢
      split at h'
      · rename_i h9
        rw [if_pos h9]
        exact wrP_wr m h' hl
      · cases h'
theorem wrP_mono : ∀ (m : Nat) {S : Sto} {ns vs : List Nat} {pend : List Pc} {r : List Nat × List Nat × List Str}, wrP m S ns vs pend = some r → wrP (m + 1) S ns vs pend = some r
  | m, S, ns, vs, [], r, h => by
    cases m <;> exact h
  | 0, S, ns, vs, _ :: _, r, h => by cases h
  | m + 1, S, ns, vs, .inl t :: rest, r, h => by
    have h' : (match wrP m S ns vs rest with | none => none | some (a, b, ts) => some (a, b, t :: ts)) = some r := h
    show (match wrP (m + 1) S ns vs rest with | none => none | some (a, b, ts) => some (a, b, t :: ts)) = some r
    cases hr : wrP m S ns vs rest with
    | none =>
      rw [hr] at h'
      cases h'
    | some p =>
      rw [hr] at h'
      rw [wrP_mono m hr]
      exact h'
  | m + 1, S, ns, vs, .inr x :: rest, r, h => by
    have h' : (match pcs S ns vs (S.root x) with | none => none | some (ps, n1, v1) => if n1.length ≤ 900 ∧ v1.length ≤ 900 then wrP m S n1 v1 (ps ++ rest) else none) = some r := h
    show (match pcs S ns vs (S.root x) with | none => none | some (ps, n1, v1) => if n1.length ≤ 900 ∧ v1.length ≤ 900 then wrP (m + 1) S n1 v1 (ps ++ rest) else none) = some r
    cases hp : pcs S ns vs (S.root x) with
    | none =>
      rw [hp] at h'
      cases h'
    | some p =>
      obtain ⟨ps, n1, v1⟩ := p
      rw [hp] at h'
      dsimp only at h' ⊢
      split at h'
      · rename_i h9
        rw [if_pos h9]
        exact wrP_mono m h'
      · cases h'
theorem wrP_le {m k : Nat} (hk : m ≤ k) {S : Sto} {ns vs : List Nat} {pend : List Pc} {r : List Nat × List Nat × List Str} (h : wrP m S ns vs pend = some r) : wrP k S ns vs pend = some r := by
  obtain ⟨j, rfl⟩ := Nat.le.dest hk
  clear hk
  induction j with
  | zero => exact h
  | succ j ih => exact wrP_mono (m + j) ih
theorem wrP_app : ∀ (m : Nat) {k : Nat} {S : Sto} {ns vs n1 v1 n2 v2 : List Nat} {a b : List Pc} {t1 t2 : List Str}, wrP m S ns vs a = some (n1, v1, t1) → wrP k S n1 v1 b = some (n2, v2, t2) → wrP (m + k) S ns vs (a ++ b) = some (n2, v2, t1 ++ t2)
  | m, k, S, ns, vs, n1, v1, n2, v2, [], b, t1, t2, h, g => by
    have e : ns = n1 ∧ vs = v1 ∧ t1 = [] := by
      cases m <;> (cases h; exact ⟨rfl, rfl, rfl⟩)
    obtain ⟨rfl, rfl, rfl⟩ := e
    exact wrP_le (Nat.le_add_left k m) g
  | 0, k, S, ns, vs, n1, v1, n2, v2, _ :: _, b, t1, t2, h, g => by cases h
  | m + 1, k, S, ns, vs, n1, v1, n2, v2, .inl t :: rest, b, t1, t2, h, g => by
    have h' : (match wrP m S ns vs rest with | none => none | some (a, b, ts) => some (a, b, t :: ts)) = some (n1, v1, t1) := h
    cases hr : wrP m S ns vs rest with
    | none =>
      rw [hr] at h'
      cases h'
    | some p =>
      obtain ⟨x, y, ts⟩ := p
      rw [hr] at h'
      cases h'
      rw [show m + 1 + k = (m + k) + 1 from by omega]
      show (match wrP (m + k) S ns vs (rest ++ b) with | none => none | some (a, b, ts) => some (a, b, t :: ts)) = _
      rw [wrP_app m hr g]
      rfl
  | m + 1, k, S, ns, vs, n1, v1, n2, v2, .inr x :: rest, b, t1, t2, h, g => by
    have h' : (match pcs S ns vs (S.root x) with | none => none | some (ps, n1, v1) => if n1.length ≤ 900 ∧ v1.length ≤ 900 then wrP m S n1 v1 (ps ++ rest) else none) = some (n1, v1, t1) := h
    rw [show m + 1 + k = (m + k) + 1 from by omega]
    show (match pcs S ns vs (S.root x) with | none => none | some (ps, n1, v1) => if n1.length ≤ 900 ∧ v1.length ≤ 900 then wrP (m + k) S n1 v1 (ps ++ (rest ++ b)) else none) = _
    cases hp : pcs S ns vs (S.root x) with
    | none =>
      rw [hp] at h'
      cases h'
    | some p =>
      obtain ⟨ps, na, va⟩ := p
      rw [hp] at h'
      dsimp only at h' ⊢
      split at h'
      · rename_i h9
        rw [if_pos h9, ← List.append_assoc]
        exact wrP_app m h' g
      · cases h'
end SQ9
namespace SQ9
open PySem L2 SQ
theorem pcs_ext {A B : Sto} (h : Ext A B) (c : Clo A) {ns vs : List Nat} {x : Nat} (hx : x < A.n) : pcs B ns vs x = pcs A ns vs x := by
  unfold pcs
  rw [h.kd x hx, h.pt x hx]
  have hp := c.2 x hx
  cases hq : A.part x with
  | nil => rfl
  | cons a l =>
    rw [hq] at hp
    cases l with
    | nil => rfl
    | cons b l =>
      cases l with
      | nil =>
        dsimp only
        rw [h.rt a (hp a List.mem_cons_self), h.rt b (hp b (List.mem_cons_of_mem _ List.mem_cons_self))]
      | cons _ _ => rfl
theorem pcs_lt {A : Sto} (c : Clo A) {ns vs n1 v1 : List Nat} {x : Nat} {ps : List Pc} (hx : x < A.n) (h : pcs A ns vs x = some (ps, n1, v1)) : ∀ y, Sum.inr y ∈ ps → y < A.n := by
  have hp := c.2 x hx
  unfold pcs at h
  have go : ∀ {z : Str} {y : Nat}, Sum.inr y ∈ ([.inl z] : List Pc) → y < A.n := fun {z y} hm => by
    have := List.mem_singleton.mp hm
    cases this
  split at h
  · cases h
    exact fun y hy => go hy
  · split at h
    · cases h
      exact fun y hy => go hy
    · split at h
      · cases h
        exact fun y hy => go hy
      · split at h
        · match hq : A.part x, h with
          | [a, b], h =>
            cases h
            rw [hq] at hp
            intro y hy
            simp only [List.mem_cons, List.not_mem_nil, or_false, reduceCtorEq, false_or, Sum.inr.injEq] at hy
            rcases hy with rfl | rfl
            · exact c.1 _ (hp a List.mem_cons_self)
            · exact c.1 _ (hp b (List.mem_cons_of_mem _ List.mem_cons_self))
          | [], h => cases h
          | [_], h => cases h
          | _ :: _ :: _ :: _, h => cases h
        · match hq : A.part x, h with
          | [a, b], h =>
            cases h
            rw [hq] at hp
            intro y hy
            simp only [List.mem_cons, List.not_mem_nil, or_false, reduceCtorEq, false_or, Sum.inr.injEq] at hy
            rcases hy with rfl | rfl
            · exact c.1 _ (hp a List.mem_cons_self)
            · exact c.1 _ (hp b (List.mem_cons_of_mem _ List.mem_cons_self))
          | [], h => cases h
          | [_], h => cases h
          | _ :: _ :: _ :: _, h => cases h
theorem wrP_ext {A B : Sto} (h : Ext A B) (c : Clo A) : ∀ (m : Nat) {ns vs : List Nat} {pend : List Pc}, (∀ y, Sum.inr y ∈ pend → y < A.n) → wrP m B ns vs pend = wrP m A ns vs pend
  | m, ns, vs, [], _ => by cases m <;> rfl
  | 0, ns, vs, _ :: _, _ => rfl
  | m + 1, ns, vs, .inl t :: rest, hp => by
    show (match wrP m B ns vs rest with | none => none | some (a, b, ts) => some (a, b, t :: ts)) = (match wrP m A ns vs rest with | none => none | some (a, b, ts) => some (a, b, t :: ts))
    rw [wrP_ext h c m fun y hy => hp y (List.mem_cons_of_mem _ hy)]
  | m + 1, ns, vs, .inr x :: rest, hp => by
    have hx := hp x List.mem_cons_self
    show (match pcs B ns vs (B.root x) with | none => none | some (ps, n1, v1) => if n1.length ≤ 900 ∧ v1.length ≤ 900 then wrP m B n1 v1 (ps ++ rest) else none) = (match pcs A ns vs (A.root x) with | none => none | some (ps, n1, v1) => if n1.length ≤ 900 ∧ v1.length ≤ 900 then wrP m A n1 v1 (ps ++ rest) else none)
    rw [h.rt x hx, pcs_ext h c (c.1 x hx)]
    cases hq : pcs A ns vs (A.root x) with
    | none => rfl
    | some p =>
      obtain ⟨ps, n1, v1⟩ := p
      dsimp only
      split
      · exact wrP_ext h c m fun y hy => by
          rcases List.mem_append.mp hy with z | z
          · exact pcs_lt c (c.1 x hx) hq y z
          · exact hp y (List.mem_cons_of_mem _ z)
      · rfl
theorem sprF_ext {A B : Sto} (h : Ext A B) (c : Clo A) : ∀ (m : Nat) {x : Nat} {acc : List Nat}, x < A.n → sprF m B x acc = sprF m A x acc
  | 0, _, _, _ => rfl
  | m + 1, x, acc, hx => by
    unfold sprF
    rw [h.kd x hx, h.pt x hx]
    split
    · have hp := c.2 x hx
      match hq : A.part x with
      | [a, b] =>
        rw [hq] at hp
        have ha := hp a List.mem_cons_self
        have hb := hp b (List.mem_cons_of_mem _ List.mem_cons_self)
        dsimp only
        rw [h.rt a ha, h.rt b hb]
        exact sprF_ext h c m (c.1 a ha)
      | [] => rfl
      | [_] => rfl
      | _ :: _ :: _ :: _ => rfl
    · rfl
/-! ### the store of a shuffle's effect -/
/-- before the row: nothing, or what stands around it in a quotation -/
def st0 : Nat → Sto
  | 0 => Sto.nil
  | _ => (Sto.nil.mk' kS []).mk' kS []
def shR (k n : Nat) : Sto := ((mkN (((st0 k).mk' kS []).mk' kS []) kV9 n).pile (k + 1) (List.range' (k + 2) n)).1
def shT (k n : Nat) : Nat := ((mkN (((st0 k).mk' kS []).mk' kS []) kV9 n).pile (k + 1) (List.range' (k + 2) n)).2
def shF (k n : Nat) : Nat := if n = 0 then k + 1 else k
def shG (k n : Nat) : Nat := if n = 0 then k else shT k n
def shB (k n : Nat) : Nat := if n = 0 then k else k + 1
def shA (k n : Nat) : Sto := (shR k n).link (shF k n) (shG k n)
def ns0 : Nat → List Nat
  | 0 => []
  | _ => [0]
def sName : Nat → Str
  | 0 => "s0"
  | _ => "s1"
/-- the pieces of the letters -/
def letP : List Nat → List Str
  | [] => []
  | p :: ps => " " :: nameT "a" p :: letP ps
def chkS (k n : Nat) : Bool :=
  decide (uni1 (shR k n) k (shT k n) = some (shA k n)) && decide ((shR k n).root k = k) && decide ((shR k n).root (shT k n) = shT k n) && decide (shT k n < (shR k n).n) && decide (k + 1 < (shR k n).n) && decide (shF k n < (shR k n).n)
  && decide (finF 1000 (shA k n) [] [k] = some true) && decide (wrP 100 (shA k n) (ns0 k) [] [.inr k] = some (ns0 k ++ [shB k n], List.range' (k + 2) n, sName k :: letP (List.range n)))
  && decide (sprF 100 (shA k n) ((shA k n).root k) [] = some (shB k n, List.range' (k + 2) n))
  && ((List.range (shA k n).n).all fun x => decide ((shA k n).root x < (shA k n).n) && (((shA k n).part x).all fun y => decide (y < (shA k n).n)) && decide ((shA k n).root ((shA k n).root x) = (shA k n).root x))
  && decide ((shR k n).kinds.length = (shR k n).n) && decide ((shR k n).parts.length = (shR k n).n)
  && ((List.range n).all fun p => decide ((shA k n).root (k + 2 + p) = k + 2 + p) && decide ((shA k n).kind (k + 2 + p) = kV9) && decide (k + 2 + p < (shA k n).n))
  && decide ((shA k n).root (k + 1) = shB k n) && decide ((shA k n).kind (shB k n) = kS) && decide (shB k n < (shA k n).n) && decide (idxV (ns0 k ++ [shB k n]) (shB k n) = (ns0 k).length) && decide (shB k n ∈ ns0 k ++ [shB k n]) && decide (nameT "s" (ns0 k).length = sName k) && decide (n ≤ 900) && decide ((shA k n).root (shB k n) = shB k n)
theorem all_chkS : ([0, 2].all fun k => (List.range 6).all fun n => chkS k n) = true := by decide +kernel
end SQ9
namespace SQ9
open PySem L2 SQ
/-- the outer stack, once the quotation stands -/
def lk2 : Nat → Sto → Sto
  | 0, S => S
  | _ + 1, S => S.link 1 0
def LL (k n : Nat) (S : Sto) : Sto := lk2 k (S.link (shF k n) (shG k n))
theorem ext_LL {A B : Sto} (h : Ext A B) : ∀ k n, Ext (LL k n A) (LL k n B)
  | 0, n => ext_link h
  | k + 1, n => ext_link (ext_link h)
theorem n_LL (S : Sto) : ∀ k n, (LL k n S).n = S.n
  | 0, n => Sto.n_link
  | k + 1, n => by
    show ((S.link _ _).link _ _).n = _
    rw [Sto.n_link, Sto.n_link]
theorem kind_LL (S : Sto) (x : Nat) : ∀ k n, (LL k n S).kind x = S.kind x
  | 0, n => rfl
  | k + 1, n => rfl
theorem part_LL (S : Sto) (x : Nat) : ∀ k n, (LL k n S).part x = S.part x
  | 0, n => rfl
  | k + 1, n => rfl
theorem root_LL {S : Sto} {y : Nat} (hy : y < S.n) (hr : S.root y = y) : ∀ {k n}, shF k n < y → 1 < y → (LL k n S).root y = y
  | 0, n, hf, h1 => by
    show (S.link _ _).root y = y
    rw [Sto.root_link hy, hr, if_neg (by omega)]
  | k + 1, n, hf, h1 => by
    show ((S.link _ _).link _ _).root y = y
    rw [Sto.root_link (by rw [Sto.n_link]; exact hy), Sto.root_link hy, hr, if_neg (show ¬ y = shF (k + 1) n by omega), if_neg (by omega)]
def shC (k n : Nat) : Sto := LL k n (shR k n)
def nsE (k n : Nat) : List Nat := ns0 k ++ [shB k n]
def vsE (k n : Nat) : List Nat := List.range' (k + 2) n
def chkC (k n : Nat) : Bool :=
  decide ((shR k n).root k = k) && decide ((shR k n).root (shT k n) = shT k n) && decide (shT k n < (shR k n).n) && decide (k ≠ shT k n) && ((shR k n).isVar (shT k n) == decide (n = 0)) && (shR k n).isVar k
  && decide (shF k n < (shR k n).n) && decide (1 < (shR k n).n) && decide (k + 1 < (shR k n).n)
  && decide ((shR k n).kinds.length = (shR k n).n) && decide ((shR k n).parts.length = (shR k n).n)
  && decide (finF 1000 (shA k n) [] [k] = some true) && decide (wrP 100 (shC k n) (ns0 k) [] [.inr k] = some (nsE k n, vsE k n, sName k :: letP (List.range n)))
  && decide (sprF 100 (shC k n) ((shC k n).root k) [] = some (shB k n, vsE k n))
  && ((List.range (shC k n).n).all fun x => decide ((shC k n).root x < (shC k n).n) && (((shC k n).part x).all fun y => decide (y < (shC k n).n)))
  && ((List.range (shA k n).n).all fun x => decide ((shA k n).root x < (shA k n).n) && (((shA k n).part x).all fun y => decide (y < (shA k n).n)))
  && ((List.range n).all fun p => decide ((shC k n).root (k + 2 + p) = k + 2 + p) && decide ((shC k n).kind (k + 2 + p) = kV9) && decide (k + 2 + p < (shR k n).n) && decide (idxV (vsE k n) (k + 2 + p) = p) && decide (addV (vsE k n) (k + 2 + p) = vsE k n))
  && decide (wrP 4 (shC k n) (nsE k n) (vsE k n) [.inr (k + 1)] = some (nsE k n, vsE k n, [sName k]))
  && decide (sprF 1 (shC k n) ((shC k n).root (k + 1)) [] = some (shB k n, []))
  && decide ((shC k n).kind ((shC k n).root (k + 1)) ≠ "push") && decide ((shC k n).root (k + 1) = shB k n)
  && decide ((shC k n).root ((shC k n).root (k + 1)) = (shC k n).root (k + 1))
  && decide ((shC k n).root ((shC k n).root k) = (shC k n).root k)
  && decide ((nsE k n).length ≤ 900) && decide ((vsE k n).length ≤ 900)
  && (decide (k = 0) || (decide ((shA k n).root 0 = 0) && decide ((shA k n).root 1 = 1) && decide ((shA k n).kind 0 = kS) && decide ((shA k n).kind 1 = kS) && decide (finF 1000 (shC k n) [] [0] = some true) && decide ((shC k n).root 0 = 0) && decide ((shC k n).root 1 = 0) && decide ((shC k n).kind 0 = kS)))
theorem all_chkC : ([0, 2].all fun k => (List.range 6).all fun n => chkC k n) = true := by decide +kernel
structure CkC (k n : Nat) : Prop where
  rk : (shR k n).root k = k
  rT : (shR k n).root (shT k n) = shT k n
  tR : shT k n < (shR k n).n
  ne : k ≠ shT k n
  vT : (shR k n).isVar (shT k n) = decide (n = 0)
  vk : (shR k n).isVar k = true
  fR : shF k n < (shR k n).n
  oR : 1 < (shR k n).n
  kR : k + 1 < (shR k n).n
  ev : Even (shR k n)
  fi : finF 1000 (shA k n) [] [k] = some true
  wr : wrP 100 (shC k n) (ns0 k) [] [.inr k] = some (nsE k n, vsE k n, sName k :: letP (List.range n))
  sp : sprF 100 (shC k n) ((shC k n).root k) [] = some (shB k n, vsE k n)
  cC : Clo (shC k n)
  cA : Clo (shA k n)
  lt : ∀ p, p < n → (shC k n).root (k + 2 + p) = k + 2 + p ∧ (shC k n).kind (k + 2 + p) = kV9 ∧ k + 2 + p < (shR k n).n ∧ idxV (vsE k n) (k + 2 + p) = p ∧ addV (vsE k n) (k + 2 + p) = vsE k n
  w1 : wrP 4 (shC k n) (nsE k n) (vsE k n) [.inr (k + 1)] = some (nsE k n, vsE k n, [sName k])
  np : (shC k n).kind ((shC k n).root (k + 1)) ≠ "push"
  rB : (shC k n).root (k + 1) = shB k n
  ri : (shC k n).root ((shC k n).root (k + 1)) = (shC k n).root (k + 1)
  rj : (shC k n).root ((shC k n).root k) = (shC k n).root k
  ln : (nsE k n).length ≤ 900
  lv : (vsE k n).length ≤ 900
  two : k = 0 ∨ ((shA k n).root 0 = 0 ∧ (shA k n).root 1 = 1 ∧ (shA k n).kind 0 = kS ∧ (shA k n).kind 1 = kS ∧ finF 1000 (shC k n) [] [0] = some true ∧ (shC k n).root 0 = 0 ∧ (shC k n).root 1 = 0 ∧ (shC k n).kind 0 = kS)
theorem clo_of {A : Sto} (h : ((List.range A.n).all fun x => decide (A.root x < A.n) && ((A.part x).all fun y => decide (y < A.n))) = true) : Clo A := by
  rw [List.all_eq_true] at h
  refine ⟨fun x hx => ?_, fun x hx y hy => ?_⟩
  · have := h x (List.mem_range.mpr hx)
    rw [Bool.and_eq_true] at this
    exact of_decide_eq_true this.1
  · have := h x (List.mem_range.mpr hx)
    rw [Bool.and_eq_true] at this
    exact of_decide_eq_true (List.all_eq_true.mp this.2 y hy)
theorem ckC {k n : Nat} (hk : k = 0 ∨ k = 2) (hn : n ≤ 5) : CkC k n := by
  have h := all_chkC
  rw [List.all_eq_true] at h
  have h1 := h k (by rcases hk with rfl | rfl <;> decide)
  rw [List.all_eq_true] at h1
  have h2 := h1 n (List.mem_range.mpr (by omega))
  unfold chkC at h2
  rw [Bool.and_eq_true] at h2; obtain ⟨h2, z1⟩ := h2
  rw [Bool.and_eq_true] at h2; obtain ⟨h2, z2⟩ := h2
  rw [Bool.and_eq_true] at h2; obtain ⟨h2, z3⟩ := h2
  rw [Bool.and_eq_true] at h2; obtain ⟨h2, z4⟩ := h2
  rw [Bool.and_eq_true] at h2; obtain ⟨h2, z5⟩ := h2
  rw [Bool.and_eq_true] at h2; obtain ⟨h2, z6⟩ := h2
  rw [Bool.and_eq_true] at h2; obtain ⟨h2, z7⟩ := h2
  rw [Bool.and_eq_true] at h2; obtain ⟨h2, z8⟩ := h2
  rw [Bool.and_eq_true] at h2; obtain ⟨h2, z9⟩ := h2
  rw [Bool.and_eq_true] at h2; obtain ⟨h2, z10⟩ := h2
  rw [Bool.and_eq_true] at h2; obtain ⟨h2, z11⟩ := h2
  rw [Bool.and_eq_true] at h2; obtain ⟨h2, z12⟩ := h2
  rw [Bool.and_eq_true] at h2; obtain ⟨h2, z13⟩ := h2
  rw [Bool.and_eq_true] at h2; obtain ⟨h2, z14⟩ := h2
  rw [Bool.and_eq_true] at h2; obtain ⟨h2, z15⟩ := h2
  rw [Bool.and_eq_true] at h2; obtain ⟨h2, z16⟩ := h2
  rw [Bool.and_eq_true] at h2; obtain ⟨h2, z17⟩ := h2
  rw [Bool.and_eq_true] at h2; obtain ⟨h2, z18⟩ := h2
  rw [Bool.and_eq_true] at h2; obtain ⟨h2, z19⟩ := h2
  rw [Bool.and_eq_true] at h2; obtain ⟨h2, z20⟩ := h2
  rw [Bool.and_eq_true] at h2; obtain ⟨h2, z21⟩ := h2
  rw [Bool.and_eq_true] at h2; obtain ⟨h2, z22⟩ := h2
  rw [Bool.and_eq_true] at h2; obtain ⟨h2, z23⟩ := h2
  rw [Bool.and_eq_true] at h2; obtain ⟨h2, z24⟩ := h2
  rw [Bool.and_eq_true] at h2; obtain ⟨h2, z25⟩ := h2
  refine { rk := of_decide_eq_true h2, rT := of_decide_eq_true z25, tR := of_decide_eq_true z24, ne := of_decide_eq_true z23, vT := beq_iff_eq.mp z22, vk := z21, fR := of_decide_eq_true z20, oR := of_decide_eq_true z19, kR := of_decide_eq_true z18, ev := ⟨of_decide_eq_true z17, of_decide_eq_true z16⟩, fi := of_decide_eq_true z15, wr := of_decide_eq_true z14, sp := of_decide_eq_true z13, cC := clo_of z12, cA := clo_of z11, lt := fun p hp => ?_, w1 := of_decide_eq_true z9, np := of_decide_eq_true z7, rB := of_decide_eq_true z6, ri := of_decide_eq_true z5, rj := of_decide_eq_true z4, ln := of_decide_eq_true z3, lv := of_decide_eq_true z2, two := ?_ }
  · have g := List.all_eq_true.mp z10 p (List.mem_range.mpr hp)
    simp only [Bool.and_eq_true, decide_eq_true_eq] at g
    obtain ⟨⟨⟨⟨g1, g2⟩, g3⟩, g4⟩, g5⟩ := g
    exact ⟨g1, g2, g3, g4, g5⟩
  · simp only [Bool.or_eq_true, Bool.and_eq_true, decide_eq_true_eq] at z1
    rcases z1 with z | ⟨⟨⟨⟨⟨⟨⟨g1, g2⟩, g3⟩, g4⟩, g5⟩, g6⟩, g7⟩, g8⟩
    · exact .inl z
    · exact .inr ⟨g1, g2, g3, g4, g5, g6, g7, g8⟩
/-! ### the letters that are left, one after another -/
theorem letP_snoc : ∀ (xs : List Nat) (p : Nat), letP (xs ++ [p]) = letP xs ++ [(" " : Str), nameT "a" p]
  | [], p => rfl
  | x :: xs, p => by
    show (" " : Str) :: nameT "a" x :: letP (xs ++ [p]) = _
    rw [letP_snoc xs p]
    rfl
abbrev plS (k n : Nat) (xs : List Nat) : Sto := ((shR k n).pile (k + 1) (xs.map (k + 2 + ·))).1
abbrev plT (k n : Nat) (xs : List Nat) : Nat := ((shR k n).pile (k + 1) (xs.map (k + 2 + ·))).2
structure CX9 (k n : Nat) (xs : List Nat) : Prop where
  ev : Even (plS k n xs)
  ex : Ext (shR k n) (plS k n xs)
  cl : Clo (LL k n (plS k n xs))
  tl : plT k n xs < (plS k n xs).n
  wr : wrP (4 * xs.length + 4) (LL k n (plS k n xs)) (nsE k n) (vsE k n) [.inr (plT k n xs)] = some (nsE k n, vsE k n, sName k :: letP xs)
  sp : ∀ acc, sprF (xs.length + 1) (LL k n (plS k n xs)) ((LL k n (plS k n xs)).root (plT k n xs)) acc = some (shB k n, xs.map (k + 2 + ·) ++ acc)
  ri : (LL k n (plS k n xs)).root ((LL k n (plS k n xs)).root (plT k n xs)) = (LL k n (plS k n xs)).root (plT k n xs)
theorem wrP_root {m : Nat} {S : Sto} {ns vs : List Nat} {x : Nat} (h : S.root (S.root x) = S.root x) {rest : List Pc} : wrP m S ns vs (.inr (S.root x) :: rest) = wrP m S ns vs (.inr x :: rest) := by
  cases m with
  | zero => rfl
  | succ m =>
    show (match pcs S ns vs (S.root (S.root x)) with | none => none | some (ps, n1, v1) => if n1.length ≤ 900 ∧ v1.length ≤ 900 then wrP m S n1 v1 (ps ++ rest) else none) = (match pcs S ns vs (S.root x) with | none => none | some (ps, n1, v1) => if n1.length ≤ 900 ∧ v1.length ≤ 900 then wrP m S n1 v1 (ps ++ rest) else none)
    rw [h]
theorem wrP_inr {m : Nat} {S : Sto} {ns vs n1 v1 : List Nat} {x : Nat} {ps rest : List Pc} {r : List Nat × List Nat × List Str} (h : pcs S ns vs (S.root x) = some (ps, n1, v1)) (l1 : n1.length ≤ 900) (l2 : v1.length ≤ 900) (g : wrP m S n1 v1 (ps ++ rest) = some r) : wrP (m + 1) S ns vs (.inr x :: rest) = some r := by
  show (match pcs S ns vs (S.root x) with | none => none | some (ps, n1, v1) => if n1.length ≤ 900 ∧ v1.length ≤ 900 then wrP m S n1 v1 (ps ++ rest) else none) = some r
  rw [h]
  dsimp only
  rw [if_pos ⟨l1, l2⟩]
  exact g
theorem wrP_inl {m : Nat} {S : Sto} {ns vs n1 v1 : List Nat} {t : Str} {rest : List Pc} {ts : List Str} (g : wrP m S ns vs rest = some (n1, v1, ts)) : wrP (m + 1) S ns vs (.inl t :: rest) = some (n1, v1, t :: ts) := by
  show (match wrP m S ns vs rest with | none => none | some (a, b, ts) => some (a, b, t :: ts)) = _
  rw [g]
theorem wrP_nil {m : Nat} {S : Sto} {ns vs : List Nat} : wrP m S ns vs [] = some (ns, vs, []) := by
  cases m <;> rfl
theorem pcs_push {S : Sto} {ns vs : List Nat} {x a b : Nat} (hk : S.kind x = "push") (hp : S.part x = [a, b]) : pcs S ns vs x = some ([.inr (S.root a), .inl " ", .inr (S.root b)], ns, vs) := by
  unfold pcs
  rw [hk, hp, if_neg (by decide +kernel), if_neg (by decide +kernel), if_neg (by decide +kernel), if_neg (by decide +kernel)]
theorem pcs_quo {S : Sto} {ns vs : List Nat} {x a b : Nat} (hk : S.kind x = kQ) (hp : S.part x = [a, b]) : pcs S ns vs x = some ([.inl "[", .inr (S.root a), .inl " -> ", .inr (S.root b), .inl "]"], ns, vs) := by
  unfold pcs
  rw [hk, hp, if_neg (by decide +kernel), if_neg (by decide +kernel), if_neg (by decide +kernel), if_pos rfl]
theorem pcs_val {S : Sto} {ns vs : List Nat} {x : Nat} (hk : S.kind x = kV9) : pcs S ns vs x = some ([.inl (nameT "a" (idxV vs x))], ns, addV vs x) := by
  unfold pcs
  rw [hk, if_neg (by decide +kernel), if_pos rfl]
theorem pcs_stk {S : Sto} {ns vs : List Nat} {x : Nat} (hk : S.kind x = kS) : pcs S ns vs x = some ([.inl (nameT "s" (idxV ns x))], addV ns x, vs) := by
  unfold pcs
  rw [hk, if_pos rfl]
theorem clo_mk {S : Sto} {k n : Nat} {a b : Nat} {kd : Str} (ev : Even S) (c : Clo (LL k n S)) (ha : a < S.n) (hb : b < S.n) (hf : shF k n < S.n) (h1 : 1 < S.n) : Clo (LL k n (S.mk' kd [a, b])) := by
  have ex := ext_LL (ext_mk ev kd [a, b]) k n
  have en : (LL k n (S.mk' kd [a, b])).n = S.n + 1 := by rw [n_LL, Sto.n_mk]
  have e0 : (LL k n S).n = S.n := n_LL _ _ _
  refine ⟨fun x hx => ?_, fun x hx y hy => ?_⟩
  · rw [en] at hx ⊢
    rcases Nat.lt_succ_iff_lt_or_eq.mp hx with h | h
    · rw [ex.rt x (by rw [e0]; exact h)]
      have := c.1 x (by rw [e0]; exact h)
      rw [e0] at this
      omega
    · subst h
      rw [root_LL (by rw [Sto.n_mk]; omega) Sto.root_new hf h1]
      omega
  · rw [en] at hx ⊢
    rcases Nat.lt_succ_iff_lt_or_eq.mp hx with h | h
    · rw [ex.pt x (by rw [e0]; exact h)] at hy
      have := c.2 x (by rw [e0]; exact h) y hy
      rw [e0] at this
      omega
    · subst h
      rw [part_LL, (new_kind ev kd [a, b]).2] at hy
      rcases List.mem_cons.mp hy with rfl | hy
      · omega
      · rcases List.mem_cons.mp hy with rfl | hy
        · omega
        · cases hy
theorem cx0 {k n : Nat} (q : CkC k n) : CX9 k n [] := by
  have e1 : plS k n [] = shR k n := rfl
  have e2 : plT k n [] = k + 1 := rfl
  refine ⟨q.ev, Ext.refl _, q.cC, q.kR, q.w1, fun acc => ?_, q.ri⟩
  show sprF 1 (shC k n) ((shC k n).root (k + 1)) acc = some (shB k n, acc)
  unfold sprF
  rw [if_neg q.np, q.rB]
theorem cxS {k n : Nat} (q : CkC k n) {xs : List Nat} {p : Nat} (hp : p < n) (c : CX9 k n xs) : CX9 k n (xs ++ [p]) := by
  have eS : plS k n (xs ++ [p]) = (plS k n xs).mk' "push" [plT k n xs, k + 2 + p] := by
    show ((shR k n).pile (k + 1) ((xs ++ [p]).map (k + 2 + ·))).1 = _
    rw [List.map_append, List.map_cons, List.map_nil, pile_snoc]
  have eT : plT k n (xs ++ [p]) = (plS k n xs).n := by
    show ((shR k n).pile (k + 1) ((xs ++ [p]).map (k + 2 + ·))).2 = _
    rw [List.map_append, List.map_cons, List.map_nil, pile_snoc]
  obtain ⟨l1, l2, l3, l4, l5⟩ := q.lt p hp
  have hge := c.ex.le
  have fS : shF k n < (plS k n xs).n := Nat.lt_of_lt_of_le q.fR hge
  have oS : 1 < (plS k n xs).n := Nat.lt_of_lt_of_le q.oR hge
  have pS : k + 2 + p < (plS k n xs).n := Nat.lt_of_lt_of_le l3 hge
  have ex1 := ext_mk c.ev "push" [plT k n xs, k + 2 + p]
  have exL := ext_LL ex1 k n
  have exR := ext_LL (c.ex.trans ex1) k n
  have e0 : (LL k n (plS k n xs)).n = (plS k n xs).n := n_LL _ _ _
  have eR : (LL k n (shR k n)).n = (shR k n).n := n_LL _ _ _
  obtain ⟨k1, k2⟩ := new_kind c.ev "push" [plT k n xs, k + 2 + p]
  rw [← kind_LL _ _ k n] at k1
  rw [← part_LL _ _ k n] at k2
  have rN : (LL k n ((plS k n xs).mk' "push" [plT k n xs, k + 2 + p])).root (plS k n xs).n = (plS k n xs).n := root_LL (by rw [Sto.n_mk]; omega) Sto.root_new fS oS
  have rt := exL.rt (plT k n xs) (by rw [e0]; exact c.tl)
  have rx : (LL k n ((plS k n xs).mk' "push" [plT k n xs, k + 2 + p])).root (k + 2 + p) = k + 2 + p := (exR.rt (k + 2 + p) (by rw [eR]; exact l3)).trans l1
  have kx : (LL k n ((plS k n xs).mk' "push" [plT k n xs, k + 2 + p])).kind (k + 2 + p) = kV9 := (exR.kd (k + 2 + p) (by rw [eR]; exact l3)).trans l2
  have rtl : (LL k n (plS k n xs)).root (plT k n xs) < (LL k n (plS k n xs)).n := c.cl.1 _ (by rw [e0]; exact c.tl)
  refine ⟨?_, ?_, ?_, ?_, ?_, fun acc => ?_, ?_⟩
  · rw [eS]
    exact c.ev.mk' _ _
  · rw [eS]
    exact c.ex.trans ex1
  · rw [eS]
    exact clo_mk c.ev c.cl c.tl pS fS oS
  · rw [eS, eT, Sto.n_mk]
    omega
  · rw [eS, eT, letP_snoc]
    have w1 : wrP (4 * xs.length + 4) (LL k n ((plS k n xs).mk' "push" [plT k n xs, k + 2 + p])) (nsE k n) (vsE k n) [.inr ((LL k n (plS k n xs)).root (plT k n xs))] = some (nsE k n, vsE k n, sName k :: letP xs) := by
      rw [wrP_ext exL c.cl _ (fun y hy => by cases List.mem_singleton.mp hy; exact rtl), wrP_root c.ri]
      exact c.wr
    have w2 : wrP 3 (LL k n ((plS k n xs).mk' "push" [plT k n xs, k + 2 + p])) (nsE k n) (vsE k n) [.inl " ", .inr (k + 2 + p)] = some (nsE k n, vsE k n, [(" " : Str), nameT "a" p]) := by
      refine wrP_inl (wrP_inr (by rw [rx]; exact pcs_val kx) q.ln (by rw [l5]; exact q.lv) ?_)
      rw [l5, l4]
      exact wrP_inl wrP_nil
    have w3 := wrP_app _ w1 w2
    rw [List.length_append]
    refine wrP_inr (m := 4 * xs.length + 4 + 3) (by rw [rN]; exact pcs_push k1 k2) q.ln q.lv ?_
    rw [rt, rx]
    exact w3
  · rw [eS, eT, rN, List.length_append]
    show sprF (xs.length + 1 + 1) _ _ _ = _
    unfold sprF
    rw [if_pos k1, k2]
    dsimp only
    rw [rt, rx, sprF_ext exL c.cl _ rtl, c.sp, List.map_append, List.append_assoc]
    rfl
  · rw [eS, eT, rN, rN]
theorem cx_all {k n : Nat} (q : CkC k n) : ∀ (ys : List Nat), (∀ p ∈ ys, p < n) → CX9 k n ys.reverse
  | [], _ => cx0 q
  | y :: ys, h => by
    rw [List.reverse_cons]
    exact cxS q (h y List.mem_cons_self) (cx_all q ys fun p hp => h p (List.mem_cons_of_mem _ hp))
theorem cx_of {k n : Nat} (q : CkC k n) {ps : List Nat} (h : ∀ p ∈ ps, p < n) : CX9 k n ps := by
  have := cx_all q ps.reverse fun p hp => h p (List.mem_reverse.mp hp)
  rw [List.reverse_reverse] at this
  exact this
end SQ9
namespace SQ9
open PySem L2 SQ
/-! ### texts put together -/
def catS : List Str → Str
  | [] => ""
  | x :: xs => x ++ catS xs
theorem jn_none9 : ∀ l : List (List Nat), jn [] l = l.flatten
  | [] => rfl
  | [x] => by simp [jn]
  | x :: y :: r => by
    show x ++ ([] ++ jn [] (y :: r)) = _
    rw [jn_none9 (y :: r), List.nil_append]
    rfl
theorem emp_tl : ("" : Str).cps.toList = [] := by decide +kernel
theorem catS_tl : ∀ l : List Str, (catS l).cps.toList = (l.map fun x => x.cps.toList).flatten
  | [] => emp_tl
  | x :: l => by
    show (x ++ catS l).cps.toList = _
    rw [str_app, catS_tl l]
    rfl
theorem join_cat (l : List Str) : Txt.join "" l = catS l := by
  apply str_ext
  rw [TL.join_eq, tl_join, emp_tl, jn_none9, catS_tl]
def letT (ps : List Nat) : Str := catS (letP ps)
def shuT (n : Nat) (ps : List Nat) : Str := "s0" ++ letT (List.range n) ++ " -> s0" ++ letT ps
def shuQ (n : Nat) (ps : List Nat) : Str := "s0 -> s0 [s1" ++ letT (List.range n) ++ " -> s1" ++ letT ps ++ "]"
theorem letP_len : ∀ (ps : List Nat), (∀ p ∈ ps, p ≤ 1000) → ((letP ps).map (·.length)).sum ≤ 6 * ps.length
  | [], _ => by decide
  | p :: ps, h => by
    have h1 := letP_len ps fun q hq => h q (List.mem_cons_of_mem _ hq)
    have h2 := name_len (l := "a") (h p List.mem_cons_self)
    have e1 : ("a" : Str).length = 1 := by decide +kernel
    have e2 : (" " : Str).length = 1 := by decide +kernel
    show (((" " : Str) :: nameT "a" p :: letP ps).map (·.length)).sum ≤ _
    rw [List.map_cons, List.map_cons, List.sum_cons, List.sum_cons, List.length_cons]
    omega
theorem sprF_mono : ∀ (m : Nat) {S : Sto} {x : Nat} {acc : List Nat} {r : Nat × List Nat}, sprF m S x acc = some r → sprF (m + 1) S x acc = some r
  | 0, S, x, acc, r, h => by cases h
  | m + 1, S, x, acc, r, h => by
    have h' : (if S.kind x = "push" then (match S.part x with | [a, b] => sprF m S (S.root a) (S.root b :: acc) | _ => none) else some (x, acc)) = some r := h
    show (if S.kind x = "push" then (match S.part x with | [a, b] => sprF (m + 1) S (S.root a) (S.root b :: acc) | _ => none) else some (x, acc)) = some r
    split
    · rename_i hk
      rw [if_pos hk] at h'
      match hq : S.part x with
      | [a, b] =>
        rw [hq] at h'
        exact sprF_mono m h'
      | [] =>
        rw [hq] at h'
        cases h'
      | [_] =>
        rw [hq] at h'
        cases h'
      | _ :: _ :: _ :: _ =>
        rw [hq] at h'
        cases h'
    · rename_i hk
      rw [if_neg hk] at h'
      exact h'
theorem sprF_le {m k : Nat} (hk : m ≤ k) {S : Sto} {x : Nat} {acc : List Nat} {r : Nat × List Nat} (h : sprF m S x acc = some r) : sprF k S x acc = some r := by
  obtain ⟨j, rfl⟩ := Nat.le.dest hk
  clear hk
  induction j with
  | zero => exact h
  | succ j ih => exact sprF_mono (m + j) ih
/-! ### unify, in the larger store -/
theorem uni_ext {k n : Nat} (q : CkC k n) {B : Sto} (ex : Ext (shR k n) B) : uni1 B k (shT k n) = some (B.link (shF k n) (shG k n)) := by
  have hk : k < (shR k n).n := Nat.lt_of_succ_lt q.kR
  have e1 : B.root k = k := (ex.rt k hk).trans q.rk
  have e2 : B.root (shT k n) = shT k n := (ex.rt _ q.tR).trans q.rT
  have v1 : B.isVar (shT k n) = decide (n = 0) := by
    rw [← q.vT]
    unfold Sto.isVar
    rw [ex.kd _ q.tR]
  have v2 : B.isVar k = true := by
    rw [← q.vk]
    unfold Sto.isVar
    rw [ex.kd _ hk]
  unfold uni1
  rw [e1, e2, if_neg q.ne, v1]
  by_cases h0 : n = 0
  · subst h0
    rw [if_pos (by decide)]
    rfl
  · rw [if_neg (by simp [h0]), if_pos v2]
    unfold shF shG
    rw [if_neg h0, if_neg h0]
theorem join_ext {k n : Nat} (q : CkC k n) {B : Sto} (ex : Ext (shR k n) B) (t : Nat) : join1 1000 (B, shT k n, t) k = some (B.link (shF k n) (shG k n), t) := by
  unfold join1
  dsimp only
  rw [uni_ext q ex]
  dsimp only
  rw [if_pos]
  rw [ext_fin (ext_link ex) q.cA 1000 [] [k] (fun y hy => by
    rw [List.mem_singleton.mp hy]
    show k < ((shR k n).link _ _).n
    rw [Sto.n_link]
    exact Nat.lt_of_succ_lt q.kR)]
  exact q.fi
theorem kvq : ¬ (kV9 = kQ) := by decide +kernel
theorem told_shu (t : Str) {n : Nat} {ps : List Nat} (hn : n ≤ 5) (h8 : ps.length ≤ 8) (hp : ∀ p ∈ ps, p < n) : Told (one9 (.shu t n ps)) (shuT n ps) n ps.length true := by
  have q := ckC (k := 0) (.inl rfl) hn
  have c := cx_of q hp
  have exL := ext_LL c.ex 0 n
  have eR : (LL 0 n (shR 0 n)).n = (shR 0 n).n := n_LL _ _ _
  have eZ : (LL 0 n (plS 0 n ps)).n = (plS 0 n ps).n := n_LL _ _ _
  have k0 : 0 < (shC 0 n).n := by
    show 0 < (LL 0 n (shR 0 n)).n
    rw [eR]
    have := q.kR
    omega
  have e1 : effW (Sto.nil.mk' kS []) (.shu t n ps) = (plS 0 n ps, shT 0 n, plT 0 n ps) := rfl
  have eE : effR Sto.nil (one9 (.shu t n ps)) = some (LL 0 n (plS 0 n ps), 0, plT 0 n ps) := by
    show (match join1 1000 (effW (Sto.nil.mk' kS []) (.shu t n ps)) 0 with | none => none | some (S2, g) => effL S2 0 g .nil) = _
    rw [e1, join_ext q c.ex]
    rfl
  have w0 : wrP 100 (LL 0 n (plS 0 n ps)) [] [] [.inr 0] = some (nsE 0 n, vsE 0 n, ("s0" : Str) :: letP (List.range n)) := by
    rw [wrP_ext exL q.cC _ (fun y hy => by cases List.mem_singleton.mp hy; exact k0)]
    exact q.wr
  have w1 := wrP_app _ w0 (wrP_app 1 (wrP_inl (t := " -> ") (m := 0) wrP_nil) c.wr)
  have w2 := wrP_le (k := 999) (by omega) w1
  have b1 := letP_len (List.range n) fun p hp => by have := List.mem_range.mp hp; omega
  have b2 := letP_len ps fun p h => by have := hp p h; omega
  rw [List.length_range] at b1
  have e2 : ("s0" : Str).length = 2 := by decide +kernel
  have e4 : (" -> " : Str).length = 4 := by decide +kernel
  have w3 := wrP_wr 999 (wr := []) (len := 0) w2 (by
    simp only [List.map_append, List.map_cons, List.map_nil, List.sum_append, List.sum_cons, List.sum_nil]
    show 0 + (("s0" : Str).length + _ + ((" -> " : Str).length + 0 + ((sName 0).length + _))) ≤ 2000
    have e3 : (sName 0).length = 2 := e2
    rw [e2, e3, e4]
    omega)
  have mem1 : ∀ x ∈ vsE 0 n ++ ps.map (0 + 2 + ·), ∃ p, p < n ∧ x = 0 + 2 + p := fun x hx => by
    rcases List.mem_append.mp hx with h | h
    · obtain ⟨h1, h2⟩ := List.mem_range'_1.mp h
      exact ⟨x - 2, by omega, by omega⟩
    · obtain ⟨p, h1, rfl⟩ := List.mem_map.mp h
      exact ⟨p, hp p h1, rfl⟩
  refine ⟨⟨⟨hn, h8, hp⟩, trivial⟩, Nat.zero_le _, by show 1 ≤ 200; decide, _, _, _, _, shB 0 n, shB 0 n, vsE 0 n, _, eE, w3, ?_, ?_, sprF_le (by omega) (c.sp []), List.length_range', ?_, ?_, fun x hx => ?_, ?_⟩
  · rw [List.nil_append, join_cat]
    apply str_ext
    unfold shuT letT
    simp only [str_app, catS_tl, List.map_append, List.map_cons, List.map_nil, List.flatten_append, List.flatten_cons, List.flatten_nil, List.append_nil, List.append_assoc, List.cons_append, List.nil_append]
    rfl
  · rw [exL.rt 0 k0]
    exact (sprF_ext exL q.cC _ (q.cC.1 0 k0)).trans (sprF_le (by decide) q.sp)
  · rw [List.append_nil, List.length_map]
  · unfold foB
    rw [List.append_nil, decide_eq_true rfl, Bool.true_and, List.all_eq_true]
    intro x hx
    obtain ⟨p, hpn, rfl⟩ := mem1 x hx
    obtain ⟨l1, l2, l3, _, _⟩ := q.lt p hpn
    rw [exL.rt _ (by rw [eR]; exact l3), show (LL 0 n (shR 0 n)).root (0 + 2 + p) = 0 + 2 + p from l1, exL.kd _ (by rw [eR]; exact l3), show (LL 0 n (shR 0 n)).kind (0 + 2 + p) = kV9 from l2, decide_eq_false kvq]
    rfl
  · rw [List.append_nil] at hx
    obtain ⟨p, hpn, rfl⟩ := mem1 x hx
    rw [eZ]
    exact Nat.lt_of_lt_of_le (q.lt p hpn).2.2.1 c.ex.le
  · rw [List.append_nil, List.length_map]
    show (List.range' _ n).length + _ ≤ 900
    rw [List.length_range']
    omega
theorem toldq_shu (qt t : Str) {n : Nat} {ps : List Nat} (hn : n ≤ 5) (h8 : ps.length ≤ 8) (hp : ∀ p ∈ ps, p < n) : Told (quo9 qt (one9 (.shu t n ps))) (shuQ n ps) 0 1 false := by
  have q := ckC (k := 2) (.inr rfl) hn
  have c := cx_of q hp
  rcases q.two with h | ⟨a0, a1, a2, a3, fi, r0, r1, kd0⟩
  · cases h
  have eR : (LL 2 n (shR 2 n)).n = (shR 2 n).n := n_LL _ _ _
  have eZ : (LL 2 n (plS 2 n ps)).n = (plS 2 n ps).n := n_LL _ _ _
  have hk3 := q.kR
  obtain ⟨cev, cex, ccl, ctl, cwr, csp, cri⟩ := c
  clear csp
  have hle := cex.le
  have htl := ctl
  -- the stores
  generalize hS : plS 2 n ps = S at *
  generalize hT : plT 2 n ps = T at *
  have e1 : effW (((Sto.nil.mk' kS []).mk' kS []).mk' kS []) (.shu t n ps) = (S, shT 2 n, T) := by
    rw [← hS, ← hT]
    rfl
  let B := S.link (shF 2 n) (shG 2 n)
  have nB : B.n = S.n := Sto.n_link
  have evB : Even B := by
    obtain ⟨x1, x2⟩ := cev
    exact ⟨x1.trans nB.symm, x2.trans nB.symm⟩
  let Y := (B.mk' kQ [2, T]).mk' "push" [1, B.n]
  have evY1 := evB.mk' kQ [2, T]
  have exB : Ext B Y := (ext_mk evB _ _).trans (ext_mk evY1 _ _)
  have exA : Ext (shA 2 n) B := ext_link cex
  have nA : (shA 2 n).n = (shR 2 n).n := Sto.n_link
  have nY1 : (B.mk' kQ [2, T]).n = S.n + 1 := by rw [Sto.n_mk, nB]
  have nY : Y.n = S.n + 2 := by
    show ((B.mk' kQ [2, T]).mk' _ _).n = _
    rw [Sto.n_mk, nY1]
  have y0 : Y.root 0 = 0 := ((exA.trans exB).rt 0 (by rw [nA]; omega)).trans a0
  have y1 : Y.root 1 = 1 := ((exA.trans exB).rt 1 (by rw [nA]; omega)).trans a1
  have ky1 : Y.kind 1 = kS := ((exA.trans exB).kd 1 (by rw [nA]; omega)).trans a3
  let Z := Y.link 1 0
  have nZ : Z.n = S.n + 2 := Sto.n_link.trans nY
  have exZ : Ext (LL 2 n S) Z := ext_link exB
  have exC : Ext (shC 2 n) Z := (ext_LL cex 2 n).trans exZ
  have nC : (shC 2 n).n = (shR 2 n).n := eR
  have c0 : 0 < (shC 2 n).n := by rw [nC]; omega
  have c1 : 1 < (shC 2 n).n := by rw [nC]; omega
  have c2 : 2 < (shC 2 n).n := by rw [nC]; omega
  have eu : uni1 Y 0 1 = some Z := by
    unfold uni1
    rw [y0, y1, if_neg (by decide)]
    have : Y.isVar 1 = true := by
      unfold Sto.isVar
      rw [ky1]
      decide +kernel
    rw [if_pos this]
  have ej : join1 1000 (effQ 1 B 2 T) 0 = some (Z, B.n + 1) := by
    have : effQ 1 B 2 T = (Y, 1, B.n + 1) := by
      show (Y, 1, (B.mk' kQ [2, T]).n) = _
      rw [Sto.n_mk]
    rw [this]
    unfold join1
    dsimp only
    rw [eu]
    dsimp only
    rw [if_pos]
    rw [ext_fin exC q.cC 1000 [] [0] (fun y hy => by rw [List.mem_singleton.mp hy]; exact c0)]
    exact fi
  have eE : effR Sto.nil (quo9 qt (one9 (.shu t n ps))) = some (Z, 0, B.n + 1) := by
    show (match effL (((Sto.nil.mk' kS []).mk' kS []).mk' kS []) 2 2 (one9 (.shu t n ps)) with | none => none | some (S1, il, ir) => match join1 1000 (effQ 1 S1 il ir) 0 with | none => none | some (S2, g) => effL S2 0 g .nil) = _
    have : effL (((Sto.nil.mk' kS []).mk' kS []).mk' kS []) 2 2 (one9 (.shu t n ps)) = some (B, 2, T) := by
      show (match join1 1000 (effW (((Sto.nil.mk' kS []).mk' kS []).mk' kS []) (.shu t n ps)) 2 with | none => none | some (S2, g) => effL S2 2 g .nil) = _
      rw [e1, join_ext q cex]
      rfl
    rw [this]
    dsimp only
    rw [ej]
    rfl
  -- what stands where
  have z0 : Z.root 0 = 0 := (exC.rt 0 c0).trans r0
  have z1 : Z.root 1 = 0 := (exC.rt 1 c1).trans r1
  have kz0 : Z.kind 0 = kS := (exC.kd 0 c0).trans kd0
  have rq : Z.root B.n = B.n := by
    show (Y.link 1 0).root B.n = B.n
    rw [Sto.root_link (by rw [nY, nB]; omega)]
    have : Y.root B.n = B.n := by
      show ((B.mk' kQ [2, T]).mk' "push" [1, B.n]).root B.n = B.n
      rw [Sto.root_app (by rw [nY1, nB]; omega)]
      exact Sto.root_new
    rw [this, if_neg (by rw [nB]; omega)]
  have kq : Z.kind B.n = kQ ∧ Z.part B.n = [2, T] := by
    have e := ext_mk evY1 "push" [1, B.n]
    have hlt : B.n < (B.mk' kQ [2, T]).n := by rw [nY1, nB]; omega
    exact ⟨(e.kd _ hlt).trans (new_kind evB kQ [2, T]).1, (e.pt _ hlt).trans (new_kind evB kQ [2, T]).2⟩
  have rp : Z.root (B.n + 1) = B.n + 1 := by
    show (Y.link 1 0).root (B.n + 1) = B.n + 1
    rw [Sto.root_link (by rw [nY, nB]; omega)]
    have : Y.root (B.n + 1) = B.n + 1 := by
      have e : (B.mk' kQ [2, T]).n = B.n + 1 := Sto.n_mk
      rw [← e]
      exact Sto.root_new
    rw [this, if_neg (by rw [nB]; omega)]
  have kp : Z.kind (B.n + 1) = "push" ∧ Z.part (B.n + 1) = [1, B.n] := by
    have e : (B.mk' kQ [2, T]).n = B.n + 1 := Sto.n_mk
    rw [← e]
    exact new_kind evY1 "push" [1, B.n]
  have tC : T < (LL 2 n S).n := by rw [eZ]; exact htl
  have rTl : (LL 2 n S).root T < (LL 2 n S).n := ccl.1 _ tC
  -- writing
  have w0 : wrP 2 Z [] [] [.inr 0] = some ([0], [], [("s0" : Str)]) := by
    refine wrP_inr (by rw [z0]; exact pcs_stk kz0) (by decide) (by decide) ?_
    exact wrP_inl (t := nameT "s" (idxV [] 0)) (m := 0) (rest := []) (ts := []) (n1 := [0]) (v1 := []) wrP_nil
  have w0' : wrP 2 Z [0] [] [.inr 0] = some ([0], [], [("s0" : Str)]) := by
    refine wrP_inr (by rw [z0]; exact pcs_stk kz0) (by decide) (by decide) ?_
    exact wrP_inl (t := nameT "s" (idxV [0] 0)) (m := 0) (rest := []) (ts := []) (n1 := [0]) (v1 := []) wrP_nil
  have wl : wrP 100 Z [0] [] [.inr (Z.root 2)] = some (nsE 2 n, vsE 2 n, ("s1" : Str) :: letP (List.range n)) := by
    rw [exC.rt 2 c2, wrP_ext exC q.cC _ (fun y hy => by cases List.mem_singleton.mp hy; exact q.cC.1 2 c2), wrP_root q.rj]
    exact q.wr
  have wg : wrP (4 * ps.length + 4) Z (nsE 2 n) (vsE 2 n) [.inr (Z.root T)] = some (nsE 2 n, vsE 2 n, ("s1" : Str) :: letP ps) := by
    rw [exZ.rt T tC, wrP_ext exZ ccl _ (fun y hy => by cases List.mem_singleton.mp hy; exact rTl)]
    rw [wrP_root cri]
    exact cwr
  have i1 : ∀ (ns vs : List Nat) (y : Str), wrP 1 Z ns vs [.inl y] = some (ns, vs, [y]) := fun ns vs y => wrP_inl (m := 0) wrP_nil
  have wq := wrP_app 1 (i1 [0] [] "[") (wrP_app 100 wl (wrP_app 1 (i1 _ _ " -> ") (wrP_app _ wg (i1 _ _ "]"))))
  have wq2 : wrP _ Z [0] [] [.inr B.n] = some _ := wrP_inr (rest := []) (by rw [rq]; exact pcs_quo kq.1 kq.2) (by decide) (by decide) wq
  have wt := wrP_app 2 w0' (wrP_app 1 (i1 [0] [] " ") wq2)
  have wt2 : wrP _ Z [0] [] [.inr (B.n + 1)] = some _ := wrP_inr (rest := []) (by rw [rp]; exact pcs_push kp.1 kp.2) (by decide) (by decide) (by rw [z1, rq]; exact wt)
  have w1 := wrP_app 2 w0 (wrP_app 1 (i1 [0] [] " -> ") wt2)
  have w2 := wrP_le (k := 999) (by omega) w1
  have b1 := letP_len (List.range n) fun p hp => by have := List.mem_range.mp hp; omega
  have b2 := letP_len ps fun p h => by have := hp p h; omega
  rw [List.length_range] at b1
  have l2 : ("s0" : Str).length = 2 := by decide +kernel
  have l2' : ("s1" : Str).length = 2 := by decide +kernel
  have l4 : (" -> " : Str).length = 4 := by decide +kernel
  have l1 : (" " : Str).length = 1 := by decide +kernel
  have l5 : ("[" : Str).length = 1 := by decide +kernel
  have l6 : ("]" : Str).length = 1 := by decide +kernel
  have w3 := wrP_wr 999 (wr := []) (len := 0) w2 (by
    simp only [List.map_append, List.map_cons, List.map_nil, List.sum_append, List.sum_cons, List.sum_nil, l2, l2', l4, l1, l5, l6]
    omega)
  have s1 : sprF 1000 Z (Z.root 0) [] = some (0, []) := by
    rw [z0]
    unfold sprF
    rw [kz0, if_neg (by decide +kernel)]
  have s2 : sprF 1000 Z (Z.root (B.n + 1)) [] = some (0, [B.n]) := by
    rw [rp]
    unfold sprF
    rw [kp.1, if_pos rfl, kp.2]
    dsimp only
    rw [z1, rq]
    unfold sprF
    rw [kz0, if_neg (by decide +kernel)]
  refine ⟨⟨⟨⟨hn, h8, hp⟩, trivial⟩, trivial⟩, by show 1 ≤ 2; decide, by show 2 ≤ 200; decide, _, _, _, _, _, _, _, _, eE, w3, ?_, s1, s2, rfl, rfl, ?_, fun x hx => ?_, by show 1 ≤ 900; decide⟩
  · rw [List.nil_append, join_cat]
    apply str_ext
    unfold shuQ letT
    simp only [str_app, catS_tl, List.map_append, List.map_cons, List.map_nil, List.flatten_append, List.flatten_cons, List.flatten_nil, List.append_nil, List.append_assoc, List.cons_append, List.nil_append]
    rfl
  · unfold foB
    show (decide (0 = 0) && ([B.n].all fun x => !decide (Z.kind (Z.root x) = kQ))) = false
    rw [List.all_cons, rq, kq.1]
    rfl
  · rw [List.nil_append] at hx
    rw [List.mem_singleton.mp hx, nZ, nB]
    omega
end SQ9
namespace SQ9
open PySem L2 SQ
abbrev sLe : Stmt := top 95
/-! ### drawn letters -/
structure Low (x : Str) : Prop where
  ne : x.cps.toList ≠ []
  len : x.length ≤ 8
  abc : ∀ c ∈ x.cps.toList, c ∈ letters
abbrev abc : Str := "abcdefghijklmnopqrstuvwxyz"
theorem abc_tl : abc.cps.toList = letters := by decide +kernel
theorem abc_len : letters.length = 26 := by decide
theorem abc_at {d : Int} (h0 : 0 ≤ d) (h1 : d < 26) : ∃ c, c ∈ letters ∧ atI abc.cps.toList d = some c := by
  rw [abc_tl]
  have hl : d.toNat < letters.length := by rw [abc_len]; omega
  refine ⟨letters[d.toNat], List.getElem_mem hl, ?_⟩
  have e : ((d.toNat : Nat) : Int) = d := by omega
  have h := atI_nat (List.getElem?_eq_getElem hl)
  rw [e] at h
  exact h
theorem signs_cat : ∀ cs : List Nat, (catS (cs.map fun c => (⟨#[c]⟩ : Str))).cps.toList = cs
  | [] => emp_tl
  | c :: cs => by
    show ((⟨#[c]⟩ : Str) ++ catS _).cps.toList = _
    rw [str_app, signs_cat cs]
    rfl
theorem signs_join (cs : List Nat) : (Txt.join "" (cs.map fun c => (⟨#[c]⟩ : Str))).cps.toList = cs := by rw [join_cat, signs_cat]
theorem sum_ones (cs : List Nat) : ((cs.map fun c => (⟨#[c]⟩ : Str)).map (·.length)).sum = cs.length := by
  induction cs with
  | nil => rfl
  | cons c cs ih =>
    rw [List.map_cons, List.map_cons, List.sum_cons, ih, List.length_cons]
    show 1 + _ = _
    omega
theorem urn_same {u : Addr} {H H' : Hp} (s : Same H H') (h : urnAt H u) : urnAt H' u := by
  obtain ⟨x, y, z, e⟩ := h
  exact ⟨x, y, z, s _ _ e⟩
theorem urn_ne {u p : Addr} {H : Hp} (h : urnAt H u) (n : H p = none) : u ≠ p := by
  obtain ⟨x, y, z, e⟩ := h
  exact ne_of_none e n
section
variable {P : Program} {w : World} {K : PySem.W.Frag} {mg : Str → Option Value} {base : Heap}
def spLe : Sp := fun vs H Q _ => ∃ u : Addr, vs = [.ref u, .int 1, .int 8] ∧ urnAt H u ∧ ∀ (x : Str) (H' : Hp), Low x → But u H H' → urnAt H' u → Q (.str x) H'
abbrev nLe : List Str := ["_law_purse_here", "_law_least", "_law_most", "_law_many", "_law_turn"]
theorem scLe : FnScope nLe ["_law_purse_here", "_law_least", "_law_most"] (defScope sLe) := ⟨rfl, rfl, rfl, by decide +kernel, rfl, by decide +kernel, by decide +kernel⟩
theorem ok_le {f fD : Addr} {fd dD : FuncData} (F : Fun K "_law_letters" "_law_letters" sLe f fd) (BL : Blt mg) (D : Drw K mg fD dD) : FnOk P w K mg base CX0 2 f fd ["_law_purse_here", "_law_least", "_law_most"] spLe := by
  have GD : FnOk P w K mg base CX0 1 fD dD ["_law_purse_here", "_law_many"] spDrw := ok_drw D.F BL
  refine F.ok scLe (fun vs H Q E h => ?_) (fun cdv A outer s H vs Q E hr h => ?_)
  · obtain ⟨u, rfl, _⟩ := h
    rfl
  · obtain ⟨u, rfl, hu, q⟩ := h
    refine ⟨_, pss_cons (ps_set (i := 3) scLe.nd rfl (.inl rfl) (pe_op op_add (pv 1) (pe_call GD hr rfl D.g D.F.kp D.b .nil pass0 (pa_cons (pv 0) (pa_cons (pe_op op_add (pe_op op_sub (pv 2) (pv 1)) pe_int) pa_nil)))))
      (pss_one (ps_ret (pe_join pe_str (pe_lc (own := [("_law_turn", 4)]) (g := gName 4) (tt := tYes) rfl scLe.nd (pi_range1 (by rfl) BL.range (pa_cons (pv 3) pa_nil)) (blkOk_by (N := nLe) (sc := defScope sLe) (by decide +kernel)) (fun _ _ _ _ _ => pg_name (i := 4) scLe.nd rfl (.inl rfl)) (fun _ _ _ _ _ => pts_nil)
        (fun _ _ _ _ _ => pe_ix ix_str pe_str (pe_call GD hr rfl D.g D.F.kp D.b .nil pass0 (pa_cons (pv 0) (pa_cons pe_int pa_nil))) (fun _ _ => rfl)))))), ?_⟩
    refine seq_mid (fun σ G => ∃ n : Nat, 1 ≤ n ∧ n ≤ 8 ∧ σ = [some (.ref u), some (.int 1), some (.int 8), some (.int n), none] ∧ But u H G ∧ urnAt G u) (fun N hN => ?_) ?_
    · refine ⟨_, rfl, _, rfl, _, rfl, _, rfl, _, _, rfl, rfl, _, _, rfl, rfl, u, 8, rfl, hu, by decide, by decide, fun G d d0 d1 hu1 bt => ⟨_, _, rfl, rfl, hN _ _ ⟨(1 + d).toNat, by omega, by omega, ?_, bt, hu1⟩⟩⟩
      rw [show (((1 + d).toNat : Nat) : Int) = 1 + d by omega]
      rfl
    rintro _ G0 ⟨n, n1, n8, rfl, b0, u0⟩
    refine ⟨⟨_, rfl⟩, _, rfl, n, rfl, by omega, by omega, fun D hD => ?_⟩
    have hD0 : u ≠ D := urn_ne u0 hD
    refine lc_range (lo := 0) (n := n) (fun i G => But u H G ∧ urnAt G u ∧ ∃ cs : List Nat, cs.length = i ∧ (∀ c ∈ cs, c ∈ letters) ∧ G D = some (.lst ((cs.map fun c => (⟨#[c]⟩ : Str)).map V.str))) ⟨b0.new hD, urn_same (same_new (fun _ _ e => e) hD) u0, [], rfl, (fun _ z => nomatch z), upd_same⟩ ?_ ?_
    · rintro i G hi ⟨b1, u1, cs, hl, hc, hD1⟩
      refine ⟨rfl, keptT ⟨_, rfl, u, 26, rfl, u1, by decide, by decide, fun G2 d d0 d1 hu2 b2 => ?_⟩⟩
      obtain ⟨c, hcm, hat⟩ := abc_at d0 d1
      have hD2 := b2 _ _ hD1 (Ne.symm hD0)
      refine ⟨_, _, c, rfl, rfl, by decide +kernel, hat, _, hD2, ?_, ?_, ?_, cs ++ [c], ?_, ?_, ?_⟩
      · rw [List.length_map, List.length_map, hl]
        exact Nat.lt_of_lt_of_le (by omega : i < 8) (by decide)
      · intro b o e nb
        have e1 := (b1.trans b2) b o e nb
        have : b ≠ D := fun z => by
          subst z
          have := b0 b o e nb
          rw [hD] at this
          cases this
        rw [upd_ne this]
        exact e1
      · obtain ⟨x, y, z, e⟩ := hu2
        exact ⟨x, y, z, by rw [upd_ne hD0]; exact e⟩
      · rw [List.length_append, hl]
        rfl
      · intro c' h'
        rcases List.mem_append.mp h' with h' | h'
        · exact hc c' h'
        · rw [List.mem_singleton.mp h']
          exact hcm
      · rw [upd_same, List.map_append, List.map_append]
        rfl
    · rintro G ⟨b1, u1, cs, hl, hc, hD1⟩
      refine ⟨_, D, cs.map fun c => (⟨#[c]⟩ : Str), rfl, rfl, .inl (SqL.of hD1), ?_, q _ G ⟨?_, ?_, ?_⟩ b1 u1⟩
      · rw [sum_ones, List.length_map]
        have : ("" : Str).length = 0 := by decide +kernel
        rw [this]
        omega
      · rw [signs_join]
        intro z
        rw [z] at hl
        exact absurd hl.symm (by show ¬ n = 0; omega)
      · show (Txt.join "" _).cps.size ≤ 8
        rw [← Array.length_toList, signs_join]
        omega
      · rw [signs_join]
        exact hc
end
end SQ9
namespace SQ9
open PySem L2 SQ
abbrev sTg : Stmt := top 96
/-! ### different names -/
theorem len_l9 (x : Str) : x.length = x.cps.toList.length := by
  show x.cps.size = _
  rw [Array.length_toList]
theorem low_name {x : Str} (h : Low x) : nameOk x = true := by
  unfold nameOk
  have h1 : 1 ≤ x.length := by
    rw [len_l9]
    cases hx : x.cps.toList with
    | nil => exact absurd hx h.ne
    | cons a l => rw [List.length_cons]; omega
  have h2 := h.len
  simp only [Bool.and_eq_true, decide_eq_true_eq, List.all_eq_true]
  exact ⟨⟨by omega, by omega⟩, h.abc⟩
theorem low_free {x : Str} (h : Low x) (hc : x ∉ cores) : isFree (.str x) = true := by
  show (nameOk x && !decide (x ∈ cores)) = true
  rw [low_name h, decide_eq_false hc]
  rfl
theorem cut7 (x : Str) : (cutS x none (some 7)).cps.toList = x.cps.toList.take 7 := by
  show (((x.cps.toList.drop (HT.sIx x.length 0 none)).take (HT.sIx x.length x.length (some 7) - HT.sIx x.length 0 none)).toArray).toList = _
  rw [show (7 : Int) = ((7 : Nat) : Int) from rfl, HT.sIx_nat, HT.sIx_none, List.drop_zero, Nat.sub_zero, len_l9]
  show x.cps.toList.take _ = _
  rcases Nat.le_total 7 x.cps.toList.length with h | h
  · rw [Nat.min_eq_left h]
  · rw [Nat.min_eq_right h, List.take_of_length_le (Nat.le_refl _), List.take_of_length_le h]
theorem nodup_le {α : Type} [DecidableEq α] : ∀ {l m : List α}, l.Nodup → (∀ x ∈ l, x ∈ m) → l.length ≤ m.length
  | [], m, _, _ => Nat.zero_le _
  | a :: l, m, hn, hs => by
    have ha := hs a List.mem_cons_self
    rw [List.nodup_cons] at hn
    have ih := nodup_le (l := l) (m := m.erase a) hn.2 fun x hx => (List.mem_erase_of_ne (fun z => hn.1 (by rw [← z]; exact hx))).mpr (hs x (List.mem_cons_of_mem _ hx))
    rw [List.length_erase_of_mem ha] at ih
    have := List.length_pos_of_mem ha
    rw [List.length_cons]
    omega
def sg (c : Nat) : Str := ⟨#[c]⟩
theorem sg_tl (c : Nat) : (sg c).cps.toList = [c] := rfl
/-- the first letter that makes it new -/
theorem some_new {t : Str} {fs : List Str} (h : fs.length ≤ 13) : (letters.filter fun c => !decide (t ++ sg c ∈ fs)) ≠ [] := by
  intro e
  have hall : ∀ x ∈ letters.map (fun c => t ++ sg c), x ∈ fs := fun x hx => by
    obtain ⟨c, hc, rfl⟩ := List.mem_map.mp hx
    cases hd : decide (t ++ sg c ∈ fs)
    · have : c ∈ letters.filter fun c => !decide (t ++ sg c ∈ fs) := List.mem_filter.mpr ⟨hc, by rw [hd]; rfl⟩
      rw [e] at this
      cases this
    · exact of_decide_eq_true hd
  have hnd : (letters.map (fun c => t ++ sg c)).Nodup := by
    refine List.pairwise_map.mpr (List.Pairwise.imp (fun {a b} hab z => hab ?_) (show letters.Nodup by decide))
    have z2 := congrArg (fun s : Str => s.cps.toList) z
    simp only [str_app, sg_tl] at z2
    have z3 := List.append_cancel_left z2
    cases z3
    rfl
  have := nodup_le hnd hall
  rw [List.length_map, abc_len] at this
  omega
theorem low_cut {x : Str} (h : Low x) {c : Nat} (hc : c ∈ letters) : Low (cutS x none (some 7) ++ sg c) := by
  have e : (cutS x none (some 7) ++ sg c).cps.toList = x.cps.toList.take 7 ++ [c] := by rw [str_app, cut7, sg_tl]
  refine ⟨by rw [e]; simp, ?_, ?_⟩
  · rw [len_l9, e, List.length_append, List.length_take]
    show _ + 1 ≤ 8
    omega
  · rw [e]
    intro d hd
    rcases List.mem_append.mp hd with h1 | h1
    · exact h.abc d (List.mem_of_mem_take h1)
    · rw [List.mem_singleton.mp h1]
      exact hc
section
variable {P : Program} {w : World} {K : PySem.W.Frag} {mg : Str → Option Value} {base : Heap}
structure Tags (ns : List Str) : Prop where
  nd : ns.Nodup
  fr : ∀ n ∈ ns, isFree (.str n) = true
def spTg : Sp := fun vs H Q _ => ∃ (u : Addr) (m : Nat), vs = [.ref u, .int m] ∧ m ≤ 8 ∧ urnAt H u ∧ ∀ (a : Addr) (ns : List Str) (H' : Hp), Tags ns → ns.length = m → H a = none → H' a = some (.lst (ns.map V.str)) → But u H H' → urnAt H' u → Q (.ref a) H'
structure LeD (P : Program) (w : World) (K : PySem.W.Frag) (mg : Str → Option Value) (base : Heap) (fL : Addr) (dL : FuncData) : Prop where
  g : mg "_law_letters" = some (.ref fL)
  k : PySem.W.keepIn K (.ref fL) = true
  b : Binds K dL ["_law_purse_here", "_law_least", "_law_most"] []
  G : FnOk P w K mg base CX0 2 fL dL ["_law_purse_here", "_law_least", "_law_most"] spLe
abbrev nTg : List Str := ["_law_purse_here", "_law_many", "_law_found", "_law_turn", "_law_tag", "_law_sign"]
theorem scTg : FnScope nTg ["_law_purse_here", "_law_many"] (defScope sTg) := ⟨rfl, rfl, rfl, by decide +kernel, rfl, by decide +kernel, by decide +kernel⟩
theorem flat_strs (l : List Str) : (l.map V.str).all flatV = true := by
  rw [List.all_eq_true]
  intro v hv
  obtain ⟨x, _, rfl⟩ := List.mem_map.mp hv
  rfl
theorem ok_tg {f fL : Addr} {fd dL : FuncData} (F : Fun K "_law_tags" "_law_tags" sTg f fd) (BL : Blt mg) (L : LeD P w K mg base fL dL) : FnOk P w K mg base CX0 3 f fd ["_law_purse_here", "_law_many"] spTg := by
  refine F.ok scTg (fun vs H Q E h => ?_) (fun cdv A outer s H vs Q E hr h => ?_)
  · obtain ⟨u, m, rfl, _⟩ := h
    rfl
  · obtain ⟨u, m, rfl, hm, hu, q⟩ := h
    refine ⟨_, pss_cons (ps_set (i := 2) scTg.nd rfl (.inr rfl) (pe_lst (pa_cons pe_str (pa_cons pe_str (pa_cons pe_str (pa_cons pe_str (pa_cons pe_str pa_nil)))))))
      (pss_cons (ps_for PassesOwn.never rfl (pi_range1 (by rfl) BL.range (pa_cons (pv 1) pa_nil)) (pg_name (i := 3) scTg.nd rfl (.inl rfl))
        (pss_cons (ps_set (i := 4) scTg.nd rfl (.inr rfl) (pe_call L.G hr rfl L.g L.k L.b .nil pass0 (pa_cons (pv 0) (pa_cons pe_int (pa_cons pe_int pa_nil)))))
        (pss_cons (ps_if (pt_cmpR op_in_seq (pv 4) (pv 2) (by rfl))
          (pss_cons (ps_set (i := 4) scTg.nd rfl (.inr rfl) (pe_slice sl_str (pv 4) po_none (po_some pe_int)))
          (pss_one (ps_set (i := 4) scTg.nd rfl (.inr rfl) (pe_ix ix_list (pe_lc (own := [("_law_sign", 5)]) (g := gName 5) (tt := tTest (tOp (rIn K true) (tOp (fun x y H Q => ∃ i j, x = .str i ∧ y = .str j ∧ i.length + j.length ≤ sizeLine ∧ Q (.str (i ++ j)) H) (tVar 4) (tVar 5)) (tVar 2))) rfl scTg.nd (pi_str pe_str) (blkOk_by (N := nTg) (sc := defScope sTg) (by decide +kernel)) (fun _ _ _ _ _ => pg_name (i := 5) scTg.nd rfl (.inl rfl)) (fun _ _ _ _ _ => pts_one (pt_cmpR op_notIn_seq (pe_op op_add_str (pv 4) (pv 5)) (pv 2) (by rfl))) (fun _ _ _ _ _ => pe_op op_add_str (pv 4) (pv 5))) pe_int (fun _ _ => rfl)))))
          pss_nil)
        (pss_one (ps_expr (pe_bm PySem.F.plainAttrs_list PySem.F.slot_list_append PySem.F.type_list_append mt_append (pv 2) (pa_cons (pv 4) pa_nil)))))))
      (pss_one (ps_ret (pe_slice sl_list (pv 2) (po_some pe_int) po_none)))), ?_⟩
    have big : ∀ {k : Nat}, k ≤ 1000 → k < sizeLine := fun h => Nat.lt_of_le_of_lt h (by decide)
    refine seq_mid (fun σ G => ∃ a, σ = [some (.ref u), some (.int m), some (.ref a), none, none, none] ∧ But u H G ∧ urnAt G u ∧ H a = none ∧ G a = some (.lst ((cores ++ []).map V.str))) (fun N hN => ?_) ?_
    · refine ⟨(by show 5 ≤ sizeLine; decide), fun a na => hN _ _ ⟨a, rfl, But.refl.new na, urn_same (same_new (fun _ _ e => e) na) hu, na, upd_same⟩⟩
    rintro _ G0 ⟨a, rfl, b0, u0, na, ha0⟩
    have nau : a ≠ u := fun z => by
      subst z
      obtain ⟨x, y, z, e⟩ := hu
      rw [na] at e
      cases e
    refine seq_mid (fun σ G => ∃ ns v3 v4, σ = [some (.ref u), some (.int m), some (.ref a), v3, v4, none] ∧ Tags ns ∧ ns.length = m ∧ But u H G ∧ urnAt G u ∧ G a = some (.lst ((cores ++ ns).map V.str))) (fun N hN => ?_) ?_
    · refine ⟨_, rfl, m, rfl, by omega, by omega, for_range (lo := 0) (n := m) (fun i σ G => ∃ ns v3 v4, σ = [some (.ref u), some (.int m), some (.ref a), v3, v4, none] ∧ Tags ns ∧ ns.length = i ∧ But u H G ∧ urnAt G u ∧ G a = some (.lst ((cores ++ ns).map V.str))) ⟨[], none, none, rfl, ⟨List.nodup_nil, fun _ z => nomatch z⟩, rfl, b0, u0, ha0⟩ ?_ (fun σ G h => hN _ _ h)⟩
      rintro i σ G hi ⟨ns, v3, v4, rfl, hT, hl, bG, uG, haG⟩
      refine seq_mid (fun σ G1 => ∃ x, Low x ∧ σ = [some (.ref u), some (.int m), some (.ref a), some (.int (0 + i)), some (.str x), none] ∧ But u G G1 ∧ urnAt G1 u) (fun N2 hN2 => ?_) ?_
      · exact ⟨_, rfl, u, rfl, uG, fun x G1 lo b1 u1 => hN2 _ _ ⟨x, lo, rfl, b1, u1⟩⟩
      rintro _ G1 ⟨x, lo, rfl, b1, u1⟩
      have ha1 := b1 _ _ haG nau
      have hfl : (cores ++ ns).length ≤ 13 := by
        rw [List.length_append, hl]
        show 5 + i ≤ 13
        omega
      refine seq_mid (fun σ G2 => ∃ y, Low y ∧ y ∉ cores ++ ns ∧ σ = [some (.ref u), some (.int m), some (.ref a), some (.int (0 + i)), some (.str y), none] ∧ Same G1 G2) (fun N2 hN2 => ?_) ?_
      · refine ⟨_, rfl, _, rfl, a, _, rfl, .inl (SqL.of ha1), rfl, flat_strs _, _, rfl, ?_⟩
        show (if (inV (.str x) ((cores ++ ns).map V.str)) = true then _ else _)
        rw [inV_strs]
        refine ite2 (fun hy => ?_) (fun hy => hN2 _ _ ⟨x, lo, fun z => hy (decide_eq_true z), rfl, fun _ _ e => e⟩)
        refine ⟨_, rfl, _, rfl, x, rfl, Nat.le_trans lo.len (by show 8 ≤ sizeLine; decide), ?_⟩
        refine ⟨_, rfl, fun D hD => ?_⟩
        generalize hcut : cutS x none (some 7) = t
        have hcl : ∀ c ∈ letters, Low (t ++ sg c) := fun c hc => by
          rw [← hcut]
          exact low_cut lo hc
        refine lc_it (walk_str (z := abc)) (fun i G2 => Same G1 G2 ∧ G2 D = some (.lst ((((letters.take i).filter fun c => !decide (t ++ sg c ∈ cores ++ ns)).map fun c => t ++ sg c).map V.str))) ⟨same_new (fun _ _ e => e) hD, upd_same⟩ (fun _ _ _ _ => trivial) ?_ ?_
        · rintro j v H2 H3 hj ⟨s2, hD2⟩ ⟨rfl, c, hc, rfl⟩
          have hc' : letters[j]? = some c := by
            rw [← abc_tl]
            simpa using hc
          have hcm : c ∈ letters := List.mem_of_getElem? hc'
          have hlo := hcl c hcm
          have l8 : t.length + 1 ≤ 8 := by
            have h9 := hlo.len
            rw [Str.length_append] at h9
            exact h9
          have e2 : ((letters.take (j + 1)).filter fun c => !decide (t ++ sg c ∈ cores ++ ns)) = ((letters.take j).filter fun c => !decide (t ++ sg c ∈ cores ++ ns)) ++ (if (!decide (t ++ sg c ∈ cores ++ ns)) = true then [c] else []) := by
            rw [take_more hc', List.filter_append]
            congr 1
            show List.filter _ [c] = _
            rw [List.filter_cons]
            rfl
          refine ⟨rfl, _, rfl, _, rfl, _, _, rfl, rfl, Nat.le_trans l8 (by decide), _, rfl, a, _, rfl, .inl (SqL.of (s2 _ _ ha1)), rfl, flat_strs _, _, rfl, ?_⟩
          show (if (!(inV (.str (t ++ sg c)) ((cores ++ ns).map V.str))) = true then _ else _)
          rw [inV_strs, e2]
          refine ite2 (fun hy => ⟨_, rfl, _, rfl, _, _, rfl, rfl, Nat.le_trans l8 (by decide), _, hD2, big ?_, ?_, ?_⟩) (fun hy => ⟨s2, ?_⟩)
          · rw [List.length_map, List.length_map]
            refine Nat.le_trans (List.length_filter_le _ _) ?_
            rw [List.length_take]
            have := abc_len
            omega
          · intro b o e
            rw [upd_ne (ne_of_none e hD)]
            exact s2 _ _ e
          · rw [upd_same, if_pos hy, List.map_append, List.map_append]
            rfl
          · rw [if_neg hy, List.append_nil]
            exact hD2
        · rintro H2 ⟨s2, hD2⟩
          rw [show abc.cps.size = letters.length by rw [← abc_tl, Array.length_toList], List.take_length] at hD2
          have hne := some_new (t := t) hfl
          cases hf : letters.filter fun c => !decide (t ++ sg c ∈ cores ++ ns) with
          | nil => exact absurd hf hne
          | cons c r =>
            rw [hf] at hD2
            have hm0 : c ∈ letters.filter fun c => !decide (t ++ sg c ∈ cores ++ ns) := by rw [hf]; exact List.mem_cons_self
            have hm1 := List.mem_filter.mp hm0
            refine ⟨D, _, _, V.str (t ++ sg c), rfl, rfl, SqL.of hD2, (show atI _ ((0 : Nat) : Int) = _ from atI_nat rfl), hN2 _ _ ⟨t ++ sg c, hcl c hm1.1, fun z => ?_, rfl, s2⟩⟩
            have h2 := hm1.2
            rw [decide_eq_true z] at h2
            cases h2
      rintro _ G2 ⟨y, hy, hyn, rfl, s2⟩
      have ha2 := s2 _ _ ha1
      refine ⟨_, rfl, .inl ⟨rfl, _, SqL.of ha2⟩, _, rfl, a, _, _, rfl, rfl, ha2, big (by rw [List.length_map]; omega), ns ++ [y], _, _, rfl, ⟨?_, ?_⟩, ?_, ?_, ?_, ?_⟩
      · rw [List.nodup_append]
        refine ⟨hT.nd, List.nodup_cons.mpr ⟨(fun z => nomatch z), List.nodup_nil⟩, fun p hp p' hp' z => ?_⟩
        rw [List.mem_singleton.mp hp'] at z
        exact hyn (List.mem_append_right _ (by rw [← z]; exact hp))
      · intro n hn
        rcases List.mem_append.mp hn with h | h
        · exact hT.fr n h
        · rw [List.mem_singleton.mp h]
          exact low_free hy fun z => hyn (List.mem_append_left _ z)
      · rw [List.length_append, hl]
        rfl
      · intro b o e nb
        have e1 := (Same.but s2) _ _ ((bG.trans b1) b o e nb) nb
        have : b ≠ a := fun z => by
          subst z
          rw [na] at e
          cases e
        rw [upd_ne this]
        exact e1
      · have h9 := urn_same s2 u1
        obtain ⟨x', y', z', e⟩ := h9
        exact ⟨x', y', z', by rw [upd_ne (Ne.symm nau)]; exact e⟩
      · rw [upd_same, ← List.append_assoc, List.map_append (l₁ := cores ++ ns)]
        rfl
    rintro _ G ⟨ns, v3, v4, rfl, hT, hl, bG, uG, haG⟩
    have ecut : cutV ((cores ++ ns).map V.str) (some 5) none = ns.map V.str := by
      unfold cutV
      have e5 : HT.sIx ((cores ++ ns).map V.str).length 0 (some 5) = 5 := by
        rw [show (5 : Int) = ((5 : Nat) : Int) from rfl, HT.sIx_nat, List.length_map, List.length_append]
        show min 5 (5 + ns.length) = 5
        omega
      rw [e5, HT.sIx_none]
      show (ns.map V.str).take _ = _
      rw [List.take_of_length_le]
      rw [List.length_map, List.length_map, List.length_append]
      show ns.length ≤ 5 + ns.length - 5
      omega
    refine ⟨_, rfl, _, rfl, a, _, rfl, SqL.of haG, ?_⟩
    rw [ecut]
    intro p np
    have nfree : H p = none := by
      cases e : H p with
      | none => rfl
      | some o =>
        by_cases z : p = u
        · subst z
          obtain ⟨x, y, z, e'⟩ := uG
          rw [np] at e'
          cases e'
        · have := bG p o e z
          rw [np] at this
          cases this
    exact q p ns _ hT hl nfree upd_same (bG.new np) (urn_same (same_new (fun _ _ e => e) np) uG)
end
end SQ9
namespace SQ9
open PySem L2 SQ
abbrev sKi : Stmt := top 97
/-! ### drawn words -/
def Trs (H : Hp) (xs : List V) (es : List G3) : Prop := Paired (fun x g => ∃ t, x = V.ref t ∧ H t = some (.tup [.str g.1, .int g.2.1, .int g.2.2])) xs es
theorem Trs.same {H H' : Hp} {xs : List V} {es : List G3} (s : Same H H') (h : Trs H xs es) : Trs H' xs es := Paired.mapP h fun a b ⟨t, e1, e2⟩ => ⟨t, e1, s _ _ e2⟩
theorem Trs.tup {H H' : Hp} {xs : List V} {es : List G3} (s : TupS H H') (h : Trs H xs es) : Trs H' xs es := Paired.mapP h fun a b ⟨t, e1, e2⟩ => ⟨t, e1, s _ _ e2⟩
theorem Trs.len {H : Hp} {xs : List V} {es : List G3} (h : Trs H xs es) : xs.length = es.length := Paired.length h
theorem tupS_but {u : Addr} {H H' : Hp} (hu : urnAt H u) (b : But u H H') : TupS H H' := fun a vs e => by
  obtain ⟨x, y, z, eu⟩ := hu
  exact b a _ e (ne_of e eu (by intro z; cases z))
structure Knd (gs : List G3) : Prop where
  nd : (gnames gs).Nodup
  fr : ∀ g ∈ gs, isFree (.str g.1) = true
  ar : ∀ g ∈ gs, (0 ≤ g.2.1 ∧ g.2.1 ≤ 3) ∧ 0 ≤ g.2.2 ∧ g.2.2 ≤ 3
  few : gs.length ≤ 8
section
variable {P : Program} {w : World} {K : PySem.W.Frag} {mg : Str → Option Value} {base : Heap}
def spKi : Sp := fun vs H Q _ => ∃ (u : Addr) (m : Nat), vs = [.ref u, .int m] ∧ m ≤ 8 ∧ urnAt H u ∧ ∀ (a : Addr) (xs : List V) (gs : List G3) (H' : Hp), Knd gs → gs.length = m → H a = none → H' a = some (.lst xs) → Trs H' xs gs → But u H H' → urnAt H' u → Q (.ref a) H'
structure TgD (P : Program) (w : World) (K : PySem.W.Frag) (mg : Str → Option Value) (base : Heap) (fT : Addr) (dT : FuncData) : Prop where
  g : mg "_law_tags" = some (.ref fT)
  k : PySem.W.keepIn K (.ref fT) = true
  b : Binds K dT ["_law_purse_here", "_law_many"] []
  G : FnOk P w K mg base CX0 3 fT dT ["_law_purse_here", "_law_many"] spTg
abbrev nKi : List Str := ["_law_purse_here", "_law_many", "_law_tag"]
theorem scKi : FnScope nKi ["_law_purse_here", "_law_many"] (defScope sKi) := ⟨rfl, rfl, rfl, by decide +kernel, rfl, by decide +kernel, by decide +kernel⟩
theorem ok_ki {f fD fT : Addr} {fd dD dT : FuncData} (F : Fun K "_law_kinds" "_law_kinds" sKi f fd) (BL : Blt mg) (D : Drw K mg fD dD) (T : TgD P w K mg base fT dT) : FnOk P w K mg base CX0 4 f fd ["_law_purse_here", "_law_many"] spKi := by
  have GD : FnOk P w K mg base CX0 1 fD dD ["_law_purse_here", "_law_many"] spDrw := ok_drw D.F BL
  refine F.ok scKi (fun vs H Q E h => ?_) (fun cdv A outer s H vs Q E hr h => ?_)
  · obtain ⟨u, m, rfl, _⟩ := h
    rfl
  · obtain ⟨u, m, rfl, hm, hu, q⟩ := h
    refine ⟨_, pss_one (ps_ret (pe_lc (own := [("_law_tag", 2)]) (g := gName 2) (tt := tYes) rfl scKi.nd (pi_list (pe_call T.G hr rfl T.g T.k T.b .nil pass0 (pa_cons (pv 0) (pa_cons (pv 1) pa_nil)))) (blkOk_by (N := nKi) (sc := defScope sKi) (by decide +kernel)) (fun _ _ _ _ _ => pg_name (i := 2) scKi.nd rfl (.inl rfl)) (fun _ _ _ _ _ => pts_nil)
      (fun _ _ _ _ _ => pe_tup (pa_cons (pv 2) (pa_cons (pe_call GD (hr.mono (by decide)) rfl D.g D.F.kp D.b .nil pass0 (pa_cons (pv 0) (pa_cons pe_int pa_nil))) (pa_cons (pe_call GD (hr.mono (by decide)) rfl D.g D.F.kp D.b .nil pass0 (pa_cons (pv 0) (pa_cons pe_int pa_nil))) pa_nil)))))), ?_⟩
    refine ⟨_, rfl, _, rfl, u, m, rfl, hm, hu, fun a ns H1 hT hl na ha b1 u1 => ?_⟩
    refine ⟨a, rfl, ⟨_, SqL.of ha⟩, fun D hD => ?_⟩
    have nau : a ≠ u := fun z => by
      subst z
      obtain ⟨x, y, z, e⟩ := hu
      rw [na] at e
      cases e
    have nDu : D ≠ u := Ne.symm (urn_ne u1 hD)
    have fD : H D = none := by
      cases e : H D with
      | none => rfl
      | some o =>
        have := b1 D o e nDu
        rw [hD] at this
        cases this
    have naD : a ≠ D := ne_of_none ha hD
    refine lc_list (K := K) (a := a) (xs := ns.map V.str) (fun i G => But u H G ∧ urnAt G u ∧ G a = some (.lst (ns.map V.str)) ∧ ∃ xs gs, G D = some (.lst xs) ∧ Trs G xs gs ∧ gnames gs = ns.take i ∧ (∀ g ∈ gs, (0 ≤ g.2.1 ∧ g.2.1 ≤ 3) ∧ 0 ≤ g.2.2 ∧ g.2.2 ≤ 3)) ⟨b1.new hD, urn_same (same_new (fun _ _ e => e) hD) u1, by rw [upd_ne naD]; exact ha, [], [], upd_same, .nil, rfl, fun _ z => nomatch z⟩ (fun i G _ h => SqL.of h.2.2.1) ?_ ?_
    · rintro i v G hi ⟨bG, uG, haG, xs, gs, hDG, hTr, hnm, har⟩
      rw [List.getElem?_map] at hi
      cases hg : ns[i]? with
      | none =>
        rw [hg] at hi
        cases hi
      | some n =>
        rw [hg] at hi
        cases hi
        refine ⟨rfl, keptT ⟨_, rfl, _, rfl, u, 4, rfl, uG, by decide, by decide, fun G2 d d0 d1 u2 b2 => ⟨_, rfl, u, 4, rfl, u2, by decide, by decide, fun G3' e e0 e1 u3 b3 => ?_⟩⟩⟩
        refine ⟨(by show 3 ≤ sizeLine; decide), fun p np => ?_⟩
        have bt := b2.trans b3
        have hD3 := bt _ _ hDG nDu
        have ha3 := bt _ _ haG nau
        have tS := tupS_but uG bt
        have npD : D ≠ p := ne_of_none hD3 np
        have gl : gs.length = i := by
          have := congrArg List.length hnm
          unfold gnames at this
          rw [List.length_map, List.length_take] at this
          have h9 := (List.getElem?_eq_some_iff.mp hg).1
          omega
        have i8 : i < 8 := by
          have h9 := (List.getElem?_eq_some_iff.mp hg).1
          omega
        refine ⟨xs, by rw [upd_ne npD]; exact hD3, ?_, ?_, ?_, ?_, xs ++ [.ref p], gs ++ [(n, d, e)], upd_same, ?_, ?_, ?_⟩
        · rw [hTr.len, gl]
          exact Nat.lt_of_lt_of_le i8 (by decide)
        · intro b o eo nb
          have e1' := (bG.trans bt) b o eo nb
          rw [upd_ne (ne_of_none eo fD), upd_ne (ne_of_none e1' np)]
          exact e1'
        · obtain ⟨x', y', z', eu⟩ := u3
          exact ⟨x', y', z', by rw [upd_ne (Ne.symm nDu), upd_ne (ne_of_none eu np)]; exact eu⟩
        · rw [upd_ne naD, upd_ne (ne_of_none ha3 np)]
          exact ha3
        · have s1 : Same G3' (upd G3' p (.tup [V.str n, V.int d, V.int e])) := same_new (fun _ _ e => e) np
          have t1 : TupS (upd G3' p (.tup [V.str n, V.int d, V.int e])) (upd (upd G3' p (.tup [V.str n, V.int d, V.int e])) D (.lst (xs ++ [V.ref p]))) := TupS.put (by rw [upd_ne npD]; exact hD3)
          refine Paired.snoc ((hTr.tup tS).same s1 |>.tup t1) ⟨p, rfl, ?_⟩
          rw [upd_ne (Ne.symm npD), upd_same]
        · unfold gnames at hnm ⊢
          rw [List.map_append, hnm, take_more hg]
          rfl
        · intro g hgm
          rcases List.mem_append.mp hgm with h | h
          · exact har g h
          · rw [List.mem_singleton.mp h]
            exact ⟨⟨d0, by show d ≤ 3; omega⟩, e0, by show e ≤ 3; omega⟩
    · rintro G ⟨bG, uG, haG, xs, gs, hDG, hTr, hnm, har⟩
      rw [List.length_map, List.take_length] at hnm
      have gl : gs.length = m := by
        rw [← hl, ← hnm]
        unfold gnames
        rw [List.length_map]
      refine q D xs gs G ⟨by rw [hnm]; exact hT.nd, fun g hg => hT.fr g.1 (by rw [← hnm]; exact List.mem_map_of_mem hg), har, by omega⟩ gl fD hDG hTr bG uG
end
end SQ9
namespace SQ9
open PySem L2 SQ
/-! ### sorted texts are unique -/
theorem rising_pw : ∀ (l : List Str) (p : Str), PyProof.Rows.risingS p l = true → (p :: l).Pairwise fun a b => a.cps.toList ≤ b.cps.toList
  | [], p, _ => List.pairwise_singleton _ _
  | x :: l, p, h => by
    have h' : (!Spec.ltCps x.cps.toList p.cps.toList && PyProof.Rows.risingS x l) = true := h
    rw [Bool.and_eq_true, PyProof.Rows.ltCps_eq] at h'
    have h1 : p.cps.toList ≤ x.cps.toList := by
      have := h'.1
      simp only [Bool.not_eq_true', decide_eq_false_iff_not] at this
      exact List.not_lt.mp this
    have h2 := rising_pw l x h'.2
    refine List.pairwise_cons.mpr ⟨fun y hy => ?_, h2⟩
    rcases List.mem_cons.mp hy with rfl | hy
    · exact h1
    · exact List.le_trans h1 ((List.pairwise_cons.mp h2).1 y hy)
theorem sorted_pw {l : List Str} (h : PyProof.Rows.sortedS l = true) : l.Pairwise fun a b => a.cps.toList ≤ b.cps.toList := by
  cases l with
  | nil => exact List.Pairwise.nil
  | cons x l => exact rising_pw l x h
theorem sorted_one {l m : List Str} (hl : PyProof.Rows.sortedS l = true) (hm : PyProof.Rows.sortedS m = true) (p : l.Perm m) : l = m := by
  refine List.Perm.eq_of_pairwise (fun a b _ _ h1 h2 => ?_) (sorted_pw hl) (sorted_pw hm) p
  have e := List.le_antisymm h1 h2
  obtain ⟨ca⟩ := a
  obtain ⟨cb⟩ := b
  have e' : ca = cb := Array.toList_inj.mp e
  rw [e']
/-! ### what is kept of data -/
structure Keep (H H' : Hp) : Prop where
  tup : ∀ a xs, H a = some (.tup xs) → H' a = some (.tup xs)
  lst : ∀ a xs, H a = some (.lst xs) → ∃ ys, H' a = some (.lst ys)
  dK : ∀ a kvs, H a = some (.dK kvs) → H' a = some (.dK kvs)
theorem Keep.same {H H' : Hp} (s : Same H H') : Keep H H' := ⟨fun a _ e => s a _ e, fun a xs e => ⟨xs, s a _ e⟩, fun a _ e => s a _ e⟩
theorem Keep.but {u : Addr} {H H' : Hp} (b : But u H H') (hu : urnAt H u) (hu' : urnAt H' u) : Keep H H' := by
  obtain ⟨x, y, z, e0⟩ := hu
  obtain ⟨x', y', z', e1⟩ := hu'
  refine ⟨fun a xs e => b a _ e ?_, fun a xs e => ?_, fun a kvs e => b a _ e ?_⟩
  · exact ne_of e e0 (by intro z; cases z)
  · by_cases h : a = u
    · subst h
      exact ⟨_, e1⟩
    · exact ⟨xs, b a _ e h⟩
  · exact ne_of e e0 (by intro z; cases z)
theorem Keep.trans {H H1 H2 : Hp} (a : Keep H H1) (b : Keep H1 H2) : Keep H H2 := ⟨fun x xs e => b.tup _ _ (a.tup _ _ e), fun x xs e => let ⟨_, e1⟩ := a.lst _ _ e; b.lst _ _ e1, fun x k e => b.dK _ _ (a.dK _ _ e)⟩
theorem Kd.keep {H H' : Hp} {v : V} {t : String} (s : Keep H H') (k : Kd H v t) : Kd H' v t := by
  cases k with
  | non => exact .non
  | bl b => exact .bl b
  | int i => exact .int i
  | str x h => exact .str x h
  | lst e =>
    obtain ⟨ys, e1⟩ := s.lst _ _ e
    exact .lst e1
  | tup e => exact .tup (s.tup _ _ e)
  | dic e => exact .dic (s.dK _ _ e)
theorem Ent.keep {H H' : Hp} {v : V} {o : En} (s : Keep H H') (k : Ent H v o) : Ent H' v o := by
  cases k with
  | no k ht => exact .no (k.keep s) ht
  | len e h => exact .len (s.tup _ _ e) h
  | bad e kx ky kz h => exact .bad (s.tup _ _ e) (kx.keep s) (ky.keep s) (kz.keep s) h
  | good e hn h => exact .good (s.tup _ _ e) hn h
end SQ9
namespace SQ9
open PySem L2 SQ
abbrev sSE : Stmt := top 74
abbrev sSS : Stmt := top 75
/-! ### what a text says -/
def digOf (a : Str) : Option Int := if a = "0" then some 0 else if a = "1" then some 1 else if a = "2" then some 2 else if a = "3" then some 3 else none
def rawOf : List Str → Option (Str × Int × Int)
  | [n, a, b] => (digOf a).bind fun i => (digOf b).map fun j => (n, i, j)
  | _ => none
def goodRaw : Option (Str × Int × Int) → En
  | some (n, i, j) => if isFree (.str n) = true then some (n, i, j) else none
  | none => none
def entryOf (p : Str) : En := goodRaw (rawOf (Txt.split p " "))
def partsOf (x : Str) : List Str := if x = "" then [] else Txt.split x ", "
def ensOf (x : Str) : List En := (partsOf x).map entryOf
theorem dig_ar {a : Str} {i : Int} (h : digOf a = some i) : 0 ≤ i ∧ i ≤ 3 ∧ a = (toString i : String) := by
  unfold digOf at h
  split at h
  · cases h
    rename_i e
    exact ⟨by decide, by decide, e⟩
  split at h
  · cases h
    rename_i e
    exact ⟨by decide, by decide, e⟩
  split at h
  · cases h
    rename_i e
    exact ⟨by decide, by decide, e⟩
  split at h
  · cases h
    rename_i e
    exact ⟨by decide, by decide, e⟩
  · cases h
theorem ar_dig {i : Int} (h0 : 0 ≤ i) (h1 : i ≤ 3) : digOf ((toString i : String) : Str) = some i := by
  rcases four h0 h1 with rfl | rfl | rfl | rfl <;> decide +kernel
theorem isAr_of {i : Int} (h0 : 0 ≤ i) (h1 : i ≤ 3) : isAr (.int i) = true := by
  show (decide (0 ≤ i) && decide (i ≤ 3)) = true
  rw [decide_eq_true h0, decide_eq_true h1]
  rfl
theorem raw_ok {p n : Str} {i j : Int} (h : rawOf (Txt.split p " ") = some (n, i, j)) : Txt.split p " " = [n, ((toString i : String) : Str), ((toString j : String) : Str)] ∧ (0 ≤ i ∧ i ≤ 3) ∧ 0 ≤ j ∧ j ≤ 3 := by
  generalize hs : Txt.split p " " = l at h
  match l, h with
  | [n', a, b], h =>
    have h' : ((digOf a).bind fun i => (digOf b).map fun j => (n', i, j)) = some (n, i, j) := h
    cases ha : digOf a with
    | none =>
      rw [ha] at h'
      cases h'
    | some i' =>
      cases hb : digOf b with
      | none =>
        rw [ha, hb] at h'
        cases h'
      | some j' =>
        rw [ha, hb] at h'
        cases h'
        obtain ⟨a1, a2, a3⟩ := dig_ar ha
        obtain ⟨b1, b2, b3⟩ := dig_ar hb
        exact ⟨by rw [a3, b3], ⟨a1, a2⟩, b1, b2⟩
  | [], h => cases h
  | [_], h => cases h
  | [_, _], h => cases h
  | _ :: _ :: _ :: _ :: _, h => cases h
/-- the values that split_entry hands out -/
def RawAt (H : Hp) (v : V) : Option (Str × Int × Int) → Prop
  | none => v = .non
  | some (n, i, j) => ∃ a, v = .ref a ∧ H a = some (.tup [.str n, .int i, .int j])
theorem raw_ent {H : Hp} {v : V} {p : Str} (hp : p.length ≤ 1000) (r : RawAt H v (rawOf (Txt.split p " "))) : Ent H v (entryOf p) := by
  unfold entryOf
  cases hq : rawOf (Txt.split p " ") with
  | none =>
    rw [hq] at r
    have r' : v = .non := r
    subst r'
    exact .no .non (by decide)
  | some g =>
    obtain ⟨n, i, j⟩ := g
    rw [hq] at r
    obtain ⟨a, rfl, ha⟩ := r
    obtain ⟨hs, ⟨i0, i3⟩, j0, j3⟩ := raw_ok hq
    have hn : n.length ≤ 1000 := Nat.le_trans (PyProof.Rows.part_short (x := p) (y := " ") (by rw [hs]; exact List.mem_cons_self)) hp
    show Ent H (.ref a) (if isFree (.str n) = true then some (n, i, j) else none)
    by_cases hf : isFree (.str n) = true
    · rw [if_pos hf]
      exact .good ha hn (by rw [hf, isAr_of i0 i3, isAr_of j0 j3]; rfl)
    · rw [if_neg hf]
      exact .bad ha (.str n hn) (.int i) (.int j) (by rw [Bool.eq_false_iff.mpr hf]; rfl)
/-- DIGITS -/
structure Dg (K : PySem.W.Frag) (w : World) (mg : Str → Option Value) (dD : Addr) (es : Array DictEntry) (nn : Nat) : Prop where
  g : mg "DIGITS" = some (.ref dD)
  D : KDict K w dD es nn
  look : ∀ z : Str, ∃ r : Option Value, PySem.W.nsIn K dD z = some r ∧ (∀ i, digOf z = some i → ∃ t, r = some (.int i t)) ∧ (digOf z = none → r = none)
section
variable {P : Program} {w : World} {K : PySem.W.Frag} {mg : Str → Option Value} {base : Heap} {dD fSE : Addr} {es : Array DictEntry} {nn : Nat} {dSE : FuncData}
theorem Dg.some {z : Str} {r : Option Value} (h1 : ∀ i, digOf z = some i → ∃ t, r = some (.int i t)) (h2 : digOf z = none → r = none) : r.isSome = (digOf z).isSome := by
  cases h : digOf z with
  | none =>
    rw [h2 h]
    rfl
  | some i =>
    obtain ⟨t, rfl⟩ := h1 i h
    rfl
def spSE : Sp := fun vs H Q _ => ∃ p : Str, vs = [.str p] ∧ p.length ≤ 1000 ∧ ∀ v H', Same H H' → RawAt H' v (rawOf (Txt.split p " ")) → Q v H'
theorem scSE : FnScope ["text", "fields", "name", "inputs", "outputs"] ["text"] (defScope sSE) := ⟨rfl, rfl, rfl, by decide +kernel, rfl, by decide +kernel, by decide +kernel⟩
theorem ok_se {f : Addr} {fd : FuncData} (F : Fun K "split_entry" "split_entry" sSE f fd) (B : B2 mg) (D : Dg K w mg dD es nn) : FnOk P w K mg base CX0 1 f fd ["text"] spSE := by
  refine F.ok scSE (fun vs H Q E h => ?_) (fun cdv A outer s H vs Q E hr h => ?_)
  · obtain ⟨p, rfl, _⟩ := h
    rfl
  · obtain ⟨p, rfl, hp, q⟩ := h
    refine ⟨_, pss_cons (ps_set (i := 1) scSE.nd rfl (.inl rfl) (pe_split (pv 0) pe_str))
      (pss_cons (ps_if (pt_cmpR op_ne (pe_callB call_len_seq (by rfl) B.len PySem.boot_len (pa_cons (pv 1) pa_nil)) pe_int (nomark _)) (pss_one (ps_ret pe_non)) pss_nil)
      (pss_cons (ps_asg (pv 1) (pg_lst rfl (pgs_cons (pg_name (i := 2) scSE.nd rfl (.inl rfl)) (pgs_cons (pg_name (i := 3) scSE.nd rfl (.inl rfl)) (pgs_cons (pg_name (i := 4) scSE.nd rfl (.inl rfl)) pgs_nil)))))
      (pss_cons (ps_if (PW.pt (pw_or (pt_cmpR (op_notIn_kd D.D) (pv 3) (pe_glob (v := .ref dD) rfl D.g rfl) (by rfl)) (pw_or1 (pt_cmpR (op_notIn_kd D.D) (pv 4) (pe_glob (v := .ref dD) rfl D.g rfl) (by rfl))))) (pss_one (ps_ret pe_non)) pss_nil)
      (pss_one (ps_ret (pe_tup (pa_cons (pv 2) (pa_cons (pe_ix ix_kdict (pe_glob (v := .ref dD) rfl D.g rfl) (pv 3) (fun _ _ => rfl)) (pa_cons (pe_ix ix_kdict (pe_glob (v := .ref dD) rfl D.g rfl) (pv 4) (fun _ _ => rfl)) pa_nil))))))))), ?_⟩
    refine ⟨_, rfl, ⟨_, rfl⟩, _, _, rfl, rfl, (by decide +kernel), Nat.le_trans (Nat.add_le_add_right hp 2) (by decide), fun l nl => ?_⟩
    have s1 : Same H (upd H l (.lst ((Txt.split p " ").map V.str))) := same_new (fun _ _ e => e) nl
    have h1 : upd H l (.lst ((Txt.split p " ").map V.str)) l = some (.lst ((Txt.split p " ").map V.str)) := upd_same
    generalize upd H l (.lst ((Txt.split p " ").map V.str)) = H1 at s1 h1 ⊢
    refine ⟨_, rfl, l, _, rfl, .inl (SqL.of h1), rfl, _, rfl, ?_⟩
    rw [List.length_map]
    have q1 := fun v => q v H1 s1
    generalize hs : Txt.split p " " = fs at q q1 h1 ⊢
    by_cases h3 : fs.length = 3
    · have e3 : ¬ ¬ V.int (fs.length : Int) = V.int 3 := fun z => z (by rw [h3]; rfl)
      obtain ⟨n, a, b, rfl⟩ : ∃ n a b, fs = [n, a, b] := by
        match fs, h3 with
        | [n, a, b], _ => exact ⟨n, a, b, rfl⟩
      refine iteNS rfl ?_
      refine ⟨_, rfl, l, _, rfl, SqL.of h1, rfl, _, _, rfl, _, _, rfl, _, _, rfl, rfl, ?_⟩
      obtain ⟨ra, ea, a1, a2⟩ := D.look a
      obtain ⟨rb, eb, b1, b2⟩ := D.look b
      refine ⟨_, rfl, a, ra, rfl, rfl, ea, _, rfl, ?_⟩
      rw [Dg.some a1 a2]
      cases ha : digOf a with
      | none =>
        refine iteT (iteT (q1 .non ?_))
        show RawAt H1 .non ((digOf a).bind fun i => (digOf b).map fun j => (n, i, j))
        rw [ha]
        exact rfl
      | some i =>
        refine iteF ⟨_, rfl, b, rb, rfl, rfl, eb, _, rfl, ?_⟩
        rw [Dg.some b1 b2]
        cases hb : digOf b with
        | none =>
          refine iteT (q1 .non ?_)
          show RawAt H1 .non ((digOf a).bind fun i => (digOf b).map fun j => (n, i, j))
          rw [ha, hb]
          exact rfl
        | some j =>
          obtain ⟨ta, rfl⟩ := a1 i ha
          obtain ⟨tb, rfl⟩ := b1 j hb
          refine iteF ⟨_, rfl, _, rfl, dD, a, .int i, rfl, rfl, ⟨es, nn, _, D.D.at_, D.D.lit, ea, ⟨ta, rfl⟩⟩, _, rfl, dD, b, .int j, rfl, rfl, ⟨es, nn, _, D.D.at_, D.D.lit, eb, ⟨tb, rfl⟩⟩, (by show 3 ≤ sizeLine; decide), fun t nt => ?_⟩
          refine q _ _ (same_new s1 nt) ?_
          show RawAt _ _ ((digOf a).bind fun i => (digOf b).map fun j => (n, i, j))
          rw [ha, hb]
          exact ⟨t, rfl, upd_same⟩
    · have ne : ¬ V.int (fs.length : Int) = V.int 3 := fun z => h3 (by have := V.int.inj z; omega)
      rw [decide_eq_false ne]
      refine iteT (q1 .non ?_)
      have e : rawOf fs = none := by
        match fs, h3 with
        | [], _ => rfl
        | [_], _ => rfl
        | [_, _], _ => rfl
        | [_, _, _], h => exact absurd rfl h
        | _ :: _ :: _ :: _ :: _, _ => rfl
      rw [e]
      exact rfl
end
end SQ9
namespace SQ9
open PySem L2 SQ
abbrev sRd : Stmt := inClass (top 76) 1
section
variable {P : Program} {w : World} {K : PySem.W.Frag} {mg : Str → Option Value} {base : Heap} {dD fSE : Addr} {es : Array DictEntry} {nn : Nat} {dSE : FuncData}
structure S3 (K : PySem.W.Frag) (mg : Str → Option Value) (fSE fSS : Addr) (dSE dSS : FuncData) : Prop where
  gE : mg "split_entry" = some (.ref fSE)
  FE : Fun K "split_entry" "split_entry" sSE fSE dSE
  bE : Binds K dSE ["text"] []
  gS : mg "split_entries" = some (.ref fSS)
  FS : Fun K "split_entries" "split_entries" sSS fSS dSS
  bS : Binds K dSS ["text"] []
def spSS : Sp := fun vs H Q _ => ∃ x : Str, vs = [.str x] ∧ x.length ≤ 1000 ∧ ∀ (l : Addr) (ws : List V) (H' : Hp), Same H H' → H' l = some (.lst ws) → Ents H' ws (ensOf x) → Q (.ref l) H'
theorem scSS : FnScope ["text", "part"] ["text"] (defScope sSS) := ⟨rfl, rfl, rfl, by decide +kernel, rfl, by decide +kernel, by decide +kernel⟩
theorem ents_snoc {H : Hp} {xs : List V} {os : List En} {v : V} {o : En} (h : Ents H xs os) (e : Ent H v o) : Ents H (xs ++ [v]) (os ++ [o]) := Paired.snoc h e
theorem ok_ss {fSS : Addr} {dSS : FuncData} (S : S3 K mg fSE fSS dSE dSS) (B : B2 mg) (D : Dg K w mg dD es nn) : FnOk P w K mg base CX0 2 fSS dSS ["text"] spSS := by
  have GE : FnOk P w K mg base CX0 1 fSE dSE ["text"] spSE := ok_se S.FE B D
  refine S.FS.ok scSS (fun vs H Q E h => ?_) (fun cdv A outer s H vs Q E hr h => ?_)
  · obtain ⟨x, rfl, _⟩ := h
    rfl
  · obtain ⟨x, rfl, hx, q⟩ := h
    refine ⟨_, pss_cons (ps_if (pt_cmpR op_eq (pv 0) pe_str (nomark _)) (pss_one (ps_ret (pe_lst pa_nil))) pss_nil)
      (pss_one (ps_ret (pe_lc (own := [("part", 1)]) (g := gName 1) (tt := tYes) rfl scSS.nd (pi_list (pe_split (pv 0) pe_str)) (blkOk_by (N := ["text", "part"]) (sc := defScope sSS) (by decide +kernel)) (fun _ _ _ _ _ => pg_name (i := 1) scSS.nd rfl (.inl rfl)) (fun _ _ _ _ _ => pts_nil)
        (fun _ _ _ _ _ => pe_call GE hr rfl S.gE S.FE.kp S.bE .nil pass0 (pa_cons (pv 1) pa_nil))))), ?_⟩
    refine ⟨_, rfl, rfl, _, rfl, ?_⟩
    by_cases h0 : x = ""
    · subst h0
      refine iteT ⟨by show 0 ≤ sizeLine; decide, fun l nl => ?_⟩
      exact q l [] _ (same_new (fun _ _ e => e) nl) upd_same .nil
    · have ne : ¬ V.str x = V.str "" := fun z => h0 (V.str.inj z)
      rw [decide_eq_false ne]
      refine iteF ?_
      have hp : ensOf x = (Txt.split x ", ").map entryOf := by
        unfold ensOf partsOf
        rw [if_neg h0]
      rw [hp] at q
      refine ⟨_, rfl, ⟨_, rfl⟩, _, _, rfl, rfl, (by decide +kernel), Nat.le_trans (Nat.add_le_add_right hx 2) (by decide), fun l nl => ?_⟩
      have s1 : Same H (upd H l (.lst ((Txt.split x ", ").map V.str))) := same_new (fun _ _ e => e) nl
      have h1 : upd H l (.lst ((Txt.split x ", ").map V.str)) l = some (.lst ((Txt.split x ", ").map V.str)) := upd_same
      generalize upd H l (.lst ((Txt.split x ", ").map V.str)) = H1 at s1 h1 ⊢
      have hsh : ∀ p ∈ Txt.split x ", ", p.length ≤ 1000 := fun p hp => Nat.le_trans (PyProof.Rows.part_short hp) hx
      have hll : (Txt.split x ", ").length ≤ 1002 := Nat.le_trans (PyProof.Rows.split_le x ", ") (by omega)
      generalize Txt.split x ", " = ps at q h1 hsh hll ⊢
      refine ⟨l, rfl, ⟨_, SqL.of h1⟩, fun Dd hD => ?_⟩
      refine lc_list (K := K) (a := l) (xs := ps.map V.str) (fun i H2 => ∃ ws, H2 Dd = some (.lst ws) ∧ Ents H2 ws ((ps.take i).map entryOf) ∧ Same H1 H2) ⟨[], upd_same, .nil, same_new (fun _ _ e => e) hD⟩ (fun i H2 _ ⟨_, _, _, s2⟩ => SqL.of (s2 _ _ h1)) ?_ ?_
      · rintro i v H2 hi ⟨ws, hD2, en, s2⟩
        rw [List.getElem?_map] at hi
        cases hg : ps[i]? with
        | none =>
          rw [hg] at hi
          cases hi
        | some p =>
          rw [hg] at hi
          cases hi
          have hpl := hsh p (List.mem_of_getElem? hg)
          refine ⟨rfl, keptT ⟨_, rfl, p, rfl, hpl, fun v H3 s3 ra => ?_⟩⟩
          have hD3 := s3 _ _ hD2
          have hl := Paired.length en
          have el := raw_ent hpl ra
          have lb : ws.length ≤ 1002 := by
            rw [hl, List.length_map, List.length_take]
            omega
          refine ⟨ws, hD3, Nat.lt_of_le_of_lt lb (by decide), ws ++ [v], upd_same, ?_, ?_⟩
          · rw [take_more hg, List.map_append]
            have e4 := ents_snoc (en.same s3) el
            refine Paired.mapP e4 fun y o ey => ?_
            refine ey.keep ⟨fun a xs e => ?_, fun a xs e => ?_, fun a kvs e => ?_⟩
            · rw [upd_ne (ne_of e hD3 (by intro z; cases z))]
              exact e
            · by_cases ha : a = Dd
              · subst ha
                exact ⟨_, upd_same⟩
              · exact ⟨xs, by rw [upd_ne ha]; exact e⟩
            · rw [upd_ne (ne_of e hD3 (by intro z; cases z))]
              exact e
          · intro b o e
            rw [upd_ne (ne_of_none e hD)]
            exact s3 _ _ (s2 _ _ e)
      · rintro H2 ⟨ws, hD2, en, s2⟩
        rw [List.length_map, List.take_length] at en
        exact q Dd ws H2 (st s1 s2) hD2 en
end
end SQ9
namespace SQ9
open PySem L2 SQ
def nameOf (p : Str) : Str := (Txt.split p " ").headD ""
def namesOf (x : Str) : List Str := (partsOf x).map nameOf
/-- whether a text is that of a vocabulary -/
def goodText (x : Str) : Bool := decide ((partsOf x).length ≤ 8) && ((partsOf x).all fun p => (entryOf p).isSome) && decide (namesOf x).Nodup && PyProof.Rows.sortedS (namesOf x)
theorem etext_join (n : Str) (i j : Int) : etext n i j = Str.join " " [n, ((toString i : String) : Str), ((toString j : String) : Str)] := by
  apply str_ext
  rw [tl_join]
  unfold etext
  simp only [str_app, List.map_cons, List.map_nil, jn, List.append_assoc]
  rfl
theorem free_letters {n : Str} (h : isFree (.str n) = true) : ∀ c ∈ n.cps.toList, c ∈ letters := by
  have h' : (nameOk n && !decide (n ∈ cores)) = true := h
  rw [Bool.and_eq_true] at h'
  have h2 := h'.1
  unfold nameOk at h2
  rw [Bool.and_eq_true] at h2
  intro c hc
  exact of_decide_eq_true (List.all_eq_true.mp h2.2 c hc)
theorem num_signs {i : Int} (h0 : 0 ≤ i) (h1 : i ≤ 3) : ∀ c ∈ (((toString i : String) : Str)).cps.toList, c ∈ [48, 49, 50, 51] := by
  rcases four h0 h1 with rfl | rfl | rfl | rfl <;> decide +kernel
theorem letters_32 : 32 ∉ letters := by decide
theorem letters_44 : 44 ∉ letters := by decide
/-- the fields of an entry's text -/
theorem split_etext {n : Str} {i j : Int} (hf : isFree (.str n) = true) (i0 : 0 ≤ i) (i3 : i ≤ 3) (j0 : 0 ≤ j) (j3 : j ≤ 3) : Txt.split (etext n i j) " " = [n, ((toString i : String) : Str), ((toString j : String) : Str)] := by
  rw [etext_join]
  refine split_join (c := 32) (S := []) (by decide +kernel) (by decide +kernel) (fun z => nomatch z) ?_
  intro p hp
  simp only [List.mem_cons, List.not_mem_nil, or_false] at hp
  rcases hp with rfl | rfl | rfl
  · exact fun z => letters_32 (free_letters hf 32 z)
  · exact fun z => absurd (num_signs i0 i3 32 z) (by decide)
  · exact fun z => absurd (num_signs j0 j3 32 z) (by decide)
theorem etext_44 {n : Str} {i j : Int} (hf : isFree (.str n) = true) (i0 : 0 ≤ i) (i3 : i ≤ 3) (j0 : 0 ≤ j) (j3 : j ≤ 3) : 44 ∉ (etext n i j).cps.toList := by
  rw [etext_join, tl_join]
  intro z
  have z' : 44 ∈ n.cps.toList ++ ([32] ++ ((((toString i : String) : Str)).cps.toList ++ ([32] ++ (((toString j : String) : Str)).cps.toList))) := z
  simp only [List.mem_append] at z'
  rcases z' with z | z | z | z | z
  · exact letters_44 (free_letters hf 44 z)
  · exact absurd z (by decide)
  · exact absurd (num_signs i0 i3 44 z) (by decide)
  · exact absurd z (by decide)
  · exact absurd (num_signs j0 j3 44 z) (by decide)
/-- an entry and its text -/
theorem entry_ok {p n : Str} {i j : Int} (h : entryOf p = some (n, i, j)) : p = etext n i j ∧ isFree (.str n) = true ∧ (0 ≤ i ∧ i ≤ 3) ∧ (0 ≤ j ∧ j ≤ 3) ∧ nameOf p = n := by
  unfold entryOf at h
  cases hr : rawOf (Txt.split p " ") with
  | none =>
    rw [hr] at h
    cases h
  | some g =>
    obtain ⟨n', i', j'⟩ := g
    rw [hr] at h
    have h' : (if isFree (.str n') = true then some (n', i', j') else none) = some (n, i, j) := h
    by_cases hf : isFree (.str n') = true
    · rw [if_pos hf] at h'
      cases h'
      obtain ⟨hs, hi, hj⟩ := raw_ok hr
      refine ⟨?_, hf, hi, hj, ?_⟩
      · rw [etext_join, ← hs, join_split]
      · unfold nameOf
        rw [hs]
        rfl
    · rw [if_neg hf] at h'
      cases h'
theorem entry_of {n : Str} {i j : Int} (hf : isFree (.str n) = true) (i0 : 0 ≤ i) (i3 : i ≤ 3) (j0 : 0 ≤ j) (j3 : j ≤ 3) : entryOf (etext n i j) = some (n, i, j) := by
  unfold entryOf
  rw [split_etext hf i0 i3 j0 j3]
  show goodRaw ((digOf _).bind fun i => (digOf _).map fun j => (n, i, j)) = _
  rw [ar_dig i0 i3, ar_dig j0 j3]
  show (if isFree (.str n) = true then some (n, i, j) else none) = _
  rw [if_pos hf]
/-! ### parts and entries -/
theorem parts_some : ∀ {ps : List Str}, (ps.all fun p => (entryOf p).isSome) = true → ∃ gs : List G3, ps.map entryOf = gs.map some ∧ gnames gs = ps.map nameOf ∧ ps = gs.map fun g => etext g.1 g.2.1 g.2.2
  | [], _ => ⟨[], rfl, rfl, rfl⟩
  | p :: ps, h => by
    rw [List.all_cons, Bool.and_eq_true] at h
    obtain ⟨gs, e1, e2, e3⟩ := parts_some h.2
    obtain ⟨⟨n, i, j⟩, e⟩ := Option.isSome_iff_exists.mp h.1
    obtain ⟨k1, _, _, _, k5⟩ := entry_ok e
    refine ⟨(n, i, j) :: gs, ?_, ?_, ?_⟩
    · rw [List.map_cons, e, e1]
      rfl
    · show n :: gnames gs = nameOf p :: ps.map nameOf
      rw [k5, e2]
    · show p :: ps = etext n i j :: _
      rw [← k1, ← e3]
theorem some_parts : ∀ {ps : List Str} {gs : List G3}, ps.map entryOf = gs.map some → (ps.all fun p => (entryOf p).isSome) = true
  | [], _, _ => rfl
  | p :: ps, [], h => nomatch h
  | p :: ps, g :: gs, h => by
    rw [List.map_cons, List.map_cons, List.cons.injEq] at h
    rw [List.all_cons, h.1, some_parts h.2]
    rfl
theorem bad_none : ∀ (gs : List G3) (seen : List Str) (i : Nat), (gnames gs).Nodup → (∀ n ∈ gnames gs, n ∉ seen) → firstBad seen i (gs.map some) = none
  | [], _, _, _, _ => rfl
  | (n, a, b) :: gs, seen, i, nd, h => by
    obtain ⟨n1, n2⟩ := List.nodup_cons.mp nd
    show (if n ∈ seen then some i else firstBad (n :: seen) (i + 1) (gs.map some)) = none
    rw [if_neg (h n List.mem_cons_self)]
    refine bad_none gs (n :: seen) (i + 1) n2 fun m hm => ?_
    intro z
    rcases List.mem_cons.mp z with e | e
    · exact n1 (e ▸ hm)
    · exact h m (List.mem_cons_of_mem _ hm) e
theorem none_verdict {gs : List G3} (nd : (gnames gs).Nodup) (h8 : gs.length ≤ 8) : verdict (gs.map some) = none := by
  unfold verdict
  rw [if_neg (by rw [List.length_map]; omega), bad_none gs [] 0 nd (fun n _ z => nomatch z)]
  rfl
theorem ar_self : ∀ {gs : List G3}, (gnames gs).Nodup → ∀ g ∈ gs, arOf gs g.1 = g.2
  | [], _, g, h => nomatch h
  | g0 :: gs, nd, g, h => by
    obtain ⟨n1, n2⟩ := List.nodup_cons.mp nd
    unfold arOf
    rcases List.mem_cons.mp h with rfl | h
    · rw [List.find?_cons_of_pos (by simp)]
      rfl
    · have ne : ¬ g0.1 = g.1 := fun z => n1 (List.mem_map.mpr ⟨g, h, z.symm⟩)
      rw [List.find?_cons_of_neg (by simpa using ne)]
      exact ar_self n2 g h
theorem text_self {gs : List G3} (nd : (gnames gs).Nodup) : vtext gs (gnames gs) = Str.join ", " (gs.map fun g => etext g.1 g.2.1 g.2.2) := by
  show Builtin.Str.glued ", " _ = _
  rw [StrLaws.glued_eq_join]
  congr 1
  unfold gnames
  rw [List.map_map]
  refine List.map_congr_left fun g hg => ?_
  show etext g.1 (arOf gs g.1).1 (arOf gs g.1).2 = _
  rw [ar_self nd g hg]
theorem read_good {x : Str} (h : goodText x = true) : ∃ gs : List G3, ensOf x = gs.map some ∧ verdict (gs.map some) = none ∧ ∀ ys : List Str, ys.Perm (gnames gs) → PyProof.Rows.sortedS ys = true → vtext gs ys = x := by
  unfold goodText at h
  rw [Bool.and_eq_true, Bool.and_eq_true, Bool.and_eq_true] at h
  obtain ⟨⟨⟨h8, ha⟩, hn⟩, hs⟩ := h
  obtain ⟨gs, e1, e2, e3⟩ := parts_some ha
  have nd : (gnames gs).Nodup := by
    rw [e2]
    exact of_decide_eq_true hn
  have hl : gs.length ≤ 8 := by
    have := of_decide_eq_true h8
    rw [e3, List.length_map] at this
    exact this
  refine ⟨gs, e1, none_verdict nd hl, fun ys hp hy => ?_⟩
  have e : ys = gnames gs := sorted_one hy (by rw [e2]; exact hs) hp
  rw [e, text_self nd, ← e3]
  by_cases h0 : x = ""
  · unfold partsOf
    rw [if_pos h0, h0]
    rfl
  · unfold partsOf
    rw [if_neg h0, join_split]
theorem read_bad {x : Str} (h : goodText x = false) {gs : List G3} (eg : ensOf x = gs.map some) (hv : verdict (gs.map some) = none) {ys : List Str} (hp : ys.Perm (gnames gs)) (hy : PyProof.Rows.sortedS ys = true) : vtext gs ys ≠ x := by
  intro ex
  have ha : ((partsOf x).all fun p => (entryOf p).isSome) = true := some_parts eg
  obtain ⟨gs', e1, e2, e3⟩ := parts_some ha
  have eg' : gs' = gs := by
    have z : gs'.map some = gs.map some := e1.symm.trans eg
    exact List.map_inj_right (fun a b hab => Option.some.inj hab) |>.mp z
  subst eg'
  obtain ⟨gs2, z2, nd, h8⟩ := verdict_none hv
  have eg2 : gs' = gs2 := List.map_inj_right (fun a b hab => Option.some.inj hab) |>.mp z2
  subst eg2
  have hl : (partsOf x).length ≤ 8 := by
    rw [e3, List.length_map]
    exact h8
  have good : ∀ g ∈ gs', isFree (.str g.1) = true ∧ (0 ≤ g.2.1 ∧ g.2.1 ≤ 3) ∧ 0 ≤ g.2.2 ∧ g.2.2 ≤ 3 := by
    intro g hg
    have hm : some g ∈ (partsOf x).map entryOf := by
      have e1' : (partsOf x).map entryOf = gs'.map some := e1
      rw [e1']
      exact List.mem_map.mpr ⟨g, hg, rfl⟩
    obtain ⟨p, _, hpe⟩ := List.mem_map.mp hm
    obtain ⟨_, k2, k3, k4, _⟩ := entry_ok hpe
    exact ⟨k2, k3, k4⟩
  have hsorted : PyProof.Rows.sortedS (gnames gs') = true := by
    by_cases h0 : x = ""
    · have ep : partsOf x = [] := by
        unfold partsOf
        rw [if_pos h0]
      rw [e2, ep]
      rfl
    · have gy : ∀ n ∈ ys, isFree (.str n) = true ∧ (0 ≤ (arOf gs' n).1 ∧ (arOf gs' n).1 ≤ 3) ∧ 0 ≤ (arOf gs' n).2 ∧ (arOf gs' n).2 ≤ 3 := by
        intro n hn
        obtain ⟨g, hg, e, ea⟩ := ar_mem (hp.mem_iff.mp hn)
        rw [ea, ← e]
        exact good g hg
      have ep : partsOf x = Txt.split x ", " := by
        unfold partsOf
        rw [if_neg h0]
      have ne : ys ≠ [] := by
        intro z
        rw [z] at ex
        exact h0 (by rw [← ex]; rfl)
      have ex' : Str.join ", " (ys.map fun n => etext n (arOf gs' n).1 (arOf gs' n).2) = x := by
        rw [← ex]
        show _ = Builtin.Str.glued ", " _
        rw [StrLaws.glued_eq_join]
      have sp : Txt.split x ", " = ys.map fun n => etext n (arOf gs' n).1 (arOf gs' n).2 := by
        rw [← ex']
        refine split_join (c := 44) (S := [32]) (by decide +kernel) (by decide +kernel) (fun z => ne (List.map_eq_nil_iff.mp z)) ?_
        intro p hp
        obtain ⟨n, hn, rfl⟩ := List.mem_map.mp hp
        obtain ⟨k1, ⟨k2, k3⟩, k4, k5⟩ := gy n hn
        exact etext_44 k1 k2 k3 k4 k5
      have en : gnames gs' = ys := by
        rw [e2, ep, sp, List.map_map]
        have z : ∀ n ∈ ys, (nameOf ∘ fun n => etext n (arOf gs' n).1 (arOf gs' n).2) n = n := by
          intro n hn
          obtain ⟨k1, ⟨k2, k3⟩, k4, k5⟩ := gy n hn
          show nameOf (etext n _ _) = n
          unfold nameOf
          rw [split_etext k1 k2 k3 k4 k5]
          rfl
        rw [List.map_congr_left z, List.map_id']
      rw [en]
      exact hy
  unfold goodText at h
  have nd' : (namesOf x).Nodup := by
    show ((partsOf x).map nameOf).Nodup
    rw [← e2]
    exact nd
  have hs' : PyProof.Rows.sortedS (namesOf x) = true := by
    show PyProof.Rows.sortedS ((partsOf x).map nameOf) = true
    rw [← e2]
    exact hsorted
  rw [decide_eq_true hl, ha, decide_eq_true nd', hs'] at h
  cases h
end SQ9
namespace SQ9
open PySem L2 SQ
/-- InvalidText as the top has made it -/
structure TC (K : PySem.W.Frag) (mg : Str → Option Value) (CT fJ : Addr) : Prop where
  g : mg "InvalidText" = some (.ref CT)
  T : ErrC K CT "value" [.type "ValueError", .type "Exception", .type "BaseException", .type "object"] "ValueError.__new__"
  J : ErrI K CT fJ "value"
  ty : PySem.W.typeIn K (.ref CT) = some (.type "type")
def spRd (K : PySem.W.Frag) (C CT : Addr) : Sp := fun vs H Q E => ∃ v : V, vs = [v] ∧ ((∃ t, TyX K H v t ∧ PySem.W.kitOne K t (.type "str") = some false ∧ ∀ d H', Same H H' → H' d = some (.xd [("value", v)]) → E (.ref CT) (some d) H') ∨
  (∃ x : Str, v = .str x ∧ x.length ≤ 1000 ∧ (goodText x = true → ∀ (o : Addr) (H' : Hp) (gs : List G3) (ys : List Str), Same H H' → ensOf x = gs.map some → ys.Perm (gnames gs) → PyProof.Rows.sortedS ys = true → Vc C H' o gs ys → Q (.ref o) H') ∧ (goodText x = false → ∀ d H', Same H H' → H' d = some (.xd [("value", v)]) → E (.ref CT) (some d) H')))
theorem new_ins {C x dx : Addr} {H : Hp} (nx : H x = none) (ndx : H dx = none) (ne : dx ≠ x) : Same H (upd (upd H dx (.own x)) x (.ins C dx [])) := same_new (same_new (fun _ _ e => e) ndx) (by rw [upd_ne (Ne.symm ne)]; exact nx)
/-- Vocabulary(..), refused or not -/
theorem init_any {C CE : Addr} {H2 : Hp} {vs : List V} {os : List En} {E : XK} {R : Hp → Prop} {x dx : Addr} (nx : H2 x = none) (ndx : H2 dx = none) (ne : dx ≠ x) (hes : Ents H2 vs os) (hl : vs.length ≤ 2000)
    (kE : ∀ idx, verdict os = some idx → ∀ d H', Same H2 H' → H' d = some (.xd [("index", idx)]) → E (.ref CE) (some d) H')
    (kQ : verdict os = none → ∀ gs : List G3, os = gs.map some → ∀ (H' : Hp) (ys : List Str), ys.Perm (gnames gs) → PyProof.Rows.sortedS ys = true → Same H2 H' → Vc C H' x gs ys → R H') :
    spInit C CE (V.ref x :: vs) (upd (upd H2 dx (.own x)) x (.ins C dx [])) (fun v H' => v = .non ∧ R H') E := by
  have s1 : Same H2 (upd (upd H2 dx (.own x)) x (.ins C dx [])) := new_ins nx ndx ne
  refine ⟨[.ref x], vs, rfl, rfl, Nat.le_trans hl (by decide), fun p hp => ?_⟩
  have s2 : Same (upd (upd H2 dx (.own x)) x (.ins C dx [])) (upd (upd (upd H2 dx (.own x)) x (.ins C dx [])) p (.tup vs)) := same_new (fun _ _ e => e) hp
  refine ⟨x, dx, p, vs, os, rfl, s2 _ _ upd_same, upd_same, hes.same (st s1 s2), hl, fun idx h' d H' s' hd => kE idx h' d H' (st s1 (st s2 s')) hd, fun hv gs eg H' ys hp' hs' bt hx => ?_⟩
  exact ⟨rfl, kQ hv gs eg H' ys hp' hs' (fun b o e => bt b o (s2 _ _ (s1 _ _ e)) (ne_of_none e nx)) hx⟩
section
variable {P : Program} {w : World} {K : PySem.W.Frag} {mg : Str → Option Value} {base : Heap} {dD fSE fSS C CE CT fI fJ fIn : Addr} {es : Array DictEntry} {nn : Nat} {dSE dSS : FuncData}
theorem scRd : FnScope ["text", "entries", "vocabulary"] ["text"] (defScope sRd) := ⟨rfl, rfl, rfl, by decide +kernel, rfl, by decide +kernel, by decide +kernel⟩
theorem ok_rd {f : Addr} {fd : FuncData} (F : Fun K "read" "Vocabulary.read" sRd f fd) (S : S3 K mg fSE fSS dSE dSS) (B : B2 mg) (D : Dg K w mg dD es nn) (Z : EC K mg CE fI) (ex : PySem.W.exmOne K (.ref CE) (.ref CE) = some true) (ZT : TC K mg CT fJ) (VV : VC K mg C) (MK : Mk K C fIn)
    (GI : FnR P w K mg base (L2N.CX P w) 5 fIn (spInit C CE)) : FnOk P w K mg base (L2.CX P w) 7 f fd ["text"] (spRd K C CT) := by
  have GS : FnOk P w K mg base CX0 2 fSS dSS ["text"] spSS := ok_ss S B D
  refine F.okX scRd (fun vs H Q E h => ?_) (fun cdv A outer s H vs Q E hr h => ?_)
  · obtain ⟨v, rfl, _⟩ := h
    rfl
  · obtain ⟨v, rfl, h⟩ := h
    have hdp := dp_of hr
    refine ⟨_, pss_cons (ps_if (pt_not (pt_val (pe_callB call_isi (by rfl) B.isi (by decide +kernel) (pa_cons (pv 0) (pa_cons (pe_bltn (v := .ty "str") (by rfl) B.str (by decide +kernel) rfl) pa_nil)))))
        (pss_one (ps_raise rfl (takes_of rfl rfl rfl rfl) (pmk_of5 (pmk5_err (.inl rfl) bValue ZT.T ZT.J ZT.ty ZT.g (dp_of hr) rfl (pv 0))))) pss_nil)
      (pss_cons (ps_set (i := 1) scRd.nd rfl (.inl rfl) (pe_call GS (hr.mono (by decide)) rfl S.gS S.FS.kp S.bS .nil pass0 (pa_cons (pv 0) pa_nil)))
      (pss_cons (L2H.ps_try_onlyX (c := .ref CE) rfl rfl ⟨rfl, by decide, .inl Z.g⟩ (fun hd => PassesOwnAt.leaving) (takes_of rfl rfl rfl rfl)
          (by intro W pn xe tkN tkP po; exact pss_one (ps_set (i := 2) scRd.nd rfl (.inl rfl) (pe_makeST K rfl MK GI hr rfl VV.g (fun σ => L2N.passAt tkN σ) (pv 1))))
          (by intro a oe cls d pn hz hf tk hot; exact pss_one (L2H.ps_raiseHN hot tk (pmk5_err (.inl rfl) bValue ZT.T ZT.J ZT.ty ZT.g hdp rfl (pv 0)))))
      (pss_cons (ps_if (pt_cmpR op_ne (pe_fld (pv 2) rfl) (pv 0) (nomark _)) (pss_one (ps_raise rfl (takes_of rfl rfl rfl rfl) (pmk_of5 (pmk5_err (.inl rfl) bValue ZT.T ZT.J ZT.ty ZT.g (dp_of hr) rfl (pv 0))))) pss_nil)
      (pss_one (ps_ret (pv 2)))))), ?_⟩
    rcases h with ⟨t, ty, ki, kE⟩ | ⟨x, rfl, hx, kG, kB⟩
    · refine ⟨_, rfl, v, .ty "str", t, .type "str", false, rfl, .ty "str", ty, ki, _, rfl, iteT ⟨_, rfl, fun d nd => ?_⟩⟩
      exact kE d _ (same_new (fun _ _ e => e) nd) upd_same
    · refine ⟨_, rfl, .str x, .ty "str", .type "str", .type "str", true, rfl, .ty "str", .base (.str x), kit_ty (by decide +kernel), _, rfl, iteF ?_⟩
      refine ⟨_, rfl, x, rfl, hx, fun l ws H1 s1 hl en => ?_⟩
      have hlen : ws.length ≤ 2000 := by
        have := Paired.length en
        unfold ensOf partsOf at this
        rw [this, List.length_map]
        split
        · exact Nat.zero_le _
        · exact Nat.le_trans (PyProof.Rows.split_le x ", ") (by omega)
      refine ⟨_, rfl, l, ws, rfl, .inr (SqL.of hl), fun o dx no ndx ne => init_any no ndx ne en hlen ?_ ?_⟩
      · intro idx hv d H' s' hd
        refine ⟨true, ex, fun _ a ha => ⟨_, rfl, fun d2 nd2 => ?_⟩, fun z => nomatch z⟩
        refine kB ?_ d2 _ (same_new (st s1 s') nd2) upd_same
        cases hg : goodText x with
        | false => rfl
        | true =>
          obtain ⟨gs, e1, e2, _⟩ := read_good hg
          rw [e1, e2] at hv
          cases hv
      · intro hv gs eg H' ys hp hs s' hV
        have hV' := hV
        obtain ⟨dx', dA, tN, kvs, ho, _⟩ := hV'
        rw [eg] at hv
        refine ⟨_, rfl, o, C, dx', _, _, rfl, ho, VV.cl, VV.nT, rfl, _, rfl, rfl, _, rfl, ?_⟩
        by_cases he : vtext gs ys = x
        · have hg : goodText x = true := by
            cases hg : goodText x with
            | true => rfl
            | false => exact absurd he (read_bad hg eg hv hp hs)
          refine iteNS (by rw [he]) ⟨_, rfl, ?_⟩
          exact kG hg o H' gs ys (st s1 s') eg hp hs hV
        · have hg : goodText x = false := by
            cases hg : goodText x with
            | false => rfl
            | true =>
              obtain ⟨gs2, e1, _, e3⟩ := read_good hg
              have z : gs2 = gs := List.map_inj_right (fun a b hab => Option.some.inj hab) |>.mp (e1.symm.trans eg)
              subst z
              exact absurd (e3 ys hp hs) he
          have nv : ¬ V.str (vtext gs ys) = V.str x := fun z => he (V.str.inj z)
          rw [decide_eq_false nv]
          refine iteT ⟨_, rfl, fun d nd => ?_⟩
          exact kB hg d _ (same_new (st s1 s') nd) upd_same
end
end SQ9
namespace SQ9
open PySem L2 SQ
abbrev sVk : Stmt := top 98
/-! ### the vocabulary of drawn words -/
def keyT (H : Hp) (x : V) : G3 := match x with
  | .ref t => match H t with
    | some (.tup [.str n, .int i, .int j]) => (n, i, j)
    | _ => ("", 0, 0)
  | _ => ("", 0, 0)
theorem Trs.key {H : Hp} : ∀ {xs : List V} {es : List G3}, Trs H xs es → xs.map (keyT H) = es
  | _, _, .nil => rfl
  | _, _, .cons r t => by
    obtain ⟨a, e1, e2⟩ := r
    rw [List.map_cons, Trs.key t, e1]
    unfold keyT
    simp only [e2]
theorem Trs.each {H : Hp} : ∀ {xs : List V} {es : List G3}, Trs H xs es → ∀ x ∈ xs, ∃ t, x = V.ref t ∧ H t = some (.tup [.str (keyT H x).1, .int (keyT H x).2.1, .int (keyT H x).2.2])
  | _, _, .nil, x, h => nomatch h
  | _, _, .cons r t, x, h => by
    rcases List.mem_cons.mp h with rfl | h
    · obtain ⟨a, e1, e2⟩ := r
      refine ⟨a, e1, ?_⟩
      rw [e1]
      unfold keyT
      simp only [e2]
    · exact Trs.each t x h
theorem Trs.of {H : Hp} : ∀ {xs : List V}, (∀ x ∈ xs, ∃ t, x = V.ref t ∧ H t = some (.tup [.str (keyT H x).1, .int (keyT H x).2.1, .int (keyT H x).2.2])) → Trs H xs (xs.map (keyT H))
  | [], _ => .nil
  | x :: xs, h => .cons (h x List.mem_cons_self) (Trs.of fun y hy => h y (List.mem_cons_of_mem _ hy))
theorem rising_of : ∀ (l : List Str) (p : Str), (p :: l).Pairwise (fun a b => ¬ b.cps.toList < a.cps.toList) → PyProof.Rows.risingS p l = true
  | [], p, _ => rfl
  | x :: l, p, h => by
    obtain ⟨h1, h2⟩ := List.pairwise_cons.mp h
    show (!Spec.ltCps x.cps.toList p.cps.toList && PyProof.Rows.risingS x l) = true
    rw [PyProof.Rows.ltCps_eq, decide_eq_false (h1 x List.mem_cons_self), rising_of l x h2]
    rfl
theorem sorted_of {l : List Str} (h : l.Pairwise fun a b => ¬ b.cps.toList < a.cps.toList) : PyProof.Rows.sortedS l = true := by
  cases l with
  | nil => rfl
  | cons x l => exact rising_of l x h
theorem srt3_names {S : List G3} (h : S.Pairwise fun x y => lex3 y x = false) : PyProof.Rows.sortedS (gnames S) = true := by
  refine sorted_of ?_
  unfold gnames
  rw [List.pairwise_map]
  refine h.imp fun {x y} e => ?_
  by_cases z : y.1 = x.1
  · rw [z]
    exact List.lt_irrefl _
  · exact cps_asym ((lex3_no z).mp e)
theorem Knd.perm {gs S : List G3} (k : Knd gs) (p : S.Perm gs) : Knd S := by
  refine ⟨(p.map (fun g : G3 => g.1)).nodup_iff.mpr k.nd, fun g hg => k.fr g (p.mem_iff.mp hg), fun g hg => k.ar g (p.mem_iff.mp hg), by rw [p.length_eq]; exact k.few⟩
def etx3 (g : G3) : Str := etext g.1 g.2.1 g.2.2
def lineS (S : List G3) : Str := Str.join ", " (S.map etx3)
theorem nil_str {x : Str} (h : x.cps.toList = []) : x = "" := str_ext (by rw [h]; rfl)
theorem e3_ne {g : G3} (hf : isFree (.str g.1) = true) (ha : (0 ≤ g.2.1 ∧ g.2.1 ≤ 3) ∧ 0 ≤ g.2.2 ∧ g.2.2 ≤ 3) : ¬ etx3 g = "" := fun z => by
  have h2 := split_etext hf ha.1.1 ha.1.2 ha.2.1 ha.2.2
  have z' : etext g.1 g.2.1 g.2.2 = "" := z
  rw [z'] at h2
  have h3 : (Txt.split ("" : Str) " ").length = 1 := by decide +kernel
  rw [h2] at h3
  cases h3
theorem line_parts {S : List G3} (k : Knd S) : partsOf (lineS S) = S.map etx3 := by
  unfold partsOf
  cases S with
  | nil =>
    rw [if_pos (by rfl)]
    rfl
  | cons g S =>
    have hn := e3_ne (k.fr g List.mem_cons_self) (k.ar g List.mem_cons_self)
    have ne0 : ¬ lineS (g :: S) = "" := fun z => by
      have h4 : (Str.join ", " ((g :: S).map etx3)).cps.toList = [] := by
        show (lineS (g :: S)).cps.toList = []
        rw [z]
        rfl
      rw [tl_join] at h4
      refine hn (nil_str ?_)
      have h5 : jn (", " : Str).cps.toList ((etx3 g).cps.toList :: (S.map etx3).map fun x => x.cps.toList) = [] := h4
      cases hp : (S.map etx3).map fun x => x.cps.toList with
      | nil =>
        rw [hp] at h5
        exact h5
      | cons y r =>
        rw [hp] at h5
        have h6 : (etx3 g).cps.toList ++ ((", " : Str).cps.toList ++ jn (", " : Str).cps.toList (y :: r)) = [] := h5
        exact (List.append_eq_nil_iff.mp h6).1
    rw [if_neg ne0]
    refine split_join (c := 44) (S := [32]) (by decide +kernel) (by decide +kernel) (by simp) fun p hp => ?_
    obtain ⟨m, hm', rfl⟩ := List.mem_map.mp hp
    obtain ⟨hi, hj⟩ := k.ar m hm'
    exact etext_44 (k.fr m hm') hi.1 hi.2 hj.1 hj.2
theorem line_ens {S : List G3} (k : Knd S) : ensOf (lineS S) = S.map some := by
  unfold ensOf
  rw [line_parts k, List.map_map]
  refine List.map_congr_left fun g hg => ?_
  obtain ⟨hi, hj⟩ := k.ar g hg
  exact entry_of (k.fr g hg) hi.1 hi.2 hj.1 hj.2
theorem line_good {S : List G3} (k : Knd S) (so : PyProof.Rows.sortedS (gnames S) = true) : goodText (lineS S) = true := by
  have hpt := line_parts k
  have hn : namesOf (lineS S) = gnames S := by
    unfold namesOf gnames
    rw [hpt, List.map_map]
    refine List.map_congr_left fun g hg => ?_
    obtain ⟨hi, hj⟩ := k.ar g hg
    show nameOf (etext g.1 g.2.1 g.2.2) = g.1
    unfold nameOf
    rw [split_etext (k.fr g hg) hi.1 hi.2 hj.1 hj.2]
    rfl
  unfold goodText
  rw [hn, so, hpt]
  simp only [Bool.and_eq_true, decide_eq_true_eq, and_true]
  refine ⟨⟨?_, ?_⟩, k.nd⟩
  · rw [List.length_map]
    exact k.few
  · rw [List.all_eq_true]
    intro p hp'
    obtain ⟨g, hg, rfl⟩ := List.mem_map.mp hp'
    obtain ⟨hi, hj⟩ := k.ar g hg
    show (entryOf (etext g.1 g.2.1 g.2.2)).isSome = true
    rw [entry_of (k.fr g hg) hi.1 hi.2 hj.1 hj.2]
    rfl
theorem map_some_inj {α : Type} : ∀ {a b : List α}, a.map some = b.map some → a = b
  | [], [], _ => rfl
  | [], _ :: _, h => by cases h
  | _ :: _, [], h => by cases h
  | x :: a, y :: b, h => by
    rw [List.map_cons, List.map_cons, List.cons.injEq] at h
    rw [Option.some.inj h.1, map_some_inj h.2]
theorem join_le (sep : Str) : ∀ {l : List Str} {B : Nat}, (∀ x ∈ l, x.length ≤ B) → (Str.join sep l).length ≤ l.length * (B + sep.length)
  | [], B, _ => Nat.zero_le _
  | [x], B, h => by
    have := h x List.mem_cons_self
    show x.length ≤ 1 * _
    omega
  | x :: y :: l, B, h => by
    have h1 := h x List.mem_cons_self
    have ih := join_le sep (l := y :: l) (B := B) fun z hz => h z (List.mem_cons_of_mem _ hz)
    show (x ++ sep ++ Str.join sep (y :: l)).length ≤ _
    rw [Str.length_append, Str.length_append, List.length_cons, Nat.succ_mul]
    omega
theorem num_len3 {i : Int} (h0 : 0 ≤ i) (h1 : i ≤ 3) : (((toString i : String) : Str)).length ≤ 3 := by
  have all : ∀ k ∈ List.range 4, ((toString ((k : Nat) : Int) : String) : Str).length ≤ 3 := by decide +kernel
  have := all i.toNat (List.mem_range.mpr (by omega))
  rwa [Int.toNat_of_nonneg h0] at this
theorem ix_tupK {X : Cx} (K : PySem.W.Frag) (h : X.K = K) : IxR X (rIxT K) := h ▸ ix_tup
theorem passX {X : Cx} : Passes (L2.CX X.prog X.w) X E0 := fun _ _ _ _ _ _ _ ⟨_, _, _, _, _, _, _, _, _, _, _, _, h⟩ => (show False from h).elim
theorem e3_eq (g : G3) : g.1 ++ " " ++ ((toString g.2.1 : String) : Str) ++ " " ++ ((toString g.2.2 : String) : Str) = etx3 g := by
  apply str_ext
  unfold etx3 etext
  have e0 : Str.empty.cps.toList = [] := rfl
  simp only [str_app, e0, List.nil_append]
section
variable {P : Program} {w : World} {K : PySem.W.Frag} {mg : Str → Option Value} {base : Heap}
structure VoD (P : Program) (w : World) (K : PySem.W.Frag) (mg : Str → Option Value) (base : Heap) (C CT smp fRd : Addr) (mc : Value) : Prop where
  g : mg "Vocabulary" = some (.ref C)
  SM : SMet K C mc "read" smp fRd
  GR : FnR P w K mg base (L2.CX P w) 7 fRd (spRd K C CT)
  so : mg "sorted" = none
/-- the vocabulary with the words gs -/
structure Voc (C : Addr) (H : Hp) (o : Addr) (gs : List G3) (S : List G3) : Prop where
  vo : Vo9 C H o S (gnames S)
  pm : S.Perm gs
  kn : Knd S
theorem Voc.same {C o : Addr} {H H' : Hp} {gs S : List G3} (s : Same H H') (h : Voc C H o gs S) : Voc C H' o gs S := ⟨h.vo.same s, h.pm, h.kn⟩
def spVk (C : Addr) : Sp := fun vs H Q _ => ∃ (a : Addr) (xs : List V) (gs : List G3), vs = [.ref a] ∧ H a = some (.lst xs) ∧ Trs H xs gs ∧ Knd gs ∧ ∀ (o : Addr) (S : List G3) (H' : Hp), Same H H' → Voc C H' o gs S → Q (.ref o) H'
abbrev nVk : List Str := ["_law_kinds_here", "_law_found", "_law_kind"]
theorem scVk : FnScope nVk ["_law_kinds_here"] (defScope sVk) := ⟨rfl, rfl, rfl, by decide +kernel, rfl, by decide +kernel, by decide +kernel⟩
theorem ok_vk {f C CT smp fRd : Addr} {mc : Value} {fd : FuncData} (F : Fun K "_law_vocabulary" "_law_vocabulary" sVk f fd) (B : B2 mg) (Vd : VoD P w K mg base C CT smp fRd mc) : FnOk P w K mg base CX0 8 f fd ["_law_kinds_here"] (spVk C) := by
  refine F.ok scVk (fun vs H Q E h => ?_) (fun cdv A outer s H vs Q E hr h => ?_)
  · obtain ⟨a, xs, gs, rfl, _⟩ := h
    rfl
  · obtain ⟨a, xs, gs, rfl, ha, ht, k, q⟩ := h
    refine ⟨_, pss_cons (ps_setLc (i := 1) (own := [("_law_kind", 2)]) (g := gName 2) (tt := tYes) rfl scVk.nd rfl rfl rfl (pi_list (pe_callB cr_sorted3 (by rfl) Vd.so (by decide +kernel) (pa_cons (pv 0) pa_nil))) (blkOk_by (N := nVk) (sc := defScope sVk) (by decide +kernel)) (fun _ _ _ _ _ => pg_name (i := 2) scVk.nd rfl (.inl rfl)) (fun _ _ _ _ _ => pts_nil)
        (fun _ _ _ _ _ => pe_op op_add_str (pe_op op_add_str (pe_op op_add_str (pe_op op_add_str (pe_ix (ix_tupK K rfl) (pv 2) pe_int (fun _ _ => rfl)) pe_str) (pe_callTy call_str_int (by rfl) B.str (by decide +kernel) (pa_cons (pe_ix (ix_tupK K rfl) (pv 2) pe_int (fun _ _ => rfl)) pa_nil))) pe_str) (pe_callTy call_str_int (by rfl) B.str (by decide +kernel) (pa_cons (pe_ix (ix_tupK K rfl) (pv 2) pe_int (fun _ _ => rfl)) pa_nil))))
      (pss_one (ps_ret (pe_smeth (pe_glob (v := .ref C) rfl Vd.g rfl) Vd.SM Vd.GR hr passX (pa_cons (pe_join pe_str (pv 1)) pa_nil)))), ?_⟩
    refine seq_mid (fun σ G => ∃ p S, σ = [some (.ref a), some (.ref p), none] ∧ Same H G ∧ G p = some (.lst ((S.map etx3).map V.str)) ∧ S.Perm gs ∧ PyProof.Rows.sortedS (gnames S) = true) (fun N hN => ?_) ?_
    · refine ⟨_, rfl, a, xs, keyT H, rfl, SqL.of ha, ht.each, fun ys p so pm np => ?_⟩
      refine ⟨p, rfl, ⟨_, SqL.of upd_same⟩, fun D nD => ?_⟩
      generalize hS : ys.map (keyT H) = S
      have pS : S.Perm gs := by
        rw [← hS, ← ht.key]
        exact pm.map _
      have oS : PyProof.Rows.sortedS (gnames S) = true := srt3_names (by rw [← hS, List.pairwise_map]; exact so)
      have tS : Trs H ys S := by
        rw [← hS]
        exact Trs.of fun x hx => ht.each x (pm.mem_iff.mp hx)
      have kS := k.perm pS
      have sp : Same H (upd H p (.lst ys)) := same_new (fun _ _ e => e) np
      have lS : ys.length = S.length := tS.len
      have few := kS.few
      refine lc_list (K := K) (a := p) (xs := ys) (fun i G2 => Same (upd H p (.lst ys)) G2 ∧ G2 D = some (.lst (((S.take i).map etx3).map V.str))) ⟨same_new (fun _ _ e => e) nD, upd_same⟩ (fun i G2 _ h => SqL.of (h.1 _ _ upd_same)) ?_ ?_
      · rintro i v G2 hi ⟨s2, hD⟩
        obtain ⟨g, hg, t, rfl, e2⟩ := Paired.at tS hi
        have e3 := s2 _ _ (sp _ _ e2)
        have gm : g ∈ S := List.mem_of_getElem? hg
        obtain ⟨⟨i0, i3⟩, j0, j3⟩ := kS.ar g gm
        have n8 : g.1.length ≤ 8 := free_len (kS.fr g gm)
        have l1 := num_len3 i0 i3
        have l2 := num_len3 j0 j3
        have ls : (" " : Str).length = 1 := by decide +kernel
        have big : ∀ {k : Nat}, k ≤ 1000 → k ≤ sizeLine := fun h => Nat.le_trans h (by decide)
        refine ⟨rfl, keptT ⟨_, rfl, t, _, _, _, rfl, rfl, SqT.of e3, (show atI _ ((0 : Nat) : Int) = _ from atI_nat rfl), _, _, rfl, rfl, big (by omega), _, rfl, t, _, _, _, rfl, rfl, SqT.of e3, (show atI _ ((1 : Nat) : Int) = _ from atI_nat rfl), _, rfl, small_log i0 i3, _, _, rfl, rfl, big (by rw [Str.length_append]; omega), _, _, rfl, rfl, big (by rw [Str.length_append, Str.length_append]; omega), _, rfl, t, _, _, _, rfl, rfl, SqT.of e3, (show atI _ ((2 : Nat) : Int) = _ from atI_nat rfl), _, rfl, small_log j0 j3, _, _, rfl, rfl, big (by rw [Str.length_append, Str.length_append, Str.length_append]; omega), ?_⟩⟩
        rw [e3_eq]
        refine ⟨_, hD, ?_, ?_, ?_⟩
        · rw [List.length_map, List.length_map, List.length_take]
          exact Nat.lt_of_le_of_lt (by omega : _ ≤ 8) (by decide)
        · intro b ob e
          rw [upd_ne (ne_of_none e nD)]
          exact s2 _ _ e
        · rw [upd_same, take_more hg, List.map_append, List.map_append]
          rfl
      · rintro G2 ⟨s2, hD⟩
        rw [lS, List.take_length] at hD
        exact hN _ _ ⟨D, S, rfl, st sp s2, hD, pS, oS⟩
    rintro _ G ⟨p, S, rfl, sG, hp, pS, oS⟩
    have kS := k.perm pS
    have hpl : ∀ x ∈ S.map etx3, x.length ≤ 12 := fun x hx => by
      obtain ⟨g, hg, rfl⟩ := List.mem_map.mp hx
      obtain ⟨hi, hj⟩ := kS.ar g hg
      exact etext_len (free_len (kS.fr g hg)) hi.1 hi.2 hj.1 hj.2
    have few := kS.few
    refine ⟨rfl, ⟨_, rfl⟩, _, rfl, _, p, S.map etx3, rfl, rfl, .inl (SqL.of hp), ?_, ?_⟩
    · have a1 := sum_le (α := Str) (·.length) 12 (S.map etx3) hpl
      rw [List.length_map] at a1 ⊢
      have : (", " : Str).length = 2 := by decide +kernel
      rw [this]
      omega
    · have ev : Txt.join ", " (S.map etx3) = lineS S := TL.join_eq ", " _
      rw [ev]
      have hgood := line_good kS oS
      have hlen : (lineS S).length ≤ 1000 := by
        have a3 := join_le ", " hpl
        have : (", " : Str).length = 2 := by decide +kernel
        rw [List.length_map, this] at a3
        show (Str.join ", " (S.map etx3)).length ≤ 1000
        omega
      refine ⟨.str (lineS S), rfl, .inr ⟨lineS S, rfl, hlen, fun _ o H' gs' ys' s' eg hp' hs' hV => ?_, fun z => absurd z (by rw [hgood]; decide)⟩⟩
      have e4 : gs' = S := map_some_inj (eg.symm.trans (line_ens kS))
      subst e4
      have e6 : ys' = gnames gs' := sorted_one hs' oS hp'
      subst e6
      refine q o gs' H' (st sG s') ⟨⟨hV, fun n hn => hn, fun n hn => ?_, ?_⟩, pS, kS⟩
      · obtain ⟨g, hg, e1, e2⟩ := ar_mem hn
        rw [e2]
        exact kS.ar g hg
      · unfold gnames
        rw [List.length_map]
        omega
end
end SQ9
namespace SQ9
open PySem L2 SQ
abbrev sLn : Stmt := top 99
abbrev sNu : Stmt := top 101
abbrev sSd : Stmt := top 102
theorem op_mulS {X : Cx} : OpR X (binaryOp .Mult) (fun x y H Q => ∃ (a : Str) (n : Int), x = .str a ∧ y = .int n ∧ MulOk a n ∧ Q (.str (Txt.mul a n)) H) := by
  intro pins s σ H x y v u Q I rx ry h
  obtain ⟨a, n, rfl, rfl, hok, q⟩ := h
  obtain ⟨t, rfl⟩ := rx
  obtain ⟨t2, rfl⟩ := ry
  exact PySem.SB.mul hok fun t' k => ⟨.str _, H, I.tok k, ⟨t', rfl⟩, q⟩
theorem mul_ok {x : Str} {n : Int} (h0 : 0 ≤ n) (h1 : n ≤ 100) (hx : x.length ≤ 100) : MulOk x n := by
  refine ⟨?_, fun a _ => ?_, fun a _ => ?_⟩
  · rw [decide_eq_false (by omega), decide_eq_false (by omega)]
    rfl
  · have : (100 : Int) ≤ (2 ^ 63 - 1) / n := by
      rw [Int.le_ediv_iff_mul_le (by omega)]
      omega
    omega
  · have h2 : x.length * n.toNat ≤ 100 * 100 := Nat.mul_le_mul hx (by omega)
    unfold Builtin.Str.tooLong sizeLine
    exact decide_eq_false (by omega)
/-- a shuffle as it is drawn -/
structure Shu (x y : Str) : Prop where
  nd : x.cps.toList.Nodup
  abc : ∀ c ∈ x.cps.toList, c ∈ letters
  five : x.length ≤ 5
  sub : ∀ c ∈ y.cps.toList, c ∈ x.cps.toList
  eight : y.length ≤ 8
def shW (x y : Str) : Str := "(" ++ x ++ "-" ++ y ++ ")"
def shP (x y : Str) : List Nat := y.cps.toList.map fun c => x.cps.toList.idxOf c
section
variable {P : Program} {w : World} {K : PySem.W.Frag} {mg : Str → Option Value} {base : Heap}
/-! ### _law_line of one shuffle -/
def spLn : Sp := fun vs H Q _ => ∃ (a t : Addr) (x y : Str), vs = [.ref a] ∧ H a = some (.lst [.ref t]) ∧ H t = some (.tup [.str "shuffle", .str x, .str y]) ∧ Shu x y ∧ ∀ H', Same H H' → Q (.str (shW x y)) H'
abbrev nLn : List Str := ["_law_items", "_law_found", "_law_item"]
theorem scLn : FnScope nLn ["_law_items"] (defScope sLn) := ⟨rfl, rfl, rfl, by decide +kernel, rfl, by decide +kernel, by decide +kernel⟩
theorem join_one9 (x : Str) : Txt.join " " [x] = x := by
  rw [TL.join_eq]
  rfl
theorem ok_ln {f : Addr} {fd : FuncData} (F : Fun K "_law_line" "_law_line" sLn f fd) : FnOk P w K mg base CX0 1 f fd ["_law_items"] spLn := by
  refine F.ok scLn (fun vs H Q E h => ?_) (fun cdv A outer s H vs Q E hr h => ?_)
  · obtain ⟨a, t, x, y, rfl, _⟩ := h
    rfl
  · obtain ⟨a, t, x, y, rfl, ha, ht, hS, q⟩ := h
    refine ⟨_, pss_cons (ps_set (i := 1) scLn.nd rfl (.inl rfl) (pe_lst pa_nil))
      (pss_cons (ps_for PassesOwn.never rfl (pi_list (pv 0)) (pg_name (i := 2) scLn.nd rfl (.inl rfl))
        (pss_one (ps_if (pt_cmpR op_eq (pe_ix ix_tup (pv 2) pe_int (fun _ _ => rfl)) pe_str (nomark _)) (pss_one ps_never)
          (pss_one (ps_if (pt_cmpR op_eq (pe_ix ix_tup (pv 2) pe_int (fun _ _ => rfl)) pe_str (nomark _))
            (pss_one (ps_expr (pe_bm PySem.F.plainAttrs_list PySem.F.slot_list_append PySem.F.type_list_append mt_append (pv 1) (pa_cons (pe_op op_add_str (pe_op op_add_str (pe_op op_add_str (pe_op op_add_str pe_str (pe_ix ix_tup (pv 2) pe_int (fun _ _ => rfl))) pe_str) (pe_ix ix_tup (pv 2) pe_int (fun _ _ => rfl))) pe_str) pa_nil))))
            (pss_one ps_never))))))
      (pss_one (ps_ret (pe_join pe_str (pv 1))))), ?_⟩
    have big : ∀ {k : Nat}, k ≤ 1000 → k ≤ sizeLine := fun h => Nat.le_trans h (by decide)
    have h5 := hS.five
    have h8 := hS.eight
    have p1 : ("(" : Str).length = 1 := by decide +kernel
    have p2 : ("-" : Str).length = 1 := by decide +kernel
    have p3 : (")" : Str).length = 1 := by decide +kernel
    refine seq_mid (fun σ G => ∃ p, σ = [some (.ref a), some (.ref p), none] ∧ Same H G ∧ H p = none ∧ G p = some (.lst [])) (fun N hN => ?_) ?_
    · exact ⟨(by show 0 ≤ sizeLine; decide), fun p np => hN _ _ ⟨p, rfl, same_new (fun _ _ e => e) np, np, upd_same⟩⟩
    rintro _ G ⟨p, rfl, s1, np, hp⟩
    refine seq_mid (fun σ G => ∃ v2, σ = [some (.ref a), some (.ref p), v2] ∧ Same H G ∧ G p = some (.lst [.str (shW x y)])) (fun N hN => ?_) ?_
    · refine ⟨_, rfl, a, rfl, ⟨_, SqL.of (s1 _ _ ha)⟩, for_list (K := K) (a := a) (xs := [.ref t]) (fun i σ G => ∃ v2, σ = [some (.ref a), some (.ref p), v2] ∧ Same H G ∧ G p = some (.lst (([V.str (shW x y)] : List V).take i))) ⟨_, rfl, s1, hp⟩ (fun i σ G2 _ ⟨_, _, s2, _⟩ => SqL.of (s2 _ _ ha)) ?_ (fun σ G2 ⟨v2, e, s2, h2⟩ => hN _ _ ⟨v2, e, s2, h2⟩)⟩
      rintro i v σ G2 hi ⟨v2, rfl, s2, h2⟩
      match i, hi with
      | 0, hi =>
        cases hi
        refine ⟨_, rfl, t, _, _, _, rfl, rfl, SqT.of (s2 _ _ ht), (show atI _ ((0 : Nat) : Int) = _ from atI_nat rfl), rfl, _, rfl, ?_⟩
        rw [show decide (V.str ("shuffle" : Str) = V.str "quote") = false by decide +kernel]
        refine iteF ⟨_, rfl, t, _, _, _, rfl, rfl, SqT.of (s2 _ _ ht), (show atI _ ((0 : Nat) : Int) = _ from atI_nat rfl), rfl, _, rfl, ?_⟩
        rw [show decide (V.str ("shuffle" : Str) = V.str "shuffle") = true by decide +kernel]
        refine iteT ⟨_, rfl, .inl ⟨rfl, _, SqL.of h2⟩, _, rfl, t, _, _, _, rfl, rfl, SqT.of (s2 _ _ ht), (show atI _ ((1 : Nat) : Int) = _ from atI_nat rfl), _, _, rfl, rfl, big (by omega), _, _, rfl, rfl, big (by rw [Str.length_append]; omega), _, rfl, t, _, _, _, rfl, rfl, SqT.of (s2 _ _ ht), (show atI _ ((2 : Nat) : Int) = _ from atI_nat rfl), _, _, rfl, rfl, big (by rw [Str.length_append, Str.length_append]; omega), _, _, rfl, rfl, big (by rw [Str.length_append, Str.length_append, Str.length_append]; omega), p, _, _, rfl, rfl, h2, (by show 0 < sizeLine; decide), _, rfl, ?_, upd_same⟩
        intro b o e
        rw [upd_ne (ne_of_none e np)]
        exact s2 _ _ e
      | i + 1, hi => cases hi
    rintro _ G2 ⟨v2, rfl, s2, h2⟩
    refine ⟨⟨_, rfl⟩, _, rfl, _, p, [shW x y], rfl, rfl, .inl (SqL.of h2), ?_, ?_⟩
    · have : (shW x y).length ≤ 100 := by
        unfold shW
        rw [Str.length_append, Str.length_append, Str.length_append, Str.length_append]
        omega
      show (shW x y).length + 0 + 1 * 1 ≤ _
      omega
    · rw [join_one9]
      exact q G2 s2
/-! ### _law_number -/
def NumOk (i : Int) : Prop := (-3 ≤ i ∧ i ≤ 8) ∨ ∃ n : Nat, n ≤ 18 ∧ (i = 10 ^ n - 1 ∨ i = -(10 ^ n - 1))
def spNu : Sp := fun vs H Q _ => ∃ u : Addr, vs = [.ref u] ∧ urnAt H u ∧ ∀ (i : Int) (H' : Hp), NumOk i → But u H H' → urnAt H' u → Q (.int i) H'
abbrev nNu : List Str := ["_law_purse_here", "_law_way", "_law_far"]
theorem scNu : FnScope nNu ["_law_purse_here"] (defScope sNu) := ⟨rfl, rfl, rfl, by decide +kernel, rfl, by decide +kernel, by decide +kernel⟩
theorem nines : ∀ n ∈ List.range 19, PySem.intText? ("0" ++ Txt.mul "9" ((n : Nat) : Int)) = some ((10 ^ n - 1 : Int)) ∧ ("0" ++ Txt.mul "9" ((n : Nat) : Int)).length ≤ 640 ∧ ("0" : Str).length + (Txt.mul "9" ((n : Nat) : Int)).length ≤ sizeLine := by decide +kernel
theorem ok_nu {f fD : Addr} {fd dD : FuncData} (F : Fun K "_law_number" "_law_number" sNu f fd) (BL : Blt mg) (D : Drw K mg fD dD) : FnOk P w K mg base CX0 2 f fd ["_law_purse_here"] spNu := by
  have GD : FnOk P w K mg base CX0 1 fD dD ["_law_purse_here", "_law_many"] spDrw := ok_drw D.F BL
  refine F.ok scNu (fun vs H Q E h => ?_) (fun cdv A outer s H vs Q E hr h => ?_)
  · obtain ⟨u, rfl, _⟩ := h
    rfl
  · obtain ⟨u, rfl, hu, q⟩ := h
    refine ⟨_, pss_cons (ps_set (i := 1) scNu.nd rfl (.inl rfl) (pe_call GD hr rfl D.g D.F.kp D.b .nil pass0 (pa_cons (pv 0) (pa_cons pe_int pa_nil))))
      (pss_cons (ps_if (pt_cmpR op_lt (pv 1) pe_int (nomark _)) (pss_one (ps_ret (pe_op op_sub (pe_call GD hr rfl D.g D.F.kp D.b .nil pass0 (pa_cons (pv 0) (pa_cons pe_int pa_nil))) pe_int))) pss_nil)
      (pss_cons (ps_set (i := 2) scNu.nd rfl (.inl rfl) (pe_callTy call_int_str (by rfl) BL.int (by decide +kernel) (pa_cons (pe_op op_add_str pe_str (pe_op op_mulS pe_str (pe_call GD hr rfl D.g D.F.kp D.b .nil pass0 (pa_cons (pv 0) (pa_cons pe_int pa_nil))))) pa_nil)))
      (pss_one (ps_ret (pe_ifExp (pt_cmpR op_eq (pv 1) pe_int (nomark _)) (pv 2) (pe_un un_neg (pv 2))))))), ?_⟩
    refine ⟨_, rfl, u, 8, rfl, hu, by decide, by decide, fun G d d0 d1 u1 b1 => ?_⟩
    refine ⟨_, rfl, _, _, rfl, rfl, _, rfl, ite2 (fun _ => ?_) (fun _ => ?_)⟩
    · refine ⟨_, rfl, u, 12, rfl, u1, by decide, by decide, fun G2 e e0 e1 u2 b2 => ⟨_, _, rfl, rfl, q _ G2 (.inl ?_) (b1.trans b2) u2⟩⟩
      omega
    · refine ⟨_, rfl, u, 19, rfl, u1, by decide, by decide, fun G2 e e0 e1 u2 b2 => ?_⟩
      obtain ⟨n, rfl⟩ : ∃ n : Nat, e = (n : Int) := ⟨e.toNat, by omega⟩
      have hn : n < 19 := by omega
      obtain ⟨t1, t2, t4⟩ := nines n (List.mem_range.mpr hn)
      have t3 : MulOk ("9" : Str) (n : Int) := mul_ok (by omega) (by omega) (by decide +kernel)
      refine ⟨_, _, rfl, rfl, t3, _, _, rfl, rfl, t4, _, _, rfl, t1, t2, ?_⟩
      refine ⟨_, rfl, rfl, _, rfl, ite2 (fun _ => ?_) (fun _ => ?_)⟩
      · exact ⟨_, rfl, q _ G2 (.inr ⟨n, by omega, .inl rfl⟩) (b1.trans b2) u2⟩
      · exact ⟨_, rfl, _, rfl, q _ G2 (.inr ⟨n, by omega, .inr rfl⟩) (b1.trans b2) u2⟩
end
end SQ9
namespace SQ9
open PySem L2 SQ
/-! ### _law_shuffled -/
def pcA (p : Nat) : Str := " a" ++ ((toString ((p : Nat) : Int) : String) : Str)
theorem pcs_let : ∀ ps : List Nat, catS (ps.map pcA) = letT ps
  | [] => rfl
  | p :: ps => by
    apply str_ext
    have ih := congrArg (fun s : Str => s.cps.toList) (pcs_let ps)
    unfold letT at ih ⊢
    show (pcA p ++ catS (ps.map pcA)).cps.toList = (" " ++ (nameT "a" p ++ catS (letP ps))).cps.toList
    rw [str_app, ih]
    unfold pcA nameT
    simp only [str_app, List.append_assoc]
    rfl
theorem pcA_len {p : Nat} (h : p ≤ 1000) : (pcA p).length ≤ 6 := by
  have h1 := num_len p (List.mem_range.mpr (by omega))
  have e : (" a" : Str).length = 2 := by decide +kernel
  unfold pcA
  rw [Str.length_append, e]
  omega
theorem idx_lt {x : Str} {c : Nat} (h : c ∈ x.cps.toList) : x.cps.toList.idxOf c < x.length := by
  rw [len_l9]
  exact List.idxOf_lt_length_of_mem h
theorem nat_log {n : Nat} (h : n ≤ 1000) : (n : Int).natAbs.log2 < 1920 := by
  show n.log2 < 1920
  rcases Nat.eq_zero_or_pos n with h0 | h0
  · subst h0
    decide
  · have := Nat.log2_lt (n := n) (k := 1920) (by omega)
    exact this.mpr (Nat.lt_of_le_of_lt h (by decide +kernel))
section
variable {P : Program} {w : World} {K : PySem.W.Frag} {mg : Str → Option Value} {base : Heap}
def spSd : Sp := fun vs H Q _ => ∃ (t : Addr) (x y : Str), vs = [.ref t] ∧ H t = some (.tup [.str "shuffle", .str x, .str y]) ∧ Shu x y ∧ ∀ H', Same H H' → Q (.str (shuT x.length (shP x y))) H'
abbrev nSd : List Str := ["_law_item", "_law_first", "_law_last", "_law_k", "_law_letter"]
theorem scSd : FnScope nSd ["_law_item"] (defScope sSd) := ⟨rfl, rfl, rfl, by decide +kernel, rfl, by decide +kernel, by decide +kernel⟩
theorem ok_sd {f : Addr} {fd : FuncData} (F : Fun K "_law_shuffled" "_law_shuffled" sSd f fd) (B : B2 mg) (BL : Blt mg) : FnOk P w K mg base CX0 1 f fd ["_law_item"] spSd := by
  refine F.ok scSd (fun vs H Q E h => ?_) (fun cdv A outer s H vs Q E hr h => ?_)
  · obtain ⟨t, x, y, rfl, _⟩ := h
    rfl
  · obtain ⟨t, x, y, rfl, ht, hS, q⟩ := h
    refine ⟨_, pss_cons (ps_set (i := 1) scSd.nd rfl (.inl rfl) (pe_join pe_str (pe_lc (own := [("_law_k", 3)]) (g := gName 3) (tt := tYes) rfl scSd.nd (pi_range1 (by rfl) BL.range (pa_cons (pe_callB call_len_str (by rfl) BL.len PySem.boot_len (pa_cons (pe_ix ix_tup (pv 0) pe_int (fun _ _ => rfl)) pa_nil)) pa_nil)) (blkOk_by (N := nSd) (sc := defScope sSd) (by decide +kernel)) (fun _ _ _ _ _ => pg_name (i := 3) scSd.nd rfl (.inl rfl)) (fun _ _ _ _ _ => pts_nil)
        (fun _ _ _ _ _ => pe_op op_add_str pe_str (pe_callTy call_str_int (by rfl) B.str (by decide +kernel) (pa_cons (pv 3) pa_nil))))))
      (pss_cons (ps_set (i := 2) scSd.nd rfl (.inl rfl) (pe_join pe_str (pe_lc (own := [("_law_letter", 4)]) (g := gName 4) (tt := tYes) rfl scSd.nd (pi_str (pe_ix ix_tup (pv 0) pe_int (fun _ _ => rfl))) (blkOk_by (N := nSd) (sc := defScope sSd) (by decide +kernel)) (fun _ _ _ _ _ => pg_name (i := 4) scSd.nd rfl (.inl rfl)) (fun _ _ _ _ _ => pts_nil)
        (fun _ _ _ _ _ => pe_op op_add_str pe_str (pe_callTy call_str_int (by rfl) B.str (by decide +kernel) (pa_cons (pe_m1 PySem.F.slot_str_index PySem.F.type_str_index mt_sindex (pe_ix (ix_tupK K rfl) (pv 0) pe_int (fun _ _ => rfl)) (pv 4)) pa_nil))))))
      (pss_one (ps_ret (pe_op op_add_str (pe_op op_add_str (pe_op op_add_str pe_str (pv 1)) pe_str) (pv 2))))), ?_⟩
    have big : ∀ {k : Nat}, k ≤ 1000 → k ≤ sizeLine := fun h => Nat.le_trans h (by decide)
    have h5 := hS.five
    have h8 := hS.eight
    have e2 : (" a" : Str).length = 2 := by decide +kernel
    have hpl : ∀ (ps : List Nat), (∀ p ∈ ps, p ≤ 1000) → ((ps.map pcA).map (·.length)).sum ≤ ps.length * 6 := fun ps hp => by
      have := sum_le (α := Str) (·.length) 6 (ps.map pcA) fun z hz => by
        obtain ⟨p, h1, rfl⟩ := List.mem_map.mp hz
        exact pcA_len (hp p h1)
      rw [List.length_map] at this
      exact this
    have hll : ∀ (ps : List Nat), (∀ p ∈ ps, p ≤ 1000) → ps.length ≤ 8 → (letT ps).length ≤ 48 := fun ps hp hl => by
      have h1 := letP_len ps hp
      have : (letT ps).length = ((letP ps).map (·.length)).sum := by
        unfold letT
        generalize letP ps = l
        induction l with
        | nil => rfl
        | cons z l ih =>
          show (z ++ catS l).length = _
          rw [Str.length_append, ih]
          rfl
      omega
    have e0 : ("" : Str).length = 0 := by decide +kernel
    -- the letters that are taken
    refine seq_mid (fun σ G => σ = [some (.ref t), some (.str (letT (List.range x.length))), none, none, none] ∧ Same H G) (fun N hN => ?_) ?_
    · refine ⟨⟨_, rfl⟩, _, rfl, t, _, _, _, rfl, rfl, SqT.of ht, (show atI _ ((1 : Nat) : Int) = _ from atI_nat rfl), x, rfl, big (by omega), x.length, rfl, by omega, by omega, fun D hD => ?_⟩
      refine lc_range (lo := 0) (n := x.length) (fun i G => G = upd H D (.lst (((List.range i).map pcA).map V.str))) rfl ?_ ?_
      · rintro i G hi rfl
        rw [Int.zero_add]
        have l6 := num_len i (List.mem_range.mpr (by omega))
        refine ⟨rfl, keptT ⟨_, rfl, _, rfl, nat_log (by omega), _, _, rfl, rfl, big (by omega), _, upd_same, ?_, ?_⟩⟩
        · rw [List.length_map, List.length_map, List.length_range]
          exact Nat.lt_of_lt_of_le (by omega : i < 1000) (by decide)
        · rw [upd_upd, List.range_succ, List.map_append, List.map_append]
          rfl
      · rintro G rfl
        refine ⟨_, D, (List.range x.length).map pcA, rfl, rfl, .inl (SqL.of upd_same), ?_, ?_⟩
        · have := hpl (List.range x.length) fun p hp => by have := List.mem_range.mp hp; omega
          rw [List.length_range] at this
          rw [e0]
          omega
        · rw [join_cat, pcs_let]
          exact hN _ _ ⟨rfl, same_new (fun _ _ e => e) hD⟩
    rintro _ G ⟨rfl, s1⟩
    -- the letters that are left
    have pb : ∀ p ∈ shP x y, p < 5 := fun p hp => by
      obtain ⟨c, hc, rfl⟩ := List.mem_map.mp hp
      have := idx_lt (hS.sub c hc)
      omega
    have pl : (shP x y).length ≤ 8 := by
      unfold shP
      rw [List.length_map, ← len_l9]
      exact h8
    refine seq_mid (fun σ G => σ = [some (.ref t), some (.str (letT (List.range x.length))), some (.str (letT (shP x y))), none, none] ∧ Same H G) (fun N hN => ?_) ?_
    · refine ⟨⟨_, rfl⟩, _, rfl, t, _, _, _, rfl, rfl, SqT.of (s1 _ _ ht), (show atI _ ((2 : Nat) : Int) = _ from atI_nat rfl), y, rfl, fun D hD => ?_⟩
      refine lc_it (walk_str (z := y)) (fun i G2 => G2 = upd G D (.lst (((((y.cps.toList.take i).map fun c => x.cps.toList.idxOf c)).map pcA).map V.str))) rfl (fun _ _ _ _ => trivial) ?_ ?_
      · rintro i v G2 G3 hi rfl ⟨rfl, c, hc, rfl⟩
        have hct : y.cps.toList[i]? = some c := by rw [Array.getElem?_toList]; exact hc
        have mc : c ∈ y.cps.toList := List.mem_of_getElem? hct
        obtain ⟨k, rest, ho⟩ := occ_one (hS.sub c mc)
        have hk := occ_first (hS.sub c mc) ho
        have k5 : k < 5 := by
          rw [hk]
          have := idx_lt (hS.sub c mc)
          omega
        have l6 := num_len k (List.mem_range.mpr (by omega))
        have hi' : i < y.length := hi
        refine ⟨rfl, keptT ⟨_, rfl, t, _, _, _, rfl, rfl, SqT.of (by rw [upd_ne (ne_of_none (s1 _ _ ht) hD)]; exact s1 _ _ ht), (show atI _ ((1 : Nat) : Int) = _ from atI_nat rfl), ⟨_, rfl⟩, _, rfl, _, _, k, rest, rfl, rfl, ho, _, rfl, nat_log (by omega), _, _, rfl, rfl, big (by omega), _, upd_same, ?_, ?_⟩⟩
        · rw [List.length_map, List.length_map, List.length_map, List.length_take]
          exact Nat.lt_of_le_of_lt (by omega : _ ≤ 8) (by decide)
        · rw [upd_upd, take_more hct, List.map_append, List.map_append, List.map_append, hk]
          rfl
      · rintro G2 rfl
        have et : y.cps.toList.take y.cps.size = y.cps.toList := List.take_of_length_le (by rw [Array.length_toList]; exact Nat.le_refl _)
        rw [et]
        refine ⟨_, D, (shP x y).map pcA, rfl, rfl, .inl (SqL.of upd_same), ?_, ?_⟩
        · have := hpl (shP x y) fun p hp => by have := pb p hp; omega
          rw [e0]
          omega
        · rw [join_cat, pcs_let]
          exact hN _ _ ⟨rfl, st s1 (same_new (fun _ _ e => e) hD)⟩
    rintro _ G2 ⟨rfl, s2⟩
    have b1 := hll (List.range x.length) (fun p hp => by have := List.mem_range.mp hp; omega) (by rw [List.length_range]; omega)
    have b2 := hll (shP x y) (fun p hp => by have := pb p hp; omega) pl
    have f1 : ("s0" : Str).length = 2 := by decide +kernel
    have f2 : (" -> s0" : Str).length = 6 := by decide +kernel
    exact ⟨_, rfl, _, _, rfl, rfl, big (by omega), _, _, rfl, rfl, big (by rw [Str.length_append]; omega), _, rfl, _, _, rfl, rfl, big (by rw [Str.length_append, Str.length_append]; omega), q G2 s2⟩
end
end SQ9
namespace SQ9
open PySem L2 SQ
abbrev sSl : Stmt := top 100
/-! ### _law_shuffle -/
theorem cut_to (x : Str) {d : Nat} (h : d ≤ x.length) : (cutS x none (some ((d : Nat) : Int))).cps.toList = x.cps.toList.take d := by
  show (((x.cps.toList.drop (HT.sIx x.length 0 none)).take (HT.sIx x.length x.length (some ((d : Nat) : Int)) - HT.sIx x.length 0 none)).toArray).toList = _
  rw [HT.sIx_nat, HT.sIx_none, List.drop_zero, Nat.sub_zero, Nat.min_eq_left h]
theorem cut_behind (x : Str) {d : Nat} (h : d ≤ x.length) : (cutS x (some ((d : Nat) : Int)) none).cps.toList = x.cps.toList.drop d := by
  show (((x.cps.toList.drop (HT.sIx x.length 0 (some ((d : Nat) : Int)))).take (HT.sIx x.length x.length none - HT.sIx x.length 0 (some ((d : Nat) : Int)))).toArray).toList = _
  rw [HT.sIx_nat, HT.sIx_none, Nat.min_eq_left h]
  show (x.cps.toList.drop d).take _ = _
  rw [List.take_of_length_le]
  rw [List.length_drop, ← len_l9]
  exact Nat.le_refl _
structure LT (i : Nat) (lf tk : Str) : Prop where
  ll : lf.length = 26 - i
  tl : tk.length = i
  nd : (lf.cps.toList ++ tk.cps.toList).Nodup
  la : ∀ c ∈ lf.cps.toList, c ∈ letters
  ta : ∀ c ∈ tk.cps.toList, c ∈ letters
theorem lt0 : LT 0 abc "" := ⟨by decide +kernel, by decide +kernel, by decide +kernel, by decide +kernel, by decide +kernel⟩
theorem ltS {i d c : Nat} {lf tk : Str} (h : LT i lf tk) (hi : i < 26) (hd : d < 26 - i) (hc : lf.cps.toList[d]? = some c) : LT (i + 1) (cutS lf none (some ((d : Nat) : Int)) ++ cutS lf (some (((d + 1 : Nat)) : Int)) none) (tk ++ sg c) := by
  have hl := h.ll
  have e1 := cut_to lf (d := d) (by omega)
  have e2 := cut_behind lf (d := d + 1) (by omega)
  have hlt : d < lf.cps.toList.length := by rw [← len_l9]; omega
  have e3 : lf.cps.toList = lf.cps.toList.take d ++ c :: lf.cps.toList.drop (d + 1) := by
    have e4 : lf.cps.toList[d] = c := by
      rw [List.getElem?_eq_getElem hlt] at hc
      exact Option.some.inj hc
    rw [← e4, ← List.drop_eq_getElem_cons hlt, List.take_append_drop]
  have hcm : c ∈ lf.cps.toList := List.mem_of_getElem? hc
  refine ⟨?_, ?_, ?_, fun a ha => ?_, fun a ha => ?_⟩
  · rw [len_l9, str_app, e1, e2, List.length_append, List.length_take, List.length_drop, ← len_l9]
    omega
  · rw [Str.length_append, h.tl]
    rfl
  · rw [str_app, str_app, e1, e2, sg_tl]
    have hp : ((lf.cps.toList.take d ++ lf.cps.toList.drop (d + 1)) ++ (tk.cps.toList ++ [c])).Perm (lf.cps.toList ++ tk.cps.toList) := by
      rw [← List.append_assoc]
      refine (List.perm_append_singleton _ _).trans ?_
      have p1 : (lf.cps.toList.take d ++ c :: lf.cps.toList.drop (d + 1)).Perm (c :: (lf.cps.toList.take d ++ lf.cps.toList.drop (d + 1))) := List.perm_middle
      rw [← e3] at p1
      exact (p1.append_right tk.cps.toList).symm
    exact hp.nodup_iff.mpr h.nd
  · rw [str_app, e1, e2] at ha
    rcases List.mem_append.mp ha with h1 | h1
    · exact h.la a (List.mem_of_mem_take h1)
    · exact h.la a (List.mem_of_mem_drop h1)
  · rw [str_app, sg_tl] at ha
    rcases List.mem_append.mp ha with h1 | h1
    · exact h.ta a h1
    · rw [List.mem_singleton.mp h1]
      exact h.la c hcm
section
variable {P : Program} {w : World} {K : PySem.W.Frag} {mg : Str → Option Value} {base : Heap}
def spSl : Sp := fun vs H Q _ => ∃ u : Addr, vs = [.ref u, .int 5, .int 8] ∧ urnAt H u ∧ ∀ (t : Addr) (x y : Str) (H' : Hp), H t = none → H' t = some (.tup [.str "shuffle", .str x, .str y]) → Shu x y → But u H H' → urnAt H' u → Q (.ref t) H'
abbrev nSl : List Str := ["_law_purse_here", "_law_most_in", "_law_most_out", "_law_left", "_law_taken", "_law_turn", "_law_at", "_law_many", "_law_found"]
theorem scSl : FnScope nSl ["_law_purse_here", "_law_most_in", "_law_most_out"] (defScope sSl) := ⟨rfl, rfl, rfl, by decide +kernel, rfl, by decide +kernel, by decide +kernel⟩
theorem ok_sl9 {f fD : Addr} {fd dD : FuncData} (F : Fun K "_law_shuffle" "_law_shuffle" sSl f fd) (BL : Blt mg) (D : Drw K mg fD dD) : FnOk P w K mg base CX0 2 f fd ["_law_purse_here", "_law_most_in", "_law_most_out"] spSl := by
  have GD : FnOk P w K mg base CX0 1 fD dD ["_law_purse_here", "_law_many"] spDrw := ok_drw D.F BL
  refine F.ok scSl (fun vs H Q E h => ?_) (fun cdv A outer s H vs Q E hr h => ?_)
  · obtain ⟨u, rfl, _⟩ := h
    rfl
  · obtain ⟨u, rfl, hu, q⟩ := h
    refine ⟨_, pss_cons (ps_asg (pe_tup (pa_cons pe_str (pa_cons pe_str pa_nil))) (pg_tup rfl (pgs_cons (pg_name (i := 3) scSl.nd rfl (.inl rfl)) (pgs_cons (pg_name (i := 4) scSl.nd rfl (.inr rfl)) pgs_nil))))
      (pss_cons (ps_for PassesOwn.never rfl (pi_range1 (by rfl) BL.range (pa_cons (pe_call GD hr rfl D.g D.F.kp D.b .nil pass0 (pa_cons (pv 0) (pa_cons (pe_op op_add (pv 1) pe_int) pa_nil))) pa_nil)) (pg_name (i := 5) scSl.nd rfl (.inl rfl))
        (pss_cons (ps_set (i := 6) scSl.nd rfl (.inl rfl) (pe_call GD hr rfl D.g D.F.kp D.b .nil pass0 (pa_cons (pv 0) (pa_cons (pe_callB call_len_str (by rfl) BL.len PySem.boot_len (pa_cons (pv 3) pa_nil)) pa_nil))))
        (pss_one (ps_asg (pe_tup (pa_cons (pe_op op_add_str (pv 4) (pe_ix ix_str (pv 3) (pv 6) (fun _ _ => rfl))) (pa_cons (pe_op op_add_str (pe_slice sl_str (pv 3) po_none (po_some (pv 6))) (pe_slice sl_str (pv 3) (po_some (pe_op op_add (pv 6) pe_int)) po_none)) pa_nil))) (pg_tup rfl (pgs_cons (pg_name (i := 4) scSl.nd rfl (.inr rfl)) (pgs_cons (pg_name (i := 3) scSl.nd rfl (.inl rfl)) pgs_nil)))))))
      (pss_cons (ps_set (i := 7) scSl.nd rfl (.inl rfl) (pe_ifExp (pt_cmpR op_ne (pv 4) pe_str (nomark _)) (pe_call GD hr rfl D.g D.F.kp D.b .nil pass0 (pa_cons (pv 0) (pa_cons (pe_op op_add (pv 2) pe_int) pa_nil))) pe_int))
      (pss_cons (ps_set (i := 8) scSl.nd rfl (.inl rfl) (pe_join pe_str (pe_lc (own := [("_law_turn", 5)]) (g := gName 5) (tt := tYes) rfl scSl.nd (pi_range1 (by rfl) BL.range (pa_cons (pv 7) pa_nil)) (blkOk_by (N := nSl) (sc := defScope sSl) (by decide +kernel)) (fun _ _ _ _ _ => pg_name (i := 5) scSl.nd rfl (.inl rfl)) (fun _ _ _ _ _ => pts_nil)
        (fun _ _ _ _ _ => pe_ix ix_str (pv 4) (pe_call GD hr rfl D.g D.F.kp D.b .nil pass0 (pa_cons (pv 0) (pa_cons (pe_callB call_len_str (by rfl) BL.len PySem.boot_len (pa_cons (pv 4) pa_nil)) pa_nil))) (fun _ _ => rfl)))))
      (pss_one (ps_ret (pe_tup (pa_cons pe_str (pa_cons (pv 4) (pa_cons (pv 8) pa_nil))))))))), ?_⟩
    have big : ∀ {k : Nat}, k ≤ 1000 → k ≤ sizeLine := fun h => Nat.le_trans h (by decide)
    -- all letters
    refine seq_mid (fun σ G => σ = [some (.ref u), some (.int 5), some (.int 8), some (.str abc), some (.str ""), none, none, none, none] ∧ But u H G ∧ urnAt G u) (fun N hN => ?_) ?_
    · exact ⟨(by show 2 ≤ sizeLine; decide), fun t nt => ⟨t, _, rfl, SqT.of upd_same, rfl, _, _, rfl, _, _, rfl, rfl, hN _ _ ⟨rfl, But.refl.new nt, urn_same (same_new (fun _ _ e => e) nt) hu⟩⟩⟩
    rintro _ G0 ⟨rfl, b0, u0⟩
    -- what is taken
    refine seq_mid (fun σ G => ∃ lf tk v5 v6 n, n ≤ 5 ∧ LT n lf tk ∧ σ = [some (.ref u), some (.int 5), some (.int 8), some (.str lf), some (.str tk), v5, v6, none, none] ∧ But u H G ∧ urnAt G u) (fun N hN => ?_) ?_
    · refine ⟨_, rfl, _, rfl, _, _, rfl, rfl, u, 6, rfl, u0, by decide, by decide, fun G1 d d0 d1 u1 b1 => ⟨d, rfl, by omega, by omega, for_range (lo := 0) (n := d.toNat) (fun i σ G => ∃ lf tk v5 v6, LT i lf tk ∧ σ = [some (.ref u), some (.int 5), some (.int 8), some (.str lf), some (.str tk), v5, v6, none, none] ∧ But u H G ∧ urnAt G u) ⟨abc, "", none, none, lt0, rfl, b0.trans b1, u1⟩ ?_ (fun σ G ⟨lf, tk, v5, v6, hL, e, bG, uG⟩ => hN _ _ ⟨lf, tk, v5, v6, d.toNat, by omega, hL, e, bG, uG⟩)⟩⟩
      rintro i σ G hi ⟨lf, tk, v5, v6, hL, rfl, bG, uG⟩
      have hll := hL.ll
      have htl := hL.tl
      have i5 : i < 5 := by omega
      refine ⟨_, rfl, _, rfl, lf, rfl, big (by omega), u, (lf.length : Int), rfl, uG, by omega, by omega, fun G2 e e0 e1 u2 b2 => ?_⟩
      obtain ⟨m, rfl⟩ : ∃ m : Nat, e = (m : Int) := ⟨e.toNat, by omega⟩
      have hm : m < 26 - i := by omega
      have hlt : m < lf.cps.toList.length := by rw [← len_l9]; omega
      obtain ⟨c, hc⟩ : ∃ c, lf.cps.toList[m]? = some c := ⟨_, List.getElem?_eq_getElem hlt⟩
      refine ⟨_, rfl, _, rfl, _, rfl, lf, _, c, rfl, rfl, big (by omega), atI_nat hc, _, _, rfl, rfl, big (by show tk.length + 1 ≤ 1000; omega), _, rfl, _, rfl, _, rfl, lf, rfl, big (by omega), _, rfl, _, rfl, _, _, rfl, rfl, _, rfl, lf, rfl, big (by omega), _, _, rfl, rfl, ?_, ?_⟩
      · have h1 := cutS_length lf none (some (m : Int))
        have h2 := cutS_length lf (some ((m : Int) + 1)) none
        exact big (by omega)
      · refine ⟨(by show 2 ≤ sizeLine; decide), fun t nt => ⟨t, _, rfl, SqT.of upd_same, rfl, _, _, rfl, _, _, rfl, rfl, _, _, _, _, ltS hL (by omega) hm hc, rfl, (bG.trans b2).new nt, urn_same (same_new (fun _ _ e => e) nt) u2⟩⟩
    rintro _ G1 ⟨lf, tk, v5, v6, n, n5, hL, rfl, b1, u1⟩
    have htl := hL.tl
    -- how many are left
    refine seq_mid (fun σ G => ∃ m : Nat, m ≤ 8 ∧ (0 < m → 0 < n) ∧ σ = [some (.ref u), some (.int 5), some (.int 8), some (.str lf), some (.str tk), v5, v6, some (.int m), none] ∧ But u H G ∧ urnAt G u) (fun N hN => ?_) ?_
    · refine ⟨_, rfl, rfl, _, rfl, ite2 (fun hy => ?_) (fun _ => ?_)⟩
      · refine ⟨_, rfl, _, rfl, _, _, rfl, rfl, u, 9, rfl, u1, by decide, by decide, fun G2 d d0 d1 u2 b2 => hN _ _ ⟨d.toNat, by omega, fun _ => ?_, ?_, b1.trans b2, u2⟩⟩
        · rcases Nat.eq_zero_or_pos n with h0 | h0
          · exfalso
            have ht : tk = "" := nil_str (List.eq_nil_of_length_eq_zero (by rw [← len_l9]; omega))
            rw [ht] at hy
            revert hy
            decide +kernel
          · exact h0
        · rw [show ((d.toNat : Nat) : Int) = d by omega]
          rfl
      · exact hN _ _ ⟨0, by decide, fun z => absurd z (Nat.lt_irrefl _), rfl, b1, u1⟩
    rintro _ G2 ⟨m, m8, mn, rfl, b2, u2⟩
    refine seq_mid (fun σ G => ∃ y : Str, y.length ≤ 8 ∧ (∀ c ∈ y.cps.toList, c ∈ tk.cps.toList) ∧ σ = [some (.ref u), some (.int 5), some (.int 8), some (.str lf), some (.str tk), v5, v6, some (.int m), some (.str y)] ∧ But u H G ∧ urnAt G u) (fun N hN => ?_) ?_
    · refine ⟨⟨_, rfl⟩, _, rfl, m, rfl, by omega, by omega, fun D hD => ?_⟩
      have hD0 : u ≠ D := urn_ne u2 hD
      refine lc_range (lo := 0) (n := m) (fun i G => But u H G ∧ urnAt G u ∧ ∃ cs : List Nat, cs.length = i ∧ (∀ c ∈ cs, c ∈ tk.cps.toList) ∧ G D = some (.lst ((cs.map fun c => (⟨#[c]⟩ : Str)).map V.str))) ⟨b2.new hD, urn_same (same_new (fun _ _ e => e) hD) u2, [], rfl, (fun _ z => nomatch z), upd_same⟩ ?_ ?_
      · rintro i G hi ⟨bG, uG, cs, hl, hc, hD1⟩
        have n0 : 0 < n := mn (by omega)
        refine ⟨rfl, keptT ⟨_, rfl, _, rfl, _, rfl, tk, rfl, big (by omega), u, (tk.length : Int), rfl, uG, by omega, by omega, fun G3 e e0 e1 u3 b3 => ?_⟩⟩
        obtain ⟨k, rfl⟩ : ∃ k : Nat, e = (k : Int) := ⟨e.toNat, by omega⟩
        have hlt : k < tk.cps.toList.length := by rw [← len_l9]; omega
        have hat : tk.cps.toList[k]? = some tk.cps.toList[k] := List.getElem?_eq_getElem hlt
        have hD2 := b3 _ _ hD1 (Ne.symm hD0)
        refine ⟨tk, _, tk.cps.toList[k], rfl, rfl, big (by omega), atI_nat hat, _, hD2, ?_, ?_, ?_, cs ++ [tk.cps.toList[k]], ?_, ?_, ?_⟩
        · rw [List.length_map, List.length_map, hl]
          exact Nat.lt_of_lt_of_le (by omega : i < 8) (by decide)
        · intro b o eo nb
          have e1' := (bG.trans b3) b o eo nb
          have : b ≠ D := fun z => by
            subst z
            have := b2 b o eo nb
            rw [hD] at this
            cases this
          rw [upd_ne this]
          exact e1'
        · obtain ⟨x', y', z', eu⟩ := u3
          exact ⟨x', y', z', by rw [upd_ne hD0]; exact eu⟩
        · rw [List.length_append, hl]
          rfl
        · intro c' h'
          rcases List.mem_append.mp h' with h' | h'
          · exact hc c' h'
          · rw [List.mem_singleton.mp h']
            exact List.getElem_mem hlt
        · rw [upd_same, List.map_append, List.map_append]
          rfl
      · rintro G ⟨bG, uG, cs, hl, hc, hD1⟩
        refine ⟨_, D, cs.map fun c => (⟨#[c]⟩ : Str), rfl, rfl, .inl (SqL.of hD1), ?_, hN _ _ ⟨_, ?_, ?_, rfl, bG, uG⟩⟩
        · rw [sum_ones, List.length_map]
          have : ("" : Str).length = 0 := by decide +kernel
          rw [this]
          omega
        · rw [len_l9, signs_join]
          omega
        · rw [signs_join]
          exact hc
    rintro _ G3 ⟨y, y8, ysub, rfl, b3, u3⟩
    refine ⟨_, rfl, _, rfl, (by show 3 ≤ sizeLine; decide), fun t nt => q t tk y _ ?_ upd_same ⟨?_, hL.ta, by omega, ysub, y8⟩ (b3.new nt) (urn_same (same_new (fun _ _ e => e) nt) u3)⟩
    · cases e : H t with
      | none => rfl
      | some o =>
        by_cases z : t = u
        · subst z
          obtain ⟨x', y', z', e'⟩ := u3
          rw [nt] at e'
          cases e'
        · have := b3 t o e z
          rw [nt] at this
          cases this
    · have := hL.nd
      rw [List.nodup_append] at this
      exact this.2.1
end
end SQ9
namespace SQ9
open PySem L2 SQ
/-! ### what a shuffle is, as lists of signs -/
theorem len_l (x : Str) : x.length = x.cps.toList.length := by
  show x.cps.size = _
  rw [Array.length_toList]
theorem ends_iff {x y : Str} {c : Nat} (hy : y.cps.toList = [c]) : Txt.endswith x y = true ↔ ∃ cs, x.cps.toList = cs ++ [c] := by
  have ly : y.length = 1 := by rw [len_l, hy]; rfl
  unfold Txt.endswith
  rw [Bool.and_eq_true, PySem.StrLaws.subAt_eq, ly, hy]
  constructor
  · rintro ⟨h1, h2⟩
    have h1' := of_decide_eq_true h1
    have e := eq_of_beq h2
    have lx := len_l x
    refine ⟨x.cps.toList.take (x.length - 1), ?_⟩
    have e3 : x.cps.toList = x.cps.toList.take (x.length - 1) ++ x.cps.toList.drop (x.length - 1) := (List.take_append_drop _ _).symm
    have e4 : (x.cps.toList.drop (x.length - 1)).length = 1 := by
      rw [List.length_drop]
      omega
    have e5 : (x.cps.toList.drop (x.length - 1)).take 1 = x.cps.toList.drop (x.length - 1) := List.take_of_length_le (by omega)
    rw [e5] at e
    rw [e] at e3
    exact e3
  · rintro ⟨cs, e⟩
    have lx := len_l x
    rw [e, List.length_append] at lx
    have l1 : ([c] : List Nat).length = 1 := rfl
    rw [l1] at lx
    refine ⟨decide_eq_true (by omega), ?_⟩
    rw [e, lx]
    simp
theorem starts_of {x y : Str} {c : Nat} {cs : List Nat} (hy : y.cps.toList = [c]) (e : x.cps.toList = c :: cs) : Txt.startswith x y = true := by
  have ly : y.length = 1 := by rw [len_l, hy]; rfl
  have lx : x.length = cs.length + 1 := by rw [len_l, e]; rfl
  unfold Txt.startswith
  rw [Bool.and_eq_true, PySem.StrLaws.subAt_eq, List.drop_zero, ly, e, hy]
  exact ⟨decide_eq_true (by omega), by simp⟩
theorem cut_par {x : Str} {m : List Nat} {a b : Nat} (h : x.cps.toList = a :: (m ++ [b])) : (cutS x (some 1) (some (-1))).cps.toList = m := by
  have lx := len_l x
  rw [h, List.length_cons, List.length_append] at lx
  have l1 : ([b] : List Nat).length = 1 := rfl
  rw [l1] at lx
  show (((x.cps.toList.drop (HT.sIx x.length 0 (some 1))).take (HT.sIx x.length x.length (some (-1)) - HT.sIx x.length 0 (some 1))).toArray).toList = _
  have e1 : HT.sIx x.length 0 (some 1) = 1 := by
    rw [show (1 : Int) = ((1 : Nat) : Int) from rfl, HT.sIx_nat]
    omega
  have e2 : HT.sIx x.length x.length (some (-1)) = m.length + 1 := by
    show (if (-1 : Int) < 0 then ((-1 : Int) + (x.length : Int)).toNat else min (-1 : Int).toNat x.length) = _
    rw [if_pos (by omega)]
    omega
  rw [e1, e2, h]
  simp
theorem dash_l : ("-" : Str).cps.toList = [45] := by decide +kernel
/-- what is asked of the letters -/
theorem uniq_nd {a : Str} (h : a.cps.toList.Nodup) : ¬ (uniq (signs1 a)).length < a.length := by
  have h1 : (signs1 a).Nodup := by
    refine List.pairwise_map.mpr (List.Pairwise.imp (fun {x y} hab z => hab ?_) h)
    have z2 := congrArg (fun s : Str => s.cps.toList) z
    have z3 : [x] = [y] := z2
    cases z3
    rfl
  have h2 := nodup_le h1 fun x hx => uniq_mem.mpr hx
  have h3 : (signs1 a).length = a.length := by
    rw [len_l]
    exact List.length_map _
  omega
theorem letG : lettersG = letters := by decide +kernel
theorem shW_tl (x y : Str) : (shW x y).cps.toList = 40 :: ((x.cps.toList ++ 45 :: y.cps.toList) ++ [41]) := by
  unfold shW
  rw [str_app, str_app, str_app, str_app, dash_l, show ("(" : Str).cps.toList = [40] from by decide +kernel, show (")" : Str).cps.toList = [41] from by decide +kernel]
  simp
theorem shuf_of {x y : Str} (h : Shu x y) : shuf (shW x y) = some (x, y) := by
  have ex := shW_tl x y
  have n45 : 45 ∉ x.cps.toList := fun z => absurd (h.abc 45 z) (by decide)
  have ec : cutS (shW x y) (some 1) (some (-1)) = x ++ "-" ++ y := by
    refine str_ext ?_
    rw [cut_par ex, str_app, str_app, dash_l, List.append_assoc]
    rfl
  have ep : shParts (shW x y) = (x, ("-" : Str), y) := by
    unfold shParts
    rw [ec]
    exact TL.partition_app (s := 45) (S := []) dash_l n45
  have h1 := starts_of (c := 40) (y := "(") (by decide +kernel) ex
  have h2 := (ends_iff (x := shW x y) (c := 41) (y := ")") (by decide +kernel)).mpr ⟨40 :: (x.cps.toList ++ 45 :: y.cps.toList), ex⟩
  have h5 := h.five
  have h8 := h.eight
  rw [shuf_def, h1, h2, ep]
  have e1 : (x.cps.toList.all fun c => decide (c ∈ lettersG)) = true := List.all_eq_true.mpr fun c hc => decide_eq_true (by rw [letG]; exact h.abc c hc)
  have e2 : (y.cps.toList.all fun c => decide (c ∈ x.cps.toList)) = true := List.all_eq_true.mpr fun c hc => decide_eq_true (h.sub c hc)
  rw [if_neg (by decide), if_neg (by decide), if_neg (by show ¬ ("-" : Str) = ""; decide +kernel), if_neg (by show ¬ 5 < x.length; omega), if_neg (by show ¬ 8 < y.length; omega), if_neg (uniq_nd h.nd), if_neg (by rw [e1]; decide), if_neg (by rw [e2]; decide)]
/-! ### one word -/
structure Wt (S : List G3) (t : Str) (x : W0) : Prop where
  no : ¬ t = "["
  nc : ¬ t = "]"
  sp : 32 ∉ t.cps.toList
  ne : ¬ t = ""
  len : t.length ≤ 100
  wd : word0 S (gnames S) t = some x
theorem odd_no {S : List G3} (k : Knd S) {t : Str} {c : Nat} (hc : c ∈ t.cps.toList) (hl : c ∉ letters) : t ∉ cores ∧ t ∉ gnames S := by
  constructor
  · intro z
    have : (cores.all fun t => t.cps.toList.all fun c => decide (c ∈ letters)) = true := by decide +kernel
    exact hl (of_decide_eq_true (List.all_eq_true.mp (List.all_eq_true.mp this t z) c hc))
  · intro z
    obtain ⟨g, hg, rfl⟩ := List.mem_map.mp z
    exact hl (free_letters (k.fr g hg) c hc)
theorem jt_one (t : Str) : jt [t] = t := join_one9 t
theorem tb_one {S : List G3} {t : Str} {x : W0} (h : Wt S t x) : TB [t] := by
  refine ⟨⟨fun u hu => ?_, fun z => ?_⟩, by show 1 ≤ 900; decide, ?_⟩
  · rw [List.mem_singleton.mp hu]
    exact h.sp
  · rw [jt_one] at z
    exact absurd z h.ne
  · have := h.len
    show t.length + 0 + 2 * 1 ≤ 8000
    omega
theorem ok_one {S : List G3} {t : Str} {x : W0} (h : Wt S t x) : Ok9 S (gnames S) [t] [.w x] := by
  refine ⟨tb_one h, ?_, ?_, ?_⟩
  · unfold rowE
    rw [rdE_word h.no h.nc h.wd]
    rfl
  · have : (1 : Int) - (([t].count ("]" : Str) : Nat) : Int) ≤ 60 := by omega
    exact this
  · show (List.foldl dstep (0, 0) [t]).2 ≤ 6
    show (dstep (0, 0) t).2 ≤ 6
    unfold dstep
    rw [if_neg h.no, if_neg h.nc]
    decide
theorem qt_one {t : Str} (h : ¬ t = "") : qtext (jt [t]) = jt [("[" : Str), t, ("]" : Str)] := by
  rw [jt_one]
  unfold qtext jt
  rw [if_neg h, TL.join_eq]
  apply str_ext
  rw [tl_join]
  have e0 : Str.empty.cps.toList = [] := rfl
  simp only [str_app, e0, List.nil_append, List.map_cons, List.map_nil, jn, List.append_assoc]
  rfl
theorem ok_quo {S : List G3} {t : Str} {x : W0} (h : Wt S t x) : Ok9 S (gnames S) [("[" : Str), t, ("]" : Str)] [.q (qtext (jt [x.txt])) (one9 x)] := by
  have hl := h.len
  refine ⟨⟨⟨fun u hu => ?_, fun z => ?_⟩, by show 3 ≤ 900; decide, ?_⟩, ?_, ?_, ?_⟩
  · simp only [List.mem_cons, List.not_mem_nil, or_false] at hu
    rcases hu with rfl | rfl | rfl
    · decide +kernel
    · exact h.sp
    · decide +kernel
  · exfalso
    rw [← qt_one h.ne, jt_one] at z
    unfold qtext at z
    rw [if_neg h.ne] at z
    have := congrArg (fun s : Str => s.cps.toList.length) z
    simp only [str_app, List.length_append] at this
    have e1 : ("[ " : Str).cps.toList.length = 2 := by decide +kernel
    have e2 : ("" : Str).cps.toList.length = 0 := by decide +kernel
    omega
  · show ("[" : Str).length + (t.length + (("]" : Str).length + 0)) + 2 * 3 ≤ 8000
    have e1 : ("[" : Str).length = 1 := by decide +kernel
    have e2 : ("]" : Str).length = 1 := by decide +kernel
    omega
  · unfold rowE
    rw [rdE_open, rdE_word h.no h.nc h.wd, rdE_close]
    rfl
  · have : (3 : Int) - (([("[" : Str), t, ("]" : Str)].count ("]" : Str) : Nat) : Int) ≤ 60 := by omega
    exact this
  · show (dstep (dstep (dstep (0, 0) "[") t) "]").2 ≤ 6
    have e1 : dstep (0, 0) "[" = (1, 1) := by decide +kernel
    rw [e1]
    have e2 : dstep (1, 1) t = (1, 1) := by
      unfold dstep
      rw [if_neg h.no, if_neg h.nc]
    rw [e2]
    decide +kernel
/-! ### the empty program, quotations of it -/
theorem ok_e0 (S : List G3) : Ok9 S (gnames S) [] [] := ⟨⟨⟨fun _ z => (nomatch z), fun _ => rfl⟩, by decide, by decide⟩, rfl, by decide, by decide⟩
theorem ok_e1 (S : List G3) : Ok9 S (gnames S) [("[" : Str), ("]" : Str)] [.q "[ ]" .nil] := by
  refine ⟨⟨⟨by decide +kernel, by decide +kernel⟩, by decide, by decide +kernel⟩, ?_, by decide +kernel, by decide +kernel⟩
  unfold rowE
  rw [rdE_open, rdE_close]
  show some [E9.q (qtext (jt [])) .nil] = _
  rw [show qtext (jt []) = "[ ]" by decide +kernel]
theorem ok_e2 (S : List G3) : Ok9 S (gnames S) [("[" : Str), ("[" : Str), ("]" : Str), ("]" : Str)] [.q "[ [ ] ]" (quo9 "[ ]" .nil)] := by
  refine ⟨⟨⟨by decide +kernel, by decide +kernel⟩, by decide, by decide +kernel⟩, ?_, by decide +kernel, by decide +kernel⟩
  unfold rowE
  rw [rdE_open, rdE_open, rdE_close, rdE_close]
  show some [E9.q (qtext (jt [qtext (jt [])])) (quo9 (qtext (jt [])) .nil)] = _
  rw [show qtext (jt []) = "[ ]" by decide +kernel, show qtext (jt ["[ ]"]) = "[ [ ] ]" by decide +kernel]
end SQ9
namespace SQ9
open PySem L2 SQ
/-! ### one level deeper -/
def deep9 (d : Str) : Str := Txt.replace (Txt.replace d "s1" "s2") "s0" "s1"
def s2in (d : Str) : Bool := !(Builtin.Str.occurrences d "s2" 0 d.length 1).isEmpty
section
open PySem.StrLaws
theorem repl_skip {d : Nat} {z : List Nat} : ∀ {A R : List Nat}, 115 ∉ A → replL [115, d] z (A ++ R) = A ++ replL [115, d] z R
  | [], R, _ => rfl
  | a :: A, R, h => by
    rw [List.cons_append, replL_miss, repl_skip (A := A) fun z => h (List.mem_cons_of_mem _ z)]
    · rfl
    · intro e
      have : (a :: (A ++ R)).take 2 = [115, d] := e
      rw [List.take_succ_cons] at this
      have e2 : a = 115 := (List.cons.inj this).1
      exact h (by rw [e2]; exact List.mem_cons_self)
theorem repl_s0 {z R : List Nat} : replL [115, 49] z (115 :: 48 :: R) = 115 :: 48 :: replL [115, 49] z R := by
  rw [replL_miss, replL_miss]
  · intro e
    have : (48 :: R).take 2 = [115, 49] := e
    rw [List.take_succ_cons] at this
    have := (List.cons.inj this).1
    omega
  · intro e
    have : (115 :: 48 :: R).take 2 = [115, 49] := e
    have h2 : [115, 48] = [115, 49] := this
    cases h2
theorem repl_hit {z R : List Nat} : replL [115, 48] z (115 :: 48 :: R) = z ++ replL [115, 48] z R := by
  rw [replL_hit (by decide) (by rfl)]
  rfl
theorem deep_of {A B : Str} (ha : 115 ∉ A.cps.toList) (hb : 115 ∉ B.cps.toList) : deep9 ("s0" ++ A ++ " -> s0" ++ B) = "s1" ++ A ++ " -> s1" ++ B := by
  apply str_ext
  unfold deep9
  have e1 : ("s1" : Str).cps.toList = [115, 49] := by decide +kernel
  have e2 : ("s2" : Str).cps.toList = [115, 50] := by decide +kernel
  have e0 : ("s0" : Str).cps.toList = [115, 48] := by decide +kernel
  have e3 : (" -> s0" : Str).cps.toList = [32, 45, 62, 32] ++ [115, 48] := by decide +kernel
  have e4 : (" -> s1" : Str).cps.toList = [32, 45, 62, 32] ++ [115, 49] := by decide +kernel
  rw [replace_list (by decide +kernel), replace_list (by decide +kernel)]
  simp only [str_app, e0, e1, e2, e3, e4, List.append_assoc]
  show replL [115, 48] [115, 49] (replL [115, 49] [115, 50] (115 :: 48 :: (A.cps.toList ++ ([32, 45, 62, 32] ++ (115 :: 48 :: B.cps.toList))))) = _
  have hB : ∀ {d : Nat} {z : List Nat}, replL [115, d] z B.cps.toList = B.cps.toList := fun {d z} => by
    have := repl_skip (d := d) (z := z) (R := []) hb
    rw [List.append_nil, replL_nil, List.append_nil] at this
    exact this
  rw [repl_s0, repl_skip ha, repl_skip (by decide), repl_s0, hB, repl_hit, repl_skip ha, repl_skip (by decide), repl_hit, hB]
end
theorem starts_one {x y : Str} {c : Nat} (hy : y.cps.toList = [c]) (h : Txt.startswith x y = true) : ∃ cs, x.cps.toList = c :: cs := by
  unfold Txt.startswith at h
  rw [Bool.and_eq_true, PySem.StrLaws.subAt_eq, List.drop_zero] at h
  have e := eq_of_beq h.2
  have e2 : y.length = 1 := by
    show y.cps.size = 1
    rw [← Array.length_toList, hy]
    rfl
  rw [hy, e2] at e
  cases hx : x.cps.toList with
  | nil =>
    rw [hx] at e
    cases e
  | cons d cs =>
    rw [hx] at e
    have ec : d = c := by simpa using e
    subst ec
    exact ⟨cs, rfl⟩
/-! ### signs -/
def okS (x : Str) : Bool := x.cps.toList.all fun c => decide (c < 200)
theorem strOk_iff (x : Str) : PyData.strOk x = true ↔ ∀ c ∈ x.cps.toList, c < 0x110000 := by
  unfold PyData.strOk
  rw [← Array.all_toList, List.all_eq_true]
  constructor
  · intro h c hc
    exact of_decide_eq_true (h c hc)
  · intro h c hc
    exact decide_eq_true (h c hc)
theorem okS_str {x : Str} (h : okS x = true) : PyData.strOk x = true := (strOk_iff x).mpr fun c hc => by
  have : c < 200 := of_decide_eq_true (List.all_eq_true.mp h c hc)
  omega
theorem okS_app {a b : Str} (ha : okS a = true) (hb : okS b = true) : okS (a ++ b) = true := by
  unfold okS at ha hb ⊢
  rw [str_app, List.all_append, ha, hb]
  rfl
theorem let_all : ∀ p ∈ List.range 6, okS (nameT "a" p) = true ∧ 115 ∉ (nameT "a" p).cps.toList := by decide +kernel
theorem letT_ok : ∀ (ps : List Nat), (∀ p ∈ ps, p < 6) → okS (letT ps) = true ∧ 115 ∉ (letT ps).cps.toList
  | [], _ => by decide +kernel
  | p :: ps, h => by
    obtain ⟨h1, h2⟩ := letT_ok ps fun q hq => h q (List.mem_cons_of_mem _ hq)
    obtain ⟨h3, h4⟩ := let_all p (List.mem_range.mpr (h p List.mem_cons_self))
    have e : letT (p :: ps) = " " ++ (nameT "a" p ++ letT ps) := rfl
    rw [e]
    refine ⟨okS_app (by decide +kernel) (okS_app h3 h1), ?_⟩
    rw [str_app, str_app]
    intro z
    rcases List.mem_append.mp z with z | z
    · revert z
      decide +kernel
    · rcases List.mem_append.mp z with z | z
      · exact h4 z
      · exact h2 z
theorem letT_len {ps : List Nat} (hp : ∀ p ∈ ps, p ≤ 1000) : (letT ps).length ≤ 6 * ps.length := by
  have h1 := letP_len ps hp
  have : (letT ps).length = ((letP ps).map (·.length)).sum := by
    unfold letT
    generalize letP ps = l
    induction l with
    | nil => rfl
    | cons z l ih =>
      show (z ++ catS l).length = _
      rw [Str.length_append, ih]
      rfl
  omega
/-! ### the cases of the law -/
structure Cas (S : List G3) (tx due : Str) (i o : Nat) (fo : Bool) : Prop where
  ex : ∃ ts es ts' es' dq, tx = jt ts ∧ Ok9 S (gnames S) ts es ∧ Told (rofE es) due i o fo ∧ (jt ts).length ≤ 9000 ∧ qtext (jt ts) = jt ts' ∧ Ok9 S (gnames S) ts' es' ∧ Told (rofE es') dq 0 1 false ∧ (s2in due = true ∨ dq = "s0 -> s0 [" ++ deep9 due ++ "]") ∧ okS dq = true ∧ dq.length ≤ 200
  dl : due.length ≤ 200
  sok : okS due = true
  io : i ≤ 1000 ∧ o ≤ 1000
theorem cas_one {S : List G3} {t due dq : Str} {x : W0} {i o : Nat} {fo : Bool} (h : Wt S t x) (t1 : Told (one9 x) due i o fo) (t2 : Told (quo9 (qtext (jt [x.txt])) (one9 x)) dq 0 1 false) (hd : s2in due = true ∨ dq = "s0 -> s0 [" ++ deep9 due ++ "]") (hq : okS dq = true) (ql : dq.length ≤ 200) (dl : due.length ≤ 200) (sok : okS due = true) (io : i ≤ 1000 ∧ o ≤ 1000) : Cas S t due i o fo := by
  have := h.len
  exact ⟨⟨[t], [.w x], [("[" : Str), t, ("]" : Str)], [.q (qtext (jt [x.txt])) (one9 x)], dq, (jt_one t).symm, SQ9.ok_one h, t1, by rw [jt_one]; omega, qt_one h.ne, ok_quo h, t2, hd, hq, ql⟩, dl, sok, io⟩
def numsL : List Int := (List.range 12).map (fun (n : Nat) => (n : Int) - 3) ++ ((List.range 19).map (fun (n : Nat) => (10 ^ n - 1 : Int)) ++ (List.range 19).map (fun (n : Nat) => -(10 ^ n - 1 : Int)))
theorem num_in {i : Int} (h : NumOk i) : i ∈ numsL := by
  unfold numsL
  rcases h with h | ⟨n, hn, h | h⟩
  · exact List.mem_append_left _ (List.mem_map.mpr ⟨(i + 3).toNat, List.mem_range.mpr (by omega), by omega⟩)
  · exact List.mem_append_right _ (List.mem_append_left _ (List.mem_map.mpr ⟨n, List.mem_range.mpr (by omega), h.symm⟩))
  · exact List.mem_append_right _ (List.mem_append_right _ (List.mem_map.mpr ⟨n, List.mem_range.mpr (by omega), h.symm⟩))
def chkN (i : Int) : Bool := isLit ((toString i : String) : Str) && !decide ((((toString i : String) : Str)) = "[") && !decide ((((toString i : String) : Str)) = "]") && !decide (32 ∈ (((toString i : String) : Str)).cps.toList) && !decide ((((toString i : String) : Str)) = "") && decide ((((toString i : String) : Str)).length ≤ 100) && ((((toString i : String) : Str)).cps.toList.any fun c => !decide (c ∈ letters)) && decide (i.natAbs.log2 < 1920)
theorem num_all : (numsL.all chkN) = true := by decide +kernel
theorem cas_lit {S : List G3} (k : Knd S) {i : Int} (h : NumOk i) : Cas S ((toString i : String) : Str) "s0 -> s0 *" 0 1 true := by
  have hc := List.all_eq_true.mp num_all i (num_in h)
  unfold chkN at hc
  generalize ((toString i : String) : Str) = t at hc ⊢
  simp only [Bool.and_eq_true, Bool.not_eq_true', decide_eq_true_eq, decide_eq_false_iff_not, List.any_eq_true] at hc
  obtain ⟨⟨⟨⟨⟨⟨⟨h1, h2⟩, h3⟩, h4⟩, h5⟩, h6⟩, c, hcm, hcl⟩, _⟩ := hc
  obtain ⟨n1, n2⟩ := odd_no k hcm hcl
  refine cas_one (x := .lit t ((PySem.intText? t).getD 0)) ⟨h2, h3, h4, h5, h6, ?_⟩ (told_lit _ _) (toldq_lit _ _ _) (.inr ?_) (by decide +kernel) (by decide +kernel) (by decide +kernel) (by decide +kernel) (by decide)
  · unfold word0
    rw [if_neg n1, if_neg n2, if_pos h1]
  · decide +kernel
theorem log_num {i : Int} (h : NumOk i) : i.natAbs.log2 < 1920 := by
  have hc := List.all_eq_true.mp num_all i (num_in h)
  unfold chkN at hc
  simp only [Bool.and_eq_true, decide_eq_true_eq] at hc
  exact hc.2
theorem unk_all : ((List.range 4).all fun i => (List.range 4).all fun o => decide (unkQ i o = "s0 -> s0 [" ++ deep9 (unkT i o) ++ "]") && okS (unkQ i o) && okS (unkT i o) && decide ((unkQ i o).length ≤ 200) && decide ((unkT i o).length ≤ 200)) = true := by decide +kernel
theorem free_wt {t : Str} (hf : isFree (.str t) = true) : ¬ t = "[" ∧ ¬ t = "]" ∧ 32 ∉ t.cps.toList ∧ ¬ t = "" ∧ t.length ≤ 8 ∧ t ∉ cores := by
  have hl := free_letters hf
  have h8 := free_len hf
  have hn : (nameOk t && !decide (t ∈ cores)) = true := hf
  rw [Bool.and_eq_true] at hn
  refine ⟨fun z => ?_, fun z => ?_, fun z => absurd (hl 32 z) (by decide), fun z => ?_, h8, fun z => ?_⟩
  · subst z
    revert hf
    decide +kernel
  · subst z
    revert hf
    decide +kernel
  · subst z
    revert hf
    decide +kernel
  · have := hn.2
    rw [decide_eq_true z] at this
    cases this
theorem cas_unk {S : List G3} (k : Knd S) {g : G3} (hg : g ∈ S) : Cas S g.1 (unkT g.2.1.toNat g.2.2.toNat) g.2.1.toNat g.2.2.toNat true := by
  obtain ⟨⟨i0, i3⟩, j0, j3⟩ := k.ar g hg
  obtain ⟨h1, h2, h3, h4, h5, h6⟩ := free_wt (k.fr g hg)
  have hm : g.1 ∈ gnames S := List.mem_map_of_mem hg
  have ha := ar_self k.nd g hg
  have i4 : g.2.1.toNat < 4 := by omega
  have o4 : g.2.2.toNat < 4 := by omega
  have hc := List.all_eq_true.mp (List.all_eq_true.mp unk_all _ (List.mem_range.mpr i4)) _ (List.mem_range.mpr o4)
  simp only [Bool.and_eq_true, decide_eq_true_eq] at hc
  obtain ⟨⟨⟨⟨c1, c2⟩, c3⟩, c4⟩, c5⟩ := hc
  refine cas_one (x := .unk g.1 g.2.1.toNat g.2.2.toNat) ⟨h1, h2, h3, h4, by omega, ?_⟩ (told_unk _ (by omega) (by omega)) (toldq_unk _ _ (by omega) (by omega)) (.inr c1) c2 c4 c5 c3 (by omega)
  unfold word0
  rw [if_neg h6, if_pos hm, ha]
theorem cas_shu {S : List G3} (k : Knd S) {x y : Str} (h : Shu x y) : Cas S (shW x y) (shuT x.length (shP x y)) x.length y.length true := by
  have ex := shW_tl x y
  have h5 := h.five
  have h8 := h.eight
  have hm : 40 ∈ (shW x y).cps.toList := by rw [ex]; exact List.mem_cons_self
  obtain ⟨n1, n2⟩ := odd_no k hm (by decide)
  have lx : (shW x y).cps.toList.length = x.length + y.length + 3 := by
    rw [ex, len_l x, len_l y]
    simp
    omega
  have no : ∀ {z : Str} {c : Nat}, z.cps.toList = [c] → ¬ shW x y = z := fun hy z => by
    have : (shW x y).cps.toList.length = _ := congrArg (fun s : Str => s.cps.toList.length) z
    rw [lx, hy] at this
    simp at this
  have pb : ∀ p ∈ shP x y, p < x.length := fun p hp => by
    obtain ⟨c, hc, rfl⟩ := List.mem_map.mp hp
    exact idx_lt (h.sub c hc)
  have pl : (shP x y).length = y.length := by
    unfold shP
    rw [List.length_map, ← len_l9]
  have nl : isLit (shW x y) = false := by
    unfold isLit
    have ns : ¬ Txt.startswith (shW x y) "-" = true := fun z => by
      obtain ⟨cs, hcs⟩ := starts_one (c := 45) dash_l z
      rw [ex] at hcs
      have := (List.cons.inj hcs).1
      omega
    have ef : figOf (shW x y) = shW x y := by
      unfold figOf
      rw [if_neg ns]
    rw [ef]
    have : ((shW x y).cps.toList.all fun c => decide (c ∈ figsG)) = false := by
      rw [ex]
      rfl
    rw [this, Bool.and_false, Bool.false_and]
  obtain ⟨a1, a2⟩ := letT_ok (List.range x.length) fun p hp => by have := List.mem_range.mp hp; omega
  obtain ⟨b1, b2⟩ := letT_ok (shP x y) fun p hp => by have := pb p hp; omega
  have al := letT_len (ps := List.range x.length) fun p hp => by have := List.mem_range.mp hp; omega
  have bl := letT_len (ps := shP x y) fun p hp => by have := pb p hp; omega
  rw [List.length_range] at al
  rw [pl] at bl
  have g1 : ("s0" : Str).length = 2 := by decide +kernel
  have g2 : (" -> s0" : Str).length = 6 := by decide +kernel
  have g3 : ("s0 -> s0 [s1" : Str).length = 12 := by decide +kernel
  have g4 : (" -> s1" : Str).length = 6 := by decide +kernel
  have g5 : ("]" : Str).length = 1 := by decide +kernel
  have t1 := told_shu (shW x y) h5 (by rw [pl]; exact h8) pb
  have t2 := toldq_shu (qtext (jt [shW x y])) (shW x y) h5 (by rw [pl]; exact h8) pb
  rw [pl] at t1
  refine cas_one (x := .shu (shW x y) x.length (shP x y)) ⟨no (c := 91) (by decide +kernel), no (c := 93) (by decide +kernel), fun z => ?_, fun z => ?_, by rw [len_l, lx]; omega, ?_⟩ t1 t2 (.inr ?_) ?_ ?_ ?_ ?_ (by omega)
  · rw [ex] at z
    simp only [List.mem_cons, List.mem_append, List.not_mem_nil, or_false] at z
    rcases z with z | (z | z | z) | z
    · omega
    · exact absurd (h.abc 32 z) (by decide)
    · omega
    · exact absurd (h.abc 32 (h.sub 32 z)) (by decide)
    · omega
  · rw [z, emp_tl] at ex
    cases ex
  · unfold word0
    rw [if_neg n1, if_neg n2, nl, if_neg (by decide), shuf_of h]
    rfl
  · unfold shuT
    rw [deep_of a2 b2]
    apply str_ext
    unfold shuQ
    simp only [str_app, List.append_assoc]
    have e1 : ("s0 -> s0 [s1" : Str).cps.toList = ("s0 -> s0 [" : Str).cps.toList ++ ("s1" : Str).cps.toList := by decide +kernel
    rw [e1, List.append_assoc]
  · unfold shuQ
    exact okS_app (okS_app (okS_app (okS_app (by decide +kernel) a1) (by decide +kernel)) b1) (by decide +kernel)
  · unfold shuQ
    rw [Str.length_append, Str.length_append, Str.length_append, Str.length_append]
    omega
  · unfold shuT
    rw [Str.length_append, Str.length_append, Str.length_append]
    omega
  · unfold shuT
    exact okS_app (okS_app (okS_app (by decide +kernel) a1) (by decide +kernel)) b1
end SQ9
namespace SQ9
open PySem PySem.Spec L2 SQ
/-! ### behind a written number a token is out -/
def PE1 (X : Cx) (e : Expr) (t : TE) : Prop :=
  ∀ (pins : List (Addr × Obj)) (s : Shared) (σ : St) (H : Hp) (Q : VK), Inv X pins σ H s → t σ H Q → wpAny (model X.prog X.w) X.A (eval e X.env) (fun v s' => EP X pins σ Q v s' ∧ 1 ≤ s'.toks) X.xe s
def PA1 (X : Cx) (es : List Expr) (t : TA) : Prop :=
  ∀ (pos : Pos) (pins : List (Addr × Obj)) (s : Shared) (σ : St) (H : Hp) (Q : List V → Hp → Prop), Inv X pins σ H s → t σ H Q → wpAny (model X.prog X.w) X.A (spliced (backTo pos (starEach es X.env))) (fun us s' => AP X pins σ Q us s' ∧ 1 ≤ s'.toks) X.xe s
section
variable {X : Cx} {e a b f : Expr} {te ta tb : TE} {pos p : Pos}
theorem toks1 {α : Type} {t : Sem α} {Q : α → Shared → Prop} {A : Around} {E : Value → Shared → Prop} {s : Shared} (h0 : 1 ≤ s.toks) (h : wpAny (model X.prog X.w) A t Q E s) : wpAny (model X.prog X.w) A t (fun v s' => Q v s' ∧ 1 ≤ s'.toks) E s :=
  wpAny_mono (PySem.wpAny_toks h) (fun _ _ q => ⟨q.2, Nat.le_trans h0 q.1⟩) fun _ _ z => z.2
theorem pe1_int {i : Int} {j : Nat} : PE1 X (.Constant (.int i) j pos) (tC (.int i)) := fun pins s σ H Q I h => wpAny_Constant_int ⟨⟨.int i, H, I.tok _, ⟨_, rfl⟩, h⟩, by show 1 ≤ s.toks + 1; omega⟩
theorem pe1_op {op : Operator} {r : R2} (ho : OpR X (binaryOp op) r) (ha : PE X a ta) (hb : PE1 X b tb) : PE1 X (.BinOp a op b pos) (tOp r ta tb) := by
  intro pins s σ H Q I h
  refine wpAny_BinOp (thn (ha.run pins s σ H _ I h) fun v s1 ⟨x, H1, I1, r1, q1⟩ => ?_)
  exact thn (hb pins s1 σ H1 _ I1 q1) fun u s2 ⟨⟨y, H2, I2, r2, q2⟩, h1⟩ => toks1 h1 (ho pins s2 σ H2 x y v u Q I2 r1 r2 q2)
theorem pa1_one (he : PE1 X e te) (hs : starEach [e] X.env = [(false, eval e X.env)] := by rfl) : PA1 X [e] (tCons te tNil) := by
  intro pos pins s σ H Q I h
  rw [hs]
  show wpAny _ _ (spliced ((false, eval e X.env) :: backTo pos (starEach [] X.env))) _ _ s
  refine Calls.spliced_cons (thn (he pins s σ H _ I h) fun u s1 ⟨⟨x, H1, I1, r1, q1⟩, h1⟩ => ?_)
  exact thn (toks1 h1 ((pa_nil (X := X)).run pos pins s1 σ H1 _ I1 q1)) fun us s2 ⟨⟨xs, H2, I2, r2, q2⟩, h2⟩ => ⟨⟨x :: xs, H2, I2, .cons r1 r2, q2⟩, h2⟩
theorem pe1_callB {id : String} {x : Str} {r : List V → Hp → VK → Prop} {t : TA} (hc : CallR X (.builtin id) r) (hg : Gl X x) (hm : X.mg x = none) (hv : bootBuiltins x = some (.builtin id)) (ha : PA1 X [e] t) (hn : x ≠ "__name__" := by decide) (hdb : (x == ("__debug__" : Str)) = false := by decide)
    (he : starEach [e] X.env = (false, eval e X.env) :: starEach [] X.env := by rfl) (hpl : (backTo pos (starEach [] X.env)).any (·.1) = false := by rfl) : PE1 X (.Call (.Name x p) [e] [] pos) (tCB r t) := by
  intro pins s σ H Q I h
  refine wpAny_Call_Name_kw (ld_blt I hg hm hv ?_ hn hdb)
  exact PyProof.Rows.callWith_builtin1 (thn (ha pos pins s σ H _ I h) fun us s1 ⟨⟨vs, H1, I1, r1, q1⟩, h1⟩ => toks1 h1 (hc pins s1 σ H1 vs us Q I1 r1 q1)) he hpl
/-- the test of an if, then a token is out -/
theorem pss_if1 {op : CmpOp} {r : R2} {sa sb rest : List Stmt} {t u w : TS} {cpos : Pos} (ho : OpR X (compareOp op) r) (ha : PE X a ta) (hb : PE1 X b tb) (hm : behindInMarks op b = false) (h1 : PSs X sa t) (h2 : PSs X sb u) (h3 : PSsT X rest w) :
    PSs X (.If (.Compare a [op] [b] cpos) sa sb pos :: rest) (tSeq (tIfS (tTest (tOp r ta tb)) t u) w) := by
  refine ⟨fun pins s σ H D I h => ?_⟩
  refine wpAny_execs_cons (wpAny_If (wpAny_isTrue_Compare1 (thn (ha.run pins s σ H _ I h) fun v s1 ⟨x, H1, I1, r1, q1⟩ => thn (hb pins s1 σ H1 _ I1 q1) fun u s2 ⟨⟨y, H2, I2, r2, q2⟩, k1⟩ =>
    thn (toks1 k1 (ho pins s2 σ H2 x y v u _ I2 r1 r2 q2)) fun c s3 ⟨⟨z, H3, I3, r3, k, e, q3⟩, k2⟩ => ?_) hm))
  subst e
  cases r3
  have fin : ∀ {sts : List Stmt} {tt : TS}, PSs X sts tt → tt { D with nx := w D } σ H3 → wpAny (model X.prog X.w) X.A (execs sts X.env) (fun f s' => match f with | .next => wpAny (model X.prog X.w) X.A (execs rest X.env) (SP X pins D) X.xe s' | f => SP X pins D f s') X.xe s3 := fun hs hq => by
    refine thn (toks1 k2 (hs.run pins s3 σ H3 { D with nx := w D } I3 hq)) fun f s4 ⟨q, k4⟩ => ?_
    cases f with
    | next =>
      obtain ⟨σ', H', I', q⟩ := q
      exact h3 pins s4 σ' H' D k4 I' q
    | ret v => exact q
    | brk => exact q
    | cont => exact q
  refine wpAny_truthy_bool ?_
  cases k with
  | true => exact fin h1 q3
  | false => exact fin h2 q3
end
section
variable {X : Cx} {CX : CXT} {k : Nat} {g : Addr} {sp : Sp} {E : XK} {e : Expr} {x f : Str} {p pos kpos : Pos} {te : TE} {fd : FuncData}
/-- f(k=e) -/
theorem pe_callK1 (F : FnOk X.prog X.w X.K X.mg X.base CX k g fd [f] sp) (hr : Room k X.A) (hg : Gl X x) (hm : X.mg x = some (.ref g)) (hk : PySem.W.keepIn X.K (.ref g) = true) (hb : ∀ (s : Shared) (u : Value), BindsTo s fd ⟨[], [(f, u)]⟩ [(f, u)]) (hx : Passes CX X E) (ha : PE X e te)
    (hdb : (x == ("__debug__" : Str)) = false := by decide) : PE X (.Call (.Name x p) [] [⟨some f, e, kpos⟩] pos) (fun σ H Q => te σ H fun v H2 => ∃ v', [v] = [v'] ∧ sp [v'] H2 Q E) := by
  constructor
  intro pins s σ H Q I h
  refine wpAny_Call_Name_kw (ld_glob I hg hm ?_ hdb)
  refine PySem.W.callWith_KW0 (h₀ := X.base) I.ok.mod.kin hk rfl ?_
  have hk : PK X [⟨some f, e, kpos⟩] (tCons te tNil) := pk_cons ha pk_nil
  refine thn (hk.run pos pins s σ H (fun zs H2 => ∃ v, zs = [v] ∧ sp [v] H2 Q E) I ?_) ?_
  · exact h
  · intro us s3 ⟨zs, H2, I3, r1, v, ez, q2⟩
    subst ez
    refine ⟨I3.kIn, ?_⟩
    cases r1 with
    | cons rv rr =>
      cases rr
      rename_i u
      show wpAny _ _ (call (.ref g) [] [(f, u)]) _ _ _
      refine wpAny_call (codeAny_mono (F.run X.A X.stack s3 H2 ⟨[], [(f, u)]⟩ [u] [v] Q E hr I3.env0 (hb s3 u) (.cons rv .nil) q2) fun r s' hq => ?_)
      cases r with
      | error e => exact hx pins σ H2 s3 e s' I3 hq
      | ok fl => cases fl with
        | ret u => exact I3.after hq
        | next => exact False.elim hq
        | brk => exact False.elim hq
        | cont => exact False.elim hq
end
end SQ9
namespace SQ9
open PySem L2 SQ
abbrev sOR : Stmt := top 103
/-! ### a program with what is told of it -/
structure Has9 (CP : Addr) (H : Hp) (p : Addr) (txt : Str) (i o : Nat) (fo : Bool) : Prop where
  ex : ∃ row, PgR CP H p row ∧ Told row txt i o fo
theorem Has9.same {CP p : Addr} {H H' : Hp} {txt : Str} {i o : Nat} {fo : Bool} (s : Same H H') (h : Has9 CP H p txt i o fo) : Has9 CP H' p txt i o fo := by
  obtain ⟨row, a, b⟩ := h.ex
  exact ⟨row, a.same s, b⟩
theorem has_ef {CP p : Addr} {H : Hp} {txt : Str} {i o : Nat} {fo : Bool} {Q : VK} {E : XK} (h : Has9 CP H p txt i o fo) (q : ∀ H', Same H H' → Q (.str txt) H') : spEf CP [.ref p] H Q E := by
  obtain ⟨row, a, t⟩ := h.ex
  obtain ⟨S, l, r, wr, b1, b2, x1, x2, e1, e2, e3, e4, e5, e6, e7, e8, e9, e10⟩ := t.ex
  exact ⟨p, S, l, r, 1000, wr, rfl, ⟨row, a, t.ok, t.dep, t.sz, e1⟩, by decide, e2, fun H' s => by rw [e3]; exact q H' s⟩
theorem has_re {CP p : Addr} {H : Hp} {txt : Str} {i o : Nat} {fo : Bool} {Q : VK} {E : XK} (h : Has9 CP H p txt i o fo) (q : ∀ (H' : Hp) (t : Addr), Same H H' → H' t = some (.tup [vN i, vN o]) → Q (.ref t) H') : spRe CP [.ref p] H Q E := by
  obtain ⟨row, a, t⟩ := h.ex
  obtain ⟨S, l, r, wr, b1, b2, x1, x2, e1, e2, e3, e4, e5, e6, e7, e8, e9, e10⟩ := t.ex
  exact ⟨p, S, l, r, 1000, b1, b2, x1, x2, rfl, ⟨row, a, t.ok, t.dep, t.sz, e1⟩, by decide, e4, e5, fun H' tt s ht => q H' tt s (by rw [e6, e7] at ht; exact ht)⟩
theorem has_if {CS CF CP p : Addr} {H : Hp} {txt : Str} {i o : Nat} {fo : Bool} {Q : VK} {E : XK} (h : Has9 CP H p txt i o fo) (q : ∀ H', Same H H' → Q (.bl fo) H') : spIf CS CF CP [.ref p] H Q E := by
  obtain ⟨row, a, t⟩ := h.ex
  obtain ⟨S, l, r, wr, b1, b2, x1, x2, e1, e2, e3, e4, e5, e6, e7, e8, e9, e10⟩ := t.ex
  exact ⟨p, S, l, r, 1000, b1, b2, x1, x2, rfl, ⟨row, a, t.ok, t.dep, t.sz, e1⟩, by decide, e4, e5, e9, e10, fun H' s => by rw [e8]; exact q H' s⟩
/-- the same, said by what is told -/
def spEh (CP : Addr) : Sp := fun vs H Q _ => ∃ (p : Addr) (txt : Str) (i o : Nat) (fo : Bool), vs = [.ref p] ∧ Has9 CP H p txt i o fo ∧ ∀ H', Same H H' → Q (.str txt) H'
def spRh (CP : Addr) : Sp := fun vs H Q _ => ∃ (p : Addr) (txt : Str) (i o : Nat) (fo : Bool), vs = [.ref p] ∧ Has9 CP H p txt i o fo ∧ ∀ (H' : Hp) (t : Addr), Same H H' → H' t = some (.tup [vN i, vN o]) → Q (.ref t) H'
def spIh (CP : Addr) : Sp := fun vs H Q _ => ∃ (p : Addr) (txt : Str) (i o : Nat) (fo : Bool), vs = [.ref p] ∧ Has9 CP H p txt i o fo ∧ ∀ H', Same H H' → Q (.bl fo) H'
theorem eh_of {CP : Addr} : ∀ vs H Q E, spEh CP vs H Q E → spEf CP vs H Q E := fun vs H Q E ⟨p, txt, i, o, fo, e, h, q⟩ => by
  subst e
  exact has_ef h q
theorem rh_of {CP : Addr} : ∀ vs H Q E, spRh CP vs H Q E → spRe CP vs H Q E := fun vs H Q E ⟨p, txt, i, o, fo, e, h, q⟩ => by
  subst e
  exact has_re h q
theorem ih_of {CS CF CP : Addr} : ∀ vs H Q E, spIh CP vs H Q E → spIf CS CF CP vs H Q E := fun vs H Q E ⟨p, txt, i, o, fo, e, h, q⟩ => by
  subst e
  exact has_if h q
structure Psd (C CP : Addr) (H : Hp) (p : Addr) (due : Str) (i o : Nat) (fo : Bool) : Prop where
  ex : ∃ S ov ts es ts' es' dq, Vo9 C H ov S (gnames S) ∧ Pg9 CP H p ov ts es ∧ Told (rofE es) due i o fo ∧ (jt ts).length ≤ 9000 ∧ qtext (jt ts) = jt ts' ∧ Ok9 S (gnames S) ts' es' ∧ Told (rofE es') dq 0 1 false ∧ (s2in due = true ∨ dq = "s0 -> s0 [" ++ deep9 due ++ "]") ∧ okS dq = true ∧ dq.length ≤ 200
  dl : due.length ≤ 200
  sok : okS due = true
  io : i ≤ 1000 ∧ o ≤ 1000
theorem psd_of {C CP : Addr} {H : Hp} {p ov : Addr} {S : List G3} {tx due : Str} {i o : Nat} {fo : Bool} {ts : List Str} {es : List E9} (V : Vo9 C H ov S (gnames S)) (P9 : Pg9 CP H p ov ts es) (dl : due.length ≤ 200) (sok : okS due = true) (io : i ≤ 1000 ∧ o ≤ 1000)
    (h : ∃ ts' es' dq, Told (rofE es) due i o fo ∧ (jt ts).length ≤ 9000 ∧ qtext (jt ts) = jt ts' ∧ Ok9 S (gnames S) ts' es' ∧ Told (rofE es') dq 0 1 false ∧ (s2in due = true ∨ dq = "s0 -> s0 [" ++ deep9 due ++ "]") ∧ okS dq = true ∧ dq.length ≤ 200) : Psd C CP H p due i o fo := by
  obtain ⟨ts', es', dq, h1, h2, h3, h4, h5, h6, h7, h8⟩ := h
  exact ⟨⟨S, ov, ts, es, ts', es', dq, V, P9, h1, h2, h3, h4, h5, h6, h7, h8⟩, dl, sok, io⟩
theorem Psd.has {C CP : Addr} {H : Hp} {p : Addr} {due : Str} {i o : Nat} {fo : Bool} (h : Psd C CP H p due i o fo) : Has9 CP H p due i o fo := by
  obtain ⟨S, ov, ts, es, ts', es', dq, V, P9, h1, _⟩ := h.ex
  exact ⟨_, P9.row, h1⟩
/-! ### the data that are shown -/
theorem shAll9 : ∀ l : List PyData, PyData.shownAll l = l.map PyData.shown
  | [] => by simp only [PyData.shownAll, List.map_nil]
  | d :: l => by simp only [PyData.shownAll, List.map_cons, shAll9 l]
abbrev dIJ (i o : Nat) : PyData := .tuple [.int (i : Int), .int (o : Int)]
def dTo (due : Str) (i o : Nat) (fo : Bool) : List PyData := [.str due, .str due, .str due, dIJ i o, dIJ i o, .bool fo, .bool fo]
def dQo (dq : Str) : List PyData := [.str dq, .tuple [.int 0, .int 1], .bool false]
theorem dTo_ok (due : Str) (fo : Bool) {i o : Nat} (hi : i ≤ 1000) (ho : o ≤ 1000) : (PyData.list (dTo due i o fo)).showable = true ∧ (PyData.list (dTo due i o fo)).depth ≤ 60 := by
  have h1 : decide ((i : Int).natAbs.log2 < 1920) = true := decide_eq_true (nat_log hi)
  have h2 : decide ((o : Int).natAbs.log2 < 1920) = true := decide_eq_true (nat_log ho)
  constructor
  · simp only [dTo, dIJ, PyData.showable, PyData.showableAll, h1, h2]
    rfl
  · simp only [dTo, dIJ, PyData.depth, PyData.depthAll]
    decide
theorem str_shown {x : Str} (h : okS x = true) (hl : x.length ≤ 200) : (PyData.shown (.str x)).length ≤ 2002 := by
  have := PySem.StrLaws.reprText_len x fun c hc => Nat.lt_trans ((strOk_iff x).mp (okS_str h) c hc) (by decide)
  simp only [PyData.shown]
  omega
theorem int_shown9 {n : Nat} (h : n ≤ 1000) : (PyData.shown (.int (n : Int))).length ≤ 4 := by
  simp only [PyData.shown]
  exact num_len n (List.mem_range.mpr (by omega))
theorem ij_shown {i o : Nat} (hi : i ≤ 1000) (ho : o ≤ 1000) : (PyData.shown (dIJ i o)).length ≤ 20 := by
  have a := int_shown9 hi
  have b := int_shown9 ho
  have e : PyData.shown (dIJ i o) = tupleText [PyData.shown (.int (i : Int)), PyData.shown (.int (o : Int))] := by
    simp only [dIJ, PyData.shown, PyData.shownAll]
  have h := tupleText_len_le [PyData.shown (.int (i : Int)), PyData.shown (.int (o : Int))]
  rw [e]
  simp only [List.map_cons, List.map_nil, List.sum_cons, List.sum_nil, List.length_cons, List.length_nil] at h
  omega
theorem bl_shown (b : Bool) : (PyData.shown (.bool b)).length ≤ 5 := by
  cases b <;> simp only [PyData.shown] <;> decide +kernel
theorem dTo_len {due : Str} {i o : Nat} {fo : Bool} (hi : i ≤ 1000) (ho : o ≤ 1000) (hs : okS due = true) (hl : due.length ≤ 200) : (PyData.list (dTo due i o fo)).shown.length ≤ sizeLine := by
  refine Nat.le_trans ?_ (by decide : 100000 ≤ sizeLine)
  have e1 := str_shown hs hl
  have e2 := ij_shown hi ho
  have e3 := bl_shown fo
  have h := listText_len_le (PyData.shownAll (dTo due i o fo))
  have e7 : (PyData.list (dTo due i o fo)).shown = listText (PyData.shownAll (dTo due i o fo)) := by simp only [PyData.shown]
  rw [e7]
  rw [shAll9] at h ⊢
  simp only [dTo, List.map_cons, List.map_nil, List.sum_cons, List.sum_nil, List.length_cons, List.length_nil] at h ⊢
  omega
theorem dQo_ok (dq : Str) : (PyData.list (dQo dq)).showable = true ∧ (PyData.list (dQo dq)).depth ≤ 60 := by
  constructor
  · simp only [dQo, PyData.showable, PyData.showableAll]
    decide +kernel
  · simp only [dQo, PyData.depth, PyData.depthAll]
    decide
theorem dQo_len {dq : Str} (hs : okS dq = true) (hl : dq.length ≤ 200) : (PyData.list (dQo dq)).shown.length ≤ sizeLine := by
  refine Nat.le_trans ?_ (by decide : 100000 ≤ sizeLine)
  have e1 := str_shown hs hl
  have e2 : (PyData.shown (.tuple [.int 0, .int 1])).length ≤ 20 := ij_shown (i := 0) (o := 1) (by decide) (by decide)
  have e3 := bl_shown false
  have h := listText_len_le (PyData.shownAll (dQo dq))
  have e7 : (PyData.list (dQo dq)).shown = listText (PyData.shownAll (dQo dq)) := by simp only [PyData.shown]
  rw [e7]
  rw [shAll9] at h ⊢
  simp only [dQo, List.map_cons, List.map_nil, List.sum_cons, List.sum_nil, List.length_cons, List.length_nil] at h ⊢
  omega
theorem dpAll_to {K : PySem.W.Frag} {H : Hp} {due : Str} {i o : Nat} {fo : Bool} {t1 t2 : Addr} (h1 : H t1 = some (.tup [vN i, vN o])) (h2 : H t2 = some (.tup [vN i, vN o])) : DpAll K H [.str due, .str due, .str due, .ref t1, .ref t2, .bl fo, .bl fo] (dTo due i o fo) :=
  .cons (.str _) (.cons (.str _) (.cons (.str _) (.cons (.tup (SqT.of h1) (.cons (.int _) (.cons (.int _) .nil))) (.cons (.tup (SqT.of h2) (.cons (.int _) (.cons (.int _) .nil))) (.cons (.bl _) (.cons (.bl _) .nil))))))
theorem dpAll_qo {K : PySem.W.Frag} {H : Hp} {dq : Str} {t : Addr} (h1 : H t = some (.tup [.int 0, .int 1])) : DpAll K H [.str dq, .ref t, .bl false] (dQo dq) :=
  .cons (.str _) (.cons (.tup (SqT.of h1) (.cons (.int _) (.cons (.int _) .nil))) (.cons (.bl _) .nil))
theorem eqv_01 : PyData.eqv (.tuple [.int ((0 : Nat) : Int), .int ((1 : Nat) : Int)]) (.tuple [.int 0, .int 1]) = true := SeqAt.eqv_refl _ rfl
theorem sh_01 : SeqAt.shaped (.tuple [.int 0, .int 1]) = true := by
  unfold SeqAt.shaped
  simp only [PyData.canLay0, PyData.canLayAll0, PyData.depth, PyData.depthAll]
  rfl
/-! ### _law_one_right -/
section
variable {X : Cx} {e : Expr} {te : TE} {pos : Pos}
theorem pst_set9 {i : Nat} {x : Str} {pos' : Pos} (hN : X.N.Nodup) (hi : X.N[i]? = some x) (hx : Loc X.env.scope x) (he : PET X e te) (hs : swapsWith e (some (.Name x pos')) pos.line X.env = pure false := by rfl) (hf : X.fn x = true ∨ X.env.scope.names.lookup x = some .local := by first | exact .inl rfl | exact .inr rfl | assumption) :
    PST X (.Assign [.Name x pos'] e pos) (tAsg te (gName i)) := by
  intro pins s σ H D h0 I h
  refine wpAny_Assign_Name (thn (he pins s σ H _ h0 I h) fun v s1 ⟨y, H1, I1, r1, q1⟩ => ?_) hs
  exact store_ok I1 hN hi hx r1 (fun s2 I2 => ⟨_, H1, I2, q1⟩) hf
end
structure OrD (P : Program) (w : World) (K : PySem.W.Frag) (mg : Str → Option Value) (base : Heap) (C CP fE fR fI fQ : Addr) (dE dR dI dQ : FuncData) : Prop where
  V : PC K mg CP
  rep : mg "repr" = none
  gE : mg "effect" = some (.ref fE)
  kE : PySem.W.keepIn K (.ref fE) = true
  bE : Binds K dE ["program"] []
  jE : ∀ (s : Shared) (u : Value), BindsTo s dE ⟨[], [("program", u)]⟩ [("program", u)]
  GE : FnOk P w K mg base CX0 12 fE dE ["program"] (spEh CP)
  gR : mg "reach" = some (.ref fR)
  kR : PySem.W.keepIn K (.ref fR) = true
  bR : Binds K dR ["program"] []
  jR : ∀ (s : Shared) (u : Value), BindsTo s dR ⟨[], [("program", u)]⟩ [("program", u)]
  GR : FnOk P w K mg base CX0 12 fR dR ["program"] (spRh CP)
  gI : mg "is_first_order" = some (.ref fI)
  kI : PySem.W.keepIn K (.ref fI) = true
  bI : Binds K dI ["program"] []
  jI : ∀ (s : Shared) (u : Value), BindsTo s dI ⟨[], [("program", u)]⟩ [("program", u)]
  GI : FnOk P w K mg base CX0 12 fI dI ["program"] (spIh CP)
  mQ : Meth K CP "quoted" fQ
  bQ : Binds K dQ ["self"] []
  GQ : FnOk P w K mg base CX0 7 fQ dQ ["self"] (spQd9 CP C)
section
variable {P : Program} {w : World} {K : PySem.W.Frag} {mg : Str → Option Value} {base : Heap} {C CP fE fR fI fQ : Addr} {dE dR dI dQ : FuncData}
def spOR (C CP : Addr) : Sp := fun vs H Q _ => ∃ (p ct : Addr) (due : Str) (i o : Nat) (fo : Bool), vs = [.ref p, .str due, .ref ct, .bl fo] ∧ Psd C CP H p due i o fo ∧ H ct = some (.tup [vN i, vN o]) ∧ ∀ H', Same H H' → Q (.bl true) H'
abbrev nOR : List Str := ["_law_mine", "_law_due", "_law_counts", "_law_simple", "_law_told", "_law_deep", "_law_quoted"]
theorem scOR : FnScope nOR ["_law_mine", "_law_due", "_law_counts", "_law_simple"] (defScope sOR) := ⟨rfl, rfl, rfl, by decide +kernel, rfl, by decide +kernel, by decide +kernel⟩
theorem ok_or {f : Addr} {fd : FuncData} (F : Fun K "_law_one_right" "_law_one_right" sOR f fd) (D : OrD P w K mg base C CP fE fR fI fQ dE dR dI dQ) : FnG P w K mg base CX0 13 f fd ["_law_mine", "_law_due", "_law_counts", "_law_simple"] (spOR C CP) := by
  refine okG F scOR (fun vs H Q E h => ?_) (fun cdv A outer s H vs Q E hgd hr h => ?_)
  · obtain ⟨p, ct, due, i, o, fo, rfl, _⟩ := h
    rfl
  · obtain ⟨p, ct, due, i, o, fo, rfl, hP, hct, q⟩ := h
    have hr7 : Room 7 (A.deeper (PyProof.Rows.envOfC "_law_one_right" (defScope sOR) s.heap.objs.size f cdv)) := hr.mono (by omega)
    refine ⟨_, pss_cons (ps_set (i := 4) scOR.nd rfl (.inl rfl) (pe_lst (pa_cons (pe_call D.GE hr rfl D.gE D.kE D.bE .nil pass0 (pa_cons (pv 0) pa_nil)) (pa_cons (pe_callK1 D.GE hr rfl D.gE D.kE D.jE pass0 (pv 0)) (pa_cons (pe_call D.GE hr rfl D.gE D.kE D.bE .nil pass0 (pa_cons (pv 0) pa_nil))
        (pa_cons (pe_call D.GR hr rfl D.gR D.kR D.bR .nil pass0 (pa_cons (pv 0) pa_nil)) (pa_cons (pe_callK1 D.GR hr rfl D.gR D.kR D.jR pass0 (pv 0)) pa_nil)))))))
      (pss_cons (ps_set (i := 4) scOR.nd rfl (.inl rfl) (pe_op op_cat (pv 4) (pe_lst (pa_cons (pe_call D.GI hr rfl D.gI D.kI D.bI .nil pass0 (pa_cons (pv 0) pa_nil)) (pa_cons (pe_callK1 D.GI hr rfl D.gI D.kI D.jI pass0 (pv 0)) pa_nil)))))
      (pss_if1 op_ne (pe_callB (cr_reprL hgd hr.units) (by rfl) D.rep (by decide +kernel) (pa_cons (pv 4) pa_nil))
        (pe1_callB (cr_reprL hgd hr.units) (by rfl) D.rep (by decide +kernel) (pa1_one (pe1_op op_cat (pe_op op_cat (pe_op op_rep (pe_lst (pa_cons (pv 1) pa_nil)) pe_int) (pe_op op_rep (pe_lst (pa_cons (pv 2) pa_nil)) pe_int)) (pe1_op op_rep (pe_lst (pa_cons (pv 3) pa_nil)) pe1_int)))) (nomark _)
        (pss_one (ps_ret pe_bl)) pss_nil
      (psst_cons (pst_set9 (i := 5) scOR.nd rfl (.inl rfl) (CwR.pet_replT (CwR.pet_replC (pv 1))))
      (PSsT.of (pss_cons (ps_set (i := 6) scOR.nd rfl (.inl rfl) (pe_meth0 (pv 0) D.V.cl D.mQ D.GQ hr7 D.bQ .nil pass0))
      (pss_cons (ps_if (pt_cmpR op_in_str pe_str (pv 1) (by rfl))
          (pss_one (ps_ret (pe_and (pe_cmpR (op_eqD hr.units) (pe_call D.GR hr rfl D.gR D.kR D.bR .nil pass0 (pa_cons (pv 6) pa_nil)) (pe_tup (pa_cons pe_int (pa_cons pe_int pa_nil))) (by rfl)) (pe_one (pe_cmpR op_isBl (pe_call D.GI hr rfl D.gI D.kI D.bI .nil pass0 (pa_cons (pv 6) pa_nil)) pe_bl (by rfl)))))) pss_nil)
      (pss_cons (ps_set (i := 4) scOR.nd rfl (.inl rfl) (pe_lst (pa_cons (pe_call D.GE hr rfl D.gE D.kE D.bE .nil pass0 (pa_cons (pv 6) pa_nil)) (pa_cons (pe_call D.GR hr rfl D.gR D.kR D.bR .nil pass0 (pa_cons (pv 6) pa_nil)) (pa_cons (pe_call D.GI hr rfl D.gI D.kI D.bI .nil pass0 (pa_cons (pv 6) pa_nil)) pa_nil)))))
      (pss_one (ps_ret (pe_cmpR op_eq (pe_callB (cr_reprL hgd hr.units) (by rfl) D.rep (by decide +kernel) (pa_cons (pv 4) pa_nil)) (pe_callB (cr_reprL hgd hr.units) (by rfl) D.rep (by decide +kernel) (pa_cons (pe_lst (pa_cons (pe_op op_add_str (pe_op op_add_str pe_str (pv 5)) pe_str) (pa_cons (pe_tup (pa_cons pe_int (pa_cons pe_int pa_nil))) (pa_cons pe_bl pa_nil)))) pa_nil)) (by rfl))))))))))), ?_⟩
    obtain ⟨S, ov, ts, es, ts', es', dq, hV0, P9, h1, h2, h3, h4, h5, h6, h7, h8⟩ := hP.ex
    have hh := hP.has
    have dl := hP.dl
    have sok := hP.sok
    obtain ⟨i1, o1⟩ := hP.io
    obtain ⟨ok1, ok2⟩ := dTo_ok due fo i1 o1
    have ok3 : (PyData.list (dTo due i o fo)).shown.length ≤ sizeLine := dTo_len i1 o1 sok dl
    obtain ⟨oq1, oq2⟩ := dQo_ok dq
    have oq3 := dQo_len h7 h8
    generalize hds : dTo due i o fo = ds at ok1 ok2 ok3
    generalize hdq : dQo dq = dsq at oq1 oq2 oq3
    -- what is told
    refine seq_mid (fun σ G => ∃ a t1 t2, σ = [some (.ref p), some (.str due), some (.ref ct), some (.bl fo), some (.ref a), none, none] ∧ Same H G ∧ G a = some (.lst [.str due, .str due, .str due, .ref t1, .ref t2]) ∧ G t1 = some (.tup [vN i, vN o]) ∧ G t2 = some (.tup [vN i, vN o])) (fun N hN => ?_) ?_
    · refine ⟨_, rfl, _, _, _, _, _, rfl, hh, fun G1 s1 => ⟨_, rfl, _, rfl, _, _, _, _, _, rfl, (hh.same s1), fun G2 s2 => ⟨_, rfl, _, _, _, _, _, rfl, (hh.same (st s1 s2)), fun G3 s3 => ⟨_, rfl, _, _, _, _, _, rfl, (hh.same (st s1 (st s2 s3))), fun G4 t1 s4 k1 => ⟨_, rfl, _, rfl, _, _, _, _, _, rfl, (hh.same (st s1 (st s2 (st s3 s4)))), fun G5 t2 s5 k2 => ⟨(by show 5 ≤ sizeLine; decide), fun a na => hN _ _ ⟨a, t1, t2, rfl, ?_, upd_same, ?_, ?_⟩⟩⟩⟩⟩⟩⟩
      · exact same_new (st s1 (st s2 (st s3 (st s4 s5)))) na
      · have e := s5 _ _ k1
        rw [upd_ne (ne_of_none e na)]
        exact e
      · rw [upd_ne (ne_of_none k2 na)]
        exact k2
    rintro _ G ⟨a, t1, t2, rfl, sG, ha, k1, k2⟩
    refine seq_mid (fun σ G => ∃ a, σ = [some (.ref p), some (.str due), some (.ref ct), some (.bl fo), some (.ref a), none, none] ∧ Same H G ∧ G a = some (.lst [.str due, .str due, .str due, .ref t1, .ref t2, .bl fo, .bl fo]) ∧ G t1 = some (.tup [vN i, vN o]) ∧ G t2 = some (.tup [vN i, vN o])) (fun N hN => ?_) ?_
    · refine ⟨_, rfl, _, rfl, _, _, _, _, _, rfl, (hh.same sG), fun G1 s1 => ⟨_, rfl, _, rfl, _, _, _, _, _, rfl, (hh.same (st sG s1)), fun G2 s2 => ⟨(by show 2 ≤ sizeLine; decide), fun b nb => ?_⟩⟩⟩
      have s3 : Same G2 (upd G2 b (.lst [.bl fo, .bl fo])) := same_new (fun _ _ e => e) nb
      have hb : upd G2 b (.lst [.bl fo, .bl fo]) b = some (.lst [.bl fo, .bl fo]) := upd_same
      generalize upd G2 b (.lst [.bl fo, .bl fo]) = G3 at s3 hb ⊢
      have z3 := st s1 (st s2 s3)
      refine ⟨a, b, _, _, rfl, rfl, z3 _ _ ha, hb, (by show 7 ≤ sizeLine; decide), fun c nc => hN _ _ ⟨c, rfl, same_new (st sG z3) nc, upd_same, ?_, ?_⟩⟩
      · rw [upd_ne (ne_of_none (z3 _ _ k1) nc)]
        exact z3 _ _ k1
      · rw [upd_ne (ne_of_none (z3 _ _ k2) nc)]
        exact z3 _ _ k2
    clear sG ha k1 k2
    rintro _ G ⟨a, rfl, sG, ha, k1, k2⟩
    -- it is due
    refine seq_mid (fun σ G => σ = [some (.ref p), some (.str due), some (.ref ct), some (.bl fo), some (.ref a), none, none] ∧ Same H G) (fun N hN => ?_) ?_
    · refine ⟨_, rfl, a, _, ds, rfl, SqL.of ha, .inl (by rw [← hds]; exact dpAll_to k1 k2), ok1, ok2, ok3, ?_⟩
      refine ⟨_, rfl, (by show 1 ≤ sizeLine; decide), fun b1 n1 => ?_⟩
      have s1 : Same G (upd G b1 (.lst [.str due])) := same_new (fun _ _ e => e) n1
      have g1 : upd G b1 (.lst [.str due]) b1 = some (.lst [.str due]) := upd_same
      generalize upd G b1 (.lst [.str due]) = G1 at s1 g1 ⊢
      refine ⟨b1, 3, _, rfl, rfl, g1, by decide, by decide, (by show 3 ≤ sizeLine; decide), fun b2 n2 => ?_⟩
      have s2 : Same G1 (upd G1 b2 (.lst (List.replicate (Int.toNat 3) [V.str due]).flatten)) := same_new (fun _ _ e => e) n2
      have g2 : upd G1 b2 (.lst (List.replicate (Int.toNat 3) [V.str due]).flatten) b2 = some (.lst [.str due, .str due, .str due]) := upd_same
      generalize upd G1 b2 (.lst (List.replicate (Int.toNat 3) [V.str due]).flatten) = G2 at s2 g2 ⊢
      refine ⟨_, rfl, (by show 1 ≤ sizeLine; decide), fun b3 n3 => ?_⟩
      have s3 : Same G2 (upd G2 b3 (.lst [.ref ct])) := same_new (fun _ _ e => e) n3
      have g3 : upd G2 b3 (.lst [.ref ct]) b3 = some (.lst [.ref ct]) := upd_same
      generalize upd G2 b3 (.lst [.ref ct]) = G3 at s3 g3 ⊢
      refine ⟨b3, 2, _, rfl, rfl, g3, by decide, by decide, (by show 2 ≤ sizeLine; decide), fun b4 n4 => ?_⟩
      have s4 : Same G3 (upd G3 b4 (.lst (List.replicate (Int.toNat 2) [V.ref ct]).flatten)) := same_new (fun _ _ e => e) n4
      have g4 : upd G3 b4 (.lst (List.replicate (Int.toNat 2) [V.ref ct]).flatten) b4 = some (.lst [.ref ct, .ref ct]) := upd_same
      generalize upd G3 b4 (.lst (List.replicate (Int.toNat 2) [V.ref ct]).flatten) = G4 at s4 g4 ⊢
      refine ⟨b2, b4, _, _, rfl, rfl, s4 _ _ (s3 _ _ g2), g4, (by show 5 ≤ sizeLine; decide), fun b5 n5 => ?_⟩
      have s5 : Same G4 (upd G4 b5 (.lst ([V.str due, .str due, .str due] ++ [.ref ct, .ref ct]))) := same_new (fun _ _ e => e) n5
      have g5 : upd G4 b5 (.lst ([V.str due, .str due, .str due] ++ [.ref ct, .ref ct])) b5 = some (.lst [.str due, .str due, .str due, .ref ct, .ref ct]) := upd_same
      generalize upd G4 b5 (.lst ([V.str due, .str due, .str due] ++ [.ref ct, .ref ct])) = G5 at s5 g5 ⊢
      refine ⟨_, rfl, (by show 1 ≤ sizeLine; decide), fun b6 n6 => ?_⟩
      have s6 : Same G5 (upd G5 b6 (.lst [.bl fo])) := same_new (fun _ _ e => e) n6
      have g6 : upd G5 b6 (.lst [.bl fo]) b6 = some (.lst [.bl fo]) := upd_same
      generalize upd G5 b6 (.lst [.bl fo]) = G6 at s6 g6 ⊢
      refine ⟨b6, 2, _, rfl, rfl, g6, by decide, by decide, (by show 2 ≤ sizeLine; decide), fun b7 n7 => ?_⟩
      have s7 : Same G6 (upd G6 b7 (.lst (List.replicate (Int.toNat 2) [V.bl fo]).flatten)) := same_new (fun _ _ e => e) n7
      have g7 : upd G6 b7 (.lst (List.replicate (Int.toNat 2) [V.bl fo]).flatten) b7 = some (.lst [.bl fo, .bl fo]) := upd_same
      generalize upd G6 b7 (.lst (List.replicate (Int.toNat 2) [V.bl fo]).flatten) = G7 at s7 g7 ⊢
      refine ⟨b5, b7, _, _, rfl, rfl, s7 _ _ (s6 _ _ g5), g7, (by show 7 ≤ sizeLine; decide), fun b8 n8 => ?_⟩
      have s8 : Same G7 (upd G7 b8 (.lst ([V.str due, .str due, .str due, .ref ct, .ref ct] ++ [.bl fo, .bl fo]))) := same_new (fun _ _ e => e) n8
      have g8 : upd G7 b8 (.lst ([V.str due, .str due, .str due, .ref ct, .ref ct] ++ [.bl fo, .bl fo])) b8 = some (.lst [.str due, .str due, .str due, .ref ct, .ref ct, .bl fo, .bl fo]) := upd_same
      generalize upd G7 b8 (.lst ([V.str due, .str due, .str due, .ref ct, .ref ct] ++ [.bl fo, .bl fo])) = G8 at s8 g8 ⊢
      have z8 : Same H G8 := st sG (st s1 (st s2 (st s3 (st s4 (st s5 (st s6 (st s7 s8)))))))
      have kc := z8 _ _ hct
      refine ⟨b8, _, ds, rfl, SqL.of g8, .inl (by rw [← hds]; exact dpAll_to kc kc), ok1, ok2, ok3, rfl, ?_⟩
      rw [decide_eq_true rfl]
      exact ⟨_, rfl, iteF (hN _ _ ⟨rfl, z8⟩)⟩
    clear sG ha k1 k2
    rintro _ G ⟨rfl, sG⟩
    -- one level deeper
    have l2 : ("s2" : Str).length = 2 := by decide +kernel
    have l1 : ("s1" : Str).length = 2 := by decide +kernel
    have r1 := TK.replace_len due "s1" "s2"
    have r2 := TK.replace_len (Txt.replace due "s1" "s2") "s0" "s1"
    rw [l2] at r1
    rw [l1] at r2
    refine seq_mid (fun σ G' => σ = [some (.ref p), some (.str due), some (.ref ct), some (.bl fo), some (.ref a), some (.str (deep9 due)), none] ∧ G' = G) (fun N hN => ?_) ?_
    · exact ⟨_, rfl, _, rfl, by rw [l2]; omega, _, rfl, by rw [l1]; omega, hN _ _ ⟨rfl, rfl⟩⟩
    rintro _ _ ⟨rfl, rfl⟩
    rename_i G
    -- quoted
    refine seq_mid (fun σ G => ∃ pq, σ = [some (.ref p), some (.str due), some (.ref ct), some (.bl fo), some (.ref a), some (.str (deep9 due)), some (.ref pq)] ∧ Same H G ∧ Has9 CP G pq dq 0 1 false) (fun N hN => ?_) ?_
    · obtain ⟨dx, r, tW, ws, hp, hr', hw⟩ := P9
      refine ⟨_, rfl, p, dx, _, rfl, sG _ _ hp, rfl, p, ov, ts, ts', es, es', S, gnames S, rfl, Pg9.same sG ⟨dx, r, tW, ws, hp, hr', hw⟩, h2, hV0.same sG, h3, h4, fun pq H' s' hP' => hN _ _ ⟨pq, rfl, st sG s', _, hP'.row, h5⟩⟩
    clear sG
    rintro _ G ⟨pq, rfl, sG, hq⟩
    refine seq_mid (fun σ G' => s2in due = false ∧ σ = [some (.ref p), some (.str due), some (.ref ct), some (.bl fo), some (.ref a), some (.str (deep9 due)), some (.ref pq)] ∧ G' = G) (fun N hN => ?_) ?_
    · refine ⟨_, rfl, _, _, rfl, rfl, _, rfl, ?_⟩
      show (if s2in due = true then _ else _)
      refine ite2 (fun _ => ?_) (fun hy => hN _ _ ⟨by cases hb : s2in due with | true => exact absurd hb hy | false => rfl, rfl, rfl⟩)
      refine ⟨_, rfl, _, _, _, _, _, rfl, hq, fun G1 t s1 ht => ⟨(by show 2 ≤ sizeLine; decide), fun b nb => ?_⟩⟩
      have s2 : Same G1 (upd G1 b (.tup [.int 0, .int 1])) := same_new (fun _ _ e => e) nb
      have g2 : upd G1 b (.tup [.int 0, .int 1]) b = some (.tup [.int 0, .int 1]) := upd_same
      generalize upd G1 b (.tup [.int 0, .int 1]) = G2 at s2 g2 ⊢
      refine ⟨_, _, .tup (SqT.of (s2 _ _ ht)) (.cons (.int _) (.cons (.int _) .nil)), .tup (SqT.of g2) (.cons (.int _) (.cons (.int _) .nil)), sh_01, sh_01, _, rfl, ?_⟩
      rw [eqv_01]
      refine iteT ⟨_, rfl, _, _, _, _, _, rfl, (hq.same (st s1 s2)), fun G3 s3 => ⟨false, false, rfl, rfl, q G3 (st sG (st s1 (st s2 s3)))⟩⟩
    rintro _ _ ⟨hno, rfl, rfl⟩
    rename_i G
    have edq : dq = "s0 -> s0 [" ++ deep9 due ++ "]" := by
      rcases h6 with h6 | h6
      · rw [hno] at h6
        cases h6
      · exact h6
    refine seq_mid (fun σ G => ∃ a t, σ = [some (.ref p), some (.str due), some (.ref ct), some (.bl fo), some (.ref a), some (.str (deep9 due)), some (.ref pq)] ∧ Same H G ∧ G a = some (.lst [.str dq, .ref t, .bl false]) ∧ G t = some (.tup [.int 0, .int 1])) (fun N hN => ?_) ?_
    · refine ⟨_, rfl, _, _, _, _, _, rfl, hq, fun G1 s1 => ⟨_, rfl, _, _, _, _, _, rfl, (hq.same s1), fun G2 t s2 ht => ⟨_, rfl, _, _, _, _, _, rfl, (hq.same (st s1 s2)), fun G3 s3 => ⟨(by show 3 ≤ sizeLine; decide), fun b nb => hN _ _ ⟨b, t, rfl, same_new (st sG (st s1 (st s2 s3))) nb, upd_same, ?_⟩⟩⟩⟩⟩
      have e := s3 _ _ ht
      rw [upd_ne (ne_of_none e nb)]
      exact e
    clear sG hq
    rintro _ G ⟨a2, t, rfl, sG, ha, ht⟩
    have lq : dq.length ≤ 200 := h8
    rw [edq, Str.length_append, Str.length_append] at lq
    have b1 : ("s0 -> s0 [" : Str).length = 10 := by decide +kernel
    have b2 : ("]" : Str).length = 1 := by decide +kernel
    have big : ∀ {k : Nat}, k ≤ 1000 → k ≤ sizeLine := fun h => Nat.le_trans h (by decide)
    refine ⟨_, rfl, a2, _, dsq, rfl, SqL.of ha, .inl (by rw [← hdq]; exact dpAll_qo ht), oq1, oq2, oq3, ?_⟩
    refine ⟨_, rfl, _, _, rfl, rfl, big (by omega), _, _, rfl, rfl, big (by rw [Str.length_append]; omega), (by show 2 ≤ sizeLine; decide), fun c1 n1 => ?_⟩
    rw [← edq]
    have s1 : Same G (upd G c1 (.tup [.int 0, .int 1])) := same_new (fun _ _ e => e) n1
    have g1 : upd G c1 (.tup [.int 0, .int 1]) c1 = some (.tup [.int 0, .int 1]) := upd_same
    generalize upd G c1 (.tup [.int 0, .int 1]) = G1 at s1 g1 ⊢
    refine ⟨(by show 3 ≤ sizeLine; decide), fun c2 n2 => ?_⟩
    have s2 : Same G1 (upd G1 c2 (.lst [.str dq, .ref c1, .bl false])) := same_new (fun _ _ e => e) n2
    have g2 : upd G1 c2 (.lst [.str dq, .ref c1, .bl false]) c2 = some (.lst [.str dq, .ref c1, .bl false]) := upd_same
    generalize upd G1 c2 (.lst [.str dq, .ref c1, .bl false]) = G2 at s2 g2 ⊢
    refine ⟨c2, _, dsq, rfl, SqL.of g2, .inl (by rw [← hdq]; exact dpAll_qo (s2 _ _ g1)), oq1, oq2, oq3, rfl, ?_⟩
    rw [decide_eq_true rfl]
    exact q G2 (st sG (st s1 s2))
end
end SQ9
namespace SQ9
open PySem L2 SQ
/-! ### the core words, the empty program, the empty shuffle -/
theorem cas_core {S : List G3} {t due dq : Str} {i o : Nat} {fo : Bool} (ht : t ∈ cores) (t1 : Told (one9 (.core t)) due i o fo) (t2 : Told (quo9 (qtext (jt [t])) (one9 (.core t))) dq 0 1 false) (hd : s2in due = true ∨ dq = "s0 -> s0 [" ++ deep9 due ++ "]") (hq : okS dq = true) (ql : dq.length ≤ 200) (dl : due.length ≤ 200) (sok : okS due = true) (io : i ≤ 1000 ∧ o ≤ 1000) : Cas S t due i o fo ∧ Wt S t (.core t) := by
  have hw : Wt S t (.core t) := by
    have h : ∀ t ∈ cores, ¬ t = "[" ∧ ¬ t = "]" ∧ 32 ∉ t.cps.toList ∧ ¬ t = "" ∧ t.length ≤ 100 := by decide +kernel
    obtain ⟨h1, h2, h3, h4, h5⟩ := h t ht
    refine ⟨h1, h2, h3, h4, h5, ?_⟩
    unfold word0
    rw [if_pos ht]
  exact ⟨cas_one hw t1 t2 hd hq ql dl sok io, hw⟩
abbrev C5 := Str × Str × Nat × Nat × Bool
def hand9 : List C5 := [("", "s0 -> s0", 0, 0, true), ("(-)", "s0 -> s0", 0, 0, true), ("[ ]", "s0 -> s0 [s1 -> s1]", 0, 1, false), ("call", "s0 [s0 -> s1] -> s1", 1, 0, false), ("dip", "s0 a0 [s0 -> s1] -> s1 a0", 2, 1, false), ("curry", "s0 a0 [s1 a0 -> s2] -> s0 [s1 -> s2]", 2, 1, false), ("compose", "s0 [s1 -> s2] [s2 -> s3] -> s0 [s1 -> s3]", 2, 1, false), ("choose", "s0 * a0 a0 -> s0 a0", 3, 1, true)]
theorem shu0 : Shu "" "" := ⟨by decide +kernel, by decide +kernel, by decide +kernel, by decide +kernel, by decide +kernel⟩
theorem cas_e0 {S : List G3} : Cas S "" "s0 -> s0" 0 0 true :=
  ⟨⟨[], [], [("[" : Str), ("]" : Str)], [.q "[ ]" .nil], "s0 -> s0 [s1 -> s1]", by decide +kernel, ok_e0 S, told_nil, by decide +kernel, by decide +kernel, ok_e1 S, told_q0, .inr (by decide +kernel), by decide +kernel, by decide +kernel⟩, by decide +kernel, by decide +kernel, by decide⟩
theorem cas_e1 {S : List G3} : Cas S "[ ]" "s0 -> s0 [s1 -> s1]" 0 1 false :=
  ⟨⟨[("[" : Str), ("]" : Str)], [.q "[ ]" .nil], [("[" : Str), ("[" : Str), ("]" : Str), ("]" : Str)], [.q "[ [ ] ]" (quo9 "[ ]" .nil)], "s0 -> s0 [s1 -> s1 [s2 -> s2]]", by decide +kernel, ok_e1 S, told_q0, by decide +kernel, by decide +kernel, ok_e2 S, told_q00, .inr (by decide +kernel), by decide +kernel, by decide +kernel⟩, by decide +kernel, by decide +kernel, by decide⟩
theorem cas_sh0 {S : List G3} (k : Knd S) : Cas S "(-)" "s0 -> s0" 0 0 true := by
  have h := cas_shu k shu0
  have e1 : shW "" "" = "(-)" := by decide +kernel
  have e2 : shuT ("" : Str).length (shP "" "") = "s0 -> s0" := by decide +kernel
  have e3 : ("" : Str).length = 0 := by decide +kernel
  rw [e1, e2, e3] at h
  exact h
theorem qx {t z : Str} (h : qtext (jt [t]) = z) {dq : Str} {x : W0} (H : Told (quo9 z (one9 x)) dq 0 1 false) : Told (quo9 (qtext (jt [t])) (one9 x)) dq 0 1 false := by
  rw [h]
  exact H
theorem cas_hand {S : List G3} (k : Knd S) : ∀ c ∈ hand9, Cas S c.1 c.2.1 c.2.2.1 c.2.2.2.1 c.2.2.2.2 := by
  intro c hc
  unfold hand9 at hc
  simp only [List.mem_cons, List.not_mem_nil, or_false] at hc
  rcases hc with rfl | rfl | rfl | rfl | rfl | rfl | rfl | rfl
  · exact cas_e0
  · exact cas_sh0 k
  · exact cas_e1
  · exact (cas_core (by decide +kernel) told_call (qx (by decide +kernel) toldq_call) (.inr (by decide +kernel)) (by decide +kernel) (by decide +kernel) (by decide +kernel) (by decide +kernel) (by decide)).1
  · exact (cas_core (by decide +kernel) told_dip (qx (by decide +kernel) toldq_dip) (.inr (by decide +kernel)) (by decide +kernel) (by decide +kernel) (by decide +kernel) (by decide +kernel) (by decide)).1
  · exact (cas_core (by decide +kernel) told_curry (qx (by decide +kernel) toldq_curry) (.inl (by decide +kernel)) (by decide +kernel) (by decide +kernel) (by decide +kernel) (by decide +kernel) (by decide)).1
  · exact (cas_core (by decide +kernel) told_compose (qx (by decide +kernel) toldq_compose) (.inl (by decide +kernel)) (by decide +kernel) (by decide +kernel) (by decide +kernel) (by decide +kernel) (by decide)).1
  · exact (cas_core (by decide +kernel) told_choose (qx (by decide +kernel) toldq_choose) (.inr (by decide +kernel)) (by decide +kernel) (by decide +kernel) (by decide +kernel) (by decide +kernel) (by decide)).1
/-! ### what stays -/
theorem Vo9.but {C o u : Addr} {H H' : Hp} {gs : List G3} {ys : List Str} (hu : urnAt H u) (b : But u H H') (h : Vo9 C H o gs ys) : Vo9 C H' o gs ys := by
  obtain ⟨x, y, z, eu⟩ := hu
  obtain ⟨dx, dA, tN, kvs, e1, e2, e3, e4⟩ := h.vc
  refine ⟨⟨dx, dA, tN, kvs, b _ _ e1 (ne_of e1 eu (by intro z; cases z)), b _ _ e2 (ne_of e2 eu (by intro z; cases z)), b _ _ e3 (ne_of e3 eu (by intro z; cases z)), ?_⟩, h.sub, h.ar, h.few⟩
  exact Paired.mapP e4 fun kv g ⟨h1, t0, h2, h3⟩ => ⟨h1, t0, h2, b _ _ h3 (ne_of h3 eu (by intro z; cases z))⟩
section
variable {P : Program} {w : World} {K : PySem.W.Frag} {mg : Str → Option Value} {base : Heap} {C CP : Addr}
theorem new_cas {x dx ov : Addr} {H : Hp} {S : List G3} {tx due : Str} {i o : Nat} {fo : Bool} {R : Hp → Prop} (nx : H x = none) (ndx : H dx = none) (ne : dx ≠ x) (c : Cas S tx due i o fo) (hV : Vo9 C H ov S (gnames S)) (q : ∀ H', Same H H' → Psd C CP H' x due i o fo → R H') :
    spPI9 CP C [.ref x, .ref ov, .str tx] (upd (upd H dx (.own x)) x (.ins CP dx [])) (fun v H' => v = .non ∧ R H') E0 := by
  obtain ⟨ts, es, ts', es', dq, e, hO, h1, h2, h3, h4, h5, h6, h7, h8⟩ := c.ex
  exact new9 nx ndx ne e hV hO fun H' s' hP => q H' s' (psd_of (tx := tx) (hV.same s') hP c.dl c.sok c.io ⟨ts', es', dq, h1, h2, h3, h4, h5, h6, h7, h8⟩)
theorem Pg9.sm {H H' : Hp} {p o : Addr} {ts : List Str} {es : List E9} (s : Same H H') (h : Pg9 CP H p o ts es) : Pg9 CP H' p o ts es := h.same s
theorem Psd.same {H H' : Hp} {p : Addr} {due : Str} {i o : Nat} {fo : Bool} (s : Same H H') (h : Psd C CP H p due i o fo) : Psd C CP H' p due i o fo := by
  obtain ⟨S, ov, ts, es, ts', es', dq, hV, hP, r⟩ := h.ex
  exact ⟨⟨S, ov, ts, es, ts', es', dq, hV.same s, hP.same s, r⟩, h.dl, h.sok, h.io⟩
/-! ### _law_by_hand -/
abbrev sBH : Stmt := top 105
def PrA (a : Addr) (G : Hp) (v : V) (c : C5) : Prop := ∃ l t, v = .ref l ∧ l ≠ a ∧ G l = some (.lst [.str c.1, .str c.2.1, .ref t, .bl c.2.2.2.2]) ∧ G t = some (.tup [vN c.2.2.1, vN c.2.2.2.1])
structure Prs9 (H G : Hp) (a : Addr) (cs : List C5) : Prop where
  na : H a = none
  sm : Same H G
  ex : ∃ vs, G a = some (.lst vs) ∧ Paired (PrA a G) vs cs
theorem prs_pair {H G : Hp} {p l : Addr} {cs : List C5} {tx due : Str} {i o : Nat} {fo : Bool} {a : Addr} (h : Prs9 H G a cs) (np : G p = none) (nl : upd G p (.tup [vN i, vN o]) l = none) :
    ∃ vs, upd (upd G p (.tup [vN i, vN o])) l (.lst [.str tx, .str due, .ref p, .bl fo]) a = some (.lst vs) ∧ vs.length = cs.length ∧ Prs9 H (upd (upd (upd G p (.tup [vN i, vN o])) l (.lst [.str tx, .str due, .ref p, .bl fo])) a (.lst (vs ++ [.ref l]))) a (cs ++ [(tx, due, i, o, fo)]) := by
  obtain ⟨vs, ha, hp⟩ := h.ex
  have s1 : Same G (upd G p (.tup [vN i, vN o])) := same_new (fun _ _ e => e) np
  have hp1 : upd G p (.tup [vN i, vN o]) p = some (.tup [vN i, vN o]) := upd_same
  generalize upd G p (.tup [vN i, vN o]) = G1 at s1 hp1 nl ⊢
  have s2 : Same G1 (upd G1 l (.lst [.str tx, .str due, .ref p, .bl fo])) := same_new (fun _ _ e => e) nl
  have hl2 : upd G1 l (.lst [.str tx, .str due, .ref p, .bl fo]) l = some (.lst [.str tx, .str due, .ref p, .bl fo]) := upd_same
  generalize upd G1 l (.lst [.str tx, .str due, .ref p, .bl fo]) = G2 at s2 hl2 ⊢
  have hp2 := s2 _ _ hp1
  have z := st s1 s2
  have ha2 := z _ _ ha
  have hla : l ≠ a := fun e => by
    subst e
    have := s1 _ _ ha
    rw [nl] at this
    cases this
  have hpa : p ≠ a := fun e => by
    subst e
    rw [np] at ha
    cases ha
  refine ⟨vs, ha2, Paired.length hp, h.na, fun b ob e => ?_, _, upd_same, Paired.snoc (Paired.mapP hp fun v c ⟨l', t', e1, e2, e3, e4⟩ => ⟨l', t', e1, e2, ?_, ?_⟩) ⟨l, p, rfl, hla, ?_, ?_⟩⟩
  · rw [upd_ne (ne_of_none e h.na)]
    exact z _ _ (h.sm _ _ e)
  · rw [upd_ne e2]
    exact z _ _ e3
  · rw [upd_ne (ne_of (z _ _ e4) ha2 (by intro z; cases z))]
    exact z _ _ e4
  · rw [upd_ne hla]
    exact hl2
  · rw [upd_ne hpa]
    exact hp2
structure HnD (P : Program) (w : World) (K : PySem.W.Frag) (mg : Str → Option Value) (base : Heap) (C CP fI fQt fO fE fQ : Addr) (dI dQt dO dE dQ : FuncData) : Prop where
  M : Mk9 P w K mg base C CP fI fQt dI dQt
  g : mg "_law_one_right" = some (.ref fO)
  k : PySem.W.keepIn K (.ref fO) = true
  b : Binds K dO ["_law_mine", "_law_due", "_law_counts", "_law_simple"] []
  G : FnG P w K mg base CX0 13 fO dO ["_law_mine", "_law_due", "_law_counts", "_law_simple"] (spOR C CP)
  gE : mg "effect" = some (.ref fE)
  kE : PySem.W.keepIn K (.ref fE) = true
  bE : Binds K dE ["program"] []
  GE : FnOk P w K mg base CX0 12 fE dE ["program"] (spEh CP)
  mQ : Meth K CP "quoted" fQ
  bQ : Binds K dQ ["self"] []
  GQ : FnOk P w K mg base CX0 7 fQ dQ ["self"] (spQd9 CP C)
variable {fI fQt fO fE fQ : Addr} {dI dQt dO dE dQ : FuncData}
def spBH (C : Addr) : Sp := fun vs H Q _ => ∃ (ov : Addr) (S : List G3), vs = [.ref ov] ∧ Vo9 C H ov S (gnames S) ∧ Knd S ∧ ∀ H', Same H H' → Q (.bl true) H'
abbrev nBH : List Str := ["_law_mine", "_law_pairs", "_law_pair", "_law_deep"]
theorem scBH : FnScope nBH ["_law_mine"] (defScope sBH) := ⟨rfl, rfl, rfl, by decide +kernel, rfl, by decide +kernel, by decide +kernel⟩
theorem hand_len : hand9.length = 8 := rfl
theorem ok_bh {f : Addr} {fd : FuncData} (F : Fun K "_law_by_hand" "_law_by_hand" sBH f fd) (D : HnD P w K mg base C CP fI fQt fO fE fQ dI dQt dO dE dQ) : FnG P w K mg base CX0 14 f fd ["_law_mine"] (spBH C) := by
  refine okG F scBH (fun vs H Q E h => ?_) (fun cdv A outer s H vs Q E hgd hr h => ?_)
  · obtain ⟨ov, S, rfl, _⟩ := h
    rfl
  · obtain ⟨ov, S, rfl, hV, kS, q⟩ := h
    have hr6 : Room 6 (A.deeper (PyProof.Rows.envOfC "_law_by_hand" (defScope sBH) s.heap.objs.size f cdv)) := hr.mono (by omega)
    have hr7 : Room 7 (A.deeper (PyProof.Rows.envOfC "_law_by_hand" (defScope sBH) s.heap.objs.size f cdv)) := hr.mono (by omega)
    have hr12 : Room 12 (A.deeper (PyProof.Rows.envOfC "_law_by_hand" (defScope sBH) s.heap.objs.size f cdv)) := hr.mono (by omega)
    refine ⟨_, pss_cons (ps_set (i := 1) scBH.nd rfl (.inl rfl) (pe_lst (pa_cons (pe_lst (pa_cons pe_str (pa_cons pe_str (pa_cons (pe_tup (pa_cons pe_int (pa_cons pe_int pa_nil))) (pa_cons pe_bl pa_nil))))) (pa_cons (pe_lst (pa_cons pe_str (pa_cons pe_str (pa_cons (pe_tup (pa_cons pe_int (pa_cons pe_int pa_nil))) (pa_cons pe_bl pa_nil))))) pa_nil))))
      (pss_cons (ps_expr (pe_bm PySem.F.plainAttrs_list PySem.F.slot_list_append PySem.F.type_list_append mt_append (pv 1) (pa_cons (pe_lst (pa_cons pe_str (pa_cons pe_str (pa_cons (pe_tup (pa_cons pe_int (pa_cons pe_int pa_nil))) (pa_cons pe_bl pa_nil))))) pa_nil)))
      (pss_cons (ps_expr (pe_bm PySem.F.plainAttrs_list PySem.F.slot_list_append PySem.F.type_list_append mt_append (pv 1) (pa_cons (pe_lst (pa_cons pe_str (pa_cons pe_str (pa_cons (pe_tup (pa_cons pe_int (pa_cons pe_int pa_nil))) (pa_cons pe_bl pa_nil))))) pa_nil)))
      (pss_cons (ps_expr (pe_bm PySem.F.plainAttrs_list PySem.F.slot_list_append PySem.F.type_list_append mt_append (pv 1) (pa_cons (pe_lst (pa_cons pe_str (pa_cons pe_str (pa_cons (pe_tup (pa_cons pe_int (pa_cons pe_int pa_nil))) (pa_cons pe_bl pa_nil))))) pa_nil)))
      (pss_cons (ps_expr (pe_bm PySem.F.plainAttrs_list PySem.F.slot_list_append PySem.F.type_list_append mt_append (pv 1) (pa_cons (pe_lst (pa_cons pe_str (pa_cons pe_str (pa_cons (pe_tup (pa_cons pe_int (pa_cons pe_int pa_nil))) (pa_cons pe_bl pa_nil))))) pa_nil)))
      (pss_cons (ps_expr (pe_bm PySem.F.plainAttrs_list PySem.F.slot_list_append PySem.F.type_list_append mt_append (pv 1) (pa_cons (pe_lst (pa_cons pe_str (pa_cons pe_str (pa_cons (pe_tup (pa_cons pe_int (pa_cons pe_int pa_nil))) (pa_cons pe_bl pa_nil))))) pa_nil)))
      (pss_cons (ps_expr (pe_bm PySem.F.plainAttrs_list PySem.F.slot_list_append PySem.F.type_list_append mt_append (pv 1) (pa_cons (pe_lst (pa_cons pe_str (pa_cons pe_str (pa_cons (pe_tup (pa_cons pe_int (pa_cons pe_int pa_nil))) (pa_cons pe_bl pa_nil))))) pa_nil)))
      (pss_cons (ps_for PassesOwn.never rfl (pi_list (pv 1)) (pg_name (i := 2) scBH.nd rfl (.inl rfl))
        (pss_one (ps_if (pt_not (pt_val (pe_callG D.G hgd hr rfl D.g D.k D.b pass0 (pa_cons (pe_make D.M.M D.M.G hr6 rfl D.M.V.g D.M.b .nil pass0 (pa_cons (pv 0) (pa_cons (pe_ix ix_list (pv 2) pe_int (fun _ _ => rfl)) pa_nil))) (pa_cons (pe_ix ix_list (pv 2) pe_int (fun _ _ => rfl)) (pa_cons (pe_ix ix_list (pv 2) pe_int (fun _ _ => rfl)) (pa_cons (pe_ix ix_list (pv 2) pe_int (fun _ _ => rfl)) pa_nil))))))) (pss_one (ps_ret pe_bl)) pss_nil)))
      (pss_cons (ps_set (i := 3) scBH.nd rfl (.inl rfl) (pe_meth0 (pe_make D.M.M D.M.G hr6 rfl D.M.V.g D.M.b .nil pass0 (pa_cons (pv 0) (pa_cons pe_str pa_nil))) D.M.V.cl D.mQ D.GQ hr7 D.bQ .nil pass0))
      (pss_one (ps_ret (pe_cmpR op_eq (pe_call D.GE hr12 rfl D.gE D.kE D.bE .nil pass0 (pa_cons (pv 3) pa_nil)) pe_str (by rfl)))))))))))), ?_⟩
    -- the first two
    refine seq_mid (fun σ G => ∃ a, σ = [some (.ref ov), some (.ref a), none, none] ∧ Prs9 H G a (hand9.take 2)) (fun N hN => ?_) ?_
    · refine ⟨(by show 2 ≤ sizeLine; decide), fun p1 n1 => ?_⟩
      have s1 : Same H (upd H p1 (.tup [.int 0, .int 0])) := same_new (fun _ _ e => e) n1
      have g1 : upd H p1 (.tup [.int 0, .int 0]) p1 = some (.tup [.int 0, .int 0]) := upd_same
      generalize upd H p1 (.tup [.int 0, .int 0]) = G1 at s1 g1 ⊢
      refine ⟨(by show 4 ≤ sizeLine; decide), fun l1 n2 => ?_⟩
      generalize hG2 : upd G1 l1 _ = G2
      have s2 : Same G1 G2 := by rw [← hG2]; exact same_new (fun _ _ e => e) n2
      have g2 := (congrFun hG2 l1).symm.trans upd_same
      clear hG2
      refine ⟨(by show 2 ≤ sizeLine; decide), fun p2 n3 => ?_⟩
      have s3 : Same G2 (upd G2 p2 (.tup [.int 0, .int 0])) := same_new (fun _ _ e => e) n3
      have g3 : upd G2 p2 (.tup [.int 0, .int 0]) p2 = some (.tup [.int 0, .int 0]) := upd_same
      generalize upd G2 p2 (.tup [.int 0, .int 0]) = G3 at s3 g3 ⊢
      refine ⟨(by show 4 ≤ sizeLine; decide), fun l2 n4 => ?_⟩
      generalize hG4 : upd G3 l2 _ = G4
      have s4 : Same G3 G4 := by rw [← hG4]; exact same_new (fun _ _ e => e) n4
      have g4 := (congrFun hG4 l2).symm.trans upd_same
      clear hG4
      refine ⟨(by show 2 ≤ sizeLine; decide), fun a na => hN _ _ ⟨a, rfl, ?_, ?_, ⟨_, upd_same, .cons ⟨l1, p1, rfl, ?_, ?_, ?_⟩ (.cons ⟨l2, p2, rfl, ?_, ?_, ?_⟩ .nil)⟩⟩⟩
      · cases e : H a with
        | none => rfl
        | some ob =>
          have := s4 _ _ (s3 _ _ (s2 _ _ (s1 _ _ e)))
          rw [na] at this
          cases this
      · exact same_new (st s1 (st s2 (st s3 s4))) na
      · exact ne_of_none (s4 _ _ (s3 _ _ g2)) na
      · rw [upd_ne (ne_of_none (s4 _ _ (s3 _ _ g2)) na)]
        exact s4 _ _ (s3 _ _ g2)
      · rw [upd_ne (ne_of_none (s4 _ _ (s3 _ _ (s2 _ _ g1))) na)]
        exact s4 _ _ (s3 _ _ (s2 _ _ g1))
      · exact ne_of_none g4 na
      · rw [upd_ne (ne_of_none g4 na)]
        exact g4
      · rw [upd_ne (ne_of_none (s4 _ _ g3) na)]
        exact s4 _ _ g3
    rintro _ G ⟨a, rfl, I⟩
    have step : ∀ {G : Hp} {n : Nat} {c : C5} {N : L2.St → Hp → Prop}, Prs9 H G a (hand9.take n) → hand9[n]? = some c → (∀ G', Prs9 H G' a (hand9.take (n + 1)) → N [some (.ref ov), some (.ref a), none, none] G') →
        (∃ v, ([some (V.ref ov), some (V.ref a), none, none] : L2.St)[1]? = some (some v) ∧ tyV K "list" v G ∧ ([vN c.2.2.1, vN c.2.2.2.1].length ≤ sizeLine ∧ ∀ p, G p = none → [V.str c.1, .str c.2.1, .ref p, .bl c.2.2.2.2].length ≤ sizeLine ∧ ∀ l, upd G p (.tup [vN c.2.2.1, vN c.2.2.2.1]) l = none →
          rAppend v [.ref l] (upd (upd G p (.tup [vN c.2.2.1, vN c.2.2.2.1])) l (.lst [.str c.1, .str c.2.1, .ref p, .bl c.2.2.2.2])) fun _ H' => N [some (.ref ov), some (.ref a), none, none] H')) := fun {G n c N} I hc hN => by
      have hl : (hand9.take n).length ≤ 8 := by
        rw [List.length_take]
        have := hand_len
        omega
      obtain ⟨vs0, ha0, _⟩ := I.ex
      refine ⟨_, rfl, .inl ⟨rfl, _, SqL.of ha0⟩, (by show 2 ≤ sizeLine; decide), fun p np => ⟨(by show 4 ≤ sizeLine; decide), fun l nl => ?_⟩⟩
      obtain ⟨vs, ha, hvl, I'⟩ := prs_pair (tx := c.1) (due := c.2.1) (fo := c.2.2.2.2) I np nl
      refine ⟨a, vs, _, rfl, rfl, ha, by rw [hvl]; exact Nat.lt_of_le_of_lt hl (by decide), hN _ ?_⟩
      rw [take_more hc]
      exact I'
    refine seq_mid (fun σ G => σ = [some (.ref ov), some (.ref a), none, none] ∧ Prs9 H G a (hand9.take 3)) (fun N hN => step (n := 2) I rfl fun G' h => hN _ _ ⟨rfl, h⟩) ?_
    clear I
    rintro _ G ⟨rfl, I⟩
    refine seq_mid (fun σ G => σ = [some (.ref ov), some (.ref a), none, none] ∧ Prs9 H G a (hand9.take 4)) (fun N hN => step (n := 3) I rfl fun G' h => hN _ _ ⟨rfl, h⟩) ?_
    clear I
    rintro _ G ⟨rfl, I⟩
    refine seq_mid (fun σ G => σ = [some (.ref ov), some (.ref a), none, none] ∧ Prs9 H G a (hand9.take 5)) (fun N hN => step (n := 4) I rfl fun G' h => hN _ _ ⟨rfl, h⟩) ?_
    clear I
    rintro _ G ⟨rfl, I⟩
    refine seq_mid (fun σ G => σ = [some (.ref ov), some (.ref a), none, none] ∧ Prs9 H G a (hand9.take 6)) (fun N hN => step (n := 5) I rfl fun G' h => hN _ _ ⟨rfl, h⟩) ?_
    clear I
    rintro _ G ⟨rfl, I⟩
    refine seq_mid (fun σ G => σ = [some (.ref ov), some (.ref a), none, none] ∧ Prs9 H G a (hand9.take 7)) (fun N hN => step (n := 6) I rfl fun G' h => hN _ _ ⟨rfl, h⟩) ?_
    clear I
    rintro _ G ⟨rfl, I⟩
    refine seq_mid (fun σ G => σ = [some (.ref ov), some (.ref a), none, none] ∧ Prs9 H G a (hand9.take 8)) (fun N hN => step (n := 7) I rfl fun G' h => hN _ _ ⟨rfl, h⟩) ?_
    clear I
    rintro _ G ⟨rfl, I⟩
    clear step
    obtain ⟨vs, ha, hp⟩ := I.ex
    have sG := I.sm
    have hp8 : Paired (PrA a G) vs hand9 := hp
    -- each of them
    refine seq_mid (fun σ G' => ∃ v2, σ = [some (.ref ov), some (.ref a), v2, none] ∧ Same G G') (fun N hN => ?_) ?_
    · refine ⟨_, rfl, a, rfl, ⟨_, SqL.of ha⟩, for_list (K := K) (a := a) (xs := vs) (fun i σ G' => ∃ v2, σ = [some (.ref ov), some (.ref a), v2, none] ∧ Same G G') ⟨_, rfl, fun _ _ e => e⟩ (fun i σ G' _ ⟨_, _, s2⟩ => SqL.of (s2 _ _ ha)) ?_ (fun σ G' ⟨v2, e, s2⟩ => hN _ _ ⟨v2, e, s2⟩)⟩
      rintro i v σ G' hi ⟨v2, rfl, s2⟩
      obtain ⟨c, hc, l, t, rfl, hla, hl, ht⟩ := Paired.at hp8 hi
      have cas := cas_hand kS c (List.mem_of_getElem? hc)
      have hl2 := s2 _ _ hl
      have ht2 := s2 _ _ ht
      refine ⟨_, rfl, _, rfl, l, _, _, _, rfl, rfl, SqL.of hl2, (show atI _ ((0 : Nat) : Int) = _ from atI_nat rfl), fun x dx nx ndx ne => ?_⟩
      refine new_cas nx ndx ne cas (hV.same (st sG s2)) fun H2 s3 hPs => ?_
      refine ⟨_, rfl, l, _, _, _, rfl, rfl, SqL.of (s3 _ _ hl2), (show atI _ ((1 : Nat) : Int) = _ from atI_nat rfl), _, rfl, l, _, _, _, rfl, rfl, SqL.of (s3 _ _ hl2), (show atI _ ((2 : Nat) : Int) = _ from atI_nat rfl), _, rfl, l, _, _, _, rfl, rfl, SqL.of (s3 _ _ hl2), (show atI _ ((3 : Nat) : Int) = _ from atI_nat rfl), ?_⟩
      exact ⟨x, t, _, _, _, _, rfl, hPs, s3 _ _ ht2, fun H3 s4 => ⟨_, rfl, iteF ⟨_, rfl, st s2 (st s3 s4)⟩⟩⟩
    rintro _ G2 ⟨v2, rfl, s2⟩
    have z2 := st sG s2
    obtain ⟨_, hw⟩ := cas_core (S := S) (by decide +kernel) told_compose (qx (by decide +kernel) toldq_compose) (.inl (by decide +kernel)) (by decide +kernel) (by decide +kernel) (by decide +kernel) (by decide +kernel) (by decide)
    refine ⟨_, rfl, fun x dx nx ndx ne => new9 nx ndx ne (jt_one "compose").symm (hV.same z2) (SQ9.ok_one hw) fun H3 s3 hP => ?_⟩
    obtain ⟨dx3, r3, tW3, ws3, e1, e2, e3⟩ := hP
    refine ⟨x, dx3, _, rfl, e1, rfl, x, ov, _, _, _, _, S, gnames S, rfl, ⟨dx3, r3, tW3, ws3, e1, e2, e3⟩, by rw [jt_one]; exact Nat.le_trans hw.len (by decide), (hV.same z2).same s3, qt_one hw.ne, ok_quo hw, fun pq H4 s4 hP4 => ?_⟩
    refine ⟨_, rfl, pq, _, _, _, _, rfl, ⟨_, hP4.row, qx (by decide +kernel) toldq_compose⟩, fun H5 s5 => ⟨rfl, ?_⟩⟩
    rw [show decide (V.str ("s0 -> s0 [s1 [s2 -> s3] [s3 -> s4] -> s1 [s2 -> s4]]" : Str) = V.str "s0 -> s0 [s1 [s2 -> s3] [s3 -> s4] -> s1 [s2 -> s4]]") = true by decide +kernel]
    exact q H5 (st z2 (st s3 (st s4 s5)))
end
end SQ9
namespace SQ9
open PySem L2 SQ
/-! ### _law_right -/
abbrev sRt : Stmt := top 104
theorem stars_mul : ∀ n ∈ List.range 4, Txt.mul " *" ((n : Nat) : Int) = stars n ∧ (stars n).length ≤ 8 := by decide +kernel
theorem stars_of {i : Int} (h0 : 0 ≤ i) (h3 : i ≤ 3) : Txt.mul " *" i = stars i.toNat ∧ (stars i.toNat).length ≤ 8 := by
  have := stars_mul i.toNat (List.mem_range.mpr (by omega))
  rwa [Int.toNat_of_nonneg h0] at this
section
variable {P : Program} {w : World} {K : PySem.W.Frag} {mg : Str → Option Value} {base : Heap} {C CP : Addr}
structure RtD (P : Program) (w : World) (K : PySem.W.Frag) (mg : Str → Option Value) (base : Heap) (C CP fI fQt fO fD fK fV fN fS fU fL : Addr) (dI dQt dO dD dK dV dN dS dU dL : FuncData) : Prop where
  B : B2 mg
  BL : Blt mg
  M : Mk9 P w K mg base C CP fI fQt dI dQt
  g : mg "_law_one_right" = some (.ref fO)
  k : PySem.W.keepIn K (.ref fO) = true
  b : Binds K dO ["_law_mine", "_law_due", "_law_counts", "_law_simple"] []
  G : FnG P w K mg base CX0 13 fO dO ["_law_mine", "_law_due", "_law_counts", "_law_simple"] (spOR C CP)
  D : Drw K mg fD dD
  gK : mg "_law_kinds" = some (.ref fK)
  kK : PySem.W.keepIn K (.ref fK) = true
  bK : Binds K dK ["_law_purse_here", "_law_many"] []
  GK : FnOk P w K mg base CX0 4 fK dK ["_law_purse_here", "_law_many"] spKi
  gV : mg "_law_vocabulary" = some (.ref fV)
  kV : PySem.W.keepIn K (.ref fV) = true
  bV : Binds K dV ["_law_kinds_here"] []
  GV : FnOk P w K mg base CX0 8 fV dV ["_law_kinds_here"] (spVk C)
  gN : mg "_law_number" = some (.ref fN)
  kN : PySem.W.keepIn K (.ref fN) = true
  bN : Binds K dN ["_law_purse_here"] []
  GN : FnOk P w K mg base CX0 2 fN dN ["_law_purse_here"] spNu
  gS : mg "_law_shuffle" = some (.ref fS)
  kS : PySem.W.keepIn K (.ref fS) = true
  bS : Binds K dS ["_law_purse_here", "_law_most_in", "_law_most_out"] []
  GS : FnOk P w K mg base CX0 2 fS dS ["_law_purse_here", "_law_most_in", "_law_most_out"] spSl
  gU : mg "_law_shuffled" = some (.ref fU)
  kU : PySem.W.keepIn K (.ref fU) = true
  bU : Binds K dU ["_law_item"] []
  GU : FnOk P w K mg base CX0 1 fU dU ["_law_item"] spSd
  gL : mg "_law_line" = some (.ref fL)
  kL : PySem.W.keepIn K (.ref fL) = true
  bL : Binds K dL ["_law_items"] []
  GL : FnOk P w K mg base CX0 1 fL dL ["_law_items"] spLn
variable {fI fQt fO fD fK fV fN fS fU fL : Addr} {dI dQt dO dD dK dV dN dS dU dL : FuncData}
def spRt9 : Sp := fun vs H Q _ => ∃ u : Addr, vs = [.ref u] ∧ urnAt H u ∧ ∀ H', But u H H' → urnAt H' u → Q (.bl true) H'
abbrev nRt : List Str := ["_law_purse_here", "_law_kinds_here", "_law_mine", "_law_number_here", "_law_kind", "_law_due", "_law_turn", "_law_item", "_law_counts"]
theorem scRt : FnScope nRt ["_law_purse_here"] (defScope sRt) := ⟨rfl, rfl, rfl, by decide +kernel, rfl, by decide +kernel, by decide +kernel⟩
abbrev sR9 (u : Addr) (v1 v2 v3 v4 v5 v6 v7 v8 : Option V) : L2.St := [some (.ref u), v1, v2, v3, v4, v5, v6, v7, v8]
theorem ok_rt9 {f : Addr} {fd : FuncData} (F : Fun K "_law_right" "_law_right" sRt f fd) (R : RtD P w K mg base C CP fI fQt fO fD fK fV fN fS fU fL dI dQt dO dD dK dV dN dS dU dL) : FnG P w K mg base CX0 14 f fd ["_law_purse_here"] spRt9 := by
  have GD : FnOk P w K mg base CX0 1 fD dD ["_law_purse_here", "_law_many"] spDrw := ok_drw R.D.F R.BL
  refine okG F scRt (fun vs H Q E h => ?_) (fun cdv A outer s H vs Q E hgd hr h => ?_)
  · obtain ⟨u, rfl, _⟩ := h
    rfl
  · obtain ⟨u, rfl, hu, q⟩ := h
    have hr1 : Room 1 (A.deeper (PyProof.Rows.envOfC "_law_right" (defScope sRt) s.heap.objs.size f cdv)) := hr.mono (by omega)
    have hr2 : Room 2 (A.deeper (PyProof.Rows.envOfC "_law_right" (defScope sRt) s.heap.objs.size f cdv)) := hr.mono (by omega)
    have hr4 : Room 4 (A.deeper (PyProof.Rows.envOfC "_law_right" (defScope sRt) s.heap.objs.size f cdv)) := hr.mono (by omega)
    have hr6 : Room 6 (A.deeper (PyProof.Rows.envOfC "_law_right" (defScope sRt) s.heap.objs.size f cdv)) := hr.mono (by omega)
    have hr8 : Room 8 (A.deeper (PyProof.Rows.envOfC "_law_right" (defScope sRt) s.heap.objs.size f cdv)) := hr.mono (by omega)
    refine ⟨_, pss_cons (ps_set (i := 1) scRt.nd rfl (.inl rfl) (pe_call R.GK hr4 rfl R.gK R.kK R.bK .nil pass0 (pa_cons (pv 0) (pa_cons (pe_op op_add pe_int (pe_call GD hr1 rfl R.D.g R.D.F.kp R.D.b .nil pass0 (pa_cons (pv 0) (pa_cons pe_int pa_nil)))) pa_nil))))
      (pss_cons (ps_set (i := 2) scRt.nd rfl (.inl rfl) (pe_call R.GV hr8 rfl R.gV R.kV R.bV .nil pass0 (pa_cons (pv 1) pa_nil)))
      (pss_cons (ps_set (i := 3) scRt.nd rfl (.inl rfl) (pe_callTy call_str_int (by rfl) R.B.str (by decide +kernel) (pa_cons (pe_call R.GN hr2 rfl R.gN R.kN R.bN .nil pass0 (pa_cons (pv 0) pa_nil)) pa_nil)))
      (pss_cons (ps_if (pt_not (pt_val (pe_callG R.G hgd hr rfl R.g R.k R.b pass0 (pa_cons (pe_make R.M.M R.M.G hr6 rfl R.M.V.g R.M.b .nil pass0 (pa_cons (pv 2) (pa_cons (pv 3) pa_nil))) (pa_cons pe_str (pa_cons (pe_tup (pa_cons pe_int (pa_cons pe_int pa_nil))) (pa_cons pe_bl pa_nil))))))) (pss_one (ps_ret pe_bl)) pss_nil)
      (pss_cons (ps_for PassesOwn.never rfl (pi_list (pv 1)) (pg_name (i := 4) scRt.nd rfl (.inl rfl))
        (pss_cons (ps_set (i := 5) scRt.nd rfl (.inl rfl) (pe_op op_add_str (pe_op op_add_str (pe_op op_add_str pe_str (pe_op op_mulS pe_str (pe_ix ix_tup (pv 4) pe_int (fun _ _ => rfl)))) pe_str) (pe_op op_mulS pe_str (pe_ix ix_tup (pv 4) pe_int (fun _ _ => rfl)))))
        (pss_one (ps_if (pt_not (pt_val (pe_callG R.G hgd hr rfl R.g R.k R.b pass0 (pa_cons (pe_make R.M.M R.M.G hr6 rfl R.M.V.g R.M.b .nil pass0 (pa_cons (pv 2) (pa_cons (pe_ix ix_tup (pv 4) pe_int (fun _ _ => rfl)) pa_nil))) (pa_cons (pv 5) (pa_cons (pe_tup (pa_cons (pe_ix ix_tup (pv 4) pe_int (fun _ _ => rfl)) (pa_cons (pe_ix ix_tup (pv 4) pe_int (fun _ _ => rfl)) pa_nil))) (pa_cons pe_bl pa_nil))))))) (pss_one (ps_ret pe_bl)) pss_nil))))
      (pss_cons (ps_for PassesOwn.never rfl (pi_range1 (by rfl) R.BL.range (pa_cons pe_int pa_nil)) (pg_name (i := 6) scRt.nd rfl (.inl rfl))
        (pss_cons (ps_set (i := 7) scRt.nd rfl (.inl rfl) (pe_call R.GS hr2 rfl R.gS R.kS R.bS .nil pass0 (pa_cons (pv 0) (pa_cons pe_int (pa_cons pe_int pa_nil)))))
        (pss_cons (ps_par (i := 5) (j := 8) (by rfl) scRt.nd rfl rfl (by decide) rfl rfl (pa_cons (pe_call R.GU hr1 rfl R.gU R.kU R.bU .nil pass0 (pa_cons (pv 7) pa_nil)) (pa_cons (pe_tup (pa_cons (pe_callB call_len_str (by rfl) R.BL.len PySem.boot_len (pa_cons (pe_ix ix_tup (pv 7) pe_int (fun _ _ => rfl)) pa_nil)) (pa_cons (pe_callB call_len_str (by rfl) R.BL.len PySem.boot_len (pa_cons (pe_ix ix_tup (pv 7) pe_int (fun _ _ => rfl)) pa_nil)) pa_nil))) pa_nil)) (by rfl))
        (pss_one (ps_if (pt_not (pt_val (pe_callG R.G hgd hr rfl R.g R.k R.b pass0 (pa_cons (pe_make R.M.M R.M.G hr6 rfl R.M.V.g R.M.b .nil pass0 (pa_cons (pv 2) (pa_cons (pe_call R.GL hr1 rfl R.gL R.kL R.bL .nil pass0 (pa_cons (pe_lst (pa_cons (pv 7) pa_nil)) pa_nil)) pa_nil))) (pa_cons (pv 5) (pa_cons (pv 8) (pa_cons pe_bl pa_nil))))))) (pss_one (ps_ret pe_bl)) pss_nil)))))
      (pss_one (ps_ret pe_bl))))))), ?_⟩
    have big : ∀ {k : Nat}, k ≤ 1000 → k ≤ sizeLine := fun h => Nat.le_trans h (by decide)
    -- the words
    refine seq_mid (fun σ G => ∃ a xs gs, σ = sR9 u (some (.ref a)) none none none none none none none ∧ But u H G ∧ urnAt G u ∧ G a = some (.lst xs) ∧ Trs G xs gs ∧ Knd gs ∧ a ≠ u) (fun N hN => ?_) ?_
    · refine ⟨_, rfl, _, rfl, u, 8, rfl, hu, by decide, by decide, fun G1 d d0 d1 u1 b1 => ⟨_, _, rfl, rfl, u, (1 + d).toNat, ?_, by omega, u1, fun a xs gs G2 kG hl na ha ht b2 u2 => hN _ _ ⟨a, xs, gs, rfl, b1.trans b2, u2, ha, ht, kG, (urn_ne u1 na).symm⟩⟩⟩
      rw [show (((1 + d).toNat : Nat) : Int) = 1 + d by omega]
      rfl
    rintro _ G ⟨a, xs, gs, rfl, b1, u1, ha, ht, kG, nau⟩
    -- the vocabulary
    refine seq_mid (fun σ G => ∃ o S, σ = sR9 u (some (.ref a)) (some (.ref o)) none none none none none none ∧ But u H G ∧ urnAt G u ∧ G a = some (.lst xs) ∧ Trs G xs gs ∧ Vo9 C G o S (gnames S) ∧ Knd S ∧ S.Perm gs) (fun N hN => ?_) ?_
    · exact ⟨_, rfl, a, xs, gs, rfl, ha, ht, kG, fun o S G2 s2 V2 => hN _ _ ⟨o, S, rfl, b1.trans (Same.but s2), urn_same s2 u1, s2 _ _ ha, ht.same s2, V2.vo, V2.kn, V2.pm⟩⟩
    clear b1 u1 ha ht
    rintro _ G ⟨o, S, rfl, b1, u1, ha, ht, hV, kS, pm⟩
    -- the number
    refine seq_mid (fun σ G => ∃ i : Int, NumOk i ∧ σ = sR9 u (some (.ref a)) (some (.ref o)) (some (.str ((toString i : String) : Str))) none none none none none ∧ But u H G ∧ urnAt G u ∧ G a = some (.lst xs) ∧ Trs G xs gs ∧ Vo9 C G o S (gnames S)) (fun N hN => ?_) ?_
    · exact ⟨_, rfl, u, rfl, u1, fun i G2 hi b2 u2 => ⟨_, rfl, log_num hi, hN _ _ ⟨i, hi, rfl, b1.trans b2, u2, b2 _ _ ha nau, ht.tup (tupS_but u1 b2), hV.but u1 b2⟩⟩⟩
    clear b1 u1 ha ht hV
    rintro _ G ⟨i, hi, rfl, b1, u1, ha, ht, hV⟩
    refine seq_mid (fun σ G => σ = sR9 u (some (.ref a)) (some (.ref o)) (some (.str ((toString i : String) : Str))) none none none none none ∧ But u H G ∧ urnAt G u ∧ G a = some (.lst xs) ∧ Trs G xs gs ∧ Vo9 C G o S (gnames S)) (fun N hN => ?_) ?_
    · refine ⟨_, rfl, _, rfl, fun x dx nx ndx ne => new_cas nx ndx ne (cas_lit kS hi) hV fun G2 s2 hP => ⟨(by show 2 ≤ sizeLine; decide), fun t nt => ?_⟩⟩
      have s3 : Same G2 (upd G2 t (.tup [.int 0, .int 1])) := same_new (fun _ _ e => e) nt
      have g3 : upd G2 t (.tup [.int 0, .int 1]) t = some (.tup [.int 0, .int 1]) := upd_same
      generalize upd G2 t (.tup [.int 0, .int 1]) = G3 at s3 g3 ⊢
      refine ⟨x, t, _, 0, 1, true, rfl, hP.same s3, g3, fun G4 s4 => ⟨_, rfl, iteF (hN _ _ ?_)⟩⟩
      have z := st s2 (st s3 s4)
      exact ⟨rfl, b1.trans (Same.but z), urn_same z u1, z _ _ ha, ht.same z, hV.same z⟩
    clear b1 u1 ha ht hV
    rintro _ G ⟨rfl, b1, u1, ha, ht, hV⟩
    generalize (some (V.str ((toString i : String) : Str))) = v3
    -- the words, one by one
    refine seq_mid (fun σ G => ∃ v4 v5, σ = sR9 u (some (.ref a)) (some (.ref o)) v3 v4 v5 none none none ∧ But u H G ∧ urnAt G u ∧ Vo9 C G o S (gnames S)) (fun N hN => ?_) ?_
    · refine ⟨_, rfl, a, rfl, ⟨_, SqL.of ha⟩, for_list (K := K) (a := a) (xs := xs) (fun i σ G' => ∃ v4 v5, σ = sR9 u (some (.ref a)) (some (.ref o)) v3 v4 v5 none none none ∧ Same G G') ⟨_, _, rfl, fun _ _ e => e⟩ (fun i σ G' _ ⟨_, _, _, s2⟩ => SqL.of (s2 _ _ ha)) ?_ (fun σ G' ⟨v4, v5, e, s2⟩ => hN _ _ ⟨v4, v5, e, b1.trans (Same.but s2), urn_same s2 u1, hV.same s2⟩)⟩
      rintro j v σ G' hj ⟨v4, v5, rfl, s2⟩
      obtain ⟨g, hg, t, rfl, e2⟩ := Paired.at ht hj
      have gm : g ∈ S := pm.symm.mem_iff.mp (List.mem_of_getElem? hg)
      obtain ⟨⟨i0, i3⟩, j0, j3⟩ := kS.ar g gm
      have e3 := s2 _ _ e2
      obtain ⟨m1, m2⟩ := stars_of i0 i3
      obtain ⟨m3, m4⟩ := stars_of j0 j3
      have cas := cas_unk kS gm
      have f1 : ("s0" : Str).length = 2 := by decide +kernel
      have f2 : (" -> s0" : Str).length = 6 := by decide +kernel
      have ls : (" *" : Str).length ≤ 100 := by decide +kernel
      refine seq_mid (fun σ G2 => σ = sR9 u (some (.ref a)) (some (.ref o)) v3 (some (.ref t)) (some (.str (unkT g.2.1.toNat g.2.2.toNat))) none none none ∧ G2 = G') (fun N2 hN2 => ?_) ?_
      · refine ⟨_, rfl, t, _, _, _, rfl, rfl, SqT.of e3, (show atI _ ((1 : Nat) : Int) = _ from atI_nat rfl), _, _, rfl, rfl, mul_ok i0 (by omega) ls, _, _, rfl, rfl, ?_⟩
        rw [m1]
        refine ⟨big (by omega), _, _, rfl, rfl, big (by rw [Str.length_append]; omega), _, rfl, t, _, _, _, rfl, rfl, SqT.of e3, (show atI _ ((2 : Nat) : Int) = _ from atI_nat rfl), _, _, rfl, rfl, mul_ok j0 (by omega) ls, _, _, rfl, rfl, ?_⟩
        rw [m3]
        exact ⟨big (by rw [Str.length_append, Str.length_append]; omega), hN2 _ _ ⟨rfl, rfl⟩⟩
      rintro _ _ ⟨rfl, rfl⟩
      rename_i G'
      refine ⟨_, rfl, _, rfl, t, _, _, _, rfl, rfl, SqT.of e3, (show atI _ ((0 : Nat) : Int) = _ from atI_nat rfl), fun x dx nx ndx ne => new_cas nx ndx ne cas (hV.same s2) fun G2 s3 hP => ?_⟩
      have e4 := s3 _ _ e3
      refine ⟨_, rfl, _, rfl, t, _, _, _, rfl, rfl, SqT.of e4, (show atI _ ((1 : Nat) : Int) = _ from atI_nat rfl), _, rfl, t, _, _, _, rfl, rfl, SqT.of e4, (show atI _ ((2 : Nat) : Int) = _ from atI_nat rfl), (by show 2 ≤ sizeLine; decide), fun t2 nt => ?_⟩
      have s4 : Same G2 (upd G2 t2 (.tup [.int g.2.1, .int g.2.2])) := same_new (fun _ _ e => e) nt
      have g4 : upd G2 t2 (.tup [.int g.2.1, .int g.2.2]) t2 = some (.tup [vN g.2.1.toNat, vN g.2.2.toNat]) := by
        rw [upd_same]
        show _ = some (HO.tup [V.int ((g.2.1.toNat : Nat) : Int), V.int ((g.2.2.toNat : Nat) : Int)])
        rw [Int.toNat_of_nonneg i0, Int.toNat_of_nonneg j0]
      generalize upd G2 t2 (.tup [.int g.2.1, .int g.2.2]) = G3 at s4 g4 ⊢
      exact ⟨x, t2, _, _, _, true, rfl, hP.same s4, g4, fun G4 s5 => ⟨_, rfl, iteF ⟨_, _, rfl, st s2 (st s3 (st s4 s5))⟩⟩⟩
    clear b1 u1 ha ht hV
    rintro _ G ⟨v4, v5, rfl, b1, u1, hV⟩
    -- the shuffles
    refine seq_mid (fun σ G => But u H G ∧ urnAt G u) (fun N hN => ?_) (fun σ G ⟨b, u2⟩ => q G b u2)
    refine ⟨4, rfl, by decide, by decide, for_range (lo := 0) (n := 4) (fun j σ G => ∃ v5 v6 v7 v8, σ = sR9 u (some (.ref a)) (some (.ref o)) v3 v4 v5 v6 v7 v8 ∧ But u H G ∧ urnAt G u ∧ Vo9 C G o S (gnames S)) ⟨_, _, _, _, rfl, b1, u1, hV⟩ ?_ (fun σ G ⟨_, _, _, _, _, b, u2, _⟩ => hN _ _ ⟨b, u2⟩)⟩
    clear b1 u1 hV
    rintro j σ G hj ⟨v5, v6, v7, v8, rfl, b1, u1, hV⟩
    refine seq_mid (fun σ G => ∃ t x y, σ = sR9 u (some (.ref a)) (some (.ref o)) v3 v4 v5 (some (.int (0 + (j : Int)))) (some (.ref t)) v8 ∧ But u H G ∧ urnAt G u ∧ Vo9 C G o S (gnames S) ∧ G t = some (.tup [.str "shuffle", .str x, .str y]) ∧ Shu x y) (fun N2 hN2 => ?_) ?_
    · exact ⟨_, rfl, u, rfl, u1, fun t x y G2 nt ht hS b2 u2 => hN2 _ _ ⟨t, x, y, rfl, b1.trans b2, u2, hV.but u1 b2, ht, hS⟩⟩
    clear b1 u1 hV
    rintro _ G ⟨t, x, y, rfl, b1, u1, hV, ht, hS⟩
    have h5 := hS.five
    have h8 := hS.eight
    refine seq_mid (fun σ G => ∃ c, σ = sR9 u (some (.ref a)) (some (.ref o)) v3 v4 (some (.str (shuT x.length (shP x y)))) (some (.int (0 + (j : Int)))) (some (.ref t)) (some (.ref c)) ∧ But u H G ∧ urnAt G u ∧ Vo9 C G o S (gnames S) ∧ G t = some (.tup [.str "shuffle", .str x, .str y]) ∧ G c = some (.tup [vN x.length, vN y.length])) (fun N2 hN2 => ?_) ?_
    · refine ⟨_, rfl, t, x, y, rfl, ht, hS, fun G2 s2 => ⟨_, rfl, t, _, _, _, rfl, rfl, SqT.of (s2 _ _ ht), (show atI _ ((1 : Nat) : Int) = _ from atI_nat rfl), x, rfl, big (by omega), _, rfl, t, _, _, _, rfl, rfl, SqT.of (s2 _ _ ht), (show atI _ ((2 : Nat) : Int) = _ from atI_nat rfl), y, rfl, big (by omega), (by show 2 ≤ sizeLine; decide), fun c nc => ⟨_, _, rfl, hN2 _ _ ?_⟩⟩⟩
      have z := same_new (p := c) (o := .tup [vN x.length, vN y.length]) s2 nc
      exact ⟨c, rfl, b1.trans (Same.but z), urn_same z u1, hV.same z, z _ _ ht, upd_same⟩
    clear b1 u1 hV ht
    rintro _ G ⟨c, rfl, b1, u1, hV, ht, hc⟩
    have cas := cas_shu kS hS
    refine ⟨_, rfl, _, rfl, (by show 1 ≤ sizeLine; decide), fun l nl => ?_⟩
    have s2 : Same G (upd G l (.lst [.ref t])) := same_new (fun _ _ e => e) nl
    have g2 : upd G l (.lst [.ref t]) l = some (.lst [.ref t]) := upd_same
    generalize upd G l (.lst [.ref t]) = G2 at s2 g2 ⊢
    refine ⟨l, t, x, y, rfl, g2, s2 _ _ ht, hS, fun G3 s3 => fun p dx nx ndx ne => new_cas nx ndx ne cas (hV.same (st s2 s3)) fun G4 s4 hP => ?_⟩
    have z4 := st s2 (st s3 s4)
    refine ⟨_, rfl, _, rfl, p, c, _, _, _, true, rfl, hP, z4 _ _ hc, fun G5 s5 => ⟨_, rfl, iteF ?_⟩⟩
    have z := st z4 s5
    exact ⟨_, _, _, _, rfl, b1.trans (Same.but z), urn_same z u1, hV.same z⟩
end
end SQ9
namespace SQ9
open PySem L2 SQ
/-! ### the law -/
abbrev sLaw : Stmt := top 106
theorem passN {X : Cx} : Passes (L2N.CX X.prog X.w) X E0 := fun _ _ _ _ _ _ _ ⟨_, _, _, _, _, _, _, _, _, _, _, _, h⟩ => (show False from h).elim
section
variable {P : Program} {w : World} {K : PySem.W.Frag} {mg : Str → Option Value} {base : Heap} {C CE CP : Addr}
theorem voc_nil {H2 : Hp} {x dx : Addr} {R : Hp → Prop} (nx : H2 x = none) (ndx : H2 dx = none) (ne : dx ≠ x) (q : ∀ H', Same H2 H' → Vo9 C H' x [] (gnames []) → R H') :
    spInit C CE [V.ref x] (upd (upd H2 dx (.own x)) x (.ins C dx [])) (fun v H' => v = .non ∧ R H') E0 := by
  refine init_any (vs := []) (os := []) nx ndx ne .nil (Nat.zero_le _) (fun idx h => ?_) (fun _ gs eg H' ys hp hs s' hV => ?_)
  · have : verdict ([] : List En) = none := by decide
    rw [this] at h
    cases h
  · have e1 : gs = [] := by
      cases gs with
      | nil => rfl
      | cons g gs => cases eg
    subst e1
    have e2 : ys = [] := List.Perm.eq_nil hp
    subst e2
    exact q H' s' ⟨hV, fun n hn => hn, (fun n hn => absurd hn List.not_mem_nil), Nat.zero_le _⟩
theorem knd_nil : Knd [] := ⟨List.nodup_nil, (fun _ h => nomatch h), (fun _ h => nomatch h), Nat.zero_le _⟩
def spLaw (K : PySem.W.Frag) : Sp := fun vs H Q _ => ∃ (a : Addr) (ns : List Int), vs = [.ref a] ∧ SqL K H a (ns.map V.int) ∧ ns.length ≤ 63 ∧ ∀ H', Q (.bl true) H'
abbrev nLaw : List Str := ["_law_script", "_law_k", "_law_purse_here"]
theorem scLaw : FnScope nLaw ["_law_script"] (defScope sLaw) := ⟨rfl, rfl, rfl, by decide +kernel, rfl, by decide +kernel, by decide +kernel⟩
structure LaD (P : Program) (w : World) (K : PySem.W.Frag) (mg : Str → Option Value) (base : Heap) (C CE fIn fP fK fV fR fH : Addr) (dP dK dV dR dH : FuncData) : Prop where
  BL : Blt mg
  gC : mg "Vocabulary" = some (.ref C)
  MK : Mk K C fIn
  GI : FnR P w K mg base (L2N.CX P w) 5 fIn (spInit C CE)
  gP : mg "_law_purse" = some (.ref fP)
  kP : PySem.W.keepIn K (.ref fP) = true
  bP : Binds K dP ["_law_script", "_law_k"] []
  GP : FnOk P w K mg base CX0 1 fP dP ["_law_script", "_law_k"] (spPur K)
  gK : mg "_law_kinds" = some (.ref fK)
  kK : PySem.W.keepIn K (.ref fK) = true
  bK : Binds K dK ["_law_purse_here", "_law_many"] []
  GK : FnOk P w K mg base CX0 4 fK dK ["_law_purse_here", "_law_many"] spKi
  gV : mg "_law_vocabulary" = some (.ref fV)
  kV : PySem.W.keepIn K (.ref fV) = true
  bV : Binds K dV ["_law_kinds_here"] []
  GV : FnOk P w K mg base CX0 8 fV dV ["_law_kinds_here"] (spVk C)
  gR : mg "_law_right" = some (.ref fR)
  kR : PySem.W.keepIn K (.ref fR) = true
  bR : Binds K dR ["_law_purse_here"] []
  GR : FnG P w K mg base CX0 14 fR dR ["_law_purse_here"] spRt9
  gH : mg "_law_by_hand" = some (.ref fH)
  kH : PySem.W.keepIn K (.ref fH) = true
  bH : Binds K dH ["_law_mine"] []
  GH : FnG P w K mg base CX0 14 fH dH ["_law_mine"] (spBH C)
variable {fIn fP fK fV fR fH : Addr} {dP dK dV dR dH : FuncData}
theorem ok_law {f : Addr} {fd : FuncData} (F : Fun K "law" "law" sLaw f fd) (D : LaD P w K mg base C CE fIn fP fK fV fR fH dP dK dV dR dH) : FnG P w K mg base CX0 15 f fd ["_law_script"] (spLaw K) := by
  refine okG F scLaw (fun vs H Q E h => ?_) (fun cdv A outer s H vs Q E hgd hr h => ?_)
  · obtain ⟨a, ns, rfl, _⟩ := h
    rfl
  · obtain ⟨a, ns, rfl, hS, hlen, q⟩ := h
    have hr1 : Room 1 (A.deeper (PyProof.Rows.envOfC "law" (defScope sLaw) s.heap.objs.size f cdv)) := hr.mono (by omega)
    have hr4 : Room 4 (A.deeper (PyProof.Rows.envOfC "law" (defScope sLaw) s.heap.objs.size f cdv)) := hr.mono (by omega)
    have hr6 : Room 6 (A.deeper (PyProof.Rows.envOfC "law" (defScope sLaw) s.heap.objs.size f cdv)) := hr.mono (by omega)
    have hr8 : Room 8 (A.deeper (PyProof.Rows.envOfC "law" (defScope sLaw) s.heap.objs.size f cdv)) := hr.mono (by omega)
    refine ⟨_, pss_cons (ps_if (pt_not (pt_val (pe_callG D.GH hgd hr rfl D.gH D.kH D.bH pass0 (pa_cons (pe_make0R D.MK D.GI hr6 rfl D.gC passN) pa_nil)))) (pss_one (ps_ret pe_bl)) pss_nil)
      (pss_cons (ps_for PassesOwn.never rfl (pi_range1 (by rfl) D.BL.range (pa_cons (pe_callB (call_max2 rfl) (by rfl) D.BL.max (by decide +kernel) (pa_cons pe_int (pa_cons (pe_callB (call_min2 rfl) (by rfl) D.BL.min (by decide +kernel)
        (pa_cons (pe_callB call_len_seq (by rfl) D.BL.len PySem.boot_len (pa_cons (pv 0) pa_nil)) (pa_cons pe_int pa_nil))) pa_nil))) pa_nil)) (pg_name (i := 1) scLaw.nd rfl (.inl rfl))
        (pss_cons (ps_set (i := 2) scLaw.nd rfl (.inl rfl) (pe_call D.GP hr1 rfl D.gP D.kP D.bP .nil pass0 (pa_cons (pv 0) (pa_cons (pv 1) pa_nil))))
        (pss_one (ps_if (pt_not (pt_val (pe_callG D.GR hgd hr rfl D.gR D.kR D.bR pass0 (pa_cons (pv 2) pa_nil)))) (pss_one (ps_ret pe_bl)) pss_nil))))
      (pss_one (ps_ret (pe_callG D.GH hgd hr rfl D.gH D.kH D.bH pass0 (pa_cons (pe_call D.GV hr8 rfl D.gV D.kV D.bV .nil pass0 (pa_cons (pe_call D.GK hr4 rfl D.gK D.kK D.bK .nil pass0 (pa_cons (pe_call D.GP hr1 rfl D.gP D.kP D.bP .nil pass0 (pa_cons (pv 0) (pa_cons pe_int pa_nil))) (pa_cons pe_int pa_nil))) pa_nil)) pa_nil))))), ?_⟩
    refine seq_mid (fun σ G => σ = [some (.ref a), none, none] ∧ Same H G) (fun N hN => ?_) ?_
    · refine fun x dx nx ndx ne => voc_nil nx ndx ne fun G s1 V => ?_
      exact ⟨x, [], rfl, V, knd_nil, fun G2 s2 => ⟨_, rfl, iteF (hN _ _ ⟨rfl, st s1 s2⟩)⟩⟩
    rintro _ G ⟨rfl, s1⟩
    refine seq_mid (fun σ G => ∃ v1 v2, σ = [some (.ref a), v1, v2] ∧ Same H G) (fun N hN => ?_) ?_
    · refine ⟨_, rfl, a, _, rfl, .inl (s1.seq hS), _, _, rfl, _, _, rfl, ?_⟩
      generalize hj : (if (if (5 : Int) < ((ns.map V.int).length : Int) then (5 : Int) else ((ns.map V.int).length : Int)) > 2 then (if (5 : Int) < ((ns.map V.int).length : Int) then (5 : Int) else ((ns.map V.int).length : Int)) else 2) = n
      have hn : 0 ≤ n ∧ n ≤ 5 := by
        rw [← hj]
        split <;> split <;> omega
      refine ⟨n, rfl, by omega, by omega, for_range (lo := 0) (n := n.toNat) (fun i σ G => ∃ v1 v2, σ = [some (.ref a), v1, v2] ∧ Same H G) ⟨_, _, rfl, s1⟩ ?_ (fun σ G h => hN _ _ h)⟩
      rintro i σ G2 hi ⟨v1, v2, rfl, s2⟩
      refine ⟨_, rfl, _, rfl, a, ns, i, by rw [Int.zero_add]; rfl, s2.seq hS, by omega, fun G3 p s3 np hp => ?_⟩
      refine ⟨_, rfl, p, rfl, hp, fun G4 b4 _ => ⟨_, rfl, iteF ⟨_, _, rfl, fun b o e => ?_⟩⟩⟩
      have e2 := s2 b o e
      exact b4 b o (s3 b o e2) (ne_of_none e2 np)
    rintro _ G2 ⟨v1, v2, rfl, s2⟩
    refine ⟨_, rfl, a, ns, 5, rfl, s2.seq hS, by decide, fun G3 p s3 np hp => ?_⟩
    refine ⟨p, 2, rfl, by decide, hp, fun l xs gs G4 kG _ nl hl ht b4 u4 => ?_⟩
    exact ⟨l, xs, gs, rfl, hl, ht, kG, fun o S G5 s5 V5 => ⟨o, S, rfl, V5.vo, V5.kn, fun G6 _ => q G6⟩⟩
end
end SQ9
namespace SQ9
open PySem L2 SQ
theorem isStr_ne {x z : Str} {t : Tok} (h : z ≠ x) : (Value.str x t).isStr z = false := by
  rw [PySem.W.isStr_of]
  show (x == z) = false
  exact beq_eq_false_iff_ne.mpr (Ne.symm h)
theorem isStr_eq {x : Str} {t : Tok} : (Value.str x t).isStr x = true := by
  rw [PySem.W.isStr_of]
  show (x == x) = true
  exact beq_self_eq_true x
theorem look_of {K : PySem.W.Frag} {dD : Addr} {h0 h1 h2 h3 : Int} {t0 t1 t2 t3 s0 s1 s2 s3 : Tok} {nn : Nat}
    (lD : K.lookup dD = some ⟨.type "dict", none, .dict #[⟨h0, .str "0" t0, .int 0 s0⟩, ⟨h1, .str "1" t1, .int 1 s1⟩, ⟨h2, .str "2" t2, .int 2 s2⟩, ⟨h3, .str "3" t3, .int 3 s3⟩] nn, #[]⟩) :
    ∀ z : Str, ∃ r : Option Value, PySem.W.nsIn K dD z = some r ∧ (∀ i, digOf z = some i → ∃ t, r = some (.int i t)) ∧ (digOf z = none → r = none) := by
  intro z
  unfold PySem.W.nsIn
  rw [lD]
  dsimp only
  have e : ∀ {x : Str} {t : Tok}, z ≠ x → (Value.str x t).isStr z = false := fun h => isStr_ne h
  unfold digOf
  by_cases z0 : z = "0"
  · subst z0
    refine ⟨some (.int 0 s0), ?_, fun i h => ?_, fun h => ?_⟩
    · rw [List.find?_cons_of_pos (by simp only [isStr_eq])]
    · rw [if_pos rfl] at h
      cases h
      exact ⟨_, rfl⟩
    · rw [if_pos rfl] at h
      cases h
  by_cases z1 : z = "1"
  · subst z1
    refine ⟨some (.int 1 s1), ?_, fun i h => ?_, fun h => ?_⟩
    · rw [List.find?_cons_of_neg (by simp only [e z0]; decide), List.find?_cons_of_pos (by simp only [isStr_eq])]
    · rw [if_neg z0, if_pos rfl] at h
      cases h
      exact ⟨_, rfl⟩
    · rw [if_neg z0, if_pos rfl] at h
      cases h
  by_cases z2 : z = "2"
  · subst z2
    refine ⟨some (.int 2 s2), ?_, fun i h => ?_, fun h => ?_⟩
    · rw [List.find?_cons_of_neg (by simp only [e z0]; decide), List.find?_cons_of_neg (by simp only [e z1]; decide), List.find?_cons_of_pos (by simp only [isStr_eq])]
    · rw [if_neg z0, if_neg z1, if_pos rfl] at h
      cases h
      exact ⟨_, rfl⟩
    · rw [if_neg z0, if_neg z1, if_pos rfl] at h
      cases h
  by_cases z3 : z = "3"
  · subst z3
    refine ⟨some (.int 3 s3), ?_, fun i h => ?_, fun h => ?_⟩
    · rw [List.find?_cons_of_neg (by simp only [e z0]; decide), List.find?_cons_of_neg (by simp only [e z1]; decide), List.find?_cons_of_neg (by simp only [e z2]; decide), List.find?_cons_of_pos (by simp only [isStr_eq])]
    · rw [if_neg z0, if_neg z1, if_neg z2, if_pos rfl] at h
      cases h
      exact ⟨_, rfl⟩
    · rw [if_neg z0, if_neg z1, if_neg z2, if_pos rfl] at h
      cases h
  refine ⟨none, ?_, fun i h => ?_, fun _ => rfl⟩
  · rw [List.find?_cons_of_neg (by simp only [e z0]; decide), List.find?_cons_of_neg (by simp only [e z1]; decide), List.find?_cons_of_neg (by simp only [e z2]; decide), List.find?_cons_of_neg (by simp only [e z3]; decide)]
    rfl
  · rw [if_neg z0, if_neg z1, if_neg z2, if_neg z3] at h
    cases h
end SQ9
/-! A head that writes little: the top is run once, what is told of it is looked up in what its names reach. -/
namespace SQ
open PySem PySem.Spec PyProof.Rows L2
/-- one def: where it lies, its name, qualified name, parameters, body, scope -/
structure FnM where
  at_ : PySem.W.Frag → Addr
  name : Str
  qual : Str
  params : Arguments
  body : List Stmt
  scope : Scope
def FnM.of (a : PySem.W.Frag → Addr) (n q : Str) (st : Stmt) : FnM := ⟨a, n, q, defArgs st, defBody st, defScope st⟩
def fnObsA (K : PySem.W.Frag) (a : Addr) : He.FnV := match K.lookup a with
  | some ⟨_, _, .func fd, _⟩ => some (fd.name, fd.qualname, fd.params, fd.body, fd.scope, fd.globals, fd.closure, fd.defaults, fd.builtins)
  | _ => none
def codeA (K : PySem.W.Frag) (a : Addr) (q : Str) : Bool := match K.lookup a with
  | some ⟨_, _, .func fd, _⟩ => PySem.W.codeIn K fd.code q
  | _ => false
def FnM.val (d : FnM) : He.FnV := some (d.name, d.qual, d.params, .stmts d.body, d.scope, mainGlobals, [], .none, builtinsNs)
theorem fnM_ok {K : PySem.W.Frag} {a : Addr} {d : FnM} (e : fnObsA K a = d.val) (c : codeA K a d.qual = true) :
    ∃ oc od osl kV doc pm an cdv ct, K.lookup a = some ⟨oc, od, .func (PySem.W.fnOf d.name d.qual d.params d.body d.scope .none kV doc pm an cdv ct), osl⟩ ∧ PySem.W.codeIn K cdv d.qual = true := by
  unfold codeA at c
  unfold fnObsA at e
  cases q : K.lookup a with
  | none =>
    rw [q] at c
    cases c
  | some o =>
    obtain ⟨oc, od, dt, osl⟩ := o
    rw [q] at c e
    cases dt with
    | func fd =>
      obtain ⟨n1, n2, n3, n4, n5, n6, n7, n8, n9, n10, n11, n12, n13, n14, n15⟩ := fd
      have e2 : (some (n1, n2, n3, n4, n5, n6, n7, n8, n15) : He.FnV) = some (d.name, d.qual, d.params, .stmts d.body, d.scope, mainGlobals, [], .none, builtinsNs) := e
      simp only [Option.some.injEq, Prod.mk.injEq] at e2
      obtain ⟨h1, h2, h3, h4, h5, h6, h7, h8, h9⟩ := e2
      subst h1 h2 h3 h4 h5 h6 h7 h8 h9
      exact ⟨oc, od, osl, n9, n10, n11, n12, n13, n14, rfl, c⟩
    | _ => cases c
/-! ### a dict of texts and ints -/
def entI (e : DictEntry) : Option (Str × Int × Int) := match e.key, e.val with
  | .str x _, .int i _ => some (x, e.hash, i)
  | _, _ => none
def dicI (K : PySem.W.Frag) (a : Addr) : Option (List (Option (Str × Int × Int))) := match K.lookup a with
  | some ⟨.type c, none, .dict es _, sl⟩ => (match decide (c = "dict") && (sl.isEmpty && !(a == sysModules)) with
    | true => some (es.toList.map entI)
    | false => none)
  | _ => none
def keysI (P : Params) (ks : List (Str × Int)) : List (Option (Str × Int × Int)) := ks.map fun k => some (k.1, PyData.keyHash P k.1, k.2)
theorem entI_of {e : DictEntry} {x : Str} {h i : Int} (q : entI e = some (x, h, i)) : ∃ t s, e = ⟨h, .str x t, .int i s⟩ := by
  obtain ⟨eh, ek, ev⟩ := e
  unfold entI at q
  cases ek with
  | str y t =>
    cases ev with
    | int j s =>
      have q2 := Option.some.inj q
      injection q2 with q3 q4
      injection q4 with q5 q6
      have e1 : y = x := q3
      have e2 : eh = h := q5
      have e3 : j = i := q6
      subst e1 e2 e3
      exact ⟨t, s, rfl⟩
    | _ => cases q
  | _ => cases q
theorem dicI_ok {K : PySem.W.Frag} {P : Params} {a : Addr} {ks : List (Str × Int)} (h : dicI K a = some (keysI P ks)) : ∃ es n, K.lookup a = some ⟨.type "dict", none, .dict es n, #[]⟩ ∧ es.toList.map entI = keysI P ks := by
  unfold dicI at h
  cases q : K.lookup a with
  | none =>
    rw [q] at h
    cases h
  | some o =>
    obtain ⟨oc, od, dt, osl⟩ := o
    rw [q] at h
    cases oc with
    | type c =>
      cases od with
      | none =>
        cases dt with
        | dict es n =>
          have h1 : (match decide (c = "dict") && (osl.isEmpty && !(a == sysModules)) with
            | true => some (es.toList.map entI)
            | false => none) = some (keysI P ks) := h
          cases z : decide (c = "dict") && (osl.isEmpty && !(a == sysModules)) with
          | false =>
            rw [z] at h1
            cases h1
          | true =>
            rw [z] at h1
            obtain ⟨z1, z2⟩ := He.ba z
            obtain ⟨z3, z4⟩ := He.ba z2
            have e1 : c = "dict" := of_decide_eq_true z1
            have e2 : osl = #[] := Array.isEmpty_iff.mp z3
            subst e1 e2
            exact ⟨es, n, rfl, Option.some.inj h1⟩
        | _ => cases h
      | some b => cases dt <;> cases h
    | _ => cases od <;> cases dt <;> cases h
theorem map_cons9 {α β : Type} {f : α → β} {l : List α} {b : β} {r : List β} (h : l.map f = b :: r) : ∃ a t, l = a :: t ∧ f a = b ∧ t.map f = r := by
  cases l with
  | nil => cases h
  | cons a t =>
    rw [List.map_cons] at h
    injection h with h1 h2
    exact ⟨a, t, rfl, h1, h2⟩
theorem map_nil9 {α β : Type} {f : α → β} {l : List α} (h : l.map f = []) : l = [] := List.map_eq_nil_iff.mp h
theorem dic4 {K : PySem.W.Frag} {P : Params} {a : Addr} {k0 k1 k2 k3 : Str} {i0 i1 i2 i3 : Int} (h : dicI K a = some (keysI P [(k0, i0), (k1, i1), (k2, i2), (k3, i3)])) :
    ∃ t0 t1 t2 t3 s0 s1 s2 s3 n, K.lookup a = some ⟨.type "dict", none, .dict #[⟨PyData.keyHash P k0, .str k0 t0, .int i0 s0⟩, ⟨PyData.keyHash P k1, .str k1 t1, .int i1 s1⟩, ⟨PyData.keyHash P k2, .str k2 t2, .int i2 s2⟩, ⟨PyData.keyHash P k3, .str k3 t3, .int i3 s3⟩] n, #[]⟩ := by
  obtain ⟨⟨es⟩, n, e1, e2⟩ := dicI_ok h
  have e3 : es.map entI = [some (k0, PyData.keyHash P k0, i0), some (k1, PyData.keyHash P k1, i1), some (k2, PyData.keyHash P k2, i2), some (k3, PyData.keyHash P k3, i3)] := e2
  obtain ⟨a0, r0, rfl, g0, e3⟩ := map_cons9 e3
  obtain ⟨a1, r1, rfl, g1, e3⟩ := map_cons9 e3
  obtain ⟨a2, r2, rfl, g2, e3⟩ := map_cons9 e3
  obtain ⟨a3, r3, rfl, g3, e3⟩ := map_cons9 e3
  obtain rfl := map_nil9 e3
  obtain ⟨t0, s0, rfl⟩ := entI_of g0
  obtain ⟨t1, s1, rfl⟩ := entI_of g1
  obtain ⟨t2, s2, rfl⟩ := entI_of g2
  obtain ⟨t3, s3, rfl⟩ := entI_of g3
  exact ⟨t0, t1, t2, t3, s0, s1, s2, s3, n, e1⟩
/-! ### a tuple of texts -/
def valS : Value → Option Str
  | .str x _ => some x
  | _ => none
def tupS (K : PySem.W.Frag) (a : Addr) (xs : List Str) : Bool := match K.lookup a with
  | some ⟨.type c, _, .seq its _, _⟩ => decide (c = "tuple") && decide (its.toList.map valS = xs.map some)
  | _ => false
theorem valS_of {v : Value} {x : Str} (h : valS v = some x) : ∃ t, v = .str x t := by
  cases v with
  | str y t =>
    cases h
    exact ⟨t, rfl⟩
  | _ => cases h
theorem tup5 {K : PySem.W.Frag} {a : Addr} {x0 x1 x2 x3 x4 : Str} (h : tupS K a [x0, x1, x2, x3, x4] = true) :
    ∃ od u1 u2 u3 u4 u5 nn sl, K.lookup a = some ⟨.type "tuple", od, .seq #[.str x0 u1, .str x1 u2, .str x2 u3, .str x3 u4, .str x4 u5] nn, sl⟩ := by
  unfold tupS at h
  cases q : K.lookup a with
  | none =>
    rw [q] at h
    cases h
  | some o =>
    obtain ⟨oc, od, dt, osl⟩ := o
    rw [q] at h
    cases oc with
    | type c =>
      cases dt with
      | seq its n =>
        obtain ⟨h1, h2⟩ := He.ba h
        have e1 : c = "tuple" := of_decide_eq_true h1
        obtain ⟨its⟩ := its
        have e2 : its.map valS = [some x0, some x1, some x2, some x3, some x4] := of_decide_eq_true h2
        subst e1
        obtain ⟨a0, r0, rfl, g0, e2⟩ := map_cons9 e2
        obtain ⟨a1, r1, rfl, g1, e2⟩ := map_cons9 e2
        obtain ⟨a2, r2, rfl, g2, e2⟩ := map_cons9 e2
        obtain ⟨a3, r3, rfl, g3, e2⟩ := map_cons9 e2
        obtain ⟨a4, r4, rfl, g4, e2⟩ := map_cons9 e2
        obtain rfl := map_nil9 e2
        obtain ⟨t0, rfl⟩ := valS_of g0
        obtain ⟨t1, rfl⟩ := valS_of g1
        obtain ⟨t2, rfl⟩ := valS_of g2
        obtain ⟨t3, rfl⟩ := valS_of g3
        obtain ⟨t4, rfl⟩ := valS_of g4
        exact ⟨od, t0, t1, t2, t3, t4, n, osl, rfl⟩
      | _ => cases h
    | _ => cases dt <;> cases h
/-! ### constants -/
def intB (K : PySem.W.Frag) (x : Str) (i : Int) : Bool := match PySem.W.nsIn K mainGlobals x with
  | some (some (.int j _)) => decide (j = i)
  | _ => false
def strB (K : PySem.W.Frag) (x z : Str) : Bool := match PySem.W.nsIn K mainGlobals x with
  | some (some (.str y _)) => decide (y = z)
  | _ => false
theorem intB_ok {K : PySem.W.Frag} {x : Str} {i : Int} (h : intB K x i = true) : ∃ t, PySem.W.nsIn K mainGlobals x = some (some (.int i t)) := by
  unfold intB at h
  cases e : PySem.W.nsIn K mainGlobals x with
  | none => rw [e] at h; cases h
  | some o =>
    rw [e] at h
    cases o with
    | none => cases h
    | some v =>
      cases v with
      | int j t =>
        have ej : j = i := of_decide_eq_true h
        exact ⟨t, by rw [ej]⟩
      | _ => cases h
theorem strB_ok {K : PySem.W.Frag} {x z : Str} (h : strB K x z = true) : ∃ t, PySem.W.nsIn K mainGlobals x = some (some (.str z t)) := by
  unfold strB at h
  cases e : PySem.W.nsIn K mainGlobals x with
  | none => rw [e] at h; cases h
  | some o =>
    rw [e] at h
    cases o with
    | none => cases h
    | some v =>
      cases v with
      | str y t =>
        have ej : y = z := of_decide_eq_true h
        exact ⟨t, by rw [ej]⟩
      | _ => cases h
/-! ### a static method -/
def smA (K : PySem.W.Frag) (C : Addr) (m : Str) : Addr := match PySem.W.findCls K (.ref C) (.type "type") m with
  | some (.get (.builtin _) (.ref p) .none (.ref _)) => p
  | _ => 0
def smB (K : PySem.W.Frag) (C : Addr) (m : Str) : Bool := match PySem.W.findCls K (.ref C) (.type "type") m with
  | some (.get (.builtin b) (.ref p) .none (.ref c)) => decide (b = "staticmethod.__get__") && decide (c = C)
  | _ => false
def smF (K : PySem.W.Frag) (p : Addr) : Addr := match PySem.W.recIn K p "staticmethod" with
  | some (.ref f :: _) => f
  | _ => 0
def smR (K : PySem.W.Frag) (p : Addr) : Bool := match PySem.W.recIn K p "staticmethod" with
  | some (.ref _ :: _) => true
  | _ => false
theorem smB_ok {K : PySem.W.Frag} {C : Addr} {m : Str} (h : smB K C m = true) : PySem.W.findCls K (.ref C) (.type "type") m = some (.get (.builtin "staticmethod.__get__") (.ref (smA K C m)) .none (.ref C)) := by
  unfold smA
  unfold smB at h
  split at h
  · rename_i b p c q
    obtain ⟨h1, h2⟩ := He.ba h
    rw [q, of_decide_eq_true h1, of_decide_eq_true h2]
  · cases h
theorem smR_ok {K : PySem.W.Frag} {p : Addr} (h : smR K p = true) : ∃ rest, PySem.W.recIn K p "staticmethod" = some (.ref (smF K p) :: rest) := by
  unfold smF
  unfold smR at h
  split at h
  · rename_i f rest q
    exact ⟨rest, by rw [q]⟩
  · cases h
/-- no keyword-only defaults -/
def kvN (K : PySem.W.Frag) (a : Addr) : Bool := match K.lookup a with
  | some ⟨_, _, .func fd, _⟩ => (match fd.kwdefaults with
    | .none => true
    | _ => false)
  | _ => false
theorem kvN_ok {K : PySem.W.Frag} {a : Addr} {oc : Value} {od : Option Addr} {osl : Array (Option Value)} {n q : Str} {ps : Arguments} {b : List Stmt} {sc : Scope} {kV doc pm cdv ct : Value} {an : Option Addr}
    (e : K.lookup a = some ⟨oc, od, .func (PySem.W.fnOf n q ps b sc .none kV doc pm an cdv ct), osl⟩) (h : kvN K a = true) : K.lookup a = some ⟨oc, od, .func (PySem.W.fnOf n q ps b sc .none .none doc pm an cdv ct), osl⟩ := by
  unfold kvN at h
  rw [e] at h
  cases kV with
  | none => exact e
  | _ => cases h
/-! ### the part of the heap that the names reach -/
def refsM (o : Obj) : List Addr := match o.data with
  | .dict es _ => es.toList.flatMap fun e => He.refV e.val
  | .func fd => He.refV fd.code
  | .cls cd => [cd.ns]
  | .fields vs => vs.toList.flatMap He.refV
  | _ => []
def frL (g : Addr → Option Obj) : Nat → List Addr → PySem.W.Frag
  | 0, as => He.frG g as
  | n + 1, as => He.frG g as ++ frL g n ((He.frG g as).flatMap fun z => refsM z.2)
def frM (g : Addr → Option Obj) (n : Nat) : PySem.W.Frag := He.frG g [cStatics] ++ frL g n [mainGlobals]
theorem lookup_or {A B : PySem.W.Frag} {a : Addr} {o : Obj} (e : (A ++ B).lookup a = some o) : A.lookup a = some o ∨ B.lookup a = some o := by
  induction A with
  | nil => exact .inr e
  | cons p r ih =>
    obtain ⟨b, ob⟩ := p
    have e2 : (match a == b with | true => some ob | false => List.lookup a (r ++ B)) = some o := e
    show (match a == b with | true => some ob | false => List.lookup a r) = some o ∨ _
    cases q : a == b with
    | true =>
      rw [q] at e2
      exact .inl e2
    | false =>
      rw [q] at e2
      exact ih e2
theorem frL_at {g : Addr → Option Obj} {a : Addr} {o : Obj} : ∀ (n : Nat) (as : List Addr), (frL g n as).lookup a = some o → g a = some o
  | 0, as, e => He.frG_at as e
  | n + 1, as, e => (lookup_or e).elim (He.frG_at as) (frL_at n _)
theorem frM_in {n : Nat} {h : Heap} : (frM h.get? n).In h := fun _ _ e => (lookup_or e).elim (He.frG_at _) (frL_at n _)
/-! ### the Hook -/
abbrev TabI : Type := (PySem.W.Frag → Addr) × List (Str × Int)
abbrev AlM : Type := (Bool × List He.FnV) × List (Option (List (Option (Str × Int)))) × List (Option (List (Option (Str × Int × Int))))
def obsM (fn : List FnM) (ts : List He.Tab) (ds : List TabI) (ex : PySem.W.Frag → List Bool) (K : PySem.W.Frag) : AlM := ((((ex K).all fun b => b) && fn.all fun d => codeA K (d.at_ K) d.qual, fn.map fun d => fnObsA K (d.at_ K)), ts.map (fun t => He.dicW K (t.1 K)), ds.map fun t => dicI K (t.1 K))
def valM (fn : List FnM) (ts : List He.Tab) (ds : List TabI) (w : World) : AlM := ((true, fn.map FnM.val), ts.map (fun t => some (He.keysIn w.params t.2)), ds.map fun t => some (keysI w.params t.2))
def SaysM (fn : List FnM) (ts : List He.Tab) (ds : List TabI) (ex : PySem.W.Frag → List Bool) (w : World) (K : PySem.W.Frag) : Prop := obsM fn ts ds ex K = valM fn ts ds w
def obsMG (n : Nat) (fn : List FnM) (ts : List He.Tab) (ds : List TabI) (ex : PySem.W.Frag → List Bool) (g : Addr → Option Obj) : AlM := obsM fn ts ds ex (frM g n)
def hookM (n : Nat) (fn : List FnM) (ts : List He.Tab) (ds : List TabI) (ex : PySem.W.Frag → List Bool) : PySem.W.Hook where
  α := AlM
  obs := fun s => obsMG n fn ts ds ex s.heap.get?
  val := fun w => valM fn ts ds w
  says := fun w h => ∃ K : PySem.W.Frag, K.In h ∧ SaysM fn ts ds ex w K
  of := fun _ _ e => ⟨_, frM_in, e⟩
  keeps := fun _ _ _ ⟨K, hK, c⟩ k => ⟨K, PySem.W.Frag.In.keeps hK k, c⟩
theorem obsMG_eq {n : Nat} {fn : List FnM} {ts : List He.Tab} {ds : List TabI} {ex : PySem.W.Frag → List Bool} {g : Addr → Option Obj} {s : Shared} (h : ∀ a, g a = s.heap.get? a) : obsMG n fn ts ds ex g = (hookM n fn ts ds ex).obs s := by
  have e : g = s.heap.get? := funext h
  rw [e] <;> rfl
section
variable {fns : List FnM} {ts : List He.Tab} {ds : List TabI} {exs : PySem.W.Frag → List Bool} {w : World} {K : PySem.W.Frag}
theorem SaysM.ex (c : SaysM fns ts ds exs w K) (i : Nat) {b : Bool} (h : (exs K)[i]? = some b) : b = true := by
  have c1 := (He.ba (show (((exs K).all fun b => b) && fns.all fun d => codeA K (d.at_ K) d.qual) = true from congrArg (fun z : AlM => z.1.1) c)).1
  exact List.all_eq_true.mp c1 b (List.mem_of_getElem? h)
theorem SaysM.fn (c : SaysM fns ts ds exs w K) (i : Nat) {d : FnM} (h : fns[i]? = some d) :
    ∃ oc od osl kV doc pm an cdv ct, K.lookup (d.at_ K) = some ⟨oc, od, .func (PySem.W.fnOf d.name d.qual d.params d.body d.scope .none kV doc pm an cdv ct), osl⟩ ∧ PySem.W.codeIn K cdv d.qual = true := by
  have c2 := (He.ba (show (((exs K).all fun b => b) && fns.all fun d => codeA K (d.at_ K) d.qual) = true from congrArg (fun z : AlM => z.1.1) c)).2
  have e : fns.map (fun d => fnObsA K (d.at_ K)) = fns.map FnM.val := congrArg (fun z : AlM => z.1.2) c
  have e2 : (fns.map fun d => fnObsA K (d.at_ K))[i]? = (fns.map FnM.val)[i]? := by rw [e]
  rw [List.getElem?_map, List.getElem?_map, h] at e2
  exact fnM_ok (Option.some.inj e2) (List.all_eq_true.mp c2 d (List.mem_of_getElem? h))
theorem SaysM.tab (c : SaysM fns ts ds exs w K) (i : Nat) {t : He.Tab} (h : ts[i]? = some t) : ∃ es n, KDict K w (t.1 K) es n := by
  have e : ts.map (fun t => He.dicW K (t.1 K)) = ts.map fun t => some (He.keysIn w.params t.2) := congrArg (fun z : AlM => z.2.1) c
  have e2 : (ts.map fun t => He.dicW K (t.1 K))[i]? = (ts.map fun t => some (He.keysIn w.params t.2))[i]? := by rw [e]
  rw [List.getElem?_map, List.getElem?_map, h] at e2
  exact He.dicW_ok (Option.some.inj e2)
theorem SaysM.dic (c : SaysM fns ts ds exs w K) (i : Nat) {t : TabI} (h : ds[i]? = some t) : dicI K (t.1 K) = some (keysI w.params t.2) := by
  have e : ds.map (fun t => dicI K (t.1 K)) = ds.map fun t => some (keysI w.params t.2) := congrArg (fun z : AlM => z.2.2) c
  have e2 : (ds.map fun t => dicI K (t.1 K))[i]? = (ds.map fun t => some (keysI w.params t.2))[i]? := by rw [e]
  rw [List.getElem?_map, List.getElem?_map, h] at e2
  exact Option.some.inj e2
end
/-- the law's walk, where what is told of the top is told of some part of it -/
theorem walkGE {l : PySem.W.OpenLaw} {n k : Nat} {q : Program} {loose : List Str} {XP : (Str → Option Value) → Heap → Prop} {YP : World → Heap → Prop} {d : DefRec} {x : Str}
    (hn : l.most = some n) (hn2 : n ≤ sizeLine) (hdf : d.params.defaults = []) (hr : Room k callerA)
    (F : ∀ (w : World) (mg : Str → Option Value) (fa : Addr) (h : Heap), YP w h → h.Ns mainGlobals mg → mg d.name = some (.ref fa) → ∃ K : PySem.W.Frag, K.In h ∧ AtG l w K k n x mg fa h) :
    PySem.W.WalkO q loose XP YP l.row.toRowW d [] (fun f vs => PySem.call f vs) := by
  refine Att.attach_callB hn hdf ?_
  intro w s0 s1 mg mb fa o pm cd doc a vs ns G Y ho hd hcd hmg hobj hints hlen hbits hg
  obtain ⟨K, KX, fd, cs, sp, hc, hb, hsp, hF⟩ := F w mg fa _ Y G.T.g hmg
  exact lawGT KX G.T.g G.T.b G.T.builtins G.T.nolimit hg (fun p hp => (hc p hp).1) (fun p hp => (hc p hp).2.1) (fun p hp => (hc p hp).2.2) G.T.bmain hobj hints (Nat.le_trans hlen hn2) hr hF hb
    (fun H hH hS => hsp H a ns hlen hbits hH hS)
end SQ
namespace SQ9
open PySem L2 SQ
/-- all that one look at the written part tells -/
def chkA (K : PySem.W.Frag) (CE CT C CP CS CF fI fT fIn fA fPI fQd fSI fMk fPi fSt fKo fVr fPr fSp fUn fFi fEI dD dC smp fRd f_22 f_23 f_24 f_25 f_26 : Addr) : Bool :=
  errOk K CE "index" bmV "ValueError.__new__" && ((PySem.W.typeIn K (.ref fI) == some (.type "function")) && ((PySem.W.typeIn K (.ref CE) == some (.type "type")) && (errOk K CT "value" bmV "ValueError.__new__" && ((PySem.W.typeIn K (.ref fT) == some (.type "function")) && ((PySem.W.typeIn K (.ref CT) == some (.type "type")) && ((PySem.W.specialIn K (.builtin "object.__class__") "__get__" == some (some (.builtin "getset_descriptor.__get__"))) && ((PySem.W.takesIn K (.builtin "object.__class__") == some true) && ((PySem.W.exmOne K (.ref CE) (.ref CE) == some true) && (PySem.W.plainGet K C Str.empty && (PySem.W.hasDictIn K C && (PySem.W.plainOver K C && ((PySem.W.findIn K (.ref C) "__setattr__" == some (some (.builtin "object.__setattr__"))) && (PySem.W.makesIn K C && (PySem.W.keepIn K (.ref C) && (PySem.W.plainGet K CP Str.empty && (PySem.W.hasDictIn K CP && (PySem.W.plainOver K CP && ((PySem.W.findIn K (.ref CP) "__setattr__" == some (some (.builtin "object.__setattr__"))) && (PySem.W.makesIn K CP && (PySem.W.keepIn K (.ref CP) && (PySem.W.plainGet K CS Str.empty && (PySem.W.hasDictIn K CS && (PySem.W.plainOver K CS && ((PySem.W.findIn K (.ref CS) "__setattr__" == some (some (.builtin "object.__setattr__"))) && (PySem.W.makesIn K CS && (PySem.W.keepIn K (.ref CS) && (PySem.W.plainGet K CF Str.empty && (PySem.W.hasDictIn K CF && (PySem.W.plainOver K CF && ((PySem.W.findIn K (.ref CF) "__setattr__" == some (some (.builtin "object.__setattr__"))) && (PySem.W.makesIn K CF && (PySem.W.keepIn K (.ref CF) && ((PySem.W.findIn K (.ref C) "__class__" == some (some (.builtin "object.__class__"))) && ((PySem.W.mroIn K C (.type "object") == some true) && ((PySem.W.kitOne K (.ref C) (.ref C) == some true) && ((PySem.W.findIn K (.ref CP) "__class__" == some (some (.builtin "object.__class__"))) && ((PySem.W.mroIn K CP (.type "object") == some true) && ((PySem.W.kitOne K (.ref CP) (.ref CP) == some true) && ((PySem.W.findIn K (.ref C) "arities" == some none) && ((PySem.W.findIn K (.ref C) "names" == some none) && ((PySem.W.findIn K (.ref C) "text" == some none) && ((PySem.W.findIn K (.ref CP) "vocabulary" == some none) && ((PySem.W.findIn K (.ref CP) "text" == some none) && ((PySem.W.findIn K (.ref CP) "row" == some none) && ((PySem.W.findIn K (.ref CP) "words" == some none) && ((PySem.W.findIn K (.ref CP) "size" == some none) && ((PySem.W.findIn K (.ref CS) "kinds" == some none) && ((PySem.W.findIn K (.ref CS) "parts" == some none) && ((PySem.W.findIn K (.ref CS) "links" == some none) && ((PySem.W.findIn K (.ref CF) "shapes" == some none) && ((PySem.W.findIn K (.ref CF) "left" == some none) && ((PySem.W.findIn K (.ref CF) "right" == some none) && (PySem.W.isFn K (.ref fIn) && (PySem.W.isFn K (.ref fA) && (PySem.W.isFn K (.ref fPI) && (PySem.W.isFn K (.ref fQd) && (PySem.W.isFn K (.ref fSI) && (PySem.W.isFn K (.ref fMk) && (PySem.W.isFn K (.ref fPi) && (PySem.W.isFn K (.ref fSt) && (PySem.W.isFn K (.ref fKo) && (PySem.W.isFn K (.ref fVr) && (PySem.W.isFn K (.ref fPr) && (PySem.W.isFn K (.ref fSp) && (PySem.W.isFn K (.ref fUn) && (PySem.W.isFn K (.ref fFi) && (PySem.W.isFn K (.ref fEI) && (PySem.W.readsIn K C (.type "type") && ((PySem.W.specialIn K (.ref C) "__getattribute__" == some (some (.builtin "type.__getattribute__"))) && (!(dD == sysModules) && (!(dC == sysModules) && (!(f_22 == f_23) && (!(f_22 == f_24) && (!(f_22 == f_25) && (!(f_22 == f_26) && (!(f_23 == f_24) && (!(f_23 == f_25) && (!(f_23 == f_26) && (!(f_24 == f_25) && (!(f_24 == f_26) && (!(f_25 == f_26))))))))))))))))))))))))))))))))))))))))))))))))))))))))))))))))))))))))))))))))))
/-- the functions of the core words -/
def fE9 (a b c d e : Addr) (t : Str) : Addr := if t = "call" then a else if t = "dip" then b else if t = "curry" then c else if t = "compose" then d else e
theorem fE9_0 {a b c d e : Addr} : fE9 a b c d e "call" = a := by
  unfold fE9
  rw [if_pos rfl]
theorem fE9_1 {a b c d e : Addr} : fE9 a b c d e "dip" = b := by
  unfold fE9
  rw [if_neg (by decide +kernel), if_pos rfl]
theorem fE9_2 {a b c d e : Addr} : fE9 a b c d e "curry" = c := by
  unfold fE9
  rw [if_neg (by decide +kernel), if_neg (by decide +kernel), if_pos rfl]
theorem fE9_3 {a b c d e : Addr} : fE9 a b c d e "compose" = d := by
  unfold fE9
  rw [if_neg (by decide +kernel), if_neg (by decide +kernel), if_neg (by decide +kernel), if_pos rfl]
theorem fE9_4 {a b c d e : Addr} : fE9 a b c d e "choose" = e := by
  unfold fE9
  rw [if_neg (by decide +kernel), if_neg (by decide +kernel), if_neg (by decide +kernel), if_neg (by decide +kernel)]
theorem cores_ind {p : Str → Prop} (h0 : p "call") (h1 : p "dip") (h2 : p "curry") (h3 : p "compose") (h4 : p "choose") : ∀ t ∈ cores, p t := fun t ht => by
  have ht' : t ∈ (["call", "dip", "curry", "compose", "choose"] : List Str) := ht
  simp only [List.mem_cons, List.not_mem_nil, or_false] at ht'
  rcases ht' with rfl | rfl | rfl | rfl | rfl
  · exact h0
  · exact h1
  · exact h2
  · exact h3
  · exact h4
theorem all_mk {l : PySem.W.OpenLaw} {w : World} {K : PySem.W.Frag} {h : Heap} {mg : Str → Option Value} {fa CE CT C CP CS CF tC fI fT fIn fA fPI fQd fSI fMk fPi fSt fKo fVr fPr fSp fUn fFi fEI dD dC smp fRd f_0 f_1 f_2 f_3 f_4 f_5 f_6 f_7 f_8 f_9 f_10 f_11 f_12 f_13 f_14 f_15 f_16 f_17 f_18 f_19 f_20 f_21 f_22 f_23 f_24 f_25 f_26 f_27 f_28 f_29 f_30 f_31 f_32 f_33 f_34 f_35 f_36 f_37 f_38 f_39 f_40 f_41 f_42 f_43 f_44 f_45 f_46 f_47 f_48 f_49 f_50 f_51 f_52 f_53 : Addr}
    {odC : Option Addr} {u1 u2 u3 u4 u5 : Tok} {nn : Nat} {slC : Array (Option Value)}
    {t0 t1 t2 t3 s0 s1 s2 s3 : Tok} {nd : Nat}
    {oce dce pme cde cte : Value} {ode ane : Option Addr} {sle : Array (Option Value)}
    {oct dct pmt cdt ctt : Value} {odt ant : Option Addr} {slt : Array (Option Value)}
    {oc_0 kV_0 dc_0 pm_0 cd_0 ct_0 : Value} {od_0 an_0 : Option Addr} {sl_0 : Array (Option Value)}
    {oc_1 kV_1 dc_1 pm_1 cd_1 ct_1 : Value} {od_1 an_1 : Option Addr} {sl_1 : Array (Option Value)}
    {oc_2 kV_2 dc_2 pm_2 cd_2 ct_2 : Value} {od_2 an_2 : Option Addr} {sl_2 : Array (Option Value)}
    {oc_3 kV_3 dc_3 pm_3 cd_3 ct_3 : Value} {od_3 an_3 : Option Addr} {sl_3 : Array (Option Value)}
    {oc_4 kV_4 dc_4 pm_4 cd_4 ct_4 : Value} {od_4 an_4 : Option Addr} {sl_4 : Array (Option Value)}
    {oc_5 kV_5 dc_5 pm_5 cd_5 ct_5 : Value} {od_5 an_5 : Option Addr} {sl_5 : Array (Option Value)}
    {oc_6 kV_6 dc_6 pm_6 cd_6 ct_6 : Value} {od_6 an_6 : Option Addr} {sl_6 : Array (Option Value)}
    {oc_7 kV_7 dc_7 pm_7 cd_7 ct_7 : Value} {od_7 an_7 : Option Addr} {sl_7 : Array (Option Value)}
    {oc_8 kV_8 dc_8 pm_8 cd_8 ct_8 : Value} {od_8 an_8 : Option Addr} {sl_8 : Array (Option Value)}
    {oc_9 kV_9 dc_9 pm_9 cd_9 ct_9 : Value} {od_9 an_9 : Option Addr} {sl_9 : Array (Option Value)}
    {oc_10 kV_10 dc_10 pm_10 cd_10 ct_10 : Value} {od_10 an_10 : Option Addr} {sl_10 : Array (Option Value)}
    {oc_11 kV_11 dc_11 pm_11 cd_11 ct_11 : Value} {od_11 an_11 : Option Addr} {sl_11 : Array (Option Value)}
    {oc_12 kV_12 dc_12 pm_12 cd_12 ct_12 : Value} {od_12 an_12 : Option Addr} {sl_12 : Array (Option Value)}
    {oc_13 kV_13 dc_13 pm_13 cd_13 ct_13 : Value} {od_13 an_13 : Option Addr} {sl_13 : Array (Option Value)}
    {oc_14 kV_14 dc_14 pm_14 cd_14 ct_14 : Value} {od_14 an_14 : Option Addr} {sl_14 : Array (Option Value)}
    {oc_15 kV_15 dc_15 pm_15 cd_15 ct_15 : Value} {od_15 an_15 : Option Addr} {sl_15 : Array (Option Value)}
    {oc_16 kV_16 dc_16 pm_16 cd_16 ct_16 : Value} {od_16 an_16 : Option Addr} {sl_16 : Array (Option Value)}
    {oc_17 kV_17 dc_17 pm_17 cd_17 ct_17 : Value} {od_17 an_17 : Option Addr} {sl_17 : Array (Option Value)}
    {oc_18 kV_18 dc_18 pm_18 cd_18 ct_18 : Value} {od_18 an_18 : Option Addr} {sl_18 : Array (Option Value)}
    {oc_19 kV_19 dc_19 pm_19 cd_19 ct_19 : Value} {od_19 an_19 : Option Addr} {sl_19 : Array (Option Value)}
    {oc_20 kV_20 dc_20 pm_20 cd_20 ct_20 : Value} {od_20 an_20 : Option Addr} {sl_20 : Array (Option Value)}
    {oc_21 kV_21 dc_21 pm_21 cd_21 ct_21 : Value} {od_21 an_21 : Option Addr} {sl_21 : Array (Option Value)}
    {oc_22 kV_22 dc_22 pm_22 cd_22 ct_22 : Value} {od_22 an_22 : Option Addr} {sl_22 : Array (Option Value)}
    {oc_23 kV_23 dc_23 pm_23 cd_23 ct_23 : Value} {od_23 an_23 : Option Addr} {sl_23 : Array (Option Value)}
    {oc_24 kV_24 dc_24 pm_24 cd_24 ct_24 : Value} {od_24 an_24 : Option Addr} {sl_24 : Array (Option Value)}
    {oc_25 kV_25 dc_25 pm_25 cd_25 ct_25 : Value} {od_25 an_25 : Option Addr} {sl_25 : Array (Option Value)}
    {oc_26 kV_26 dc_26 pm_26 cd_26 ct_26 : Value} {od_26 an_26 : Option Addr} {sl_26 : Array (Option Value)}
    {oc_27 kV_27 dc_27 pm_27 cd_27 ct_27 : Value} {od_27 an_27 : Option Addr} {sl_27 : Array (Option Value)}
    {oc_28 kV_28 dc_28 pm_28 cd_28 ct_28 : Value} {od_28 an_28 : Option Addr} {sl_28 : Array (Option Value)}
    {oc_29 kV_29 dc_29 pm_29 cd_29 ct_29 : Value} {od_29 an_29 : Option Addr} {sl_29 : Array (Option Value)}
    {oc_30 kV_30 dc_30 pm_30 cd_30 ct_30 : Value} {od_30 an_30 : Option Addr} {sl_30 : Array (Option Value)}
    {oc_31 kV_31 dc_31 pm_31 cd_31 ct_31 : Value} {od_31 an_31 : Option Addr} {sl_31 : Array (Option Value)}
    {oc_32 kV_32 dc_32 pm_32 cd_32 ct_32 : Value} {od_32 an_32 : Option Addr} {sl_32 : Array (Option Value)}
    {oc_33 kV_33 dc_33 pm_33 cd_33 ct_33 : Value} {od_33 an_33 : Option Addr} {sl_33 : Array (Option Value)}
    {oc_34 kV_34 dc_34 pm_34 cd_34 ct_34 : Value} {od_34 an_34 : Option Addr} {sl_34 : Array (Option Value)}
    {oc_35 kV_35 dc_35 pm_35 cd_35 ct_35 : Value} {od_35 an_35 : Option Addr} {sl_35 : Array (Option Value)}
    {oc_36 kV_36 dc_36 pm_36 cd_36 ct_36 : Value} {od_36 an_36 : Option Addr} {sl_36 : Array (Option Value)}
    {oc_37 kV_37 dc_37 pm_37 cd_37 ct_37 : Value} {od_37 an_37 : Option Addr} {sl_37 : Array (Option Value)}
    {oc_38 kV_38 dc_38 pm_38 cd_38 ct_38 : Value} {od_38 an_38 : Option Addr} {sl_38 : Array (Option Value)}
    {oc_39 kV_39 dc_39 pm_39 cd_39 ct_39 : Value} {od_39 an_39 : Option Addr} {sl_39 : Array (Option Value)}
    {oc_40 kV_40 dc_40 pm_40 cd_40 ct_40 : Value} {od_40 an_40 : Option Addr} {sl_40 : Array (Option Value)}
    {oc_41 kV_41 dc_41 pm_41 cd_41 ct_41 : Value} {od_41 an_41 : Option Addr} {sl_41 : Array (Option Value)}
    {oc_42 kV_42 dc_42 pm_42 cd_42 ct_42 : Value} {od_42 an_42 : Option Addr} {sl_42 : Array (Option Value)}
    {oc_43 kV_43 dc_43 pm_43 cd_43 ct_43 : Value} {od_43 an_43 : Option Addr} {sl_43 : Array (Option Value)}
    {oc_44 kV_44 dc_44 pm_44 cd_44 ct_44 : Value} {od_44 an_44 : Option Addr} {sl_44 : Array (Option Value)}
    {oc_45 kV_45 dc_45 pm_45 cd_45 ct_45 : Value} {od_45 an_45 : Option Addr} {sl_45 : Array (Option Value)}
    {oc_46 kV_46 dc_46 pm_46 cd_46 ct_46 : Value} {od_46 an_46 : Option Addr} {sl_46 : Array (Option Value)}
    {oc_47 kV_47 dc_47 pm_47 cd_47 ct_47 : Value} {od_47 an_47 : Option Addr} {sl_47 : Array (Option Value)}
    {oc_48 kV_48 dc_48 pm_48 cd_48 ct_48 : Value} {od_48 an_48 : Option Addr} {sl_48 : Array (Option Value)}
    {oc_49 kV_49 dc_49 pm_49 cd_49 ct_49 : Value} {od_49 an_49 : Option Addr} {sl_49 : Array (Option Value)}
    {oc_50 kV_50 dc_50 pm_50 cd_50 ct_50 : Value} {od_50 an_50 : Option Addr} {sl_50 : Array (Option Value)}
    {oc_51 kV_51 dc_51 pm_51 cd_51 ct_51 : Value} {od_51 an_51 : Option Addr} {sl_51 : Array (Option Value)}
    {oc_52 kV_52 dc_52 pm_52 cd_52 ct_52 : Value} {od_52 an_52 : Option Addr} {sl_52 : Array (Option Value)}
    {oc_53 kV_53 dc_53 pm_53 cd_53 ct_53 : Value} {od_53 an_53 : Option Addr} {sl_53 : Array (Option Value)}
    {ocI_ kVI_ dcI_ pmI_ cdI_ ctI_ : Value} {odI_ anI_ : Option Addr} {slI_ : Array (Option Value)}
    {ocA_ kVA_ dcA_ pmA_ cdA_ ctA_ : Value} {odA_ anA_ : Option Addr} {slA_ : Array (Option Value)}
    {ocJ_ kVJ_ dcJ_ pmJ_ cdJ_ ctJ_ : Value} {odJ_ anJ_ : Option Addr} {slJ_ : Array (Option Value)}
    {ocD_ kVD_ dcD_ pmD_ cdD_ ctD_ : Value} {odD_ anD_ : Option Addr} {slD_ : Array (Option Value)}
    {ocX0_ kVX0_ dcX0_ pmX0_ cdX0_ ctX0_ : Value} {odX0_ anX0_ : Option Addr} {slX0_ : Array (Option Value)}
    {ocX1_ kVX1_ dcX1_ pmX1_ cdX1_ ctX1_ : Value} {odX1_ anX1_ : Option Addr} {slX1_ : Array (Option Value)}
    {ocX2_ kVX2_ dcX2_ pmX2_ cdX2_ ctX2_ : Value} {odX2_ anX2_ : Option Addr} {slX2_ : Array (Option Value)}
    {ocX3_ kVX3_ dcX3_ pmX3_ cdX3_ ctX3_ : Value} {odX3_ anX3_ : Option Addr} {slX3_ : Array (Option Value)}
    {ocX4_ kVX4_ dcX4_ pmX4_ cdX4_ ctX4_ : Value} {odX4_ anX4_ : Option Addr} {slX4_ : Array (Option Value)}
    {ocX5_ kVX5_ dcX5_ pmX5_ cdX5_ ctX5_ : Value} {odX5_ anX5_ : Option Addr} {slX5_ : Array (Option Value)}
    {ocX6_ kVX6_ dcX6_ pmX6_ cdX6_ ctX6_ : Value} {odX6_ anX6_ : Option Addr} {slX6_ : Array (Option Value)}
    {ocX7_ kVX7_ dcX7_ pmX7_ cdX7_ ctX7_ : Value} {odX7_ anX7_ : Option Addr} {slX7_ : Array (Option Value)}
    {ocX8_ kVX8_ dcX8_ pmX8_ cdX8_ ctX8_ : Value} {odX8_ anX8_ : Option Addr} {slX8_ : Array (Option Value)}
    {ocX9_ kVX9_ dcX9_ pmX9_ cdX9_ ctX9_ : Value} {odX9_ anX9_ : Option Addr} {slX9_ : Array (Option Value)}
    {ocY0_ kVY0_ dcY0_ pmY0_ cdY0_ ctY0_ : Value} {odY0_ anY0_ : Option Addr} {slY0_ : Array (Option Value)}
    {rest : List Value}
    {ocRd kVRd dcRd pmRd cdRd ctRd : Value} {odRd anRd : Option Addr} {slRd : Array (Option Value)}
    {v0 v1 v2 v3 v4 v5 v6 v7 v8 v9 v10 v11 v12 v13 v14 v15 v16 v17 v18 v19 v20 v21 : Tok}
    (X : K.In h) (G : h.Ns mainGlobals mg) (hfa : mg "law" = some (.ref fa))
    (nE : PySem.W.nsIn K mainGlobals "InvalidEntries" = some (some (.ref CE)))
    (nT : PySem.W.nsIn K mainGlobals "InvalidText" = some (some (.ref CT)))
    (nV : PySem.W.nsIn K mainGlobals "Vocabulary" = some (some (.ref C)))
    (nP : PySem.W.nsIn K mainGlobals "Program" = some (some (.ref CP)))
    (nS : PySem.W.nsIn K mainGlobals "Shapes" = some (some (.ref CS)))
    (nF : PySem.W.nsIn K mainGlobals "Effect" = some (some (.ref CF)))
    (nC : PySem.W.nsIn K mainGlobals "CORE_WORDS" = some (some (.ref tC)))
    (nCE : PySem.W.nsIn K mainGlobals "CORE_EFFECTS" = some (some (.ref dC)))
    (lC : K.lookup tC = some ⟨.type "tuple", odC, .seq #[.str "call" u1, .str "dip" u2, .str "curry" u3, .str "compose" u4, .str "choose" u5] nn, slC⟩)
    (nDg : PySem.W.nsIn K mainGlobals "DIGITS" = some (some (.ref dD)))
    (lDg : K.lookup dD = some ⟨.type "dict", none, .dict #[⟨PyData.keyHash w.params "0", .str "0" t0, .int 0 s0⟩, ⟨PyData.keyHash w.params "1", .str "1" t1, .int 1 s1⟩, ⟨PyData.keyHash w.params "2", .str "2" t2, .int 2 s2⟩, ⟨PyData.keyHash w.params "3", .str "3" t3, .int 3 s3⟩] nd, #[]⟩)
    (hCE : ∃ es n, KDict K w dC es n)
    (e_0 : PySem.W.nsIn K dC "call" = some (some (.ref f_22)))
    (e_1 : PySem.W.nsIn K dC "dip" = some (some (.ref f_23)))
    (e_2 : PySem.W.nsIn K dC "curry" = some (some (.ref f_24)))
    (e_3 : PySem.W.nsIn K dC "compose" = some (some (.ref f_25)))
    (e_4 : PySem.W.nsIn K dC "choose" = some (some (.ref f_26)))
    (xe : PySem.W.findIn K (.ref CE) "__init__" = some (some (.ref fI)))
    (lke : K.lookup fI = some ⟨oce, ode, .func (PySem.W.fnOf "__init__" "InvalidEntries.__init__" (iArgs "index" ⟨29, 17, 29, 21⟩ ⟨29, 23, 29, 28⟩) (iBody "index" ⟨30, 8, 30, 12⟩ ⟨30, 8, 30, 18⟩ ⟨30, 21, 30, 26⟩ ⟨30, 8, 30, 26⟩) (iScope "index") .none .none dce pme ane cde cte), sle⟩)
    (ye : PySem.W.codeIn K cde "InvalidEntries.__init__" = true)
    (xt : PySem.W.findIn K (.ref CT) "__init__" = some (some (.ref fT)))
    (lkt : K.lookup fT = some ⟨oct, odt, .func (PySem.W.fnOf "__init__" "InvalidText.__init__" (iArgs "value" ⟨17, 17, 17, 21⟩ ⟨17, 23, 17, 28⟩) (iBody "value" ⟨18, 8, 18, 12⟩ ⟨18, 8, 18, 18⟩ ⟨18, 21, 18, 26⟩ ⟨18, 8, 18, 26⟩) (iScope "value") .none .none dct pmt ant cdt ctt), slt⟩)
    (yt : PySem.W.codeIn K cdt "InvalidText.__init__" = true)
    (a_0 : PySem.W.nsIn K mainGlobals "is_plain_integer" = some (some (.ref f_0)))
    (l_0 : K.lookup f_0 = some ⟨oc_0, od_0, .func (PySem.W.fnOf "is_plain_integer" "is_plain_integer" (defArgs sPI) (defBody sPI) (defScope sPI) .none kV_0 dc_0 pm_0 an_0 cd_0 ct_0), sl_0⟩)
    (c_0 : PySem.W.codeIn K cd_0 "is_plain_integer" = true)
    (k_0 : PySem.W.keepIn K (.ref f_0) = true)
    (a_1 : PySem.W.nsIn K mainGlobals "is_name" = some (some (.ref f_1)))
    (l_1 : K.lookup f_1 = some ⟨oc_1, od_1, .func (PySem.W.fnOf "is_name" "is_name" (defArgs sNm) (defBody sNm) (defScope sNm) .none kV_1 dc_1 pm_1 an_1 cd_1 ct_1), sl_1⟩)
    (c_1 : PySem.W.codeIn K cd_1 "is_name" = true)
    (k_1 : PySem.W.keepIn K (.ref f_1) = true)
    (a_2 : PySem.W.nsIn K mainGlobals "is_free_name" = some (some (.ref f_2)))
    (l_2 : K.lookup f_2 = some ⟨oc_2, od_2, .func (PySem.W.fnOf "is_free_name" "is_free_name" (defArgs sFN) (defBody sFN) (defScope sFN) .none kV_2 dc_2 pm_2 an_2 cd_2 ct_2), sl_2⟩)
    (c_2 : PySem.W.codeIn K cd_2 "is_free_name" = true)
    (k_2 : PySem.W.keepIn K (.ref f_2) = true)
    (a_3 : PySem.W.nsIn K mainGlobals "is_arity" = some (some (.ref f_3)))
    (l_3 : K.lookup f_3 = some ⟨oc_3, od_3, .func (PySem.W.fnOf "is_arity" "is_arity" (defArgs sAr) (defBody sAr) (defScope sAr) .none kV_3 dc_3 pm_3 an_3 cd_3 ct_3), sl_3⟩)
    (c_3 : PySem.W.codeIn K cd_3 "is_arity" = true)
    (k_3 : PySem.W.keepIn K (.ref f_3) = true)
    (a_4 : PySem.W.nsIn K mainGlobals "is_entry" = some (some (.ref f_4)))
    (l_4 : K.lookup f_4 = some ⟨oc_4, od_4, .func (PySem.W.fnOf "is_entry" "is_entry" (defArgs sEn) (defBody sEn) (defScope sEn) .none kV_4 dc_4 pm_4 an_4 cd_4 ct_4), sl_4⟩)
    (c_4 : PySem.W.codeIn K cd_4 "is_entry" = true)
    (k_4 : PySem.W.keepIn K (.ref f_4) = true)
    (a_5 : PySem.W.nsIn K mainGlobals "check_entries" = some (some (.ref f_5)))
    (l_5 : K.lookup f_5 = some ⟨oc_5, od_5, .func (PySem.W.fnOf "check_entries" "check_entries" (defArgs sChk) (defBody sChk) (defScope sChk) .none kV_5 dc_5 pm_5 an_5 cd_5 ct_5), sl_5⟩)
    (c_5 : PySem.W.codeIn K cd_5 "check_entries" = true)
    (k_5 : PySem.W.keepIn K (.ref f_5) = true)
    (a_6 : PySem.W.nsIn K mainGlobals "entry_text" = some (some (.ref f_6)))
    (l_6 : K.lookup f_6 = some ⟨oc_6, od_6, .func (PySem.W.fnOf "entry_text" "entry_text" (defArgs sTx) (defBody sTx) (defScope sTx) .none kV_6 dc_6 pm_6 an_6 cd_6 ct_6), sl_6⟩)
    (c_6 : PySem.W.codeIn K cd_6 "entry_text" = true)
    (k_6 : PySem.W.keepIn K (.ref f_6) = true)
    (a_7 : PySem.W.nsIn K mainGlobals "split_entry" = some (some (.ref f_7)))
    (l_7 : K.lookup f_7 = some ⟨oc_7, od_7, .func (PySem.W.fnOf "split_entry" "split_entry" (defArgs sSE) (defBody sSE) (defScope sSE) .none kV_7 dc_7 pm_7 an_7 cd_7 ct_7), sl_7⟩)
    (c_7 : PySem.W.codeIn K cd_7 "split_entry" = true)
    (k_7 : PySem.W.keepIn K (.ref f_7) = true)
    (a_8 : PySem.W.nsIn K mainGlobals "split_entries" = some (some (.ref f_8)))
    (l_8 : K.lookup f_8 = some ⟨oc_8, od_8, .func (PySem.W.fnOf "split_entries" "split_entries" (defArgs sSS) (defBody sSS) (defScope sSS) .none kV_8 dc_8 pm_8 an_8 cd_8 ct_8), sl_8⟩)
    (c_8 : PySem.W.codeIn K cd_8 "split_entries" = true)
    (k_8 : PySem.W.keepIn K (.ref f_8) = true)
    (a_9 : PySem.W.nsIn K mainGlobals "is_literal" = some (some (.ref f_9)))
    (l_9 : K.lookup f_9 = some ⟨oc_9, od_9, .func (PySem.W.fnOf "is_literal" "is_literal" (defArgs sLi) (defBody sLi) (defScope sLi) .none kV_9 dc_9 pm_9 an_9 cd_9 ct_9), sl_9⟩)
    (c_9 : PySem.W.codeIn K cd_9 "is_literal" = true)
    (k_9 : PySem.W.keepIn K (.ref f_9) = true)
    (a_10 : PySem.W.nsIn K mainGlobals "split_shuffle" = some (some (.ref f_10)))
    (l_10 : K.lookup f_10 = some ⟨oc_10, od_10, .func (PySem.W.fnOf "split_shuffle" "split_shuffle" (defArgs sSh) (defBody sSh) (defScope sSh) .none kV_10 dc_10 pm_10 an_10 cd_10 ct_10), sl_10⟩)
    (c_10 : PySem.W.codeIn K cd_10 "split_shuffle" = true)
    (k_10 : PySem.W.keepIn K (.ref f_10) = true)
    (a_11 : PySem.W.nsIn K mainGlobals "read_word" = some (some (.ref f_11)))
    (l_11 : K.lookup f_11 = some ⟨oc_11, od_11, .func (PySem.W.fnOf "read_word" "read_word" (defArgs sWd) (defBody sWd) (defScope sWd) .none kV_11 dc_11 pm_11 an_11 cd_11 ct_11), sl_11⟩)
    (c_11 : PySem.W.codeIn K cd_11 "read_word" = true)
    (k_11 : PySem.W.keepIn K (.ref f_11) = true)
    (a_12 : PySem.W.nsIn K mainGlobals "row_text" = some (some (.ref f_12)))
    (l_12 : K.lookup f_12 = some ⟨oc_12, od_12, .func (PySem.W.fnOf "row_text" "row_text" (defArgs sRw) (defBody sRw) (defScope sRw) .none kV_12 dc_12 pm_12 an_12 cd_12 ct_12), sl_12⟩)
    (c_12 : PySem.W.codeIn K cd_12 "row_text" = true)
    (k_12 : PySem.W.keepIn K (.ref f_12) = true)
    (a_13 : PySem.W.nsIn K mainGlobals "quotation_text" = some (some (.ref f_13)))
    (l_13 : K.lookup f_13 = some ⟨oc_13, od_13, .func (PySem.W.fnOf "quotation_text" "quotation_text" (defArgs sQx) (defBody sQx) (defScope sQx) .none kV_13 dc_13 pm_13 an_13 cd_13 ct_13), sl_13⟩)
    (c_13 : PySem.W.codeIn K cd_13 "quotation_text" = true)
    (k_13 : PySem.W.keepIn K (.ref f_13) = true)
    (a_14 : PySem.W.nsIn K mainGlobals "quote" = some (some (.ref f_14)))
    (l_14 : K.lookup f_14 = some ⟨oc_14, od_14, .func (PySem.W.fnOf "quote" "quote" (defArgs sQu) (defBody sQu) (defScope sQu) .none kV_14 dc_14 pm_14 an_14 cd_14 ct_14), sl_14⟩)
    (c_14 : PySem.W.codeIn K cd_14 "quote" = true)
    (k_14 : PySem.W.keepIn K (.ref f_14) = true)
    (a_15 : PySem.W.nsIn K mainGlobals "split_tokens" = some (some (.ref f_15)))
    (l_15 : K.lookup f_15 = some ⟨oc_15, od_15, .func (PySem.W.fnOf "split_tokens" "split_tokens" (defArgs sSp) (defBody sSp) (defScope sSp) .none kV_15 dc_15 pm_15 an_15 cd_15 ct_15), sl_15⟩)
    (c_15 : PySem.W.codeIn K cd_15 "split_tokens" = true)
    (k_15 : PySem.W.keepIn K (.ref f_15) = true)
    (a_16 : PySem.W.nsIn K mainGlobals "read_row" = some (some (.ref f_16)))
    (l_16 : K.lookup f_16 = some ⟨oc_16, od_16, .func (PySem.W.fnOf "read_row" "read_row" (defArgs sRR) (defBody sRR) (defScope sRR) .none kV_16 dc_16 pm_16 an_16 cd_16 ct_16), sl_16⟩)
    (c_16 : PySem.W.codeIn K cd_16 "read_row" = true)
    (k_16 : PySem.W.keepIn K (.ref f_16) = true)
    (a_17 : PySem.W.nsIn K mainGlobals "measure_size" = some (some (.ref f_17)))
    (l_17 : K.lookup f_17 = some ⟨oc_17, od_17, .func (PySem.W.fnOf "measure_size" "measure_size" (defArgs sMs) (defBody sMs) (defScope sMs) .none kV_17 dc_17 pm_17 an_17 cd_17 ct_17), sl_17⟩)
    (c_17 : PySem.W.codeIn K cd_17 "measure_size" = true)
    (k_17 : PySem.W.keepIn K (.ref f_17) = true)
    (a_18 : PySem.W.nsIn K mainGlobals "measure_depth" = some (some (.ref f_18)))
    (l_18 : K.lookup f_18 = some ⟨oc_18, od_18, .func (PySem.W.fnOf "measure_depth" "measure_depth" (defArgs sMd) (defBody sMd) (defScope sMd) .none kV_18 dc_18 pm_18 an_18 cd_18 ct_18), sl_18⟩)
    (c_18 : PySem.W.codeIn K cd_18 "measure_depth" = true)
    (k_18 : PySem.W.keepIn K (.ref f_18) = true)
    (a_19 : PySem.W.nsIn K mainGlobals "stack_variables" = some (some (.ref f_19)))
    (l_19 : K.lookup f_19 = some ⟨oc_19, od_19, .func (PySem.W.fnOf "stack_variables" "stack_variables" (defArgs sSv) (defBody sSv) (defScope sSv) .none kV_19 dc_19 pm_19 an_19 cd_19 ct_19), sl_19⟩)
    (c_19 : PySem.W.codeIn K cd_19 "stack_variables" = true)
    (k_19 : PySem.W.keepIn K (.ref f_19) = true)
    (a_20 : PySem.W.nsIn K mainGlobals "value_variables" = some (some (.ref f_20)))
    (l_20 : K.lookup f_20 = some ⟨oc_20, od_20, .func (PySem.W.fnOf "value_variables" "value_variables" (defArgs sVv) (defBody sVv) (defScope sVv) .none kV_20 dc_20 pm_20 an_20 cd_20 ct_20), sl_20⟩)
    (c_20 : PySem.W.codeIn K cd_20 "value_variables" = true)
    (k_20 : PySem.W.keepIn K (.ref f_20) = true)
    (a_21 : PySem.W.nsIn K mainGlobals "plains" = some (some (.ref f_21)))
    (l_21 : K.lookup f_21 = some ⟨oc_21, od_21, .func (PySem.W.fnOf "plains" "plains" (defArgs sPl) (defBody sPl) (defScope sPl) .none kV_21 dc_21 pm_21 an_21 cd_21 ct_21), sl_21⟩)
    (c_21 : PySem.W.codeIn K cd_21 "plains" = true)
    (k_21 : PySem.W.keepIn K (.ref f_21) = true)
    (a_22 : PySem.W.nsIn K mainGlobals "effect_of_call" = some (some (.ref f_22)))
    (l_22 : K.lookup f_22 = some ⟨oc_22, od_22, .func (PySem.W.fnOf "effect_of_call" "effect_of_call" (defArgs sEca) (defBody sEca) (defScope sEca) .none kV_22 dc_22 pm_22 an_22 cd_22 ct_22), sl_22⟩)
    (c_22 : PySem.W.codeIn K cd_22 "effect_of_call" = true)
    (k_22 : PySem.W.keepIn K (.ref f_22) = true)
    (a_23 : PySem.W.nsIn K mainGlobals "effect_of_dip" = some (some (.ref f_23)))
    (l_23 : K.lookup f_23 = some ⟨oc_23, od_23, .func (PySem.W.fnOf "effect_of_dip" "effect_of_dip" (defArgs sEdi) (defBody sEdi) (defScope sEdi) .none kV_23 dc_23 pm_23 an_23 cd_23 ct_23), sl_23⟩)
    (c_23 : PySem.W.codeIn K cd_23 "effect_of_dip" = true)
    (k_23 : PySem.W.keepIn K (.ref f_23) = true)
    (a_24 : PySem.W.nsIn K mainGlobals "effect_of_curry" = some (some (.ref f_24)))
    (l_24 : K.lookup f_24 = some ⟨oc_24, od_24, .func (PySem.W.fnOf "effect_of_curry" "effect_of_curry" (defArgs sEcu) (defBody sEcu) (defScope sEcu) .none kV_24 dc_24 pm_24 an_24 cd_24 ct_24), sl_24⟩)
    (c_24 : PySem.W.codeIn K cd_24 "effect_of_curry" = true)
    (k_24 : PySem.W.keepIn K (.ref f_24) = true)
    (a_25 : PySem.W.nsIn K mainGlobals "effect_of_compose" = some (some (.ref f_25)))
    (l_25 : K.lookup f_25 = some ⟨oc_25, od_25, .func (PySem.W.fnOf "effect_of_compose" "effect_of_compose" (defArgs sEco) (defBody sEco) (defScope sEco) .none kV_25 dc_25 pm_25 an_25 cd_25 ct_25), sl_25⟩)
    (c_25 : PySem.W.codeIn K cd_25 "effect_of_compose" = true)
    (k_25 : PySem.W.keepIn K (.ref f_25) = true)
    (a_26 : PySem.W.nsIn K mainGlobals "effect_of_choose" = some (some (.ref f_26)))
    (l_26 : K.lookup f_26 = some ⟨oc_26, od_26, .func (PySem.W.fnOf "effect_of_choose" "effect_of_choose" (defArgs sEch) (defBody sEch) (defScope sEch) .none kV_26 dc_26 pm_26 an_26 cd_26 ct_26), sl_26⟩)
    (c_26 : PySem.W.codeIn K cd_26 "effect_of_choose" = true)
    (k_26 : PySem.W.keepIn K (.ref f_26) = true)
    (a_27 : PySem.W.nsIn K mainGlobals "effect_of_word" = some (some (.ref f_27)))
    (l_27 : K.lookup f_27 = some ⟨oc_27, od_27, .func (PySem.W.fnOf "effect_of_word" "effect_of_word" (defArgs sEW) (defBody sEW) (defScope sEW) .none kV_27 dc_27 pm_27 an_27 cd_27 ct_27), sl_27⟩)
    (c_27 : PySem.W.codeIn K cd_27 "effect_of_word" = true)
    (k_27 : PySem.W.keepIn K (.ref f_27) = true)
    (a_28 : PySem.W.nsIn K mainGlobals "effect_of_row" = some (some (.ref f_28)))
    (l_28 : K.lookup f_28 = some ⟨oc_28, od_28, .func (PySem.W.fnOf "effect_of_row" "effect_of_row" (defArgs sER) (defBody sER) (defScope sER) .none kV_28 dc_28 pm_28 an_28 cd_28 ct_28), sl_28⟩)
    (c_28 : PySem.W.codeIn K cd_28 "effect_of_row" = true)
    (k_28 : PySem.W.keepIn K (.ref f_28) = true)
    (a_29 : PySem.W.nsIn K mainGlobals "principal_effect" = some (some (.ref f_29)))
    (l_29 : K.lookup f_29 = some ⟨oc_29, od_29, .func (PySem.W.fnOf "principal_effect" "principal_effect" (defArgs sPE) (defBody sPE) (defScope sPE) .none kV_29 dc_29 pm_29 an_29 cd_29 ct_29), sl_29⟩)
    (c_29 : PySem.W.codeIn K cd_29 "principal_effect" = true)
    (k_29 : PySem.W.keepIn K (.ref f_29) = true)
    (a_30 : PySem.W.nsIn K mainGlobals "check_vocabulary" = some (some (.ref f_30)))
    (l_30 : K.lookup f_30 = some ⟨oc_30, od_30, .func (PySem.W.fnOf "check_vocabulary" "check_vocabulary" (defArgs sCv) (defBody sCv) (defScope sCv) .none kV_30 dc_30 pm_30 an_30 cd_30 ct_30), sl_30⟩)
    (c_30 : PySem.W.codeIn K cd_30 "check_vocabulary" = true)
    (k_30 : PySem.W.keepIn K (.ref f_30) = true)
    (a_31 : PySem.W.nsIn K mainGlobals "check_program" = some (some (.ref f_31)))
    (l_31 : K.lookup f_31 = some ⟨oc_31, od_31, .func (PySem.W.fnOf "check_program" "check_program" (defArgs sCp) (defBody sCp) (defScope sCp) .none kV_31 dc_31 pm_31 an_31 cd_31 ct_31), sl_31⟩)
    (c_31 : PySem.W.codeIn K cd_31 "check_program" = true)
    (k_31 : PySem.W.keepIn K (.ref f_31) = true)
    (a_32 : PySem.W.nsIn K mainGlobals "check_limits" = some (some (.ref f_32)))
    (l_32 : K.lookup f_32 = some ⟨oc_32, od_32, .func (PySem.W.fnOf "check_limits" "check_limits" (defArgs sCl) (defBody sCl) (defScope sCl) .none kV_32 dc_32 pm_32 an_32 cd_32 ct_32), sl_32⟩)
    (c_32 : PySem.W.codeIn K cd_32 "check_limits" = true)
    (k_32 : PySem.W.keepIn K (.ref f_32) = true)
    (a_33 : PySem.W.nsIn K mainGlobals "name_variable" = some (some (.ref f_33)))
    (l_33 : K.lookup f_33 = some ⟨oc_33, od_33, .func (PySem.W.fnOf "name_variable" "name_variable" (defArgs sNV) (defBody sNV) (defScope sNV) .none kV_33 dc_33 pm_33 an_33 cd_33 ct_33), sl_33⟩)
    (c_33 : PySem.W.codeIn K cd_33 "name_variable" = true)
    (k_33 : PySem.W.keepIn K (.ref f_33) = true)
    (a_34 : PySem.W.nsIn K mainGlobals "pieces_of_shape" = some (some (.ref f_34)))
    (l_34 : K.lookup f_34 = some ⟨oc_34, od_34, .func (PySem.W.fnOf "pieces_of_shape" "pieces_of_shape" (defArgs sPS) (defBody sPS) (defScope sPS) .none kV_34 dc_34 pm_34 an_34 cd_34 ct_34), sl_34⟩)
    (c_34 : PySem.W.codeIn K cd_34 "pieces_of_shape" = true)
    (k_34 : PySem.W.keepIn K (.ref f_34) = true)
    (a_35 : PySem.W.nsIn K mainGlobals "write_effect" = some (some (.ref f_35)))
    (l_35 : K.lookup f_35 = some ⟨oc_35, od_35, .func (PySem.W.fnOf "write_effect" "write_effect" (defArgs sWE) (defBody sWE) (defScope sWE) .none kV_35 dc_35 pm_35 an_35 cd_35 ct_35), sl_35⟩)
    (c_35 : PySem.W.codeIn K cd_35 "write_effect" = true)
    (k_35 : PySem.W.keepIn K (.ref f_35) = true)
    (a_36 : PySem.W.nsIn K mainGlobals "effect" = some (some (.ref f_36)))
    (l_36 : K.lookup f_36 = some ⟨oc_36, od_36, .func (PySem.W.fnOf "effect" "effect" (defArgs sEf) (defBody sEf) (defScope sEf) .none kV_36 dc_36 pm_36 an_36 cd_36 ct_36), sl_36⟩)
    (c_36 : PySem.W.codeIn K cd_36 "effect" = true)
    (k_36 : PySem.W.keepIn K (.ref f_36) = true)
    (a_37 : PySem.W.nsIn K mainGlobals "reach" = some (some (.ref f_37)))
    (l_37 : K.lookup f_37 = some ⟨oc_37, od_37, .func (PySem.W.fnOf "reach" "reach" (defArgs sRe) (defBody sRe) (defScope sRe) .none kV_37 dc_37 pm_37 an_37 cd_37 ct_37), sl_37⟩)
    (c_37 : PySem.W.codeIn K cd_37 "reach" = true)
    (k_37 : PySem.W.keepIn K (.ref f_37) = true)
    (a_38 : PySem.W.nsIn K mainGlobals "is_first_order_effect" = some (some (.ref f_38)))
    (l_38 : K.lookup f_38 = some ⟨oc_38, od_38, .func (PySem.W.fnOf "is_first_order_effect" "is_first_order_effect" (defArgs sFo) (defBody sFo) (defScope sFo) .none kV_38 dc_38 pm_38 an_38 cd_38 ct_38), sl_38⟩)
    (c_38 : PySem.W.codeIn K cd_38 "is_first_order_effect" = true)
    (k_38 : PySem.W.keepIn K (.ref f_38) = true)
    (a_39 : PySem.W.nsIn K mainGlobals "is_first_order" = some (some (.ref f_39)))
    (l_39 : K.lookup f_39 = some ⟨oc_39, od_39, .func (PySem.W.fnOf "is_first_order" "is_first_order" (defArgs sIf) (defBody sIf) (defScope sIf) .none kV_39 dc_39 pm_39 an_39 cd_39 ct_39), sl_39⟩)
    (c_39 : PySem.W.codeIn K cd_39 "is_first_order" = true)
    (k_39 : PySem.W.keepIn K (.ref f_39) = true)
    (a_40 : PySem.W.nsIn K mainGlobals "_law_purse" = some (some (.ref f_40)))
    (l_40 : K.lookup f_40 = some ⟨oc_40, od_40, .func (PySem.W.fnOf "_law_purse" "_law_purse" (defArgs sPur) (defBody sPur) (defScope sPur) .none kV_40 dc_40 pm_40 an_40 cd_40 ct_40), sl_40⟩)
    (c_40 : PySem.W.codeIn K cd_40 "_law_purse" = true)
    (k_40 : PySem.W.keepIn K (.ref f_40) = true)
    (a_41 : PySem.W.nsIn K mainGlobals "_law_draw" = some (some (.ref f_41)))
    (l_41 : K.lookup f_41 = some ⟨oc_41, od_41, .func (PySem.W.fnOf "_law_draw" "_law_draw" (defArgs sDrw) (defBody sDrw) (defScope sDrw) .none kV_41 dc_41 pm_41 an_41 cd_41 ct_41), sl_41⟩)
    (c_41 : PySem.W.codeIn K cd_41 "_law_draw" = true)
    (k_41 : PySem.W.keepIn K (.ref f_41) = true)
    (a_42 : PySem.W.nsIn K mainGlobals "_law_letters" = some (some (.ref f_42)))
    (l_42 : K.lookup f_42 = some ⟨oc_42, od_42, .func (PySem.W.fnOf "_law_letters" "_law_letters" (defArgs sLe) (defBody sLe) (defScope sLe) .none kV_42 dc_42 pm_42 an_42 cd_42 ct_42), sl_42⟩)
    (c_42 : PySem.W.codeIn K cd_42 "_law_letters" = true)
    (k_42 : PySem.W.keepIn K (.ref f_42) = true)
    (a_43 : PySem.W.nsIn K mainGlobals "_law_tags" = some (some (.ref f_43)))
    (l_43 : K.lookup f_43 = some ⟨oc_43, od_43, .func (PySem.W.fnOf "_law_tags" "_law_tags" (defArgs sTg) (defBody sTg) (defScope sTg) .none kV_43 dc_43 pm_43 an_43 cd_43 ct_43), sl_43⟩)
    (c_43 : PySem.W.codeIn K cd_43 "_law_tags" = true)
    (k_43 : PySem.W.keepIn K (.ref f_43) = true)
    (a_44 : PySem.W.nsIn K mainGlobals "_law_kinds" = some (some (.ref f_44)))
    (l_44 : K.lookup f_44 = some ⟨oc_44, od_44, .func (PySem.W.fnOf "_law_kinds" "_law_kinds" (defArgs sKi) (defBody sKi) (defScope sKi) .none kV_44 dc_44 pm_44 an_44 cd_44 ct_44), sl_44⟩)
    (c_44 : PySem.W.codeIn K cd_44 "_law_kinds" = true)
    (k_44 : PySem.W.keepIn K (.ref f_44) = true)
    (a_45 : PySem.W.nsIn K mainGlobals "_law_vocabulary" = some (some (.ref f_45)))
    (l_45 : K.lookup f_45 = some ⟨oc_45, od_45, .func (PySem.W.fnOf "_law_vocabulary" "_law_vocabulary" (defArgs sVk) (defBody sVk) (defScope sVk) .none kV_45 dc_45 pm_45 an_45 cd_45 ct_45), sl_45⟩)
    (c_45 : PySem.W.codeIn K cd_45 "_law_vocabulary" = true)
    (k_45 : PySem.W.keepIn K (.ref f_45) = true)
    (a_46 : PySem.W.nsIn K mainGlobals "_law_line" = some (some (.ref f_46)))
    (l_46 : K.lookup f_46 = some ⟨oc_46, od_46, .func (PySem.W.fnOf "_law_line" "_law_line" (defArgs sLn) (defBody sLn) (defScope sLn) .none kV_46 dc_46 pm_46 an_46 cd_46 ct_46), sl_46⟩)
    (c_46 : PySem.W.codeIn K cd_46 "_law_line" = true)
    (k_46 : PySem.W.keepIn K (.ref f_46) = true)
    (a_47 : PySem.W.nsIn K mainGlobals "_law_shuffle" = some (some (.ref f_47)))
    (l_47 : K.lookup f_47 = some ⟨oc_47, od_47, .func (PySem.W.fnOf "_law_shuffle" "_law_shuffle" (defArgs sSl) (defBody sSl) (defScope sSl) .none kV_47 dc_47 pm_47 an_47 cd_47 ct_47), sl_47⟩)
    (c_47 : PySem.W.codeIn K cd_47 "_law_shuffle" = true)
    (k_47 : PySem.W.keepIn K (.ref f_47) = true)
    (a_48 : PySem.W.nsIn K mainGlobals "_law_number" = some (some (.ref f_48)))
    (l_48 : K.lookup f_48 = some ⟨oc_48, od_48, .func (PySem.W.fnOf "_law_number" "_law_number" (defArgs sNu) (defBody sNu) (defScope sNu) .none kV_48 dc_48 pm_48 an_48 cd_48 ct_48), sl_48⟩)
    (c_48 : PySem.W.codeIn K cd_48 "_law_number" = true)
    (k_48 : PySem.W.keepIn K (.ref f_48) = true)
    (a_49 : PySem.W.nsIn K mainGlobals "_law_shuffled" = some (some (.ref f_49)))
    (l_49 : K.lookup f_49 = some ⟨oc_49, od_49, .func (PySem.W.fnOf "_law_shuffled" "_law_shuffled" (defArgs sSd) (defBody sSd) (defScope sSd) .none kV_49 dc_49 pm_49 an_49 cd_49 ct_49), sl_49⟩)
    (c_49 : PySem.W.codeIn K cd_49 "_law_shuffled" = true)
    (k_49 : PySem.W.keepIn K (.ref f_49) = true)
    (a_50 : PySem.W.nsIn K mainGlobals "_law_one_right" = some (some (.ref f_50)))
    (l_50 : K.lookup f_50 = some ⟨oc_50, od_50, .func (PySem.W.fnOf "_law_one_right" "_law_one_right" (defArgs sOR) (defBody sOR) (defScope sOR) .none kV_50 dc_50 pm_50 an_50 cd_50 ct_50), sl_50⟩)
    (c_50 : PySem.W.codeIn K cd_50 "_law_one_right" = true)
    (k_50 : PySem.W.keepIn K (.ref f_50) = true)
    (a_51 : PySem.W.nsIn K mainGlobals "_law_right" = some (some (.ref f_51)))
    (l_51 : K.lookup f_51 = some ⟨oc_51, od_51, .func (PySem.W.fnOf "_law_right" "_law_right" (defArgs sRt) (defBody sRt) (defScope sRt) .none kV_51 dc_51 pm_51 an_51 cd_51 ct_51), sl_51⟩)
    (c_51 : PySem.W.codeIn K cd_51 "_law_right" = true)
    (k_51 : PySem.W.keepIn K (.ref f_51) = true)
    (a_52 : PySem.W.nsIn K mainGlobals "_law_by_hand" = some (some (.ref f_52)))
    (l_52 : K.lookup f_52 = some ⟨oc_52, od_52, .func (PySem.W.fnOf "_law_by_hand" "_law_by_hand" (defArgs sBH) (defBody sBH) (defScope sBH) .none kV_52 dc_52 pm_52 an_52 cd_52 ct_52), sl_52⟩)
    (c_52 : PySem.W.codeIn K cd_52 "_law_by_hand" = true)
    (k_52 : PySem.W.keepIn K (.ref f_52) = true)
    (a_53 : PySem.W.nsIn K mainGlobals "law" = some (some (.ref f_53)))
    (l_53 : K.lookup f_53 = some ⟨oc_53, od_53, .func (PySem.W.fnOf "law" "law" (defArgs sLaw) (defBody sLaw) (defScope sLaw) .none kV_53 dc_53 pm_53 an_53 cd_53 ct_53), sl_53⟩)
    (c_53 : PySem.W.codeIn K cd_53 "law" = true)
    (k_53 : PySem.W.keepIn K (.ref f_53) = true)
    (mI : PySem.W.findIn K (.ref C) "__init__" = some (some (.ref fIn)))
    (lI_ : K.lookup fIn = some ⟨ocI_, odI_, .func (PySem.W.fnOf "__init__" "Vocabulary.__init__" (defArgs sIni) (defBody sIni) (defScope sIni) .none kVI_ dcI_ pmI_ anI_ cdI_ ctI_), slI_⟩)
    (cI_ : PySem.W.codeIn K cdI_ "Vocabulary.__init__" = true)
    (kI_ : PySem.W.keepIn K (.ref fIn) = true)
    (mA : PySem.W.findIn K (.ref C) "arity" = some (some (.ref fA)))
    (lA_ : K.lookup fA = some ⟨ocA_, odA_, .func (PySem.W.fnOf "arity" "Vocabulary.arity" (defArgs sAri) (defBody sAri) (defScope sAri) .none kVA_ dcA_ pmA_ anA_ cdA_ ctA_), slA_⟩)
    (cA_ : PySem.W.codeIn K cdA_ "Vocabulary.arity" = true)
    (kA_ : PySem.W.keepIn K (.ref fA) = true)
    (mJ : PySem.W.findIn K (.ref CP) "__init__" = some (some (.ref fPI)))
    (lJ_ : K.lookup fPI = some ⟨ocJ_, odJ_, .func (PySem.W.fnOf "__init__" "Program.__init__" (defArgs sPI_) (defBody sPI_) (defScope sPI_) .none kVJ_ dcJ_ pmJ_ anJ_ cdJ_ ctJ_), slJ_⟩)
    (cJ_ : PySem.W.codeIn K cdJ_ "Program.__init__" = true)
    (kJ_ : PySem.W.keepIn K (.ref fPI) = true)
    (mD : PySem.W.findIn K (.ref CP) "quoted" = some (some (.ref fQd)))
    (lD_ : K.lookup fQd = some ⟨ocD_, odD_, .func (PySem.W.fnOf "quoted" "Program.quoted" (defArgs sQd) (defBody sQd) (defScope sQd) .none kVD_ dcD_ pmD_ anD_ cdD_ ctD_), slD_⟩)
    (cD_ : PySem.W.codeIn K cdD_ "Program.quoted" = true)
    (kD_ : PySem.W.keepIn K (.ref fQd) = true)
    (mX0 : PySem.W.findIn K (.ref CS) "__init__" = some (some (.ref fSI)))
    (lX0_ : K.lookup fSI = some ⟨ocX0_, odX0_, .func (PySem.W.fnOf "__init__" "Shapes.__init__" (defArgs sSI) (defBody sSI) (defScope sSI) .none kVX0_ dcX0_ pmX0_ anX0_ cdX0_ ctX0_), slX0_⟩)
    (cX0_ : PySem.W.codeIn K cdX0_ "Shapes.__init__" = true)
    (kX0_ : PySem.W.keepIn K (.ref fSI) = true)
    (mX1 : PySem.W.findIn K (.ref CS) "make" = some (some (.ref fMk)))
    (lX1_ : K.lookup fMk = some ⟨ocX1_, odX1_, .func (PySem.W.fnOf "make" "Shapes.make" (defArgs sMk) (defBody sMk) (defScope sMk) .none kVX1_ dcX1_ pmX1_ anX1_ cdX1_ ctX1_), slX1_⟩)
    (cX1_ : PySem.W.codeIn K cdX1_ "Shapes.make" = true)
    (kX1_ : PySem.W.keepIn K (.ref fMk) = true)
    (mX2 : PySem.W.findIn K (.ref CS) "pile" = some (some (.ref fPi)))
    (lX2_ : K.lookup fPi = some ⟨ocX2_, odX2_, .func (PySem.W.fnOf "pile" "Shapes.pile" (defArgs sPil) (defBody sPil) (defScope sPil) .none kVX2_ dcX2_ pmX2_ anX2_ cdX2_ ctX2_), slX2_⟩)
    (cX2_ : PySem.W.codeIn K cdX2_ "Shapes.pile" = true)
    (kX2_ : PySem.W.keepIn K (.ref fPi) = true)
    (mX3 : PySem.W.findIn K (.ref CS) "settle" = some (some (.ref fSt)))
    (lX3_ : K.lookup fSt = some ⟨ocX3_, odX3_, .func (PySem.W.fnOf "settle" "Shapes.settle" (defArgs sSet) (defBody sSet) (defScope sSet) .none kVX3_ dcX3_ pmX3_ anX3_ cdX3_ ctX3_), slX3_⟩)
    (cX3_ : PySem.W.codeIn K cdX3_ "Shapes.settle" = true)
    (kX3_ : PySem.W.keepIn K (.ref fSt) = true)
    (mX4 : PySem.W.findIn K (.ref CS) "kind_of" = some (some (.ref fKo)))
    (lX4_ : K.lookup fKo = some ⟨ocX4_, odX4_, .func (PySem.W.fnOf "kind_of" "Shapes.kind_of" (defArgs sKin) (defBody sKin) (defScope sKin) .none kVX4_ dcX4_ pmX4_ anX4_ cdX4_ ctX4_), slX4_⟩)
    (cX4_ : PySem.W.codeIn K cdX4_ "Shapes.kind_of" = true)
    (kX4_ : PySem.W.keepIn K (.ref fKo) = true)
    (mX5 : PySem.W.findIn K (.ref CS) "is_variable" = some (some (.ref fVr)))
    (lX5_ : K.lookup fVr = some ⟨ocX5_, odX5_, .func (PySem.W.fnOf "is_variable" "Shapes.is_variable" (defArgs sVar) (defBody sVar) (defScope sVar) .none kVX5_ dcX5_ pmX5_ anX5_ cdX5_ ctX5_), slX5_⟩)
    (cX5_ : PySem.W.codeIn K cdX5_ "Shapes.is_variable" = true)
    (kX5_ : PySem.W.keepIn K (.ref fVr) = true)
    (mX6 : PySem.W.findIn K (.ref CS) "parts_of" = some (some (.ref fPr)))
    (lX6_ : K.lookup fPr = some ⟨ocX6_, odX6_, .func (PySem.W.fnOf "parts_of" "Shapes.parts_of" (defArgs sPar) (defBody sPar) (defScope sPar) .none kVX6_ dcX6_ pmX6_ anX6_ cdX6_ ctX6_), slX6_⟩)
    (cX6_ : PySem.W.codeIn K cdX6_ "Shapes.parts_of" = true)
    (kX6_ : PySem.W.keepIn K (.ref fPr) = true)
    (mX7 : PySem.W.findIn K (.ref CS) "spread" = some (some (.ref fSp)))
    (lX7_ : K.lookup fSp = some ⟨ocX7_, odX7_, .func (PySem.W.fnOf "spread" "Shapes.spread" (defArgs sSpr) (defBody sSpr) (defScope sSpr) .none kVX7_ dcX7_ pmX7_ anX7_ cdX7_ ctX7_), slX7_⟩)
    (cX7_ : PySem.W.codeIn K cdX7_ "Shapes.spread" = true)
    (kX7_ : PySem.W.keepIn K (.ref fSp) = true)
    (mX8 : PySem.W.findIn K (.ref CS) "unify" = some (some (.ref fUn)))
    (lX8_ : K.lookup fUn = some ⟨ocX8_, odX8_, .func (PySem.W.fnOf "unify" "Shapes.unify" (defArgs sUni) (defBody sUni) (defScope sUni) .none kVX8_ dcX8_ pmX8_ anX8_ cdX8_ ctX8_), slX8_⟩)
    (cX8_ : PySem.W.codeIn K cdX8_ "Shapes.unify" = true)
    (kX8_ : PySem.W.keepIn K (.ref fUn) = true)
    (mX9 : PySem.W.findIn K (.ref CS) "is_finite" = some (some (.ref fFi)))
    (lX9_ : K.lookup fFi = some ⟨ocX9_, odX9_, .func (PySem.W.fnOf "is_finite" "Shapes.is_finite" (defArgs sFin) (defBody sFin) (defScope sFin) .none kVX9_ dcX9_ pmX9_ anX9_ cdX9_ ctX9_), slX9_⟩)
    (cX9_ : PySem.W.codeIn K cdX9_ "Shapes.is_finite" = true)
    (kX9_ : PySem.W.keepIn K (.ref fFi) = true)
    (mY0 : PySem.W.findIn K (.ref CF) "__init__" = some (some (.ref fEI)))
    (lY0_ : K.lookup fEI = some ⟨ocY0_, odY0_, .func (PySem.W.fnOf "__init__" "Effect.__init__" (defArgs sEI) (defBody sEI) (defScope sEI) .none kVY0_ dcY0_ pmY0_ anY0_ cdY0_ ctY0_), slY0_⟩)
    (cY0_ : PySem.W.codeIn K cdY0_ "Effect.__init__" = true)
    (kY0_ : PySem.W.keepIn K (.ref fEI) = true)
    (mRd : PySem.W.findCls K (.ref C) (.type "type") "read" = some (.get (.builtin "staticmethod.__get__") (.ref smp) .none (.ref C)))
    (rRd : PySem.W.recIn K smp "staticmethod" = some (.ref fRd :: rest))
    (lRd : K.lookup fRd = some ⟨ocRd, odRd, .func (PySem.W.fnOf "read" "Vocabulary.read" (defArgs sRd) (defBody sRd) (defScope sRd) .none kVRd dcRd pmRd anRd cdRd ctRd), slRd⟩)
    (cRd_ : PySem.W.codeIn K cdRd "Vocabulary.read" = true)
    (kRd_ : PySem.W.keepIn K (.ref fRd) = true)
    (z_int : PySem.W.nsIn K mainGlobals "int" = some none)
    (z_len : PySem.W.nsIn K mainGlobals "len" = some none)
    (z_abs : PySem.W.nsIn K mainGlobals "abs" = some none)
    (z_divmod : PySem.W.nsIn K mainGlobals "divmod" = some none)
    (z_max : PySem.W.nsIn K mainGlobals "max" = some none)
    (z_min : PySem.W.nsIn K mainGlobals "min" = some none)
    (z_range : PySem.W.nsIn K mainGlobals "range" = some none)
    (z_all : PySem.W.nsIn K mainGlobals "all" = some none)
    (z_isinstance : PySem.W.nsIn K mainGlobals "isinstance" = some none)
    (z_bool : PySem.W.nsIn K mainGlobals "bool" = some none)
    (z_str : PySem.W.nsIn K mainGlobals "str" = some none)
    (z_tuple : PySem.W.nsIn K mainGlobals "tuple" = some none)
    (z_set : PySem.W.nsIn K mainGlobals "set" = some none)
    (z_enumerate : PySem.W.nsIn K mainGlobals "enumerate" = some none)
    (z_sorted : PySem.W.nsIn K mainGlobals "sorted" = some none)
    (z_repr : PySem.W.nsIn K mainGlobals "repr" = some none)
    (w_0 : PySem.W.nsIn K mainGlobals "LETTERS" = some (some (.str "abcdefghijklmnopqrstuvwxyz" v0)))
    (w_1 : PySem.W.nsIn K mainGlobals "LONGEST_NAME" = some (some (.int 8 v1)))
    (w_2 : PySem.W.nsIn K mainGlobals "MOST_ARITY" = some (some (.int 3 v2)))
    (w_3 : PySem.W.nsIn K mainGlobals "MOST_ENTRIES" = some (some (.int 8 v3)))
    (w_4 : PySem.W.nsIn K mainGlobals "QUOTATION_words" = some (some (.str "quotation" v4)))
    (w_5 : PySem.W.nsIn K mainGlobals "UNKNOWN" = some (some (.str "unknown" v5)))
    (w_6 : PySem.W.nsIn K mainGlobals "LITERAL" = some (some (.str "literal" v6)))
    (w_7 : PySem.W.nsIn K mainGlobals "FIGURES" = some (some (.str "0123456789" v7)))
    (w_8 : PySem.W.nsIn K mainGlobals "MOST_FIGURES" = some (some (.int 18 v8)))
    (w_9 : PySem.W.nsIn K mainGlobals "MOST_SIZE" = some (some (.int 60 v9)))
    (w_10 : PySem.W.nsIn K mainGlobals "MOST_NESTED" = some (some (.int 6 v10)))
    (w_11 : PySem.W.nsIn K mainGlobals "MOST_TAKEN" = some (some (.int 5 v11)))
    (w_12 : PySem.W.nsIn K mainGlobals "MOST_LEFT" = some (some (.int 8 v12)))
    (w_13 : PySem.W.nsIn K mainGlobals "CORE" = some (some (.str "core" v13)))
    (w_14 : PySem.W.nsIn K mainGlobals "SHUFFLE" = some (some (.str "shuffle" v14)))
    (w_15 : PySem.W.nsIn K mainGlobals "STACK_VARIABLE" = some (some (.str "stack variable" v15)))
    (w_16 : PySem.W.nsIn K mainGlobals "VALUE_VARIABLE" = some (some (.str "value variable" v16)))
    (w_17 : PySem.W.nsIn K mainGlobals "PLAIN" = some (some (.str "plain" v17)))
    (w_18 : PySem.W.nsIn K mainGlobals "QUOTATION_shapes" = some (some (.str "quotation" v18)))
    (w_19 : PySem.W.nsIn K mainGlobals "PUSH" = some (some (.str "push" v19)))
    (w_20 : PySem.W.nsIn K mainGlobals "MOST_TEXT" = some (some (.int 2000 v20)))
    (w_21 : PySem.W.nsIn K mainGlobals "ARROW" = some (some (.str " -> " v21)))
    (hA : chkA K CE CT C CP CS CF fI fT fIn fA fPI fQd fSI fMk fPi fSt fKo fVr fPr fSp fUn fFi fEI dD dC smp fRd f_22 f_23 f_24 f_25 f_26 = true) :
    AtG l w K 15 63 "_law_script" mg fa h := by
  have e := hfa.symm.trans (PySem.W.mg_of X G a_53)
  cases e
  unfold chkA at hA
  simp only [Bool.and_eq_true, beq_iff_eq, Bool.not_eq_true', beq_eq_false_iff_ne] at hA
  obtain ⟨eoe, ete, ece, eot, ett, ect, gD, tK, xmE, pGv, hDv, pOv, sAv, mkv, kpv, pGp, hDp, pOp, sAp, mkp, kpp, pGs, hDs, pOs, sAs, mks, kps, pGf, hDf, pOf, sAf, mkf, kpf, fCv, mOv, ksv, fCp, mOp, ksp, av_arities, av_names, av_text, ap_vocabulary, ap_text, ap_row, ap_words, ap_size, as_kinds, as_parts, as_links, af_shapes, af_left, af_right, fnI, fnA, fnJ, fnD, fnX0, fnX1, fnX2, fnX3, fnX4, fnX5, fnX6, fnX7, fnX8, fnX9, fnY0, rdI, gA, nSy, nSc, d_01, d_02, d_03, d_04, d_12, d_13, d_14, d_23, d_24, d_34⟩ := hA
  have BL : Blt mg := ⟨(PySem.W.mg_none_of X G z_int), (PySem.W.mg_none_of X G z_len), (PySem.W.mg_none_of X G z_abs), (PySem.W.mg_none_of X G z_divmod), (PySem.W.mg_none_of X G z_max), (PySem.W.mg_none_of X G z_min), (PySem.W.mg_none_of X G z_range), (PySem.W.mg_none_of X G z_all)⟩
  have B : B2 mg := ⟨(PySem.W.mg_none_of X G z_isinstance), (PySem.W.mg_none_of X G z_int), (PySem.W.mg_none_of X G z_bool), (PySem.W.mg_none_of X G z_str), (PySem.W.mg_none_of X G z_tuple), (PySem.W.mg_none_of X G z_len), (PySem.W.mg_none_of X G z_all), ⟨_, (PySem.W.mg_of X G w_0)⟩, ⟨_, (PySem.W.mg_of X G w_1)⟩, ⟨_, (PySem.W.mg_of X G w_2)⟩⟩
  have BB : B3 mg := ⟨(PySem.W.mg_none_of X G z_set), (PySem.W.mg_none_of X G z_enumerate), ⟨_, (PySem.W.mg_of X G w_3)⟩⟩
  have B4' : B4 mg := ⟨(PySem.W.mg_none_of X G z_sorted)⟩
  have W : W6 mg := ⟨⟨_, (PySem.W.mg_of X G w_4)⟩, ⟨_, (PySem.W.mg_of X G w_5)⟩, ⟨_, (PySem.W.mg_of X G w_6)⟩, ⟨_, (PySem.W.mg_of X G w_7)⟩, ⟨_, (PySem.W.mg_of X G w_8)⟩, ⟨_, (PySem.W.mg_of X G w_9)⟩, ⟨_, (PySem.W.mg_of X G w_10)⟩⟩
  have WS : WSh mg := ⟨(PySem.W.mg_none_of X G z_set), ⟨_, (PySem.W.mg_of X G w_11)⟩, ⟨_, (PySem.W.mg_of X G w_12)⟩⟩
  have WR : WRd mg := ⟨⟨_, (PySem.W.mg_of X G w_13)⟩, ⟨_, (PySem.W.mg_of X G w_14)⟩⟩
  have W4 : Kn4 mg := ⟨⟨_, (PySem.W.mg_of X G w_15)⟩, ⟨_, (PySem.W.mg_of X G w_16)⟩⟩
  have W5 : Kn5 mg := ⟨⟨_, (PySem.W.mg_of X G w_15)⟩, ⟨_, (PySem.W.mg_of X G w_16)⟩, ⟨_, (PySem.W.mg_of X G w_17)⟩, ⟨_, (PySem.W.mg_of X G w_18)⟩⟩
  have CW : Core K mg tC := ⟨PySem.W.mg_of X G nC, fun H => .inr ⟨_, _, _, lC, rfl, rfl, (by show 5 ≤ sizeLine; decide), .cons ⟨_, rfl⟩ (.cons ⟨_, rfl⟩ (.cons ⟨_, rfl⟩ (.cons ⟨_, rfl⟩ (.cons ⟨_, rfl⟩ .nil))))⟩⟩
  have DG : Dg K w mg dD _ _ := ⟨PySem.W.mg_of X G nDg, ⟨lDg, ⟨⟨_, _, rfl, rfl⟩, ⟨_, _, rfl, rfl⟩, ⟨_, _, rfl, rfl⟩, ⟨_, _, rfl, rfl⟩, trivial⟩, beq_eq_false_iff_ne.mpr nSy⟩, look_of lDg⟩
  obtain ⟨_, _, KCE⟩ := hCE
  have F_0 := fun_mk (st := sPI) l_0 c_0 k_0
  have b_0 := F_0.binds (ps := ["value"]) fun _ _ _ _ _ _ us hl => match us, hl with | [_], _ => rfl
  have F_1 := fun_mk (st := sNm) l_1 c_1 k_1
  have b_1 := F_1.binds (ps := ["value"]) fun _ _ _ _ _ _ us hl => match us, hl with | [_], _ => rfl
  have F_2 := fun_mk (st := sFN) l_2 c_2 k_2
  have b_2 := F_2.binds (ps := ["value"]) fun _ _ _ _ _ _ us hl => match us, hl with | [_], _ => rfl
  have F_3 := fun_mk (st := sAr) l_3 c_3 k_3
  have b_3 := F_3.binds (ps := ["value"]) fun _ _ _ _ _ _ us hl => match us, hl with | [_], _ => rfl
  have F_4 := fun_mk (st := sEn) l_4 c_4 k_4
  have b_4 := F_4.binds (ps := ["value"]) fun _ _ _ _ _ _ us hl => match us, hl with | [_], _ => rfl
  have F_5 := fun_mk (st := sChk) l_5 c_5 k_5
  have b_5 := F_5.binds (ps := ["entries"]) fun _ _ _ _ _ _ us hl => match us, hl with | [_], _ => rfl
  have F_6 := fun_mk (st := sTx) l_6 c_6 k_6
  have b_6 := F_6.binds (ps := ["name", "arity"]) fun _ _ _ _ _ _ us hl => match us, hl with | [_, _], _ => rfl
  have F_7 := fun_mk (st := sSE) l_7 c_7 k_7
  have b_7 := F_7.binds (ps := ["text"]) fun _ _ _ _ _ _ us hl => match us, hl with | [_], _ => rfl
  have F_8 := fun_mk (st := sSS) l_8 c_8 k_8
  have b_8 := F_8.binds (ps := ["text"]) fun _ _ _ _ _ _ us hl => match us, hl with | [_], _ => rfl
  have F_9 := fun_mk (st := sLi) l_9 c_9 k_9
  have b_9 := F_9.binds (ps := ["token"]) fun _ _ _ _ _ _ us hl => match us, hl with | [_], _ => rfl
  have F_10 := fun_mk (st := sSh) l_10 c_10 k_10
  have b_10 := F_10.binds (ps := ["token"]) fun _ _ _ _ _ _ us hl => match us, hl with | [_], _ => rfl
  have F_11 := fun_mk (st := sWd) l_11 c_11 k_11
  have b_11 := F_11.binds (ps := ["token", "vocabulary"]) fun _ _ _ _ _ _ us hl => match us, hl with | [_, _], _ => rfl
  have F_12 := fun_mk (st := sRw) l_12 c_12 k_12
  have b_12 := F_12.binds (ps := ["texts"]) fun _ _ _ _ _ _ us hl => match us, hl with | [_], _ => rfl
  have F_13 := fun_mk (st := sQx) l_13 c_13 k_13
  have b_13 := F_13.binds (ps := ["text"]) fun _ _ _ _ _ _ us hl => match us, hl with | [_], _ => rfl
  have F_14 := fun_mk (st := sQu) l_14 c_14 k_14
  have b_14 := F_14.binds (ps := ["row"]) fun _ _ _ _ _ _ us hl => match us, hl with | [_], _ => rfl
  have F_15 := fun_mk (st := sSp) l_15 c_15 k_15
  have b_15 := F_15.binds (ps := ["text"]) fun _ _ _ _ _ _ us hl => match us, hl with | [_], _ => rfl
  have F_16 := fun_mk (st := sRR) l_16 c_16 k_16
  have b_16 := F_16.binds (ps := ["text", "vocabulary"]) fun _ _ _ _ _ _ us hl => match us, hl with | [_, _], _ => rfl
  have F_17 := fun_mk (st := sMs) l_17 c_17 k_17
  have b_17 := F_17.binds (ps := ["text"]) fun _ _ _ _ _ _ us hl => match us, hl with | [_], _ => rfl
  have F_18 := fun_mk (st := sMd) l_18 c_18 k_18
  have b_18 := F_18.binds (ps := ["text"]) fun _ _ _ _ _ _ us hl => match us, hl with | [_], _ => rfl
  have F_19 := fun_mk (st := sSv) l_19 c_19 k_19
  have b_19 := F_19.binds (ps := ["shapes", "many"]) fun _ _ _ _ _ _ us hl => match us, hl with | [_, _], _ => rfl
  have F_20 := fun_mk (st := sVv) l_20 c_20 k_20
  have b_20 := F_20.binds (ps := ["shapes", "many"]) fun _ _ _ _ _ _ us hl => match us, hl with | [_, _], _ => rfl
  have F_21 := fun_mk (st := sPl) l_21 c_21 k_21
  have b_21 := F_21.binds (ps := ["shapes", "many"]) fun _ _ _ _ _ _ us hl => match us, hl with | [_, _], _ => rfl
  have F_22 := fun_mk (st := sEca) l_22 c_22 k_22
  have b_22 := F_22.binds (ps := ["shapes"]) fun _ _ _ _ _ _ us hl => match us, hl with | [_], _ => rfl
  have F_23 := fun_mk (st := sEdi) l_23 c_23 k_23
  have b_23 := F_23.binds (ps := ["shapes"]) fun _ _ _ _ _ _ us hl => match us, hl with | [_], _ => rfl
  have F_24 := fun_mk (st := sEcu) l_24 c_24 k_24
  have b_24 := F_24.binds (ps := ["shapes"]) fun _ _ _ _ _ _ us hl => match us, hl with | [_], _ => rfl
  have F_25 := fun_mk (st := sEco) l_25 c_25 k_25
  have b_25 := F_25.binds (ps := ["shapes"]) fun _ _ _ _ _ _ us hl => match us, hl with | [_], _ => rfl
  have F_26 := fun_mk (st := sEch) l_26 c_26 k_26
  have b_26 := F_26.binds (ps := ["shapes"]) fun _ _ _ _ _ _ us hl => match us, hl with | [_], _ => rfl
  have F_27 := fun_mk (st := sEW) l_27 c_27 k_27
  have b_27 := F_27.binds (ps := ["shapes", "word"]) fun _ _ _ _ _ _ us hl => match us, hl with | [_, _], _ => rfl
  have F_28 := fun_mk (st := sER) l_28 c_28 k_28
  have b_28 := F_28.binds (ps := ["shapes", "row"]) fun _ _ _ _ _ _ us hl => match us, hl with | [_, _], _ => rfl
  have F_29 := fun_mk (st := sPE) l_29 c_29 k_29
  have b_29 := F_29.binds (ps := ["program"]) fun _ _ _ _ _ _ us hl => match us, hl with | [_], _ => rfl
  have F_30 := fun_mk (st := sCv) l_30 c_30 k_30
  have b_30 := F_30.binds (ps := ["value"]) fun _ _ _ _ _ _ us hl => match us, hl with | [_], _ => rfl
  have F_31 := fun_mk (st := sCp) l_31 c_31 k_31
  have b_31 := F_31.binds (ps := ["value"]) fun _ _ _ _ _ _ us hl => match us, hl with | [_], _ => rfl
  have F_32 := fun_mk (st := sCl) l_32 c_32 k_32
  have b_32 := F_32.binds (ps := ["size", "depth"]) fun _ _ _ _ _ _ us hl => match us, hl with | [_, _], _ => rfl
  have F_33 := fun_mk (st := sNV) l_33 c_33 k_33
  have b_33 := F_33.binds (ps := ["letter", "variable", "numbers"]) fun _ _ _ _ _ _ us hl => match us, hl with | [_, _, _], _ => rfl
  have F_34 := fun_mk (st := sPS) l_34 c_34 k_34
  have b_34 := F_34.binds (ps := ["shapes", "shape", "numbers"]) fun _ _ _ _ _ _ us hl => match us, hl with | [_, _, _], _ => rfl
  have F_35 := fun_mk (st := sWE) l_35 c_35 k_35
  have b_35 := F_35.binds (ps := ["found", "most"]) fun _ _ _ _ _ _ us hl => match us, hl with | [_, _], _ => rfl
  have F_36 := fun_mk (st := sEf) l_36 c_36 k_36
  have b_36 := F_36.binds (ps := ["program"]) fun _ _ _ _ _ _ us hl => match us, hl with | [_], _ => rfl
  have F_37 := fun_mk (st := sRe) l_37 c_37 k_37
  have b_37 := F_37.binds (ps := ["program"]) fun _ _ _ _ _ _ us hl => match us, hl with | [_], _ => rfl
  have F_38 := fun_mk (st := sFo) l_38 c_38 k_38
  have b_38 := F_38.binds (ps := ["found"]) fun _ _ _ _ _ _ us hl => match us, hl with | [_], _ => rfl
  have F_39 := fun_mk (st := sIf) l_39 c_39 k_39
  have b_39 := F_39.binds (ps := ["program"]) fun _ _ _ _ _ _ us hl => match us, hl with | [_], _ => rfl
  have F_40 := fun_mk (st := sPur) l_40 c_40 k_40
  have b_40 := F_40.binds (ps := ["_law_script", "_law_k"]) fun _ _ _ _ _ _ us hl => match us, hl with | [_, _], _ => rfl
  have F_41 := fun_mk (st := sDrw) l_41 c_41 k_41
  have b_41 := F_41.binds (ps := ["_law_purse_here", "_law_many"]) fun _ _ _ _ _ _ us hl => match us, hl with | [_, _], _ => rfl
  have F_42 := fun_mk (st := sLe) l_42 c_42 k_42
  have b_42 := F_42.binds (ps := ["_law_purse_here", "_law_least", "_law_most"]) fun _ _ _ _ _ _ us hl => match us, hl with | [_, _, _], _ => rfl
  have F_43 := fun_mk (st := sTg) l_43 c_43 k_43
  have b_43 := F_43.binds (ps := ["_law_purse_here", "_law_many"]) fun _ _ _ _ _ _ us hl => match us, hl with | [_, _], _ => rfl
  have F_44 := fun_mk (st := sKi) l_44 c_44 k_44
  have b_44 := F_44.binds (ps := ["_law_purse_here", "_law_many"]) fun _ _ _ _ _ _ us hl => match us, hl with | [_, _], _ => rfl
  have F_45 := fun_mk (st := sVk) l_45 c_45 k_45
  have b_45 := F_45.binds (ps := ["_law_kinds_here"]) fun _ _ _ _ _ _ us hl => match us, hl with | [_], _ => rfl
  have F_46 := fun_mk (st := sLn) l_46 c_46 k_46
  have b_46 := F_46.binds (ps := ["_law_items"]) fun _ _ _ _ _ _ us hl => match us, hl with | [_], _ => rfl
  have F_47 := fun_mk (st := sSl) l_47 c_47 k_47
  have b_47 := F_47.binds (ps := ["_law_purse_here", "_law_most_in", "_law_most_out"]) fun _ _ _ _ _ _ us hl => match us, hl with | [_, _, _], _ => rfl
  have F_48 := fun_mk (st := sNu) l_48 c_48 k_48
  have b_48 := F_48.binds (ps := ["_law_purse_here"]) fun _ _ _ _ _ _ us hl => match us, hl with | [_], _ => rfl
  have F_49 := fun_mk (st := sSd) l_49 c_49 k_49
  have b_49 := F_49.binds (ps := ["_law_item"]) fun _ _ _ _ _ _ us hl => match us, hl with | [_], _ => rfl
  have F_50 := fun_mk (st := sOR) l_50 c_50 k_50
  have b_50 := F_50.binds (ps := ["_law_mine", "_law_due", "_law_counts", "_law_simple"]) fun _ _ _ _ _ _ us hl => match us, hl with | [_, _, _, _], _ => rfl
  have F_51 := fun_mk (st := sRt) l_51 c_51 k_51
  have b_51 := F_51.binds (ps := ["_law_purse_here"]) fun _ _ _ _ _ _ us hl => match us, hl with | [_], _ => rfl
  have F_52 := fun_mk (st := sBH) l_52 c_52 k_52
  have b_52 := F_52.binds (ps := ["_law_mine"]) fun _ _ _ _ _ _ us hl => match us, hl with | [_], _ => rfl
  have F_53 := fun_mk (st := sLaw) l_53 c_53 k_53
  have b_53 := F_53.binds (ps := ["_law_script"]) fun _ _ _ _ _ _ us hl => match us, hl with | [_], _ => rfl
  have FI := fun_mk (st := sIni) lI_ cI_ kI_
  have FA := fun_mk (st := sAri) lA_ cA_ kA_
  have bA := FA.binds (ps := ["self", "name"]) fun _ _ _ _ _ _ us hl => match us, hl with | [_, _], _ => rfl
  have FJ := fun_mk (st := sPI_) lJ_ cJ_ kJ_
  have bJ := FJ.binds (ps := ["self", "vocabulary", "text"]) fun _ _ _ _ _ _ us hl => match us, hl with | [_, _, _], _ => rfl
  have FD := fun_mk (st := sQd) lD_ cD_ kD_
  have bD := FD.binds (ps := ["self"]) fun _ _ _ _ _ _ us hl => match us, hl with | [_], _ => rfl
  have FX0 := fun_mk (st := sSI) lX0_ cX0_ kX0_
  have bX0 := FX0.binds (ps := ["self"]) fun _ _ _ _ _ _ us hl => match us, hl with | [_], _ => rfl
  have FX1 := fun_mk (st := sMk) lX1_ cX1_ kX1_
  have FX2 := fun_mk (st := sPil) lX2_ cX2_ kX2_
  have bX2 := FX2.binds (ps := ["self", "stack", "shapes"]) fun _ _ _ _ _ _ us hl => match us, hl with | [_, _, _], _ => rfl
  have FX3 := fun_mk (st := sSet) lX3_ cX3_ kX3_
  have bX3 := FX3.binds (ps := ["self", "shape"]) fun _ _ _ _ _ _ us hl => match us, hl with | [_, _], _ => rfl
  have FX4 := fun_mk (st := sKin) lX4_ cX4_ kX4_
  have bX4 := FX4.binds (ps := ["self", "shape"]) fun _ _ _ _ _ _ us hl => match us, hl with | [_, _], _ => rfl
  have FX5 := fun_mk (st := sVar) lX5_ cX5_ kX5_
  have bX5 := FX5.binds (ps := ["self", "shape"]) fun _ _ _ _ _ _ us hl => match us, hl with | [_, _], _ => rfl
  have FX6 := fun_mk (st := sPar) lX6_ cX6_ kX6_
  have bX6 := FX6.binds (ps := ["self", "shape"]) fun _ _ _ _ _ _ us hl => match us, hl with | [_, _], _ => rfl
  have FX7 := fun_mk (st := sSpr) lX7_ cX7_ kX7_
  have bX7 := FX7.binds (ps := ["self", "stack"]) fun _ _ _ _ _ _ us hl => match us, hl with | [_, _], _ => rfl
  have FX8 := fun_mk (st := sUni) lX8_ cX8_ kX8_
  have bX8 := FX8.binds (ps := ["self", "one", "other"]) fun _ _ _ _ _ _ us hl => match us, hl with | [_, _, _], _ => rfl
  have FX9 := fun_mk (st := sFin) lX9_ cX9_ kX9_
  have bX9 := FX9.binds (ps := ["self", "shape"]) fun _ _ _ _ _ _ us hl => match us, hl with | [_, _], _ => rfl
  have FY0 := fun_mk (st := sEI) lY0_ cY0_ kY0_
  have bY0 := FY0.binds (ps := ["self", "shapes", "left", "right"]) fun _ _ _ _ _ _ us hl => match us, hl with | [_, _, _, _], _ => rfl
  have FRd := fun_mk (st := sRd) lRd cRd_ kRd_
  have bRd := FRd.binds (ps := ["text"]) fun _ _ _ _ _ _ us hl => match us, hl with | [_], _ => rfl
  have D : D2 K mg _ _ _ _ _ _ _ _ _ _ := ⟨PySem.W.mg_of X G a_0, F_0, b_0, PySem.W.mg_of X G a_1, F_1, b_1, PySem.W.mg_of X G a_2, F_2, b_2, PySem.W.mg_of X G a_3, F_3, b_3, PySem.W.mg_of X G a_4, F_4, b_4⟩
  have I : I2 K mg _ _ _ _ := ⟨PySem.W.mg_of X G a_5, F_5, b_5, PySem.W.mg_of X G a_6, F_6, b_6⟩
  have S3' : S3 K mg _ _ _ _ := ⟨PySem.W.mg_of X G a_7, F_7, b_7, PySem.W.mg_of X G a_8, F_8, b_8⟩
  have Z : EC K mg CE fI := ⟨PySem.W.mg_of X G nE, ErrC.of eoe, ⟨xe, ete, _, _, _, _, _, _, _, _, _, _, _, _, _, _, _, lke, ye⟩, ece⟩
  have ZT : TC K mg CT fT := ⟨PySem.W.mg_of X G nT, ErrC.of eot, ⟨xt, ett, _, _, _, _, _, _, _, _, _, _, _, _, _, _, _, lkt, yt⟩, ect⟩
  have clV : Cls K C := ⟨pGv, hDv, pOv, sAv⟩
  have clP : Cls K CP := ⟨pGp, hDp, pOp, sAp⟩
  have clS : Cls K CS := ⟨pGs, hDs, pOs, sAs⟩
  have clF : Cls K CF := ⟨pGf, hDf, pOf, sAf⟩
  have VV : VC K mg C := ⟨PySem.W.mg_of X G nV, clV, av_arities, av_names, av_text⟩
  have PV : PC K mg CP := ⟨PySem.W.mg_of X G nP, clP, ap_vocabulary, ap_text, ap_row, ap_words, ap_size⟩
  have SV : SC K mg CS := ⟨PySem.W.mg_of X G nS, clS, as_kinds, as_parts, as_links⟩
  have FV : FC K mg CF := ⟨PySem.W.mg_of X G nF, clF, af_shapes, af_left, af_right⟩
  have TV : IC K C := ⟨clV, fCv, gD, tK, mOv, ksv⟩
  have TP : IC K CP := ⟨clP, fCp, gD, tK, mOp, ksp⟩
  have MKV : Mk K C fIn := ⟨mkv, mI, fnI, kpv⟩
  have MKP : Mk K CP fPI := ⟨mkp, mJ, fnJ, kpp⟩
  have MKS : Mk K CS fSI := ⟨mks, mX0, fnX0, kps⟩
  have MKF : Mk K CF fEI := ⟨mkf, mY0, fnY0, kpf⟩
  have MA : Meth K C "arity" fA := ⟨mA, fnA, kA_⟩
  have SM : SMet K C (.type "type") "read" smp fRd := ⟨rdI, gA, mRd, ⟨_, rRd⟩, kRd_⟩
  have DW : Drw K mg _ _ := ⟨PySem.W.mg_of X G a_41, F_41, b_41⟩
  refine ⟨PySem.W.fnOf "law" "law" (defArgs sLaw) (defBody sLaw) (defScope sLaw) .none kV_53 dc_53 pm_53 an_53 cd_53 ct_53, [], spLaw K, fun p hp => (nomatch hp), fun s v => .of_eq rfl, fun H a ns hl _ hH hS => ⟨a, ns, rfl, hS, hl, fun _ => rfl⟩, fun base _ _ hTB => ?_⟩
  have GIV : FnR l.prog w K mg base (L2N.CX l.prog w) 5 fIn (spInit C CE) := ok_ini I D B CW Z BB B4' VV FI
  have GRf := ok_rd (P := l.prog) (w := w) (base := base) FRd S3' B DG Z xmE ZT VV MKV GIV
  have GR : FnR l.prog w K mg base (L2.CX l.prog w) 7 fRd (spRd K C CT) := (GRf.raw bRd .nil).imp fun vs H Q E hs => by rw [List.append_nil]; exact hs
  have GMk := ok_mk (P := l.prog) (w := w) (base := base) FX1 B SV
  have MD : MkD l.prog w K mg base CS fMk := ⟨SV, ⟨mX1, fnX1, kX1_⟩, GMk, ⟨_, (PySem.W.mg_of X G w_19)⟩⟩
  have GPil := ok_pil FX2 MD
  have GSet := ok_set (P := l.prog) (w := w) (base := base) FX3 SV
  have SD : StD l.prog w K mg base CS fSt _ := ⟨SV, ⟨mX3, fnX3, kX3_⟩, bX3, GSet⟩
  have GKin := ok_kin FX4 SD
  have GVar := ok_var (P := l.prog) (w := w) (base := base) FX5 SV W4
  have GPar := ok_par FX6 SD
  have HD : ShD l.prog w K mg base CS fMk fSt fKo fVr fPr _ _ _ _ := ⟨MD, SD, ⟨mX4, fnX4, kX4_⟩, bX4, GKin, ⟨mX5, fnX5, kX5_⟩, bX5, GVar, ⟨mX6, fnX6, kX6_⟩, bX6, GPar⟩
  have GSpr := ok_spr FX7 HD
  have GFin := ok_fin FX9 HD
  have GUni := ok_uni FX8 HD ⟨mX9, fnX9, kX9_⟩ bX9 GFin
  have GSv := ok_sv F_19 BL MD W5
  have GVv := ok_vv F_20 BL MD W5
  have GPl := ok_pl F_21 BL MD W5
  have ID : IfD l.prog w K mg base CS fMk fPi _ _ _ _ _ _ _ := ⟨MD, W5, ⟨mX2, fnX2, kX2_⟩, bX2, GPil, PySem.W.mg_of X G a_19, F_19.kp, b_19, GSv, PySem.W.mg_of X G a_20, F_20.kp, b_20, GVv, PySem.W.mg_of X G a_21, F_21.kp, b_21, GPl⟩
  have EF : EfD l.prog w K mg base CS fMk fPi _ _ _ dC _ _ fUn _ _ _ _ _ _ _ (fE9 f_22 f_23 f_24 f_25 f_26) := ⟨ID, ⟨_, (PySem.W.mg_of X G w_13)⟩, ⟨_, (PySem.W.mg_of X G w_6)⟩, ⟨_, (PySem.W.mg_of X G w_5)⟩, ⟨_, (PySem.W.mg_of X G w_14)⟩, PySem.W.mg_of X G nCE, ⟨_, _, KCE⟩, cores_ind (by rw [fE9_0]; exact e_0) (by rw [fE9_1]; exact e_1) (by rw [fE9_2]; exact e_2) (by rw [fE9_3]; exact e_3) (by rw [fE9_4]; exact e_4), cores_ind (by rw [fE9_0]; exact ⟨⟨_, _, ok_eca F_22 ID, F_22.kp, b_22⟩⟩) (by rw [fE9_1]; exact ⟨⟨_, _, ok_edi F_23 ID, F_23.kp, b_23⟩⟩) (by rw [fE9_2]; exact ⟨⟨_, _, ok_ecu F_24 ID, F_24.kp, b_24⟩⟩) (by rw [fE9_3]; exact ⟨⟨_, _, ok_eco F_25 ID, F_25.kp, b_25⟩⟩) (by rw [fE9_4]; exact ⟨⟨_, _, ok_ech F_26 ID, F_26.kp, b_26⟩⟩), cores_ind (cores_ind (fun _ => rfl) (fun h => by rw [fE9_0, fE9_1] at h; exact absurd h d_01) (fun h => by rw [fE9_0, fE9_2] at h; exact absurd h d_02) (fun h => by rw [fE9_0, fE9_3] at h; exact absurd h d_03) (fun h => by rw [fE9_0, fE9_4] at h; exact absurd h d_04)) (cores_ind (fun h => by rw [fE9_1, fE9_0] at h; exact absurd h.symm d_01) (fun _ => rfl) (fun h => by rw [fE9_1, fE9_2] at h; exact absurd h d_12) (fun h => by rw [fE9_1, fE9_3] at h; exact absurd h d_13) (fun h => by rw [fE9_1, fE9_4] at h; exact absurd h d_14)) (cores_ind (fun h => by rw [fE9_2, fE9_0] at h; exact absurd h.symm d_02) (fun h => by rw [fE9_2, fE9_1] at h; exact absurd h.symm d_12) (fun _ => rfl) (fun h => by rw [fE9_2, fE9_3] at h; exact absurd h d_23) (fun h => by rw [fE9_2, fE9_4] at h; exact absurd h d_24)) (cores_ind (fun h => by rw [fE9_3, fE9_0] at h; exact absurd h.symm d_03) (fun h => by rw [fE9_3, fE9_1] at h; exact absurd h.symm d_13) (fun h => by rw [fE9_3, fE9_2] at h; exact absurd h.symm d_23) (fun _ => rfl) (fun h => by rw [fE9_3, fE9_4] at h; exact absurd h d_34)) (cores_ind (fun h => by rw [fE9_4, fE9_0] at h; exact absurd h.symm d_04) (fun h => by rw [fE9_4, fE9_1] at h; exact absurd h.symm d_14) (fun h => by rw [fE9_4, fE9_2] at h; exact absurd h.symm d_24) (fun h => by rw [fE9_4, fE9_3] at h; exact absurd h.symm d_34) (fun _ => rfl)), (PySem.W.mg_none_of X G z_enumerate), PySem.W.mg_of X G a_27, F_27, b_27, PySem.W.mg_of X G a_28, F_28, b_28, ⟨mX8, fnX8, kX8_⟩, bX8, GUni⟩
  have PR : PrD l.prog w K mg base CS CF CP fSI fEI _ _ := ⟨SV, FV, PV, MKS, bX0, ok_si FX0 SV, MKF, bY0, ok_ei FY0 FV⟩
  have GPE := ok_pe F_29 EF PR
  have PS : PsD l.prog w K mg base _ _ := ⟨W5, ⟨_, (PySem.W.mg_of X G w_21)⟩, PySem.W.mg_of X G a_33, F_33.kp, b_33, ok_nv F_33 B⟩
  have GPS := ok_ps F_34 HD PS
  have GWE := ok_we (CF := CF) F_35 B FV HD PS (PySem.W.mg_of X G a_34) F_34.kp b_34 GPS
  have GCp := ok_cp9 (P := l.prog) (w := w) (base := base) F_31 B PV TP
  have QU : QuD l.prog w K mg base CS CF CP _ _ _ fSp fKo _ _ _ _ _ := ⟨B, SV, FV, PV, PySem.W.mg_of X G a_31, F_31.kp, b_31, GCp, PySem.W.mg_of X G a_29, F_29.kp, b_29, GPE, PySem.W.mg_of X G a_35, F_35.kp, b_35, GWE, ⟨_, (PySem.W.mg_of X G w_20)⟩, ⟨mX7, fnX7, kX7_⟩, bX7, GSpr, ⟨mX4, fnX4, kX4_⟩, bX4, GKin, W5⟩
  have GEf := (ok_ef F_36 QU).imp eh_of
  have GRe := (ok_re F_37 QU).imp rh_of
  have GIf := (ok_if F_39 QU (PySem.W.mg_of X G a_38) F_38.kp b_38 (ok_fo F_38 QU)).imp ih_of
  have GSp := ok_spG (P := l.prog) (w := w) (mg := mg) (base := base) F_15
  have GQu := ok_qu (P := l.prog) (w := w) (base := base) F_14 W (PySem.W.mg_of X G a_12) F_12 b_12 (PySem.W.mg_of X G a_13) F_13 b_13
  have GWd := ok_wd9 (P := l.prog) (w := w) (base := base) F_11 B W WS WR CW VV (PySem.W.mg_of X G a_9) F_9 b_9 (PySem.W.mg_of X G a_10) F_10 b_10 MA FA bA
  have GRR := ok_rr9 F_16 B ⟨PySem.W.mg_of X G a_15, F_15.kp, b_15, GSp, PySem.W.mg_of X G a_14, F_14.kp, b_14, GQu, PySem.W.mg_of X G a_11, F_11.kp, b_11, GWd⟩
  have GMs := ok_msG F_17 B (PySem.W.mg_of X G a_15) F_15.kp b_15 GSp
  have GMd := ok_mdG F_18 BL (PySem.W.mg_of X G a_15) F_15.kp b_15 GSp
  have GCv := ok_cv (P := l.prog) (w := w) (base := base) F_30 B VV TV
  have GCl := ok_cl9 (P := l.prog) (w := w) (base := base) F_32 W
  have GPI := ok_pi9 (C := C) (CP := CP) FJ B PV ⟨PySem.W.mg_of X G a_30, F_30.kp, b_30, GCv, PySem.W.mg_of X G a_16, F_16.kp, b_16, GRR, PySem.W.mg_of X G a_17, F_17.kp, b_17, GMs, PySem.W.mg_of X G a_18, F_18.kp, b_18, GMd, PySem.W.mg_of X G a_32, F_32.kp, b_32, GCl⟩
  have M9 : Mk9 l.prog w K mg base C CP fPI _ _ _ := ⟨PV, MKP, bJ, GPI, PySem.W.mg_of X G a_13, F_13.kp, b_13, ok_qx F_13⟩
  have GQd := ok_qd9 FD M9
  have VD : VoD l.prog w K mg base C CT smp fRd (.type "type") := ⟨PySem.W.mg_of X G nV, SM, GR, (PySem.W.mg_none_of X G z_sorted)⟩
  have GVo := ok_vk F_45 B VD
  have GKi := ok_ki (P := l.prog) (w := w) (base := base) F_44 BL DW ⟨PySem.W.mg_of X G a_43, F_43.kp, b_43, ok_tg F_43 BL ⟨PySem.W.mg_of X G a_42, F_42.kp, b_42, ok_le F_42 BL DW⟩⟩
  have OD : OrD l.prog w K mg base C CP _ _ _ fQd _ _ _ _ := ⟨PV, (PySem.W.mg_none_of X G z_repr), PySem.W.mg_of X G a_36, F_36.kp, b_36, fun s u => .of_eq rfl, GEf, PySem.W.mg_of X G a_37, F_37.kp, b_37, fun s u => .of_eq rfl, GRe, PySem.W.mg_of X G a_39, F_39.kp, b_39, fun s u => .of_eq rfl, GIf, ⟨mD, fnD, kD_⟩, bD, GQd⟩
  have GOR := ok_or F_50 OD
  have GBH := ok_bh (C := C) (CP := CP) F_52 ⟨M9, PySem.W.mg_of X G a_50, F_50.kp, b_50, GOR, PySem.W.mg_of X G a_36, F_36.kp, b_36, GEf, ⟨mD, fnD, kD_⟩, bD, GQd⟩
  have GRt := ok_rt9 (C := C) (CP := CP) F_51 ⟨B, BL, M9, PySem.W.mg_of X G a_50, F_50.kp, b_50, GOR, DW, PySem.W.mg_of X G a_44, F_44.kp, b_44, GKi, PySem.W.mg_of X G a_45, F_45.kp, b_45, GVo, PySem.W.mg_of X G a_48, F_48.kp, b_48, ok_nu F_48 BL DW, PySem.W.mg_of X G a_47, F_47.kp, b_47, ok_sl9 F_47 BL DW, PySem.W.mg_of X G a_49, F_49.kp, b_49, ok_sd F_49 B BL, PySem.W.mg_of X G a_46, F_46.kp, b_46, ok_ln F_46⟩
  exact ok_law (C := C) (CE := CE) F_53 ⟨BL, PySem.W.mg_of X G nV, MKV, GIV, PySem.W.mg_of X G a_40, F_40.kp, b_40, ok_pur F_40 BL, PySem.W.mg_of X G a_44, F_44.kp, b_44, GKi, PySem.W.mg_of X G a_45, F_45.kp, b_45, GVo, PySem.W.mg_of X G a_51, F_51.kp, b_51, GRt, PySem.W.mg_of X G a_52, F_52.kp, b_52, GBH⟩
/-! ### the head: what is told by names -/
def fnL : List FnM := [
  ⟨fun K => He.ma K (He.ga K "InvalidEntries") "__init__", "__init__", "InvalidEntries.__init__", iArgs "index" ⟨29, 17, 29, 21⟩ ⟨29, 23, 29, 28⟩, iBody "index" ⟨30, 8, 30, 12⟩ ⟨30, 8, 30, 18⟩ ⟨30, 21, 30, 26⟩ ⟨30, 8, 30, 26⟩, iScope "index"⟩,
  ⟨fun K => He.ma K (He.ga K "InvalidText") "__init__", "__init__", "InvalidText.__init__", iArgs "value" ⟨17, 17, 17, 21⟩ ⟨17, 23, 17, 28⟩, iBody "value" ⟨18, 8, 18, 12⟩ ⟨18, 8, 18, 18⟩ ⟨18, 21, 18, 26⟩ ⟨18, 8, 18, 26⟩, iScope "value"⟩,
  ⟨fun K => He.ga K "is_plain_integer", "is_plain_integer", "is_plain_integer", defArgs sPI, defBody sPI, defScope sPI⟩,
  ⟨fun K => He.ga K "is_name", "is_name", "is_name", defArgs sNm, defBody sNm, defScope sNm⟩,
  ⟨fun K => He.ga K "is_free_name", "is_free_name", "is_free_name", defArgs sFN, defBody sFN, defScope sFN⟩,
  ⟨fun K => He.ga K "is_arity", "is_arity", "is_arity", defArgs sAr, defBody sAr, defScope sAr⟩,
  ⟨fun K => He.ga K "is_entry", "is_entry", "is_entry", defArgs sEn, defBody sEn, defScope sEn⟩,
  ⟨fun K => He.ga K "check_entries", "check_entries", "check_entries", defArgs sChk, defBody sChk, defScope sChk⟩,
  ⟨fun K => He.ga K "entry_text", "entry_text", "entry_text", defArgs sTx, defBody sTx, defScope sTx⟩,
  ⟨fun K => He.ga K "split_entry", "split_entry", "split_entry", defArgs sSE, defBody sSE, defScope sSE⟩,
  ⟨fun K => He.ga K "split_entries", "split_entries", "split_entries", defArgs sSS, defBody sSS, defScope sSS⟩,
  ⟨fun K => He.ga K "is_literal", "is_literal", "is_literal", defArgs sLi, defBody sLi, defScope sLi⟩,
  ⟨fun K => He.ga K "split_shuffle", "split_shuffle", "split_shuffle", defArgs sSh, defBody sSh, defScope sSh⟩,
  ⟨fun K => He.ga K "read_word", "read_word", "read_word", defArgs sWd, defBody sWd, defScope sWd⟩,
  ⟨fun K => He.ga K "row_text", "row_text", "row_text", defArgs sRw, defBody sRw, defScope sRw⟩,
  ⟨fun K => He.ga K "quotation_text", "quotation_text", "quotation_text", defArgs sQx, defBody sQx, defScope sQx⟩,
  ⟨fun K => He.ga K "quote", "quote", "quote", defArgs sQu, defBody sQu, defScope sQu⟩,
  ⟨fun K => He.ga K "split_tokens", "split_tokens", "split_tokens", defArgs sSp, defBody sSp, defScope sSp⟩,
  ⟨fun K => He.ga K "read_row", "read_row", "read_row", defArgs sRR, defBody sRR, defScope sRR⟩,
  ⟨fun K => He.ga K "measure_size", "measure_size", "measure_size", defArgs sMs, defBody sMs, defScope sMs⟩,
  ⟨fun K => He.ga K "measure_depth", "measure_depth", "measure_depth", defArgs sMd, defBody sMd, defScope sMd⟩,
  ⟨fun K => He.ga K "stack_variables", "stack_variables", "stack_variables", defArgs sSv, defBody sSv, defScope sSv⟩,
  ⟨fun K => He.ga K "value_variables", "value_variables", "value_variables", defArgs sVv, defBody sVv, defScope sVv⟩,
  ⟨fun K => He.ga K "plains", "plains", "plains", defArgs sPl, defBody sPl, defScope sPl⟩,
  ⟨fun K => He.ga K "effect_of_call", "effect_of_call", "effect_of_call", defArgs sEca, defBody sEca, defScope sEca⟩,
  ⟨fun K => He.ga K "effect_of_dip", "effect_of_dip", "effect_of_dip", defArgs sEdi, defBody sEdi, defScope sEdi⟩,
  ⟨fun K => He.ga K "effect_of_curry", "effect_of_curry", "effect_of_curry", defArgs sEcu, defBody sEcu, defScope sEcu⟩,
  ⟨fun K => He.ga K "effect_of_compose", "effect_of_compose", "effect_of_compose", defArgs sEco, defBody sEco, defScope sEco⟩,
  ⟨fun K => He.ga K "effect_of_choose", "effect_of_choose", "effect_of_choose", defArgs sEch, defBody sEch, defScope sEch⟩,
  ⟨fun K => He.ga K "effect_of_word", "effect_of_word", "effect_of_word", defArgs sEW, defBody sEW, defScope sEW⟩,
  ⟨fun K => He.ga K "effect_of_row", "effect_of_row", "effect_of_row", defArgs sER, defBody sER, defScope sER⟩,
  ⟨fun K => He.ga K "principal_effect", "principal_effect", "principal_effect", defArgs sPE, defBody sPE, defScope sPE⟩,
  ⟨fun K => He.ga K "check_vocabulary", "check_vocabulary", "check_vocabulary", defArgs sCv, defBody sCv, defScope sCv⟩,
  ⟨fun K => He.ga K "check_program", "check_program", "check_program", defArgs sCp, defBody sCp, defScope sCp⟩,
  ⟨fun K => He.ga K "check_limits", "check_limits", "check_limits", defArgs sCl, defBody sCl, defScope sCl⟩,
  ⟨fun K => He.ga K "name_variable", "name_variable", "name_variable", defArgs sNV, defBody sNV, defScope sNV⟩,
  ⟨fun K => He.ga K "pieces_of_shape", "pieces_of_shape", "pieces_of_shape", defArgs sPS, defBody sPS, defScope sPS⟩,
  ⟨fun K => He.ga K "write_effect", "write_effect", "write_effect", defArgs sWE, defBody sWE, defScope sWE⟩,
  ⟨fun K => He.ga K "effect", "effect", "effect", defArgs sEf, defBody sEf, defScope sEf⟩,
  ⟨fun K => He.ga K "reach", "reach", "reach", defArgs sRe, defBody sRe, defScope sRe⟩,
  ⟨fun K => He.ga K "is_first_order_effect", "is_first_order_effect", "is_first_order_effect", defArgs sFo, defBody sFo, defScope sFo⟩,
  ⟨fun K => He.ga K "is_first_order", "is_first_order", "is_first_order", defArgs sIf, defBody sIf, defScope sIf⟩,
  ⟨fun K => He.ga K "_law_purse", "_law_purse", "_law_purse", defArgs sPur, defBody sPur, defScope sPur⟩,
  ⟨fun K => He.ga K "_law_draw", "_law_draw", "_law_draw", defArgs sDrw, defBody sDrw, defScope sDrw⟩,
  ⟨fun K => He.ga K "_law_letters", "_law_letters", "_law_letters", defArgs sLe, defBody sLe, defScope sLe⟩,
  ⟨fun K => He.ga K "_law_tags", "_law_tags", "_law_tags", defArgs sTg, defBody sTg, defScope sTg⟩,
  ⟨fun K => He.ga K "_law_kinds", "_law_kinds", "_law_kinds", defArgs sKi, defBody sKi, defScope sKi⟩,
  ⟨fun K => He.ga K "_law_vocabulary", "_law_vocabulary", "_law_vocabulary", defArgs sVk, defBody sVk, defScope sVk⟩,
  ⟨fun K => He.ga K "_law_line", "_law_line", "_law_line", defArgs sLn, defBody sLn, defScope sLn⟩,
  ⟨fun K => He.ga K "_law_shuffle", "_law_shuffle", "_law_shuffle", defArgs sSl, defBody sSl, defScope sSl⟩,
  ⟨fun K => He.ga K "_law_number", "_law_number", "_law_number", defArgs sNu, defBody sNu, defScope sNu⟩,
  ⟨fun K => He.ga K "_law_shuffled", "_law_shuffled", "_law_shuffled", defArgs sSd, defBody sSd, defScope sSd⟩,
  ⟨fun K => He.ga K "_law_one_right", "_law_one_right", "_law_one_right", defArgs sOR, defBody sOR, defScope sOR⟩,
  ⟨fun K => He.ga K "_law_right", "_law_right", "_law_right", defArgs sRt, defBody sRt, defScope sRt⟩,
  ⟨fun K => He.ga K "_law_by_hand", "_law_by_hand", "_law_by_hand", defArgs sBH, defBody sBH, defScope sBH⟩,
  ⟨fun K => He.ga K "law", "law", "law", defArgs sLaw, defBody sLaw, defScope sLaw⟩,
  ⟨fun K => He.ma K (He.ga K "Vocabulary") "__init__", "__init__", "Vocabulary.__init__", defArgs sIni, defBody sIni, defScope sIni⟩,
  ⟨fun K => He.ma K (He.ga K "Vocabulary") "arity", "arity", "Vocabulary.arity", defArgs sAri, defBody sAri, defScope sAri⟩,
  ⟨fun K => He.ma K (He.ga K "Program") "__init__", "__init__", "Program.__init__", defArgs sPI_, defBody sPI_, defScope sPI_⟩,
  ⟨fun K => He.ma K (He.ga K "Program") "quoted", "quoted", "Program.quoted", defArgs sQd, defBody sQd, defScope sQd⟩,
  ⟨fun K => He.ma K (He.ga K "Shapes") "__init__", "__init__", "Shapes.__init__", defArgs sSI, defBody sSI, defScope sSI⟩,
  ⟨fun K => He.ma K (He.ga K "Shapes") "make", "make", "Shapes.make", defArgs sMk, defBody sMk, defScope sMk⟩,
  ⟨fun K => He.ma K (He.ga K "Shapes") "pile", "pile", "Shapes.pile", defArgs sPil, defBody sPil, defScope sPil⟩,
  ⟨fun K => He.ma K (He.ga K "Shapes") "settle", "settle", "Shapes.settle", defArgs sSet, defBody sSet, defScope sSet⟩,
  ⟨fun K => He.ma K (He.ga K "Shapes") "kind_of", "kind_of", "Shapes.kind_of", defArgs sKin, defBody sKin, defScope sKin⟩,
  ⟨fun K => He.ma K (He.ga K "Shapes") "is_variable", "is_variable", "Shapes.is_variable", defArgs sVar, defBody sVar, defScope sVar⟩,
  ⟨fun K => He.ma K (He.ga K "Shapes") "parts_of", "parts_of", "Shapes.parts_of", defArgs sPar, defBody sPar, defScope sPar⟩,
  ⟨fun K => He.ma K (He.ga K "Shapes") "spread", "spread", "Shapes.spread", defArgs sSpr, defBody sSpr, defScope sSpr⟩,
  ⟨fun K => He.ma K (He.ga K "Shapes") "unify", "unify", "Shapes.unify", defArgs sUni, defBody sUni, defScope sUni⟩,
  ⟨fun K => He.ma K (He.ga K "Shapes") "is_finite", "is_finite", "Shapes.is_finite", defArgs sFin, defBody sFin, defScope sFin⟩,
  ⟨fun K => He.ma K (He.ga K "Effect") "__init__", "__init__", "Effect.__init__", defArgs sEI, defBody sEI, defScope sEI⟩,
  ⟨fun K => smF K (smA K (He.ga K "Vocabulary") "read"), "read", "Vocabulary.read", defArgs sRd, defBody sRd, defScope sRd⟩]
def tsL : List He.Tab := [(fun K => He.ga K "CORE_EFFECTS", ["call", "dip", "curry", "compose", "choose"])]
def dsL : List TabI := [(fun K => He.ga K "DIGITS", [("0", 0), ("1", 1), ("2", 2), ("3", 3)])]
def exL0 (K : PySem.W.Frag) : List Bool := [
  He.eqO (PySem.W.nsIn K mainGlobals "InvalidEntries") (some (some (.ref (He.ga K "InvalidEntries")))),
  He.eqO (PySem.W.nsIn K mainGlobals "InvalidText") (some (some (.ref (He.ga K "InvalidText")))),
  He.eqO (PySem.W.nsIn K mainGlobals "Vocabulary") (some (some (.ref (He.ga K "Vocabulary")))),
  He.eqO (PySem.W.nsIn K mainGlobals "Program") (some (some (.ref (He.ga K "Program")))),
  He.eqO (PySem.W.nsIn K mainGlobals "Shapes") (some (some (.ref (He.ga K "Shapes")))),
  He.eqO (PySem.W.nsIn K mainGlobals "Effect") (some (some (.ref (He.ga K "Effect")))),
  He.eqO (PySem.W.nsIn K mainGlobals "CORE_WORDS") (some (some (.ref (He.ga K "CORE_WORDS")))),
  He.eqO (PySem.W.nsIn K mainGlobals "CORE_EFFECTS") (some (some (.ref (He.ga K "CORE_EFFECTS")))),
  tupS K (He.ga K "CORE_WORDS") ["call", "dip", "curry", "compose", "choose"],
  He.eqO (PySem.W.nsIn K mainGlobals "DIGITS") (some (some (.ref (He.ga K "DIGITS")))),
  He.eqO (PySem.W.nsIn K (He.ga K "CORE_EFFECTS") "call") (some (some (.ref (He.ga K "effect_of_call")))),
  He.eqO (PySem.W.nsIn K (He.ga K "CORE_EFFECTS") "dip") (some (some (.ref (He.ga K "effect_of_dip")))),
  He.eqO (PySem.W.nsIn K (He.ga K "CORE_EFFECTS") "curry") (some (some (.ref (He.ga K "effect_of_curry")))),
  He.eqO (PySem.W.nsIn K (He.ga K "CORE_EFFECTS") "compose") (some (some (.ref (He.ga K "effect_of_compose")))),
  He.eqO (PySem.W.nsIn K (He.ga K "CORE_EFFECTS") "choose") (some (some (.ref (He.ga K "effect_of_choose")))),
  He.eqO (PySem.W.findIn K (.ref (He.ga K "InvalidEntries")) "__init__") (some (some (.ref (He.ma K (He.ga K "InvalidEntries") "__init__")))),
  kvN K (He.ma K (He.ga K "InvalidEntries") "__init__"),
  He.eqO (PySem.W.findIn K (.ref (He.ga K "InvalidText")) "__init__") (some (some (.ref (He.ma K (He.ga K "InvalidText") "__init__")))),
  kvN K (He.ma K (He.ga K "InvalidText") "__init__"),
  He.eqO (PySem.W.nsIn K mainGlobals "is_plain_integer") (some (some (.ref (He.ga K "is_plain_integer")))),
  PySem.W.keepIn K (.ref (He.ga K "is_plain_integer")),
  He.eqO (PySem.W.nsIn K mainGlobals "is_name") (some (some (.ref (He.ga K "is_name")))),
  PySem.W.keepIn K (.ref (He.ga K "is_name")),
  He.eqO (PySem.W.nsIn K mainGlobals "is_free_name") (some (some (.ref (He.ga K "is_free_name")))),
  PySem.W.keepIn K (.ref (He.ga K "is_free_name")),
  He.eqO (PySem.W.nsIn K mainGlobals "is_arity") (some (some (.ref (He.ga K "is_arity")))),
  PySem.W.keepIn K (.ref (He.ga K "is_arity")),
  He.eqO (PySem.W.nsIn K mainGlobals "is_entry") (some (some (.ref (He.ga K "is_entry")))),
  PySem.W.keepIn K (.ref (He.ga K "is_entry")),
  He.eqO (PySem.W.nsIn K mainGlobals "check_entries") (some (some (.ref (He.ga K "check_entries")))),
  PySem.W.keepIn K (.ref (He.ga K "check_entries")),
  He.eqO (PySem.W.nsIn K mainGlobals "entry_text") (some (some (.ref (He.ga K "entry_text")))),
  PySem.W.keepIn K (.ref (He.ga K "entry_text")),
  He.eqO (PySem.W.nsIn K mainGlobals "split_entry") (some (some (.ref (He.ga K "split_entry")))),
  PySem.W.keepIn K (.ref (He.ga K "split_entry")),
  He.eqO (PySem.W.nsIn K mainGlobals "split_entries") (some (some (.ref (He.ga K "split_entries")))),
  PySem.W.keepIn K (.ref (He.ga K "split_entries")),
  He.eqO (PySem.W.nsIn K mainGlobals "is_literal") (some (some (.ref (He.ga K "is_literal")))),
  PySem.W.keepIn K (.ref (He.ga K "is_literal")),
  He.eqO (PySem.W.nsIn K mainGlobals "split_shuffle") (some (some (.ref (He.ga K "split_shuffle")))),
  PySem.W.keepIn K (.ref (He.ga K "split_shuffle")),
  He.eqO (PySem.W.nsIn K mainGlobals "read_word") (some (some (.ref (He.ga K "read_word")))),
  PySem.W.keepIn K (.ref (He.ga K "read_word")),
  He.eqO (PySem.W.nsIn K mainGlobals "row_text") (some (some (.ref (He.ga K "row_text")))),
  PySem.W.keepIn K (.ref (He.ga K "row_text")),
  He.eqO (PySem.W.nsIn K mainGlobals "quotation_text") (some (some (.ref (He.ga K "quotation_text")))),
  PySem.W.keepIn K (.ref (He.ga K "quotation_text")),
  He.eqO (PySem.W.nsIn K mainGlobals "quote") (some (some (.ref (He.ga K "quote")))),
  PySem.W.keepIn K (.ref (He.ga K "quote")),
  He.eqO (PySem.W.nsIn K mainGlobals "split_tokens") (some (some (.ref (He.ga K "split_tokens"))))]
def exL1 (K : PySem.W.Frag) : List Bool := [
  PySem.W.keepIn K (.ref (He.ga K "split_tokens")),
  He.eqO (PySem.W.nsIn K mainGlobals "read_row") (some (some (.ref (He.ga K "read_row")))),
  PySem.W.keepIn K (.ref (He.ga K "read_row")),
  He.eqO (PySem.W.nsIn K mainGlobals "measure_size") (some (some (.ref (He.ga K "measure_size")))),
  PySem.W.keepIn K (.ref (He.ga K "measure_size")),
  He.eqO (PySem.W.nsIn K mainGlobals "measure_depth") (some (some (.ref (He.ga K "measure_depth")))),
  PySem.W.keepIn K (.ref (He.ga K "measure_depth")),
  He.eqO (PySem.W.nsIn K mainGlobals "stack_variables") (some (some (.ref (He.ga K "stack_variables")))),
  PySem.W.keepIn K (.ref (He.ga K "stack_variables")),
  He.eqO (PySem.W.nsIn K mainGlobals "value_variables") (some (some (.ref (He.ga K "value_variables")))),
  PySem.W.keepIn K (.ref (He.ga K "value_variables")),
  He.eqO (PySem.W.nsIn K mainGlobals "plains") (some (some (.ref (He.ga K "plains")))),
  PySem.W.keepIn K (.ref (He.ga K "plains")),
  He.eqO (PySem.W.nsIn K mainGlobals "effect_of_call") (some (some (.ref (He.ga K "effect_of_call")))),
  PySem.W.keepIn K (.ref (He.ga K "effect_of_call")),
  He.eqO (PySem.W.nsIn K mainGlobals "effect_of_dip") (some (some (.ref (He.ga K "effect_of_dip")))),
  PySem.W.keepIn K (.ref (He.ga K "effect_of_dip")),
  He.eqO (PySem.W.nsIn K mainGlobals "effect_of_curry") (some (some (.ref (He.ga K "effect_of_curry")))),
  PySem.W.keepIn K (.ref (He.ga K "effect_of_curry")),
  He.eqO (PySem.W.nsIn K mainGlobals "effect_of_compose") (some (some (.ref (He.ga K "effect_of_compose")))),
  PySem.W.keepIn K (.ref (He.ga K "effect_of_compose")),
  He.eqO (PySem.W.nsIn K mainGlobals "effect_of_choose") (some (some (.ref (He.ga K "effect_of_choose")))),
  PySem.W.keepIn K (.ref (He.ga K "effect_of_choose")),
  He.eqO (PySem.W.nsIn K mainGlobals "effect_of_word") (some (some (.ref (He.ga K "effect_of_word")))),
  PySem.W.keepIn K (.ref (He.ga K "effect_of_word")),
  He.eqO (PySem.W.nsIn K mainGlobals "effect_of_row") (some (some (.ref (He.ga K "effect_of_row")))),
  PySem.W.keepIn K (.ref (He.ga K "effect_of_row")),
  He.eqO (PySem.W.nsIn K mainGlobals "principal_effect") (some (some (.ref (He.ga K "principal_effect")))),
  PySem.W.keepIn K (.ref (He.ga K "principal_effect")),
  He.eqO (PySem.W.nsIn K mainGlobals "check_vocabulary") (some (some (.ref (He.ga K "check_vocabulary")))),
  PySem.W.keepIn K (.ref (He.ga K "check_vocabulary")),
  He.eqO (PySem.W.nsIn K mainGlobals "check_program") (some (some (.ref (He.ga K "check_program")))),
  PySem.W.keepIn K (.ref (He.ga K "check_program")),
  He.eqO (PySem.W.nsIn K mainGlobals "check_limits") (some (some (.ref (He.ga K "check_limits")))),
  PySem.W.keepIn K (.ref (He.ga K "check_limits")),
  He.eqO (PySem.W.nsIn K mainGlobals "name_variable") (some (some (.ref (He.ga K "name_variable")))),
  PySem.W.keepIn K (.ref (He.ga K "name_variable")),
  He.eqO (PySem.W.nsIn K mainGlobals "pieces_of_shape") (some (some (.ref (He.ga K "pieces_of_shape")))),
  PySem.W.keepIn K (.ref (He.ga K "pieces_of_shape")),
  He.eqO (PySem.W.nsIn K mainGlobals "write_effect") (some (some (.ref (He.ga K "write_effect")))),
  PySem.W.keepIn K (.ref (He.ga K "write_effect")),
  He.eqO (PySem.W.nsIn K mainGlobals "effect") (some (some (.ref (He.ga K "effect")))),
  PySem.W.keepIn K (.ref (He.ga K "effect")),
  He.eqO (PySem.W.nsIn K mainGlobals "reach") (some (some (.ref (He.ga K "reach")))),
  PySem.W.keepIn K (.ref (He.ga K "reach")),
  He.eqO (PySem.W.nsIn K mainGlobals "is_first_order_effect") (some (some (.ref (He.ga K "is_first_order_effect")))),
  PySem.W.keepIn K (.ref (He.ga K "is_first_order_effect")),
  He.eqO (PySem.W.nsIn K mainGlobals "is_first_order") (some (some (.ref (He.ga K "is_first_order")))),
  PySem.W.keepIn K (.ref (He.ga K "is_first_order")),
  He.eqO (PySem.W.nsIn K mainGlobals "_law_purse") (some (some (.ref (He.ga K "_law_purse"))))]
def exL2 (K : PySem.W.Frag) : List Bool := [
  PySem.W.keepIn K (.ref (He.ga K "_law_purse")),
  He.eqO (PySem.W.nsIn K mainGlobals "_law_draw") (some (some (.ref (He.ga K "_law_draw")))),
  PySem.W.keepIn K (.ref (He.ga K "_law_draw")),
  He.eqO (PySem.W.nsIn K mainGlobals "_law_letters") (some (some (.ref (He.ga K "_law_letters")))),
  PySem.W.keepIn K (.ref (He.ga K "_law_letters")),
  He.eqO (PySem.W.nsIn K mainGlobals "_law_tags") (some (some (.ref (He.ga K "_law_tags")))),
  PySem.W.keepIn K (.ref (He.ga K "_law_tags")),
  He.eqO (PySem.W.nsIn K mainGlobals "_law_kinds") (some (some (.ref (He.ga K "_law_kinds")))),
  PySem.W.keepIn K (.ref (He.ga K "_law_kinds")),
  He.eqO (PySem.W.nsIn K mainGlobals "_law_vocabulary") (some (some (.ref (He.ga K "_law_vocabulary")))),
  PySem.W.keepIn K (.ref (He.ga K "_law_vocabulary")),
  He.eqO (PySem.W.nsIn K mainGlobals "_law_line") (some (some (.ref (He.ga K "_law_line")))),
  PySem.W.keepIn K (.ref (He.ga K "_law_line")),
  He.eqO (PySem.W.nsIn K mainGlobals "_law_shuffle") (some (some (.ref (He.ga K "_law_shuffle")))),
  PySem.W.keepIn K (.ref (He.ga K "_law_shuffle")),
  He.eqO (PySem.W.nsIn K mainGlobals "_law_number") (some (some (.ref (He.ga K "_law_number")))),
  PySem.W.keepIn K (.ref (He.ga K "_law_number")),
  He.eqO (PySem.W.nsIn K mainGlobals "_law_shuffled") (some (some (.ref (He.ga K "_law_shuffled")))),
  PySem.W.keepIn K (.ref (He.ga K "_law_shuffled")),
  He.eqO (PySem.W.nsIn K mainGlobals "_law_one_right") (some (some (.ref (He.ga K "_law_one_right")))),
  PySem.W.keepIn K (.ref (He.ga K "_law_one_right")),
  He.eqO (PySem.W.nsIn K mainGlobals "_law_right") (some (some (.ref (He.ga K "_law_right")))),
  PySem.W.keepIn K (.ref (He.ga K "_law_right")),
  He.eqO (PySem.W.nsIn K mainGlobals "_law_by_hand") (some (some (.ref (He.ga K "_law_by_hand")))),
  PySem.W.keepIn K (.ref (He.ga K "_law_by_hand")),
  He.eqO (PySem.W.nsIn K mainGlobals "law") (some (some (.ref (He.ga K "law")))),
  PySem.W.keepIn K (.ref (He.ga K "law")),
  He.eqO (PySem.W.findIn K (.ref (He.ga K "Vocabulary")) "__init__") (some (some (.ref (He.ma K (He.ga K "Vocabulary") "__init__")))),
  PySem.W.keepIn K (.ref (He.ma K (He.ga K "Vocabulary") "__init__")),
  He.eqO (PySem.W.findIn K (.ref (He.ga K "Vocabulary")) "arity") (some (some (.ref (He.ma K (He.ga K "Vocabulary") "arity")))),
  PySem.W.keepIn K (.ref (He.ma K (He.ga K "Vocabulary") "arity")),
  He.eqO (PySem.W.findIn K (.ref (He.ga K "Program")) "__init__") (some (some (.ref (He.ma K (He.ga K "Program") "__init__")))),
  PySem.W.keepIn K (.ref (He.ma K (He.ga K "Program") "__init__")),
  He.eqO (PySem.W.findIn K (.ref (He.ga K "Program")) "quoted") (some (some (.ref (He.ma K (He.ga K "Program") "quoted")))),
  PySem.W.keepIn K (.ref (He.ma K (He.ga K "Program") "quoted")),
  He.eqO (PySem.W.findIn K (.ref (He.ga K "Shapes")) "__init__") (some (some (.ref (He.ma K (He.ga K "Shapes") "__init__")))),
  PySem.W.keepIn K (.ref (He.ma K (He.ga K "Shapes") "__init__")),
  He.eqO (PySem.W.findIn K (.ref (He.ga K "Shapes")) "make") (some (some (.ref (He.ma K (He.ga K "Shapes") "make")))),
  PySem.W.keepIn K (.ref (He.ma K (He.ga K "Shapes") "make")),
  He.eqO (PySem.W.findIn K (.ref (He.ga K "Shapes")) "pile") (some (some (.ref (He.ma K (He.ga K "Shapes") "pile")))),
  PySem.W.keepIn K (.ref (He.ma K (He.ga K "Shapes") "pile")),
  He.eqO (PySem.W.findIn K (.ref (He.ga K "Shapes")) "settle") (some (some (.ref (He.ma K (He.ga K "Shapes") "settle")))),
  PySem.W.keepIn K (.ref (He.ma K (He.ga K "Shapes") "settle")),
  He.eqO (PySem.W.findIn K (.ref (He.ga K "Shapes")) "kind_of") (some (some (.ref (He.ma K (He.ga K "Shapes") "kind_of")))),
  PySem.W.keepIn K (.ref (He.ma K (He.ga K "Shapes") "kind_of")),
  He.eqO (PySem.W.findIn K (.ref (He.ga K "Shapes")) "is_variable") (some (some (.ref (He.ma K (He.ga K "Shapes") "is_variable")))),
  PySem.W.keepIn K (.ref (He.ma K (He.ga K "Shapes") "is_variable")),
  He.eqO (PySem.W.findIn K (.ref (He.ga K "Shapes")) "parts_of") (some (some (.ref (He.ma K (He.ga K "Shapes") "parts_of")))),
  PySem.W.keepIn K (.ref (He.ma K (He.ga K "Shapes") "parts_of")),
  He.eqO (PySem.W.findIn K (.ref (He.ga K "Shapes")) "spread") (some (some (.ref (He.ma K (He.ga K "Shapes") "spread"))))]
def exL3 (K : PySem.W.Frag) : List Bool := [
  PySem.W.keepIn K (.ref (He.ma K (He.ga K "Shapes") "spread")),
  He.eqO (PySem.W.findIn K (.ref (He.ga K "Shapes")) "unify") (some (some (.ref (He.ma K (He.ga K "Shapes") "unify")))),
  PySem.W.keepIn K (.ref (He.ma K (He.ga K "Shapes") "unify")),
  He.eqO (PySem.W.findIn K (.ref (He.ga K "Shapes")) "is_finite") (some (some (.ref (He.ma K (He.ga K "Shapes") "is_finite")))),
  PySem.W.keepIn K (.ref (He.ma K (He.ga K "Shapes") "is_finite")),
  He.eqO (PySem.W.findIn K (.ref (He.ga K "Effect")) "__init__") (some (some (.ref (He.ma K (He.ga K "Effect") "__init__")))),
  PySem.W.keepIn K (.ref (He.ma K (He.ga K "Effect") "__init__")),
  smB K (He.ga K "Vocabulary") "read",
  smR K (smA K (He.ga K "Vocabulary") "read"),
  PySem.W.keepIn K (.ref (smF K (smA K (He.ga K "Vocabulary") "read"))),
  He.eqO (PySem.W.nsIn K mainGlobals "int") (some none),
  He.eqO (PySem.W.nsIn K mainGlobals "len") (some none),
  He.eqO (PySem.W.nsIn K mainGlobals "abs") (some none),
  He.eqO (PySem.W.nsIn K mainGlobals "divmod") (some none),
  He.eqO (PySem.W.nsIn K mainGlobals "max") (some none),
  He.eqO (PySem.W.nsIn K mainGlobals "min") (some none),
  He.eqO (PySem.W.nsIn K mainGlobals "range") (some none),
  He.eqO (PySem.W.nsIn K mainGlobals "all") (some none),
  He.eqO (PySem.W.nsIn K mainGlobals "isinstance") (some none),
  He.eqO (PySem.W.nsIn K mainGlobals "bool") (some none),
  He.eqO (PySem.W.nsIn K mainGlobals "str") (some none),
  He.eqO (PySem.W.nsIn K mainGlobals "tuple") (some none),
  He.eqO (PySem.W.nsIn K mainGlobals "set") (some none),
  He.eqO (PySem.W.nsIn K mainGlobals "enumerate") (some none),
  He.eqO (PySem.W.nsIn K mainGlobals "sorted") (some none),
  He.eqO (PySem.W.nsIn K mainGlobals "repr") (some none),
  strB K "LETTERS" "abcdefghijklmnopqrstuvwxyz",
  intB K "LONGEST_NAME" 8,
  intB K "MOST_ARITY" 3,
  intB K "MOST_ENTRIES" 8,
  strB K "QUOTATION_words" "quotation",
  strB K "UNKNOWN" "unknown",
  strB K "LITERAL" "literal",
  strB K "FIGURES" "0123456789",
  intB K "MOST_FIGURES" 18,
  intB K "MOST_SIZE" 60,
  intB K "MOST_NESTED" 6,
  intB K "MOST_TAKEN" 5,
  intB K "MOST_LEFT" 8,
  strB K "CORE" "core",
  strB K "SHUFFLE" "shuffle",
  strB K "STACK_VARIABLE" "stack variable",
  strB K "VALUE_VARIABLE" "value variable",
  strB K "PLAIN" "plain",
  strB K "QUOTATION_shapes" "quotation",
  strB K "PUSH" "push",
  intB K "MOST_TEXT" 2000,
  strB K "ARROW" " -> ",
  chkA K (He.ga K "InvalidEntries") (He.ga K "InvalidText") (He.ga K "Vocabulary") (He.ga K "Program") (He.ga K "Shapes") (He.ga K "Effect") (He.ma K (He.ga K "InvalidEntries") "__init__") (He.ma K (He.ga K "InvalidText") "__init__") (He.ma K (He.ga K "Vocabulary") "__init__") (He.ma K (He.ga K "Vocabulary") "arity") (He.ma K (He.ga K "Program") "__init__") (He.ma K (He.ga K "Program") "quoted") (He.ma K (He.ga K "Shapes") "__init__") (He.ma K (He.ga K "Shapes") "make") (He.ma K (He.ga K "Shapes") "pile") (He.ma K (He.ga K "Shapes") "settle") (He.ma K (He.ga K "Shapes") "kind_of") (He.ma K (He.ga K "Shapes") "is_variable") (He.ma K (He.ga K "Shapes") "parts_of") (He.ma K (He.ga K "Shapes") "spread") (He.ma K (He.ga K "Shapes") "unify") (He.ma K (He.ga K "Shapes") "is_finite") (He.ma K (He.ga K "Effect") "__init__") (He.ga K "DIGITS") (He.ga K "CORE_EFFECTS") (smA K (He.ga K "Vocabulary") "read") (smF K (smA K (He.ga K "Vocabulary") "read")) (He.ga K "effect_of_call") (He.ga K "effect_of_dip") (He.ga K "effect_of_curry") (He.ga K "effect_of_compose") (He.ga K "effect_of_choose")]
def exL (K : PySem.W.Frag) : List Bool := exL0 K ++ (exL1 K ++ (exL2 K ++ (exL3 K)))
theorem facts9 {l : PySem.W.OpenLaw} {w : World} {K : PySem.W.Frag} {h : Heap} {mg : Str → Option Value} {fa : Addr} (X : K.In h) (G : h.Ns mainGlobals mg) (hfa : mg "law" = some (.ref fa)) (c : SaysM fnL tsL dsL exL w K) : AtG l w K 15 63 "_law_script" mg fa h := by
  obtain ⟨_, _, _, _, _, _, _, _, lC⟩ := tup5 (c.ex 8 rfl)
  obtain ⟨_, _, _, _, _, _, _, _, _, lDg⟩ := dic4 (c.dic 0 rfl)
  obtain ⟨_, _, _, _, _, _, _, _, _, lke, yke⟩ := c.fn 0 rfl
  obtain ⟨_, _, _, _, _, _, _, _, _, lkt, ykt⟩ := c.fn 1 rfl
  obtain ⟨_, _, _, _, _, _, _, _, _, l_0, y_0⟩ := c.fn 2 rfl
  obtain ⟨_, _, _, _, _, _, _, _, _, l_1, y_1⟩ := c.fn 3 rfl
  obtain ⟨_, _, _, _, _, _, _, _, _, l_2, y_2⟩ := c.fn 4 rfl
  obtain ⟨_, _, _, _, _, _, _, _, _, l_3, y_3⟩ := c.fn 5 rfl
  obtain ⟨_, _, _, _, _, _, _, _, _, l_4, y_4⟩ := c.fn 6 rfl
  obtain ⟨_, _, _, _, _, _, _, _, _, l_5, y_5⟩ := c.fn 7 rfl
  obtain ⟨_, _, _, _, _, _, _, _, _, l_6, y_6⟩ := c.fn 8 rfl
  obtain ⟨_, _, _, _, _, _, _, _, _, l_7, y_7⟩ := c.fn 9 rfl
  obtain ⟨_, _, _, _, _, _, _, _, _, l_8, y_8⟩ := c.fn 10 rfl
  obtain ⟨_, _, _, _, _, _, _, _, _, l_9, y_9⟩ := c.fn 11 rfl
  obtain ⟨_, _, _, _, _, _, _, _, _, l_10, y_10⟩ := c.fn 12 rfl
  obtain ⟨_, _, _, _, _, _, _, _, _, l_11, y_11⟩ := c.fn 13 rfl
  obtain ⟨_, _, _, _, _, _, _, _, _, l_12, y_12⟩ := c.fn 14 rfl
  obtain ⟨_, _, _, _, _, _, _, _, _, l_13, y_13⟩ := c.fn 15 rfl
  obtain ⟨_, _, _, _, _, _, _, _, _, l_14, y_14⟩ := c.fn 16 rfl
  obtain ⟨_, _, _, _, _, _, _, _, _, l_15, y_15⟩ := c.fn 17 rfl
  obtain ⟨_, _, _, _, _, _, _, _, _, l_16, y_16⟩ := c.fn 18 rfl
  obtain ⟨_, _, _, _, _, _, _, _, _, l_17, y_17⟩ := c.fn 19 rfl
  obtain ⟨_, _, _, _, _, _, _, _, _, l_18, y_18⟩ := c.fn 20 rfl
  obtain ⟨_, _, _, _, _, _, _, _, _, l_19, y_19⟩ := c.fn 21 rfl
  obtain ⟨_, _, _, _, _, _, _, _, _, l_20, y_20⟩ := c.fn 22 rfl
  obtain ⟨_, _, _, _, _, _, _, _, _, l_21, y_21⟩ := c.fn 23 rfl
  obtain ⟨_, _, _, _, _, _, _, _, _, l_22, y_22⟩ := c.fn 24 rfl
  obtain ⟨_, _, _, _, _, _, _, _, _, l_23, y_23⟩ := c.fn 25 rfl
  obtain ⟨_, _, _, _, _, _, _, _, _, l_24, y_24⟩ := c.fn 26 rfl
  obtain ⟨_, _, _, _, _, _, _, _, _, l_25, y_25⟩ := c.fn 27 rfl
  obtain ⟨_, _, _, _, _, _, _, _, _, l_26, y_26⟩ := c.fn 28 rfl
  obtain ⟨_, _, _, _, _, _, _, _, _, l_27, y_27⟩ := c.fn 29 rfl
  obtain ⟨_, _, _, _, _, _, _, _, _, l_28, y_28⟩ := c.fn 30 rfl
  obtain ⟨_, _, _, _, _, _, _, _, _, l_29, y_29⟩ := c.fn 31 rfl
  obtain ⟨_, _, _, _, _, _, _, _, _, l_30, y_30⟩ := c.fn 32 rfl
  obtain ⟨_, _, _, _, _, _, _, _, _, l_31, y_31⟩ := c.fn 33 rfl
  obtain ⟨_, _, _, _, _, _, _, _, _, l_32, y_32⟩ := c.fn 34 rfl
  obtain ⟨_, _, _, _, _, _, _, _, _, l_33, y_33⟩ := c.fn 35 rfl
  obtain ⟨_, _, _, _, _, _, _, _, _, l_34, y_34⟩ := c.fn 36 rfl
  obtain ⟨_, _, _, _, _, _, _, _, _, l_35, y_35⟩ := c.fn 37 rfl
  obtain ⟨_, _, _, _, _, _, _, _, _, l_36, y_36⟩ := c.fn 38 rfl
  obtain ⟨_, _, _, _, _, _, _, _, _, l_37, y_37⟩ := c.fn 39 rfl
  obtain ⟨_, _, _, _, _, _, _, _, _, l_38, y_38⟩ := c.fn 40 rfl
  obtain ⟨_, _, _, _, _, _, _, _, _, l_39, y_39⟩ := c.fn 41 rfl
  obtain ⟨_, _, _, _, _, _, _, _, _, l_40, y_40⟩ := c.fn 42 rfl
  obtain ⟨_, _, _, _, _, _, _, _, _, l_41, y_41⟩ := c.fn 43 rfl
  obtain ⟨_, _, _, _, _, _, _, _, _, l_42, y_42⟩ := c.fn 44 rfl
  obtain ⟨_, _, _, _, _, _, _, _, _, l_43, y_43⟩ := c.fn 45 rfl
  obtain ⟨_, _, _, _, _, _, _, _, _, l_44, y_44⟩ := c.fn 46 rfl
  obtain ⟨_, _, _, _, _, _, _, _, _, l_45, y_45⟩ := c.fn 47 rfl
  obtain ⟨_, _, _, _, _, _, _, _, _, l_46, y_46⟩ := c.fn 48 rfl
  obtain ⟨_, _, _, _, _, _, _, _, _, l_47, y_47⟩ := c.fn 49 rfl
  obtain ⟨_, _, _, _, _, _, _, _, _, l_48, y_48⟩ := c.fn 50 rfl
  obtain ⟨_, _, _, _, _, _, _, _, _, l_49, y_49⟩ := c.fn 51 rfl
  obtain ⟨_, _, _, _, _, _, _, _, _, l_50, y_50⟩ := c.fn 52 rfl
  obtain ⟨_, _, _, _, _, _, _, _, _, l_51, y_51⟩ := c.fn 53 rfl
  obtain ⟨_, _, _, _, _, _, _, _, _, l_52, y_52⟩ := c.fn 54 rfl
  obtain ⟨_, _, _, _, _, _, _, _, _, l_53, y_53⟩ := c.fn 55 rfl
  obtain ⟨_, _, _, _, _, _, _, _, _, lI_, yI_⟩ := c.fn 56 rfl
  obtain ⟨_, _, _, _, _, _, _, _, _, lA_, yA_⟩ := c.fn 57 rfl
  obtain ⟨_, _, _, _, _, _, _, _, _, lJ_, yJ_⟩ := c.fn 58 rfl
  obtain ⟨_, _, _, _, _, _, _, _, _, lD_, yD_⟩ := c.fn 59 rfl
  obtain ⟨_, _, _, _, _, _, _, _, _, lX0_, yX0_⟩ := c.fn 60 rfl
  obtain ⟨_, _, _, _, _, _, _, _, _, lX1_, yX1_⟩ := c.fn 61 rfl
  obtain ⟨_, _, _, _, _, _, _, _, _, lX2_, yX2_⟩ := c.fn 62 rfl
  obtain ⟨_, _, _, _, _, _, _, _, _, lX3_, yX3_⟩ := c.fn 63 rfl
  obtain ⟨_, _, _, _, _, _, _, _, _, lX4_, yX4_⟩ := c.fn 64 rfl
  obtain ⟨_, _, _, _, _, _, _, _, _, lX5_, yX5_⟩ := c.fn 65 rfl
  obtain ⟨_, _, _, _, _, _, _, _, _, lX6_, yX6_⟩ := c.fn 66 rfl
  obtain ⟨_, _, _, _, _, _, _, _, _, lX7_, yX7_⟩ := c.fn 67 rfl
  obtain ⟨_, _, _, _, _, _, _, _, _, lX8_, yX8_⟩ := c.fn 68 rfl
  obtain ⟨_, _, _, _, _, _, _, _, _, lX9_, yX9_⟩ := c.fn 69 rfl
  obtain ⟨_, _, _, _, _, _, _, _, _, lY0_, yY0_⟩ := c.fn 70 rfl
  obtain ⟨_, rRd⟩ := smR_ok (c.ex 158 rfl)
  obtain ⟨_, _, _, _, _, _, _, _, _, lRd_, yRd_⟩ := c.fn 71 rfl
  obtain ⟨_, w0⟩ := strB_ok (c.ex 176 rfl)
  obtain ⟨_, w1⟩ := intB_ok (c.ex 177 rfl)
  obtain ⟨_, w2⟩ := intB_ok (c.ex 178 rfl)
  obtain ⟨_, w3⟩ := intB_ok (c.ex 179 rfl)
  obtain ⟨_, w4⟩ := strB_ok (c.ex 180 rfl)
  obtain ⟨_, w5⟩ := strB_ok (c.ex 181 rfl)
  obtain ⟨_, w6⟩ := strB_ok (c.ex 182 rfl)
  obtain ⟨_, w7⟩ := strB_ok (c.ex 183 rfl)
  obtain ⟨_, w8⟩ := intB_ok (c.ex 184 rfl)
  obtain ⟨_, w9⟩ := intB_ok (c.ex 185 rfl)
  obtain ⟨_, w10⟩ := intB_ok (c.ex 186 rfl)
  obtain ⟨_, w11⟩ := intB_ok (c.ex 187 rfl)
  obtain ⟨_, w12⟩ := intB_ok (c.ex 188 rfl)
  obtain ⟨_, w13⟩ := strB_ok (c.ex 189 rfl)
  obtain ⟨_, w14⟩ := strB_ok (c.ex 190 rfl)
  obtain ⟨_, w15⟩ := strB_ok (c.ex 191 rfl)
  obtain ⟨_, w16⟩ := strB_ok (c.ex 192 rfl)
  obtain ⟨_, w17⟩ := strB_ok (c.ex 193 rfl)
  obtain ⟨_, w18⟩ := strB_ok (c.ex 194 rfl)
  obtain ⟨_, w19⟩ := strB_ok (c.ex 195 rfl)
  obtain ⟨_, w20⟩ := intB_ok (c.ex 196 rfl)
  obtain ⟨_, w21⟩ := strB_ok (c.ex 197 rfl)
  exact all_mk X G hfa (He.eqO_ok (c.ex 0 rfl)) (He.eqO_ok (c.ex 1 rfl)) (He.eqO_ok (c.ex 2 rfl)) (He.eqO_ok (c.ex 3 rfl)) (He.eqO_ok (c.ex 4 rfl)) (He.eqO_ok (c.ex 5 rfl)) (He.eqO_ok (c.ex 6 rfl)) (He.eqO_ok (c.ex 7 rfl)) lC (He.eqO_ok (c.ex 9 rfl)) lDg (c.tab 0 rfl) (He.eqO_ok (c.ex 10 rfl)) (He.eqO_ok (c.ex 11 rfl)) (He.eqO_ok (c.ex 12 rfl)) (He.eqO_ok (c.ex 13 rfl)) (He.eqO_ok (c.ex 14 rfl)) (He.eqO_ok (c.ex 15 rfl)) (kvN_ok lke (c.ex 16 rfl)) yke (He.eqO_ok (c.ex 17 rfl)) (kvN_ok lkt (c.ex 18 rfl)) ykt (He.eqO_ok (c.ex 19 rfl)) l_0 y_0 (c.ex 20 rfl) (He.eqO_ok (c.ex 21 rfl)) l_1 y_1 (c.ex 22 rfl) (He.eqO_ok (c.ex 23 rfl)) l_2 y_2 (c.ex 24 rfl) (He.eqO_ok (c.ex 25 rfl)) l_3 y_3 (c.ex 26 rfl) (He.eqO_ok (c.ex 27 rfl)) l_4 y_4 (c.ex 28 rfl) (He.eqO_ok (c.ex 29 rfl)) l_5 y_5 (c.ex 30 rfl) (He.eqO_ok (c.ex 31 rfl)) l_6 y_6 (c.ex 32 rfl) (He.eqO_ok (c.ex 33 rfl)) l_7 y_7 (c.ex 34 rfl) (He.eqO_ok (c.ex 35 rfl)) l_8 y_8 (c.ex 36 rfl) (He.eqO_ok (c.ex 37 rfl)) l_9 y_9 (c.ex 38 rfl) (He.eqO_ok (c.ex 39 rfl)) l_10 y_10 (c.ex 40 rfl) (He.eqO_ok (c.ex 41 rfl)) l_11 y_11 (c.ex 42 rfl) (He.eqO_ok (c.ex 43 rfl)) l_12 y_12 (c.ex 44 rfl) (He.eqO_ok (c.ex 45 rfl)) l_13 y_13 (c.ex 46 rfl) (He.eqO_ok (c.ex 47 rfl)) l_14 y_14 (c.ex 48 rfl) (He.eqO_ok (c.ex 49 rfl)) l_15 y_15 (c.ex 50 rfl) (He.eqO_ok (c.ex 51 rfl)) l_16 y_16 (c.ex 52 rfl) (He.eqO_ok (c.ex 53 rfl)) l_17 y_17 (c.ex 54 rfl) (He.eqO_ok (c.ex 55 rfl)) l_18 y_18 (c.ex 56 rfl) (He.eqO_ok (c.ex 57 rfl)) l_19 y_19 (c.ex 58 rfl) (He.eqO_ok (c.ex 59 rfl)) l_20 y_20 (c.ex 60 rfl) (He.eqO_ok (c.ex 61 rfl)) l_21 y_21 (c.ex 62 rfl) (He.eqO_ok (c.ex 63 rfl)) l_22 y_22 (c.ex 64 rfl) (He.eqO_ok (c.ex 65 rfl)) l_23 y_23 (c.ex 66 rfl) (He.eqO_ok (c.ex 67 rfl)) l_24 y_24 (c.ex 68 rfl) (He.eqO_ok (c.ex 69 rfl)) l_25 y_25 (c.ex 70 rfl) (He.eqO_ok (c.ex 71 rfl)) l_26 y_26 (c.ex 72 rfl) (He.eqO_ok (c.ex 73 rfl)) l_27 y_27 (c.ex 74 rfl) (He.eqO_ok (c.ex 75 rfl)) l_28 y_28 (c.ex 76 rfl) (He.eqO_ok (c.ex 77 rfl)) l_29 y_29 (c.ex 78 rfl) (He.eqO_ok (c.ex 79 rfl)) l_30 y_30 (c.ex 80 rfl) (He.eqO_ok (c.ex 81 rfl)) l_31 y_31 (c.ex 82 rfl) (He.eqO_ok (c.ex 83 rfl)) l_32 y_32 (c.ex 84 rfl) (He.eqO_ok (c.ex 85 rfl)) l_33 y_33 (c.ex 86 rfl) (He.eqO_ok (c.ex 87 rfl)) l_34 y_34 (c.ex 88 rfl) (He.eqO_ok (c.ex 89 rfl)) l_35 y_35 (c.ex 90 rfl) (He.eqO_ok (c.ex 91 rfl)) l_36 y_36 (c.ex 92 rfl) (He.eqO_ok (c.ex 93 rfl)) l_37 y_37 (c.ex 94 rfl) (He.eqO_ok (c.ex 95 rfl)) l_38 y_38 (c.ex 96 rfl) (He.eqO_ok (c.ex 97 rfl)) l_39 y_39 (c.ex 98 rfl) (He.eqO_ok (c.ex 99 rfl)) l_40 y_40 (c.ex 100 rfl) (He.eqO_ok (c.ex 101 rfl)) l_41 y_41 (c.ex 102 rfl) (He.eqO_ok (c.ex 103 rfl)) l_42 y_42 (c.ex 104 rfl) (He.eqO_ok (c.ex 105 rfl)) l_43 y_43 (c.ex 106 rfl) (He.eqO_ok (c.ex 107 rfl)) l_44 y_44 (c.ex 108 rfl) (He.eqO_ok (c.ex 109 rfl)) l_45 y_45 (c.ex 110 rfl) (He.eqO_ok (c.ex 111 rfl)) l_46 y_46 (c.ex 112 rfl) (He.eqO_ok (c.ex 113 rfl)) l_47 y_47 (c.ex 114 rfl) (He.eqO_ok (c.ex 115 rfl)) l_48 y_48 (c.ex 116 rfl) (He.eqO_ok (c.ex 117 rfl)) l_49 y_49 (c.ex 118 rfl) (He.eqO_ok (c.ex 119 rfl)) l_50 y_50 (c.ex 120 rfl) (He.eqO_ok (c.ex 121 rfl)) l_51 y_51 (c.ex 122 rfl) (He.eqO_ok (c.ex 123 rfl)) l_52 y_52 (c.ex 124 rfl) (He.eqO_ok (c.ex 125 rfl)) l_53 y_53 (c.ex 126 rfl) (He.eqO_ok (c.ex 127 rfl)) lI_ yI_ (c.ex 128 rfl) (He.eqO_ok (c.ex 129 rfl)) lA_ yA_ (c.ex 130 rfl) (He.eqO_ok (c.ex 131 rfl)) lJ_ yJ_ (c.ex 132 rfl) (He.eqO_ok (c.ex 133 rfl)) lD_ yD_ (c.ex 134 rfl) (He.eqO_ok (c.ex 135 rfl)) lX0_ yX0_ (c.ex 136 rfl) (He.eqO_ok (c.ex 137 rfl)) lX1_ yX1_ (c.ex 138 rfl) (He.eqO_ok (c.ex 139 rfl)) lX2_ yX2_ (c.ex 140 rfl) (He.eqO_ok (c.ex 141 rfl)) lX3_ yX3_ (c.ex 142 rfl) (He.eqO_ok (c.ex 143 rfl)) lX4_ yX4_ (c.ex 144 rfl) (He.eqO_ok (c.ex 145 rfl)) lX5_ yX5_ (c.ex 146 rfl) (He.eqO_ok (c.ex 147 rfl)) lX6_ yX6_ (c.ex 148 rfl) (He.eqO_ok (c.ex 149 rfl)) lX7_ yX7_ (c.ex 150 rfl) (He.eqO_ok (c.ex 151 rfl)) lX8_ yX8_ (c.ex 152 rfl) (He.eqO_ok (c.ex 153 rfl)) lX9_ yX9_ (c.ex 154 rfl) (He.eqO_ok (c.ex 155 rfl)) lY0_ yY0_ (c.ex 156 rfl) (smB_ok (c.ex 157 rfl)) rRd lRd_ yRd_ (c.ex 159 rfl) (He.eqO_ok (c.ex 160 rfl)) (He.eqO_ok (c.ex 161 rfl)) (He.eqO_ok (c.ex 162 rfl)) (He.eqO_ok (c.ex 163 rfl)) (He.eqO_ok (c.ex 164 rfl)) (He.eqO_ok (c.ex 165 rfl)) (He.eqO_ok (c.ex 166 rfl)) (He.eqO_ok (c.ex 167 rfl)) (He.eqO_ok (c.ex 168 rfl)) (He.eqO_ok (c.ex 169 rfl)) (He.eqO_ok (c.ex 170 rfl)) (He.eqO_ok (c.ex 171 rfl)) (He.eqO_ok (c.ex 172 rfl)) (He.eqO_ok (c.ex 173 rfl)) (He.eqO_ok (c.ex 174 rfl)) (He.eqO_ok (c.ex 175 rfl)) w0 w1 w2 w3 w4 w5 w6 w7 w8 w9 w10 w11 w12 w13 w14 w15 w16 w17 w18 w19 w20 w21 (c.ex 198 rfl)
end SQ9
set_option maxHeartbeats 0
namespace SQ9H
open PySem PySem.Spec PyProof.Rows L2 SQ
def lo0 : List Str := [("_wall" : Str), ("InputError" : Str), ("NotAVocabulary" : Str), ("NotAProgram" : Str), ("InvalidText" : Str), ("InvalidPlace" : Str), ("InvalidName" : Str), ("InvalidEntries" : Str), ("ProgramError" : Str), ("NoEffect" : Str), ("SizeError" : Str), ("TooLarge" : Str), ("TooDeep" : Str), ("TooLong" : Str), ("STACK_VARIABLE" : Str), ("VALUE_VARIABLE" : Str), ("PLAIN" : Str), ("QUOTATION_shapes" : Str), ("PUSH" : Str), ("Shapes" : Str), ("LETTERS" : Str), ("LONGEST_NAME" : Str), ("CORE_WORDS" : Str), ("is_plain_integer" : Str), ("is_name" : Str), ("is_free_name" : Str), ("LITERAL" : Str), ("SHUFFLE" : Str), ("CORE" : Str), ("UNKNOWN" : Str)]
def lo1 : List Str := [("QUOTATION_words" : Str), ("FIGURES" : Str), ("MOST_FIGURES" : Str), ("MOST_TAKEN" : Str), ("MOST_LEFT" : Str), ("is_literal" : Str), ("split_shuffle" : Str), ("read_word" : Str), ("row_text" : Str), ("quotation_text" : Str), ("quote" : Str), ("split_tokens" : Str), ("read_row" : Str), ("measure_size" : Str), ("measure_depth" : Str), ("Effect" : Str), ("stack_variables" : Str), ("value_variables" : Str), ("plains" : Str), ("effect_of_call" : Str), ("effect_of_dip" : Str), ("effect_of_curry" : Str), ("effect_of_compose" : Str), ("effect_of_choose" : Str), ("CORE_EFFECTS" : Str), ("effect_of_word" : Str), ("effect_of_row" : Str), ("principal_effect" : Str), ("MOST_ENTRIES" : Str), ("MOST_SIZE" : Str)]
def lo2 : List Str := [("MOST_NESTED" : Str), ("MOST_TEXT" : Str), ("MOST_ARITY" : Str), ("DIGITS" : Str), ("is_arity" : Str), ("is_entry" : Str), ("check_entries" : Str), ("entry_text" : Str), ("split_entry" : Str), ("split_entries" : Str), ("Vocabulary" : Str), ("check_vocabulary" : Str), ("check_program" : Str), ("check_place" : Str), ("check_limits" : Str), ("Program" : Str), ("ARROW" : Str), ("name_variable" : Str), ("pieces_of_shape" : Str), ("write_effect" : Str), ("effect" : Str), ("reach" : Str), ("is_first_order_effect" : Str), ("is_first_order" : Str), ("_law_purse" : Str), ("_law_draw" : Str), ("_law_letters" : Str), ("_law_tags" : Str), ("_law_kinds" : Str), ("_law_vocabulary" : Str)]
def lo3 : List Str := [("_law_line" : Str), ("_law_shuffle" : Str), ("_law_number" : Str), ("_law_shuffled" : Str), ("_law_one_right" : Str), ("_law_right" : Str), ("_law_by_hand" : Str)]
def lo : List Str := lo0 ++ (lo1 ++ (lo2 ++ (lo3)))
abbrev R : PySem.W.OpenRow := PySem.W.OpenLaw.row PySem.Challenge.rw_stackquotes_k41_effects_of_words
abbrev hk : PySem.W.Hook := SQ.hookM 5 SQ9.fnL SQ9.tsL SQ9.dsL SQ9.exL
def ob (s : PySem.W.SharedT) : SQ.AlM := SQ.obsMG 5 SQ9.fnL SQ9.tsL SQ9.dsL SQ9.exL (HandSHeadRun.getT s)
theorem ob_eq (s : PySem.W.SharedT) : ob s = hk.obs s.abs := SQ.obsMG_eq (HandSHeadRun.getT_eq s)
theorem run_f (w : World) : HandSHeadRun.RunEq R (PySem.W.view R.prog [106]) hk ob 8000 lo (w.withFollow "special-get-raises" false) := by
  intro os
  kernel_rfl
theorem run_t (w : World) : HandSHeadRun.RunEq R (PySem.W.view R.prog [106]) hk ob 8000 lo (w.withFollow "special-get-raises" true) := by
  intro os
  kernel_rfl
theorem run (w : World) : HandSHeadRun.RunEq R (PySem.W.view R.prog [106]) hk ob 8000 lo w := PySem.W.byRow2 "special-get-raises" (P := fun w => HandSHeadRun.RunEq R (PySem.W.view R.prog [106]) hk ob 8000 lo w) run_f run_t w
end SQ9H
open PySem PySem.W PyProof.Rows
theorem PySem.Challenge.cw_stackquotes_k41_effects_of_words_holds : PySem.Challenge.rw_stackquotes_k41_effects_of_words.Holds := by
  w_on; o_law
  refine HandSHeadRun.head_any (r := OpenLaw.row PySem.Challenge.rw_stackquotes_k41_effects_of_words) (q := view (OpenLaw.row PySem.Challenge.rw_stackquotes_k41_effects_of_words).prog [106]) (H := SQ9H.hk) (ob := SQ9H.ob) (M := 8000) (loose := SQ9H.lo) (d := HandSHeadRun.topDef (OpenLaw.row PySem.Challenge.rw_stackquotes_k41_effects_of_words).prog 106) (kwd := []) SQ9H.ob_eq
    (by kernel_rfl) (fun s => by kernel_rfl) SQ9H.run (by kernel_rfl) (by kernel_rfl) (by kernel_rfl) (by rfl) (by first | assumption | decide +kernel) (by decide +kernel) ⟨rfl, rfl, rfl, rfl, rfl, by decide +kernel⟩ ?hw ?hc
  case hw => w_witness2
  case hc =>
    refine SQ.walkGE (l := PySem.Challenge.rw_stackquotes_k41_effects_of_words) (n := 63) (k := 15) (x := "_law_script") rfl (by decide) (by kernel_rfl) ⟨rfl, by decide, by decide⟩ ?F
    intro w mg fa h Y G hmg0
    obtain ⟨K, KX, c⟩ := Y
    have hmg : mg ("law" : PySem.Str) = some (.ref fa) := by
      have e : (HandSHeadRun.topDef (OpenLaw.row PySem.Challenge.rw_stackquotes_k41_effects_of_words).prog 106).name = ("law" : PySem.Str) := by kernel_rfl
      rw [← e]
      exact hmg0
    exact ⟨K, KX, SQ9.facts9 KX G hmg c⟩
