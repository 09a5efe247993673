import PyProof.Rows.All
import Wide.All
import OpenK.AllK
import Wide.FinOn
import HandS.ForMost
import HandS.ForExc
import HandS.ExcInit
import HandS.ExcField
import HandS.TryMany
import HandS.IsInst
import HandS.Wide
import HandS.Small
import HandS.RaiseMore
import PyProof.ReprRoads
import KE.KSuper
import HandS.ClsMeth
import HandS.Nested
import HandS.More
import PyProof.InstNe
import HandS.SlotsOwn
import HandS.Words
import HandS.NamedTupSort
import KE.KCallOwn
import KE.KOpsOwn
import HandS.Star
import HandS.MethStar
import HandS.StrMore
import HandS.Walk
import HandS.Defaults
import HandS.MakeKwOnly
import HandS.Property
import HandS.NoneIn
import HandS.Style
import OpenK.KMake
import KE.KOwnIter
import HandS.IterVal
import HandS.List
import HandS.TupSets
import HandS.DeepEq
import HandS.GenList
import PyProof.CallFns
import HandS.SetKeys
import HandS.Strs
import HandS.Set
import HandS.SetFor
import KE.SortData
import KE.SortLaws
import KE.DataMinMax
import HandS.Conv
import HandS.DictTup
import PyProof.DictMoreH
import KE.KeyNested
import HandS.DictComp
import HandS.Comp
import HandS.WordsDict
import HandS.Head0
import HandS.Head1
import HandS.Head2
import HandS.HeadHook1
import HandS.HeadHook2
import PySem.Challenge.RW_listviews_k13_neighboring_ranges
set_option Elab.async false
set_option linter.all false
set_option maxRecDepth 100000
set_option maxHeartbeats 2000000
/-! G1: what a def keeps where no guard is under way; repr of data at any depth, dicts too. -/
namespace G
open PySem PySem.Spec PyProof.Rows L2

/-! ### how long a shown text is -/
mutual
def mass : PyData → Nat
  | .none => 4
  | .bool _ => 5
  | .int _ => 1921
  | .str x => (reprText x).length
  | .list xs => 3 + massAll xs
  | .tuple xs => 4 + massAll xs
  | .dict kvs => 3 + massKv kvs
def massAll : List PyData → Nat
  | [] => 0
  | x :: xs => mass x + 2 + massAll xs
def massKv : List (PyData × PyData) → Nat
  | [] => 0
  | (k, v) :: r => mass k + mass v + 4 + massKv r
end
theorem text_from_le : ∀ (ts : List Str) (k : Nat) (acc : Str), (textFrom k acc ts).length ≤ acc.length + piled ts
  | [], k, acc => by
    show acc.length ≤ acc.length + 0
    omega
  | t :: r, k, acc => by
    have h1 := text_from_le r (k + 1) (acc ++ (if k > 0 then ", " else "" : String) ++ t)
    rw [strLen_append, strLen_append] at h1
    have h2 : (((if k > 0 then ", " else "" : String) : Str)).length ≤ 2 := by
      split <;> decide
    show (textFrom (k + 1) _ r).length ≤ _
    rw [piled_cons]
    omega
theorem list_text_le (ts : List Str) : (listText ts).length ≤ 3 + piled ts := by
  unfold listText
  rw [strLen_append]
  have h1 := text_from_le ts 0 "["
  have e1 : ((("[" : String) : Str)).length = 1 := rfl
  have e2 : ((("]" : String) : Str)).length = 1 := rfl
  rw [e1] at h1
  rw [e2]
  omega
theorem join_le (ts : List Str) : (Str.join ", " ts).length ≤ piled ts := by
  by_cases h : ts = []
  · subst h
    exact Nat.le_refl 0
  · have := join_length_add ts h
    omega
theorem tuple_text_le (ts : List Str) : (tupleText ts).length ≤ 4 + piled ts := by
  unfold tupleText
  rw [strLen_append, strLen_append]
  have h1 := join_le ts
  have e1 : ((("(" : String) : Str)).length = 1 := rfl
  have e3 : (((if ts.length == 1 then ",)" else ")" : String) : Str)).length ≤ 2 := by split <;> decide
  rw [e1]
  omega
theorem dict_text_le (ts : List Str) : (dictText ts).length ≤ 3 + piled ts := by
  unfold dictText
  rw [strLen_append, strLen_append]
  have h1 := join_le ts
  have e1 : ((("{" : String) : Str)).length = 1 := rfl
  have e3 : ((("}" : String) : Str)).length = 1 := rfl
  rw [e1, e3]
  omega
mutual
theorem shown_le : ∀ d : PyData, d.showable = true → d.shown.length ≤ mass d
  | .none, _ => by decide
  | .bool b, _ => by cases b <;> decide
  | .int i, h => by
    have h' : i.natAbs.log2 < 1920 := by simpa [PyData.showable] using h
    have h2 := int_text_length_le (by decide) h'
    show (Str.ofString (toString i)).length ≤ 1921
    rw [PySem.ofString_length]
    exact h2
  | .str x, _ => by
    simp only [PyData.shown, mass]
    exact Nat.le_refl _
  | .list xs, h => by
    have h' : PyData.showableAll xs = true := by simpa [PyData.showable] using h
    have h1 := list_text_le (PyData.shownAll xs)
    have h2 := shown_all_le xs h'
    simp only [PyData.shown, mass]
    omega
  | .tuple xs, h => by
    have h' : PyData.showableAll xs = true := by simpa [PyData.showable] using h
    have h1 := tuple_text_le (PyData.shownAll xs)
    have h2 := shown_all_le xs h'
    simp only [PyData.shown, mass]
    omega
  | .dict kvs, h => by
    have h' : PyData.showableKv kvs = true := by simpa [PyData.showable] using h
    have h1 := dict_text_le (PyData.shownKv kvs)
    have h2 := shown_kv_le kvs h'
    simp only [PyData.shown, mass]
    omega
theorem shown_all_le : ∀ xs : List PyData, PyData.showableAll xs = true → piled (PyData.shownAll xs) ≤ massAll xs
  | [], _ => by
    simp only [PyData.shownAll, massAll, piled_nil]
    exact Nat.le_refl _
  | x :: xs, h => by
    simp only [PyData.showableAll, Bool.and_eq_true] at h
    have h1 := shown_le x h.1
    have h2 := shown_all_le xs h.2
    simp only [PyData.shownAll, massAll, piled_cons]
    omega
theorem shown_kv_le : ∀ xs : List (PyData × PyData), PyData.showableKv xs = true → piled (PyData.shownKv xs) ≤ massKv xs
  | [], _ => by
    simp only [PyData.shownKv, massKv, piled_nil]
    exact Nat.le_refl _
  | (k, v) :: xs, h => by
    simp only [PyData.showableKv, Bool.and_eq_true] at h
    have h1 := shown_le k h.1.1
    have h2 := shown_le v h.1.2
    have h3 := shown_kv_le xs h.2
    have e : (((": " : String) : Str)).length = 2 := rfl
    simp only [PyData.shownKv, massKv, piled_cons, strLen_append, e]
    omega
end

/-! ### data that stands in the heap: lists, tuples, dicts by int and text keys -/
mutual
inductive Rp (K : PySem.W.Frag) (H : Hp) : V → PyData → Prop
  | non : Rp K H .non .none
  | bl (b : Bool) : Rp K H (.bl b) (.bool b)
  | int (i : Int) : Rp K H (.int i) (.int i)
  | str (x : Str) : Rp K H (.str x) (.str x)
  | lst {a : Addr} {xs : List V} {ds : List PyData} : H a = some (.lst xs) → RpAll K H xs ds → Rp K H (.ref a) (.list ds)
  | tup {a : Addr} {xs : List V} {ds : List PyData} : H a = some (.tup xs) → RpAll K H xs ds → Rp K H (.ref a) (.tuple ds)
  | dic {a : Addr} {kvs : List (Key × V)} {ds : List (PyData × PyData)} : H a = some (.dK kvs) → RpAll K H (kvs.map fun p => kV p.1) (ds.map (·.1)) → RpAll K H (kvs.map (·.2)) (ds.map (·.2)) → Rp K H (.ref a) (.dict ds)
inductive RpAll (K : PySem.W.Frag) (H : Hp) : List V → List PyData → Prop
  | nil : RpAll K H [] []
  | cons {v : V} {vs : List V} {d : PyData} {ds : List PyData} : Rp K H v d → RpAll K H vs ds → RpAll K H (v :: vs) (d :: ds)
end

/-! ### .. and how it is read -/
mutual
/-- no list in it: each address that a reading of it counts is a dict's -/
def okS : PyData → Bool
  | .none | .bool _ | .int _ | .str _ => true
  | .list _ => false
  | .tuple xs => okSAll xs
  | .dict kvs => okSKv kvs
def okSAll : List PyData → Bool
  | [] => true
  | x :: xs => okS x && okSAll xs
def okSKv : List (PyData × PyData) → Bool
  | [] => true
  | (k, v) :: r => okS k && okS v && okSKv r
end
theorem okSKv_split : ∀ {kvs : List (PyData × PyData)}, okSKv kvs = true → okSAll (kvs.map (·.1)) = true ∧ okSAll (kvs.map (·.2)) = true
  | [], _ => ⟨rfl, rfl⟩
  | (k, v) :: r, h => by
    simp only [okSKv, Bool.and_eq_true] at h
    obtain ⟨h1, h2⟩ := okSKv_split h.2
    simp only [List.map_cons, okSAll, Bool.and_eq_true]
    exact ⟨⟨h.1.1, h1⟩, h.1.2, h2⟩
theorem pairs_vals {P : Program} {w : World} : ∀ {kvs : List (Key × V)} {vs : List (Key × Value)} {es : List DictEntry}, KV kvs vs → Pairs (mixKind P w) es vs →
    Vals (kvs.map fun p => kV p.1) (es.map (·.key)) ∧ Vals (kvs.map (·.2)) (es.map (·.val))
  | _, _, _, .nil, .nil => ⟨.nil, .nil⟩
  | _, _, _, .cons r t, .cons hk hv p => by
    obtain ⟨h1, h2⟩ := pairs_vals t p
    refine ⟨.cons ?_ h1, .cons ?_ h2⟩
    · dsimp only
      rw [r.1]
      rcases keyIs_shape hk with ⟨i, tk, e1, e2⟩ | ⟨x, tk, e1, e2⟩
      · rw [e1, e2]
        exact ⟨tk, rfl⟩
      · rw [e1, e2]
        exact ⟨tk, rfl⟩
    · dsimp only
      rw [hv]
      exact r.2
section
variable {X : Cx} {pins : List (Addr × Obj)} {σ : L2.St} {H : Hp} {s : Shared}
mutual
theorem rp_reads (I : Inv X pins σ H s) : ∀ (d : PyData) (v : V) (u : Value), Rp X.K H v d → RelV v u → ∃ as, Reads s.heap u d as ∧ (okS d = true → sysModules ∉ as)
  | .none, _, _, h, r => by
    cases h
    cases r
    exact ⟨_, Reads.none, fun _ => by simp⟩
  | .bool b, _, _, h, r => by
    cases h
    cases r
    exact ⟨_, Reads.bool b, fun _ => by simp⟩
  | .int i, _, _, h, r => by
    cases h
    obtain ⟨t, rfl⟩ := r
    exact ⟨_, Reads.int i t, fun _ => by simp⟩
  | .str x, _, _, h, r => by
    cases h
    obtain ⟨t, rfl⟩ := r
    exact ⟨_, Reads.str x t, fun _ => by simp⟩
  | .list ds, _, _, h, r => by
    cases h with
    | lst hs ha =>
      cases r
      obtain ⟨its, rv, ⟨o, n, ho, hc, _, hd⟩, _⟩ := I.list (.of hs)
      obtain ⟨as, hr, _⟩ := rp_readsAll I ds _ its ha rv
      exact ⟨_, Reads.list ho hc hd hr, fun z => by simp [okS] at z⟩
  | .tuple ds, _, _, h, r => by
    cases h with
    | tup hs ha =>
      cases r
      obtain ⟨its, rv, ⟨o, ho, hc, n, hd⟩, _⟩ := I.tuple (.of hs)
      obtain ⟨as, hr, q⟩ := rp_readsAll I ds _ its ha rv
      exact ⟨_, Reads.tuple ho hc hd hr, fun z => q (by simpa [okS] using z)⟩
  | .dict ds, _, _, h, r => by
    cases h with
    | dic hs hk hv =>
      cases r
      obtain ⟨_, hm, vs, rel, o, es, ep, e1, e2, e3, e4, e5, e6⟩ := I.hok _ _ hs
      obtain ⟨r1, r2⟩ := pairs_vals rel e5
      obtain ⟨as, q1, z1⟩ := rp_readsKeys I ds _ _ hk r1
      obtain ⟨bs, q2, z2⟩ := rp_readsVals I ds _ _ hv r2
      refine ⟨_, Reads.dict e1 e2.1 e3 q1 q2, fun z => ?_⟩
      have hz : okSKv ds = true := by simpa [okS] using z
      obtain ⟨k1, k2⟩ := okSKv_split hz
      have hm' := beq_eq_false_iff_ne.mp hm
      intro hin
      rcases List.mem_cons.mp hin with hx | hx
      · exact hm' hx.symm
      · rcases List.mem_append.mp hx with hx | hx
        · exact z1 k1 hx
        · exact z2 k2 hx
theorem rp_readsAll (I : Inv X pins σ H s) : ∀ (ds : List PyData) (vs : List V) (us : List Value), RpAll X.K H vs ds → Vals vs us → ∃ as, ReadsAll s.heap us ds as ∧ (okSAll ds = true → sysModules ∉ as)
  | [], _, _, h, r => by
    cases h
    cases r
    exact ⟨_, ReadsAll.nil, fun _ => by simp⟩
  | d :: ds, _, _, h, r => by
    cases h with
    | cons h1 h2 =>
      cases r with
      | cons r1 r2 =>
        obtain ⟨as, q1, z1⟩ := rp_reads I d _ _ h1 r1
        obtain ⟨bs, q2, z2⟩ := rp_readsAll I ds _ _ h2 r2
        refine ⟨_, ReadsAll.cons q1 q2, fun z => ?_⟩
        simp only [okSAll, Bool.and_eq_true] at z
        intro hin
        rcases List.mem_append.mp hin with hx | hx
        · exact z1 z.1 hx
        · exact z2 z.2 hx
theorem rp_readsKeys (I : Inv X pins σ H s) : ∀ (ds : List (PyData × PyData)) (vs : List V) (us : List Value), RpAll X.K H vs (ds.map (·.1)) → Vals vs us → ∃ as, ReadsAll s.heap us (ds.map (·.1)) as ∧ (okSAll (ds.map (·.1)) = true → sysModules ∉ as)
  | [], _, _, h, r => by
    cases h
    cases r
    exact ⟨_, ReadsAll.nil, fun _ => by simp⟩
  | (d, _) :: ds, _, _, h, r => by
    cases h with
    | cons h1 h2 =>
      cases r with
      | cons r1 r2 =>
        obtain ⟨as, q1, z1⟩ := rp_reads I d _ _ h1 r1
        obtain ⟨bs, q2, z2⟩ := rp_readsKeys I ds _ _ h2 r2
        refine ⟨_, ReadsAll.cons q1 q2, fun z => ?_⟩
        simp only [List.map_cons, okSAll, Bool.and_eq_true] at z
        intro hin
        rcases List.mem_append.mp hin with hx | hx
        · exact z1 z.1 hx
        · exact z2 z.2 hx
theorem rp_readsVals (I : Inv X pins σ H s) : ∀ (ds : List (PyData × PyData)) (vs : List V) (us : List Value), RpAll X.K H vs (ds.map (·.2)) → Vals vs us → ∃ as, ReadsAll s.heap us (ds.map (·.2)) as ∧ (okSAll (ds.map (·.2)) = true → sysModules ∉ as)
  | [], _, _, h, r => by
    cases h
    cases r
    exact ⟨_, ReadsAll.nil, fun _ => by simp⟩
  | (_, d) :: ds, _, _, h, r => by
    cases h with
    | cons h1 h2 =>
      cases r with
      | cons r1 r2 =>
        obtain ⟨as, q1, z1⟩ := rp_reads I d _ _ h1 r1
        obtain ⟨bs, q2, z2⟩ := rp_readsVals I ds _ _ h2 r2
        refine ⟨_, ReadsAll.cons q1 q2, fun z => ?_⟩
        simp only [List.map_cons, okSAll, Bool.and_eq_true] at z
        intro hin
        rcases List.mem_append.mp hin with hx | hx
        · exact z1 z.1 hx
        · exact z2 z.2 hx
end
end

/-! ### repr of a list of such data -/
/-- a list at the top: its own address is not counted -/
theorem repr_top {prog : Program} {w : World} {A : Around} {E : Value → Shared → Prop} {s : Shared} {Q : Value → Shared → Prop} {a : Addr} {o : Obj} {vs : Array Value} {n : Nat} {xs : List PyData} {as : List Addr}
    (h1 : s.heap.get? a = some o) (h2 : o.cls = .type "list") (h3 : o.data = .seq vs n) (h4 : ReadsAll s.heap vs.toList xs as) (hs : PyData.showableAll xs = true) (hsm : PyData.hasDictAll xs = true → sysModules ∉ as)
    (hg : A.guards = some []) (hu : A.units + ((PyData.list xs).depth + 1) < cLine) (hsz : (listText (PyData.shownAll xs)).length ≤ sizeLine)
    (hQ : ∀ h' u tk, (∀ b o, s.heap.get? b = some o → h'.get? b = some o) → Q (.str (listText (PyData.shownAll xs)) u) { s with heap := h', toks := tk }) :
    wpAny (model prog w) A (call (.builtin "repr") [.ref a]) Q E s := by
  obtain ⟨bs, hb, hk⟩ := ReprAllK.of_readsAll (prog := prog) (w := w) h4 hs hsm (fun t ht => Nat.le_trans (listText_mem_le ht) hsz)
  have hna : a ∉ bs :=
    not_mem_of_deeper (.list h1 h2 h3 h4) (by simp only [PyData.depth]; omega) hb
  simp only [PyData.depth] at hu
  refine call_repr_slot (A := A) (by omega) (idr := "list.__repr__") (T := "list") (show s.TypeIs (.ref a) "list" from ⟨o, h1, h2⟩) F.slot_list_repr.toG ?_
  have hu1 : A.in1.units = A.units + 1 := rfl
  obtain ⟨l⟩ := vs
  cases l with
  | nil =>
    have h4' : ReadsAll s.heap [] xs as := h4
    cases h4'
    have ht := hQ s.heap
    rw [show listText (PyData.shownAll []) = ("[]" : Str) by simp only [PyData.shownAll]; exact listText_nil] at ht
    exact call_list_repr_empty ⟨o, h1, h2⟩ h1 h3 ⟨_, _, rfl, ht _ _ fun _ _ e => e⟩
  | cons x l =>
    refine call_list_reprK h1 h2 h3 hna (by simpa using hk.length_eq) (fun i y e => hk.item i y (by simpa using e)) (by exact hg) (fun b _ => Clear.nil b) (by rw [hu1]; omega) (fun _ _ e => e) (fun h' u tk k => ⟨_, _, rfl, hQ h' u tk k⟩) hsz
/-- repr(xs), xs a list of data -/
def rRepr (K : PySem.W.Frag) : List V → Hp → VK → Prop := fun vs H Q => ∃ (a : Addr) (xs : List V) (ds : List PyData), vs = [.ref a] ∧ H a = some (.lst xs) ∧ RpAll K H xs ds ∧ PyData.showableAll ds = true ∧ (PyData.hasDictAll ds = true → okSAll ds = true) ∧
  (PyData.list ds).depth ≤ 20 ∧ 3 + massAll ds ≤ sizeLine ∧ Q (.str (listText (PyData.shownAll ds))) H
theorem call_repr {X : Cx} (hg : X.A.guards = some []) (hu : X.A.units + 64 < cLine) : CallR X (.builtin "repr") (rRepr X.K) := by
  intro pins s σ H xs us Q I r h
  obtain ⟨a, ys, ds, rfl, ha, hr, hs, hd, hp, hm, q⟩ := h
  obtain rfl := Vals.ref1 r
  obtain ⟨its, rv, ⟨o, n, ho, hc, _, hdt⟩, _⟩ := I.list (.of ha)
  obtain ⟨as, q1, z1⟩ := rp_readsAll I ds _ its hr rv
  have hz := Nat.le_trans (list_text_le _) (Nat.le_trans (Nat.add_le_add_left (shown_all_le ds hs) 3) hm)
  exact repr_top ho hc hdt q1 hs (fun z => z1 (hd z)) hg (by omega) hz fun h' u tk k => ⟨.str _, H, I.kept k, ⟨u, rfl⟩, q⟩
end G

set_option Elab.async false
set_option linter.all false
set_option maxRecDepth 100000
set_option maxHeartbeats 2000000
/-! G2: a def that runs where no guard is under way, and the law's own call. -/
namespace G
open PySem PySem.Spec PyProof.Rows L2
/-- as FnOk, of arounds without guards -/
structure FnG (P : Program) (w : World) (K : PySem.W.Frag) (mg : Str → Option Value) (base : Heap) (CX : CXT) (k : Nat) (f : Addr) (fd : FuncData) (ps : List Str) (sp : Sp) : Prop where
  size : ∀ vs H Q E, sp vs H Q E → vs.length = ps.length
  go : ∀ (A : Around) (outer : List Env) (s : Shared) (H : Hp) (args : Args) (us : List Value) (vs : List V) (Q : VK) (E : XK),
    A.guards = some [] → Room k A → Env0 P w K mg base A outer s H → BindsTo s fd args (ps.zip us) → Vals vs us → sp vs H Q E → codeAny (model P w) A (.call (.ref f) args) (CR CX outer P w H s Q E) s
section
variable {P : Program} {w : World} {K : PySem.W.Frag} {mg : Str → Option Value} {base : Heap} {CX : CXT}
theorem FnG.of_body {x qual : Str} {st : Stmt} {f : Addr} {fd : FuncData} {N ps : List Str} {k : Nat} {sp : Sp} (F : Fun K x qual st f fd) (S : FnScope N ps (defScope st))
    (size : ∀ vs H Q E, sp vs H Q E → vs.length = ps.length)
    (body : ∀ (cdv : Value) (A : Around) (outer : List Env) (s : Shared) (H : Hp) (vs : List V) (Q : VK) (E : XK), A.guards = some [] →
      Room k (A.deeper (envOfC qual (defScope st) s.heap.objs.size f cdv)) → sp vs H Q E →
      ∃ t, PSs (cxOf CX P w K mg base N qual (defScope st) f cdv A outer s H E).nox (defBody st) t ∧ t { nx := fun _ H' => Q .non H', rt := Q } (start N vs) H) :
    FnG P w K mg base CX (k + 1) f fd ps sp := by
  obtain ⟨_, _, _, _, _, _, cdv, _, _, rfl, lk, hcd⟩ := F.ex
  refine ⟨size, fun A outer s H args us vs Q E hg hr e0 hb r h => ?_⟩
  have inS : K.In s.heap := e0.mod.kin.keeps fun b o e => (e0.bs b o e).1
  have noL : s.heap.NoLimit := e0.mod.nolimit.keeps fun b o e => (e0.bs b o e).1
  refine codeAny_call_function hr.depth (inS _ _ lk) rfl S.co S.gen rfl
    (PySem.W.codeRec_of inS hcd) (hb _ _ _ _ ?_)
  refine wpAny_newFunctionEnv_cells S.kind
    (fun ⟨n, v⟩ hy => ?_) fun env he s1 x => ?_
  · rcases S.par n (List.of_mem_zip hy).1 with q | q
    · exact Or.inl q
    · exact Or.inr ⟨q, PySem.W.cellsFrom_some _ _ _ (Or.inl q)⟩
  · subst he
    refine ⟨noL.keeps x.toInCall.keep, codeAny_func ?_⟩
    obtain ⟨t, ht, hq⟩ := body cdv A outer s H vs Q E hg (hr.deeper _) h
    have J := inv_start (CX := CX) (P := P) (w := w) (K := K) (mg := mg) (base := base) (E := E) S hr.hd e0 (size _ _ _ _ h) r x
    refine wpAny_mono (ht.nox.run [] s1 (start N vs) H _ J hq) (fun fl s' z => ?_) fun e s' z => z
    cases fl with
    | ret u =>
      obtain ⟨v, σ', H', J', rv, q⟩ := z
      exact ⟨v, H', J'.os, J'.bare, J'.base, J'.hok, rv, q⟩
    | next =>
      obtain ⟨σ', H', J', q⟩ := z
      exact ⟨.non, H', J'.os, J'.bare, J'.base, J'.hok, rfl, q⟩
    | brk =>
      obtain ⟨_, _, _, q⟩ := z
      exact q.elim
    | cont =>
      obtain ⟨_, _, _, q⟩ := z
      exact q.elim
end
section
variable {X : Cx} {CX : CXT} {k : Nat} {f : Addr} {fd : FuncData} {ps : List Str} {sp : Sp} {dvs : List V} {ds : List Value} {E : XK} {x : Str} {p pos : Pos} {e : Expr} {es : List Expr} {t : TA}
theorem FnG.run {pins : List (Addr × Obj)} {σ : L2.St} {H : Hp} {s : Shared} {Q : VK} {us : List Value} {vs : List V} (F : FnG X.prog X.w X.K X.mg X.base CX k f fd ps sp) (hg : X.A.guards = some []) (hr : Room k X.A) (hb : Binds X.K fd ps ds) (hd : Vals dvs ds)
    (hx : Passes CX X E) (I : Inv X pins σ H s) (r : Vals vs us) (h : sp (vs ++ dvs) H Q E) : wpAny (model X.prog X.w) X.A (call (.ref f) us) (EP X pins σ Q) X.xe s := by
  have both := r.append hd
  have size : (us ++ ds).length = ps.length := both.length.symm.trans (F.size _ _ _ _ h)
  refine wpAny_call (codeAny_mono (F.go X.A X.stack s H ⟨us, []⟩ (us ++ ds) (vs ++ dvs) Q E hg hr I.env0 (hb s us I.kIn size) both h) fun q s' z => ?_)
  match q, z with
  | .error er, z => exact hx pins σ H s er s' I z
  | .ok (.ret u), z => exact I.after z
/-- f(e, ..) -/
theorem pe_callG (F : FnG X.prog X.w X.K X.mg X.base CX k f fd ps sp) (hg : X.A.guards = some []) (hr : Room k X.A) (gl : Gl X x) (hm : X.mg x = some (.ref f)) (hk : PySem.W.keepIn X.K (.ref f) = true) (hb : Binds X.K fd ps ds) (hd : Vals dvs ds)
    (hx : Passes CX X E) (ha : PA X (e :: es) t) (hdb : (x == ("__debug__" : Str)) = false := by decide)
    (he : starEach (e :: es) X.env = (false, eval e X.env) :: starEach es X.env := by rfl) (hpl : (backTo pos (starEach es X.env)).any (·.1) = false := by rfl) : PE X (.Call (.Name x p) (e :: es) [] pos) (tCall sp dvs E t) := by
  constructor
  intro pins s σ H Q I h
  refine wpAny_Call_Name_kw (ld_glob I gl hm ?_ hdb)
  exact PySem.W.callWith_K (h₀ := X.base) I.ok.mod.kin hk
    (thn (ha.run pos pins s σ H _ I h) fun us s1 ⟨vs, H1, I1, r, q⟩ => ⟨I1.kIn, F.run hg hr hb hd hx I1 r q⟩) he hpl
end
/-- True comes out, what stood stands, nothing went in or out -/
def Fine (s : Shared) (r : Result) (s' : Shared) : Prop :=
  r = .ok (.ret (.bool true)) ∧ OldK s.heap s'.heap ∧ s'.os = s.os ∧ AllBare s'.gens
/-- the law's call, from the state that the top leaves -/
theorem law_go {P : Program} {w : World} {K : PySem.W.Frag} {mg mb : Str → Option Value} {k : Nat} {fa a : Addr} {fd : FuncData} {x : Str} {sp : Sp} {s₁ : Shared} {vs : List Value} {ns : List Int}
    (inK : K.In s₁.heap) (gl : s₁.heap.Ns mainGlobals mg)
    (bl : s₁.heap.Ns builtinsNs mb) (boot : ∀ y : Str, y ≠ "__name__" → mb y = bootBuiltins y)
    (lim : s₁.heap.NoLimit) (noG : s₁.gens = #[])
    (script : s₁.heap.get? a = some { cls := .type "list", data := .seq vs.toArray })
    (allInt : IntsAre vs ns) (few : ns.length ≤ sizeLine) (hr : Room k callerA)
    (F : ∀ base : Heap, K.In base → base.Ns mainGlobals mg → FnG P w K mg base CX0 k fa fd [x] sp) (hbind : ∀ (s : Shared) (u : Value), BindsTo s fd ⟨[u], []⟩ [(x, u)])
    (hsp : ∀ H : Hp, Only H → SqL K H a (ns.map V.int) → sp [.ref a] H (fun v _ => v = .bl true) fun _ _ _ => False) :
    codeAny (model P w) callerA (.call (.ref fa) ⟨[.ref a], []⟩)
      (Fine s₁) s₁ := by
  -- nothing but the script is tracked; if the written part holds the script, nothing at all
  have main : ∀ H : Hp, Only H → SqL K H a (ns.map V.int) → HOk P w H s₁.heap → (∀ b, H b ≠ none → b = a ∧ K.lookup a = none) →
      codeAny (model P w) callerA (.call (.ref fa) ⟨[.ref a], []⟩)
      (Fine s₁) s₁ := by
    intro H hO hS hok hA
    have nsK : ∀ {b : Addr} {m : Str → Option Value}, s₁.heap.Ns b m → (hidT s₁.heap H).Ns b m := by
      rintro b m ⟨o, es, ep, e, d, r⟩
      refine ⟨o, es, ep, hidT_get e ?_, d, r⟩
      cases q : H b with
      | none => rfl
      | some u =>
        exfalso
        have eb := (hA b (by rw [q]; simp)).1
        rw [eb, script] at e
        rw [← Option.some.inj e] at d
        cases d
    have inB : K.In (hidT s₁.heap H) := fun b o e => hidT_get (inK b o e) (by
      cases q : H b with
      | none => rfl
      | some u =>
        exfalso
        obtain ⟨e1, e2⟩ := hA b (by rw [q]; simp)
        rw [e1, e2] at e
        cases e)
    obtain ⟨mc, l1, l2⟩ := lim
    have hM : Mod K mg (hidT s₁.heap H) := ⟨inB, nsK gl, ⟨mb, nsK bl, boot⟩, ⟨mc, nsK l1, l2⟩⟩
    have e0 : Env0 P w K mg (hidT s₁.heap H) callerA [] s₁ H := ⟨rfl, hM, fun b o e => of_hidT e, Nat.le_of_eq (hidT_size _ _), trivial, fun b z => absurd (show b ∈ ([] : List Addr) from z) (by simp), hok, .of_eq noG⟩
    have run := (F _ inB (nsK gl)).go callerA [] s₁ H ⟨[.ref a], []⟩ [.ref a] [.ref a] _ _ rfl hr e0 (hbind s₁ (.ref a)) (.cons rfl .nil) (hsp H hO hS)
    refine codeAny_mono run fun r s' h => ?_
    match r, h with
    | .ok (.ret u), h =>
      obtain ⟨v, H', os, bare, un, hok', r', q⟩ := h
      obtain rfl : v = .bl true := q
      obtain rfl : u = Value.bool true := r'
      refine ⟨rfl, OldK.of_keep fun b o e => ?_, os, bare⟩
      rcases hO b with z | ⟨ob, xs, z⟩
      · exact un.keep b o e z (fun z => absurd (show b ∈ ([] : List Addr) from z) (by simp)) (by simp)
      · obtain ⟨e1, _⟩ := hok b _ z
        obtain ⟨e2, _⟩ := hok' b _ (un.frzs b ob _ z)
        rw [e] at e1
        cases e1
        exact e2
  cases hk : K.lookup a with
  | some o =>
    have e := inK a o hk
    rw [script] at e
    cases e
    refine main (fun _ => none) (fun _ => .inl rfl) (.inr ⟨_, vs.toArray, _, hk, rfl, rfl, rfl, ?_, ?_⟩) (fun b u z => nomatch z) fun b z => absurd rfl z
    · rw [List.size_toArray, allInt.length]
      exact few
    · simpa using vals_ints allInt
  | none =>
    let o : Obj := { cls := .type "list", data := .seq vs.toArray }
    let T : HO := .frz o (.lst (ns.map V.int))
    have at_a : upd (fun _ => none) a T a = some T := upd_same
    refine main (upd (fun _ => none) a T) (fun b => ?_) (.inl (.inr ⟨o, at_a⟩)) (fun b u z => ?_) fun b z => ?_
    · by_cases h : b = a
      · exact .inr ⟨o, _, by rw [h]; exact at_a⟩
      · exact .inl (upd_ne h)
    · by_cases h : b = a
      · subst h
        rw [at_a] at z
        cases z
        exact ⟨script, by rw [List.length_map]; exact few, vs, _, vals_ints allInt, script⟩
      · rw [upd_ne h] at z
        cases z
    · by_cases h : b = a
      · exact ⟨h, hk⟩
      · exact absurd (upd_ne h) z
/-- what k_head leaves, by the law's promise -/
theorem walk_go {l : PySem.W.OpenLaw} {n k : Nat} {q : Program} {loose : List Str} {XP : (Str → Option Value) → Heap → Prop} {YP : World → Heap → Prop} {d : DefRec} {K : Params → PySem.W.Frag} {sp : PySem.W.Frag → Sp} {x : Str}
    (most : l.most = some n) (few : n ≤ sizeLine)
    (nodf : d.params.defaults = []) (hr : Room k callerA)
    (hY : ∀ (w : World) (h : Heap), YP w h → (K w.params).In h)
    (F : ∀ (w : World) (mg : Str → Option Value) (fa : Addr) (h : Heap),
      (K w.params).In h → h.Ns mainGlobals mg → mg d.name = some (.ref fa) →
      ∃ fd : FuncData, (∀ (s : Shared) (u : Value), BindsTo s fd ⟨[u], []⟩ [(x, u)]) ∧ ∀ base : Heap, (K w.params).In base → base.Ns mainGlobals mg → FnG l.prog w (K w.params) mg base CX0 k fa fd [x] (sp (K w.params)))
    (hsp : ∀ (K : PySem.W.Frag) (H : Hp) (a : Addr) (ns : List Int), ns.length ≤ n → Only H → SqL K H a (ns.map V.int) → sp K [.ref a] H (fun v _ => v = .bl true) fun _ _ _ => False) :
    PySem.W.WalkO q loose XP YP l.row.toRowW d []
      (fun f vs => PySem.call f vs) := by
  refine Att.attach_call most nodf
    fun w _ s₁ mg mb fa _ _ _ _ a vs ns top Y _ _ _ atF obj allInt len noG => ?_
  have inK := hY w _ Y
  obtain ⟨fd, binds, keeps⟩ := F w mg fa _ inK top.T.g atF
  exact law_go inK top.T.g top.T.b top.T.builtins top.T.nolimit noG obj allInt (Nat.le_trans len few) hr keeps binds
    fun H hO hS => hsp _ H a ns len hO hS
end G

set_option Elab.async false
set_option linter.all false
set_option maxRecDepth 100000
set_option maxHeartbeats 2000000
/-! U1: a method that says super().__init__(..): its own activation is known while it runs. -/
namespace G
open PySem PySem.Spec PyProof.Rows L2 NdefX

/-- one statement, of a body whose activation is on top -/
structure PSa (X : Cx) (body : List Stmt) (st : Stmt) (t : TS) : Prop where
  run : ∀ (pins : List (Addr × Obj)) (s : Shared) (σ : L2.St) (H : Hp) (D : Ends), Inv X pins σ H s → t D σ H → _root_.PySem.wpAt (model X.prog X.w) X.A (.func body X.env) (exec st X.env) (SP X pins D) X.xe s
/-- .. several -/
structure PSsa (X : Cx) (body : List Stmt) (st : List Stmt) (t : TS) : Prop where
  run : ∀ (pins : List (Addr × Obj)) (s : Shared) (σ : L2.St) (H : Hp) (D : Ends), Inv X pins σ H s → t D σ H → _root_.PySem.wpAt (model X.prog X.w) X.A (.func body X.env) (execs st X.env) (SP X pins D) X.xe s
section
variable {X : Cx} {body rest : List Stmt} {st : Stmt} {t u : TS}
theorem psa (h : PS X st t) : PSa X body st t := ⟨fun pins s σ H D I q => wpAt_of_wpAny (h.run pins s σ H D I q)⟩
theorem pssa {sts : List Stmt} (h : PSs X sts t) : PSsa X body sts t := ⟨fun pins s σ H D I q => wpAt_of_wpAny (h.run pins s σ H D I q)⟩
theorem pssa_cons (h1 : PSa X body st t) (h2 : PSsa X body rest u) : PSsa X body (st :: rest) (tSeq t u) := by
  refine ⟨fun pins s σ H D I h => ks_wpAt_execs_cons (ks_wpAt_mono (h1.run pins s σ H { D with nx := u D } I h) (fun f s1 q => ?_) fun _ _ z => z)⟩
  cases f with
  | next =>
    obtain ⟨σ', H', I', q⟩ := q
    exact h2.run pins s1 σ' H' D I' q
  | ret v => exact q
  | brk => exact q
  | cont => exact q
end

/-- what of the text the words super().__init__ rest on, said in the def at f, of the class at D, to an instance of the class at C; f2: the __init__ found -/
structure SupOf (P : Program) (K : PySem.W.Frag) (f cda cc D C f2 : Addr) (x : Str) : Prop where
  fn : ∃ oc od fd sl ar, K.lookup f = some ⟨oc, od, .func fd, sl⟩ ∧ (fd.params.posonlyargs ++ fd.params.args).head? = some ar ∧ ar.arg = x
  code : ∃ oc od vs sl file tf, K.lookup cda = some ⟨oc, od, .fields vs, sl⟩ ∧ vs[2]? = some (.str file tf) ∧ ((P.main.file : Str) == file) = true
  cell : ∃ oc od sl, K.lookup cc = some ⟨oc, od, .cell (some (.ref D)), sl⟩
  isc : ∃ cd, PySem.W.clsIn K D = some cd
  isC : ∃ cd, PySem.W.clsIn K C = some cd
  sub : PySem.W.mroIn K C (.ref D) = some true
  thd : PySem.W.nsIn K cStatics "thirdparty.any" = some none
  sup : PySem.W.ks_superIn K C D "__init__" = some (some (.ref f2))
  ty : PySem.W.typeIn K (.ref f2) = some (.type "function")
  fi : PySem.W.fnIn K f2 = true
  top : (P.main.scope.names.lookup ("super" : Str)).isSome = false

/-- super().__init__(..), the instance in the slot i -/
def tSup (i : Nat) (C : Addr) (sp : Sp) (E : XK) (t : TA) : TS := fun D σ H => ∃ a dx fs, σ[i]? = some (some (.ref a)) ∧ H a = some (.ins C dx fs) ∧
  t σ H fun vs H1 => sp (.ref a :: vs) H1 (fun _ H2 => D.nx σ H2) E

section
variable {X : Cx} {CX : CXT} {k i : Nat} {f cda cc D C f2 : Addr} {x : Str} {sp : Sp} {E : XK} {body : List Stmt} {e : Expr} {es : List Expr} {t : TA} {p0 p1 apos pos spos : Pos} {pl : Sem Bool}
theorem cls_at {h : Heap} {K : PySem.W.Frag} {D : Addr} {cd : ClassData} (I : K.In h) (hD : PySem.W.clsIn K D = some cd) : ∃ o, h.get? D = some o ∧ o.data = .cls cd := by
  unfold PySem.W.clsIn at hD
  split at hD
  · rename_i c d cd' sl ho
    cases hD
    exact ⟨_, I _ _ ho, rfl⟩
  · cases hD
/-- the object super() -/
theorem super_base {pins : List (Addr × Obj)} {s : Shared} {σ : L2.St} {H : Hp} {whole : Sem Value} {a dx : Addr} {fs : List (Str × V)} {Q : Value → Shared → Prop}
    (I : Inv X pins σ H s) (S : SupOf X.prog X.K f cda cc D C f2 x) (hfu : X.env.func = some f) (hco : X.env.code = .ref cda) (hcl : X.env.cells.lookup ("__class__" : Str) = some cc)
    (hks : X.env.kindOf "super" = some .globalImplicit) (hkc : X.env.kindOf "__class__" = some .free) (hkx : X.env.kindOf x = some .local) (hm : X.mg "super" = none) (hN : X.N[i]? = some x)
    (hs : σ[i]? = some (some (.ref a))) (ha : H a = some (.ins C dx fs))
    (h : ∀ s', Inv X pins σ H s' → s'.heap.get? s.heap.objs.size = some { cls := .type "super", dict := none, data := .fields #[.ref D, .ref a, .ref C], slots := #[] } → Q (.ref s.heap.objs.size) s') :
    _root_.PySem.wpAt (model X.prog X.w) X.A (.func body X.env) (attributeBase (.Call (.Name "super" p0) [] [] p1) "__init__" X.env whole) Q X.xe s := by
  obtain ⟨oc, od, fd, sl, ar, lk, hp, hx⟩ := S.fn
  obtain ⟨oc2, od2, vs, sl2, file, tf, lk2, hv, hfile⟩ := S.code
  obtain ⟨oc3, od3, sl3, lk3⟩ := S.cell
  obtain ⟨cdD, hD⟩ := S.isc
  have inK := I.kIn
  obtain ⟨oD, hD1, hD2⟩ := cls_at inK hD
  obtain ⟨mb, b1, b2⟩ := I.mod.blt
  obtain ⟨m, hn, hl⟩ := I.loc
  obtain ⟨u, ru, hlook⟩ := hl i x _ hN hs (.inl hkx)
  obtain rfl : u = Value.ref a := ru
  have hmx : m x = some (.ref a) := by
    rcases hlook with ⟨_, z⟩ | ⟨z, _⟩
    · exact z
    · rw [hkx] at z
      rcases z with z | z <;> cases z
  have hob : s.heap.get? a = some (PySem.W.instObj C dx) := (show ObjOk X.prog X.w H s.heap a (.ins C dx fs) from I.hok a _ ha).2.2.2.1
  refine ks_wpAt_super_base hks hkc (by decide) hfu (inK _ _ lk) rfl hp hco (inK _ _ lk2) rfl hv hfile S.top ?_
  refine PySem.W.ks_loadName_global I.ok.kind hks (Calls.loadGlobal_builtin (by rw [I.ok.glob]; exact I.mod.glob.keeps I.bk) hm (by rw [I.ok.blt]; exact b1.keeps I.bk) ((b2 "super" (by decide)).trans (by first | rfl | decide +kernel)) ⟨rfl, ?_⟩)
  refine wpAny_loadName_free I.ok.kind hkc hcl ⟨_, inK _ _ lk3, rfl⟩ ?_
  rw [hx]
  refine wpAny_loadName_local I.ok.kind hkx hn hmx ?_
  obtain ⟨hh, g, d, tk, os⟩ := s
  refine ks_wpAny_isType_cls hD1 hD2 ⟨rfl, ?_⟩
  refine ks_wpAny_call_super hD1 hD2 hob rfl (fun c z => nomatch z) (PySem.W.looks_mroIn inK S.sub) fun h' e1 kp => ?_
  exact h _ (I.kept (t' := tk) kp) e1
/-- super().__init__(e, ..) -/
theorem psa_super (S : SupOf X.prog X.K f cda cc D C f2 x) (F : FnR X.prog X.w X.K X.mg X.base CX k f2 sp) (hr : Room k X.A) (hx : Passes CX X E) (hfu : X.env.func = some f) (hco : X.env.code = .ref cda) (hcl : X.env.cells.lookup ("__class__" : Str) = some cc)
    (hks : X.env.kindOf "super" = some .globalImplicit) (hkc : X.env.kindOf "__class__" = some .free) (hkx : X.env.kindOf x = some .local) (hm : X.mg "super" = none) (hN : X.N[i]? = some x) (ha : PA X (e :: es) t)
    (hst : starEach (e :: es) X.env = (false, eval e X.env) :: starEach es X.env := by rfl) (hpl : (backTo pos (starEach es X.env)).any (·.1) = false := by rfl)
    (ht : eval (.Call (.Attribute (.Call (.Name "super" p0) [] [] p1) "__init__" apos) (e :: es) [] pos) X.env = (do
      let ov ← attributeBase (.Call (.Name "super" p0) [] [] p1) "__init__" X.env (eval (.Call (.Name "super" p0) [] [] p1) X.env)
      standAt apos.atName
      let (f, first) ← holding [ov] (getMethod ov "__init__" pl)
      callWith pos f first (backTo pos (starEach (e :: es) X.env)) []) := by rfl)
    (hw : swapsWith (.Call (.Attribute (.Call (.Name "super" p0) [] [] p1) "__init__" apos) (e :: es) [] pos) none spos.line X.env = pure false := by rfl) :
    PSa X body (.Expr (.Call (.Attribute (.Call (.Name "super" p0) [] [] p1) "__init__" apos) (e :: es) [] pos) spos) (tSup i C sp E t) := by
  refine ⟨fun pins s σ H Dn I h => ?_⟩
  obtain ⟨a, dx, fs, h1, h2, q⟩ := h
  refine ks_wpAt_Expr_any (ks_wpAt_MethodCall (pl := pl) (super_base I S hfu hco hcl hks hkc hkx hm hN h1 h2 fun s1 I1 hso => ?_) ht) I.quiet hw
  obtain ⟨cdC, hC⟩ := S.isC
  have inK := I1.kIn
  have hob : s1.heap.get? a = some (PySem.W.instObj C dx) := (show ObjOk X.prog X.w H s1.heap a (.ins C dx fs) from I1.hok a _ h2).2.2.2.1
  obtain ⟨oC, hC1, hC2⟩ := cls_at inK hC
  have hne : a ≠ C := fun z => by
    rw [z, hC1] at hob
    rw [Option.some.inj hob] at hC2
    cases hC2
  obtain ⟨of, hof, hofc⟩ : ∃ of, s1.heap.get? f2 = some of ∧ of.cls = .type "function" := by
    have ht' : (X.K.lookup f2).map (·.cls) = some (.type "function") := S.ty
    cases z : X.K.lookup f2 with
    | none =>
      rw [z] at ht'
      cases ht'
    | some of =>
      rw [z] at ht'
      exact ⟨of, inK _ _ z, Option.some.inj ht'⟩
  have hsup := S.sup
  unfold PySem.W.ks_superIn at hsup
  rw [hC] at hsup
  obtain ⟨hh, g, d, tk, os⟩ := s1
  refine ks_wpAny_getMethod_super hso (PySem.W.looks_opaque inK S.thd) (l₀ := cdC.mro) ((PySem.W.looks_clsIn inK hC).andThen .now) rfl inK hsup hof hofc hne (by decide) ?_
  have I2 := ClX.met_new (g := f2) (C := a) I1
  refine ClX.callwith_cm I2 (ClX.base_none I1 (Nat.le_refl _)) S.fi (thn (ha.run pos _ _ σ H _ I2 q) fun us s3 ⟨vs, H3, I3, r3, q3⟩ => ⟨⟨ClX.pin_at I3, I3.kIn⟩, ?_⟩) hst hpl
  refine thn (ClX.run_cm F hr hx I3 r3 q3) fun _ _ y => ?_
  obtain ⟨v, H4, I4, _, q4⟩ := y
  exact ⟨σ, H4, I4, q4⟩
end

/-! ### the method -/
/-- THE RULE: a method that captures __class__ (it says super()), by its body -/
theorem fnx_of {CX : CXT} {P : Program} {w : World} {K : PySem.W.Frag} {mg : Str → Option Value} {base : Heap} {k : Nat} {f cda cc : Addr} {name qual : Str} {params : Arguments} {body : List Stmt} {scope : Scope} {dV kV doc pm ct oc : Value} {an od : Option Addr}
    {osl : Array (Option Value)} {N ps : List Str} {sp : Sp} (lk : K.lookup f = some ⟨oc, od, .func (PySem.W.ksFn name qual params body scope dV kV doc pm an (.ref cda) ct cc), osl⟩) (hcd : PySem.W.codeIn K (.ref cda) qual = true)
    (hcell : ∃ oc od sl v, K.lookup cc = some ⟨oc, od, .cell v, sl⟩) (S : NScope N ps ["__class__"] scope) (len : ∀ vs H Q E, sp vs H Q E → vs.length = ps.length)
    (hbody : ∀ (A : Around) (outer : List Env) (s : Shared) (H : Hp) (vs : List V) (Q : VK) (E : XK), Room k (A.deeper (envF ⟨name, qual, params, body, scope, [("__class__", cc)], cda⟩ f s.heap.objs.size)) → sp vs H Q E →
      ∃ t, PSsa (ncx CX P w K mg base N ⟨name, qual, params, body, scope, [("__class__", cc)], cda⟩ f A outer s H E) body body t ∧ t { nx := fun _ H' => Q .non H', rt := Q } (startF N vs [none]) H) :
    FnOk P w K mg base CX (k + 1) f (PySem.W.ksFn name qual params body scope dV kV doc pm an (.ref cda) ct cc) ps sp := by
  refine ⟨len, fun A outer s H args us vs Q E hr e0 hb r hsp => ?_⟩
  have hl := len _ _ _ _ hsp
  have inK : K.In s.heap := e0.mod.kin.keeps fun b o e => (e0.bs b o e).1
  have lim : s.heap.NoLimit := e0.mod.nolimit.keeps fun b o e => (e0.bs b o e).1
  obtain ⟨oc3, od3, sl3, v3, lk3⟩ := hcell
  have C : CellsAt [(("__class__" : Str), cc)] ["__class__"] [none] s.heap H := by
    have one : ∀ {y : Str} {c : Addr}, List.lookup y [(("__class__" : Str), cc)] = some c → y = "__class__" ∧ c = cc := fun {y c} z => by
      have z2 := PySem.mem_of_lookup z
      rw [List.mem_singleton] at z2
      exact ⟨congrArg Prod.fst z2, congrArg Prod.snd z2⟩
    refine ⟨rfl, fun y c z => ?_, fun y y' c z z' => (one z).1.trans (one z').1.symm, fun i y z => ?_⟩
    · obtain ⟨_, rfl⟩ := one z
      exact ⟨(e0.bs _ _ (e0.mod.kin _ _ lk3)).2, v3, _, inK _ _ lk3, rfl⟩
    · have hy : y = "__class__" := by
        have z2 := List.mem_of_getElem? z
        rw [List.mem_singleton] at z2
        exact z2
      subst hy
      refine ⟨cc, by simp [List.lookup], fun v z => ?_⟩
      cases i with
      | zero => cases z
      | succ j => cases z
  refine codeAny_call_function hr.depth (inK _ _ lk) rfl S.co S.gen rfl (PySem.W.codeRec_of inK hcd) (hb _ _ _ _ ?_)
  refine wpAny_newFunctionEnv S.nocell (fun ⟨n, _⟩ hy => S.par n (List.of_mem_zip hy).1) (fun h₁ hns hsb => ⟨lim.fresh _ hsb, ?_⟩) S.kind
  show codeAny _ _ (.func body (envF ⟨name, qual, params, body, scope, [("__class__", cc)], cda⟩ f s.heap.objs.size)) _ _
  refine ks_codeAny_funcAt ?_
  have kp : ∀ b o, s.heap.get? b = some o → h₁.get? b = some o := fun b o e => hsb.extBut b o (Nat.ne_of_lt (Heap.lt_size e)) (Heap.get?_push_of_some _ e)
  obtain ⟨t, ht, hq⟩ := hbody A outer s H vs Q E (hr.deeper _) hsp
  have I : Inv (ncx CX P w K mg base N ⟨name, qual, params, body, scope, [("__class__", cc)], cda⟩ f A outer s H E) [] (startF N vs [none]) H { s with heap := h₁, toks := s.toks + (ps.zip us).length } := inv_startN S hr.hd e0 hl r C hns kp
  refine ks_wpAt_mono (ht.run [] _ (startF N vs [none]) H _ I hq) (fun fl s' hs => ?_) fun e s' hs => hs
  have fin : ∀ {σ' : L2.St} {H' : Hp} {v : V} {u : Value}, Inv (ncx CX P w K mg base N ⟨name, qual, params, body, scope, [("__class__", cc)], cda⟩ f A outer s H E) [] σ' H' s' → L2.RelV v u → Q v H' → CE outer P w H s Q u s' :=
    fun {σ' H' v u} J rv q => ⟨v, H', J.os, J.bare, J.base, J.hok, rv, q⟩
  cases fl with
  | ret u =>
    obtain ⟨v, σ', H', J, rv, q⟩ := hs
    exact fin J rv q
  | next =>
    obtain ⟨σ', H', J, q⟩ := hs
    exact fin (v := V.non) (u := Value.none) J rfl q
  | brk =>
    obtain ⟨_, _, _, q⟩ := hs
    exact False.elim q
  | cont =>
    obtain ⟨_, _, _, q⟩ := hs
    exact False.elim q
end G

set_option Elab.async false
set_option linter.all false
set_option maxRecDepth 100000
set_option maxHeartbeats 2000000
/-! HK: the head's facts by a Hook of our own: methods that capture __class__, properties, instances that are called; the law's end over it. -/
namespace G
open PySem PySem.Spec PyProof.Rows L2 NdefX StX He

/-! ### defs by where they stand -/
/-- a def of the text: where it stands, its names, its statement, the names that it captures -/
structure Dp where
  at_ : PySem.W.Frag → Addr
  name : Str
  qual : Str
  st : Stmt
  clo : List Str
abbrev FnY : Type := Option (Str × Str × Arguments × FuncBody × Scope × Addr × List Str × Addr)
def fnY (K : PySem.W.Frag) (a : Addr) : FnY := match K.lookup a with
  | some ⟨_, _, .func fd, _⟩ => some (fd.name, fd.qualname, fd.params, fd.body, fd.scope, fd.globals, fd.closure.map (·.1), fd.builtins)
  | _ => none
def Dp.val (d : Dp) : FnY := some (d.name, d.qual, defArgs d.st, .stmts (defBody d.st), defScope d.st, mainGlobals, d.clo, builtinsNs)
def noneB : Value → Bool
  | .none => true
  | _ => false
/-- the def's code, no positional defaults -/
def codB (K : PySem.W.Frag) (a : Addr) (q : Str) : Bool := match K.lookup a with
  | some ⟨_, _, .func fd, _⟩ => PySem.W.codeIn K fd.code q && noneB fd.defaults
  | _ => false
def plainB (K : PySem.W.Frag) (a : Addr) (q : Str) : Bool := PySem.W.keepIn K (.ref a) && codB K a q
theorem fun_of {K : PySem.W.Frag} {a : Addr} {d : Dp} (e : fnY K a = d.val) (hc : d.clo = []) (c : plainB K a d.qual = true) : ∃ fd, Fun K d.name d.qual d.st a fd := by
  obtain ⟨kp, c2⟩ := ba c
  unfold fnY Dp.val at e
  rw [hc] at e
  unfold codB at c2
  cases q : K.lookup a with
  | none =>
    rw [q] at c2
    cases c2
  | some o =>
    obtain ⟨oc, od, dt, osl⟩ := o
    rw [q] at c2 e
    cases dt with
    | func fd =>
      obtain ⟨n1, n2, n3, n4, n5, n6, n7, n8, n9, n10, n11, n12, n13, n14, n15⟩ := fd
      have e2 : (some (n1, n2, n3, n4, n5, n6, n7.map (·.1), n15) : FnY) = some (d.name, d.qual, defArgs d.st, .stmts (defBody d.st), defScope d.st, mainGlobals, [], builtinsNs) := e
      simp only [Option.some.injEq, Prod.mk.injEq] at e2
      obtain ⟨h1, h2, h3, h4, h5, h6, h7, h8⟩ := e2
      have h7' : n7 = [] := List.map_eq_nil_iff.mp h7
      subst h1 h2 h3 h4 h5 h6 h7' h8
      have c3 : (PySem.W.codeIn K n13 d.qual && noneB n8) = true := c2
      obtain ⟨k1, k2⟩ := ba c3
      cases n8 with
      | none => exact ⟨_, ⟨oc, od, n9, n10, n11, n12, n13, n14, osl, rfl, q, k1⟩, kp⟩
      | _ => cases k2
    | _ => cases c2
/-- a def with one positional default, a thing in the heap -/
def dflD (K : PySem.W.Frag) (v : Value) : Bool := match v with
  | .ref T => (match K.lookup T with
    | some ⟨_, _, .seq its _, _⟩ => (match its.toList with
      | [.ref _] => true
      | _ => false)
    | _ => false)
  | _ => false
theorem dflD_ok {K : PySem.W.Frag} {v : Value} (h : dflD K v = true) : ∃ E : Addr, DflV K v [.ref E] := by
  unfold dflD at h
  split at h
  · rename_i T
    split at h
    · rename_i x1 x2 its n x3 ho
      split at h
      · rename_i E hE
        refine ⟨E, .inr ⟨(fun z => nomatch z), T, _, [.ref E], n, rfl, ho, ?_, .cons rfl .nil⟩⟩
        show Data.seq its n = _
        rw [← hE]
      · cases h
    · cases h
  · cases h
def codD (K : PySem.W.Frag) (a : Addr) (q : Str) : Bool := match K.lookup a with
  | some ⟨_, _, .func fd, _⟩ => PySem.W.codeIn K fd.code q && dflD K fd.defaults
  | _ => false
theorem fund_of {K : PySem.W.Frag} {a : Addr} {d : Dp} (e : fnY K a = d.val) (hc : d.clo = []) (c : (PySem.W.keepIn K (.ref a) && codD K a d.qual) = true) :
    ∃ (E : Addr) (fd : FuncData), FunD K d.name d.qual (defArgs d.st) (defBody d.st) (defScope d.st) [.ref E] [] a fd := by
  obtain ⟨kp, c2⟩ := ba c
  unfold fnY Dp.val at e
  rw [hc] at e
  unfold codD at c2
  cases q : K.lookup a with
  | none =>
    rw [q] at c2
    cases c2
  | some o =>
    obtain ⟨oc, od, dt, osl⟩ := o
    rw [q] at c2 e
    cases dt with
    | func fd =>
      obtain ⟨n1, n2, n3, n4, n5, n6, n7, n8, n9, n10, n11, n12, n13, n14, n15⟩ := fd
      have e2 : (some (n1, n2, n3, n4, n5, n6, n7.map (·.1), n15) : FnY) = some (d.name, d.qual, defArgs d.st, .stmts (defBody d.st), defScope d.st, mainGlobals, [], builtinsNs) := e
      simp only [Option.some.injEq, Prod.mk.injEq] at e2
      obtain ⟨h1, h2, h3, h4, h5, h6, h7, h8⟩ := e2
      have h7' : n7 = [] := List.map_eq_nil_iff.mp h7
      subst h1 h2 h3 h4 h5 h6 h7' h8
      have c3 : (PySem.W.codeIn K n13 d.qual && dflD K n8) = true := c2
      obtain ⟨k1, k2⟩ := ba c3
      obtain ⟨E, hE⟩ := dflD_ok k2
      exact ⟨E, _, ⟨oc, od, n8, n9, n10, n11, n12, n13, n14, osl, rfl, q, k1, hE, .inl rfl⟩, kp⟩
    | _ => cases c2
/-- a def with one keyword-only default, None -/
def kwN (K : PySem.W.Frag) (v : Value) (x : Str) : Bool := match v with
  | .ref D => eqO (PySem.W.nsIn K D x) (some (some .none))
  | _ => false
def codK (K : PySem.W.Frag) (a : Addr) (q x : Str) : Bool := match K.lookup a with
  | some ⟨_, _, .func fd, _⟩ => PySem.W.codeIn K fd.code q && (noneB fd.defaults && kwN K fd.kwdefaults x)
  | _ => false
theorem funk_of {K : PySem.W.Frag} {a : Addr} {d : Dp} {x : Str} (e : fnY K a = d.val) (hc : d.clo = []) (c : (PySem.W.keepIn K (.ref a) && codK K a d.qual x) = true) :
    ∃ fd : FuncData, FunD K d.name d.qual (defArgs d.st) (defBody d.st) (defScope d.st) [] [(x, .non)] a fd := by
  obtain ⟨kp, c2⟩ := ba c
  unfold fnY Dp.val at e
  rw [hc] at e
  unfold codK at c2
  cases q : K.lookup a with
  | none =>
    rw [q] at c2
    cases c2
  | some o =>
    obtain ⟨oc, od, dt, osl⟩ := o
    rw [q] at c2 e
    cases dt with
    | func fd =>
      obtain ⟨n1, n2, n3, n4, n5, n6, n7, n8, n9, n10, n11, n12, n13, n14, n15⟩ := fd
      have e2 : (some (n1, n2, n3, n4, n5, n6, n7.map (·.1), n15) : FnY) = some (d.name, d.qual, defArgs d.st, .stmts (defBody d.st), defScope d.st, mainGlobals, [], builtinsNs) := e
      simp only [Option.some.injEq, Prod.mk.injEq] at e2
      obtain ⟨h1, h2, h3, h4, h5, h6, h7, h8⟩ := e2
      have h7' : n7 = [] := List.map_eq_nil_iff.mp h7
      subst h1 h2 h3 h4 h5 h6 h7' h8
      have c3 : (PySem.W.codeIn K n13 d.qual && (noneB n8 && kwN K n9 x)) = true := c2
      obtain ⟨k1, k2⟩ := ba c3
      obtain ⟨k2, k3⟩ := ba k2
      cases n8 with
      | none =>
        cases n9 with
        | ref D =>
          refine ⟨_, ⟨oc, od, .none, .ref D, n10, n11, n12, n13, n14, osl, rfl, q, k1, .inl ⟨rfl, rfl⟩, .inr ⟨D, rfl, fun p hp => ?_⟩⟩, kp⟩
          rw [List.mem_singleton.mp hp]
          exact ⟨.none, eqO_ok k3, rfl⟩
        | _ => cases k3
      | _ => cases k2
    | _ => cases c2
/-- a method that captures __class__ -/
def celC (K : PySem.W.Frag) (cc C : Addr) : Bool := match K.lookup cc with
  | some ⟨_, _, .cell (some (.ref D)), _⟩ => decide (D = C)
  | _ => false
def cloB (K : PySem.W.Frag) (a C : Addr) : Bool := match K.lookup a with
  | some ⟨_, _, .func fd, _⟩ => (match fd.closure with
    | [(_, cc)] => celC K cc C
    | _ => false)
  | _ => false
/-- .. its code object's file -/
def filC (K : PySem.W.Frag) (c : Addr) (file : Str) : Bool := match K.lookup c with
  | some ⟨_, _, .fields vs, _⟩ => (match vs.toList[2]? with
    | some (Value.str fl _) => file == fl
    | _ => false)
  | _ => false
def filV (K : PySem.W.Frag) (v : Value) (file : Str) : Bool := match v with
  | .ref c => filC K c file
  | _ => false
def filB (K : PySem.W.Frag) (a : Addr) (file : Str) : Bool := match K.lookup a with
  | some ⟨_, _, .func fd, _⟩ => filV K fd.code file
  | _ => false
def kwV (K : PySem.W.Frag) (a : Addr) : Value := match K.lookup a with
  | some ⟨_, _, .func fd, _⟩ => fd.kwdefaults
  | _ => .none
/-- what FunX and SupOf want of the def at a, of the class at C -/
structure ClsDef (P : Program) (K : PySem.W.Frag) (d : Dp) (a C : Addr) : Prop where
  ex : ∃ (oc : Value) (od : Option Addr) (doc pm ct : Value) (an : Option Addr) (osl : Array (Option Value)) (cda cc : Addr) (oc3 : Value) (od3 : Option Addr) (sl3 : Array (Option Value)) (oc2 : Value) (od2 : Option Addr) (vs : Array Value) (sl2 : Array (Option Value)) (fl : Str) (tf : Tok),
    K.lookup a = some ⟨oc, od, .func (PySem.W.ksFn d.name d.qual (defArgs d.st) (defBody d.st) (defScope d.st) .none (kwV K a) doc pm an (.ref cda) ct cc), osl⟩ ∧ PySem.W.codeIn K (.ref cda) d.qual = true ∧
    K.lookup cc = some ⟨oc3, od3, .cell (some (.ref C)), sl3⟩ ∧ K.lookup cda = some ⟨oc2, od2, .fields vs, sl2⟩ ∧ vs.toList[2]? = some (Value.str fl tf) ∧ ((P.main.file : Str) == fl) = true
theorem clsdef_of {P : Program} {K : PySem.W.Frag} {a C : Addr} {d : Dp} (e : fnY K a = d.val) (hc : d.clo = [("__class__" : Str)]) (c : (codB K a d.qual && (cloB K a C && filB K a P.main.file)) = true) : ClsDef P K d a C := by
  obtain ⟨c1, c23⟩ := ba c
  obtain ⟨c2, c3⟩ := ba c23
  unfold fnY Dp.val at e
  rw [hc] at e
  unfold codB at c1
  unfold cloB at c2
  unfold filB at c3
  cases q : K.lookup a with
  | none =>
    rw [q] at c1
    cases c1
  | some o =>
    obtain ⟨oc, od, dt, osl⟩ := o
    rw [q] at c1 c2 c3 e
    cases dt with
    | func fd =>
      have ekw : kwV K a = fd.kwdefaults := by
        unfold kwV
        rw [q]
      obtain ⟨n1, n2, n3, n4, n5, n6, n7, n8, n9, n10, n11, n12, n13, n14, n15⟩ := fd
      have e2 : (some (n1, n2, n3, n4, n5, n6, n7.map (·.1), n15) : FnY) = some (d.name, d.qual, defArgs d.st, .stmts (defBody d.st), defScope d.st, mainGlobals, [("__class__" : Str)], builtinsNs) := e
      simp only [Option.some.injEq, Prod.mk.injEq] at e2
      obtain ⟨h1, h2, h3, h4, h5, h6, h7, h8⟩ := e2
      obtain ⟨cc, rfl⟩ : ∃ cc, n7 = [(("__class__" : Str), cc)] := by
        match n7, h7 with
        | [(y, cc)], h7 =>
          have : y = ("__class__" : Str) := by
            have h9 : [y] = [("__class__" : Str)] := h7
            exact List.head_eq_of_cons_eq h9
          exact ⟨cc, by rw [this]⟩
      subst h1 h2 h3 h4 h5 h6 h8
      have c4 : (PySem.W.codeIn K n13 d.qual && noneB n8) = true := c1
      obtain ⟨k1, k2⟩ := ba c4
      have c5 : celC K cc C = true := c2
      unfold celC at c5
      have c6 : filV K n13 P.main.file = true := c3
      obtain ⟨oc3, od3, sl3, hcell⟩ : ∃ oc3 od3 sl3, K.lookup cc = some ⟨oc3, od3, .cell (some (.ref C)), sl3⟩ := by
        split at c5
        · rename_i x1 x2 D x3 ho
          rw [of_decide_eq_true c5] at ho
          exact ⟨_, _, _, ho⟩
        · cases c5
      cases n13 with
      | ref cda =>
        have c7 : filC K cda P.main.file = true := c6
        unfold filC at c7
        obtain ⟨oc2, od2, vs, sl2, fl, tf, w1, w2, w3⟩ : ∃ oc2 od2 vs sl2 fl tf, K.lookup cda = some ⟨oc2, od2, .fields vs, sl2⟩ ∧ vs.toList[2]? = some (Value.str fl tf) ∧ ((P.main.file : Str) == fl) = true := by
          split at c7
          · rename_i x1 x2 vs x3 ho
            split at c7
            · rename_i fl tf hv
              exact ⟨_, _, vs, _, fl, tf, ho, hv, c7⟩
            · cases c7
          · cases c7
        cases n8 with
        | none =>
          refine ⟨oc, od, n10, n11, n14, n12, osl, cda, cc, oc3, od3, sl3, oc2, od2, vs, sl2, fl, tf, ?_, k1, hcell, w1, w2, w3⟩
          rw [ekw]
          exact q
        | _ => cases k2
      | _ => cases c6
    | _ => cases c1
/-- what super() rests on besides -/
def supB (K : PySem.W.Frag) (C f2 : Addr) : Bool := PySem.W.isClsIn K C && (decide (PySem.W.mroIn K C (.ref C) = some true) && (eqO (PySem.W.nsIn K cStatics "thirdparty.any") (some none) && (eqO (PySem.W.ks_superIn K C C "__init__") (some (some (.ref f2))) &&
  (decide (PySem.W.typeIn K (.ref f2) = some (.type "function")) && PySem.W.fnIn K f2))))
/-! ### properties, calls -/
def getr (K : PySem.W.Frag) (p : Addr) : Addr := match PySem.W.recIn K p "property" with
  | some (.ref g :: _) => g
  | _ => 0
def proB (K : PySem.W.Frag) (C : Addr) (f : Str) : Bool := eqO (PySem.W.findIn K (.ref C) f) (some (some (.ref (ma K C f)))) && (eqO (PySem.W.specialIn K (.ref (ma K C f)) "__get__") (some (some (.builtin "property.__get__"))) &&
  (decide (PySem.W.takesIn K (.ref (ma K C f)) = some true) && (match PySem.W.recIn K (ma K C f) "property" with
    | some (.ref _ :: _) => true
    | _ => false)))
theorem pro_ok {K : PySem.W.Frag} {C : Addr} {f : Str} (h : proB K C f = true) : PropOf K C f (ma K C f) (getr K (ma K C f)) := by
  obtain ⟨c1, c⟩ := ba h
  obtain ⟨c2, c⟩ := ba c
  obtain ⟨c3, c4⟩ := ba c
  refine ⟨eqO_ok c1, eqO_ok c2, of_decide_eq_true c3, ?_⟩
  unfold getr
  split at c4
  · rename_i g rest e
    rw [e]
    exact ⟨rest, rfl⟩
  · cases c4
def calB (K : PySem.W.Frag) (C : Addr) : Bool := eqO (PySem.W.findIn K (.ref C) "__call__") (some (some (.ref (ma K C "__call__")))) && (PySem.W.isFn K (.ref (ma K C "__call__")) && PySem.W.fnIn K (ma K C "__call__"))
theorem cal_ok {K : PySem.W.Frag} {C : Addr} (h : calB K C = true) : CallO K C (ma K C "__call__") := by
  obtain ⟨c1, c⟩ := ba h
  obtain ⟨c2, c3⟩ := ba c
  exact ⟨eqO_ok c1, c2, c3⟩
/-! ### the Hook -/
/-- what an object names, as far as the facts ask -/
def refsQ (o : Obj) : List Addr := match o.data with
  | .dict es _ => es.toList.flatMap fun e => refV e.val
  | .func fd => refV fd.code ++ (refV fd.defaults ++ (refV fd.kwdefaults ++ fd.closure.map (·.2)))
  | .cls cd => [cd.ns]
  | .fields vs => (match o.cls with
    | .type n => (match (decide (n = "property") || decide (n = "staticmethod")) with
      | true => vs.toList.flatMap refV
      | false => [])
    | _ => [])
  | _ => []
def frL {α : Type} : List Addr → (List Addr → α) → α
  | [], k => k []
  | a :: r, k => HandSHeadRun.frNat a fun a => frL r fun r => k (a :: r)
theorem frL_eq {α : Type} : ∀ (l : List Addr) (k : List Addr → α), frL l k = k l
  | [], _ => rfl
  | a :: r, k => by
    show (HandSHeadRun.frNat a fun a => frL r fun r => k (a :: r)) = _
    rw [HandSHeadRun.frNat_eq, frL_eq r]
def lvl (g : Addr → Option Obj) (as : List Addr) : List Addr := as.flatMap fun a => match g a with
  | some o => refsQ o
  | none => []
def asQ {α : Type} (g : Addr → Option Obj) : Nat → List Addr → List Addr → (List Addr → α) → α
  | 0, fr, acc, k => k (acc ++ fr)
  | n + 1, fr, acc, k => frL (lvl g fr) fun f2 => asQ g n f2 (acc ++ fr) k
theorem asQ_ex {g : Addr → Option Obj} : ∀ (n : Nat) (fr acc : List Addr), ∃ as : List Addr, ∀ (α : Type) (k : List Addr → α), asQ g n fr acc k = k as
  | 0, fr, acc => ⟨acc ++ fr, fun _ _ => rfl⟩
  | n + 1, fr, acc => by
    obtain ⟨as, h⟩ := asQ_ex (g := g) n (lvl g fr) (acc ++ fr)
    refine ⟨as, fun α k => ?_⟩
    show (frL (lvl g fr) fun f2 => asQ g n f2 (acc ++ fr) k) = _
    rw [frL_eq]
    exact h α k
def frK {α : Type} (g : Addr → Option Obj) : List Addr → (PySem.W.Frag → α) → α
  | [], k => k []
  | a :: r, k => match g a with
    | some o => frK g r fun K => k ((a, o) :: K)
    | none => frK g r k
theorem frK_eq {α : Type} {g : Addr → Option Obj} : ∀ (as : List Addr) (k : PySem.W.Frag → α), frK g as k = k (frG g as)
  | [], _ => rfl
  | a :: r, k => by
    unfold frK frG
    rw [List.filterMap_cons]
    cases g a with
    | some o =>
      show (frK g r fun K => k ((a, o) :: K)) = _
      rw [frK_eq r]
      rfl
    | none =>
      show frK g r k = _
      rw [frK_eq r]
      rfl
abbrev AlP : Type := Bool × List FnY
abbrev Ck : Type := PySem.W.Frag → Bool
def obsP (cs : List Ck) (fn : List Dp) (K : PySem.W.Frag) : AlP := (cs.all fun c => c K, fn.map fun d => fnY K (d.at_ K))
def valP (fn : List Dp) : AlP := (true, fn.map Dp.val)
def SaysP (cs : List Ck) (fn : List Dp) (K : PySem.W.Frag) : Prop := obsP cs fn K = valP fn
def obsPG (n : Nat) (cs : List Ck) (fn : List Dp) (g : Addr → Option Obj) : AlP := asQ g n [mainGlobals, cStatics] [] fun as => frK g as fun K => obsP cs fn K
theorem obsPG_ex (n : Nat) (cs : List Ck) (fn : List Dp) (g : Addr → Option Obj) : ∃ as, obsPG n cs fn g = obsP cs fn (frG g as) := by
  obtain ⟨as, h⟩ := asQ_ex (g := g) n [mainGlobals, cStatics] []
  refine ⟨as, ?_⟩
  unfold obsPG
  rw [h, frK_eq]
def hookP (n : Nat) (cs : List Ck) (fn : List Dp) : PySem.W.Hook where
  α := AlP
  obs := fun s => obsPG n cs fn s.heap.get?
  val := fun _ => valP fn
  says := fun _ h => ∃ K : PySem.W.Frag, K.In h ∧ SaysP cs fn K
  of := fun _ s e => by
    obtain ⟨as, h⟩ := obsPG_ex n cs fn s.heap.get?
    rw [h] at e
    exact ⟨_, frG_in, e⟩
  keeps := fun _ _ _ ⟨K, hK, c⟩ k => ⟨K, PySem.W.Frag.In.keeps hK k, c⟩
theorem obsPG_eq {n : Nat} {cs : List Ck} {fn : List Dp} {g : Addr → Option Obj} {s : Shared} (h : ∀ a, g a = s.heap.get? a) : obsPG n cs fn g = (hookP n cs fn).obs s := by
  have e : g = s.heap.get? := funext h
  rw [e] <;> rfl
section
variable {cs : List Ck} {fn : List Dp} {K : PySem.W.Frag}
theorem SaysP.ck (c : SaysP cs fn K) (i : Nat) {f : Ck} (h : cs[i]? = some f := by rfl) : f K = true :=
  List.all_eq_true.mp (show (cs.all fun c => c K) = true from congrArg (fun z : AlP => z.1) c) f (List.mem_of_getElem? h)
theorem SaysP.at_ (c : SaysP cs fn K) (i : Nat) {d : Dp} (h : fn[i]? = some d := by rfl) : fnY K (d.at_ K) = d.val := by
  have e : fn.map (fun d => fnY K (d.at_ K)) = fn.map Dp.val := congrArg (fun z : AlP => z.2) c
  have e2 : (fn.map fun d => fnY K (d.at_ K))[i]? = (fn.map Dp.val)[i]? := by rw [e]
  rw [List.getElem?_map, List.getElem?_map, h] at e2
  exact Option.some.inj e2
end
/-! ### the law's end -/
theorem walk_goE {l : PySem.W.OpenLaw} {n k : Nat} {q : Program} {loose : List Str} {XP : (Str → Option Value) → Heap → Prop} {YP : World → Heap → Prop} {d : DefRec} {x : Str}
    (most : l.most = some n) (few : n ≤ sizeLine) (nodf : d.params.defaults = []) (hr : Room k callerA)
    (F : ∀ (w : World) (mg : Str → Option Value) (fa : Addr) (h : Heap), YP w h → h.Ns mainGlobals mg → mg d.name = some (.ref fa) →
      ∃ (K : PySem.W.Frag) (fd : FuncData) (sp : Sp), K.In h ∧ (∀ (s : Shared) (u : Value), BindsTo s fd ⟨[u], []⟩ [(x, u)]) ∧
        (∀ (H : Hp) (a : Addr) (ns : List Int), ns.length ≤ n → Only H → SqL K H a (ns.map V.int) → sp [.ref a] H (fun v _ => v = .bl true) fun _ _ _ => False) ∧
        ∀ base : Heap, K.In base → base.Ns mainGlobals mg → FnG l.prog w K mg base CX0 k fa fd [x] sp) :
    PySem.W.WalkO q loose XP YP l.row.toRowW d [] (fun f vs => PySem.call f vs) := by
  refine Att.attach_call most nodf
    fun w _ s₁ mg mb fa _ _ _ _ a vs ns top Y _ _ _ atF obj allInt len noG => ?_
  obtain ⟨K, fd, sp, inK, binds, hsp, keeps⟩ := F w mg fa _ Y top.T.g atF
  exact law_go inK top.T.g top.T.b top.T.builtins top.T.nolimit noG obj allInt (Nat.le_trans len few) hr keeps binds
    fun H hO hS => hsp H a ns len hO hS
end G

set_option Elab.async false
set_option linter.all false
set_option maxRecDepth 100000
set_option maxHeartbeats 8000000
/-! EB: what the top's run asks, and the run. -/
namespace G
open PySem PySem.Spec PyProof.Rows L2 NdefX StX He
def topS (i : Nat) : Stmt := PySem.Challenge.pw_listviews_k13_neighboring_ranges.main.body.getD i (.Pass ⟨0, 0, 0, 0⟩)
abbrev sCell : Stmt := topS 53
abbrev sBox : Stmt := topS 54
abbrev sTake : Stmt := topS 55
abbrev sMixed : Stmt := topS 56
abbrev sNames : Stmt := topS 57
abbrev sNumber : Stmt := topS 58
abbrev sIsInt : Stmt := topS 15
abbrev sIsName : Stmt := topS 16
abbrev sNeedInt : Stmt := topS 27
abbrev sNeedName : Stmt := topS 28
abbrev sCondInit : Stmt := inClass (topS 39) 0
abbrev sBtwInit : Stmt := inClass (topS 42) 0
abbrev sIsValue : Stmt := topS 17
abbrev sNeedValue : Stmt := topS 29
abbrev sNeedRecord : Stmt := topS 30
abbrev sBtw (j : Nat) : Stmt := inClass (topS 42) j
abbrev sNamInit : Stmt := inClass (topS 43) 0
abbrev sNam (j : Nat) : Stmt := inClass (topS 43) j
abbrev sNamed : Stmt := topS 65
abbrev sNeedCond : Stmt := topS 47
abbrev sSizes : Stmt := topS 48
abbrev sBo (j : Nat) : Stmt := inClass (topS 44) j
abbrev sEi (j : Nat) : Stmt := inClass (topS 45) j
abbrev sNt (j : Nat) : Stmt := inClass (topS 46) j
abbrev sBuilt : Stmt := topS 59
abbrev sLIsName : Stmt := topS 61
abbrev sLIsNum : Stmt := topS 62
abbrev sLIsVal : Stmt := topS 63
abbrev sUnused : Stmt := topS 25
abbrev sNums : Stmt := topS 24
abbrev sKeys : Stmt := topS 22
abbrev sVals : Stmt := topS 23
abbrev sCRec : Stmt := topS 21
abbrev sLeafAll : Stmt := inClass (topS 40) 0
abbrev sPairAll : Stmt := inClass (topS 41) 0
abbrev sParting : Stmt := topS 50
abbrev sIsPart : Stmt := topS 51
abbrev sLHolds : Stmt := topS 60
abbrev sLPart : Stmt := topS 64
abbrev sCuts : Stmt := topS 66
abbrev sRi : Stmt := topS 67
abbrev sAr : Stmt := topS 68
abbrev sMr : Stmt := topS 69
abbrev sLaw : Stmt := topS 70
/-- the five classes -/
structure Cs where
  bt : Addr
  nm : Addr
  nt : Addr
  bo : Addr
  ei : Addr
def Cs.at (c : Cs) : Nat → Addr
  | 0 => c.bt
  | 1 => c.nm
  | 2 => c.nt
  | 3 => c.bo
  | _ => c.ei
def intB (K : PySem.W.Frag) (D : Addr) (x : Str) (i : Int) : Bool := match PySem.W.nsIn K D x with
  | some (some (Value.int j _)) => decide (j = i)
  | _ => false
def btwDefB (K : PySem.W.Frag) (v : Value) : Bool := match v with
  | .ref D => intB K D "low" (-999) && intB K D "high" 999
  | _ => false
def condB (K : PySem.W.Frag) (D C : Addr) : Bool := eqO (PySem.W.findIn K (.ref C) "__class__") (some (some (.builtin "object.__class__"))) && (eqO (PySem.W.specialIn K (.builtin "object.__class__") "__get__") (some (some (.builtin "getset_descriptor.__get__"))) &&
  (decide (PySem.W.takesIn K (.builtin "object.__class__") = some true) && (decide (PySem.W.mroIn K C (.type "object") = some true) && decide (PySem.W.kitOne K (.ref C) (.ref D) = some true))))
def opB (K : PySem.W.Frag) (C : Addr) (op : Operator) (f : Addr) : Bool := PySem.W.selfFirst K C && (eqO (PySem.W.findIn K (.ref C) (PySem.dunder op.info.2)) (some (some (.ref f))) && (PySem.W.isFn K (.ref f) && eqO (PySem.W.findIn K (.ref C) (dunderR op.info.2)) (some none)))
def invB (K : PySem.W.Frag) (C f : Addr) : Bool := eqO (PySem.W.findIn K (.ref C) "__invert__") (some (some (.ref f))) && PySem.W.isFn K (.ref f)
def notSub (K : PySem.W.Frag) (C2 C : Addr) : Bool := decide (PySem.W.subIn K (.ref C2) (.ref C) = some false)
def eqoB (K : PySem.W.Frag) (C f : Addr) : Bool := eqO (PySem.W.findIn K (.ref C) "__eq__") (some (some (.ref f))) && (PySem.W.isFn K (.ref f) && (eqO (PySem.W.findIn K (.ref C) "__ne__") (some (some (.builtin "object.__ne__"))) && decide (PySem.W.mroIn K C (.type "object") = some true)))
def five : List Nat := [0, 1, 2, 3, 4]
def tys : List String := ["NoneType", "int", "str", "list", "tuple"]
def kitB (K : PySem.W.Frag) (c : Cs) : Bool := five.all fun i => five.all fun j => decide (PySem.W.kitOne K (.ref (c.at i)) (.ref (c.at j)) = some (decide (i = j)))
def kitTB (K : PySem.W.Frag) (c : Cs) : Bool := tys.all fun T => five.all fun j => decide (PySem.W.kitOne K (.type T) (.ref (c.at j)) = some false)
def nofB (K : PySem.W.Frag) (c : Cs) : Bool := five.all fun i => five.all fun j => PySem.W.notFirst K (c.at j) (.ref (c.at i))
def nofTB (K : PySem.W.Frag) (c : Cs) : Bool := tys.all fun T => five.all fun j => PySem.W.notFirst K (c.at j) (.type T)
abbrev PX : Program := PySem.W.OpenLaw.prog PySem.Challenge.rw_listviews_k13_neighboring_ranges
def cks0 : List Ck := [
  fun K => He.Fa.ok K (.free "isinstance"),
  fun K => He.Fa.ok K (.free "int"),
  fun K => He.Fa.ok K (.free "bool"),
  fun K => He.Fa.ok K (.free "str"),
  fun K => He.Fa.ok K (.free "dict"),
  fun K => He.Fa.ok K (.free "len"),
  fun K => He.Fa.ok K (.free "all"),
  fun K => He.Fa.ok K (.free "any"),
  fun K => He.Fa.ok K (.free "list"),
  fun K => He.Fa.ok K (.free "range"),
  fun K => He.Fa.ok K (.free "min"),
  fun K => He.Fa.ok K (.free "max"),
  fun K => He.Fa.ok K (.free "tuple"),
  fun K => He.Fa.ok K (.free "super"),
  fun K => He.Fa.ok K (.free "sum"),
  fun K => He.Fa.ok K (.free "sorted"),
  fun K => He.Fa.ok K (.free "set"),
  fun K => He.Fa.ok K (.str "LETTERS" "abcdefghijklmnopqrstuvwxyz"),
  fun K => He.Fa.ok K (.int "MOST_LETTERS" 8),
  fun K => He.Fa.ok K (.int "MOST_FIELDS" 6),
  fun K => He.Fa.ok K (.int "GREATEST" 999),
  fun K => He.Fa.ok K (.int "MOST_LEAVES" 6),
  fun K => He.Fa.ok K (.int "MOST_DEPTH" 5),
  fun K => He.Fa.ok K (.int "MOST_NAMES" 8),
  fun K => plainB K (He.ga K "is_integer") "is_integer",
  fun K => He.Fa.ok K (.glo "is_integer"),
  fun K => plainB K (He.ga K "is_name") "is_name",
  fun K => He.Fa.ok K (.glo "is_name"),
  fun K => plainB K (He.ga K "is_value") "is_value",
  fun K => He.Fa.ok K (.glo "is_value")]
def cks1 : List Ck := [
  fun K => plainB K (He.ga K "need_integer") "need_integer",
  fun K => He.Fa.ok K (.glo "need_integer"),
  fun K => plainB K (He.ga K "need_name") "need_name",
  fun K => He.Fa.ok K (.glo "need_name"),
  fun K => plainB K (He.ga K "need_condition") "need_condition",
  fun K => He.Fa.ok K (.glo "need_condition"),
  fun K => plainB K (He.ga K "sizes_of_pair") "sizes_of_pair",
  fun K => He.Fa.ok K (.glo "sizes_of_pair"),
  fun K => plainB K (He.ga K "unused_name") "unused_name",
  fun K => He.Fa.ok K (.glo "unused_name"),
  fun K => plainB K (He.ga K "candidate_numbers") "candidate_numbers",
  fun K => He.Fa.ok K (.glo "candidate_numbers"),
  fun K => plainB K (He.ga K "candidate_keys") "candidate_keys",
  fun K => He.Fa.ok K (.glo "candidate_keys"),
  fun K => plainB K (He.ga K "candidate_values") "candidate_values",
  fun K => He.Fa.ok K (.glo "candidate_values"),
  fun K => plainB K (He.ga K "candidate_records") "candidate_records",
  fun K => He.Fa.ok K (.glo "candidate_records"),
  fun K => plainB K (He.ga K "parting") "parting",
  fun K => He.Fa.ok K (.glo "parting"),
  fun K => plainB K (He.ga K "is_parting") "is_parting",
  fun K => He.Fa.ok K (.glo "is_parting"),
  fun K => plainB K (He.ga K "_law_cell") "_law_cell",
  fun K => He.Fa.ok K (.glo "_law_cell"),
  fun K => plainB K (He.ga K "_law_box") "_law_box",
  fun K => He.Fa.ok K (.glo "_law_box"),
  fun K => plainB K (He.ga K "_law_take") "_law_take",
  fun K => He.Fa.ok K (.glo "_law_take"),
  fun K => plainB K (He.ga K "_law_mixed") "_law_mixed",
  fun K => He.Fa.ok K (.glo "_law_mixed")]
def cks2 : List Ck := [
  fun K => plainB K (He.ga K "_law_names") "_law_names",
  fun K => He.Fa.ok K (.glo "_law_names"),
  fun K => plainB K (He.ga K "_law_number") "_law_number",
  fun K => He.Fa.ok K (.glo "_law_number"),
  fun K => plainB K (He.ga K "_law_named") "_law_named",
  fun K => He.Fa.ok K (.glo "_law_named"),
  fun K => plainB K (He.ga K "_law_built") "_law_built",
  fun K => He.Fa.ok K (.glo "_law_built"),
  fun K => plainB K (He.ga K "_law_holds") "_law_holds",
  fun K => He.Fa.ok K (.glo "_law_holds"),
  fun K => plainB K (He.ga K "_law_is_name") "_law_is_name",
  fun K => He.Fa.ok K (.glo "_law_is_name"),
  fun K => plainB K (He.ga K "_law_is_number") "_law_is_number",
  fun K => He.Fa.ok K (.glo "_law_is_number"),
  fun K => plainB K (He.ga K "_law_is_value") "_law_is_value",
  fun K => He.Fa.ok K (.glo "_law_is_value"),
  fun K => plainB K (He.ga K "_law_parted") "_law_parted",
  fun K => He.Fa.ok K (.glo "_law_parted"),
  fun K => plainB K (He.ga K "_law_cuts") "_law_cuts",
  fun K => He.Fa.ok K (.glo "_law_cuts"),
  fun K => plainB K (He.ga K "_law_right") "_law_right",
  fun K => He.Fa.ok K (.glo "_law_right"),
  fun K => plainB K (He.ga K "_law_all_right") "_law_all_right",
  fun K => He.Fa.ok K (.glo "_law_all_right"),
  fun K => plainB K (He.ga K "_law_many_right") "_law_many_right",
  fun K => He.Fa.ok K (.glo "_law_many_right"),
  fun K => plainB K (He.ga K "law") "law",
  fun K => He.Fa.ok K (.glo "law"),
  fun K => He.Fa.ok K (.glo "Condition"),
  fun K => plainB K (He.ma K (He.ga K "Condition") "__init__") "Condition.__init__"]
def cks3 : List Ck := [
  fun K => He.Fa.ok K (.glo "Between"),
  fun K => He.Fa.ok K (.cls "Between"),
  fun K => He.Fa.ok K (.noat "Between" "leaf_count"),
  fun K => He.Fa.ok K (.noat "Between" "height"),
  fun K => He.Fa.ok K (.noat "Between" "name_count"),
  fun K => He.Fa.ok K (.noat "Between" "field_name"),
  fun K => He.Fa.ok K (.noat "Between" "lowest"),
  fun K => He.Fa.ok K (.noat "Between" "highest"),
  fun K => He.Fa.ok K (.mkr "Between"),
  fun K => codB K (He.ma K (He.ga K "Between") "__init__") "Between.__init__" && (cloB K (He.ma K (He.ga K "Between") "__init__") (He.ga K "Between") && filB K (He.ma K (He.ga K "Between") "__init__") PX.main.file),
  fun K => supB K (He.ga K "Between") (He.ma K (He.ga K "Condition") "__init__"),
  fun K => condB K (He.ga K "Condition") (He.ga K "Between"),
  fun K => plainB K (He.ma K (He.ga K "Between") "holds") "Between.holds",
  fun K => He.Fa.ok K (.meth "Between" "holds"),
  fun K => plainB K (He.ma K (He.ga K "Between") "all_leaves") "Leaf.all_leaves",
  fun K => He.Fa.ok K (.meth "Between" "all_leaves"),
  fun K => plainB K (getr K (He.ma K (He.ga K "Between") "field")) "Between.field",
  fun K => proB K (He.ga K "Between") "field",
  fun K => plainB K (getr K (He.ma K (He.ga K "Between") "low")) "Between.low",
  fun K => proB K (He.ga K "Between") "low",
  fun K => plainB K (getr K (He.ma K (He.ga K "Between") "high")) "Between.high",
  fun K => proB K (He.ga K "Between") "high",
  fun K => plainB K (He.ma K (He.ga K "Between") "__and__") "Between.__and__",
  fun K => opB K (He.ga K "Between") .BitAnd (He.ma K (He.ga K "Between") "__and__"),
  fun K => plainB K (He.ma K (He.ga K "Between") "__or__") "Between.__or__",
  fun K => opB K (He.ga K "Between") .BitOr (He.ma K (He.ga K "Between") "__or__"),
  fun K => plainB K (He.ma K (He.ga K "Between") "__invert__") "Between.__invert__",
  fun K => invB K (He.ga K "Between") (He.ma K (He.ga K "Between") "__invert__"),
  fun K => He.Fa.ok K (.glo "Named"),
  fun K => He.Fa.ok K (.cls "Named")]
def cks4 : List Ck := [
  fun K => He.Fa.ok K (.noat "Named" "leaf_count"),
  fun K => He.Fa.ok K (.noat "Named" "height"),
  fun K => He.Fa.ok K (.noat "Named" "name_count"),
  fun K => He.Fa.ok K (.noat "Named" "accepted_names"),
  fun K => He.Fa.ok K (.mkr "Named"),
  fun K => codB K (He.ma K (He.ga K "Named") "__init__") "Named.__init__" && (cloB K (He.ma K (He.ga K "Named") "__init__") (He.ga K "Named") && filB K (He.ma K (He.ga K "Named") "__init__") PX.main.file),
  fun K => supB K (He.ga K "Named") (He.ma K (He.ga K "Condition") "__init__"),
  fun K => condB K (He.ga K "Condition") (He.ga K "Named"),
  fun K => plainB K (He.ma K (He.ga K "Named") "holds") "Named.holds",
  fun K => He.Fa.ok K (.meth "Named" "holds"),
  fun K => plainB K (He.ma K (He.ga K "Named") "all_leaves") "Leaf.all_leaves",
  fun K => He.Fa.ok K (.meth "Named" "all_leaves"),
  fun K => plainB K (getr K (He.ma K (He.ga K "Named") "accepted")) "Named.accepted",
  fun K => proB K (He.ga K "Named") "accepted",
  fun K => plainB K (He.ma K (He.ga K "Named") "__and__") "Named.__and__",
  fun K => opB K (He.ga K "Named") .BitAnd (He.ma K (He.ga K "Named") "__and__"),
  fun K => plainB K (He.ma K (He.ga K "Named") "__or__") "Named.__or__",
  fun K => opB K (He.ga K "Named") .BitOr (He.ma K (He.ga K "Named") "__or__"),
  fun K => plainB K (He.ma K (He.ga K "Named") "__invert__") "Named.__invert__",
  fun K => invB K (He.ga K "Named") (He.ma K (He.ga K "Named") "__invert__"),
  fun K => He.Fa.ok K (.glo "Not"),
  fun K => He.Fa.ok K (.cls "Not"),
  fun K => He.Fa.ok K (.noat "Not" "leaf_count"),
  fun K => He.Fa.ok K (.noat "Not" "height"),
  fun K => He.Fa.ok K (.noat "Not" "name_count"),
  fun K => He.Fa.ok K (.noat "Not" "inner"),
  fun K => He.Fa.ok K (.mkr "Not"),
  fun K => codB K (He.ma K (He.ga K "Not") "__init__") "Not.__init__" && (cloB K (He.ma K (He.ga K "Not") "__init__") (He.ga K "Not") && filB K (He.ma K (He.ga K "Not") "__init__") PX.main.file),
  fun K => supB K (He.ga K "Not") (He.ma K (He.ga K "Condition") "__init__"),
  fun K => condB K (He.ga K "Condition") (He.ga K "Not")]
def cks5 : List Ck := [
  fun K => plainB K (He.ma K (He.ga K "Not") "holds") "Not.holds",
  fun K => He.Fa.ok K (.meth "Not" "holds"),
  fun K => plainB K (He.ma K (He.ga K "Not") "all_leaves") "Not.all_leaves",
  fun K => He.Fa.ok K (.meth "Not" "all_leaves"),
  fun K => plainB K (He.ma K (He.ga K "Not") "__and__") "Not.__and__",
  fun K => opB K (He.ga K "Not") .BitAnd (He.ma K (He.ga K "Not") "__and__"),
  fun K => plainB K (He.ma K (He.ga K "Not") "__or__") "Not.__or__",
  fun K => opB K (He.ga K "Not") .BitOr (He.ma K (He.ga K "Not") "__or__"),
  fun K => plainB K (He.ma K (He.ga K "Not") "__invert__") "Not.__invert__",
  fun K => invB K (He.ga K "Not") (He.ma K (He.ga K "Not") "__invert__"),
  fun K => He.Fa.ok K (.glo "Both"),
  fun K => He.Fa.ok K (.cls "Both"),
  fun K => He.Fa.ok K (.noat "Both" "leaf_count"),
  fun K => He.Fa.ok K (.noat "Both" "height"),
  fun K => He.Fa.ok K (.noat "Both" "name_count"),
  fun K => He.Fa.ok K (.noat "Both" "first"),
  fun K => He.Fa.ok K (.noat "Both" "second"),
  fun K => He.Fa.ok K (.mkr "Both"),
  fun K => codB K (He.ma K (He.ga K "Both") "__init__") "Both.__init__" && (cloB K (He.ma K (He.ga K "Both") "__init__") (He.ga K "Both") && filB K (He.ma K (He.ga K "Both") "__init__") PX.main.file),
  fun K => supB K (He.ga K "Both") (He.ma K (He.ga K "Condition") "__init__"),
  fun K => condB K (He.ga K "Condition") (He.ga K "Both"),
  fun K => plainB K (He.ma K (He.ga K "Both") "holds") "Both.holds",
  fun K => He.Fa.ok K (.meth "Both" "holds"),
  fun K => plainB K (He.ma K (He.ga K "Both") "all_leaves") "Pair.all_leaves",
  fun K => He.Fa.ok K (.meth "Both" "all_leaves"),
  fun K => plainB K (He.ma K (He.ga K "Both") "__and__") "Both.__and__",
  fun K => opB K (He.ga K "Both") .BitAnd (He.ma K (He.ga K "Both") "__and__"),
  fun K => plainB K (He.ma K (He.ga K "Both") "__or__") "Both.__or__",
  fun K => opB K (He.ga K "Both") .BitOr (He.ma K (He.ga K "Both") "__or__"),
  fun K => plainB K (He.ma K (He.ga K "Both") "__invert__") "Both.__invert__"]
def cks6 : List Ck := [
  fun K => invB K (He.ga K "Both") (He.ma K (He.ga K "Both") "__invert__"),
  fun K => He.Fa.ok K (.glo "Either"),
  fun K => He.Fa.ok K (.cls "Either"),
  fun K => He.Fa.ok K (.noat "Either" "leaf_count"),
  fun K => He.Fa.ok K (.noat "Either" "height"),
  fun K => He.Fa.ok K (.noat "Either" "name_count"),
  fun K => He.Fa.ok K (.noat "Either" "first"),
  fun K => He.Fa.ok K (.noat "Either" "second"),
  fun K => He.Fa.ok K (.mkr "Either"),
  fun K => codB K (He.ma K (He.ga K "Either") "__init__") "Either.__init__" && (cloB K (He.ma K (He.ga K "Either") "__init__") (He.ga K "Either") && filB K (He.ma K (He.ga K "Either") "__init__") PX.main.file),
  fun K => supB K (He.ga K "Either") (He.ma K (He.ga K "Condition") "__init__"),
  fun K => condB K (He.ga K "Condition") (He.ga K "Either"),
  fun K => plainB K (He.ma K (He.ga K "Either") "holds") "Either.holds",
  fun K => He.Fa.ok K (.meth "Either" "holds"),
  fun K => plainB K (He.ma K (He.ga K "Either") "all_leaves") "Pair.all_leaves",
  fun K => He.Fa.ok K (.meth "Either" "all_leaves"),
  fun K => plainB K (He.ma K (He.ga K "Either") "__and__") "Either.__and__",
  fun K => opB K (He.ga K "Either") .BitAnd (He.ma K (He.ga K "Either") "__and__"),
  fun K => plainB K (He.ma K (He.ga K "Either") "__or__") "Either.__or__",
  fun K => opB K (He.ga K "Either") .BitOr (He.ma K (He.ga K "Either") "__or__"),
  fun K => plainB K (He.ma K (He.ga K "Either") "__invert__") "Either.__invert__",
  fun K => invB K (He.ga K "Either") (He.ma K (He.ga K "Either") "__invert__"),
  fun K => btwDefB K (kwV K (He.ma K (He.ga K "Between") "__init__")),
  fun K => notSub K (He.ga K "Between") (He.ga K "Named"),
  fun K => notSub K (He.ga K "Between") (He.ga K "Not"),
  fun K => notSub K (He.ga K "Between") (He.ga K "Both"),
  fun K => notSub K (He.ga K "Between") (He.ga K "Either"),
  fun K => notSub K (He.ga K "Named") (He.ga K "Between"),
  fun K => notSub K (He.ga K "Named") (He.ga K "Not"),
  fun K => notSub K (He.ga K "Named") (He.ga K "Both")]
def cks7 : List Ck := [
  fun K => notSub K (He.ga K "Named") (He.ga K "Either"),
  fun K => notSub K (He.ga K "Not") (He.ga K "Between"),
  fun K => notSub K (He.ga K "Not") (He.ga K "Named"),
  fun K => notSub K (He.ga K "Not") (He.ga K "Both"),
  fun K => notSub K (He.ga K "Not") (He.ga K "Either"),
  fun K => notSub K (He.ga K "Both") (He.ga K "Between"),
  fun K => notSub K (He.ga K "Both") (He.ga K "Named"),
  fun K => notSub K (He.ga K "Both") (He.ga K "Not"),
  fun K => notSub K (He.ga K "Both") (He.ga K "Either"),
  fun K => notSub K (He.ga K "Either") (He.ga K "Between"),
  fun K => notSub K (He.ga K "Either") (He.ga K "Named"),
  fun K => notSub K (He.ga K "Either") (He.ga K "Not"),
  fun K => notSub K (He.ga K "Either") (He.ga K "Both"),
  fun K => kitB K (⟨He.ga K "Between", He.ga K "Named", He.ga K "Not", He.ga K "Both", He.ga K "Either"⟩ : Cs),
  fun K => kitTB K (⟨He.ga K "Between", He.ga K "Named", He.ga K "Not", He.ga K "Both", He.ga K "Either"⟩ : Cs),
  fun K => nofB K (⟨He.ga K "Between", He.ga K "Named", He.ga K "Not", He.ga K "Both", He.ga K "Either"⟩ : Cs),
  fun K => nofTB K (⟨He.ga K "Between", He.ga K "Named", He.ga K "Not", He.ga K "Both", He.ga K "Either"⟩ : Cs)]
abbrev cks : List Ck := cks0 ++ cks1 ++ cks2 ++ cks3 ++ cks4 ++ cks5 ++ cks6 ++ cks7
def fns0 : List Dp := [
  ⟨fun K => He.ga K "is_integer", "is_integer", "is_integer", sIsInt, []⟩,
  ⟨fun K => He.ga K "is_name", "is_name", "is_name", sIsName, []⟩,
  ⟨fun K => He.ga K "is_value", "is_value", "is_value", sIsValue, []⟩,
  ⟨fun K => He.ga K "need_integer", "need_integer", "need_integer", sNeedInt, []⟩,
  ⟨fun K => He.ga K "need_name", "need_name", "need_name", sNeedName, []⟩,
  ⟨fun K => He.ga K "need_condition", "need_condition", "need_condition", sNeedCond, []⟩,
  ⟨fun K => He.ga K "sizes_of_pair", "sizes_of_pair", "sizes_of_pair", sSizes, []⟩,
  ⟨fun K => He.ga K "unused_name", "unused_name", "unused_name", sUnused, []⟩,
  ⟨fun K => He.ga K "candidate_numbers", "candidate_numbers", "candidate_numbers", sNums, []⟩,
  ⟨fun K => He.ga K "candidate_keys", "candidate_keys", "candidate_keys", sKeys, []⟩,
  ⟨fun K => He.ga K "candidate_values", "candidate_values", "candidate_values", sVals, []⟩,
  ⟨fun K => He.ga K "candidate_records", "candidate_records", "candidate_records", sCRec, []⟩,
  ⟨fun K => He.ga K "parting", "parting", "parting", sParting, []⟩,
  ⟨fun K => He.ga K "is_parting", "is_parting", "is_parting", sIsPart, []⟩,
  ⟨fun K => He.ga K "_law_cell", "_law_cell", "_law_cell", sCell, []⟩,
  ⟨fun K => He.ga K "_law_box", "_law_box", "_law_box", sBox, []⟩,
  ⟨fun K => He.ga K "_law_take", "_law_take", "_law_take", sTake, []⟩,
  ⟨fun K => He.ga K "_law_mixed", "_law_mixed", "_law_mixed", sMixed, []⟩,
  ⟨fun K => He.ga K "_law_names", "_law_names", "_law_names", sNames, []⟩,
  ⟨fun K => He.ga K "_law_number", "_law_number", "_law_number", sNumber, []⟩]
def fns1 : List Dp := [
  ⟨fun K => He.ga K "_law_named", "_law_named", "_law_named", sNamed, []⟩,
  ⟨fun K => He.ga K "_law_built", "_law_built", "_law_built", sBuilt, []⟩,
  ⟨fun K => He.ga K "_law_holds", "_law_holds", "_law_holds", sLHolds, []⟩,
  ⟨fun K => He.ga K "_law_is_name", "_law_is_name", "_law_is_name", sLIsName, []⟩,
  ⟨fun K => He.ga K "_law_is_number", "_law_is_number", "_law_is_number", sLIsNum, []⟩,
  ⟨fun K => He.ga K "_law_is_value", "_law_is_value", "_law_is_value", sLIsVal, []⟩,
  ⟨fun K => He.ga K "_law_parted", "_law_parted", "_law_parted", sLPart, []⟩,
  ⟨fun K => He.ga K "_law_cuts", "_law_cuts", "_law_cuts", sCuts, []⟩,
  ⟨fun K => He.ga K "_law_right", "_law_right", "_law_right", sRi, []⟩,
  ⟨fun K => He.ga K "_law_all_right", "_law_all_right", "_law_all_right", sAr, []⟩,
  ⟨fun K => He.ga K "_law_many_right", "_law_many_right", "_law_many_right", sMr, []⟩,
  ⟨fun K => He.ga K "law", "law", "law", sLaw, []⟩,
  ⟨fun K => He.ma K (He.ga K "Condition") "__init__", "__init__", "Condition.__init__", sCondInit, []⟩,
  ⟨fun K => He.ma K (He.ga K "Between") "__init__", "__init__", "Between.__init__", sBtwInit, ["__class__"]⟩,
  ⟨fun K => He.ma K (He.ga K "Between") "holds", "holds", "Between.holds", (sBtw 5), []⟩,
  ⟨fun K => He.ma K (He.ga K "Between") "all_leaves", "all_leaves", "Leaf.all_leaves", sLeafAll, []⟩,
  ⟨fun K => getr K (He.ma K (He.ga K "Between") "field"), "field", "Between.field", (sBtw 1), []⟩,
  ⟨fun K => getr K (He.ma K (He.ga K "Between") "low"), "low", "Between.low", (sBtw 2), []⟩,
  ⟨fun K => getr K (He.ma K (He.ga K "Between") "high"), "high", "Between.high", (sBtw 3), []⟩,
  ⟨fun K => He.ma K (He.ga K "Between") "__and__", "__and__", "Between.__and__", (sBtw 8), []⟩]
def fns2 : List Dp := [
  ⟨fun K => He.ma K (He.ga K "Between") "__or__", "__or__", "Between.__or__", (sBtw 9), []⟩,
  ⟨fun K => He.ma K (He.ga K "Between") "__invert__", "__invert__", "Between.__invert__", (sBtw 10), []⟩,
  ⟨fun K => He.ma K (He.ga K "Named") "__init__", "__init__", "Named.__init__", sNamInit, ["__class__"]⟩,
  ⟨fun K => He.ma K (He.ga K "Named") "holds", "holds", "Named.holds", (sNam 3), []⟩,
  ⟨fun K => He.ma K (He.ga K "Named") "all_leaves", "all_leaves", "Leaf.all_leaves", sLeafAll, []⟩,
  ⟨fun K => getr K (He.ma K (He.ga K "Named") "accepted"), "accepted", "Named.accepted", (sNam 1), []⟩,
  ⟨fun K => He.ma K (He.ga K "Named") "__and__", "__and__", "Named.__and__", (sNam 6), []⟩,
  ⟨fun K => He.ma K (He.ga K "Named") "__or__", "__or__", "Named.__or__", (sNam 7), []⟩,
  ⟨fun K => He.ma K (He.ga K "Named") "__invert__", "__invert__", "Named.__invert__", (sNam 8), []⟩,
  ⟨fun K => He.ma K (He.ga K "Not") "__init__", "__init__", "Not.__init__", (sNt 0), ["__class__"]⟩,
  ⟨fun K => He.ma K (He.ga K "Not") "holds", "holds", "Not.holds", (sNt 3), []⟩,
  ⟨fun K => He.ma K (He.ga K "Not") "all_leaves", "all_leaves", "Not.all_leaves", (sNt 4), []⟩,
  ⟨fun K => He.ma K (He.ga K "Not") "__and__", "__and__", "Not.__and__", (sNt 7), []⟩,
  ⟨fun K => He.ma K (He.ga K "Not") "__or__", "__or__", "Not.__or__", (sNt 8), []⟩,
  ⟨fun K => He.ma K (He.ga K "Not") "__invert__", "__invert__", "Not.__invert__", (sNt 9), []⟩,
  ⟨fun K => He.ma K (He.ga K "Both") "__init__", "__init__", "Both.__init__", (sBo 0), ["__class__"]⟩,
  ⟨fun K => He.ma K (He.ga K "Both") "holds", "holds", "Both.holds", (sBo 4), []⟩,
  ⟨fun K => He.ma K (He.ga K "Both") "all_leaves", "all_leaves", "Pair.all_leaves", sPairAll, []⟩,
  ⟨fun K => He.ma K (He.ga K "Both") "__and__", "__and__", "Both.__and__", (sBo 7), []⟩,
  ⟨fun K => He.ma K (He.ga K "Both") "__or__", "__or__", "Both.__or__", (sBo 8), []⟩]
def fns3 : List Dp := [
  ⟨fun K => He.ma K (He.ga K "Both") "__invert__", "__invert__", "Both.__invert__", (sBo 9), []⟩,
  ⟨fun K => He.ma K (He.ga K "Either") "__init__", "__init__", "Either.__init__", (sEi 0), ["__class__"]⟩,
  ⟨fun K => He.ma K (He.ga K "Either") "holds", "holds", "Either.holds", (sEi 4), []⟩,
  ⟨fun K => He.ma K (He.ga K "Either") "all_leaves", "all_leaves", "Pair.all_leaves", sPairAll, []⟩,
  ⟨fun K => He.ma K (He.ga K "Either") "__and__", "__and__", "Either.__and__", (sEi 7), []⟩,
  ⟨fun K => He.ma K (He.ga K "Either") "__or__", "__or__", "Either.__or__", (sEi 8), []⟩,
  ⟨fun K => He.ma K (He.ga K "Either") "__invert__", "__invert__", "Either.__invert__", (sEi 9), []⟩]
abbrev fns : List Dp := fns0 ++ fns1 ++ fns2 ++ fns3
abbrev hk : PySem.W.Hook := hookP 5 cks fns
def ob (s : PySem.W.SharedT) : AlP := obsPG 5 cks fns (HandSHeadRun.getT s)
theorem ob_eq (s : PySem.W.SharedT) : ob s = hk.obs s.abs := obsPG_eq (HandSHeadRun.getT_eq s)
def loose0 : List Str := ["BoardError", "InvalidInteger", "InvalidName", "InvalidValue", "InvalidCondition", "InvalidText", "TooMany", "LETTERS", "DIGITS", "MOST_LETTERS", "MOST_FIELDS", "MOST_DIGITS", "GREATEST", "is_integer", "is_name", "is_value", "parse_integer", "is_decimal", "candidate_records", "candidate_keys", "candidate_values", "candidate_numbers", "unused_name", "need_integer", "need_name", "need_value", "need_record", "ConditionWords", "words_of", "tree_of"]
def loose1 : List Str := ["MOST_LEAVES", "MOST_DEPTH", "MOST_NAMES", "Condition", "Leaf", "Pair", "Between", "Named", "Both", "Either", "Not", "need_condition", "sizes_of_pair", "built", "parting", "is_parting", "_law_cell", "_law_box", "_law_take", "_law_mixed", "_law_names", "_law_number", "_law_built", "_law_holds", "_law_is_name", "_law_is_number", "_law_is_value", "_law_parted", "_law_named", "_law_cuts"]
def loose2 : List Str := ["_law_right", "_law_all_right", "_law_many_right"]
abbrev looseX : List Str := loose0 ++ loose1 ++ loose2
theorem run (w : World) : HandSHeadRun.RunEq (PySem.W.OpenLaw.row PySem.Challenge.rw_listviews_k13_neighboring_ranges) (PySem.W.view PX [70]) hk ob 20000 looseX w := by
  intro os
  kernel_rfl
end G
set_option Elab.async false
set_option linter.all false
set_option maxRecDepth 100000
set_option maxHeartbeats 2000000
/-! Q1: == and != by an own __eq__ with both answers, the right side of any kind. -/
namespace G
open PySem PySem.Spec PyProof.Rows L2
open Builtin in
theorem entry_ne {prog : Program} {w : World} {A : Around} {E : Value → Shared → Prop} {s : Shared} {K : PySem.W.Frag} {x C f : Addr} {ox : Obj} {od : Option Obj} {b : Value} {Q : Fin → Shared → Prop}
    (X : K.In s.heap) (I : PySem.W.InstAt s.heap x ox C od) (hu : A.units < cLine) (hs : PySem.W.findIn K (.ref C) "__eq__" = some (some (.ref f))) (hf : PySem.W.isFn K (.ref f) = true)
    (hcall : wpAny (model prog w) A (call (.ref f) [.ref x, b]) (fun v s' => ∃ k, v = .bool k ∧ Q (.done (.ret (.bool (!k)))) s') E s) :
    wpAny (model prog w) A (Builtin.«object.__ne__» ⟨[.ref x, b], []⟩) Q E s := by
  unfold Builtin.«object.__ne__»
  repeat (first
    | with_reducible refine wpAny_cRoomFor hu ?_
    | (refine wpAny_bind (m := callSpecialIfBound? (.ref x) (Str.ofString "__eq__") [b])
        (PySem.W.ifBound_K X I hs hf (wpAny_mono hcall (fun r s' hr => by
          obtain ⟨k, rfl, hq⟩ := hr
          repeat (first | exact hq | exact wpAny_pure hq | exact wpAny_truthy_bool hq | (refine wpAny_bind (m := truthy (.bool _)) (wpAny_truthy_bool ?_)) | wp_step)) fun _ _ e => e)))
    | wp_step)
/-- what == and != ask of the class at C -/
structure EqO (K : PySem.W.Frag) (C f : Addr) : Prop where
  eq : PySem.W.findIn K (.ref C) "__eq__" = some (some (.ref f))
  fn : PySem.W.isFn K (.ref f) = true
  ne : PySem.W.findIn K (.ref C) "__ne__" = some (some (.builtin "object.__ne__"))
  ob : PySem.W.mroIn K C (.type "object") = some true
theorem ne_K {prog : Program} {w : World} {A : Around} {E : Value → Shared → Prop} {s : Shared} {K : PySem.W.Frag} {x C L f : Addr} {h₀ : Heap} {m : Str → Option Value} {ox : Obj} {od : Option Obj} {b tb : Value} {Q : Value → Shared → Prop} (hu : A.units + 1 < cLine) (hFr : Fr h₀ L s.heap m) (X₀ : K.In h₀)
    (I : PySem.W.InstAt s.heap x ox C od) (hb : PySem.W.Looks (model prog w) s.heap (typeOf b) tb) (hn : PySem.W.notFirst K C tb = true) (e : EqO K C f)
    (h : wpAny (model prog w) A.in1 (call (.ref f) [.ref x, b]) (fun v s' => ∃ k, v = .bool k ∧ Q (.bool (!k)) s') E s) : wpAny (model prog w) A (richCompare .NotEq (.ref x) b) Q E s := by
  have X := X₀.keeps hFr.keep
  have sp : PySem.W.Looks (model prog w) s.heap (specialOf (.ref x) "__ne__") (some (.builtin "object.__ne__")) := I.type.andThen (PySem.W.looks_findIn X e.ne)
  have iv : PySem.W.Looks (model prog w) s.heap (isInstance (.ref x) (.type "object")) true := I.type.andThen (PySem.W.looks_mroIn X e.ob)
  have one : wpAny (model prog w) A (tryCompare (.ref x) "__ne__" b) (fun r s' => ∃ v, r = some v ∧ Q v s') E s := by
    unfold tryCompare
    refine wpAny_bind (NtL.csib sp (F.cmp_object.ne.bind _) (wpAny_call (codeAny_call_builtin F.cmp_object.ne.plain F.cmpEntry_ne
      (PySem.W.check_slot F.cmpKind_ne F.cmpSplit_ne iv (F.cmpArgs_ne _ _) (entry_ne (A := A.in1) X I hu e.eq e.fn (wpAny_mono h (fun v s' hv => ?_) fun _ _ z => z))))))
    obtain ⟨k, rfl, hq⟩ := hv
    first | exact ⟨k, rfl, wpAny_pure ⟨_, rfl, hq⟩⟩ | exact ⟨k, rfl, _, rfl, hq⟩
  unfold richCompare
  simp only [oneThing_ref]
  refine wpAny_holding (wpAny_bind (wpAny_cRoomFor (Nat.lt_of_succ_lt hu) ?_))
  rw [cmpInfo_NotEq]
  dsimp only
  refine wpAny_bind (I.type.here (wpAny_bind (hb.here ?_)))
  split
  · rename_i q
    have e : PySem.W.subIn K tb (.ref C) = some false := by
      rcases Bool.or_eq_true_iff.mp hn with e | e
      · rw [beq_iff_eq.mp e] at q; simp at q
      · exact beq_iff_eq.mp e
    refine wpAny_bind ((PySem.W.looks_subIn X e).here ?_)
    simp only [Bool.false_eq_true, if_false]
    refine wpAny_bind (wpAny_mono one (fun r s' z => ?_) fun _ _ e => e)
    obtain ⟨v, rfl, hq⟩ := z
    exact wpAny_pure hq
  · refine wpAny_bind (wpAny_pure ?_)
    simp only [Bool.false_eq_true, if_false]
    refine wpAny_bind (wpAny_mono one (fun r s' z => ?_) fun _ _ e => e)
    obtain ⟨v, rfl, hq⟩ := z
    exact wpAny_pure hq
/-- the kinds of things on the right -/
inductive Oth (H : Hp) : V → Value → Prop where
  | non : Oth H .non (.type "NoneType")
  | int (i : Int) : Oth H (.int i) (.type "int")
  | str (z : Str) : Oth H (.str z) (.type "str")
  | lst {a : Addr} {xs : List V} (e : H a = some (.lst xs)) : Oth H (.ref a) (.type "list")
  | tup {a : Addr} {xs : List V} (e : H a = some (.tup xs)) : Oth H (.ref a) (.type "tuple")
  | ins {a C dx : Addr} {fs : List (Str × V)} (e : H a = some (.ins C dx fs)) : Oth H (.ref a) (.ref C)
theorem insX_at {X : Cx} {pins : List (Addr × Obj)} {σ : L2.St} {H : Hp} {s : Shared} {a C dx : Addr} {fs : List (Str × V)} (I : Inv X pins σ H s) (h : H a = some (.ins C dx fs)) : ∃ ox od, PySem.W.InstAt s.heap a ox C od := by
  obtain ⟨mA, O, _⟩ := ins_get I.hok h
  obtain ⟨od, J, _⟩ := O.look
  exact ⟨_, _, J⟩
theorem oth_looks {X : Cx} {pins : List (Addr × Obj)} {σ : L2.St} {H : Hp} {s : Shared} {x : V} {u t : Value} (I : Inv X pins σ H s) (rx : RelV x u) (o : Oth H x t) (M : Model) : PySem.W.Looks M s.heap (typeOf u) t := by
  cases o with
  | non => cases (show u = Value.none from rx); exact .of_pure rfl
  | int i => obtain ⟨t, q⟩ := (show ∃ t, u = Value.int i t from rx); cases q; exact .of_pure rfl
  | str y => obtain ⟨t, q⟩ := (show ∃ t, u = Value.str y t from rx); cases q; exact .of_pure rfl
  | @lst a xs ea =>
    cases (show u = Value.ref a from rx)
    obtain ⟨_, _, n, _, h1⟩ := (show ObjOk X.prog X.w H s.heap a (.lst xs) from I.hok a _ ea)
    exact (PySem.W.Looks.ld h1).andThen .now
  | @tup a xs ea =>
    cases (show u = Value.ref a from rx)
    obtain ⟨_, _, _, o, h1, h2, _⟩ := (show ObjOk X.prog X.w H s.heap a (.tup xs) from I.hok a _ ea)
    rw [← h2]
    exact (PySem.W.Looks.ld h1).andThen .now
  | @ins a C dx fs ea =>
    cases (show u = Value.ref a from rx)
    obtain ⟨ox, od, J⟩ := insX_at I ea
    exact J.type
section
variable {X : Cx} {C g : Addr} {fd : FuncData} {ps : List Str} {n : Nat} {sp : Sp} {E : XK}
def rEqB (K : PySem.W.Frag) (C : Addr) (sp : Sp) (E : XK) (pos : Bool) : R2 := fun x y H Q => ∃ a dx fs t, x = .ref a ∧ H a = some (.ins C dx fs) ∧ Oth H y t ∧ PySem.W.notFirst K C t = true ∧ sp [x, y] H (fun v H' => ∃ k : Bool, v = .bl k ∧ Q (.bl (cond pos k (!k))) H') E
theorem op_eqB (e : EqO X.K C g) (hb : Binds X.K fd ps []) (F : FnOk X.prog X.w X.K X.mg X.base CX0 n g fd ps sp) (hr : Room n X.A) (hx : Passes CX0 X E) : OpR X (compareOp .Eq) (rEqB X.K C sp E true) := by
  intro pins s σ H x y v u Q I rx ry h
  obtain ⟨a, dx, fs, t, rfl, ha, ho, hn, q⟩ := h
  cases (show v = Value.ref a from rx)
  obtain ⟨ox, od, J⟩ := insX_at I ha
  obtain ⟨m, hF⟩ := I.fr
  refine PySem.W.cmp_K (op := .Eq) hr.units0 hF I.ok.mod.kin J (oth_looks I ry ho _) hn e.eq e.fn ?_
  refine wpAny_mono (run_fn (us := [.ref a, u]) (vs := [.ref a, y]) F hr hb .nil hx I (.cons rfl (.cons ry .nil)) q) (fun w s' z => ?_) fun _ _ x => x
  obtain ⟨z', H', I', rz, k, rfl, qz⟩ := z
  exact SlX.cmpback rz ⟨.bl k, H', I', rz, qz⟩
theorem op_neB (e : EqO X.K C g) (hb : Binds X.K fd ps []) (F : FnOk X.prog X.w X.K X.mg X.base CX0 n g fd ps sp) (hr : Room (n + 1) X.A) : OpR X (compareOp .NotEq) (rEqB X.K C sp E false) := by
  intro pins s σ H x y v u Q I rx ry h
  obtain ⟨a, dx, fs, t, rfl, ha, ho, hn, q⟩ := h
  cases (show v = Value.ref a from rx)
  obtain ⟨ox, od, J⟩ := insX_at I ha
  obtain ⟨m, hF⟩ := I.fr
  refine ne_K (by have := hr.units; omega) hF I.ok.mod.kin J (oth_looks I ry ho _) hn e ?_
  have hl : ([Value.ref a, u] ++ []).length = ps.length := by
    have := F.len _ _ _ _ q
    exact this
  refine wpAny_call (codeAny_mono (F.run X.A.in1 X.stack s H ⟨[.ref a, u], []⟩ ([.ref a, u] ++ []) [.ref a, y] _ E hr.in1 I.env0.in1 (hb s [.ref a, u] I.kIn hl) (.cons rfl (.cons ry .nil)) q) fun r s' hq => ?_)
  cases r with
  | error e => exact False.elim hq
  | ok fl =>
    cases fl with
    | ret u =>
      obtain ⟨v, H', I2, rv, k, rfl, q⟩ := I.after hq
      obtain rfl : u = Value.bool k := rv
      exact ⟨k, rfl, .bl (!k), H', I2, rfl, q⟩
    | next => exact False.elim hq
    | brk => exact False.elim hq
    | cont => exact False.elim hq
end
end G

set_option Elab.async false
set_option linter.all false
set_option maxRecDepth 100000
set_option maxHeartbeats 2000000
/-! Q2: str(x) by an own __str__; keys that differ stay so. -/
namespace G
open PySem PySem.Spec PyProof.Rows L2
section
variable {X : Cx} {C g : Addr} {fd : FuncData} {ps : List Str} {n : Nat} {sp : Sp} {E : XK}
def rStrB (C : Addr) (sp : Sp) (E : XK) : List V → Hp → VK → Prop := fun xs H Q => ∃ a dx fs, xs = [V.ref a] ∧ H a = some (.ins C dx fs) ∧ sp [.ref a] H (fun z H' => ∃ y, z = .str y ∧ Q z H') E
theorem call_strB (hs : PySem.W.findIn X.K (.ref C) "__str__" = some (some (.ref g))) (hf : PySem.W.isFn X.K (.ref g) = true) (hb : Binds X.K fd ps []) (F : FnOk X.prog X.w X.K X.mg X.base CX0 n g fd ps sp) (hr : Room (n + 2) X.A) : CallR X (.type "str") (rStrB C sp E) := by
  intro pins s σ H xs us Q I r h
  obtain ⟨a, dx, fs, rfl, ha, q⟩ := h
  obtain ⟨u, rfl, ru⟩ := r.one
  cases (show u = Value.ref a from ru)
  obtain ⟨ox, od, J⟩ := insX_at I ha
  have hr2 : Room n X.A.in1.in1 := (show Room (n + 1) X.A.in1 from Room.in1 hr).in1
  refine PySem.W.kso_call (by have := hr2.units; omega) I.kIn J hs hf ?_
  have hl : ([Value.ref a] ++ []).length = ps.length := by
    have := F.len _ _ _ _ q
    exact this
  refine wpAny_call (codeAny_mono (F.run X.A.in1.in1 X.stack s H ⟨[Value.ref a], []⟩ ([Value.ref a] ++ []) [V.ref a] _ E hr2 I.env0.in1.in1 (hb s [Value.ref a] I.kIn hl) (show Vals [V.ref a] [Value.ref a] from .cons rfl .nil) q) fun r s' hq => ?_)
  cases r with
  | error e => exact False.elim hq
  | ok fl =>
    cases fl with
    | ret u =>
      obtain ⟨v, H', I2, rv, y, rfl, q⟩ := I.after hq
      obtain ⟨t, rfl⟩ := (show ∃ t, u = Value.str y t from rv)
      exact ⟨.str y, H', I2, ⟨t, rfl⟩, q⟩
    | next => exact False.elim hq
    | brk => exact False.elim hq
    | cont => exact False.elim hq
end
theorem nodup_put {kvs : List (Key × V)} (h : (kvs.map (·.1)).Nodup) (k : Key) (v : V) : ((putK kvs k v).map (·.1)).Nodup := by
  unfold putK
  split
  · rw [List.map_map]
    have e : (kvs.map ((fun p : Key × V => p.1) ∘ fun kv => if kv.1 = k then (kv.1, v) else kv)) = kvs.map (·.1) := List.map_congr_left fun p _ => by
      show (if p.1 = k then (p.1, v) else p).1 = p.1
      split <;> rfl
    rw [e]
    exact h
  · rename_i hn
    rw [List.map_append, List.nodup_append]
    refine ⟨h, by simp, fun x hx y hy => ?_⟩
    rw [List.map_cons, List.map_nil, List.mem_singleton] at hy
    rintro rfl
    obtain ⟨p, hp, e⟩ := List.mem_map.mp hx
    apply hn
    exact List.any_eq_true.mpr ⟨p, hp, decide_eq_true (e.trans hy)⟩
theorem valV_nodup : ∀ {kvs : List (Key × V)}, (kvs.map (·.1)).Nodup → ∀ p ∈ kvs, valV kvs p.1 = some p.2
  | p :: kvs, h, q, hq => by
    rw [List.map_cons, List.nodup_cons] at h
    show Option.map (fun r : Key × V => r.2) (List.find? (fun kv => decide (kv.1 = q.1)) (p :: kvs)) = some q.2
    rcases List.mem_cons.mp hq with rfl | hq'
    · rw [List.find?_cons_of_pos (by simp)]
      rfl
    · have ne : ¬ p.1 = q.1 := fun e => h.1 (by rw [e]; exact List.mem_map.mpr ⟨q, hq', rfl⟩)
      rw [List.find?_cons_of_neg (by simpa using ne)]
      exact valV_nodup h.2 q hq'
end G

set_option Elab.async false
set_option linter.all false
set_option maxRecDepth 100000
set_option maxHeartbeats 2000000
/-! R1: methods, calls and operators of an instance whose class is not known ahead; super().__init__(*xs). -/
namespace G
open PySem PySem.Spec PyProof.Rows L2 NdefX StX

/-- the class at C keeps the promise sp for its method m -/
structure PolyM (P : Program) (w : World) (K : PySem.W.Frag) (mg : Str → Option Value) (base : Heap) (k : Nat) (C : Addr) (m : Str) (sp : Sp) : Prop where
  cl : Cls K C
  ex : ∃ (f : Addr) (fd : FuncData) (ps : List Str), Meth K C m f ∧ Binds K fd ps [] ∧ FnOk P w K mg base CX0 k f fd ps sp
/-- .. for the calls of its instances -/
structure PolyC (P : Program) (w : World) (K : PySem.W.Frag) (mg : Str → Option Value) (base : Heap) (k : Nat) (C : Addr) (sp : Sp) : Prop where
  ex : ∃ (f : Addr) (fd : FuncData) (ps : List Str), CallO K C f ∧ Binds K fd ps [] ∧ FnOk P w K mg base CX0 k f fd ps sp

/-- o.m(e, ..), o an instance of some class that keeps sp -/
def tMethV (X : Cx) (k : Nat) (m : Str) (E : XK) (ta : TE) (t : TA) : TE := fun σ H Q => ta σ H fun x H1 => ∃ (a C dx : Addr) (fs : List (Str × V)) (sp : Sp), x = .ref a ∧ H1 a = some (.ins C dx fs) ∧ PolyM X.prog X.w X.K X.mg X.base k C m sp ∧ fs.lookup m = none ∧ t σ H1 fun vs H2 => sp (.ref a :: vs) H2 Q E
/-- o(e, ..) -/
def tCallV (X : Cx) (k : Nat) (E : XK) (ta : TE) (t : TA) : TE := fun σ H Q => ta σ H fun x H1 => ∃ (a C : Addr) (sp : Sp), x = .ref a ∧ PolyC X.prog X.w X.K X.mg X.base k C sp ∧ t σ H1 fun vs H2 => InsC X H2 a C ∧ sp (.ref a :: vs) H2 Q E
section
variable {X : Cx} {k : Nat} {E : XK} {m : Str} {pos apos : Pos} {e o fe : Expr} {es : List Expr} {ta : TE} {t : TA}
theorem pe_methV {pl : Sem Bool} (he : PE X o ta) (hr : Room k X.A) (hx : Passes CX0 X E) (ha : PA X (e :: es) t)
    (hst : starEach (e :: es) X.env = (false, eval e X.env) :: starEach es X.env := by rfl) (hpl : (backTo pos (starEach es X.env)).any (·.1) = false := by rfl)
    (ht : eval (.Call (.Attribute o m apos) (e :: es) [] pos) X.env = (eval o X.env >>= fun ov => standAt apos.atName >>= fun _ => holding [ov] (getMethod ov m pl) >>= fun q => callWith pos q.1 q.2 (backTo pos (starEach (e :: es) X.env)) (backToKw pos (keywordEach [] X.env))) := by rfl) :
    PE X (.Call (.Attribute o m apos) (e :: es) [] pos) (tMethV X k m E ta t) := by
  refine ⟨fun pins s σ H Q I h => ?_⟩
  refine PySem.W.methodCall_KW (pl := pl) (thn (he.run pins s σ H _ I h) fun u s1 ⟨x, H1, I1, rx, a, C, dx, fs, sp, ex, ea, pm, l, q⟩ => ?_) ht
  subst ex
  obtain rfl : u = Value.ref a := rx
  obtain ⟨f, fd, ps, hm, hb, F⟩ := pm.ex
  refine getmeth_ok I1 ea pm.cl hm l ?_
  refine PySem.W.callWith_K (h₀ := X.base) (first := [.ref a]) I.ok.mod.kin hm.kp (thn (ha.run pos pins s1 σ H1 _ I1 q) fun us s2 ⟨vs, H2, I2, r, q2⟩ => ⟨I2.kIn, ?_⟩) hst hpl
  exact run_fn (us := .ref a :: us) (vs := .ref a :: vs) F hr hb .nil hx I2 (.cons rfl r) (by rw [List.append_nil]; exact q2)
theorem pe_methV0 {pl : Sem Bool} (he : PE X o ta) (hr : Room k X.A) (hx : Passes CX0 X E)
    (ht : eval (.Call (.Attribute o m apos) [] [] pos) X.env = (eval o X.env >>= fun ov => standAt apos.atName >>= fun _ => holding [ov] (getMethod ov m pl) >>= fun q => callWith pos q.1 q.2 (backTo pos (starEach [] X.env)) (backToKw pos (keywordEach [] X.env))) := by rfl) :
    PE X (.Call (.Attribute o m apos) [] [] pos) (tMethV X k m E ta tNil) := by
  refine ⟨fun pins s σ H Q I h => ?_⟩
  refine PySem.W.methodCall_KW (pl := pl) (thn (he.run pins s σ H _ I h) fun u s1 ⟨x, H1, I1, rx, a, C, dx, fs, sp, ex, ea, pm, l, q⟩ => ?_) ht
  subst ex
  obtain rfl : u = Value.ref a := rx
  obtain ⟨f, fd, ps, hm, hb, F⟩ := pm.ex
  refine getmeth_ok I1 ea pm.cl hm l ?_
  exact PySem.W.callWith_K0 (first := [.ref a]) I1.kIn hm.kp (run_fn (us := [.ref a]) (vs := [.ref a]) F hr hb .nil hx I1 (.cons rfl .nil) q)
theorem pe_callV (hf : PE X fe ta) (hr : Room k X.A) (hx : Passes CX0 X E) (ha : PA X (e :: es) t)
    (ht : eval (.Call fe (e :: es) [] pos) X.env = (eval fe X.env >>= fun g => callWith pos g [] (backTo pos (starEach (e :: es) X.env)) (backToKw pos (keywordEach [] X.env))) := by rfl)
    (he : starEach (e :: es) X.env = (false, eval e X.env) :: starEach es X.env := by rfl) (hpl : (backTo pos (starEach es X.env)).any (·.1) = false := by rfl) : PE X (.Call fe (e :: es) [] pos) (tCallV X k E ta t) := by
  refine ⟨fun pins s σ H Q I h => ?_⟩
  refine Call_ (thn (hf.run pins s σ H _ I h) fun u s1 ⟨y, H1, I1, ry, a, C, sp, ey, pc, q⟩ => ?_) ht
  subst ey
  obtain rfl : u = Value.ref a := ry
  obtain ⟨f, fd, ps, c, hb, F⟩ := pc.ex
  refine callO_with (thn (ha.run pos pins s1 σ H1 _ I1 q) fun us s2 ⟨vs, H2, I2, r, hi, q2⟩ => ?_) he hpl
  obtain ⟨ox, od, J, hd⟩ := insC_at I2 hi
  exact ⟨⟨C, ox, od, J, hd⟩, run_callO c (F.raw hb .nil) hr hx I2 hi r (by simpa using q2)⟩
end

/-! ### a sign between two instances of own classes -/
/-- the class at C has the sign's method (and no reflected one) -/
structure OpO (K : PySem.W.Frag) (C : Addr) (op : Operator) (f : Addr) : Prop where
  first : PySem.W.selfFirst K C = true
  at_ : PySem.W.findIn K (.ref C) (PySem.dunder op.info.2) = some (some (.ref f))
  fn : PySem.W.isFn K (.ref f) = true
  ref_ : PySem.W.findIn K (.ref C) (dunderR op.info.2) = some none
theorem bin_own {prog : Program} {w : World} {A : Around} {E : Value → Shared → Prop} {s : Shared} {K : PySem.W.Frag} {x y C C2 f g : Addr} {ox oy : Obj} {od od2 : Option Obj} {op : Operator} {Q : Value → Shared → Prop} (X : K.In s.heap)
    (I : PySem.W.InstAt s.heap x ox C od) (J : PySem.W.InstAt s.heap y oy C2 od2) (o1 : OpO K C op f) (o2 : OpO K C2 op g) (hs : C = C2 ∨ PySem.W.subIn K (.ref C2) (.ref C) = some false)
    (h : wpAny (model prog w) A (call (.ref f) [.ref x, .ref y]) (PySem.W.CmpBack Q) E s) : wpAny (model prog w) A (binaryOp op (.ref x) (.ref y)) Q E s := by
  obtain ⟨cd1, rest1, hc1, hm1⟩ := PySem.W.ksp_first o1.first
  obtain ⟨cd2, rest2, hc2, hm2⟩ := PySem.W.ksp_first o2.first
  have a1 := o1.at_
  have a2 := o2.at_
  have r1 := o1.ref_
  have r2 := o2.ref_
  rcases hi : op.info with ⟨sym, nm⟩
  rw [hi] at a1 a2 r1 r2
  dsimp only at a1 a2 r1 r2
  have one := PySem.W.ksp_try X I a1 o1.fn h
  obtain ⟨hh, gs, d, tt, os⟩ := s
  have L1 : PySem.W.Looks (model prog w) hh (typeOf (.ref x)) (.ref C) := I.type
  have L2 : PySem.W.Looks (model prog w) hh (typeOf (.ref y)) (.ref C2) := J.type
  have L3 : PySem.W.Looks (model prog w) hh (fillsNumberSlot (.ref C) nm) true := PySem.W.fills_K X hc1 hm1 a1
  have L4 : PySem.W.Looks (model prog w) hh (fillsNumberSlot (.ref C2) nm) true := PySem.W.fills_K X hc2 hm2 a2
  have L6 : PySem.W.Looks (model prog w) hh (numberSlotInPython (.ref C) nm) true := PySem.W.ksp_inPy X a1 r1 (.inl rfl)
  have L7 : PySem.W.Looks (model prog w) hh (numberSlotInPython (.ref C2) nm) true := PySem.W.ksp_inPy X a2 r2 (.inl rfl)
  simp only [binaryOp, hi]
  refine wpAny_holding (wpAny_bind ?_)
  unfold binaryOp1
  refine wpAny_bind (L1.at (wpAny_bind (L2.at (wpAny_bind (L3.at ?_)))))
  by_cases e : C = C2
  · have hne : (Value.ref C == Value.ref C2) = true := by
      rw [e]
      exact beq_self_eq_true _
    simp only [hne, if_true]
    ksp_lk
    refine wpAny_mono one (fun r s' hr' => ?_) fun _ _ z => z
    obtain ⟨v, rfl, hq⟩ := hr'
    ksp_lk
    exact hq
  · have hne : (Value.ref C == Value.ref C2) = false := Bool.eq_false_iff.mpr fun q => e (by
      have := beq_iff_eq.mp q
      injection this)
    have hs2 : PySem.W.subIn K (.ref C2) (.ref C) = some false := hs.resolve_left e
    have L5 : PySem.W.Looks (model prog w) hh (isSubtype (.ref C2) (.ref C)) false := PySem.W.looks_subIn X hs2
    simp only [hne, Bool.false_eq_true, if_false]
    ksp_lk
    refine wpAny_mono one (fun r s' hr' => ?_) fun _ _ z => z
    obtain ⟨v, rfl, hq⟩ := hr'
    ksp_lk
    exact hq
theorem insO_at {X : Cx} {pins : List (Addr × Obj)} {σ : L2.St} {H : Hp} {s : Shared} {a C dx : Addr} {fs : List (Str × V)} (I : Inv X pins σ H s) (h : H a = some (.ins C dx fs)) : ∃ ox od, PySem.W.InstAt s.heap a ox C od ∧ ox.data = .plain :=
  insC_at I (.inr ⟨dx, fs, h⟩)
/-- two classes under one sign: what the class at C does with one of the class at C2 -/
structure PolyO (P : Program) (w : World) (K : PySem.W.Frag) (mg : Str → Option Value) (base : Heap) (k : Nat) (C C2 : Addr) (op : Operator) (sp : Sp) : Prop where
  ex : ∃ (f g : Addr) (fd : FuncData) (ps : List Str), OpO K C op f ∧ OpO K C2 op g ∧ (C = C2 ∨ PySem.W.subIn K (.ref C2) (.ref C) = some false) ∧ Binds K fd ps [] ∧ FnOk P w K mg base CX0 k f fd ps sp
def rOwn (X : Cx) (k : Nat) (op : Operator) (sp : Sp) (E : XK) : R2 := fun x y H Q => ∃ a b C C2 dx dy fs gs, x = .ref a ∧ y = .ref b ∧ H a = some (.ins C dx fs) ∧ H b = some (.ins C2 dy gs) ∧ PolyO X.prog X.w X.K X.mg X.base k C C2 op sp ∧
  sp [.ref a, .ref b] H (fun v H' => (∃ r, v = .ref r) ∧ Q v H') E
theorem op_own {X : Cx} {k : Nat} {sp : Sp} {E : XK} (op : Operator) (hr : Room k X.A) (hx : Passes CX0 X E) : OpR X (binaryOp op) (rOwn X k op sp E) := by
  intro pins s σ H x y v u Q I rx ry h
  obtain ⟨a, b, C, C2, dx, dy, fs, gs, rfl, rfl, ha, hb, po, q⟩ := h
  obtain rfl : v = Value.ref a := rx
  obtain rfl : u = Value.ref b := ry
  obtain ⟨f, g, fd, ps, o1, o2, hs, hbd, F⟩ := po.ex
  obtain ⟨ox, od, J1, _⟩ := insO_at I ha
  obtain ⟨oy, od2, J2, _⟩ := insO_at I hb
  refine bin_own I.kIn J1 J2 o1 o2 hs (thn (run_fn (us := [.ref a, .ref b]) (vs := [.ref a, .ref b]) F hr hbd .nil hx I (.cons rfl (.cons rfl .nil)) q) fun r s' z => ?_)
  obtain ⟨v, H', I', rv, ⟨p, rfl⟩, q'⟩ := z
  obtain rfl : r = Value.ref p := rv
  exact ⟨V.ref p, H', I', rfl, q'⟩
/-! ### ~x -/
structure PolyU (P : Program) (w : World) (K : PySem.W.Frag) (mg : Str → Option Value) (base : Heap) (k : Nat) (C : Addr) (sp : Sp) : Prop where
  ex : ∃ (f : Addr) (fd : FuncData) (ps : List Str), PySem.W.findIn K (.ref C) "__invert__" = some (some (.ref f)) ∧ PySem.W.isFn K (.ref f) = true ∧ Binds K fd ps [] ∧ FnOk P w K mg base CX0 k f fd ps sp
def rInv (X : Cx) (k : Nat) (sp : Sp) (E : XK) : V → Hp → VK → Prop := fun x H Q => ∃ a C dx fs, x = .ref a ∧ H a = some (.ins C dx fs) ∧ PolyU X.prog X.w X.K X.mg X.base k C sp ∧ sp [.ref a] H Q E
theorem inv_own {M : Model} {A : Around} {E : Value → Shared → Prop} {s : Shared} {K : PySem.W.Frag} {x C f : Addr} {ox : Obj} {od : Option Obj} {Q : Value → Shared → Prop} (X : K.In s.heap) (I : PySem.W.InstAt s.heap x ox C od)
    (hs : PySem.W.findIn K (.ref C) "__invert__" = some (some (.ref f))) (hf : PySem.W.isFn K (.ref f) = true) (h : wpAny M A (call (.ref f) [.ref x]) Q E s) : wpAny M A (unaryOp .Invert (.ref x)) Q E s := by
  unfold unaryOp
  refine wpAny_holding (wpAny_bind (PySem.W.special_fn X I hs (beq_iff_eq.mp hf) (thn h fun _ _ z => ?_)))
  exact wpAny_pure z
theorem un_own {X : Cx} {k : Nat} {sp : Sp} {E : XK} (hr : Room k X.A) (hx : Passes CX0 X E) : UnR X (unaryOp .Invert) (rInv X k sp E) := by
  intro pins s σ H x v Q I rx h
  obtain ⟨a, C, dx, fs, rfl, ha, pu, q⟩ := h
  obtain rfl : v = Value.ref a := rx
  obtain ⟨f, fd, ps, h1, h2, hb, F⟩ := pu.ex
  obtain ⟨ox, od, J, _⟩ := insO_at I ha
  exact inv_own I.kIn J h1 h2 (run_fn (us := [.ref a]) (vs := [.ref a]) F hr hb .nil hx I (.cons rfl .nil) q)
end G

set_option Elab.async false
set_option linter.all false
set_option maxRecDepth 100000
set_option maxHeartbeats 2000000
/-! R2: super().__init__(*xs). -/
namespace G
open PySem PySem.Spec PyProof.Rows L2 NdefX StX
/-- super().name as a value: a bound method, new -/
theorem super_attr {prog : Program} {w : World} {A : Around} {E : Value → Shared → Prop} {h : Heap} {g : Array GenState} {d : Drawn} {t : Nat} {os : OsState} {so D x C f : Addr} {of : Obj} {l₀ l : List Value} {K : PySem.W.Frag} {name : Str} {b : Bool} {Q : Value → Shared → Prop}
    (a1 : h.get? so = some { cls := .type "super", dict := none, data := .fields #[.ref D, .ref x, .ref C], slots := #[] }) (a2 : PySem.W.Looks (model prog w) h (opaqueClassAbove (.ref C)) none) (a3 : PySem.W.Looks (model prog w) h (mroOf (.ref C)) l₀)
    (a4 : (l₀.dropWhile (· != .ref D)).drop 1 = l) (X : K.In h) (a5 : PySem.W.alongIn K name l = some (some (.ref f))) (a6 : h.get? f = some of) (a7 : of.cls = .type "function") (a8 : x ≠ C) (a9 : (name == ("__class__" : Str)) = false)
    (q : Q (.ref h.objs.size) ⟨h.push { cls := .type "method", data := .fields #[.ref f, .ref x] }, g, d, t + 1, os⟩) : wpAny (model prog w) A (getAttr (.ref so) name b) Q E ⟨h, g, d, t, os⟩ := by
  have lk := PySem.F.ks_slot_super_ga.lookup
  have ty : ∀ k, (⟨h, g, d, k, os⟩ : Shared).TypeIs (.ref so) "super" := fun _ => ⟨_, a1, rfl⟩
  unfold getAttr getAttrBy
  refine wpAny_bind (wpAny_mkText (wpAny_holding (wpAny_bind (wpAny_typeOf (ty _) (wpAny_bind (wpAny_of_eq lk ?_))))))
  unfold getAttrByItsOwn hookBefore callGetattribute boundAndCalled
  refine wpAny_bind (wpAny_of_eq (show (if onTheHeap (.type "super") then typeLookup (.type "super") "__getattr__" else pure none) = pure none by rfl) ?_)
  refine wpAny_bind (wpAny_attempt (wpAny_holding ?_))
  have off : (b && onTheHeap (Value.builtin "super.__getattribute__")) = false := by
    rw [show onTheHeap (Value.builtin "super.__getattribute__") = false from rfl]
    exact Bool.and_false b
  rw [off, if_neg Bool.false_ne_true]
  refine wpAny_bind (wpAny_of_eq (PySem.F.ks_slot_super_ga.bind _) ?_)
  refine thn (Q := fun v s' => v = .ref h.objs.size ∧ s' = ⟨h.push { cls := .type "method", data := .fields #[.ref f, .ref x] }, g, d, t + 1, os⟩) (wpAny_mono (wpAny_call_entry (E := fun _ _ => False) PySem.F.ks_slot_super_ga (ty _) PySem.F.ks_entry_super_ga
    (ks_wpAny_super_ga a1 a2 a3 a4 X a5 a6 a7 a8 a9 ⟨_, rfl, rfl, rfl⟩) (PySem.F.ks_gaArgs_super _ _)) (fun _ _ z => z) fun _ _ z => z.elim) fun v s' z => ?_
  obtain ⟨rfl, rfl⟩ := z
  exact wpAny_pure q
/-- o.m(*e), whatever o is -/
theorem star_call {M : Model} {A : Around} {c : Code} {E : Value → Shared → Prop} {s : Shared} {env : Env} {o e : Expr} {m : Str} {p apos pos : Pos} {Q : Value → Shared → Prop} (hst : starEach [.Starred e p] env = [(true, eval e env)])
    (h : _root_.PySem.wpAt M A c (attributeBase o m env (eval o env)) (fun ov s₁ => wpAny M A (getAttr ov m true) (fun f s₂ => wpAny M A (callWith pos f [] (backTo pos [(true, eval e env)]) []) Q E s₂) E s₁) E s) :
    _root_.PySem.wpAt M A c (eval (.Call (.Attribute o m apos) [.Starred e p] [] pos) env) Q E s := by
  have form : methodCallForm ([Expr.Starred e p].length + ([] : List Keyword).length) (backTo pos [(true, eval e env)]) [] = false := rfl
  have where_ : methodCallPos false o env apos pos = pure pos := rfl
  have who : ∀ ov, calleeOf false o env ov m = (getAttr ov m true >>= fun v => pure (v, [])) := fun _ => rfl
  have kws : backToKw pos (keywordEach [] env) = [] := rfl
  rw [arm_eval_Call, hst, kws]
  refine _root_.PySem.wpAt_bind (ks_wpAt_mono h (fun ov s₁ z => wpAt_of_wpAny (wpAny_bind (wpAny_standAt ?_))) fun _ _ z => z)
  unfold methodCall
  rw [form, where_, who]
  refine wpAny_bind (wpAny_holding (wpAny_bind (thn z fun f s₂ y => wpAny_pure ?_)))
  exact wpAny_bind (wpAny_pure y)
/-- super().__init__(*xs), the instance in the slot i -/
def tSupS (K : PySem.W.Frag) (i : Nat) (C : Addr) (sp : Sp) (E : XK) (te : TE) : TS := fun D σ H => ∃ a dx fs, σ[i]? = some (some (.ref a)) ∧ H a = some (.ins C dx fs) ∧
  te σ H fun y H1 => ∃ t vs, y = .ref t ∧ (SqT K H1 t vs ∨ SqL K H1 t vs) ∧ sp (.ref a :: vs) H1 (fun _ H2 => D.nx σ H2) E
theorem psa_superS {X : Cx} {CX : CXT} {k i : Nat} {f cda cc D C f2 : Addr} {x : Str} {sp : Sp} {E : XK} {body : List Stmt} {e : Expr} {te : TE} {p0 p1 p2 apos pos spos : Pos}
    (S : SupOf X.prog X.K f cda cc D C f2 x) (F : FnR X.prog X.w X.K X.mg X.base CX k f2 sp) (hr : Room k X.A) (hx : Passes CX X E) (hfu : X.env.func = some f) (hco : X.env.code = .ref cda) (hcl : X.env.cells.lookup ("__class__" : Str) = some cc)
    (hks : X.env.kindOf "super" = some .globalImplicit) (hkc : X.env.kindOf "__class__" = some .free) (hkx : X.env.kindOf x = some .local) (hm : X.mg "super" = none) (hN : X.N[i]? = some x) (he : PE X e te)
    (hst : starEach [.Starred e p2] X.env = [(true, eval e X.env)] := by rfl)
    (hw : swapsWith (.Call (.Attribute (.Call (.Name "super" p0) [] [] p1) "__init__" apos) [.Starred e p2] [] pos) none spos.line X.env = pure false := by rfl) :
    PSa X body (.Expr (.Call (.Attribute (.Call (.Name "super" p0) [] [] p1) "__init__" apos) [.Starred e p2] [] pos) spos) (tSupS X.K i C sp E te) := by
  refine ⟨fun pins s σ H Dn I h => ?_⟩
  obtain ⟨a, dx, fs, h1, h2, q⟩ := h
  refine ks_wpAt_Expr_any (star_call hst (super_base I S hfu hco hcl hks hkc hkx hm hN h1 h2 fun s1 I1 hso => ?_)) I.quiet hw
  obtain ⟨cdC, hC⟩ := S.isC
  have inK := I1.kIn
  have hob : s1.heap.get? a = some (PySem.W.instObj C dx) := (show ObjOk X.prog X.w H s1.heap a (.ins C dx fs) from I1.hok a _ h2).2.2.2.1
  obtain ⟨oC, hC1, hC2⟩ := cls_at inK hC
  have hne : a ≠ C := fun z => by
    rw [z, hC1] at hob
    rw [Option.some.inj hob] at hC2
    cases hC2
  obtain ⟨of, hof, hofc⟩ : ∃ of, s1.heap.get? f2 = some of ∧ of.cls = .type "function" := by
    have ht' : (X.K.lookup f2).map (·.cls) = some (.type "function") := S.ty
    cases z : X.K.lookup f2 with
    | none =>
      rw [z] at ht'
      cases ht'
    | some of =>
      rw [z] at ht'
      exact ⟨of, inK _ _ z, Option.some.inj ht'⟩
  have hsup := S.sup
  unfold PySem.W.ks_superIn at hsup
  rw [hC] at hsup
  obtain ⟨hh, g, d, tk, os⟩ := s1
  refine super_attr hso (PySem.W.looks_opaque inK S.thd) (l₀ := cdC.mro) ((PySem.W.looks_clsIn inK hC).andThen .now) rfl inK hsup hof hofc hne (by decide) ?_
  have I2 := ClX.met_new (g := f2) (C := a) I1
  refine PySem.W.ks_call (P := PySem.W.MethP X.K _ f2 (.ref a)) rfl (PySem.W.keeps_M S.fi) (PySem.W.ks_lone (thn (he.run _ _ σ H _ I2 q) fun v s3 ⟨y, H3, I3, ry, t, vs, ey, ht, hsp⟩ => ?_))
  subst ey
  obtain rfl : v = Value.ref t := ry
  refine StX.star_any I3 ht fun us s5 I5 rv => ?_
  refine ⟨⟨ClX.pin_at I5, I5.kIn⟩, ?_⟩
  refine thn (ClX.run_cm F hr hx I5 rv hsp) fun _ _ y => ?_
  obtain ⟨v', H4, I4, _, q4⟩ := y
  exact ⟨σ, H4, I4, q4⟩
end G

set_option Elab.async false
set_option linter.all false
set_option maxRecDepth 100000
set_option maxHeartbeats 2000000
/-! G3: a cell, its box, a draw from it. -/
namespace G
open PySem PySem.Spec PyProof.Rows L2
theorem scCell : FnScope ["_law_script", "_law_k"] ["_law_script", "_law_k"] (defScope sCell) := ⟨rfl, rfl, rfl, by decide +kernel, rfl, by decide +kernel, by decide +kernel⟩
theorem scBox : FnScope ["_law_cell_here"] ["_law_cell_here"] (defScope sBox) := ⟨rfl, rfl, rfl, by decide +kernel, rfl, by decide +kernel, by decide +kernel⟩
theorem scTake : FnScope ["_law_box_here", "_law_many", "_law_digit", "_law_mixed_here"] ["_law_box_here", "_law_many"] (defScope sTake) := ⟨rfl, rfl, rfl, by decide +kernel, rfl, by decide +kernel, by decide +kernel⟩
/-- all but b stands as it stood -/
def But (b : Addr) (H H' : Hp) : Prop := ∀ c o, c ≠ b → H c = some o → H' c = some o
theorem But.refl (b : Addr) (H : Hp) : But b H H := fun _ _ _ h => h
theorem But.trans {b : Addr} {H H1 H2 : Hp} (x : But b H H1) (y : But b H1 H2) : But b H H2 := fun c o n h => y c o n (x c o n h)
theorem But.upd {b : Addr} {H : Hp} {o : HO} : But b H (upd H b o) := fun c u n h => by
  rw [upd_ne n]
  exact h
theorem But.new {b p : Addr} {H : Hp} {o : HO} (h : H p = none) : But b H (L2.upd H p o) := fun c u n e => by
  rw [upd_ne (ne_of_none e h)]
  exact e
theorem But.same {b : Addr} {H H' : Hp} (h : Same H H') : But b H H' := fun c o _ e => h c o e
theorem Same.new {p : Addr} {H : Hp} {o : HO} (h : H p = none) : Same H (upd H p o) := fun c u e => by
  rw [upd_ne (ne_of_none e h)]
  exact e
/-- a box from which at most n draws were made -/
def BoxAt (H : Hp) (b : Addr) (n : Nat) : Prop := ∃ x y z : Int, H b = some (.lst [.int x, .int y, .int z]) ∧ 0 ≤ x ∧ 0 ≤ y ∧ y < 2147483629 ∧ 0 ≤ z ∧ z ≤ n
theorem BoxAt.mono {H : Hp} {b : Addr} {n m : Nat} (h : BoxAt H b n) (le : n ≤ m) : BoxAt H b m := by
  obtain ⟨x, y, z, e, h1, h2, h3, h4, h5⟩ := h
  exact ⟨x, y, z, e, h1, h2, h3, h4, by omega⟩
theorem BoxAt.keep {H H' : Hp} {b : Addr} {n : Nat} (h : BoxAt H b n) (s : ∀ o, H b = some o → H' b = some o) : BoxAt H' b n := by
  obtain ⟨x, y, z, e, r⟩ := h
  exact ⟨x, y, z, s _ e, r⟩
/-- a draw is one of so many -/
theorem draw_at {r m : Int} {n : Nat} (h0 : 0 ≤ r) (h1 : r < m) (e : m = n) : ∃ j : Nat, r = j ∧ j < n := ⟨r.toNat, by omega, by omega⟩
def spCell' (K : PySem.W.Frag) : Sp := fun vs H Q _ => ∃ (a : Addr) (ns : List Int) (z : Int), vs = [.ref a, .int z] ∧ SqL K H a (ns.map V.int) ∧ 0 ≤ z ∧ z < 1000 ∧ ∀ i : Int, Q (.int i) H
def spBox : Sp := fun vs H Q _ => ∃ i : Int, vs = [.int i] ∧ ∀ (b : Addr) (H' : Hp), H b = none → Same H H' → BoxAt H' b 0 → Q (.ref b) H'
def spTake : Sp := fun vs H Q _ => ∃ (b : Addr) (m : Int) (n : Nat), vs = [.ref b, .int m] ∧ BoxAt H b n ∧ n ≤ 100000 ∧ 0 < m ∧ m < 2 ^ 200 ∧
  ∀ (r : Int) (H' : Hp), 0 ≤ r → r < m → BoxAt H' b (n + 1) → But b H H' → Q (.int r) H'
section
variable {P : Program} {w : World} {K : PySem.W.Frag} {mg : Str → Option Value} {base : Heap}
theorem ok_cell {f : Addr} {fd : FuncData} (F : Fun K "_law_cell" "_law_cell" sCell f fd) (ml : mg "len" = none) : FnOk P w K mg base CX0 1 f fd ["_law_script", "_law_k"] (spCell' K) := by
  refine F.ok scCell (fun vs H Q E h => ?_) (fun cdv A outer s H vs Q E hr h => ?_)
  · obtain ⟨a, ns, j, rfl, _⟩ := h
    rfl
  · obtain ⟨a, ns, z, rfl, hS, z0, z1, q⟩ := h
    obtain ⟨j, rfl, hj⟩ := draw_at (n := 1000) z0 z1 rfl
    refine ⟨_, pss_cons (ps_if (pt_cmpR op_lt (pv 1) (pe_callB call_len_seq (by rfl) ml PySem.boot_len (pa_cons (pv 0) pa_nil)) (nomark _))
        (pss_one (ps_ret (pe_ix ix_list (pv 0) (pv 1) (fun _ _ => rfl)))) pss_nil)
      (pss_one (ps_ret (pe_op op_add (pe_op op_mul pe_int (pv 1)) pe_int))), ?_⟩
    refine ⟨_, rfl, _, rfl, a, _, rfl, .inl hS, _, _, rfl, rfl, _, rfl, ite2 (fun e => ?_) (fun _ => ?_)⟩
    · have e1 : (j : Int) < ((ns.map V.int).length : Nat) := of_decide_eq_true e
      have e2 : j < ns.length := by
        rw [List.length_map] at e1
        omega
      exact ⟨_, rfl, _, rfl, a, _, _, .int ns[j], rfl, rfl, hS, atI_nat (by rw [List.getElem?_map, List.getElem?_eq_getElem e2] <;> rfl), q _⟩
    · exact ⟨_, rfl, _, _, rfl, rfl, .inl ⟨by decide, by decide⟩, _, _, rfl, rfl, q _⟩
theorem ok_box {f : Addr} {fd : FuncData} (F : Fun K "_law_box" "_law_box" sBox f fd) (mm : mg "max" = none) : FnOk P w K mg base CX0 1 f fd ["_law_cell_here"] spBox := by
  refine F.ok scBox (fun vs H Q E h => ?_) (fun cdv A outer s H vs Q E hr h => ?_)
  · obtain ⟨i, rfl, _⟩ := h
    rfl
  · obtain ⟨i, rfl, q⟩ := h
    refine ⟨_, pss_one (ps_ret (pe_lst (pa_cons (pe_callB (call_max2 rfl) (by rfl) mm (by decide +kernel) (pa_cons pe_int (pa_cons (pe_op op_sub (pv 0) (pe_op op_pow pe_int pe_int)) pa_nil)))
      (pa_cons (pe_op op_mod (pv 0) pe_int) (pa_cons pe_int pa_nil))))), ?_⟩
    refine ⟨_, rfl, _, _, rfl, rfl, ⟨by decide, by decide, by decide⟩, _, _, rfl, rfl, _, _, rfl, _, rfl, _, _, rfl, rfl, (by show (0 : Int) < 2147483629; decide), (by show 3 ≤ sizeLine; decide), fun b hb => ?_⟩
    refine q b _ hb (Same.new hb) ⟨_, _, _, upd_same, ?_, Int.emod_nonneg _ (by decide), Int.emod_lt_of_pos _ (by decide), Int.le_refl _, Int.le_refl _⟩
    split <;> omega
theorem emod_in (a m : Int) (h : 0 < m) : 0 ≤ a % m ∧ a % m < m := ⟨Int.emod_nonneg _ (by omega), Int.emod_lt_of_pos _ h⟩
theorem ok_take {f : Addr} {fd : FuncData} (F : Fun K "_law_take" "_law_take" sTake f fd) : FnOk P w K mg base CX0 1 f fd ["_law_box_here", "_law_many"] spTake := by
  refine F.ok scTake (fun vs H Q E h => ?_) (fun cdv A outer s H vs Q E hr h => ?_)
  · obtain ⟨b, m, n, rfl, _⟩ := h
    rfl
  · obtain ⟨b, m, n, rfl, ⟨x, y, z, hb, hx, hy, hy2, hz, hzn⟩, hn, hm, hm2, q⟩ := h
    refine ⟨_, pss_cons (ps_if (pt_cmpR op_gt (pe_ix ix_list (pv 0) pe_int (fun _ _ => rfl)) pe_int (nomark _))
        (pss_cons (ps_set (i := 2) scTake.nd rfl (.inl rfl) (pe_op op_mod (pe_ix ix_list (pv 0) pe_int (fun _ _ => rfl)) (pv 1)))
        (pss_cons (ps_asg (pe_op op_fdivW (pe_ix ix_list (pv 0) pe_int (fun _ _ => rfl)) (pv 1)) (pg_sub (pv 0) pe_int set_list))
        (pss_one (ps_ret (pv 2))))) pss_nil)
      (pss_cons (ps_asg (pe_op op_add (pe_ix ix_list (pv 0) pe_int (fun _ _ => rfl)) pe_int) (pg_sub (pv 0) pe_int set_list))
      (pss_cons (ps_set (i := 3) scTake.nd rfl (.inl rfl) (pe_op op_mod (pe_op op_pow (pe_op op_add (pe_op op_add (pe_ix ix_list (pv 0) pe_int (fun _ _ => rfl)) (pe_op op_mul pe_int (pe_ix ix_list (pv 0) pe_int (fun _ _ => rfl)))) pe_int) pe_int) pe_int))
      (pss_cons (ps_set (i := 3) scTake.nd rfl (.inl rfl) (pe_op op_mod (pe_op op_pow (pe_op op_add (pv 3) (pe_op op_mul pe_int (pe_ix ix_list (pv 0) pe_int (fun _ _ => rfl)))) pe_int) pe_int))
      (pss_one (ps_ret (pe_op op_mod (pe_op op_fdivW (pv 3) pe_int) (pv 1))))))), ?_⟩
    -- if box[0] > 0
    refine ⟨_, rfl, b, _, 0, .int x, rfl, rfl, .of hb, rfl, _, _, rfl, rfl, _, rfl, ite2 (fun e => ?_) (fun _ => ?_)⟩
    · refine ⟨_, rfl, b, _, 0, .int x, rfl, rfl, .of hb, rfl, _, rfl, _, _, rfl, rfl, hm, ?_⟩
      refine ⟨_, rfl, b, _, 0, .int x, rfl, rfl, .of hb, rfl, _, rfl, _, _, rfl, rfl, wide_div hm (b := 200) (by omega) (by decide) (by decide), ?_⟩
      refine ⟨_, rfl, b, _, 0, 0, rfl, rfl, hb, rfl, _, rfl, ?_⟩
      have r := emod_in x m hm
      exact q _ _ r.1 r.2 ⟨_, _, _, upd_same, Int.ediv_nonneg hx (by omega), hy, hy2, hz, by omega⟩ But.upd
    · refine ⟨_, rfl, b, _, 2, .int z, rfl, rfl, .of hb, rfl, _, _, rfl, rfl, ?_⟩
      refine ⟨_, rfl, b, _, 2, 2, rfl, rfl, hb, rfl, ?_⟩
      have hb' : (upd H b (.lst [.int x, .int y, .int (z + 1)])) b = some (.lst [.int x, .int y, .int (z + 1)]) := upd_same
      refine ⟨_, rfl, b, _, 1, .int y, rfl, rfl, .of hb', rfl, _, rfl, b, _, 2, .int (z + 1), rfl, rfl, .of hb', rfl, _, _, rfl, rfl, .inl ⟨by decide, by decide⟩, _, _, rfl, rfl, _, _, rfl, rfl,
        _, _, rfl, rfl, ⟨by decide, by decide, by omega⟩, _, _, rfl, rfl, (by show (0 : Int) < 2147483647; decide), ?_⟩
      generalize h1 : ((y + 7459 * (z + 1) + 211) ^ (5 : Int).toNat : Int) = t1
      have r1 := emod_in t1 2147483647 (by decide)
      refine ⟨_, rfl, _, rfl, b, _, 2, .int (z + 1), rfl, rfl, .of hb', rfl, _, _, rfl, rfl, .inl ⟨by decide, by decide⟩, _, _, rfl, rfl, _, _, rfl, rfl, ⟨by decide, by decide, by omega⟩, _, _, rfl, rfl, (by show (0 : Int) < 2147483587; decide), ?_⟩
      generalize h2 : ((t1 % 2147483647 + 104729 * (z + 1)) ^ (3 : Int).toNat : Int) = t2
      refine ⟨_, rfl, _, _, rfl, rfl, wide_div (by decide) (b := 200) (by decide) (by decide) (by decide), _, rfl, _, _, rfl, rfl, hm, ?_⟩
      have r := emod_in (t2 % 2147483587 / 16) m hm
      exact q _ _ r.1 r.2 ⟨_, _, _, upd_same, hx, hy, hy2, by omega, by omega⟩ But.upd
end
end G

set_option Elab.async false
set_option linter.all false
set_option maxRecDepth 100000
set_option maxHeartbeats 2000000
/-! G5: what data in the heap keeps, its type, == of it. -/
namespace G
open PySem PySem.Spec PyProof.Rows L2
section
variable {K : PySem.W.Frag} {H H' : Hp}
mutual
theorem rp_same (s : Same H H') : ∀ (d : PyData) (v : V), Rp K H v d → Rp K H' v d
  | .none, _, h => by
    cases h
    exact .non
  | .bool b, _, h => by
    cases h
    exact .bl b
  | .int i, _, h => by
    cases h
    exact .int i
  | .str x, _, h => by
    cases h
    exact .str x
  | .list ds, _, h => by
    cases h with
    | lst e r => exact .lst (s _ _ e) (rp_sameAll s ds _ r)
  | .tuple ds, _, h => by
    cases h with
    | tup e r => exact .tup (s _ _ e) (rp_sameAll s ds _ r)
  | .dict ds, _, h => by
    cases h with
    | dic e r q => exact .dic (s _ _ e) (rp_sameK s ds _ r) (rp_sameV s ds _ q)
theorem rp_sameAll (s : Same H H') : ∀ (ds : List PyData) (vs : List V), RpAll K H vs ds → RpAll K H' vs ds
  | [], _, h => by
    cases h
    exact .nil
  | d :: ds, _, h => by
    cases h with
    | cons a b => exact .cons (rp_same s d _ a) (rp_sameAll s ds _ b)
theorem rp_sameK (s : Same H H') : ∀ (ds : List (PyData × PyData)) (vs : List V), RpAll K H vs (ds.map (·.1)) → RpAll K H' vs (ds.map (·.1))
  | [], _, h => by
    cases h
    exact .nil
  | (d, _) :: ds, _, h => by
    cases h with
    | cons a b => exact .cons (rp_same s d _ a) (rp_sameK s ds _ b)
theorem rp_sameV (s : Same H H') : ∀ (ds : List (PyData × PyData)) (vs : List V), RpAll K H vs (ds.map (·.2)) → RpAll K H' vs (ds.map (·.2))
  | [], _, h => by
    cases h
    exact .nil
  | (_, d) :: ds, _, h => by
    cases h with
    | cons a b => exact .cons (rp_same s d _ a) (rp_sameV s ds _ b)
end
theorem rp_len : ∀ {ds : List PyData} {vs : List V}, RpAll K H vs ds → vs.length = ds.length
  | [], _, h => by
    cases h
    rfl
  | _ :: ds, _, h => by
    cases h with
    | cons a b =>
      rw [List.length_cons, List.length_cons, rp_len b]
theorem rp_at : ∀ {ds : List PyData} {vs : List V} {i : Nat} {v : V}, RpAll K H vs ds → vs[i]? = some v → ∃ d, ds[i]? = some d ∧ Rp K H v d
  | [], _, i, v, h, e => by
    cases h
    simp at e
  | d :: ds, _, i, v, h, e => by
    cases h with
    | cons a b =>
      cases i with
      | zero =>
        have e' := Option.some.inj e
        subst e'
        exact ⟨d, rfl, a⟩
      | succ j => exact rp_at (ds := ds) (i := j) b (by simpa using e)
theorem rp_app : ∀ {ds : List PyData} {vs : List V} {v : V} {d : PyData}, RpAll K H vs ds → Rp K H v d → RpAll K H (vs ++ [v]) (ds ++ [d])
  | [], _, _, _, h, r => by
    cases h
    exact .cons r .nil
  | _ :: ds, _, _, _, h, r => by
    cases h with
    | cons a b => exact .cons a (rp_app b r)
theorem rp_set : ∀ {ds : List PyData} {vs : List V} {v : V} {d : PyData} (i : Nat), RpAll K H vs ds → Rp K H v d → RpAll K H (vs.set i v) (ds.set i d)
  | [], _, _, _, _, h, r => by
    cases h
    exact .nil
  | _ :: ds, _, _, _, i, h, r => by
    cases h with
    | cons a b =>
      cases i with
      | zero => exact .cons r b
      | succ j => exact .cons a (rp_set j b r)
theorem rp_ints : ∀ (is : List Int), RpAll K H (is.map V.int) (is.map PyData.int)
  | [] => .nil
  | i :: is => .cons (.int i) (rp_ints is)
mutual
theorem rp_dp : ∀ (d : PyData) (v : V), d.hasDict = false → Rp K H v d → L2.Dp K H v d
  | .none, _, _, h => by
    cases h
    exact .non
  | .bool b, _, _, h => by
    cases h
    exact .bl b
  | .int i, _, _, h => by
    cases h
    exact .int i
  | .str x, _, _, h => by
    cases h
    exact .str x
  | .list ds, _, n, h => by
    cases h with
    | lst e r => exact .lst (.of e) (rp_dpAll ds _ (by simpa [PyData.hasDict] using n) r)
  | .tuple ds, _, n, h => by
    cases h with
    | tup e r => exact .tup (.of e) (rp_dpAll ds _ (by simpa [PyData.hasDict] using n) r)
  | .dict ds, _, n, h => by simp [PyData.hasDict] at n
theorem rp_dpAll : ∀ (ds : List PyData) (vs : List V), PyData.hasDictAll ds = false → RpAll K H vs ds → DpAll K H vs ds
  | [], _, _, h => by
    cases h
    exact .nil
  | d :: ds, _, n, h => by
    simp only [PyData.hasDictAll, Bool.or_eq_false_iff] at n
    cases h with
    | cons a b => exact .cons (rp_dp d _ n.1 a) (rp_dpAll ds _ n.2 b)
end
/-- the name of a thing's type -/
def tyN : PyData → String
  | .none => "NoneType"
  | .bool _ => "bool"
  | .int _ => "int"
  | .str _ => "str"
  | .list _ => "list"
  | .tuple _ => "tuple"
  | .dict _ => "dict"
theorem rp_ty {v : V} {d : PyData} (h : Rp K H v d) : TyX K H v (.type (tyN d)) := by
  cases h with
  | non => exact .base .non
  | bl b => exact .base (.bl b)
  | int i => exact .base (.int i)
  | str x => exact .base (.str x)
  | lst e r => exact .base (.lst e)
  | tup e r => exact .base (.tup e)
  | dic e r q => exact .base (.dK e)
end
/-- H without what stands at b -/
def hide (b : Addr) (H : Hp) : Hp := fun a => if a = b then none else H a
theorem hide_same (b : Addr) (H : Hp) : Same (hide b H) H := fun a o e => by
  by_cases h : a = b
  · rw [show hide b H a = none from if_pos h] at e
    cases e
  · rwa [show hide b H a = H a from if_neg h] at e
theorem hide_ne {b a : Addr} {H : Hp} (h : a ≠ b) : hide b H a = H a := if_neg h
theorem hide_at {b : Addr} {H : Hp} : hide b H b = none := if_pos rfl
theorem hide_but {b : Addr} {H H' : Hp} (h : But b H H') : Same (hide b H) (hide b H') := fun a o e => by
  have n : a ≠ b := fun z => by
    rw [z, hide_at] at e
    cases e
  rw [hide_ne n] at e ⊢
  exact h a o n e
theorem hide_upd {b : Addr} {H : Hp} {o : HO} : hide b (upd H b o) = hide b H := by
  funext a
  by_cases h : a = b
  · rw [h, hide_at, hide_at]
  · rw [hide_ne h, hide_ne h, upd_ne h]
/-- what is new is not in what stood -/
theorem hide_new {b : Addr} {H : Hp} (h : H b = none) : Same H (hide b H) := fun a o e => by
  rw [hide_ne (ne_of_none e h)]
  exact e
theorem hide_mono {b : Addr} {H H' : Hp} (h : Same H H') : Same (hide b H) (hide b H') := hide_but fun c o _ e => h c o e
theorem hide_hide {b c : Addr} {H : Hp} : hide b (hide c H) = hide c (hide b H) := by
  funext a
  unfold hide
  split <;> split <;> rfl
end G

set_option Elab.async false
set_option linter.all false
set_option maxRecDepth 100000
set_option maxHeartbeats 2000000
/-! V3: the items of a list, in a drawn order. -/
namespace G
open PySem PySem.Spec PyProof.Rows L2
theorem scMixed : FnScope ["_law_box_here", "_law_some", "_law_left", "_law_found"] ["_law_box_here", "_law_some"] (defScope sMixed) := ⟨rfl, rfl, rfl, by decide +kernel, rfl, by decide +kernel, by decide +kernel⟩
/-- data that == takes: no dict, texts that can be compared, not too deep -/
def lay (d : PyData) : Prop := d.hasDict = false ∧ d.canLay0 = true ∧ d.depth ≤ 60
theorem lay_all : ∀ {ds : List PyData}, (∀ d ∈ ds, lay d) → PyData.hasDictAll ds = false ∧ PyData.canLayAll0 ds = true ∧ PyData.depthAll ds ≤ 60
  | [], _ => ⟨rfl, rfl, Nat.zero_le _⟩
  | d :: ds, h => by
    obtain ⟨a1, a2, a3⟩ := h d List.mem_cons_self
    obtain ⟨b1, b2, b3⟩ := lay_all (ds := ds) fun e he => h e (List.mem_cons_of_mem _ he)
    refine ⟨?_, ?_, ?_⟩
    · rw [PyData.hasDictAll, a1, b1]
      rfl
    · rw [PyData.canLayAll0, a2, b2]
      rfl
    · rw [PyData.depthAll]
      exact Nat.max_le.mpr ⟨a3, b3⟩
theorem lay_shaped {d : PyData} (h : lay d) : SeqAt.shaped d = true := by
  unfold SeqAt.shaped
  rw [h.2.1, decide_eq_true (Nat.le_trans h.2.2 (by decide))]
  rfl
theorem lay_list {ds : List PyData} (h : ∀ d ∈ ds, lay d) : SeqAt.shaped (.list ds) = true := by
  obtain ⟨_, b2, b3⟩ := lay_all h
  unfold SeqAt.shaped
  rw [PyData.canLay0, b2, decide_eq_true (show (PyData.list ds).depth ≤ 64 by rw [PyData.depth]; omega)]
  rfl
/-- values and what they show -/
abbrev Vd := V × PyData
theorem rp_pairs {K : PySem.W.Frag} {H : Hp} : ∀ {qs : List Vd}, (∀ p ∈ qs, Rp K H p.1 p.2) → RpAll K H (qs.map (·.1)) (qs.map (·.2))
  | [], _ => .nil
  | p :: qs, h => .cons (h p List.mem_cons_self) (rp_pairs fun q hq => h q (List.mem_cons_of_mem _ hq))
theorem dp_pairs {K : PySem.W.Frag} {H : Hp} {qs : List Vd} (h : ∀ p ∈ qs, Rp K H p.1 p.2) (l : ∀ p ∈ qs, lay p.2) : DpAll K H (qs.map (·.1)) (qs.map (·.2)) :=
  rp_dpAll _ _ (lay_all (ds := qs.map (·.2)) fun d hd => by
    obtain ⟨p, hp, rfl⟩ := List.mem_map.mp hd
    exact l p hp).1 (rp_pairs h)
theorem erase_map {α β : Type} (f : α → β) : ∀ (l : List α) (j : Nat), (l.map f).eraseIdx j = (l.eraseIdx j).map f
  | [], _ => rfl
  | _ :: _, 0 => rfl
  | x :: l, j + 1 => by
    show f x :: (l.map f).eraseIdx j = f x :: (l.eraseIdx j).map f
    rw [erase_map f l j]
theorem erase_perm {α : Type} : ∀ {l : List α} {j : Nat} (h : j < l.length), ([l[j]] ++ l.eraseIdx j).Perm l
  | _ :: _, 0, _ => .refl _
  | x :: l, j + 1, h => by
    have hj : j < l.length := by simpa using h
    have ih := erase_perm hj
    show (l[j] :: x :: l.eraseIdx j).Perm (x :: l)
    exact (List.Perm.swap x _ _).trans (List.Perm.cons x ih)
/-- some: any order of its items, in a new list -/
def spMixed (K : PySem.W.Frag) : Sp := fun vs H Q _ => ∃ (b a : Addr) (n : Nat) (ps : List Vd), vs = [.ref b, .ref a] ∧ BoxAt H b n ∧ n + ps.length ≤ 100000 ∧ (SqL K H a (ps.map (·.1)) ∨ SqT K H a (ps.map (·.1))) ∧
  (∀ p ∈ ps, lay p.2 ∧ ∀ H', But b H H' → Rp K H' p.1 p.2) ∧
  ∀ (p : Addr) (H' : Hp) (qs : List Vd), qs.Perm ps → H p = none → H' p = some (.lst (qs.map (·.1))) → BoxAt H' b (n + ps.length) → But b H H' → Q (.ref p) H'
theorem eqv_nil (ds : List PyData) : PyData.eqv (.list ds) (.list []) = ds.isEmpty := by
  cases ds with
  | nil => rfl
  | cons d ds => rfl
section
variable {P : Program} {w : World} {K : PySem.W.Frag} {mg : Str → Option Value} {base : Heap}
theorem ok_mixed {f fT : Addr} {fd fdT : FuncData} (F : Fun K "_law_mixed" "_law_mixed" sMixed f fd) (T : Fun K "_law_take" "_law_take" sTake fT fdT) (bT : Binds K fdT ["_law_box_here", "_law_many"] []) (gT : mg "_law_take" = some (.ref fT))
    (ml : mg "len" = none) (mL : mg "list" = none) : FnOk P w K mg base CX0 2 f fd ["_law_box_here", "_law_some"] (spMixed K) := by
  refine F.ok scMixed (fun vs H Q E h => ?_) (fun cdv A outer s H vs Q E hr h => ?_)
  · obtain ⟨b, a, n, ps, rfl, _⟩ := h
    rfl
  · obtain ⟨b, a, n, ps, rfl, B, hn, hS, hp, q⟩ := h
    have big : ∀ {k : Nat}, k ≤ 100000 → k < sizeLine := fun {k} h => by
      rw [sizeLine_eq]
      omega
    refine ⟨_, pss_cons (ps_par (i := 2) (j := 3) (by rfl) scMixed.nd rfl rfl (by decide) rfl rfl (pa_cons (pe_callTy call_list_of (by rfl) mL (by decide +kernel) (pa_cons (pv 1) pa_nil)) (pa_cons (pe_lst pa_nil) pa_nil)) (by rfl))
      (pss_cons (ps_while PassesOwn.never (pt_cmpR (op_neD hr.units) (pv 2) (pe_lst pa_nil) (nomark _))
        (pss_one (ps_expr (pe_bm PySem.F.plainAttrs_list PySem.F.slot_list_append PySem.F.type_list_append mt_append (pv 3) (pa_cons
          (pe_bm PySem.F.plainAttrs_list PySem.F.slot_list_pop PySem.F.type_list_pop mt_popAt (pv 2)
            (pa_cons (pe_call (ok_take T) hr rfl gT T.kp bT .nil pass0 (pa_cons (pv 0) (pa_cons (pe_callB call_len_seq (by rfl) ml PySem.boot_len (pa_cons (pv 2) pa_nil)) pa_nil))) pa_nil)) pa_nil)))))
      (pss_one (ps_ret (pv 3)))), ?_⟩
    refine ⟨_, rfl, a, _, rfl, hS, fun l hl => ⟨by decide, fun p hp0 => ⟨_, _, rfl, ?_⟩⟩⟩
    have nlp : l ≠ p := fun z => by
      rw [z, upd_same] at hp0
      cases hp0
    have hpn : H p = none := (upd_ne nlp.symm).symm.trans hp0
    have nbl : b ≠ l := by
      obtain ⟨_, _, _, e, _⟩ := B
      exact ne_of_none e hl
    have nbp : b ≠ p := by
      obtain ⟨_, _, _, e, _⟩ := B
      exact ne_of_none e hpn
    refine ⟨fun m σ H1 => ∃ qs rs : List Vd, m = qs.length ∧ σ = [some (.ref b), some (.ref a), some (.ref l), some (.ref p)] ∧ H1 l = some (.lst (qs.map (·.1))) ∧ H1 p = some (.lst (rs.map (·.1))) ∧
        (rs ++ qs).Perm ps ∧ BoxAt H1 b (n + rs.length) ∧ But b H H1, ⟨ps.length, ps, [], rfl, rfl, ?_, upd_same, .refl _, ?_, ?_⟩, ?_⟩
    · rw [upd_ne nlp, upd_same]
    · exact (B.keep fun o e => by rw [upd_ne nbp, upd_ne nbl]; exact e).mono (Nat.le_add_right _ _)
    · exact (But.new hl).trans (But.new hp0)
    · rintro m σ H1 ⟨qs, rs, rfl, rfl, el, ep, pm, B1, s1⟩
      have hq : ∀ x ∈ qs, x ∈ ps := fun x hx => pm.mem_iff.mp (List.mem_append_right _ hx)
      have hlen : rs.length + qs.length = ps.length := by
        rw [← List.length_append]
        exact pm.length_eq
      refine ⟨_, rfl, by decide, fun t ht => ?_⟩
      have nlt : l ≠ t := ne_of_none el ht
      have s2 : But b H (upd H1 t (.lst [])) := s1.trans (But.new ht)
      refine ⟨.list (qs.map fun x : Vd => x.2), .list [], .lst (xs := qs.map fun x : Vd => x.1) (.of (by rw [upd_ne nlt]; exact el)) (dp_pairs (fun x hx => (hp x (hq x hx)).2 _ s2) fun x hx => (hp x (hq x hx)).1), .lst (.of upd_same) .nil, lay_list (fun d hd => ?_), by rfl, _, rfl, ?_⟩
      · obtain ⟨x, hx, rfl⟩ := List.mem_map.mp hd
        exact (hp x (hq x hx)).1
      · rw [eqv_nil]
        cases qs with
        | nil =>
          refine iteF ?_
          refine ⟨_, rfl, ?_⟩
          rw [List.append_nil] at pm
          refine q p _ rs pm hpn ?_ ?_ s2
          · rw [upd_ne (ne_of_none ep ht)]
            exact ep
          · have e : rs.length = ps.length := pm.length_eq
            rw [← e]
            exact B1.keep fun o e => by rw [upd_ne (ne_of_none e ht)]; exact e
        | cons y ys =>
          refine iteT ?_
          have hlen' : rs.length + (ys.length + 1) = ps.length := hlen
          refine ⟨fun σ' H' => ∃ m', m' < (y :: ys).length ∧ ∃ qs rs : List Vd, m' = qs.length ∧ σ' = [some (.ref b), some (.ref a), some (.ref l), some (.ref p)] ∧ H' l = some (.lst (qs.map (·.1))) ∧ H' p = some (.lst (rs.map (·.1))) ∧
            (rs ++ qs).Perm ps ∧ BoxAt H' b (n + rs.length) ∧ But b H H', fun _ _ h => h, ?_⟩
          have ep2 : upd H1 t (.lst []) p = some (.lst (rs.map (·.1))) := by
            rw [upd_ne (ne_of_none ep ht)]
            exact ep
          have el2 : upd H1 t (.lst []) l = some (.lst ((y :: ys).map (·.1))) := by
            rw [upd_ne nlt]
            exact el
          have B2 : BoxAt (upd H1 t (.lst [])) b (n + rs.length) := B1.keep fun o e => by rw [upd_ne (ne_of_none e ht)]; exact e
          refine ⟨_, rfl, .inl ⟨rfl, _, .of ep2⟩, _, rfl, .inl ⟨rfl, _, .of el2⟩, _, rfl, _, rfl, l, _, rfl, .inl (.of el2), b, _, n + rs.length, rfl, B2, by omega, ?_, ?_, fun r H3 r0 r1 B3 s3 => ?_⟩
          · rw [List.length_map]
            show (0 : Int) < ((ys.length + 1 : Nat) : Int)
            omega
          · rw [List.length_map]
            show ((ys.length + 1 : Nat) : Int) < _
            have : ys.length + 1 ≤ 100000 := by omega
            omega
          · obtain ⟨j, rfl, hj⟩ := draw_at r0 r1 (n := (y :: ys).length) (by rw [List.length_map])
            have el3 : H3 l = some (.lst ((y :: ys).map (·.1))) := s3 _ _ nbl.symm el2
            have ep3 : H3 p = some (.lst (rs.map (·.1))) := s3 _ _ nbp.symm ep2
            have hjm : j < ((y :: ys).map (·.1)).length := by
              rw [List.length_map]
              exact hj
            have hj5 : j < 100000 := by
              have e : (y :: ys).length = ys.length + 1 := rfl
              omega
            refine ⟨l, _, (j : Int), j, ((y :: ys)[j]).1, rfl, rfl, el3, by omega, by omega, ?_, ?_, ?_⟩
            · have := PySem.seqIndex_of (k := (j : Int)) (n := ((y :: ys).map (·.1)).length) (by omega) (by omega)
              rw [this]
              rfl
            · rw [List.getElem?_map, List.getElem?_eq_getElem hj]
              rfl
            · refine ⟨p, _, _, rfl, rfl, by rw [upd_ne nlp.symm]; exact ep3, ?_, ?_⟩
              · rw [List.length_map]
                exact big (by omega)
              · refine ⟨((y :: ys).eraseIdx j).length, ?_, (y :: ys).eraseIdx j, rs ++ [(y :: ys)[j]], rfl, rfl, ?_, ?_, ?_, ?_, ?_⟩
                · rw [List.length_eraseIdx, if_pos hj]
                  show (ys.length + 1) - 1 < ys.length + 1
                  omega
                · rw [upd_ne nlp, upd_same, erase_map]
                · rw [upd_same, List.map_append]
                  rfl
                · rw [List.append_assoc]
                  refine List.Perm.trans (List.Perm.append_left rs ?_) pm
                  exact erase_perm hj
                · rw [List.length_append, List.length_singleton]
                  exact B3.keep fun o e => by rw [upd_ne nbp, upd_ne nbl]; exact e
                · intro c o nc e
                  have e3 := (s2.trans s3) c o nc e
                  rw [upd_ne (ne_of_none e hpn), upd_ne (ne_of_none e hl)]
                  exact e3
end
end G

set_option Elab.async false
set_option linter.all false
set_option maxRecDepth 100000
set_option maxHeartbeats 2000000
/-! V4: drawn names. -/
namespace G
open PySem PySem.Spec PyProof.Rows L2
abbrev nNames : List Str := ["_law_box_here", "_law_many", "_law_letters", "_law_way", "_law_cut", "_law_begin", "_law_step", "_law_stem", "_law_k", "_law_found", "_law_letter", "_law_name"]
theorem scNames : FnScope nNames ["_law_box_here", "_law_many"] (defScope sNames) := ⟨rfl, rfl, rfl, by decide +kernel, rfl, by decide +kernel, by decide +kernel⟩
abbrev cs (z : Str) : List Nat := z.cps.toList
theorem cs_len (z : Str) : (cs z).length = z.length := by simp [cs, Str.length]
theorem cs_app (a b : Str) : cs (a ++ b) = cs a ++ cs b := TL.tl_append a b
theorem app_len (a b : Str) : (a ++ b).length = a.length + b.length := strLen_append a b
theorem small_size {n : Nat} (h : n ≤ 7000) : n ≤ sizeLine := by
  rw [sizeLine_eq]
  omega
theorem box_new {H : Hp} {b p : Addr} {n : Nat} {o : HO} (B : BoxAt H b n) (h : H p = none) : BoxAt (upd H p o) b n := B.keep fun o' e => Same.new h b o' e
theorem box_ne {H : Hp} {b p : Addr} {n : Nat} (B : BoxAt H b n) (h : H p = none) : p ≠ b := fun z => by
  obtain ⟨_, _, _, e, _⟩ := B
  rw [← z, h] at e
  cases e
theorem box_upd {H : Hp} {b p : Addr} {n : Nat} {o : HO} (B : BoxAt H b n) (h : p ≠ b) : BoxAt (upd H p o) b n := by
  obtain ⟨x, y, z, e, r⟩ := B
  exact ⟨x, y, z, (upd_ne h.symm).trans e, r⟩
/-- a store at what was new -/
theorem but_upd {b p : Addr} {H H1 : Hp} {o : HO} (k : But b H H1) (h : H p = none) : But b H (upd H1 p o) := fun c u n e => by
  rw [upd_ne (ne_of_none e h)]
  exact k c u n e
theorem free_of {b p : Addr} {H H' : Hp} (k : But b H H') (n : p ≠ b) (h : H' p = none) : H p = none := by
  cases e : H p with
  | none => rfl
  | some o =>
    rw [k p o n e] at h
    cases h
/-! ### names -/
def LowZ (z : Str) : Prop := ∀ c ∈ cs z, 97 ≤ c ∧ c ≤ 122
def NameZ (z : Str) : Prop := LowZ z ∧ 1 ≤ z.length ∧ z.length ≤ 8
def NameI (y : Str) (i : Nat) : Prop := LowZ y ∧ 1 ≤ y.length ∧ y.length ≤ 8 ∧ (26 ≤ i → y.length ≤ 7)
theorem LowZ.app {a b : Str} (h1 : LowZ a) (h2 : LowZ b) : LowZ (a ++ b) := fun c hc => by
  rw [cs_app] at hc
  rcases List.mem_append.mp hc with h | h
  · exact h1 c h
  · exact h2 c h
theorem LowZ.cut {a : Str} (h : LowZ a) (lo hi : Option Int) : LowZ (cutS a lo hi) := fun c hc => by
  have hc' : c ∈ ((cs a).drop _).take _ := hc
  exact h c (List.mem_of_mem_drop (List.mem_of_mem_take hc'))
theorem low_one {c : Nat} (h : 97 ≤ c ∧ c ≤ 122) : LowZ ⟨#[c]⟩ := fun x hx => by
  have : x ∈ [c] := hx
  rw [List.mem_singleton.mp this]
  exact h
theorem LowZ.lay {z : Str} (h : LowZ z) : lay (.str z) := by
  refine ⟨rfl, ?_, Nat.zero_le _⟩
  show z.cps.all (· < 0x110000) = true
  rw [Array.all_eq_true]
  intro i hi
  have := h z.cps[i] (by simp [cs])
  exact decide_eq_true (by omega)
abbrev abc : Str := "abcdefghijklmnopqrstuvwxyz"
theorem abc_low : LowZ abc := by
  have h : ((cs abc).all fun c => decide (97 ≤ c ∧ c ≤ 122)) = true := by decide +kernel
  exact fun c hc => of_decide_eq_true (List.all_eq_true.mp h c hc)
theorem abc_at {j : Nat} (hj : j < 26) : ∃ c, abc.cps[j]? = some c ∧ 97 ≤ c ∧ c ≤ 122 := by
  have h1 : j < abc.cps.size := hj
  refine ⟨abc.cps[j], by simp [h1], abc_low _ ?_⟩
  simp [cs]
theorem cut_first (z : Str) (k : Nat) : cs (cutS z none (some (k : Int))) = (cs z).take k := by
  show ((cs z).drop (HT.sIx z.length 0 none)).take (HT.sIx z.length z.length (some (k : Int)) - HT.sIx z.length 0 none) = _
  rw [HT.sIx_none, HT.sIx_nat z.length z.length k, List.drop_zero, ← cs_len, Nat.sub_zero]
  by_cases h : k ≤ (cs z).length
  · rw [Nat.min_eq_left h]
  · rw [Nat.min_eq_right (by omega), List.take_length, List.take_of_length_le (by omega)]
theorem cut_len (z : Str) (k : Nat) : (cutS z none (some (k : Int))).length = min k z.length := by
  rw [← cs_len, cut_first, List.length_take, cs_len]
def spNames : Sp := fun vs H Q _ => ∃ (b : Addr) (m n : Nat), vs = [.ref b, .int (m : Int)] ∧ BoxAt H b n ∧ n ≤ 50000 ∧ m ≤ 100 ∧
  ∀ (p : Addr) (H' : Hp) (zs : List Str), zs.length = m → (∀ z ∈ zs, NameZ z) → H p = none → H' p = some (.lst (zs.map V.str)) → BoxAt H' b (n + 11 + m) → But b H H' → Q (.ref p) H'
section
variable {P : Program} {w : World} {K : PySem.W.Frag} {mg : Str → Option Value} {base : Heap}
theorem ok_names {f fT fM : Addr} {fd fdT fdM : FuncData} (F : Fun K "_law_names" "_law_names" sNames f fd) (T : Fun K "_law_take" "_law_take" sTake fT fdT) (bT : Binds K fdT ["_law_box_here", "_law_many"] []) (gT : mg "_law_take" = some (.ref fT))
    (M : Fun K "_law_mixed" "_law_mixed" sMixed fM fdM) (bM : Binds K fdM ["_law_box_here", "_law_some"] []) (gM : mg "_law_mixed" = some (.ref fM)) (ml : mg "len" = none) (mL : mg "list" = none) (mr : mg "range" = none) :
    FnOk P w K mg base CX0 3 f fd ["_law_box_here", "_law_many"] spNames := by
  have GT : FnOk P w K mg base CX0 1 fT fdT ["_law_box_here", "_law_many"] spTake := ok_take T
  have GM : FnOk P w K mg base CX0 2 fM fdM ["_law_box_here", "_law_some"] (spMixed K) := ok_mixed M T bT gT ml mL
  refine F.ok scNames (fun vs H Q E h => ?_) (fun cdv A outer s H vs Q E hr h => ?_)
  · obtain ⟨b, m, n, rfl, _⟩ := h
    rfl
  · obtain ⟨b, m, n, rfl, B, hn, hm, q⟩ := h
    have hr1 := hr.mono (show 1 ≤ 2 by decide)
    obtain ⟨ts, psl, qsl⟩ : ∃ t, PSs (cxOf CX0 P w K mg base nNames "_law_names" (defScope sNames) f cdv A outer s H E).nox ((defBody sNames).drop 5) t ∧
        ∀ (way cut bg st : Nat) (z : Str) (x8 : Option V) (H1 : Hp), cut ≤ 7 → (26 < m → cut ≤ 6) → bg < 26 → st ≤ 17 → LowZ z → z.length = 7 → BoxAt H1 b (n + 11) → But b H H1 → t { nx := fun _ H' => Q .non H', rt := Q } [some (.ref b), some (.int (m : Int)), some (.str abc), some (.int (way : Int)), some (.int (cut : Int)), some (.int (bg : Int)), some (.int (st : Int)), some (.str z), x8, none, none, none] H1 := by
      refine ⟨_, pss_cons (ps_set (i := 9) scNames.nd rfl (.inl rfl) (pe_lst pa_nil))
      (pss_cons (ps_for PassesOwn.never rfl (pi_range1 rfl mr (pa_cons (pv 1) pa_nil)) (pg_name (i := 8) scNames.nd rfl (.inl rfl))
        (pss_cons (ps_set (i := 10) scNames.nd rfl (.inl rfl) (pe_item_str (pv 2) (pe_op op_mod (pe_op op_add (pv 5) (pe_op op_mul (pv 6) (pv 8))) pe_int) (fun _ _ => rfl)))
        (pss_cons (ps_set (i := 11) scNames.nd rfl (.inl rfl) (pe_op op_add_str (pe_slice sl_str (pv 7) po_none (po_some (pv 4))) (pv 10)))
        (pss_cons (ps_if (PW.pt (pw_and (pt_cmpR op_eq (pv 3) pe_int (nomark _)) (pw_and1 (pt_cmpR op_lt (pv 1) pe_int (nomark _)))))
          (pss_one (ps_set (i := 11) scNames.nd rfl (.inl rfl) (pe_op op_add_str (pv 10) (pe_slice sl_str (pv 7) po_none (po_some (pe_op op_mod (pe_op op_add (pv 4) (pe_op op_mul pe_int (pv 8))) pe_int)))))) pss_nil)
        (pss_one (ps_expr (pe_bm PySem.F.plainAttrs_list PySem.F.slot_list_append PySem.F.type_list_append mt_append (pv 9) (pa_cons
          (pe_ifExp (pt_cmpR op_lt (pv 8) pe_int (nomark _)) (pv 11) (pe_op op_add_str (pv 11) (pe_item_str (pv 2) (pe_op op_fdiv (pv 8) pe_int) (fun _ _ => rfl)))) pa_nil))))))))
      (pss_one (ps_ret (pv 9)))), ?_⟩
      intro way cut bg st z x8 H1 hcut hcut2 hbg hst hz hl B1 k1
      refine ⟨Nat.zero_le _, fun D hD => ?_⟩
      have nD := box_ne B1 hD
      have fD := free_of k1 nD hD
      refine ⟨_, rfl, _, rfl, by omega, by omega, ?_⟩
      rw [Int.toNat_natCast m]
      refine for_range (lo := 0) (n := m) (fun i σ H2 => ∃ (zs : List Str) (x8 x10 x11 : Option V), σ = [some (.ref b), some (.int (m : Int)), some (.str abc), some (.int (way : Int)), some (.int (cut : Int)), some (.int (bg : Int)), some (.int (st : Int)), some (.str z), x8, some (.ref D), x10, x11] ∧
        H2 D = some (.lst (zs.map V.str)) ∧ zs.length = i ∧ (∀ y ∈ zs, NameZ y) ∧ BoxAt H2 b (n + 11) ∧ But b H H2) ?_ ?_ ?_
      · exact ⟨[], x8, none, none, rfl, upd_same, rfl, (fun y h => nomatch h), box_new B1 hD, but_upd k1 fD⟩
      · rintro i σ H2 hi ⟨zs, x8, x10, x11, rfl, e2, hlz, hy, B2, k2⟩
        have r := emod_in ((bg : Int) + (st : Int) * (0 + (i : Int))) 26 (by decide)
        obtain ⟨j, ej, hj⟩ := draw_at r.1 r.2 (n := 26) rfl
        obtain ⟨c, hc, c97⟩ := abc_at hj
        refine ⟨_, rfl, _, rfl, _, rfl, _, rfl, _, _, rfl, rfl, .inl ⟨by omega, by omega⟩, _, _, rfl, rfl, _, _, rfl, rfl, (by show (0 : Int) < 26; decide), _, _, c, rfl, rfl, r.1, by omega, (show _ < ((26 : Nat) : Int) by omega), (by rw [ej]; exact hc), ?_⟩
        have lo := low_one c97
        have len1 : (⟨#[c]⟩ : Str).length = 1 := rfl
        generalize (⟨#[c]⟩ : Str) = lt at lo len1
        have cl := cut_len z cut
        refine ⟨_, rfl, _, rfl, _, rfl, z, rfl, small_size (by omega), _, rfl, _, _, rfl, rfl, small_size (by omega), ?_⟩
        have Y0 : LowZ (cutS z none (some (cut : Int)) ++ lt) ∧ 1 ≤ (cutS z none (some (cut : Int)) ++ lt).length ∧ (cutS z none (some (cut : Int)) ++ lt).length ≤ 8 ∧ (26 ≤ i → (cutS z none (some (cut : Int)) ++ lt).length ≤ 7) := by
          rw [app_len]
          exact ⟨(hz.cut _ _).app lo, by omega, by omega, fun _ => by omega⟩
        have r8 := emod_in ((cut : Int) + 3 * (0 + (i : Int))) 8 (by decide)
        refine ⟨_, rfl, rfl, _, rfl, ite2 (fun _ => ?_) (fun _ => ?_)⟩
        · refine ⟨_, rfl, _, _, rfl, rfl, _, rfl, ite2 (fun h27 => ?_) (fun _ => ?_)⟩
          · have hm27 : (m : Int) < 27 := of_decide_eq_true h27
            obtain ⟨j8, ej8, hj8⟩ := draw_at r8.1 r8.2 (n := 8) rfl
            have cl8 := cut_len z j8
            refine ⟨_, rfl, _, rfl, _, rfl, _, rfl, _, _, rfl, rfl, .inl ⟨by decide, by decide⟩, _, _, rfl, rfl, _, _, rfl, rfl, (by show (0 : Int) < 8; decide), _, rfl, z, rfl, small_size (by omega), _, _, rfl, rfl, ?_, ?_⟩
            · rw [ej8, len1]
              exact small_size (by omega)
            have Y : NameI (lt ++ cutS z none (some (((cut : Int) + 3 * (0 + (i : Int))) % 8))) i := by
              unfold NameI
              rw [ej8, app_len]
              exact ⟨lo.app (hz.cut _ _), by omega, by omega, fun h => by omega⟩
            revert Y
            generalize (lt ++ cutS z none (some (((cut : Int) + 3 * (0 + (i : Int))) % 8))) = y
            intro Y
            obtain ⟨y1, y2, y3, y4⟩ := Y
            have done : ∀ (u : Str) (x8 x10 x11 : Option V), NameZ u → ∃ (zs' : List Str) (x8' x10' x11' : Option V), [some (V.ref b), some (.int (m : Int)), some (.str abc), some (.int (way : Int)), some (.int (cut : Int)), some (.int (bg : Int)), some (.int (st : Int)), some (.str z), x8, some (.ref D), x10, x11] = [some (.ref b), some (.int (m : Int)), some (.str abc), some (.int (way : Int)), some (.int (cut : Int)), some (.int (bg : Int)), some (.int (st : Int)), some (.str z), x8', some (.ref D), x10', x11'] ∧
                upd H2 D (.lst (zs.map V.str ++ [.str u])) D = some (.lst (zs'.map V.str)) ∧ zs'.length = i + 1 ∧ (∀ y ∈ zs', NameZ y) ∧ BoxAt (upd H2 D (.lst (zs.map V.str ++ [.str u]))) b (n + 11) ∧ But b H (upd H2 D (.lst (zs.map V.str ++ [.str u]))) := fun u x8 x10 x11 hu => by
              refine ⟨zs ++ [u], x8, x10, x11, rfl, ?_, ?_, fun v hv => ?_, box_upd B2 nD, but_upd k2 fD⟩
              · rw [upd_same, List.map_append]
                rfl
              · rw [List.length_append, hlz]
                rfl
              · rcases List.mem_append.mp hv with hv | hv
                · exact hy v hv
                · rw [List.mem_singleton.mp hv]
                  exact hu
            have room : (zs.map V.str).length < sizeLine := by
              rw [List.length_map]
              exact small1000 (by omega)
            refine ⟨_, rfl, .inl ⟨rfl, _, .of e2⟩, _, rfl, _, _, rfl, rfl, _, rfl, ite2 (fun h26 => ?_) (fun h26 => ?_)⟩
            · exact ⟨_, rfl, D, _, _, rfl, rfl, e2, room, done y _ _ _ ⟨y1, y2, y3⟩⟩
            · have h26' : ¬ ((0 + (i : Int)) < 26) := fun h => h26 (decide_eq_true h)
              have yl := y4 (by omega)
              have hd : (0 + (i : Int)) / 26 = ((i / 26 : Nat) : Int) := by omega
              obtain ⟨c2, hc2, c297⟩ := abc_at (j := i / 26) (by omega)
              refine ⟨_, rfl, _, rfl, _, rfl, _, _, rfl, rfl, ⟨by decide, by decide⟩, _, _, c2, rfl, rfl, by omega, by omega, (show _ < ((26 : Nat) : Int) by omega), (by rw [hd]; exact hc2), _, _, rfl, rfl, ?_, D, _, _, rfl, rfl, e2, room, ?_⟩
              · show y.length + 1 ≤ sizeLine
                exact small_size (by omega)
              · have l2 : (y ++ (⟨#[c2]⟩ : Str)).length = y.length + 1 := app_len y ⟨#[c2]⟩
                exact done (y ++ ⟨#[c2]⟩) _ _ _ ⟨y1.app (low_one c297), by omega, by omega⟩
          · have Y : NameI (cutS z none (some (cut : Int)) ++ lt) i := Y0
            revert Y
            generalize (cutS z none (some (cut : Int)) ++ lt) = y
            intro Y
            obtain ⟨y1, y2, y3, y4⟩ := Y
            have done : ∀ (u : Str) (x8 x10 x11 : Option V), NameZ u → ∃ (zs' : List Str) (x8' x10' x11' : Option V), [some (V.ref b), some (.int (m : Int)), some (.str abc), some (.int (way : Int)), some (.int (cut : Int)), some (.int (bg : Int)), some (.int (st : Int)), some (.str z), x8, some (.ref D), x10, x11] = [some (.ref b), some (.int (m : Int)), some (.str abc), some (.int (way : Int)), some (.int (cut : Int)), some (.int (bg : Int)), some (.int (st : Int)), some (.str z), x8', some (.ref D), x10', x11'] ∧
                upd H2 D (.lst (zs.map V.str ++ [.str u])) D = some (.lst (zs'.map V.str)) ∧ zs'.length = i + 1 ∧ (∀ y ∈ zs', NameZ y) ∧ BoxAt (upd H2 D (.lst (zs.map V.str ++ [.str u]))) b (n + 11) ∧ But b H (upd H2 D (.lst (zs.map V.str ++ [.str u]))) := fun u x8 x10 x11 hu => by
              refine ⟨zs ++ [u], x8, x10, x11, rfl, ?_, ?_, fun v hv => ?_, box_upd B2 nD, but_upd k2 fD⟩
              · rw [upd_same, List.map_append]
                rfl
              · rw [List.length_append, hlz]
                rfl
              · rcases List.mem_append.mp hv with hv | hv
                · exact hy v hv
                · rw [List.mem_singleton.mp hv]
                  exact hu
            have room : (zs.map V.str).length < sizeLine := by
              rw [List.length_map]
              exact small1000 (by omega)
            refine ⟨_, rfl, .inl ⟨rfl, _, .of e2⟩, _, rfl, _, _, rfl, rfl, _, rfl, ite2 (fun h26 => ?_) (fun h26 => ?_)⟩
            · exact ⟨_, rfl, D, _, _, rfl, rfl, e2, room, done y _ _ _ ⟨y1, y2, y3⟩⟩
            · have h26' : ¬ ((0 + (i : Int)) < 26) := fun h => h26 (decide_eq_true h)
              have yl := y4 (by omega)
              have hd : (0 + (i : Int)) / 26 = ((i / 26 : Nat) : Int) := by omega
              obtain ⟨c2, hc2, c297⟩ := abc_at (j := i / 26) (by omega)
              refine ⟨_, rfl, _, rfl, _, rfl, _, _, rfl, rfl, ⟨by decide, by decide⟩, _, _, c2, rfl, rfl, by omega, by omega, (show _ < ((26 : Nat) : Int) by omega), (by rw [hd]; exact hc2), _, _, rfl, rfl, ?_, D, _, _, rfl, rfl, e2, room, ?_⟩
              · show y.length + 1 ≤ sizeLine
                exact small_size (by omega)
              · have l2 : (y ++ (⟨#[c2]⟩ : Str)).length = y.length + 1 := app_len y ⟨#[c2]⟩
                exact done (y ++ ⟨#[c2]⟩) _ _ _ ⟨y1.app (low_one c297), by omega, by omega⟩
        · have Y : NameI (cutS z none (some (cut : Int)) ++ lt) i := Y0
          revert Y
          generalize (cutS z none (some (cut : Int)) ++ lt) = y
          intro Y
          obtain ⟨y1, y2, y3, y4⟩ := Y
          have done : ∀ (u : Str) (x8 x10 x11 : Option V), NameZ u → ∃ (zs' : List Str) (x8' x10' x11' : Option V), [some (V.ref b), some (.int (m : Int)), some (.str abc), some (.int (way : Int)), some (.int (cut : Int)), some (.int (bg : Int)), some (.int (st : Int)), some (.str z), x8, some (.ref D), x10, x11] = [some (.ref b), some (.int (m : Int)), some (.str abc), some (.int (way : Int)), some (.int (cut : Int)), some (.int (bg : Int)), some (.int (st : Int)), some (.str z), x8', some (.ref D), x10', x11'] ∧
              upd H2 D (.lst (zs.map V.str ++ [.str u])) D = some (.lst (zs'.map V.str)) ∧ zs'.length = i + 1 ∧ (∀ y ∈ zs', NameZ y) ∧ BoxAt (upd H2 D (.lst (zs.map V.str ++ [.str u]))) b (n + 11) ∧ But b H (upd H2 D (.lst (zs.map V.str ++ [.str u]))) := fun u x8 x10 x11 hu => by
            refine ⟨zs ++ [u], x8, x10, x11, rfl, ?_, ?_, fun v hv => ?_, box_upd B2 nD, but_upd k2 fD⟩
            · rw [upd_same, List.map_append]
              rfl
            · rw [List.length_append, hlz]
              rfl
            · rcases List.mem_append.mp hv with hv | hv
              · exact hy v hv
              · rw [List.mem_singleton.mp hv]
                exact hu
          have room : (zs.map V.str).length < sizeLine := by
            rw [List.length_map]
            exact small1000 (by omega)
          refine ⟨_, rfl, .inl ⟨rfl, _, .of e2⟩, _, rfl, _, _, rfl, rfl, _, rfl, ite2 (fun h26 => ?_) (fun h26 => ?_)⟩
          · exact ⟨_, rfl, D, _, _, rfl, rfl, e2, room, done y _ _ _ ⟨y1, y2, y3⟩⟩
          · have h26' : ¬ ((0 + (i : Int)) < 26) := fun h => h26 (decide_eq_true h)
            have yl := y4 (by omega)
            have hd : (0 + (i : Int)) / 26 = ((i / 26 : Nat) : Int) := by omega
            obtain ⟨c2, hc2, c297⟩ := abc_at (j := i / 26) (by omega)
            refine ⟨_, rfl, _, rfl, _, rfl, _, _, rfl, rfl, ⟨by decide, by decide⟩, _, _, c2, rfl, rfl, by omega, by omega, (show _ < ((26 : Nat) : Int) by omega), (by rw [hd]; exact hc2), _, _, rfl, rfl, ?_, D, _, _, rfl, rfl, e2, room, ?_⟩
            · show y.length + 1 ≤ sizeLine
              exact small_size (by omega)
            · have l2 : (y ++ (⟨#[c2]⟩ : Str)).length = y.length + 1 := app_len y ⟨#[c2]⟩
              exact done (y ++ ⟨#[c2]⟩) _ _ _ ⟨y1.app (low_one c297), by omega, by omega⟩
      · rintro σ H2 ⟨zs, x8, x10, x11, rfl, e2, hlz, hy, B2, k2⟩
        exact ⟨_, rfl, q D H2 zs hlz hy fD e2 (B2.mono (by omega)) k2⟩
    obtain ⟨tl, pl, ql⟩ : ∃ t, PSs (cxOf CX0 P w K mg base nNames "_law_names" (defScope sNames) f cdv A outer s H E).nox ((defBody sNames).drop 2) t ∧
        ∀ (way cut bg : Nat) (H1 : Hp), cut ≤ 7 → (26 < m → cut ≤ 6) → bg < 26 → BoxAt H1 b (n + 3) → But b H H1 → t { nx := fun _ H' => Q .non H', rt := Q } [some (.ref b), some (.int (m : Int)), some (.str abc), some (.int (way : Int)), some (.int (cut : Int)), some (.int (bg : Int)), none, none, none, none, none, none] H1 := by
      refine ⟨_, pss_cons (ps_asg (pe_tup (pa_cons (pe_ix ix_list (pe_lst (pa_cons pe_int (pa_cons pe_int (pa_cons pe_int (pa_cons pe_int (pa_cons pe_int (pa_cons pe_int (pa_cons pe_int (pa_cons pe_int pa_nil)))))))))
          (pe_call GT hr1 rfl gT T.kp bT .nil pass0 (pa_cons (pv 0) (pa_cons pe_int pa_nil))) (fun _ _ => rfl)) (pa_cons pe_str pa_nil)))
        (pg_tup (by rfl) (pgs_cons (pg_name (i := 6) scNames.nd rfl (.inl rfl)) (pgs_cons (pg_name (i := 7) scNames.nd rfl (.inr rfl)) pgs_nil))))
      (pss_cons (ps_for PassesOwn.never rfl (pi_range1 rfl mr (pa_cons pe_int pa_nil)) (pg_name (i := 8) scNames.nd rfl (.inl rfl))
        (pss_one (ps_set (i := 7) scNames.nd rfl (.inr rfl) (pe_op op_add_str (pv 7) (pe_item_str (pv 2) (pe_call GT hr1 rfl gT T.kp bT .nil pass0 (pa_cons (pv 0) (pa_cons pe_int pa_nil))) (fun _ _ => rfl))))))
      (pss_cons (ps_if (PW.pt (pw_and (pt_cmpR op_eq (pv 3) pe_int (nomark _)) (pw_and1 (pt_cmpR op_lt (pv 1) pe_int (nomark _)))))
        (pss_one (ps_ret (pe_call GM hr rfl gM M.kp bM .nil pass0 (pa_cons (pv 0) (pa_cons (pe_lc (own := [("_law_k", 8)]) (g := gName 8) (tt := tYes) (by rfl) scNames.nd (pi_range1 rfl mr (pa_cons (pv 1) pa_nil))
          (blkOk_by (own := [("_law_k", 8)]) (N := nNames) (sc := defScope sNames) (by decide +kernel)) (fun _ _ _ _ _ => pg_name (i := 8) scNames.nd rfl (.inl rfl)) (fun _ _ _ _ _ => pts_nil)
          (fun _ _ _ _ _ => pe_slice sl_str (pe_op op_add_str (pv 7) (pe_item_str (pv 2) (pv 5) (fun _ _ => rfl))) po_none (po_some (pe_op op_add (pv 8) pe_int)))) pa_nil))))) pss_nil)
      psl)), ?_⟩
      intro way cut bg H1 hcut hcut2 hbg B1 k1
      refine ⟨(by show 8 ≤ sizeLine; decide), fun p1 hp1 => ?_⟩
      have np1 := box_ne B1 hp1
      refine ⟨_, rfl, b, 8, n + 3, rfl, box_new B1 hp1, by omega, by decide, by decide, fun r H2 r0 r1 B2 k2 => ?_⟩
      obtain ⟨j, rfl, hj⟩ := draw_at (n := 8) r0 r1 rfl
      have e2 := k2 _ _ np1 upd_same
      have kk2 : But b H H2 := (k1.trans (But.new hp1)).trans k2
      obtain ⟨st, hst, hst17⟩ : ∃ st : Nat, ([.int 1, .int 3, .int 5, .int 7, .int 9, .int 11, .int 15, .int 17] : List V)[j]? = some (.int (st : Int)) ∧ st ≤ 17 := by
        match j, hj with
        | 0, _ => exact ⟨1, rfl, by decide⟩
        | 1, _ => exact ⟨3, rfl, by decide⟩
        | 2, _ => exact ⟨5, rfl, by decide⟩
        | 3, _ => exact ⟨7, rfl, by decide⟩
        | 4, _ => exact ⟨9, rfl, by decide⟩
        | 5, _ => exact ⟨11, rfl, by decide⟩
        | 6, _ => exact ⟨15, rfl, by decide⟩
        | 7, _ => exact ⟨17, rfl, by decide⟩
      refine ⟨p1, _, _, .int (st : Int), rfl, rfl, .of e2, atI_nat hst, (by show 2 ≤ sizeLine; decide), fun p2 hp2 => ?_⟩
      have np2 := box_ne B2 hp2
      refine ⟨p2, _, rfl, .of upd_same, rfl, _, _, rfl, _, _, rfl, rfl, ?_⟩
      have B3 : BoxAt (upd H2 p2 (.tup [.int (st : Int), .str ""])) b (n + 4) := box_new B2 hp2
      have k3 : But b H (upd H2 p2 (.tup [.int (st : Int), .str ""])) := kk2.trans (But.new hp2)
      generalize upd H2 p2 (.tup [.int (st : Int), .str ""]) = H3 at B3 k3
      -- the stem
      refine ⟨_, rfl, by decide, by decide, ?_⟩
      refine for_range (lo := 0) (n := 7) (fun i σ H4 => ∃ (z : Str) (x8 : Option V), σ = [some (.ref b), some (.int (m : Int)), some (.str abc), some (.int (way : Int)), some (.int (cut : Int)), some (.int (bg : Int)), some (.int (st : Int)), some (.str z), x8, none, none, none] ∧ LowZ z ∧ z.length = i ∧ BoxAt H4 b (n + 4 + i) ∧ But b H H4) ?_ ?_ ?_
      · exact ⟨"", none, rfl, (fun c h => nomatch h), rfl, B3, k3⟩
      · rintro i σ H4 hi ⟨z, x8, rfl, hz, hl, B4, k4⟩
        refine ⟨_, rfl, _, rfl, _, rfl, b, 26, n + 4 + i, rfl, B4, by omega, by decide, by decide, fun r H5 r0 r1 B5 k5 => ?_⟩
        obtain ⟨j, rfl, hj⟩ := draw_at (n := 26) r0 r1 rfl
        obtain ⟨c, hc, c97⟩ := abc_at hj
        refine ⟨_, _, c, rfl, rfl, by omega, by omega, (show ((j : Nat) : Int) < ((26 : Nat) : Int) by omega), hc, ?_⟩
        refine ⟨_, _, rfl, rfl, ?_, ?_⟩
        · show z.length + 1 ≤ sizeLine
          rw [sizeLine_eq]
          omega
        · refine ⟨z ++ ⟨#[c]⟩, _, rfl, hz.app (low_one c97), ?_, B5, k4.trans k5⟩
          rw [app_len, hl]
          rfl
      · rintro σ H4 ⟨z, x8, rfl, hz, hl, B4, k4⟩
        -- from here on two ways
        have namesOf : ∀ (zs : List Str) (qs : List Vd), qs.Perm (zs.map fun z => (V.str z, PyData.str z)) → (∀ z ∈ zs, NameZ z) →
            ∃ ys : List Str, qs.map (·.1) = ys.map V.str ∧ ys.length = zs.length ∧ ∀ y ∈ ys, NameZ y := fun zs qs pm hz => by
          have each : ∀ x ∈ qs, ∃ y, x = (V.str y, PyData.str y) ∧ NameZ y := fun x hx => by
            obtain ⟨y, hy, e⟩ := List.mem_map.mp (pm.mem_iff.mp hx)
            exact ⟨y, e.symm, hz y hy⟩
          have hlen : qs.length = zs.length := by
            rw [pm.length_eq, List.length_map]
          rw [← hlen]
          clear pm hlen
          induction qs with
          | nil => exact ⟨[], rfl, rfl, fun y hy => nomatch hy⟩
          | cons x qs ih =>
            obtain ⟨y, rfl, hy⟩ := each x List.mem_cons_self
            obtain ⟨ys, e1, e2, e3⟩ := ih fun x hx => each x (List.mem_cons_of_mem _ hx)
            refine ⟨y :: ys, ?_, congrArg (· + 1) e2, fun u hu => ?_⟩
            · rw [List.map_cons, e1]
              rfl
            · rcases List.mem_cons.mp hu with rfl | hu
              · exact hy
              · exact e3 u hu
        have mInt : (m : Int).toNat = m := Int.toNat_natCast m
        refine ⟨_, rfl, rfl, _, rfl, ite2 (fun _ => ?_) (fun _ => ?_)⟩
        · refine ⟨_, rfl, _, _, rfl, rfl, _, rfl, ite2 (fun h9 => ?_) (fun _ => ?_)⟩
          · have hm9 : (m : Int) < 9 := of_decide_eq_true h9
            refine ⟨_, rfl, _, rfl, _, rfl, by omega, by omega, fun D hD => ?_⟩
            have nD := box_ne B4 hD
            have fD := free_of k4 nD hD
            rw [mInt]
            refine lc_range (lo := 0) (n := m) (fun i H5 => ∃ ys : List Str, H5 D = some (.lst (ys.map V.str)) ∧ ys.length = i ∧ (∀ y ∈ ys, NameZ y) ∧ BoxAt H5 b (n + 11) ∧ But b H H5) ?_ ?_ ?_
            · exact ⟨[], upd_same, rfl, (fun y h => nomatch h), box_new B4 hD, but_upd k4 fD⟩
            · rintro i H5 hi ⟨ys, e5, hl5, hy, B5, k5⟩
              refine ⟨rfl, ?_⟩
              unfold tYes
              dsimp only
              rw [if_pos rfl]
              obtain ⟨c, hc, c97⟩ := abc_at hbg
              refine ⟨_, rfl, _, rfl, _, rfl, _, _, c, rfl, rfl, by omega, by omega, (show ((bg : Nat) : Int) < ((26 : Nat) : Int) by omega), hc, _, _, rfl, rfl, ?_, ?_⟩
              · show z.length + 1 ≤ sizeLine
                rw [sizeLine_eq]
                omega
              have lz : (z ++ ⟨#[c]⟩).length = 8 := by
                rw [app_len, hl]
                rfl
              refine ⟨_, rfl, _, _, rfl, rfl, _, rfl, _, rfl, small_size (by omega), ?_⟩
              have e0 : (0 + (i : Int) + 1 : Int) = ((i + 1 : Nat) : Int) := by omega
              rw [e0]
              have cl := cut_len (z ++ ⟨#[c]⟩) (i + 1)
              refine ⟨_, e5, ?_, ys ++ [cutS (z ++ ⟨#[c]⟩) none (some ((i + 1 : Nat) : Int))], ?_, ?_, ?_, ?_, ?_⟩
              · rw [List.length_map]
                exact small1000 (by omega)
              · rw [upd_same, List.map_append]
                rfl
              · rw [List.length_append, hl5]
                rfl
              · intro y h
                rcases List.mem_append.mp h with h | h
                · exact hy y h
                · rw [List.mem_singleton.mp h]
                  exact ⟨(hz.app (low_one c97)).cut _ _, by omega, by omega⟩
              · exact box_upd B5 nD
              · exact but_upd k5 fD
            · rintro H5 ⟨ys, e5, hl5, hy, B5, k5⟩
              refine ⟨b, D, n + 11, ys.map fun z => (V.str z, PyData.str z), rfl, B5, ?_, .inl (.of ?_), ?_, fun p H6 qs pm np e6 B6 k6 => ?_⟩
              · rw [List.length_map]
                omega
              · rw [e5, List.map_map]
                rfl
              · intro x hx
                obtain ⟨y, hyy, rfl⟩ := List.mem_map.mp hx
                exact ⟨(hy y hyy).1.lay, fun H' _ => .str y⟩
              · obtain ⟨us, u1, u2, u3⟩ := namesOf ys qs pm hy
                rw [u1] at e6
                rw [List.length_map, hl5] at B6
                exact q p H6 us (u2.trans hl5) u3 (free_of k5 (box_ne B5 np) np) e6 B6 (k5.trans k6)
          · exact qsl way cut bg st z x8 H4 hcut hcut2 hbg hst17 hz hl B4 k4
        · exact qsl way cut bg st z x8 H4 hcut hcut2 hbg hst17 hz hl B4 k4
    refine ⟨_, pss_cons (ps_set (i := 2) scNames.nd rfl (.inr rfl) pe_str)
      (pss_cons (ps_asg (pe_tup (pa_cons (pe_call GT hr1 rfl gT T.kp bT .nil pass0 (pa_cons (pv 0) (pa_cons pe_int pa_nil)))
          (pa_cons (pe_call GT hr1 rfl gT T.kp bT .nil pass0 (pa_cons (pv 0) (pa_cons (pe_ifExp (pt_cmpR op_lt (pv 1) pe_int (nomark _)) pe_int pe_int) pa_nil)))
          (pa_cons (pe_call GT hr1 rfl gT T.kp bT .nil pass0 (pa_cons (pv 0) (pa_cons pe_int pa_nil))) pa_nil))))
        (pg_tup (by rfl) (pgs_cons (pg_name (i := 3) scNames.nd rfl (.inl rfl)) (pgs_cons (pg_name (i := 4) scNames.nd rfl (.inl rfl)) (pgs_cons (pg_name (i := 5) scNames.nd rfl (.inr rfl)) pgs_nil))))) pl), ?_⟩
    refine ⟨_, rfl, b, 4, n, rfl, B, by omega, by decide, by decide, fun way H1 w0 w1 B1 k1 => ?_⟩
    obtain ⟨way, rfl, _⟩ := draw_at (n := 4) w0 w1 rfl
    refine ⟨_, rfl, _, rfl, _, _, rfl, rfl, _, rfl, ite2 (fun hm27 => ?_) (fun hm27 => ?_)⟩
    · refine ⟨b, 8, n + 1, rfl, B1, by omega, by decide, by decide, fun cut H2 c0 c1 B2 k2 => ?_⟩
      obtain ⟨cut, rfl, hcut⟩ := draw_at (n := 8) c0 c1 rfl
      refine ⟨_, rfl, b, 26, n + 2, rfl, B2, by omega, by decide, by decide, fun bg H3 g0 g1 B3 k3 => ?_⟩
      obtain ⟨bg, rfl, hbg⟩ := draw_at (n := 26) g0 g1 rfl
      refine ⟨(by show 3 ≤ sizeLine; decide), fun p hp => ⟨p, _, rfl, .of upd_same, rfl, _, _, rfl, _, _, rfl, _, _, rfl, rfl, ?_⟩⟩
      have hm' : (m : Int) < 27 := of_decide_eq_true hm27
      exact ql way cut bg _ (by omega) (by omega) hbg (box_new B3 hp) (((k1.trans k2).trans k3).trans (But.new hp))
    · refine ⟨b, 7, n + 1, rfl, B1, by omega, by decide, by decide, fun cut H2 c0 c1 B2 k2 => ?_⟩
      obtain ⟨cut, rfl, hcut⟩ := draw_at (n := 7) c0 c1 rfl
      refine ⟨_, rfl, b, 26, n + 2, rfl, B2, by omega, by decide, by decide, fun bg H3 g0 g1 B3 k3 => ?_⟩
      obtain ⟨bg, rfl, hbg⟩ := draw_at (n := 26) g0 g1 rfl
      refine ⟨(by show 3 ≤ sizeLine; decide), fun p hp => ⟨p, _, rfl, .of upd_same, rfl, _, _, rfl, _, _, rfl, _, _, rfl, rfl, ?_⟩⟩
      exact ql way cut bg _ (by omega) (by omega) hbg (box_new B3 hp) (((k1.trans k2).trans k3).trans (But.new hp))
end
end G

set_option Elab.async false
set_option linter.all false
set_option maxRecDepth 100000
set_option maxHeartbeats 2000000
/-! V5: a drawn number, a drawn value of some fields. -/
namespace G
open PySem PySem.Spec PyProof.Rows L2
theorem scNumber : FnScope ["_law_box_here", "_law_some"] ["_law_box_here"] (defScope sNumber) := ⟨rfl, rfl, rfl, by decide +kernel, rfl, by decide +kernel, by decide +kernel⟩
def spNumber : Sp := fun vs H Q _ => ∃ (b : Addr) (n : Nat), vs = [.ref b] ∧ BoxAt H b n ∧ n ≤ 90000 ∧ ∀ (i : Int) (H' : Hp), -999 ≤ i → i ≤ 999 → BoxAt H' b (n + 3) → But b H H' → Q (.int i) H'
/-- some of the fields, each with a number -/
def ValN (zs : List Str) (kvs : List (Key × V)) : Prop := ∀ p ∈ kvs, ∃ z i, p = (Sum.inr z, V.int i) ∧ z ∈ zs ∧ -999 ≤ i ∧ i ≤ 999
theorem texts_of : ∀ {zs : List Str} {qs : List Vd}, qs.Perm (zs.map fun z => (V.str z, PyData.str z)) → ∃ ys : List Str, qs.map (·.1) = ys.map V.str ∧ ys.length = zs.length ∧ ∀ y ∈ ys, y ∈ zs := by
  intro zs qs pm
  have each : ∀ x ∈ qs, ∃ y, x = (V.str y, PyData.str y) ∧ y ∈ zs := fun x hx => by
    obtain ⟨y, hy, e⟩ := List.mem_map.mp (pm.mem_iff.mp hx)
    exact ⟨y, e.symm, hy⟩
  have hlen : qs.length = zs.length := by
    rw [pm.length_eq, List.length_map]
  rw [← hlen]
  clear pm hlen
  induction qs with
  | nil => exact ⟨[], rfl, rfl, fun y hy => nomatch hy⟩
  | cons x qs ih =>
    obtain ⟨y, rfl, hy⟩ := each x List.mem_cons_self
    obtain ⟨ys, e1, e2, e3⟩ := ih fun x hx => each x (List.mem_cons_of_mem _ hx)
    refine ⟨y :: ys, ?_, congrArg (· + 1) e2, fun u hu => ?_⟩
    · rw [List.map_cons, e1]
      rfl
    · rcases List.mem_cons.mp hu with rfl | hu
      · exact hy
      · exact e3 u hu
theorem mem_putK {kvs : List (Key × V)} {k : Key} {v : V} {p : Key × V} (h : p ∈ putK kvs k v) : p = (k, v) ∨ p ∈ kvs := by
  unfold putK at h
  split at h
  · obtain ⟨q, hq, e⟩ := List.mem_map.mp h
    by_cases z : q.1 = k
    · rw [if_pos z] at e
      left
      rw [← e, z]
    · rw [if_neg z] at e
      right
      rw [← e]
      exact hq
  · rcases List.mem_append.mp h with h | h
    · exact .inr h
    · exact .inl (List.mem_singleton.mp h)
theorem putK_pos (kvs : List (Key × V)) (k : Key) (v : V) : 1 ≤ (putK kvs k v).length := by
  unfold putK
  split
  · rename_i h
    obtain ⟨x, hx, _⟩ := List.any_eq_true.mp h
    rw [List.length_map]
    exact List.length_pos_of_mem hx
  · rw [List.length_append]
    exact Nat.le_add_left 1 _
theorem ValN.put {zs : List Str} {kvs : List (Key × V)} (h : ValN zs kvs) {z : Str} {i : Int} (hz : z ∈ zs) (h1 : -999 ≤ i) (h2 : i ≤ 999) : ValN zs (putK kvs (Sum.inr z) (.int i)) := fun p hp => by
  rcases mem_putK hp with e | hp
  · exact ⟨z, i, e, hz, h1, h2⟩
  · exact h p hp
theorem cutV_first (xs : List V) (k : Nat) (h : k ≤ xs.length) : cutV xs none (some (k : Int)) = xs.take k := by
  unfold cutV
  rw [HT.sIx_none, HT.sIx_nat, List.drop_zero, Nat.min_eq_left h, Nat.sub_zero]
section
variable {P : Program} {w : World} {K : PySem.W.Frag} {mg : Str → Option Value} {base : Heap}
theorem ok_number {f fT : Addr} {fd fdT : FuncData} (F : Fun K "_law_number" "_law_number" sNumber f fd) (T : Fun K "_law_take" "_law_take" sTake fT fdT) (bT : Binds K fdT ["_law_box_here", "_law_many"] []) (gT : mg "_law_take" = some (.ref fT)) :
    FnOk P w K mg base CX0 2 f fd ["_law_box_here"] spNumber := by
  have GT : FnOk P w K mg base CX0 1 fT fdT ["_law_box_here", "_law_many"] spTake := ok_take T
  refine F.ok scNumber (fun vs H Q E h => ?_) (fun cdv A outer s H vs Q E hr h => ?_)
  · obtain ⟨b, n, rfl, _⟩ := h
    rfl
  · obtain ⟨b, n, rfl, B, hn, q⟩ := h
    refine ⟨_, pss_cons (ps_set (i := 1) scNumber.nd rfl (.inl rfl) (pe_lst (pa_cons pe_int (pa_cons pe_int (pa_cons (pe_un un_neg pe_int) (pa_cons pe_int (pa_cons pe_int (pa_cons (pe_un un_neg pe_int)
        (pa_cons (pe_op op_sub (pe_call GT hr rfl gT T.kp bT .nil pass0 (pa_cons (pv 0) (pa_cons pe_int pa_nil))) pe_int) (pa_cons (pe_op op_sub (pe_call GT hr rfl gT T.kp bT .nil pass0 (pa_cons (pv 0) (pa_cons pe_int pa_nil))) pe_int) pa_nil))))))))))
      (pss_one (ps_ret (pe_ix ix_list (pv 1) (pe_call GT hr rfl gT T.kp bT .nil pass0 (pa_cons (pv 0) (pa_cons pe_int pa_nil))) (fun _ _ => rfl)))), ?_⟩
    refine ⟨_, rfl, _, rfl, _, rfl, b, 21, n, rfl, B, by omega, by decide, by decide, fun r1 H1 a0 a1 B1 k1 => ⟨_, _, rfl, rfl, _, rfl, b, 1999, n + 1, rfl, B1, by omega, by decide, by decide, fun r2 H2 c0 c1 B2 k2 => ⟨_, _, rfl, rfl, (by show 8 ≤ sizeLine; decide), fun p hp => ?_⟩⟩⟩
    have np := box_ne B2 hp
    refine ⟨_, rfl, _, rfl, b, 8, n + 2, rfl, box_new B2 hp, by omega, by decide, by decide, fun r3 H3 d0 d1 B3 k3 => ?_⟩
    obtain ⟨j, rfl, hj⟩ := draw_at (n := 8) d0 d1 rfl
    have e3 := k3 _ _ np upd_same
    obtain ⟨i, hi, h1, h2⟩ : ∃ i : Int, ([.int 0, .int 1, .int (-1), .int 2, .int 999, .int (-999), .int (r1 - 10), .int (r2 - 999)] : List V)[j]? = some (.int i) ∧ -999 ≤ i ∧ i ≤ 999 := by
      match j, hj with
      | 0, _ => exact ⟨0, rfl, by decide, by decide⟩
      | 1, _ => exact ⟨1, rfl, by decide, by decide⟩
      | 2, _ => exact ⟨-1, rfl, by decide, by decide⟩
      | 3, _ => exact ⟨2, rfl, by decide, by decide⟩
      | 4, _ => exact ⟨999, rfl, by decide, by decide⟩
      | 5, _ => exact ⟨-999, rfl, by decide, by decide⟩
      | 6, _ => exact ⟨r1 - 10, rfl, by omega, by omega⟩
      | 7, _ => exact ⟨r2 - 999, rfl, by omega, by omega⟩
    exact ⟨p, _, _, .int i, rfl, rfl, .of e3, atI_nat hi, q i H3 h1 h2 B3 (((k1.trans k2).trans (But.new hp)).trans k3)⟩
end
end G

set_option Elab.async false
set_option linter.all false
set_option maxRecDepth 100000
set_option maxHeartbeats 2000000
/-! P0: isinstance by the kind of a thing. -/
namespace G
open PySem PySem.Spec PyProof.Rows L2
def isI : PyData → Bool
  | .int _ => true
  | .bool _ => true
  | _ => false
def isB : PyData → Bool
  | .bool _ => true
  | _ => false
def isTup : PyData → Bool
  | .tuple _ => true
  | _ => false
def isLst : PyData → Bool
  | .list _ => true
  | _ => false
def isDic : PyData → Bool
  | .dict _ => true
  | _ => false
theorem kit_i {K : PySem.W.Frag} : ∀ d : PyData, PySem.W.kitOne K (.type (tyN d)) (.type "int") = some (isI d)
  | .none => kit_ty (a := "NoneType") (b := "int") (r := false) (by decide +kernel)
  | .bool _ => kit_ty (a := "bool") (b := "int") (r := true) (by decide +kernel)
  | .int _ => kit_ty (a := "int") (b := "int") (r := true) (by decide +kernel)
  | .str _ => kit_ty (a := "str") (b := "int") (r := false) (by decide +kernel)
  | .list _ => kit_ty (a := "list") (b := "int") (r := false) (by decide +kernel)
  | .tuple _ => kit_ty (a := "tuple") (b := "int") (r := false) (by decide +kernel)
  | .dict _ => kit_ty (a := "dict") (b := "int") (r := false) (by decide +kernel)
theorem kit_b {K : PySem.W.Frag} : ∀ d : PyData, PySem.W.kitOne K (.type (tyN d)) (.type "bool") = some (isB d)
  | .none => kit_ty (a := "NoneType") (b := "bool") (r := false) (by decide +kernel)
  | .bool _ => kit_ty (a := "bool") (b := "bool") (r := true) (by decide +kernel)
  | .int _ => kit_ty (a := "int") (b := "bool") (r := false) (by decide +kernel)
  | .str _ => kit_ty (a := "str") (b := "bool") (r := false) (by decide +kernel)
  | .list _ => kit_ty (a := "list") (b := "bool") (r := false) (by decide +kernel)
  | .tuple _ => kit_ty (a := "tuple") (b := "bool") (r := false) (by decide +kernel)
  | .dict _ => kit_ty (a := "dict") (b := "bool") (r := false) (by decide +kernel)
theorem kit_t {K : PySem.W.Frag} : ∀ d : PyData, PySem.W.kitOne K (.type (tyN d)) (.type "tuple") = some (isTup d)
  | .none => kit_ty (a := "NoneType") (b := "tuple") (r := false) (by decide +kernel)
  | .bool _ => kit_ty (a := "bool") (b := "tuple") (r := false) (by decide +kernel)
  | .int _ => kit_ty (a := "int") (b := "tuple") (r := false) (by decide +kernel)
  | .str _ => kit_ty (a := "str") (b := "tuple") (r := false) (by decide +kernel)
  | .list _ => kit_ty (a := "list") (b := "tuple") (r := false) (by decide +kernel)
  | .tuple _ => kit_ty (a := "tuple") (b := "tuple") (r := true) (by decide +kernel)
  | .dict _ => kit_ty (a := "dict") (b := "tuple") (r := false) (by decide +kernel)
theorem kit_l {K : PySem.W.Frag} : ∀ d : PyData, PySem.W.kitOne K (.type (tyN d)) (.type "list") = some (isLst d)
  | .none => kit_ty (a := "NoneType") (b := "list") (r := false) (by decide +kernel)
  | .bool _ => kit_ty (a := "bool") (b := "list") (r := false) (by decide +kernel)
  | .int _ => kit_ty (a := "int") (b := "list") (r := false) (by decide +kernel)
  | .str _ => kit_ty (a := "str") (b := "list") (r := false) (by decide +kernel)
  | .list _ => kit_ty (a := "list") (b := "list") (r := true) (by decide +kernel)
  | .tuple _ => kit_ty (a := "tuple") (b := "list") (r := false) (by decide +kernel)
  | .dict _ => kit_ty (a := "dict") (b := "list") (r := false) (by decide +kernel)
theorem kit_d {K : PySem.W.Frag} : ∀ d : PyData, PySem.W.kitOne K (.type (tyN d)) (.type "dict") = some (isDic d)
  | .none => kit_ty (a := "NoneType") (b := "dict") (r := false) (by decide +kernel)
  | .bool _ => kit_ty (a := "bool") (b := "dict") (r := false) (by decide +kernel)
  | .int _ => kit_ty (a := "int") (b := "dict") (r := false) (by decide +kernel)
  | .str _ => kit_ty (a := "str") (b := "dict") (r := false) (by decide +kernel)
  | .list _ => kit_ty (a := "list") (b := "dict") (r := false) (by decide +kernel)
  | .tuple _ => kit_ty (a := "tuple") (b := "dict") (r := false) (by decide +kernel)
  | .dict _ => kit_ty (a := "dict") (b := "dict") (r := true) (by decide +kernel)
def isS : PyData → Bool
  | .str _ => true
  | _ => false
theorem kit_s {K : PySem.W.Frag} : ∀ d : PyData, PySem.W.kitOne K (.type (tyN d)) (.type "str") = some (isS d)
  | .none => kit_ty (a := "NoneType") (b := "str") (r := false) (by decide +kernel)
  | .bool _ => kit_ty (a := "bool") (b := "str") (r := false) (by decide +kernel)
  | .int _ => kit_ty (a := "int") (b := "str") (r := false) (by decide +kernel)
  | .str _ => kit_ty (a := "str") (b := "str") (r := true) (by decide +kernel)
  | .list _ => kit_ty (a := "list") (b := "str") (r := false) (by decide +kernel)
  | .tuple _ => kit_ty (a := "tuple") (b := "str") (r := false) (by decide +kernel)
  | .dict _ => kit_ty (a := "dict") (b := "str") (r := false) (by decide +kernel)
/-- isinstance(x, int), by name -/
theorem pt_isi {X : Cx} {y : Str} {py : Pos} {te : TE} {n : Str} {p q pos : Pos} (T : String) (he : PE X (.Name y py) te) (hg : Gl X "isinstance" := by rfl) (hm : X.mg "isinstance" = none) (gn : Gl X n := by rfl) (mn : X.mg n = none) (hv : bootBuiltins n = some (.type T) := by decide +kernel)
    (hn : n ≠ "__name__" := by decide) (hd : (n == ("__debug__" : Str)) = false := by decide) :
    PE X (.Call (.Name "isinstance" p) [.Name y py, .Name n q] [] pos) (tCB (rIsi X.K) (tCons te (tCons (tC (.ty T)) tNil))) :=
  pe_callB call_isi hg hm (by decide +kernel) (pa_cons he (pa_cons (pe_bltn gn mn hv rfl hn hd) pa_nil))

end G

set_option Elab.async false
set_option linter.all false
set_option maxRecDepth 100000
set_option maxHeartbeats 2000000
/-! P1: checks that pass; Between made. -/
namespace G
open PySem PySem.Spec PyProof.Rows L2 NdefX
theorem scIsInt : FnScope ["value", "low", "high"] ["value", "low", "high"] (defScope sIsInt) := ⟨rfl, rfl, rfl, by decide +kernel, rfl, by decide +kernel, by decide +kernel⟩
theorem scIsName : FnScope ["value", "letter"] ["value"] (defScope sIsName) := ⟨rfl, rfl, rfl, by decide +kernel, rfl, by decide +kernel, by decide +kernel⟩
theorem scNeedInt : FnScope ["value", "low", "high"] ["value", "low", "high"] (defScope sNeedInt) := ⟨rfl, rfl, rfl, by decide +kernel, rfl, by decide +kernel, by decide +kernel⟩
theorem scNeedName : FnScope ["value"] ["value"] (defScope sNeedName) := ⟨rfl, rfl, rfl, by decide +kernel, rfl, by decide +kernel, by decide +kernel⟩
theorem scCondInit : FnScope ["self", "leaf_count", "height", "name_count"] ["self", "leaf_count", "height", "name_count"] (defScope sCondInit) := ⟨rfl, rfl, rfl, by decide +kernel, rfl, by decide +kernel, by decide +kernel⟩
abbrev nBtw : List Str := ["self", "field", "low", "high", "__class__"]
theorem scBtwInit : NScope nBtw ["self", "field", "low", "high"] ["__class__"] (defScope sBtwInit) := nscope_by (by decide +kernel)

/-- a method of the text that captures __class__, as it stands behind the top -/
structure FunX (K : PySem.W.Frag) (x qual : Str) (st : Stmt) (f cda cc : Addr) (kV : Value) (fd : FuncData) : Prop where
  ex : ∃ (oc : Value) (od : Option Addr) (doc pm : Value) (an : Option Addr) (ct : Value) (osl : Array (Option Value)),
    fd = PySem.W.ksFn x qual (defArgs st) (defBody st) (defScope st) .none kV doc pm an (.ref cda) ct cc ∧ K.lookup f = some ⟨oc, od, .func fd, osl⟩ ∧ PySem.W.codeIn K (.ref cda) qual = true
  cell : ∃ oc od sl v, K.lookup cc = some ⟨oc, od, .cell v, sl⟩
abbrev nfOf (x qual : Str) (st : Stmt) (cda cc : Addr) : NF := ⟨x, qual, defArgs st, defBody st, defScope st, [("__class__", cc)], cda⟩
theorem FunX.ok {P : Program} {w : World} {K : PySem.W.Frag} {mg : Str → Option Value} {base : Heap} {CX : CXT} {x qual : Str} {st : Stmt} {f cda cc : Addr} {kV : Value} {fd : FuncData} {N ps : List Str} {k : Nat} {sp : Sp}
    (F : FunX K x qual st f cda cc kV fd) (S : NScope N ps ["__class__"] (defScope st)) (len : ∀ vs H Q E, sp vs H Q E → vs.length = ps.length)
    (hbody : ∀ (A : Around) (outer : List Env) (s : Shared) (H : Hp) (vs : List V) (Q : VK) (E : XK), Room k (A.deeper (envF (nfOf x qual st cda cc) f s.heap.objs.size)) → sp vs H Q E →
      ∃ t, PSsa (ncx CX P w K mg base N (nfOf x qual st cda cc) f A outer s H E) (defBody st) (defBody st) t ∧ t { nx := fun _ H' => Q .non H', rt := Q } (startF N vs [none]) H) :
    FnOk P w K mg base CX (k + 1) f fd ps sp := by
  obtain ⟨oc, od, doc, pm, an, ct, osl, rfl, lk, hcd⟩ := F.ex
  exact fnx_of lk hcd F.cell S len hbody

def spIsInt : Sp := fun vs H Q _ => ∃ v lo hi : Int, vs = [.int v, .int lo, .int hi] ∧ Q (.bl (decide (lo ≤ v) && decide (v ≤ hi))) H
def spIsName : Sp := fun vs H Q _ => ∃ z : Str, vs = [.str z] ∧ NameZ z ∧ ∀ H', Same H H' → Q (.bl true) H'
def spNeedInt : Sp := fun vs H Q _ => ∃ v lo hi : Int, vs = [.int v, .int lo, .int hi] ∧ lo ≤ v ∧ v ≤ hi ∧ Q .non H
def spNeedName : Sp := fun vs H Q _ => ∃ z : Str, vs = [.str z] ∧ NameZ z ∧ ∀ H', Same H H' → Q .non H'
/-- Condition.__init__, of any class below it -/
def spCond (C : Addr) : Sp := fun vs H Q _ => ∃ (a dx : Addr) (l h k : Int) (fs : List (Str × V)), vs = [.ref a, .int l, .int h, .int k] ∧ H a = some (.ins C dx fs) ∧ fs.length ≤ 500 ∧ l ≤ 6 ∧ h ≤ 5 ∧ k ≤ 8 ∧
  Q .non (upd H a (.ins C dx (putF "name_count" (.int k) (putF "height" (.int h) (putF "leaf_count" (.int l) fs)))))
section
variable {P : Program} {w : World} {K : PySem.W.Frag} {mg : Str → Option Value} {base : Heap}
theorem ok_isint {f : Addr} {fd : FuncData} (F : Fun K "is_integer" "is_integer" sIsInt f fd) (mi : mg "isinstance" = none) (mn : mg "int" = none) (mb : mg "bool" = none) : FnOk P w K mg base CX0 1 f fd ["value", "low", "high"] spIsInt := by
  refine F.ok scIsInt (fun vs H Q E h => ?_) (fun cdv A outer s H vs Q E hr h => ?_)
  · obtain ⟨v, lo, hi, rfl, _⟩ := h
    rfl
  · obtain ⟨v, lo, hi, rfl, q⟩ := h
    refine ⟨_, pss_cons (ps_if (PW.pt (pw_or (pt_not (pt_val (pt_isi "int" (pv 0) (hm := mi) (mn := mn)))) (pw_or1 (pt_val (pt_isi "bool" (pv 0) (hm := mi) (mn := mb)))))) (pss_one (ps_ret pe_bl)) pss_nil)
      (pss_one (ps_ret (pe_chain op_le op_le (pv 1) (pv 0) (pv 2)))), ?_⟩
    have hR : Rp K H (.int v) (.int v) := .int v
    refine ⟨_, rfl, _, _, _, _, _, rfl, .ty _, rp_ty hR, kit_i (.int v), _, rfl, iteF ?_⟩
    refine ⟨_, rfl, _, _, _, _, _, rfl, .ty _, rp_ty hR, kit_b (.int v), _, rfl, iteF ?_⟩
    refine ⟨_, rfl, _, rfl, _, _, rfl, rfl, _, rfl, ?_⟩
    cases e : decide (lo ≤ v) with
    | false =>
      refine iteF ?_
      rw [e] at q
      exact q
    | true =>
      refine iteT ?_
      rw [e] at q
      exact ⟨_, rfl, _, _, rfl, rfl, q⟩
theorem ok_isname {f : Addr} {fd : FuncData} {t1 t2 : Tok} (F : Fun K "is_name" "is_name" sIsName f fd) (gM : mg "MOST_LETTERS" = some (.int 8 t1)) (gL : mg "LETTERS" = some (.str abc t2)) (mi : mg "isinstance" = none) (ms : mg "str" = none) (ml : mg "len" = none) (ma : mg "all" = none) :
    FnOk P w K mg base CX0 1 f fd ["value"] spIsName := by
  refine F.ok scIsName (fun vs H Q E h => ?_) (fun cdv A outer s H vs Q E hr h => ?_)
  · obtain ⟨z, rfl, _⟩ := h
    rfl
  · obtain ⟨z, rfl, ⟨hz, h1, h8⟩, q⟩ := h
    refine ⟨_, pss_cons (ps_if (PW.pt (pw_or (pt_not (pt_val (pt_isi "str" (pv 0) (hm := mi) (mn := ms)))) (pw_or1 (pt_not (pt_chain op_le op_le pe_int (pe_callB call_len_str (by rfl) ml PySem.boot_len (pa_cons (pv 0) pa_nil)) (pe_glob (v := .int 8) rfl gM ⟨_, rfl⟩))))))
        (pss_one (ps_ret pe_bl)) pss_nil)
      (pss_one (ps_ret (pe_callB (cr_all rfl) (by rfl) ma (by decide +kernel) (pa_cons (pe_lc (own := [("letter", 1)]) (g := gName 1) (tt := tYes) (by rfl) scIsName.nd (pi_str (pv 0))
        (blkOk_by (own := [("letter", 1)]) (N := ["value", "letter"]) (sc := defScope sIsName) (by decide +kernel)) (fun _ _ _ _ _ => pg_name (i := 1) scIsName.nd rfl (.inl rfl)) (fun _ _ _ _ _ => pts_nil)
        (fun _ _ _ _ _ => pe_cmpR op_in_sign (pv 1) (pe_glob (v := .str abc) rfl gL ⟨_, rfl⟩) (by rfl))) pa_nil)))), ?_⟩
    have hR : Rp K H (.str z) (.str z) := .str z
    refine ⟨_, rfl, _, _, _, _, _, rfl, .ty _, rp_ty hR, kit_s (.str z), _, rfl, iteF ?_⟩
    refine ⟨_, rfl, z, rfl, small_size (by omega), _, _, rfl, rfl, _, rfl, ?_⟩
    rw [decide_eq_true (show (1 : Int) ≤ (z.length : Int) by omega)]
    refine iteT ⟨_, _, rfl, rfl, _, rfl, ?_⟩
    rw [decide_eq_true (show (z.length : Int) ≤ 8 by omega)]
    refine iteF ?_
    refine ⟨_, rfl, z, rfl, fun D hD => ?_⟩
    refine lc_it walk_str (fun i H2 => Same H H2 ∧ H2 D = some (.lst ((List.replicate i true).map V.bl))) ?_ ?_ ?_ ?_
    · exact ⟨Same.new hD, upd_same⟩
    · exact fun _ _ _ _ => trivial
    · rintro i x H2 H3 hi ⟨s2, e2⟩ ⟨rfl, c, hc, rfl⟩
      have hc2 : (cs z)[i]? = some c := by
        rw [← hc, ← Array.getElem?_toList]
      have hzs : z.cps.size = z.length := rfl
      have c97 := hz c (List.mem_of_getElem? hc2)
      refine ⟨rfl, ?_⟩
      unfold tYes
      dsimp only
      rw [if_pos rfl]
      refine ⟨_, rfl, c, _, rfl, rfl, _, e2, ?_, fun a o e => ?_, ?_⟩
      · rw [List.length_map, List.length_replicate]
        exact Nat.lt_of_lt_of_le hi (small_size (by omega))
      · rw [upd_ne (ne_of_none e hD)]
        exact s2 _ _ e
      · have hin : decide (c ∈ abc.cps.toList) = true := decide_eq_true (by
          have e : abc.cps.toList = (List.range 26).map (97 + ·) := by decide +kernel
          rw [e]
          exact List.mem_map.mpr ⟨c - 97, List.mem_range.mpr (by omega), by omega⟩)
        rw [upd_same, hin, List.replicate_succ', List.map_append]
        rfl
    · rintro H2 ⟨s2, e2⟩
      refine ⟨D, _, rfl, .of e2, ?_⟩
      have ha : (List.replicate z.cps.size true).all id = true := by
        rw [List.all_eq_true]
        intro x hx
        rw [(List.mem_replicate.mp hx).2]
        rfl
      rw [ha]
      exact q H2 s2
theorem ok_needint {f fI : Addr} {fd fdI : FuncData} (F : Fun K "need_integer" "need_integer" sNeedInt f fd) (I : Fun K "is_integer" "is_integer" sIsInt fI fdI) (bI : Binds K fdI ["value", "low", "high"] []) (gI : mg "is_integer" = some (.ref fI))
    (GI : FnOk P w K mg base CX0 1 fI fdI ["value", "low", "high"] spIsInt) : FnOk P w K mg base CX0 2 f fd ["value", "low", "high"] spNeedInt := by
  refine F.ok scNeedInt (fun vs H Q E h => ?_) (fun cdv A outer s H vs Q E hr h => ?_)
  · obtain ⟨v, lo, hi, rfl, _⟩ := h
    rfl
  · obtain ⟨v, lo, hi, rfl, h1, h2, q⟩ := h
    refine ⟨_, pss_one (ps_if (pt_not (pt_val (pe_call GI hr rfl gI I.kp bI .nil pass0 (pa_cons (pv 0) (pa_cons (pv 1) (pa_cons (pv 2) pa_nil)))))) (pss_one ps_never) pss_nil), ?_⟩
    refine ⟨_, rfl, _, rfl, _, rfl, v, lo, hi, rfl, _, rfl, ?_⟩
    rw [decide_eq_true h1, decide_eq_true h2]
    exact iteF q
theorem ok_needname {f fI : Addr} {fd fdI : FuncData} (F : Fun K "need_name" "need_name" sNeedName f fd) (I : Fun K "is_name" "is_name" sIsName fI fdI) (bI : Binds K fdI ["value"] []) (gI : mg "is_name" = some (.ref fI))
    (GI : FnOk P w K mg base CX0 1 fI fdI ["value"] spIsName) : FnOk P w K mg base CX0 2 f fd ["value"] spNeedName := by
  refine F.ok scNeedName (fun vs H Q E h => ?_) (fun cdv A outer s H vs Q E hr h => ?_)
  · obtain ⟨z, rfl, _⟩ := h
    rfl
  · obtain ⟨z, rfl, hz, q⟩ := h
    refine ⟨_, pss_one (ps_if (pt_not (pt_val (pe_call GI hr rfl gI I.kp bI .nil pass0 (pa_cons (pv 0) pa_nil)))) (pss_one ps_never) pss_nil), ?_⟩
    exact ⟨_, rfl, z, rfl, hz, fun H' s' => ⟨_, rfl, iteF (q H' s')⟩⟩
theorem ok_condinit {f C : Addr} {fd : FuncData} {t1 t2 t3 : Tok} (F : Fun K "__init__" "Condition.__init__" sCondInit f fd) (c : Cls K C) (n1 : NoAttr K C "leaf_count") (n2 : NoAttr K C "height") (n3 : NoAttr K C "name_count")
    (g1 : mg "MOST_LEAVES" = some (.int 6 t1)) (g2 : mg "MOST_DEPTH" = some (.int 5 t2)) (g3 : mg "MOST_NAMES" = some (.int 8 t3)) :
    FnOk P w K mg base CX0 1 f fd ["self", "leaf_count", "height", "name_count"] (spCond C) := by
  refine F.ok scCondInit (fun vs H Q E h => ?_) (fun cdv A outer s H vs Q E hr h => ?_)
  · obtain ⟨a, dx, l, h, k, fs, rfl, _⟩ := h
    rfl
  · obtain ⟨a, dx, l, h, k, fs, rfl, ha, hf, h1, h2, h3, q⟩ := h
    refine ⟨_, pss_cons (ps_if (pt_cmpR op_gt (pv 1) (pe_glob (v := .int 6) rfl g1 ⟨_, rfl⟩) (nomark _)) (pss_one ps_never) pss_nil)
      (pss_cons (ps_if (pt_cmpR op_gt (pv 2) (pe_glob (v := .int 5) rfl g2 ⟨_, rfl⟩) (nomark _)) (pss_one ps_never) pss_nil)
      (pss_cons (ps_if (pt_cmpR op_gt (pv 3) (pe_glob (v := .int 8) rfl g3 ⟨_, rfl⟩) (nomark _)) (pss_one ps_never) pss_nil)
      (pss_cons (ps_fld (pv 0) (pv 1) rfl) (pss_cons (ps_fld (pv 0) (pv 2) rfl) (pss_one (ps_fld (pv 0) (pv 3) rfl)))))), ?_⟩
    have l1 := length_putF "leaf_count" (V.int l) fs
    have l2 := length_putF "height" (V.int h) (putF "leaf_count" (V.int l) fs)
    refine ⟨_, rfl, _, _, rfl, rfl, _, rfl, ?_⟩
    rw [decide_eq_false (show ¬ l > 6 by omega)]
    refine iteF ⟨_, rfl, _, _, rfl, rfl, _, rfl, ?_⟩
    rw [decide_eq_false (show ¬ h > 5 by omega)]
    refine iteF ⟨_, rfl, _, _, rfl, rfl, _, rfl, ?_⟩
    rw [decide_eq_false (show ¬ k > 8 by omega)]
    refine iteF ?_
    refine ⟨_, rfl, _, rfl, a, C, dx, fs, rfl, ha, c, n1, by omega, ?_⟩
    refine ⟨_, rfl, _, rfl, a, C, dx, _, rfl, upd_same, c, n2, by omega, ?_⟩
    refine ⟨_, rfl, _, rfl, a, C, dx, _, rfl, upd_same, c, n3, by omega, ?_⟩
    rw [upd_upd, upd_upd]
    exact q
end
end G

set_option Elab.async false
set_option linter.all false
set_option maxRecDepth 100000
set_option maxHeartbeats 2000000
/-! P2: Between made. -/
namespace G
open PySem PySem.Spec PyProof.Rows L2 NdefX
/-- a Between's fields -/
def btwFs (z : Str) (lo hi : Int) : List (Str × V) := [("leaf_count", .int 1), ("height", .int 1), ("name_count", .int 0), ("field_name", .str z), ("lowest", .int lo), ("highest", .int hi)]
def spBtw (C : Addr) : Sp := fun vs H Q _ => ∃ (a dx : Addr) (z : Str) (lo hi : Int), vs = [.ref a, .str z, .int lo, .int hi] ∧ H a = some (.ins C dx []) ∧ NameZ z ∧ -999 ≤ lo ∧ lo ≤ hi ∧ hi ≤ 999 ∧
  ∀ H', Same H H' → Q .non (upd H' a (.ins C dx (btwFs z lo hi)))
section
variable {P : Program} {w : World} {K : PySem.W.Frag} {mg : Str → Option Value} {base : Heap}
theorem ok_btwinit {f cda cc C f2 fN fJ : Addr} {kV : Value} {fd fdN fdJ fdC : FuncData} (F : FunX K "__init__" "Between.__init__" sBtwInit f cda cc kV fd) (S : SupOf P K f cda cc C C f2 "self") (c : Cls K C)
    (n1 : NoAttr K C "field_name") (n2 : NoAttr K C "lowest") (n3 : NoAttr K C "highest")
    (GN : FnOk P w K mg base CX0 2 fN fdN ["value"] spNeedName) (gN : mg "need_name" = some (.ref fN)) (kN : PySem.W.keepIn K (.ref fN) = true) (bN : Binds K fdN ["value"] [])
    (GJ : FnOk P w K mg base CX0 2 fJ fdJ ["value", "low", "high"] spNeedInt) (gJ : mg "need_integer" = some (.ref fJ)) (kJ : PySem.W.keepIn K (.ref fJ) = true) (bJ : Binds K fdJ ["value", "low", "high"] [])
    (GC : FnOk P w K mg base CX0 1 f2 fdC ["self", "leaf_count", "height", "name_count"] (spCond C)) (bC : Binds K fdC ["self", "leaf_count", "height", "name_count"] []) (ms : mg "super" = none) :
    FnOk P w K mg base CX0 3 f fd ["self", "field", "low", "high"] (spBtw C) := by
  refine F.ok scBtwInit (fun vs H Q E h => ?_) (fun A outer s H vs Q E hr h => ?_)
  · obtain ⟨a, dx, z, lo, hi, rfl, _⟩ := h
    rfl
  · obtain ⟨a, dx, z, lo, hi, rfl, ha, hz, h1, h2, h3, q⟩ := h
    have hr1 := hr.mono (show 1 ≤ 2 by decide)
    refine ⟨_, pssa_cons (psa (ps_expr (pe_call GN hr rfl gN kN bN .nil pass0 (pa_cons (pv 1) pa_nil))))
      (pssa_cons (psa (ps_expr (pe_call GJ hr rfl gJ kJ bJ .nil pass0 (pa_cons (pv 2) (pa_cons (pe_un un_neg pe_int) (pa_cons pe_int pa_nil))))))
      (pssa_cons (psa (ps_expr (pe_call GJ hr rfl gJ kJ bJ .nil pass0 (pa_cons (pv 3) (pa_cons (pv 2) (pa_cons pe_int pa_nil))))))
      (pssa_cons (psa_super (i := 0) S (GC.raw bC .nil) hr1 pass0 rfl rfl rfl rfl rfl rfl ms rfl (pa_cons pe_int (pa_cons pe_int (pa_cons pe_int pa_nil))))
      (pssa (pss_cons (ps_fld (pv 0) (pv 1) rfl) (pss_cons (ps_fld (pv 0) (pv 2) rfl) (pss_one (ps_fld (pv 0) (pv 3) rfl)))))))), ?_⟩
    refine ⟨_, rfl, z, rfl, hz, fun H1 s1 => ?_⟩
    have ha1 := s1 _ _ ha
    refine ⟨_, rfl, _, rfl, lo, -999, 999, rfl, h1, by omega, ?_⟩
    refine ⟨_, rfl, _, rfl, hi, lo, 999, rfl, h2, h3, ?_⟩
    refine ⟨a, dx, [], rfl, ha1, a, dx, 1, 1, 0, [], rfl, ha1, by decide, by decide, by decide, by decide, ?_⟩
    refine ⟨_, rfl, _, rfl, a, C, dx, _, rfl, upd_same, c, n1, by decide, ?_⟩
    refine ⟨_, rfl, _, rfl, a, C, dx, _, rfl, upd_same, c, n2, (by show 4 < 1000; decide), ?_⟩
    refine ⟨_, rfl, _, rfl, a, C, dx, _, rfl, upd_same, c, n3, (by show 5 < 1000; decide), ?_⟩
    rw [upd_upd, upd_upd, upd_upd]
    exact q H1 s1
end
end G

set_option Elab.async false
set_option linter.all false
set_option maxRecDepth 100000
set_option maxHeartbeats 2000000
/-! P3: a value of a record is one; a record is one. -/
namespace G
open PySem PySem.Spec PyProof.Rows L2 NdefX
theorem scIsValue : FnScope ["value", "field"] ["value"] (defScope sIsValue) := ⟨rfl, rfl, rfl, by decide +kernel, rfl, by decide +kernel, by decide +kernel⟩
theorem scNeedValue : FnScope ["value"] ["value"] (defScope sNeedValue) := ⟨rfl, rfl, rfl, by decide +kernel, rfl, by decide +kernel, by decide +kernel⟩
theorem scNeedRecord : FnScope ["key", "value"] ["key", "value"] (defScope sNeedRecord) := ⟨rfl, rfl, rfl, by decide +kernel, rfl, by decide +kernel, by decide +kernel⟩
/-- a record's value, of some names -/
structure ValOk (zs : List Str) (kvs : List (Key × V)) : Prop where
  nm : ∀ z ∈ zs, NameZ z
  is : ValN zs kvs
  pos : 1 ≤ kvs.length
  six : kvs.length ≤ 6
theorem valV_of {zs : List Str} {kvs : List (Key × V)} (h : ValN zs kvs) {i : Nat} {k : Key} {v : V} (e : kvs[i]? = some (k, v)) : ∃ (z : Str) (n : Int), k = Sum.inr z ∧ z ∈ zs ∧ valV kvs k = some (.int n) ∧ -999 ≤ n ∧ n ≤ 999 := by
  have hm := List.mem_of_getElem? e
  obtain ⟨z, j, ez, hz, _, _⟩ := h _ hm
  obtain ⟨rfl, _⟩ := Prod.mk.inj ez
  cases q : valV kvs (Sum.inr z) with
  | none =>
    exfalso
    have h2 : (kvs.find? fun kv => decide (kv.1 = (Sum.inr z : Key))) = none := by
      have : Option.map (fun p : Key × V => p.2) (kvs.find? fun kv => decide (kv.1 = (Sum.inr z : Key))) = none := q
      exact Option.map_eq_none_iff.mp this
    have h3 := List.find?_eq_none.mp h2 _ hm
    exact h3 (decide_eq_true rfl)
  | some x =>
    have h2 : Option.map (fun p : Key × V => p.2) (kvs.find? fun kv => decide (kv.1 = (Sum.inr z : Key))) = some x := q
    obtain ⟨p, hp, rfl⟩ := Option.map_eq_some_iff.mp h2
    obtain ⟨z2, n, ep, _, n1, n2⟩ := h p (List.mem_of_find?_eq_some hp)
    rw [ep]
    exact ⟨z, n, rfl, hz, rfl, n1, n2⟩
def spIsValue : Sp := fun vs H Q _ => ∃ (d : Addr) (zs : List Str) (kvs : List (Key × V)), vs = [.ref d] ∧ H d = some (.dK kvs) ∧ ValOk zs kvs ∧ ∀ H', Same H H' → Q (.bl true) H'
def spNeedValue : Sp := fun vs H Q _ => ∃ (d : Addr) (zs : List Str) (kvs : List (Key × V)), vs = [.ref d] ∧ H d = some (.dK kvs) ∧ ValOk zs kvs ∧ ∀ H', Same H H' → Q .non H'
def spNeedRecord : Sp := fun vs H Q _ => ∃ (y : Str) (d : Addr) (zs : List Str) (kvs : List (Key × V)), vs = [.str y, .ref d] ∧ NameZ y ∧ H d = some (.dK kvs) ∧ ValOk zs kvs ∧ ∀ H', Same H H' → Q .non H'
section
variable {P : Program} {w : World} {K : PySem.W.Frag} {mg : Str → Option Value} {base : Heap}
theorem ok_isvalue {f fN fI : Addr} {fd fdN fdI : FuncData} {t1 t2 : Tok} (F : Fun K "is_value" "is_value" sIsValue f fd) (N : Fun K "is_name" "is_name" sIsName fN fdN) (bN : Binds K fdN ["value"] []) (gN : mg "is_name" = some (.ref fN))
    (GN : FnOk P w K mg base CX0 1 fN fdN ["value"] spIsName) (I : Fun K "is_integer" "is_integer" sIsInt fI fdI) (bI : Binds K fdI ["value", "low", "high"] []) (gI : mg "is_integer" = some (.ref fI)) (GI : FnOk P w K mg base CX0 1 fI fdI ["value", "low", "high"] spIsInt)
    (gM : mg "MOST_FIELDS" = some (.int 6 t1)) (gG : mg "GREATEST" = some (.int 999 t2)) (mi : mg "isinstance" = none) (md : mg "dict" = none) (ml : mg "len" = none) (ma : mg "all" = none) :
    FnOk P w K mg base CX0 2 f fd ["value"] spIsValue := by
  refine F.ok scIsValue (fun vs H Q E h => ?_) (fun cdv A outer s H vs Q E hr h => ?_)
  · obtain ⟨d, zs, kvs, rfl, _⟩ := h
    rfl
  · obtain ⟨d, zs, kvs, rfl, hd, hv, q⟩ := h
    have hu := hu_of hr
    refine ⟨_, pss_cons (ps_if (PW.pt (pw_or (pt_not (pt_val (pt_isi "dict" (pv 0) (hm := mi) (mn := md)))) (pw_or1 (pt_not (pt_chain op_le op_le pe_int (pe_callB call_lenD (by rfl) ml PySem.boot_len (pa_cons (pv 0) pa_nil)) (pe_glob (v := .int 6) rfl gM ⟨_, rfl⟩))))))
        (pss_one (ps_ret pe_bl)) pss_nil)
      (pss_one (ps_ret (pe_callB (cr_all rfl) (by rfl) ma (by decide +kernel) (pa_cons (pe_lock (pe_lc (own := [("field", 1)]) (g := gName 1) (tt := tYes) (by rfl) scIsValue.nd (pi_keys (pv 0))
        (blkOk_by (own := [("field", 1)]) (N := ["value", "field"]) (sc := defScope sIsValue) (by decide +kernel)) (fun _ _ _ _ _ => pg_name (i := 1) scIsValue.nd rfl (.inl rfl)) (fun _ _ _ _ _ => pts_nil)
        (fun _ _ _ _ _ => pe_and (pe_call GN hr rfl gN N.kp bN .nil pass0 (pa_cons (pv 1) pa_nil)) (pe_one (pe_call GI hr rfl gI I.kp bI .nil pass0 (pa_cons (pe_dget hu (pv 0) (pv 1) (fun _ _ => rfl))
          (pa_cons (pe_un un_neg (pe_glob (v := .int 999) rfl gG ⟨_, rfl⟩)) (pa_cons (pe_glob (v := .int 999) rfl gG ⟨_, rfl⟩) pa_nil)))))))) pa_nil)))), ?_⟩
    refine ⟨_, rfl, _, _, _, _, _, rfl, .ty _, .base (.dK hd), kit_ty (a := "dict") (b := "dict") (r := true) (by decide +kernel), _, rfl, iteF ?_⟩
    refine ⟨_, rfl, d, kvs, rfl, hd, ?_⟩
    have h1 := hv.pos
    have h6 := hv.six
    refine ⟨_, _, rfl, rfl, _, rfl, ?_⟩
    rw [decide_eq_true (show (1 : Int) ≤ (kvs.length : Int) by omega)]
    refine iteT ⟨_, _, rfl, rfl, _, rfl, ?_⟩
    rw [decide_eq_true (show (kvs.length : Int) ≤ 6 by omega)]
    refine iteF ?_
    refine ⟨d, _, hd, trivial, fun od => ?_⟩
    refine ⟨_, rfl, d, od, rfl, .inl ⟨kvs, upd_same, fun D hD => ?_⟩⟩
    have ndD : d ≠ D := fun z => by
      rw [← z, upd_same] at hD
      cases hD
    have fD : H D = none := (upd_ne ndD.symm).symm.trans hD
    refine lc_it walk_keys (fun i H2 => But d H H2 ∧ H2 d = some (.frz od (.dK kvs)) ∧ H2 D = some (.lst ((List.replicate i true).map V.bl))) ?_ ?_ ?_ ?_
    · exact ⟨but_upd But.upd fD, (upd_ne ndD).trans upd_same, upd_same⟩
    · exact fun _ _ _ h => h.2.1
    · rintro i x H2 H3 hi ⟨b2, d2, e2⟩ ⟨rfl, k, v, hk, rfl⟩
      obtain ⟨z, n, rfl, hz, hn, n1, n2⟩ := valV_of hv.is hk
      refine ⟨rfl, ?_⟩
      unfold tYes
      dsimp only
      rw [if_pos rfl]
      refine ⟨_, rfl, z, rfl, hv.nm z hz, fun H4 s4 => ⟨_, rfl, iteT ?_⟩⟩
      have d4 := s4 _ _ d2
      have e4 := s4 _ _ e2
      refine ⟨_, rfl, _, rfl, d, .int n, rfl, .inl ⟨kvs, Sum.inr z, .inr ⟨od, d4⟩, rfl, hn.symm⟩, _, rfl, n, -999, 999, rfl, ?_⟩
      rw [decide_eq_true n1, decide_eq_true n2]
      refine ⟨_, e4, ?_, ?_, ?_, ?_⟩
      · rw [List.length_map, List.length_replicate]
        exact small1000 (by omega)
      · exact but_upd (b2.trans (But.same s4)) fD
      · exact (upd_ne ndD).trans d4
      · rw [upd_same, List.replicate_succ', List.map_append]
        rfl
    · rintro H2 ⟨b2, d2, e2⟩
      refine ⟨d2, D, _, rfl, .of ((upd_ne ndD.symm).trans e2), ?_⟩
      have ha : (List.replicate kvs.length true).all id = true := by
        rw [List.all_eq_true]
        intro x hx
        rw [(List.mem_replicate.mp hx).2]
        rfl
      rw [ha]
      refine q _ fun c o e => ?_
      by_cases hc : c = d
      · rw [hc] at e ⊢
        rw [hd] at e
        rw [← e]
        exact upd_same
      · rw [upd_ne hc]
        exact b2 c o hc e
theorem ok_needvalue {f fI : Addr} {fd fdI : FuncData} (F : Fun K "need_value" "need_value" sNeedValue f fd) (I : Fun K "is_value" "is_value" sIsValue fI fdI) (bI : Binds K fdI ["value"] []) (gI : mg "is_value" = some (.ref fI))
    (GI : FnOk P w K mg base CX0 2 fI fdI ["value"] spIsValue) : FnOk P w K mg base CX0 3 f fd ["value"] spNeedValue := by
  refine F.ok scNeedValue (fun vs H Q E h => ?_) (fun cdv A outer s H vs Q E hr h => ?_)
  · obtain ⟨d, zs, kvs, rfl, _⟩ := h
    rfl
  · obtain ⟨d, zs, kvs, rfl, hd, hv, q⟩ := h
    refine ⟨_, pss_one (ps_if (pt_not (pt_val (pe_call GI hr rfl gI I.kp bI .nil pass0 (pa_cons (pv 0) pa_nil)))) (pss_one ps_never) pss_nil), ?_⟩
    exact ⟨_, rfl, d, zs, kvs, rfl, hd, hv, fun H' s' => ⟨_, rfl, iteF (q H' s')⟩⟩
theorem ok_needrecord {f fN fV : Addr} {fd fdN fdV : FuncData} (F : Fun K "need_record" "need_record" sNeedRecord f fd) (kN : PySem.W.keepIn K (.ref fN) = true) (bN : Binds K fdN ["value"] []) (gN : mg "need_name" = some (.ref fN)) (GN : FnOk P w K mg base CX0 2 fN fdN ["value"] spNeedName)
    (kV : PySem.W.keepIn K (.ref fV) = true) (bV : Binds K fdV ["value"] []) (gV : mg "need_value" = some (.ref fV)) (GV : FnOk P w K mg base CX0 3 fV fdV ["value"] spNeedValue) : FnOk P w K mg base CX0 4 f fd ["key", "value"] spNeedRecord := by
  refine F.ok scNeedRecord (fun vs H Q E h => ?_) (fun cdv A outer s H vs Q E hr h => ?_)
  · obtain ⟨y, d, zs, kvs, rfl, _⟩ := h
    rfl
  · obtain ⟨y, d, zs, kvs, rfl, hy, hd, hv, q⟩ := h
    refine ⟨_, pss_cons (ps_expr (pe_call GN (hr.mono (by decide)) rfl gN kN bN .nil pass0 (pa_cons (pv 0) pa_nil))) (pss_one (ps_expr (pe_call GV hr rfl gV kV bV .nil pass0 (pa_cons (pv 1) pa_nil)))), ?_⟩
    exact ⟨_, rfl, y, rfl, hy, fun H1 s1 => ⟨_, rfl, d, zs, kvs, rfl, s1 _ _ hd, hv, fun H2 s2 => q H2 (s1.trans s2)⟩⟩
end
end G

set_option Elab.async false
set_option linter.all false
set_option maxRecDepth 100000
set_option maxHeartbeats 2000000
/-! P4: a Between asked. -/
namespace G
open PySem PySem.Spec PyProof.Rows L2 NdefX
theorem scOne (j : Nat) (h : FnScope ["self"] ["self"] (defScope (sBtw j))) : FnScope ["self"] ["self"] (defScope (sBtw j)) := h
theorem scBtw1 : FnScope ["self"] ["self"] (defScope (sBtw 1)) := ⟨rfl, rfl, rfl, by decide +kernel, rfl, by decide +kernel, by decide +kernel⟩
theorem scBtw2 : FnScope ["self"] ["self"] (defScope (sBtw 2)) := ⟨rfl, rfl, rfl, by decide +kernel, rfl, by decide +kernel, by decide +kernel⟩
theorem scBtw3 : FnScope ["self"] ["self"] (defScope (sBtw 3)) := ⟨rfl, rfl, rfl, by decide +kernel, rfl, by decide +kernel, by decide +kernel⟩
theorem scBtw4 : FnScope ["self", "key", "value"] ["self", "key", "value"] (defScope (sBtw 4)) := ⟨rfl, rfl, rfl, by decide +kernel, rfl, by decide +kernel, by decide +kernel⟩
theorem scBtw5 : FnScope ["self", "key", "value"] ["self", "key", "value"] (defScope (sBtw 5)) := ⟨rfl, rfl, rfl, by decide +kernel, rfl, by decide +kernel, by decide +kernel⟩
theorem scBtw6 : FnScope ["self"] ["self"] (defScope (sBtw 6)) := ⟨rfl, rfl, rfl, by decide +kernel, rfl, by decide +kernel, by decide +kernel⟩
theorem scBtw7 : FnScope ["self"] ["self"] (defScope (sBtw 7)) := ⟨rfl, rfl, rfl, by decide +kernel, rfl, by decide +kernel, by decide +kernel⟩
/-- at a stands Between(z, low=lo, high=hi) -/
def BtwAt (C : Addr) (H : Hp) (a : Addr) (z : Str) (lo hi : Int) : Prop := ∃ dx, H a = some (.ins C dx (btwFs z lo hi))
/-- whether it holds -/
def btwHolds (z : Str) (lo hi : Int) (kvs : List (Key × V)) : Bool := match valV kvs (Sum.inr z) with
  | some (.int n) => decide (lo ≤ n) && decide (n ≤ hi)
  | _ => false
theorem valV_int {zs : List Str} {kvs : List (Key × V)} (h : ValN zs kvs) (k : Key) : valV kvs k = none ∨ ∃ n, valV kvs k = some (.int n) := by
  cases q : valV kvs k with
  | none => exact .inl rfl
  | some x =>
    have h2 : Option.map (fun p : Key × V => p.2) (kvs.find? fun kv => decide (kv.1 = k)) = some x := q
    obtain ⟨p, hp, rfl⟩ := Option.map_eq_some_iff.mp h2
    obtain ⟨z2, n, ep, _, n1, n2⟩ := h p (List.mem_of_find?_eq_some hp)
    exact .inr ⟨n, by rw [ep]⟩
def spBtwField (C : Addr) : Sp := fun vs H Q _ => ∃ (a : Addr) (z : Str) (lo hi : Int), vs = [.ref a] ∧ BtwAt C H a z lo hi ∧ Q (.str z) H
def spBtwLow (C : Addr) : Sp := fun vs H Q _ => ∃ (a : Addr) (z : Str) (lo hi : Int), vs = [.ref a] ∧ BtwAt C H a z lo hi ∧ Q (.int lo) H
def spBtwHigh (C : Addr) : Sp := fun vs H Q _ => ∃ (a : Addr) (z : Str) (lo hi : Int), vs = [.ref a] ∧ BtwAt C H a z lo hi ∧ Q (.int hi) H
def spBtwOne (C : Addr) : Sp := fun vs H Q _ => ∃ (a : Addr) (z : Str) (lo hi : Int), vs = [.ref a] ∧ BtwAt C H a z lo hi ∧ Q (.int 1) H
def spBtwHolds (C : Addr) : Sp := fun vs H Q _ => ∃ (a d : Addr) (y z : Str) (lo hi : Int) (zs : List Str) (kvs : List (Key × V)), vs = [.ref a, .str y, .ref d] ∧ BtwAt C H a z lo hi ∧ H d = some (.dK kvs) ∧ ValN zs kvs ∧ Q (.bl (btwHolds z lo hi kvs)) H
def spBtwCall (C : Addr) : Sp := fun vs H Q _ => ∃ (a d : Addr) (y z : Str) (lo hi : Int) (zs : List Str) (kvs : List (Key × V)), vs = [.ref a, .str y, .ref d] ∧ BtwAt C H a z lo hi ∧ NameZ y ∧ H d = some (.dK kvs) ∧ ValOk zs kvs ∧
  ∀ H', Same H H' → Q (.bl (btwHolds z lo hi kvs)) H'
section
variable {P : Program} {w : World} {K : PySem.W.Frag} {mg : Str → Option Value} {base : Heap} {f C : Addr} {fd : FuncData}
theorem ok_btwfield (F : Fun K "field" "Between.field" (sBtw 1) f fd) (c : Cls K C) (n : NoAttr K C "field_name") : FnOk P w K mg base CX0 1 f fd ["self"] (spBtwField C) := by
  refine F.ok scBtw1 (fun vs H Q E h => ?_) (fun cdv A outer s H vs Q E hr h => ?_)
  · obtain ⟨a, z, lo, hi, rfl, _⟩ := h
    rfl
  · obtain ⟨a, z, lo, hi, rfl, ⟨dx, ha⟩, q⟩ := h
    exact ⟨_, pss_one (ps_ret (pe_fld (pv 0) rfl)), _, rfl, a, C, dx, _, _, rfl, ha, c, n, rfl, q⟩
theorem ok_btwlow (F : Fun K "low" "Between.low" (sBtw 2) f fd) (c : Cls K C) (n : NoAttr K C "lowest") : FnOk P w K mg base CX0 1 f fd ["self"] (spBtwLow C) := by
  refine F.ok scBtw2 (fun vs H Q E h => ?_) (fun cdv A outer s H vs Q E hr h => ?_)
  · obtain ⟨a, z, lo, hi, rfl, _⟩ := h
    rfl
  · obtain ⟨a, z, lo, hi, rfl, ⟨dx, ha⟩, q⟩ := h
    exact ⟨_, pss_one (ps_ret (pe_fld (pv 0) rfl)), _, rfl, a, C, dx, _, _, rfl, ha, c, n, rfl, q⟩
theorem ok_btwhigh (F : Fun K "high" "Between.high" (sBtw 3) f fd) (c : Cls K C) (n : NoAttr K C "highest") : FnOk P w K mg base CX0 1 f fd ["self"] (spBtwHigh C) := by
  refine F.ok scBtw3 (fun vs H Q E h => ?_) (fun cdv A outer s H vs Q E hr h => ?_)
  · obtain ⟨a, z, lo, hi, rfl, _⟩ := h
    rfl
  · obtain ⟨a, z, lo, hi, rfl, ⟨dx, ha⟩, q⟩ := h
    exact ⟨_, pss_one (ps_ret (pe_fld (pv 0) rfl)), _, rfl, a, C, dx, _, _, rfl, ha, c, n, rfl, q⟩
theorem ok_btwdepth (F : Fun K "depth" "Between.depth" (sBtw 7) f fd) (c : Cls K C) (n : NoAttr K C "height") : FnOk P w K mg base CX0 1 f fd ["self"] (spBtwOne C) := by
  refine F.ok scBtw7 (fun vs H Q E h => ?_) (fun cdv A outer s H vs Q E hr h => ?_)
  · obtain ⟨a, z, lo, hi, rfl, _⟩ := h
    rfl
  · obtain ⟨a, z, lo, hi, rfl, ⟨dx, ha⟩, q⟩ := h
    exact ⟨_, pss_one (ps_ret (pe_fld (pv 0) rfl)), _, rfl, a, C, dx, _, _, rfl, ha, c, n, rfl, q⟩
theorem ok_btwholds (F : Fun K "holds" "Between.holds" (sBtw 5) f fd) (c : Cls K C) (n1 : NoAttr K C "field_name") (n2 : NoAttr K C "lowest") (n3 : NoAttr K C "highest") : FnOk P w K mg base CX0 1 f fd ["self", "key", "value"] (spBtwHolds C) := by
  refine F.ok scBtw5 (fun vs H Q E h => ?_) (fun cdv A outer s H vs Q E hr h => ?_)
  · obtain ⟨a, d, y, z, lo, hi, zs, kvs, rfl, _⟩ := h
    rfl
  · obtain ⟨a, d, y, z, lo, hi, zs, kvs, rfl, ⟨dx, ha⟩, hd, hv, q⟩ := h
    have hu := hu_of hr
    refine ⟨_, pss_one (ps_ret (pe_and (pe_cmp (pc_din hu (pe_fld (pv 0) rfl) (pv 2)) rfl) (pe_one (pe_chain op_le op_le (pe_fld (pv 0) rfl) (pe_dget hu (pv 2) (pe_fld (pv 0) rfl) (fun _ _ => rfl)) (pe_fld (pv 0) rfl))))), ?_⟩
    refine ⟨_, rfl, a, C, dx, _, _, rfl, ha, c, n1, rfl, _, rfl, d, _, rfl, DGet.k (k := Sum.inr z) hd, _, rfl, ?_⟩
    unfold btwHolds at q
    rcases valV_int hv (Sum.inr z) with e | ⟨n, e⟩
    · rw [e] at q ⊢
      exact iteF q
    · rw [e] at q ⊢
      replace q : Q (.bl (decide (lo ≤ n) && decide (n ≤ hi))) H := q
      refine iteT ?_
      refine ⟨_, rfl, a, C, dx, _, _, rfl, ha, c, n2, rfl, _, rfl, _, rfl, a, C, dx, _, _, rfl, ha, c, n1, rfl, d, _, rfl, by rw [← e]; exact DGet.k (k := Sum.inr z) hd, _, _, rfl, rfl, _, rfl, ?_⟩
      cases e2 : decide (lo ≤ n) with
      | false =>
        refine iteF ?_
        rw [e2] at q
        exact q
      | true =>
        refine iteT ?_
        rw [e2] at q
        exact ⟨_, rfl, a, C, dx, _, _, rfl, ha, c, n3, rfl, _, _, rfl, rfl, q⟩
theorem ok_btwcall {fR fH : Addr} {fdR fdH : FuncData} (F : Fun K "__call__" "Between.__call__" (sBtw 4) f fd) (c : Cls K C) (kR : PySem.W.keepIn K (.ref fR) = true) (bR : Binds K fdR ["key", "value"] []) (gR : mg "need_record" = some (.ref fR))
    (GR : FnOk P w K mg base CX0 4 fR fdR ["key", "value"] spNeedRecord) (hm : Meth K C "holds" fH) (bH : Binds K fdH ["self", "key", "value"] []) (GH : FnOk P w K mg base CX0 1 fH fdH ["self", "key", "value"] (spBtwHolds C)) :
    FnOk P w K mg base CX0 5 f fd ["self", "key", "value"] (spBtwCall C) := by
  refine F.ok scBtw4 (fun vs H Q E h => ?_) (fun cdv A outer s H vs Q E hr h => ?_)
  · obtain ⟨a, d, y, z, lo, hi, zs, kvs, rfl, _⟩ := h
    rfl
  · obtain ⟨a, d, y, z, lo, hi, zs, kvs, rfl, ⟨dx, ha⟩, hy, hd, hv, q⟩ := h
    refine ⟨_, pss_cons (ps_expr (pe_call GR hr rfl gR kR bR .nil pass0 (pa_cons (pv 1) (pa_cons (pv 2) pa_nil))))
      (pss_one (ps_ret (pe_meth (pv 0) c hm GH (hr.mono (by decide)) bH .nil pass0 (pa_cons (pv 1) (pa_cons (pv 2) pa_nil))))), ?_⟩
    refine ⟨_, rfl, _, rfl, y, d, zs, kvs, rfl, hy, hd, hv, fun H1 s1 => ?_⟩
    exact ⟨_, rfl, a, dx, _, rfl, s1 _ _ ha, rfl, _, rfl, _, rfl, a, d, y, z, lo, hi, zs, kvs, rfl, ⟨dx, s1 _ _ ha⟩, s1 _ _ hd, hv.is, q H1 s1⟩
end
end G

set_option Elab.async false
set_option linter.all false
set_option maxRecDepth 100000
set_option maxHeartbeats 2000000
/-! P5: a method that captures __class__ and has *names; Named made. -/
namespace G
open PySem PySem.Spec PyProof.Rows L2 NdefX StX
section
variable {CX : CXT} {P : Program} {w : World} {K : PySem.W.Frag} {mg : Str → Option Value} {base : Heap} {k : Nat} {f cda cc : Addr} {name qual : Str} {params : Arguments} {body : List Stmt} {scope : Scope} {dV kV doc pm ct oc : Value} {an od : Option Addr}
  {osl : Array (Option Value)} {N ps : List Str} {sp : Sp}
theorem cell_one {A : Around} {outer : List Env} {s : Shared} {H : Hp} (e0 : Env0 P w K mg base A outer s H) (hcell : ∃ oc od sl v, K.lookup cc = some ⟨oc, od, .cell v, sl⟩) : CellsAt [(("__class__" : Str), cc)] ["__class__"] [none] s.heap H := by
  have inK : K.In s.heap := e0.mod.kin.keeps fun b o e => (e0.bs b o e).1
  obtain ⟨oc3, od3, sl3, v3, lk3⟩ := hcell
  have one : ∀ {y : Str} {c : Addr}, List.lookup y [(("__class__" : Str), cc)] = some c → y = "__class__" ∧ c = cc := fun {y c} z => by
    have z2 := PySem.mem_of_lookup z
    rw [List.mem_singleton] at z2
    exact ⟨congrArg Prod.fst z2, congrArg Prod.snd z2⟩
  refine ⟨rfl, fun y c z => ?_, fun y y' c z z' => (one z).1.trans (one z').1.symm, fun i y z => ?_⟩
  · obtain ⟨_, rfl⟩ := one z
    exact ⟨(e0.bs _ _ (e0.mod.kin _ _ lk3)).2, v3, _, inK _ _ lk3, rfl⟩
  · have hy : y = "__class__" := by
      have z2 := List.mem_of_getElem? z
      rw [List.mem_singleton] at z2
      exact z2
    subst hy
    refine ⟨cc, by simp [List.lookup], fun v z => ?_⟩
    cases i with
    | zero => cases z
    | succ j => cases z
theorem run_bndx {A : Around} {outer : List Env} {s : Shared} {H : Hp} {args : Args} {Q : VK} {E : XK} {G : List V → Hp → Prop} (lk : K.lookup f = some ⟨oc, od, .func (PySem.W.ksFn name qual params body scope dV kV doc pm an (.ref cda) ct cc), osl⟩)
    (hcd : PySem.W.codeIn K (.ref cda) qual = true) (hcell : ∃ oc od sl v, K.lookup cc = some ⟨oc, od, .cell v, sl⟩) (S : NScope N ps ["__class__"] scope) (hr : Room (k + 1) A) (e0 : Env0 P w K mg base A outer s H)
    (hb : Bnd CX P w K mg base (PySem.W.ksFn name qual params body scope dV kV doc pm an (.ref cda) ct cc) args ps A outer s H E G)
    (hbody : ∀ (s2 : Shared) (H2 : Hp) (vs : List V), G vs H2 → Room k (A.deeper (envF ⟨name, qual, params, body, scope, [("__class__", cc)], cda⟩ f s2.heap.objs.size)) →
      ∃ t, PSsa (ncx CX P w K mg base N ⟨name, qual, params, body, scope, [("__class__", cc)], cda⟩ f A outer s2 H2 E) body body t ∧ t { nx := fun _ H' => Q .non H', rt := Q } (startF N vs [none]) H2) :
    codeAny (model P w) A (.call (.ref f) args) (CR CX outer P w H s Q E) s := by
  have inK : K.In s.heap := e0.mod.kin.keeps fun b o e => (e0.bs b o e).1
  refine codeAny_call_function hr.depth (inK _ _ lk) rfl S.co S.gen rfl (PySem.W.codeRec_of inK hcd) ?_
  refine hb _ _ _ fun s2 H2 vs us e2 un ho hx r hl g => ?_
  have lim : s2.heap.NoLimit := e0.mod.nolimit.keeps fun b o e => (e2.bs b o e).1
  refine wpAny_newFunctionEnv (s := s2) S.nocell (fun y hy => S.par y.1 (List.of_mem_zip hy).1) (fun h₁ hns hsb => ⟨lim.fresh _ hsb, ?_⟩) S.kind
  show codeAny _ _ (.func body (envF ⟨name, qual, params, body, scope, [("__class__", cc)], cda⟩ f s2.heap.objs.size)) _ _
  refine ks_codeAny_funcAt ?_
  have kp : ∀ b o, s2.heap.get? b = some o → h₁.get? b = some o := fun b o e => hsb.extBut b o (Nat.ne_of_lt (Heap.lt_size e)) (Heap.get?_push_of_some _ e)
  obtain ⟨t, ht, hq⟩ := hbody s2 H2 vs g (hr.deeper _)
  have I : Inv (ncx CX P w K mg base N ⟨name, qual, params, body, scope, [("__class__", cc)], cda⟩ f A outer s2 H2 E) [] (startF N vs [none]) H2 { s2 with heap := h₁, toks := s2.toks + (ps.zip us).length } := inv_startN S hr.hd e2 hl r (cell_one e2 hcell) hns kp
  refine ks_wpAt_mono (ht.run [] _ _ _ _ I hq) (fun fl s' hs => ?_) fun e s' hs => ?_
  · have fin : ∀ {σ' : L2.St} {H' : Hp} {v' : V} {u' : Value}, Inv (ncx CX P w K mg base N ⟨name, qual, params, body, scope, [("__class__", cc)], cda⟩ f A outer s2 H2 E) [] σ' H' s' → L2.RelV v' u' → Q v' H' → CE outer P w H s Q u' s' :=
      fun {σ' H' v' u'} J rv' q => ⟨v', H', J.os.trans ho, J.bare, un.trans J.base, J.hok, rv', q⟩
    cases fl with
    | ret u' =>
      obtain ⟨v', σ', H', J, rv', q⟩ := hs
      exact fin J rv' q
    | next =>
      obtain ⟨σ', H', J, q⟩ := hs
      exact fin (v' := V.non) (u' := Value.none) J rfl q
    | brk =>
      obtain ⟨_, _, _, q⟩ := hs
      exact False.elim q
    | cont =>
      obtain ⟨_, _, _, q⟩ := hs
      exact False.elim q
  · exact wpAny_mono hs (fun _ s'' z => hx e s'' z) fun e' s'' z => hx e' s'' z
theorem fnx_star {pv : Str} (lk : K.lookup f = some ⟨oc, od, .func (PySem.W.ksFn name qual params body scope dV kV doc pm an (.ref cda) ct cc), osl⟩) (hcd : PySem.W.codeIn K (.ref cda) qual = true) (hcell : ∃ oc od sl v, K.lookup cc = some ⟨oc, od, .cell v, sl⟩)
    (S : NScope N (ps ++ [pv]) ["__class__"] scope) (hCX : CXUp CX)
    (hb : ∀ us rest : List Value, us.length = ps.length → bindArgs (PySem.W.ksFn name qual params body scope dV kV doc pm an (.ref cda) ct cc) ⟨us ++ rest, []⟩ = (newTuple rest >>= fun t => pure (ps.zip us ++ [(pv, t)])))
    (hbody : ∀ (A : Around) (outer : List Env) (s : Shared) (H : Hp) (vs : List V) (Q : VK) (E : XK), Room k (A.deeper (envF ⟨name, qual, params, body, scope, [("__class__", cc)], cda⟩ f s.heap.objs.size)) → sp vs H Q E →
      ∃ t, PSsa (ncx CX P w K mg base N ⟨name, qual, params, body, scope, [("__class__", cc)], cda⟩ f A outer s H E) body body t ∧ t { nx := fun _ H' => Q .non H', rt := Q } (startF N vs [none]) H) :
    FnR P w K mg base CX (k + 1) f (fun vs H Q E => ∃ ws rest, vs = ws ++ rest ∧ ws.length = ps.length ∧ rest.length ≤ sizeLine ∧ ∀ p, H p = Option.none → sp (ws ++ [V.ref p]) (upd H p (.tup rest)) Q E) := by
  intro A outer s H us vs Q E hr e0 r hsp
  obtain ⟨ws, rest, rfl, hl, hz, hq⟩ := hsp
  obtain ⟨u1, u2, rfl, r1, r2⟩ := vals_split r
  have hn : H s.heap.objs.size = Option.none := e0.hok.fresh (Nat.le_refl _)
  have hl1 : u1.length = ps.length := by rw [← r1.length]; exact hl
  have hl2 : u2.length ≤ sizeLine := by rw [← r2.length]; exact hz
  refine run_bndx lk hcd hcell S hr e0 (G := fun xs H2 => ∃ p, H p = Option.none ∧ xs = ws ++ [V.ref p] ∧ H2 = upd H p (.tup rest)) (fun A' Ex Q' h => ?_) fun s2 H2 xs g hr' => ?_
  · rw [hb u1 u2 hl1]
    have new : ObjOk P w (upd H s.heap.objs.size (.tup rest)) (s.heap.push ({ cls := .type "tuple", data := .seq u2.toArray } : Obj)) s.heap.objs.size (.tup rest) := ⟨hz, u2, r2, ⟨_, Heap.get?_push_size _ rfl, rfl, _, rfl⟩⟩
    have un := un_laid (fs := frs outer) (s := s) (o := ({ cls := .type "tuple", data := .seq u2.toArray } : Obj)) (u := .tup rest) hn
    have z := h _ _ (ws ++ [V.ref s.heap.objs.size]) (u1 ++ [Value.ref s.heap.objs.size]) (env0_laid e0 new) un rfl (fun e s' => hCX outer s H _ _ E e s' un (fun b o q => Heap.get?_push_of_some _ q) rfl) (r1.append (.cons rfl .nil))
      (by rw [List.length_append, List.length_append, hl] <;> rfl) ⟨_, hn, rfl, rfl⟩
    rw [List.zip_append hl1.symm] at z
    exact wpAny_bind (wpAny_newTuple (wpAny_pure z) hl2)
  · obtain ⟨p, hp, rfl, rfl⟩ := g
    exact hbody A outer s2 _ _ Q E hr' (hq p hp)
end
/-! ### Named -/
abbrev nNam : List Str := ["self", "names", "__class__", "name"]
theorem scNamInit : NScope nNam ([("self" : Str)] ++ [("names" : Str)]) ["__class__"] (defScope sNamInit) := nscope_by (by decide +kernel)
def namFs (t : Addr) : List (Str × V) := [("leaf_count", .int 1), ("height", .int 1), ("name_count", .int 0), ("accepted_names", .ref t)]
/-- the fields with n names -/
def namF (n : Nat) (t : Addr) : List (Str × V) := [("leaf_count", .int 1), ("height", .int 1), ("name_count", .int (n : Nat)), ("accepted_names", .ref t)]
def spNam (C : Addr) : Sp := fun vs H Q _ => ∃ (a dx t : Addr) (zs : List Str), vs = [.ref a, .ref t] ∧ H a = some (.ins C dx []) ∧ H t = some (.tup (zs.map V.str)) ∧ zs.length ≤ 8 ∧ (∀ z ∈ zs, NameZ z) ∧
  ∀ H', Same (upd H a (.ins C dx [("leaf_count", .int 1), ("height", .int 1), ("name_count", .int (zs.length : Nat))])) H' → Q .non (upd H' a (.ins C dx (namF zs.length t)))
section
variable {P : Program} {w : World} {K : PySem.W.Frag} {mg : Str → Option Value} {base : Heap}
theorem ok_naminit {f cda cc C f2 fN : Addr} {kV : Value} {fd fdN fdC : FuncData} (F : FunX K "__init__" "Named.__init__" sNamInit f cda cc kV fd) (S : SupOf P K f cda cc C C f2 "self") (c : Cls K C) (n1 : NoAttr K C "accepted_names")
    (GN : FnOk P w K mg base CX0 2 fN fdN ["value"] spNeedName) (gN : mg "need_name" = some (.ref fN)) (kN : PySem.W.keepIn K (.ref fN) = true) (bN : Binds K fdN ["value"] [])
    (GC : FnOk P w K mg base CX0 1 f2 fdC ["self", "leaf_count", "height", "name_count"] (spCond C)) (bC : Binds K fdC ["self", "leaf_count", "height", "name_count"] []) (ms : mg "super" = none) (ml : mg "len" = none) :
    FnR P w K mg base CX0 3 f (fun vs H Q E => ∃ ws rest, vs = ws ++ rest ∧ ws.length = ["self"].length ∧ rest.length ≤ sizeLine ∧ ∀ p, H p = Option.none → spNam C (ws ++ [V.ref p]) (upd H p (.tup rest)) Q E) := by
  obtain ⟨oc, od, doc, pm, an, ct, osl, rfl, lk, hcd⟩ := F.ex
  refine fnx_star (ps := ["self"]) (pv := "names") (k := 2) lk hcd F.cell scNamInit cxUp_none (fun us rest hl => match us, rest, hl with | [_], [], _ => rfl | [_], _ :: _, _ => rfl) (fun A outer s H vs Q E hr h => ?_)
  obtain ⟨a, dx, t, zs, rfl, ha, ht, h8, hz, q⟩ := h
  have hr1 := hr.mono (show 1 ≤ 2 by decide)
  refine ⟨_, pssa_cons (psa_super (i := 0) S (GC.raw bC .nil) hr1 pass0 rfl rfl rfl rfl rfl rfl ms rfl (pa_cons pe_int (pa_cons pe_int (pa_cons (pe_callB call_len_seq (by rfl) ml PySem.boot_len (pa_cons (pv 1) pa_nil)) pa_nil))))
    (pssa (pss_cons (ps_for PassesOwn.leaving rfl (pi_tup (pv 1)) (pg_name (i := 3) scNamInit.nd rfl (.inl rfl)) (pss_one (ps_expr (pe_call GN hr rfl gN kN bN .nil pass0 (pa_cons (pv 3) pa_nil)))))
      (pss_one (ps_fld (pv 0) (pv 1) rfl)))), ?_⟩
  have nat : t ≠ a := fun z => by
    rw [z, ha] at ht
    cases ht
  refine ⟨a, dx, [], rfl, ha, _, rfl, t, _, rfl, .inr (.of ht), a, dx, 1, 1, _, [], rfl, ha, by decide, by decide, by decide, by rw [List.length_map]; omega, ?_⟩
  rw [List.length_map]
  have ht1 : (upd H a (.ins C dx (putF "name_count" (.int (zs.length : Nat)) (putF "height" (.int 1) (putF "leaf_count" (.int 1) []))))) t = some (.tup (zs.map V.str)) := (upd_ne nat).trans ht
  refine ⟨_, rfl, t, rfl, ⟨_, .of ht1⟩, ?_⟩
  refine for_tup (xs := zs.map V.str) (fun i σ H2 => ∃ x3 : Option V, σ = [some (.ref a), some (.ref t), none, x3] ∧ Same (upd H a (.ins C dx [("leaf_count", .int 1), ("height", .int 1), ("name_count", .int (zs.length : Nat))])) H2) ?_ ?_ ?_ ?_
  · exact ⟨none, rfl, Same.refl _⟩
  · rintro i σ H2 _ ⟨x3, rfl, s2⟩
    exact .of (s2 _ _ ht1)
  · rintro i x σ H2 hx ⟨x3, rfl, s2⟩
    rw [List.getElem?_map] at hx
    obtain ⟨y, hy, rfl⟩ := Option.map_eq_some_iff.mp hx
    exact ⟨_, rfl, y, rfl, hz y (List.mem_of_getElem? hy), fun H3 s3 => ⟨_, rfl, s2.trans s3⟩⟩
  · rintro σ H2 ⟨x3, rfl, s2⟩
    exact ⟨_, rfl, _, rfl, a, C, dx, _, rfl, s2 _ _ upd_same, c, n1, (by show 3 < 1000; decide), q H2 s2⟩
end
end G

set_option Elab.async false
set_option linter.all false
set_option maxRecDepth 100000
set_option maxHeartbeats 2000000
/-! P6: a Named asked. -/
namespace G
open PySem PySem.Spec PyProof.Rows L2 NdefX
theorem scNam1 : FnScope ["self"] ["self"] (defScope (sNam 1)) := ⟨rfl, rfl, rfl, by decide +kernel, rfl, by decide +kernel, by decide +kernel⟩
theorem scNam2 : FnScope ["self", "key", "value"] ["self", "key", "value"] (defScope (sNam 2)) := ⟨rfl, rfl, rfl, by decide +kernel, rfl, by decide +kernel, by decide +kernel⟩
theorem scNam3 : FnScope ["self", "key", "value"] ["self", "key", "value"] (defScope (sNam 3)) := ⟨rfl, rfl, rfl, by decide +kernel, rfl, by decide +kernel, by decide +kernel⟩
theorem scNam4 : FnScope ["self"] ["self"] (defScope (sNam 4)) := ⟨rfl, rfl, rfl, by decide +kernel, rfl, by decide +kernel, by decide +kernel⟩
theorem scNam5 : FnScope ["self"] ["self"] (defScope (sNam 5)) := ⟨rfl, rfl, rfl, by decide +kernel, rfl, by decide +kernel, by decide +kernel⟩
/-- at a stands Named(*zs), whose tuple is at t -/
def NamAt (C : Addr) (H : Hp) (a t : Addr) (zs : List Str) : Prop := ∃ dx, H a = some (.ins C dx (namF zs.length t)) ∧ H t = some (.tup (zs.map V.str))
theorem NamAt.same {C a t : Addr} {H H' : Hp} {zs : List Str} (h : NamAt C H a t zs) (s : Same H H') : NamAt C H' a t zs := let ⟨dx, h1, h2⟩ := h; ⟨dx, s _ _ h1, s _ _ h2⟩
def spNamAcc (C : Addr) : Sp := fun vs H Q _ => ∃ (a t : Addr) (zs : List Str), vs = [.ref a] ∧ NamAt C H a t zs ∧ Q (.ref t) H
def spNamOne (C : Addr) : Sp := fun vs H Q _ => ∃ (a t : Addr) (zs : List Str), vs = [.ref a] ∧ NamAt C H a t zs ∧ Q (.int 1) H
def spNamHolds (C : Addr) : Sp := fun vs H Q _ => ∃ (a d t : Addr) (y : Str) (zs : List Str), vs = [.ref a, .str y, .ref d] ∧ NamAt C H a t zs ∧ Q (.bl (inV (.str y) (zs.map V.str))) H
def spNamCall (C : Addr) : Sp := fun vs H Q _ => ∃ (a d t : Addr) (y : Str) (zs ws : List Str) (kvs : List (Key × V)), vs = [.ref a, .str y, .ref d] ∧ NamAt C H a t zs ∧ NameZ y ∧ H d = some (.dK kvs) ∧ ValOk ws kvs ∧
  ∀ H', Same H H' → Q (.bl (inV (.str y) (zs.map V.str))) H'
section
variable {P : Program} {w : World} {K : PySem.W.Frag} {mg : Str → Option Value} {base : Heap} {f C : Addr} {fd : FuncData}
theorem ok_namdepth (F : Fun K "depth" "Named.depth" (sNam 5) f fd) (c : Cls K C) (n : NoAttr K C "height") : FnOk P w K mg base CX0 1 f fd ["self"] (spNamOne C) := by
  refine F.ok scNam5 (fun vs H Q E h => ?_) (fun cdv A outer s H vs Q E hr h => ?_)
  · obtain ⟨a, t, zs, rfl, _⟩ := h
    rfl
  · obtain ⟨a, t, zs, rfl, ⟨dx, ha, _⟩, q⟩ := h
    exact ⟨_, pss_one (ps_ret (pe_fld (pv 0) rfl)), _, rfl, a, C, dx, _, _, rfl, ha, c, n, rfl, q⟩
theorem ok_namholds (F : Fun K "holds" "Named.holds" (sNam 3) f fd) (c : Cls K C) (n : NoAttr K C "accepted_names") : FnOk P w K mg base CX0 1 f fd ["self", "key", "value"] (spNamHolds C) := by
  refine F.ok scNam3 (fun vs H Q E h => ?_) (fun cdv A outer s H vs Q E hr h => ?_)
  · obtain ⟨a, d, t, y, zs, rfl, _⟩ := h
    rfl
  · obtain ⟨a, d, t, y, zs, rfl, ⟨dx, ha, ht⟩, q⟩ := h
    refine ⟨_, pss_one (ps_ret (pe_cmpR op_in_seq (pv 1) (pe_fld (pv 0) rfl) (by rfl))), ?_⟩
    refine ⟨_, rfl, _, rfl, a, C, dx, _, _, rfl, ha, c, n, rfl, t, _, rfl, .inr (.of ht), rfl, ?_, q⟩
    rw [List.all_eq_true]
    intro x hx
    obtain ⟨z, _, rfl⟩ := List.mem_map.mp hx
    rfl
theorem ok_namcall {fR fH : Addr} {fdR fdH : FuncData} (F : Fun K "__call__" "Named.__call__" (sNam 2) f fd) (c : Cls K C) (kR : PySem.W.keepIn K (.ref fR) = true) (bR : Binds K fdR ["key", "value"] []) (gR : mg "need_record" = some (.ref fR))
    (GR : FnOk P w K mg base CX0 4 fR fdR ["key", "value"] spNeedRecord) (hm : Meth K C "holds" fH) (bH : Binds K fdH ["self", "key", "value"] []) (GH : FnOk P w K mg base CX0 1 fH fdH ["self", "key", "value"] (spNamHolds C)) :
    FnOk P w K mg base CX0 5 f fd ["self", "key", "value"] (spNamCall C) := by
  refine F.ok scNam2 (fun vs H Q E h => ?_) (fun cdv A outer s H vs Q E hr h => ?_)
  · obtain ⟨a, d, t, y, zs, ws, kvs, rfl, _⟩ := h
    rfl
  · obtain ⟨a, d, t, y, zs, ws, kvs, rfl, hn, hy, hd, hv, q⟩ := h
    refine ⟨_, pss_cons (ps_expr (pe_call GR hr rfl gR kR bR .nil pass0 (pa_cons (pv 1) (pa_cons (pv 2) pa_nil))))
      (pss_one (ps_ret (pe_meth (pv 0) c hm GH (hr.mono (by decide)) bH .nil pass0 (pa_cons (pv 1) (pa_cons (pv 2) pa_nil))))), ?_⟩
    refine ⟨_, rfl, _, rfl, y, d, ws, kvs, rfl, hy, hd, hv, fun H1 s1 => ?_⟩
    obtain ⟨dx, ha, ht⟩ := hn.same s1
    exact ⟨_, rfl, a, dx, _, rfl, ha, rfl, _, rfl, _, rfl, a, d, t, y, zs, rfl, ⟨dx, ha, ht⟩, q H1 s1⟩
end
end G

set_option Elab.async false
set_option linter.all false
set_option maxRecDepth 100000
set_option maxHeartbeats 2000000
/-! P7: an instance called with keywords alone. -/
namespace G
open PySem PySem.Spec PyProof.Rows L2 NdefX StX
theorem callOK_of {M : Model} {A : Around} {E : Value → Shared → Prop} {s : Shared} {a : Addr} {pos : Pos} {Q : Value → Shared → Prop} {args : List (Bool × Sem Value)} {keywords : List (Option Str × Sem Value)}
    (plain : (args.any (·.1) || keywords.any (·.1.isNone)) = false)
    (h : wpAny M A (evalArgs (.ref a) true args keywords) (fun z s₁ => (∃ C ox od, PySem.W.InstAt s₁.heap a ox C od ∧ ox.data = .plain) ∧ wpAny M A (call (.ref a) ([] ++ z.pos) z.kw) Q E s₁) E s) :
    wpAny M A (callWith pos (.ref a) [] args keywords) Q E s := by
  unfold callWith
  refine wpAny_bind (wpAny_holding (wpAny_mono h (fun z s₁ hz => wpAny_bind (wpAny_standAt ?_)) fun _ _ y => y))
  obtain ⟨C, ox, od, J, hd⟩ := hz.1
  simp only [plain]
  refine wpAny_bind ((PySem.W.kco_keeper (M := M) J hd).here ?_)
  have fin : ∀ {t : Sem Value}, wpAny M A t Q E s₁ → wpAny M A (t >>= fun r => holding [r] point >>= fun _ => pure r) Q E s₁ := fun go =>
    wpAny_bind (wpAny_mono go (fun r s₂ hr => wpAny_bind (wpAny_holding (wpAny_point (wpAny_pure hr)))) fun _ _ y => y)
  exact fin (wpAny_operateT hz.2)
/-- x(k = v, ..), x a name that holds an instance of C -/
def tCallOK (X : Cx) (C : Addr) (m : Nat) (sp : Sp) (gV : List V → List V → List V) (E : XK) (tf : TE) (tk : TA) : TE := fun σ H Q => tf σ H fun y H1 => ∃ a, y = V.ref a ∧ tk σ H1 fun zs H2 => zs.length = m ∧ InsC X H2 a C ∧ sp (gV [V.ref a] zs) H2 Q E
theorem pe_callOK {X : Cx} {CX : CXT} {k : Nat} {C g0 : Addr} {fd : FuncData} {ps ks : List Str} {sp : Sp} {E : XK} {x : Str} {p pos : Pos} {kws : List Keyword} {tf : TE} {tk : TA} {g : List Value → List Value → List Value} {gV : List V → List V → List V}
    (hf : PE X (.Name x p) tf) (c : CallO X.K C g0) (F : FnOk X.prog X.w X.K X.mg X.base CX k g0 fd ps sp) (hr : Room k X.A) (hb : KBn X.K fd ps 1 ks g gV) (hx : Passes CX X E) (hkw : PK X kws tk)
    (hall : (backToKw pos (keywordEach kws X.env)).all (·.1.isSome) = true := by rfl) (hks : (backToKw pos (keywordEach kws X.env)).filterMap (·.1) = ks := by rfl)
    (hpl : ((backTo pos (starEach [] X.env)).any (·.1) || (backToKw pos (keywordEach kws X.env)).any (·.1.isNone)) = false := by rfl) :
    PE X (.Call (.Name x p) [] kws pos) (tCallOK X C ks.length sp gV E tf tk) := by
  refine ⟨fun pins s σ H Q I h => ?_⟩
  refine wpAny_Call_Name_kw (thn (hf.run pins s σ H _ I h) fun u s1 ⟨y, H1, I1, ry, a, ey, q⟩ => ?_)
  subst ey
  obtain rfl : u = Value.ref a := ry
  refine callOK_of hpl (evalArgs_kw2_nil hall (thn (hkw.run pos pins s1 σ H1 _ I1 q) fun ws s2 ⟨zs, H2, I2, rz, l2, hi, q2⟩ => ?_))
  obtain ⟨ox, od, J, hd⟩ := insC_at I2 hi
  refine ⟨⟨C, ox, od, J, hd⟩, ?_⟩
  rw [hks]
  have r1 : Vals [V.ref a] [Value.ref a] := .cons rfl .nil
  have r2 := hb.rel r1 rz
  refine wpAny_call (PySem.W.kco_code I2.kIn J hd c.at_ c.fn c.fi (codeAny_mono (F.run X.A X.stack s2 H2 ⟨[.ref a], ks.zip ws⟩ (g [.ref a] ws) (gV [.ref a] zs) Q E hr I2.env0 (hb.to s2 [.ref a] ws I2.kIn rfl (rz.length.symm.trans l2)) r2 q2) fun r s' hq => ?_))
  cases r with
  | error e => exact hx pins σ H2 s2 e s' I2 hq
  | ok fl =>
    cases fl with
    | ret u => exact I2.after hq
    | next => exact False.elim hq
    | brk => exact False.elim hq
    | cont => exact False.elim hq
/-- __call__(value = v, key = k) -/
theorem kb_vk {K : PySem.W.Frag} {qual : Str} {st : Stmt} {f : Addr} {fd : FuncData} (F : Fun K "__call__" qual st f fd)
    (h : ∀ (kV doc pm : Value) (an : Option Addr) (cdv ct : Value) (a v k : Value), bindArgs (PySem.W.fnOf "__call__" qual (defArgs st) (defBody st) (defScope st) .none kV doc pm an cdv ct) ⟨[a], [("value", v), ("key", k)]⟩ = pure [(("self" : Str), a), (("key" : Str), k), (("value" : Str), v)]) :
    KBn K fd ["self", "key", "value"] 1 ["value", "key"] (fun us ws => us ++ ws.reverse) (fun vs zs => vs ++ zs.reverse) := by
  obtain ⟨oc, od, kV, doc, pm, an, cdv, ct, osl, rfl, lk, hcd⟩ := F.ex
  refine ⟨fun s us ws _ hu hw => ?_, fun {vs us zs ws} r1 r2 => ?_⟩
  · match us, ws, hu, hw with
    | [a], [v, k], _, _ => exact .of_eq (h kV doc pm an cdv ct a v k)
  · have rev : ∀ {zs : List V} {ws : List Value}, Vals zs ws → Vals zs.reverse ws.reverse := by
      intro zs ws r
      induction r with
      | nil => exact .nil
      | cons a _ ih =>
        rw [List.reverse_cons, List.reverse_cons]
        exact ih.append (.cons a .nil)
    exact r1.append (rev r2)
end G

set_option Elab.async false
set_option linter.all false
set_option maxRecDepth 100000
set_option maxHeartbeats 2000000
/-! P8: how Between's arguments are bound. -/
namespace G
open PySem PySem.Spec PyProof.Rows L2 NdefX StX
section
variable {K : PySem.W.Frag} {f cda cc D : Addr} {fd : FuncData} {t1 t2 : Tok}
/-- the defaults of low and high -/
structure BtwDef (K : PySem.W.Frag) (D : Addr) : Prop where
  lo : ∃ t, PySem.W.nsIn K D "low" = some (some (.int (-999) t))
  hi : ∃ t, PySem.W.nsIn K D "high" = some (some (.int 999 t))
abbrev psBtw : List Str := ["self", "field", "low", "high"]
theorem btw_b1 (F : FunX K "__init__" "Between.__init__" sBtwInit f cda cc (.ref D) fd) (d : BtwDef K D) : ∃ ds : List Value, Binds K fd psBtw ds ∧ Vals [V.int (-999), V.int 999] ds := by
  obtain ⟨oc, od, doc, pm, an, ct, osl, rfl, lk, hcd⟩ := F.ex
  obtain ⟨tl, hl⟩ := d.lo
  obtain ⟨th, hh⟩ := d.hi
  refine ⟨[.int (-999) tl, .int 999 th], fun s us X hlen => ?_, .cons ⟨tl, rfl⟩ (.cons ⟨th, rfl⟩ .nil)⟩
  have h2 : us.length = 2 := by
    rw [List.length_append] at hlen
    have h3 : us.length + 2 = 4 := hlen
    omega
  match us, h2 with
  | [a, b], _ =>
    refine BindsTo.of_looks fun M => KwChain.looks (l := [("low", .int (-999) tl), ("high", .int 999 th)]) (D := D) X (fun q hq => ?_) ⟨_, _, _, _, _, _, rfl, rfl, _, _, _, _, _, _, rfl, rfl, rfl⟩
    rcases List.mem_cons.mp hq with rfl | hq
    · exact hl
    · rcases List.mem_cons.mp hq with rfl | hq
      · exact hh
      · cases hq
theorem btw_b2 (F : FunX K "__init__" "Between.__init__" sBtwInit f cda cc (.ref D) fd) (d : BtwDef K D) : ∃ t, KBn K fd psBtw 2 ["low"] (fun us ws => us ++ (ws ++ [.int 999 t])) (fun vs zs => vs ++ (zs ++ [.int 999])) := by
  obtain ⟨oc, od, doc, pm, an, ct, osl, rfl, lk, hcd⟩ := F.ex
  obtain ⟨th, hh⟩ := d.hi
  refine ⟨th, fun s us ws X h1 h2 => ?_, fun r1 r2 => r1.append (r2.append (.cons ⟨th, rfl⟩ .nil))⟩
  match us, ws, h1, h2 with
  | [a, b], [c], _, _ =>
    refine BindsTo.of_looks fun M => KwChain.looks (l := [("high", .int 999 th)]) (D := D) X (fun q hq => ?_) ⟨_, _, _, _, _, _, rfl, rfl, rfl⟩
    rcases List.mem_cons.mp hq with rfl | hq
    · exact hh
    · cases hq
theorem btw_b3 (F : FunX K "__init__" "Between.__init__" sBtwInit f cda cc (.ref D) fd) (d : BtwDef K D) : ∃ t, KBn K fd psBtw 1 ["high", "field"] (fun us ws => us ++ (ws.drop 1 ++ ([.int (-999) t] ++ ws.take 1))) (fun vs zs => vs ++ (zs.drop 1 ++ ([.int (-999)] ++ zs.take 1))) := by
  obtain ⟨oc, od, doc, pm, an, ct, osl, rfl, lk, hcd⟩ := F.ex
  obtain ⟨tl, hl⟩ := d.lo
  refine ⟨tl, fun s us ws X h1 h2 => ?_, fun r1 r2 => r1.append ((r2.drop 1).append ((show Vals [V.int (-999)] [Value.int (-999) tl] from .cons ⟨tl, rfl⟩ .nil).append (r2.take 1)))⟩
  match us, ws, h1, h2 with
  | [a], [c, b], _, _ =>
    refine BindsTo.of_looks fun M => KwChain.looks (l := [("low", .int (-999) tl)]) (D := D) X (fun q hq => ?_) ⟨_, _, _, _, _, _, rfl, rfl, rfl⟩
    rcases List.mem_cons.mp hq with rfl | hq
    · exact hl
    · cases hq
theorem btw_b4 (F : FunX K "__init__" "Between.__init__" sBtwInit f cda cc (.ref D) fd) : KBn K fd psBtw 2 ["high", "low"] (fun us ws => us ++ (ws.drop 1 ++ ws.take 1)) (fun vs zs => vs ++ (zs.drop 1 ++ zs.take 1)) := by
  obtain ⟨oc, od, doc, pm, an, ct, osl, rfl, lk, hcd⟩ := F.ex
  refine ⟨fun s us ws X h1 h2 => ?_, fun r1 r2 => r1.append ((r2.drop 1).append (r2.take 1))⟩
  match us, ws, h1, h2 with
  | [a, b], [c, d], _, _ => exact .of_eq rfl
end
end G

set_option Elab.async false
set_option linter.all false
set_option maxRecDepth 100000
set_option maxHeartbeats 4000000
/-! P9: a Named of none to eight names. -/
namespace G
open PySem PySem.Spec PyProof.Rows L2 NdefX StX
theorem scNamed : FnScope ["_law_some", "_law_many", "_law_rest", "_law_one", "_law_two", "_law_three", "_law_four", "_law_five", "_law_six", "_law_seven", "_law_eight"] ["_law_some"] (defScope sNamed) := ⟨rfl, rfl, rfl, by decide +kernel, rfl, by decide +kernel, by decide +kernel⟩
/-- C() by a positional promise -/
theorem pe_makeR0 {X : Cx} {CX : CXT} {k : Nat} {f C : Addr} {sp : Sp} {E : XK} {x : Str} {p pos : Pos} (M : Mk X.K C f) (F : FnR X.prog X.w X.K X.mg X.base CX k f sp) (hr : Room (k + 1) X.A) (hg : Gl X x) (hm : X.mg x = some (.ref C)) (hx : Passes CX X E) (hdb : (x == ("__debug__" : Str)) = false := by decide) :
    PE X (.Call (.Name x p) [] [] pos) (tMakeR C sp E tNil) := by
  refine ⟨fun pins s σ H Q I h => ?_⟩
  refine wpAny_Call_Name_kw (ld_glob I hg hm ?_ hdb)
  exact PySem.W.callWith_K0 I.kIn M.kp (run_makeR (us := []) M F hr hx I .nil h)
abbrev spNamR (C : Addr) : Sp := fun vs H Q E => ∃ ws rest, vs = ws ++ rest ∧ ws.length = ["self"].length ∧ rest.length ≤ sizeLine ∧ ∀ p, H p = Option.none → spNam C (ws ++ [V.ref p]) (upd H p (.tup rest)) Q E
/-- a Named is made -/
theorem nam_made {C : Addr} {H1 : Hp} {Q : VK} {E : XK} {zs : List Str} (h8 : zs.length ≤ 8) (hz : ∀ z ∈ zs, NameZ z) (q : ∀ (a t : Addr) (H' : Hp), NamAt C H' a t zs → Same H1 H' → Q (.ref a) H') :
    ∀ x dx, H1 x = Option.none → H1 dx = Option.none → dx ≠ x → spNamR C (V.ref x :: zs.map V.str) (upd (upd H1 dx (.own x)) x (.ins C dx [])) (fun v H2 => v = .non ∧ Q (.ref x) H2) E := by
  intro x dx hx hdx hne
  refine ⟨[V.ref x], zs.map V.str, rfl, rfl, by rw [List.length_map]; exact small_size (by omega), fun p hp => ?_⟩
  have npx : p ≠ x := fun z => by
    rw [z, upd_same] at hp
    cases hp
  rw [upd_ne npx] at hp
  have npd : p ≠ dx := fun z => by
    rw [z, upd_same] at hp
    cases hp
  rw [upd_ne npd] at hp
  refine ⟨x, dx, p, zs, rfl, ?_, upd_same, h8, hz, fun H' s' => ⟨rfl, ?_⟩⟩
  · rw [upd_ne npx.symm, upd_same]
  · refine q x p _ ⟨dx, upd_same, ?_⟩ fun c o e => ?_
    · rw [upd_ne npx]
      exact s' p _ ((upd_ne npx).trans upd_same)
    · have n1 := ne_of_none e hx
      rw [upd_ne n1]
      refine s' c o ?_
      rw [upd_ne n1, upd_ne (ne_of_none e hp), upd_ne n1, upd_ne (ne_of_none e hdx)]
      exact e
def spMkNam (K : PySem.W.Frag) (C : Addr) : Sp := fun vs H Q _ => ∃ (p : Addr) (zs : List Str), vs = [.ref p] ∧ (SqL K H p (zs.map V.str) ∨ SqT K H p (zs.map V.str)) ∧ zs.length ≤ 8 ∧ (∀ z ∈ zs, NameZ z) ∧ ∀ (a t : Addr) (H' : Hp), NamAt C H' a t zs → Same H H' → Q (.ref a) H'
section
variable {P : Program} {w : World} {K : PySem.W.Frag} {mg : Str → Option Value} {base : Heap}
theorem ok_named {f C fI : Addr} {fd : FuncData} (F : Fun K "_law_named" "_law_named" sNamed f fd) (M : Mk K C fI) (G : FnR P w K mg base CX0 3 fI (spNamR C)) (gC : mg "Named" = some (.ref C)) (ml : mg "len" = none) (mL : mg "list" = none) :
    FnOk P w K mg base CX0 5 f fd ["_law_some"] (spMkNam K C) := by
  refine F.ok scNamed (fun vs H Q E h => ?_) (fun cdv A outer s H vs Q E hr h => ?_)
  · obtain ⟨p, zs, rfl, _⟩ := h
    rfl
  · obtain ⟨p, zs, rfl, hS, h8, hz, q⟩ := h
    refine ⟨_, pss_cons (ps_par (i := 1) (j := 2) (by rfl) scNamed.nd rfl rfl (by decide) rfl rfl (pa_cons (pe_callB call_len_seq (by rfl) ml PySem.boot_len (pa_cons (pv 0) pa_nil))
        (pa_cons (pe_op op_cat (pe_callTy call_list_of (by rfl) mL (by decide +kernel) (pa_cons (pv 0) pa_nil)) (pe_op op_rep (pe_lst (pa_cons pe_non pa_nil)) pe_int)) pa_nil)) (by rfl))
      (pss_cons (ps_asg (pe_slice sl_list (pv 2) po_none (po_some pe_int)) (pg_unl (by rfl) (pgs_cons (pg_name (i := 3) scNamed.nd rfl (.inl rfl)) (pgs_cons (pg_name (i := 4) scNamed.nd rfl (.inl rfl)) (pgs_cons (pg_name (i := 5) scNamed.nd rfl (.inl rfl)) (pgs_cons (pg_name (i := 6) scNamed.nd rfl (.inl rfl)) (pgs_cons (pg_name (i := 7) scNamed.nd rfl (.inl rfl)) (pgs_cons (pg_name (i := 8) scNamed.nd rfl (.inl rfl)) (pgs_cons (pg_name (i := 9) scNamed.nd rfl (.inl rfl)) (pgs_cons (pg_name (i := 10) scNamed.nd rfl (.inl rfl)) pgs_nil))))))))))
      (pss_cons (ps_if (pt_cmpR op_eq (pv 1) pe_int (nomark _)) (pss_one (ps_ret (pe_makeR0 M G hr rfl gC pass0))) pss_nil)
      (pss_cons (ps_if (pt_cmpR op_eq (pv 1) pe_int (nomark _)) (pss_one (ps_ret (pe_makeR M G hr rfl gC pass0 (pa_cons (pv 3) pa_nil)))) pss_nil)
      (pss_cons (ps_if (pt_cmpR op_eq (pv 1) pe_int (nomark _)) (pss_one (ps_ret (pe_makeR M G hr rfl gC pass0 (pa_cons (pv 3) (pa_cons (pv 4) pa_nil))))) pss_nil)
      (pss_cons (ps_if (pt_cmpR op_eq (pv 1) pe_int (nomark _)) (pss_one (ps_ret (pe_makeR M G hr rfl gC pass0 (pa_cons (pv 3) (pa_cons (pv 4) (pa_cons (pv 5) pa_nil)))))) pss_nil)
      (pss_cons (ps_if (pt_cmpR op_eq (pv 1) pe_int (nomark _)) (pss_one (ps_ret (pe_makeR M G hr rfl gC pass0 (pa_cons (pv 3) (pa_cons (pv 4) (pa_cons (pv 5) (pa_cons (pv 6) pa_nil))))))) pss_nil)
      (pss_cons (ps_if (pt_cmpR op_eq (pv 1) pe_int (nomark _)) (pss_one (ps_ret (pe_makeR M G hr rfl gC pass0 (pa_cons (pv 3) (pa_cons (pv 4) (pa_cons (pv 5) (pa_cons (pv 6) (pa_cons (pv 7) pa_nil)))))))) pss_nil)
      (pss_cons (ps_if (pt_cmpR op_eq (pv 1) pe_int (nomark _)) (pss_one (ps_ret (pe_makeR M G hr rfl gC pass0 (pa_cons (pv 3) (pa_cons (pv 4) (pa_cons (pv 5) (pa_cons (pv 6) (pa_cons (pv 7) (pa_cons (pv 8) pa_nil))))))))) pss_nil)
      (pss_cons (ps_if (pt_cmpR op_eq (pv 1) pe_int (nomark _)) (pss_one (ps_ret (pe_makeR M G hr rfl gC pass0 (pa_cons (pv 3) (pa_cons (pv 4) (pa_cons (pv 5) (pa_cons (pv 6) (pa_cons (pv 7) (pa_cons (pv 8) (pa_cons (pv 9) pa_nil)))))))))) pss_nil)
      (pss_cons (ps_if (pt_cmpR op_eq (pv 1) pe_int (nomark _)) (pss_one (ps_ret (pe_makeR M G hr rfl gC pass0 (pa_cons (pv 3) (pa_cons (pv 4) (pa_cons (pv 5) (pa_cons (pv 6) (pa_cons (pv 7) (pa_cons (pv 8) (pa_cons (pv 9) (pa_cons (pv 10) pa_nil))))))))))) pss_nil)
      (pss_one ps_never))))))))))), ?_⟩
    refine ⟨_, rfl, p, _, rfl, hS, _, rfl, p, _, rfl, hS, fun l hl => ⟨by decide, fun u hu => ?_⟩⟩
    have nlu : l ≠ u := fun z => by
      rw [z, upd_same] at hu
      cases hu
    refine ⟨_, _, _, rfl, rfl, upd_same, by decide, by decide, by decide, fun v hv => ?_⟩
    have nuv : u ≠ v := fun z => by
      rw [z, upd_same] at hv
      cases hv
    have nlv : l ≠ v := fun z => by
      rw [← z, upd_ne nlu, upd_same] at hv
      cases hv
    have l9 : ((List.replicate (9 : Int).toNat [V.non]).flatten).length = 9 := rfl
    refine ⟨l, v, zs.map V.str, (List.replicate (9 : Int).toNat [V.non]).flatten, rfl, rfl, ?_, upd_same, ?_, fun p2 hp2 => ?_⟩
    · rw [upd_ne nlv, upd_ne nlu, upd_same]
    · rw [l9, List.length_map]
      exact small_size (by omega)
    refine ⟨_, _, rfl, ?_⟩
    refine ⟨_, rfl, _, rfl, p2, _, rfl, .of upd_same, fun p3 hp3 => ?_⟩
    rw [show ((8 : Int)) = ((8 : Nat) : Int) from rfl, cutV_first _ 8 (by rw [List.length_append, l9]; omega)]
    have same : Same H (upd (upd (upd (upd (upd H l (.lst (zs.map V.str))) u (.lst [.non])) v (.lst (List.replicate (9 : Int).toNat [V.non]).flatten)) p2 (.lst (zs.map V.str ++ (List.replicate (9 : Int).toNat [V.non]).flatten))) p3 (.lst ((zs.map V.str ++ (List.replicate (9 : Int).toNat [V.non]).flatten).take 8))) := ((((Same.new hl).trans (Same.new hu)).trans (Same.new hv)).trans (Same.new hp2)).trans (Same.new hp3)
    have mk := nam_made (C := C) (H1 := upd (upd (upd (upd (upd H l (.lst (zs.map V.str))) u (.lst [.non])) v (.lst (List.replicate (9 : Int).toNat [V.non]).flatten)) p2 (.lst (zs.map V.str ++ (List.replicate (9 : Int).toNat [V.non]).flatten))) p3 (.lst ((zs.map V.str ++ (List.replicate (9 : Int).toNat [V.non]).flatten).take 8))) (Q := Q) (E := E0) h8 hz fun a t H' n s => q a t H' n (same.trans s)
    clear same
    match zs, h8, hz, hS, q, mk with
    | [], h8, hz, hS, q, mk =>
      refine ⟨p3, _, rfl, .of upd_same, rfl, _, _, rfl, _, _, rfl, _, _, rfl, _, _, rfl, _, _, rfl, _, _, rfl, _, _, rfl, _, _, rfl, rfl, ?_⟩
      refine ⟨_, rfl, rfl, _, rfl, iteT ?_⟩
      exact mk
    | [a0], h8, hz, hS, q, mk =>
      refine ⟨p3, _, rfl, .of upd_same, rfl, _, _, rfl, _, _, rfl, _, _, rfl, _, _, rfl, _, _, rfl, _, _, rfl, _, _, rfl, _, _, rfl, rfl, ?_⟩
      refine ⟨_, rfl, rfl, _, rfl, iteF ?_⟩
      refine ⟨_, rfl, rfl, _, rfl, iteT ?_⟩
      exact ⟨_, rfl, mk⟩
    | [a0, a1], h8, hz, hS, q, mk =>
      refine ⟨p3, _, rfl, .of upd_same, rfl, _, _, rfl, _, _, rfl, _, _, rfl, _, _, rfl, _, _, rfl, _, _, rfl, _, _, rfl, _, _, rfl, rfl, ?_⟩
      refine ⟨_, rfl, rfl, _, rfl, iteF ?_⟩
      refine ⟨_, rfl, rfl, _, rfl, iteF ?_⟩
      refine ⟨_, rfl, rfl, _, rfl, iteT ?_⟩
      exact ⟨_, rfl, _, rfl, mk⟩
    | [a0, a1, a2], h8, hz, hS, q, mk =>
      refine ⟨p3, _, rfl, .of upd_same, rfl, _, _, rfl, _, _, rfl, _, _, rfl, _, _, rfl, _, _, rfl, _, _, rfl, _, _, rfl, _, _, rfl, rfl, ?_⟩
      refine ⟨_, rfl, rfl, _, rfl, iteF ?_⟩
      refine ⟨_, rfl, rfl, _, rfl, iteF ?_⟩
      refine ⟨_, rfl, rfl, _, rfl, iteF ?_⟩
      refine ⟨_, rfl, rfl, _, rfl, iteT ?_⟩
      exact ⟨_, rfl, _, rfl, _, rfl, mk⟩
    | [a0, a1, a2, a3], h8, hz, hS, q, mk =>
      refine ⟨p3, _, rfl, .of upd_same, rfl, _, _, rfl, _, _, rfl, _, _, rfl, _, _, rfl, _, _, rfl, _, _, rfl, _, _, rfl, _, _, rfl, rfl, ?_⟩
      refine ⟨_, rfl, rfl, _, rfl, iteF ?_⟩
      refine ⟨_, rfl, rfl, _, rfl, iteF ?_⟩
      refine ⟨_, rfl, rfl, _, rfl, iteF ?_⟩
      refine ⟨_, rfl, rfl, _, rfl, iteF ?_⟩
      refine ⟨_, rfl, rfl, _, rfl, iteT ?_⟩
      exact ⟨_, rfl, _, rfl, _, rfl, _, rfl, mk⟩
    | [a0, a1, a2, a3, a4], h8, hz, hS, q, mk =>
      refine ⟨p3, _, rfl, .of upd_same, rfl, _, _, rfl, _, _, rfl, _, _, rfl, _, _, rfl, _, _, rfl, _, _, rfl, _, _, rfl, _, _, rfl, rfl, ?_⟩
      refine ⟨_, rfl, rfl, _, rfl, iteF ?_⟩
      refine ⟨_, rfl, rfl, _, rfl, iteF ?_⟩
      refine ⟨_, rfl, rfl, _, rfl, iteF ?_⟩
      refine ⟨_, rfl, rfl, _, rfl, iteF ?_⟩
      refine ⟨_, rfl, rfl, _, rfl, iteF ?_⟩
      refine ⟨_, rfl, rfl, _, rfl, iteT ?_⟩
      exact ⟨_, rfl, _, rfl, _, rfl, _, rfl, _, rfl, mk⟩
    | [a0, a1, a2, a3, a4, a5], h8, hz, hS, q, mk =>
      refine ⟨p3, _, rfl, .of upd_same, rfl, _, _, rfl, _, _, rfl, _, _, rfl, _, _, rfl, _, _, rfl, _, _, rfl, _, _, rfl, _, _, rfl, rfl, ?_⟩
      refine ⟨_, rfl, rfl, _, rfl, iteF ?_⟩
      refine ⟨_, rfl, rfl, _, rfl, iteF ?_⟩
      refine ⟨_, rfl, rfl, _, rfl, iteF ?_⟩
      refine ⟨_, rfl, rfl, _, rfl, iteF ?_⟩
      refine ⟨_, rfl, rfl, _, rfl, iteF ?_⟩
      refine ⟨_, rfl, rfl, _, rfl, iteF ?_⟩
      refine ⟨_, rfl, rfl, _, rfl, iteT ?_⟩
      exact ⟨_, rfl, _, rfl, _, rfl, _, rfl, _, rfl, _, rfl, mk⟩
    | [a0, a1, a2, a3, a4, a5, a6], h8, hz, hS, q, mk =>
      refine ⟨p3, _, rfl, .of upd_same, rfl, _, _, rfl, _, _, rfl, _, _, rfl, _, _, rfl, _, _, rfl, _, _, rfl, _, _, rfl, _, _, rfl, rfl, ?_⟩
      refine ⟨_, rfl, rfl, _, rfl, iteF ?_⟩
      refine ⟨_, rfl, rfl, _, rfl, iteF ?_⟩
      refine ⟨_, rfl, rfl, _, rfl, iteF ?_⟩
      refine ⟨_, rfl, rfl, _, rfl, iteF ?_⟩
      refine ⟨_, rfl, rfl, _, rfl, iteF ?_⟩
      refine ⟨_, rfl, rfl, _, rfl, iteF ?_⟩
      refine ⟨_, rfl, rfl, _, rfl, iteF ?_⟩
      refine ⟨_, rfl, rfl, _, rfl, iteT ?_⟩
      exact ⟨_, rfl, _, rfl, _, rfl, _, rfl, _, rfl, _, rfl, _, rfl, mk⟩
    | [a0, a1, a2, a3, a4, a5, a6, a7], h8, hz, hS, q, mk =>
      refine ⟨p3, _, rfl, .of upd_same, rfl, _, _, rfl, _, _, rfl, _, _, rfl, _, _, rfl, _, _, rfl, _, _, rfl, _, _, rfl, _, _, rfl, rfl, ?_⟩
      refine ⟨_, rfl, rfl, _, rfl, iteF ?_⟩
      refine ⟨_, rfl, rfl, _, rfl, iteF ?_⟩
      refine ⟨_, rfl, rfl, _, rfl, iteF ?_⟩
      refine ⟨_, rfl, rfl, _, rfl, iteF ?_⟩
      refine ⟨_, rfl, rfl, _, rfl, iteF ?_⟩
      refine ⟨_, rfl, rfl, _, rfl, iteF ?_⟩
      refine ⟨_, rfl, rfl, _, rfl, iteF ?_⟩
      refine ⟨_, rfl, rfl, _, rfl, iteF ?_⟩
      refine ⟨_, rfl, rfl, _, rfl, iteT ?_⟩
      exact ⟨_, rfl, _, rfl, _, rfl, _, rfl, _, rfl, _, rfl, _, rfl, _, rfl, mk⟩
    | _ :: _ :: _ :: _ :: _ :: _ :: _ :: _ :: _ :: _, h8, _, _, _, _ => exact absurd h8 (by simp)
end
end G

set_option Elab.async false
set_option linter.all false
set_option maxRecDepth 100000
set_option maxHeartbeats 2000000
/-! C1: conditions as a plain tree; where one stands in the heap, as an object and as the law's tuple. -/
namespace G
open PySem PySem.Spec PyProof.Rows L2 NdefX StX
inductive Md where
  | btw (z : Str) (lo hi : Int)
  | nam (zs : List Str)
  | neg (m : Md)
  | both (a b : Md)
  | eith (a b : Md)
namespace Md
def leaves : Md → Nat
  | .btw _ _ _ => 1
  | .nam _ => 1
  | .neg m => m.leaves
  | .both a b => a.leaves + b.leaves
  | .eith a b => a.leaves + b.leaves
def depth : Md → Nat
  | .btw _ _ _ => 1
  | .nam _ => 1
  | .neg m => m.depth + 1
  | .both a b => max a.depth b.depth + 1
  | .eith a b => max a.depth b.depth + 1
def names : Md → Nat
  | .btw _ _ _ => 0
  | .nam zs => zs.length
  | .neg m => m.names
  | .both a b => a.names + b.names
  | .eith a b => a.names + b.names
def size : Md → Nat
  | .btw _ _ _ => 1
  | .nam _ => 1
  | .neg m => m.size + 1
  | .both a b => a.size + b.size + 1
  | .eith a b => a.size + b.size + 1
def tag : Md → Nat
  | .btw _ _ _ => 0
  | .nam _ => 1
  | .neg _ => 2
  | .both _ _ => 3
  | .eith _ _ => 4
def holds (y : Str) (kvs : List (Key × V)) : Md → Bool
  | .btw z lo hi => btwHolds z lo hi kvs
  | .nam zs => inV (.str y) (zs.map V.str)
  | .neg m => !(m.holds y kvs)
  | .both a b => a.holds y kvs && b.holds y kvs
  | .eith a b => a.holds y kvs || b.holds y kvs
/-- names are names, bounds are bounds -/
def good : Md → Prop
  | .btw z lo hi => NameZ z ∧ -999 ≤ lo ∧ lo ≤ hi ∧ hi ≤ 999
  | .nam zs => ∀ z ∈ zs, NameZ z
  | .neg m => m.good
  | .both a b => a.good ∧ b.good
  | .eith a b => a.good ∧ b.good
theorem depth_pos : ∀ m : Md, 1 ≤ m.depth
  | .btw _ _ _ => Nat.le_refl _
  | .nam _ => Nat.le_refl _
  | .neg m => Nat.le_add_left _ _
  | .both a b => Nat.le_add_left _ _
  | .eith a b => Nat.le_add_left _ _
theorem size_le : ∀ m : Md, m.size < 2 ^ m.depth
  | .btw _ _ _ => (by decide : 1 < 2 ^ 1)
  | .nam _ => (by decide : 1 < 2 ^ 1)
  | .neg m => by
    have := size_le m
    show m.size + 1 < 2 ^ (m.depth + 1)
    rw [Nat.pow_succ]
    omega
  | .both a b => by
    have h1 := size_le a
    have h2 := size_le b
    have e1 : 2 ^ a.depth ≤ 2 ^ max a.depth b.depth := Nat.pow_le_pow_right (by decide) (Nat.le_max_left _ _)
    have e2 : 2 ^ b.depth ≤ 2 ^ max a.depth b.depth := Nat.pow_le_pow_right (by decide) (Nat.le_max_right _ _)
    show a.size + b.size + 1 < 2 ^ (max a.depth b.depth + 1)
    rw [Nat.pow_succ]
    omega
  | .eith a b => by
    have h1 := size_le a
    have h2 := size_le b
    have e1 : 2 ^ a.depth ≤ 2 ^ max a.depth b.depth := Nat.pow_le_pow_right (by decide) (Nat.le_max_left _ _)
    have e2 : 2 ^ b.depth ≤ 2 ^ max a.depth b.depth := Nat.pow_le_pow_right (by decide) (Nat.le_max_right _ _)
    show a.size + b.size + 1 < 2 ^ (max a.depth b.depth + 1)
    rw [Nat.pow_succ]
    omega
theorem size_31 {m : Md} (h : m.depth ≤ 5) : m.size ≤ 31 := by
  have h1 := m.size_le
  have h2 : 2 ^ m.depth ≤ 2 ^ 5 := Nat.pow_le_pow_right (by decide) h
  have h3 : (2 : Nat) ^ 5 = 32 := by decide
  omega
end Md
def Md.cls (c : Cs) : Md → Addr
  | .btw _ _ _ => c.bt
  | .nam _ => c.nm
  | .neg _ => c.nt
  | .both _ _ => c.bo
  | .eith _ _ => c.ei
def condFs (l h n : Nat) : List (Str × V) := [("leaf_count", .int (l : Nat)), ("height", .int (h : Nat)), ("name_count", .int (n : Nat))]
def negFs (l h n : Nat) (p : Addr) : List (Str × V) := [("leaf_count", .int (l : Nat)), ("height", .int (h : Nat)), ("name_count", .int (n : Nat)), ("inner", .ref p)]
def pairFs (l h n : Nat) (p q : Addr) : List (Str × V) := [("leaf_count", .int (l : Nat)), ("height", .int (h : Nat)), ("name_count", .int (n : Nat)), ("first", .ref p), ("second", .ref q)]
/-- the condition m stands at a -/
def CoAt (c : Cs) (H : Hp) : Addr → Md → Prop
  | a, .btw z lo hi => BtwAt c.bt H a z lo hi
  | a, .nam zs => ∃ t, NamAt c.nm H a t zs
  | a, .neg m => ∃ p dx, H a = some (.ins c.nt dx (negFs m.leaves (m.depth + 1) m.names p)) ∧ CoAt c H p m
  | a, .both m n => ∃ p q dx, H a = some (.ins c.bo dx (pairFs (m.leaves + n.leaves) (max m.depth n.depth + 1) (m.names + n.names) p q)) ∧ CoAt c H p m ∧ CoAt c H q n
  | a, .eith m n => ∃ p q dx, H a = some (.ins c.ei dx (pairFs (m.leaves + n.leaves) (max m.depth n.depth + 1) (m.names + n.names) p q)) ∧ CoAt c H p m ∧ CoAt c H q n
/-- the law's tuple of m stands at t -/
def MdAt (H : Hp) : Addr → Md → Prop
  | t, .btw z lo hi => H t = some (.tup [.str "between", .str z, .int lo, .int hi])
  | t, .nam zs => H t = some (.tup (.str "named" :: zs.map V.str))
  | t, .neg m => ∃ u, H t = some (.tup [.str "not", .ref u]) ∧ MdAt H u m
  | t, .both m n => ∃ u v, H t = some (.tup [.str "both", .ref u, .ref v]) ∧ MdAt H u m ∧ MdAt H v n
  | t, .eith m n => ∃ u v, H t = some (.tup [.str "either", .ref u, .ref v]) ∧ MdAt H u m ∧ MdAt H v n
/-- what never changes -/
def still : HO → Bool
  | .ins _ _ _ => true
  | .tup _ => true
  | _ => false
def SK (H H' : Hp) : Prop := ∀ p o, H p = some o → still o = true → H' p = some o
theorem SK.of_same {H H' : Hp} (s : Same H H') : SK H H' := fun p o e _ => s p o e
theorem SK.trans {H H1 H2 : Hp} (a : SK H H1) (b : SK H1 H2) : SK H H2 := fun p o e z => b p o (a p o e z) z
theorem SK.of_but {H H' : Hp} {b : Addr} {n : Nat} (B : BoxAt H b n) (k : But b H H') : SK H H' := fun p o e z => k p o (fun q => by
  obtain ⟨_, _, _, eb, _⟩ := B
  rw [q, eb] at e
  rw [← Option.some.inj e] at z
  cases z) e
theorem CoAt.sk {c : Cs} {H H' : Hp} (s : SK H H') : ∀ {m : Md} {a : Addr}, CoAt c H a m → CoAt c H' a m
  | .btw z lo hi, a, ⟨dx, e⟩ => ⟨dx, s _ _ e rfl⟩
  | .nam zs, a, ⟨t, dx, e1, e2⟩ => ⟨t, dx, s _ _ e1 rfl, s _ _ e2 rfl⟩
  | .neg m, a, ⟨p, dx, e, h⟩ => ⟨p, dx, s _ _ e rfl, CoAt.sk s h⟩
  | .both m n, a, ⟨p, q, dx, e, h1, h2⟩ => ⟨p, q, dx, s _ _ e rfl, CoAt.sk s h1, CoAt.sk s h2⟩
  | .eith m n, a, ⟨p, q, dx, e, h1, h2⟩ => ⟨p, q, dx, s _ _ e rfl, CoAt.sk s h1, CoAt.sk s h2⟩
theorem CoAt.same {c : Cs} {H H' : Hp} {m : Md} {a : Addr} (h : CoAt c H a m) (s : Same H H') : CoAt c H' a m := h.sk (.of_same s)
theorem MdAt.sk {H H' : Hp} (s : SK H H') : ∀ {m : Md} {t : Addr}, MdAt H t m → MdAt H' t m
  | .btw z lo hi, t, e => s _ _ e rfl
  | .nam zs, t, e => s _ _ e rfl
  | .neg m, t, ⟨u, e, h⟩ => ⟨u, s _ _ e rfl, MdAt.sk s h⟩
  | .both m n, t, ⟨u, v, e, h1, h2⟩ => ⟨u, v, s _ _ e rfl, MdAt.sk s h1, MdAt.sk s h2⟩
  | .eith m n, t, ⟨u, v, e, h1, h2⟩ => ⟨u, v, s _ _ e rfl, MdAt.sk s h1, MdAt.sk s h2⟩
theorem MdAt.same {H H' : Hp} {m : Md} {t : Addr} (h : MdAt H t m) (s : Same H H') : MdAt H' t m := h.sk (.of_same s)
/-- what of the text a class of conditions has; D: the class Condition -/
structure CondC (K : PySem.W.Frag) (D C : Addr) : Prop where
  cl : Cls K C
  n1 : NoAttr K C "leaf_count"
  n2 : NoAttr K C "height"
  n3 : NoAttr K C "name_count"
  ha : PySem.W.findIn K (.ref C) "__class__" = some (some (.builtin "object.__class__"))
  hn : PySem.W.specialIn K (.builtin "object.__class__") "__get__" = some (some (.builtin "getset_descriptor.__get__"))
  htk : PySem.W.takesIn K (.builtin "object.__class__") = some true
  hm : PySem.W.mroIn K C (.type "object") = some true
  kit : PySem.W.kitOne K (.ref C) (.ref D) = some true
structure CsOk (K : PySem.W.Frag) (D : Addr) (c : Cs) : Prop where
  bt : CondC K D c.bt
  nm : CondC K D c.nm
  nt : CondC K D c.nt
  bo : CondC K D c.bo
  ei : CondC K D c.ei
theorem CsOk.of {K : PySem.W.Frag} {D : Addr} {c : Cs} (o : CsOk K D c) : ∀ m : Md, CondC K D (m.cls c)
  | .btw _ _ _ => o.bt
  | .nam _ => o.nm
  | .neg _ => o.nt
  | .both _ _ => o.bo
  | .eith _ _ => o.ei
theorem CoAt.get {c : Cs} {H : Hp} : ∀ {m : Md} {a : Addr}, CoAt c H a m → ∃ dx fs, H a = some (.ins (m.cls c) dx fs) ∧ fs.lookup ("leaf_count" : Str) = some (.int (m.leaves : Nat)) ∧ fs.lookup ("height" : Str) = some (.int (m.depth : Nat)) ∧
    fs.lookup ("name_count" : Str) = some (.int (m.names : Nat)) ∧ fs.lookup ("holds" : Str) = none ∧ fs.lookup ("leaves" : Str) = none ∧ fs.lookup ("depth" : Str) = none
  | .btw z lo hi, a, ⟨dx, e⟩ => ⟨dx, _, e, rfl, rfl, rfl, rfl, rfl, rfl⟩
  | .nam zs, a, ⟨t, dx, e, _⟩ => ⟨dx, _, e, rfl, rfl, rfl, rfl, rfl, rfl⟩
  | .neg m, a, ⟨p, dx, e, _⟩ => ⟨dx, _, e, rfl, rfl, rfl, rfl, rfl, rfl⟩
  | .both m n, a, ⟨p, q, dx, e, _, _⟩ => ⟨dx, _, e, rfl, rfl, rfl, rfl, rfl, rfl⟩
  | .eith m n, a, ⟨p, q, dx, e, _, _⟩ => ⟨dx, _, e, rfl, rfl, rfl, rfl, rfl, rfl⟩
end G

set_option Elab.async false
set_option linter.all false
set_option maxRecDepth 100000
set_option maxHeartbeats 2000000
/-! C2: Both, Either and Not made. -/
namespace G
open PySem PySem.Spec PyProof.Rows L2 NdefX StX
theorem scNeedCond : FnScope ["value"] ["value"] (defScope sNeedCond) := ⟨rfl, rfl, rfl, by decide +kernel, rfl, by decide +kernel, by decide +kernel⟩
theorem scSizes : FnScope ["one", "other", "leaf_count", "height"] ["one", "other"] (defScope sSizes) := ⟨rfl, rfl, rfl, by decide +kernel, rfl, by decide +kernel, by decide +kernel⟩
theorem scBoInit : NScope ["self", "one", "other", "__class__", "sizes"] ["self", "one", "other"] ["__class__"] (defScope (sBo 0)) := nscope_by (by decide +kernel)
theorem scEiInit : NScope ["self", "one", "other", "__class__", "sizes"] ["self", "one", "other"] ["__class__"] (defScope (sEi 0)) := nscope_by (by decide +kernel)
theorem scNtInit : NScope ["self", "one", "__class__"] ["self", "one"] ["__class__"] (defScope (sNt 0)) := nscope_by (by decide +kernel)
def spNeedCond (c : Cs) : Sp := fun vs H Q _ => ∃ (a : Addr) (m : Md), vs = [.ref a] ∧ CoAt c H a m ∧ Q .non H
def spSizes (c : Cs) : Sp := fun vs H Q _ => ∃ (a b : Addr) (m n : Md), vs = [.ref a, .ref b] ∧ CoAt c H a m ∧ CoAt c H b n ∧
  ∀ p, H p = none → Q (.ref p) (upd H p (.tup [.int ((m.leaves + n.leaves : Nat) : Int), .int ((max m.depth n.depth + 1 : Nat) : Int), .int ((m.names + n.names : Nat) : Int)]))
/-- Both or Either made, of the class at C -/
def spPair (c : Cs) (C : Addr) : Sp := fun vs H Q _ => ∃ (a dx p q : Addr) (m n : Md), vs = [.ref a, .ref p, .ref q] ∧ H a = some (.ins C dx []) ∧ CoAt c H p m ∧ CoAt c H q n ∧ m.leaves + n.leaves ≤ 6 ∧ max m.depth n.depth + 1 ≤ 5 ∧ m.names + n.names ≤ 8 ∧
  ∀ H', Same H H' → Q .non (upd H' a (.ins C dx (pairFs (m.leaves + n.leaves) (max m.depth n.depth + 1) (m.names + n.names) p q)))
def spNeg (c : Cs) (C : Addr) : Sp := fun vs H Q _ => ∃ (a dx p : Addr) (m : Md), vs = [.ref a, .ref p] ∧ H a = some (.ins C dx []) ∧ CoAt c H p m ∧ m.leaves ≤ 6 ∧ m.depth + 1 ≤ 5 ∧ m.names ≤ 8 ∧
  Q .non (upd H a (.ins C dx (negFs m.leaves (m.depth + 1) m.names p)))
section
variable {P : Program} {w : World} {K : PySem.W.Frag} {mg : Str → Option Value} {base : Heap} {c : Cs} {D : Addr}
theorem ok_needcond {f : Addr} {fd : FuncData} (F : Fun K "need_condition" "need_condition" sNeedCond f fd) (O : CsOk K D c) (gD : mg "Condition" = some (.ref D)) (mi : mg "isinstance" = none) : FnOk P w K mg base CX0 1 f fd ["value"] (spNeedCond c) := by
  refine F.ok scNeedCond (fun vs H Q E h => ?_) (fun cdv A outer s H vs Q E hr h => ?_)
  · obtain ⟨a, m, rfl, _⟩ := h
    rfl
  · obtain ⟨a, m, rfl, hc, q⟩ := h
    refine ⟨_, pss_one (ps_if (pt_not (pt_val (pe_callB call_isi (by rfl) mi (by decide +kernel) (pa_cons (pv 0) (pa_cons (pe_glob (v := .ref D) rfl gD rfl) pa_nil))))) (pss_one ps_never) pss_nil), ?_⟩
    obtain ⟨dx, fs, ha, _⟩ := hc.get
    have o := O.of m
    exact ⟨_, rfl, _, _, _, _, _, rfl, .own D, .base (.ins ha o.cl o.ha o.hn o.htk o.hm), o.kit, _, rfl, iteF q⟩
theorem ok_sizes {f fN : Addr} {fd fdN : FuncData} (F : Fun K "sizes_of_pair" "sizes_of_pair" sSizes f fd) (O : CsOk K D c) (GN : FnOk P w K mg base CX0 1 fN fdN ["value"] (spNeedCond c)) (gN : mg "need_condition" = some (.ref fN)) (kN : PySem.W.keepIn K (.ref fN) = true) (bN : Binds K fdN ["value"] [])
    (mm : mg "max" = none) : FnOk P w K mg base CX0 2 f fd ["one", "other"] (spSizes c) := by
  refine F.ok scSizes (fun vs H Q E h => ?_) (fun cdv A outer s H vs Q E hr h => ?_)
  · obtain ⟨a, b, m, n, rfl, _⟩ := h
    rfl
  · obtain ⟨a, b, m, n, rfl, h1, h2, q⟩ := h
    refine ⟨_, pss_cons (ps_expr (pe_call GN hr rfl gN kN bN .nil pass0 (pa_cons (pv 0) pa_nil))) (pss_cons (ps_expr (pe_call GN hr rfl gN kN bN .nil pass0 (pa_cons (pv 1) pa_nil)))
      (pss_cons (ps_set (i := 2) scSizes.nd rfl (.inl rfl) (pe_op op_add (pe_fld (pv 0) rfl) (pe_fld (pv 1) rfl)))
      (pss_cons (ps_set (i := 3) scSizes.nd rfl (.inl rfl) (pe_op op_add (pe_callB (call_max2 rfl) (by rfl) mm (by decide +kernel) (pa_cons (pe_fld (pv 0) rfl) (pa_cons (pe_fld (pv 1) rfl) pa_nil))) pe_int))
      (pss_one (ps_ret (pe_tup (pa_cons (pv 2) (pa_cons (pv 3) (pa_cons (pe_op op_add (pe_fld (pv 0) rfl) (pe_fld (pv 1) rfl)) pa_nil))))))))), ?_⟩
    obtain ⟨dx, fs, ha, l1, l2, l3, _⟩ := h1.get
    obtain ⟨dy, gs, hb, r1, r2, r3, _⟩ := h2.get
    have o := O.of m
    have u := O.of n
    refine ⟨_, rfl, a, m, rfl, h1, _, rfl, b, n, rfl, h2, ?_⟩
    refine ⟨_, rfl, a, _, dx, fs, _, rfl, ha, o.cl, o.n1, l1, _, rfl, b, _, dy, gs, _, rfl, hb, u.cl, u.n1, r1, _, _, rfl, rfl, ?_⟩
    refine ⟨_, rfl, a, _, dx, fs, _, rfl, ha, o.cl, o.n2, l2, _, rfl, b, _, dy, gs, _, rfl, hb, u.cl, u.n2, r2, _, _, rfl, _, _, rfl, rfl, ?_⟩
    refine ⟨_, rfl, _, rfl, _, rfl, a, _, dx, fs, _, rfl, ha, o.cl, o.n3, l3, _, rfl, b, _, dy, gs, _, rfl, hb, u.cl, u.n3, r3, _, _, rfl, rfl, (by show 3 ≤ sizeLine; decide), fun p hp => ?_⟩
    have z := q p hp
    have e1 : ((m.leaves : Nat) : Int) + ((n.leaves : Nat) : Int) = ((m.leaves + n.leaves : Nat) : Int) := by omega
    have e3 : ((m.names : Nat) : Int) + ((n.names : Nat) : Int) = ((m.names + n.names : Nat) : Int) := by omega
    have e2 : (if ((n.depth : Nat) : Int) > ((m.depth : Nat) : Int) then ((n.depth : Nat) : Int) else ((m.depth : Nat) : Int)) + 1 = ((max m.depth n.depth + 1 : Nat) : Int) := by
      split <;> omega
    rw [← e1, ← e2, ← e3] at z
    exact z
theorem ok_boinit {f cda cc f2 fS : Addr} {kV : Value} {fd fdS fdC : FuncData} (F : FunX K "__init__" "Both.__init__" (sBo 0) f cda cc kV fd) (S : SupOf P K f cda cc c.bo c.bo f2 "self") (cl : Cls K c.bo) (n1 : NoAttr K c.bo "first") (n2 : NoAttr K c.bo "second")
    (GS : FnOk P w K mg base CX0 2 fS fdS ["one", "other"] (spSizes c)) (gS : mg "sizes_of_pair" = some (.ref fS)) (kS : PySem.W.keepIn K (.ref fS) = true) (bS : Binds K fdS ["one", "other"] [])
    (GC : FnOk P w K mg base CX0 1 f2 fdC ["self", "leaf_count", "height", "name_count"] (spCond c.bo)) (bC : Binds K fdC ["self", "leaf_count", "height", "name_count"] []) (ms : mg "super" = none) :
    FnOk P w K mg base CX0 3 f fd ["self", "one", "other"] (spPair c c.bo) := by
  refine F.ok scBoInit (fun vs H Q E h => ?_) (fun A outer s H vs Q E hr h => ?_)
  · obtain ⟨a, dx, p, q, m, n, rfl, _⟩ := h
    rfl
  · obtain ⟨a, dx, p, q, m, n, rfl, ha, h1, h2, l6, d5, n8, qq⟩ := h
    have hr1 := hr.mono (show 1 ≤ 2 by decide)
    refine ⟨_, pssa_cons (psa (ps_set (i := 4) scBoInit.nd rfl (.inl rfl) (pe_call GS hr rfl gS kS bS .nil pass0 (pa_cons (pv 1) (pa_cons (pv 2) pa_nil)))))
      (pssa_cons (psa_superS (i := 0) S (GC.raw bC .nil) hr1 pass0 rfl rfl rfl rfl rfl rfl ms rfl (pv 4))
      (pssa (pss_cons (ps_fld (pv 0) (pv 1) rfl) (pss_one (ps_fld (pv 0) (pv 2) rfl))))), ?_⟩
    refine ⟨_, rfl, _, rfl, p, q, m, n, rfl, h1, h2, fun t ht => ?_⟩
    have nat : a ≠ t := ne_of_none ha ht
    have ha1 := (upd_ne (o := .tup [.int ((m.leaves + n.leaves : Nat) : Int), .int ((max m.depth n.depth + 1 : Nat) : Int), .int ((m.names + n.names : Nat) : Int)]) nat).trans ha
    refine ⟨a, dx, [], rfl, ha1, _, rfl, t, _, rfl, .inl (.of upd_same), a, dx, _, _, _, [], rfl, ha1, (by decide), (by omega), (by omega), (by omega), ?_⟩
    refine ⟨_, rfl, _, rfl, a, c.bo, dx, _, rfl, upd_same, cl, n1, (by show 3 < 1000; decide), ?_⟩
    refine ⟨_, rfl, _, rfl, a, c.bo, dx, _, rfl, upd_same, cl, n2, (by show 4 < 1000; decide), ?_⟩
    rw [upd_upd, upd_upd]
    exact qq _ (Same.new ht)
theorem ok_eiinit {f cda cc f2 fS : Addr} {kV : Value} {fd fdS fdC : FuncData} (F : FunX K "__init__" "Either.__init__" (sEi 0) f cda cc kV fd) (S : SupOf P K f cda cc c.ei c.ei f2 "self") (cl : Cls K c.ei) (n1 : NoAttr K c.ei "first") (n2 : NoAttr K c.ei "second")
    (GS : FnOk P w K mg base CX0 2 fS fdS ["one", "other"] (spSizes c)) (gS : mg "sizes_of_pair" = some (.ref fS)) (kS : PySem.W.keepIn K (.ref fS) = true) (bS : Binds K fdS ["one", "other"] [])
    (GC : FnOk P w K mg base CX0 1 f2 fdC ["self", "leaf_count", "height", "name_count"] (spCond c.ei)) (bC : Binds K fdC ["self", "leaf_count", "height", "name_count"] []) (ms : mg "super" = none) :
    FnOk P w K mg base CX0 3 f fd ["self", "one", "other"] (spPair c c.ei) := by
  refine F.ok scEiInit (fun vs H Q E h => ?_) (fun A outer s H vs Q E hr h => ?_)
  · obtain ⟨a, dx, p, q, m, n, rfl, _⟩ := h
    rfl
  · obtain ⟨a, dx, p, q, m, n, rfl, ha, h1, h2, l6, d5, n8, qq⟩ := h
    have hr1 := hr.mono (show 1 ≤ 2 by decide)
    refine ⟨_, pssa_cons (psa (ps_set (i := 4) scEiInit.nd rfl (.inl rfl) (pe_call GS hr rfl gS kS bS .nil pass0 (pa_cons (pv 1) (pa_cons (pv 2) pa_nil)))))
      (pssa_cons (psa_superS (i := 0) S (GC.raw bC .nil) hr1 pass0 rfl rfl rfl rfl rfl rfl ms rfl (pv 4))
      (pssa (pss_cons (ps_fld (pv 0) (pv 1) rfl) (pss_one (ps_fld (pv 0) (pv 2) rfl))))), ?_⟩
    refine ⟨_, rfl, _, rfl, p, q, m, n, rfl, h1, h2, fun t ht => ?_⟩
    have nat : a ≠ t := ne_of_none ha ht
    have ha1 := (upd_ne (o := .tup [.int ((m.leaves + n.leaves : Nat) : Int), .int ((max m.depth n.depth + 1 : Nat) : Int), .int ((m.names + n.names : Nat) : Int)]) nat).trans ha
    refine ⟨a, dx, [], rfl, ha1, _, rfl, t, _, rfl, .inl (.of upd_same), a, dx, _, _, _, [], rfl, ha1, (by decide), (by omega), (by omega), (by omega), ?_⟩
    refine ⟨_, rfl, _, rfl, a, c.ei, dx, _, rfl, upd_same, cl, n1, (by show 3 < 1000; decide), ?_⟩
    refine ⟨_, rfl, _, rfl, a, c.ei, dx, _, rfl, upd_same, cl, n2, (by show 4 < 1000; decide), ?_⟩
    rw [upd_upd, upd_upd]
    exact qq _ (Same.new ht)
theorem ok_ntinit {f cda cc f2 fN : Addr} {kV : Value} {fd fdN fdC : FuncData} (F : FunX K "__init__" "Not.__init__" (sNt 0) f cda cc kV fd) (S : SupOf P K f cda cc c.nt c.nt f2 "self") (O : CsOk K D c) (n1 : NoAttr K c.nt "inner")
    (GN : FnOk P w K mg base CX0 1 fN fdN ["value"] (spNeedCond c)) (gN : mg "need_condition" = some (.ref fN)) (kN : PySem.W.keepIn K (.ref fN) = true) (bN : Binds K fdN ["value"] [])
    (GC : FnOk P w K mg base CX0 1 f2 fdC ["self", "leaf_count", "height", "name_count"] (spCond c.nt)) (bC : Binds K fdC ["self", "leaf_count", "height", "name_count"] []) (ms : mg "super" = none) :
    FnOk P w K mg base CX0 2 f fd ["self", "one"] (spNeg c c.nt) := by
  refine F.ok scNtInit (fun vs H Q E h => ?_) (fun A outer s H vs Q E hr h => ?_)
  · obtain ⟨a, dx, p, m, rfl, _⟩ := h
    rfl
  · obtain ⟨a, dx, p, m, rfl, ha, h1, l6, d5, n8, qq⟩ := h
    refine ⟨_, pssa_cons (psa (ps_expr (pe_call GN hr rfl gN kN bN .nil pass0 (pa_cons (pv 1) pa_nil))))
      (pssa_cons (psa_super (i := 0) S (GC.raw bC .nil) hr pass0 rfl rfl rfl rfl rfl rfl ms rfl (pa_cons (pe_fld (pv 1) rfl) (pa_cons (pe_op op_add (pe_fld (pv 1) rfl) pe_int) (pa_cons (pe_fld (pv 1) rfl) pa_nil))))
      (pssa (pss_one (ps_fld (pv 0) (pv 1) rfl)))), ?_⟩
    obtain ⟨dy, gs, hb, r1, r2, r3, _⟩ := h1.get
    have u := O.of m
    refine ⟨_, rfl, p, m, rfl, h1, ?_⟩
    refine ⟨a, dx, [], rfl, ha, _, rfl, p, _, dy, gs, _, rfl, hb, u.cl, u.n1, r1, _, rfl, p, _, dy, gs, _, rfl, hb, u.cl, u.n2, r2, _, _, rfl, rfl, _, rfl, p, _, dy, gs, _, rfl, hb, u.cl, u.n3, r3, ?_⟩
    refine ⟨a, dx, _, _, _, [], rfl, ha, (by decide), (by omega), (by omega), (by omega), ?_⟩
    refine ⟨_, rfl, _, rfl, a, c.nt, dx, _, rfl, upd_same, O.nt.cl, n1, (by show 3 < 1000; decide), ?_⟩
    rw [upd_upd]
    exact qq
end
end G

set_option Elab.async false
set_option linter.all false
set_option maxRecDepth 100000
set_option maxHeartbeats 2000000
/-! C3: what conditions do: leaves, depth, holds, called, joined. -/
namespace G
open PySem PySem.Spec PyProof.Rows L2 NdefX StX
def spLeaves (c : Cs) : Sp := fun vs H Q _ => ∃ (a : Addr) (m : Md), vs = [.ref a] ∧ CoAt c H a m ∧ Q (.int (m.leaves : Nat)) H
def spDepth (c : Cs) : Sp := fun vs H Q _ => ∃ (a : Addr) (m : Md), vs = [.ref a] ∧ CoAt c H a m ∧ Q (.int (m.depth : Nat)) H
/-- holds of the class whose tag is t, down to the depth d -/
def spHolds (c : Cs) (t d : Nat) : Sp := fun vs H Q _ => ∃ (a v : Addr) (y : Str) (m : Md) (zs : List Str) (kvs : List (Key × V)), vs = [.ref a, .str y, .ref v] ∧ CoAt c H a m ∧ m.tag = t ∧ m.depth ≤ d ∧ H v = some (.dK kvs) ∧ ValN zs kvs ∧ Q (.bl (m.holds y kvs)) H
def spCall (c : Cs) (d : Nat) : Sp := fun vs H Q _ => ∃ (a v : Addr) (y : Str) (m : Md) (zs : List Str) (kvs : List (Key × V)), vs = [.ref a, .str y, .ref v] ∧ CoAt c H a m ∧ m.depth ≤ d ∧ NameZ y ∧ H v = some (.dK kvs) ∧ ValOk zs kvs ∧
  ∀ H', Same H H' → Q (.bl (m.holds y kvs)) H'
def HoldsAll (P : Program) (w : World) (K : PySem.W.Frag) (mg : Str → Option Value) (base : Heap) (c : Cs) (k d : Nat) : Prop := ∀ m : Md, PolyM P w K mg base k (m.cls c) "holds" (spHolds c m.tag d)
/-- the sizes of a pair are within bounds -/
def Fits (m n : Md) : Prop := m.leaves + n.leaves ≤ 6 ∧ max m.depth n.depth + 1 ≤ 5 ∧ m.names + n.names ≤ 8
def spAnd (c : Cs) : Sp := fun vs H Q _ => ∃ (a b : Addr) (m n : Md), vs = [.ref a, .ref b] ∧ CoAt c H a m ∧ CoAt c H b n ∧ Fits m n ∧ ∀ r H', CoAt c H' r (.both m n) → Same H H' → Q (.ref r) H'
def spOr (c : Cs) : Sp := fun vs H Q _ => ∃ (a b : Addr) (m n : Md), vs = [.ref a, .ref b] ∧ CoAt c H a m ∧ CoAt c H b n ∧ Fits m n ∧ ∀ r H', CoAt c H' r (.eith m n) → Same H H' → Q (.ref r) H'
def spInv (c : Cs) : Sp := fun vs H Q _ => ∃ (a : Addr) (m : Md), vs = [.ref a] ∧ CoAt c H a m ∧ m.leaves ≤ 6 ∧ m.depth + 1 ≤ 5 ∧ m.names ≤ 8 ∧ ∀ r H', CoAt c H' r (.neg m) → Same H H' → Q (.ref r) H'
theorem put_same {H1 H' : Hp} {x dx C : Addr} {u : HO} (hx : H1 x = Option.none) (hdx : H1 dx = Option.none) (s' : Same (upd (upd H1 dx (.own x)) x (.ins C dx [])) H') : Same H1 (upd H' x u) := fun p o e => by
  have n1 := ne_of_none e hx
  rw [upd_ne n1]
  refine s' p o ?_
  rw [upd_ne n1, upd_ne (ne_of_none e hdx)]
  exact e
theorem new_same {H1 : Hp} {x dx C : Addr} (hx : H1 x = Option.none) (hdx : H1 dx = Option.none) : Same H1 (upd (upd H1 dx (.own x)) x (.ins C dx [])) := fun p o e => by
  rw [upd_ne (ne_of_none e hx), upd_ne (ne_of_none e hdx)]
  exact e
/-- a Both just made -/
theorem bo_made {c : Cs} {p q : Addr} {m n : Md} {H1 : Hp} {Q : VK} {E : XK} (h1 : CoAt c H1 p m) (h2 : CoAt c H1 q n) (f : Fits m n) (z : ∀ r H', CoAt c H' r (.both m n) → Same H1 H' → Q (.ref r) H') :
    ∀ x dx, H1 x = Option.none → H1 dx = Option.none → dx ≠ x → spPair c c.bo [.ref x, .ref p, .ref q] (upd (upd H1 dx (.own x)) x (.ins c.bo dx [])) (fun v H2 => v = .non ∧ Q (.ref x) H2) E := by
  intro x dx hx hdx _
  have s0 := new_same (C := c.bo) hx hdx
  refine ⟨x, dx, p, q, m, n, rfl, upd_same, h1.same s0, h2.same s0, f.1, f.2.1, f.2.2, fun H' s' => ⟨rfl, ?_⟩⟩
  have s1 := put_same (u := .ins c.bo dx (pairFs (m.leaves + n.leaves) (max m.depth n.depth + 1) (m.names + n.names) p q)) hx hdx s'
  exact z x _ ⟨p, q, dx, upd_same, h1.same s1, h2.same s1⟩ s1
theorem ei_made {c : Cs} {p q : Addr} {m n : Md} {H1 : Hp} {Q : VK} {E : XK} (h1 : CoAt c H1 p m) (h2 : CoAt c H1 q n) (f : Fits m n) (z : ∀ r H', CoAt c H' r (.eith m n) → Same H1 H' → Q (.ref r) H') :
    ∀ x dx, H1 x = Option.none → H1 dx = Option.none → dx ≠ x → spPair c c.ei [.ref x, .ref p, .ref q] (upd (upd H1 dx (.own x)) x (.ins c.ei dx [])) (fun v H2 => v = .non ∧ Q (.ref x) H2) E := by
  intro x dx hx hdx _
  have s0 := new_same (C := c.ei) hx hdx
  refine ⟨x, dx, p, q, m, n, rfl, upd_same, h1.same s0, h2.same s0, f.1, f.2.1, f.2.2, fun H' s' => ⟨rfl, ?_⟩⟩
  have s1 := put_same (u := .ins c.ei dx (pairFs (m.leaves + n.leaves) (max m.depth n.depth + 1) (m.names + n.names) p q)) hx hdx s'
  exact z x _ ⟨p, q, dx, upd_same, h1.same s1, h2.same s1⟩ s1
theorem nt_made {c : Cs} {p : Addr} {m : Md} {H1 : Hp} {Q : VK} {E : XK} (h1 : CoAt c H1 p m) (l6 : m.leaves ≤ 6) (d5 : m.depth + 1 ≤ 5) (n8 : m.names ≤ 8) (z : ∀ r H', CoAt c H' r (.neg m) → Same H1 H' → Q (.ref r) H') :
    ∀ x dx, H1 x = Option.none → H1 dx = Option.none → dx ≠ x → spNeg c c.nt [.ref x, .ref p] (upd (upd H1 dx (.own x)) x (.ins c.nt dx [])) (fun v H2 => v = .non ∧ Q (.ref x) H2) E := by
  intro x dx hx hdx _
  have s0 := new_same (C := c.nt) hx hdx
  refine ⟨x, dx, p, m, rfl, upd_same, h1.same s0, l6, d5, n8, rfl, ?_⟩
  have s1 : Same H1 (upd (upd (upd H1 dx (.own x)) x (.ins c.nt dx [])) x (.ins c.nt dx (negFs m.leaves (m.depth + 1) m.names p))) := put_same hx hdx (Same.refl _)
  exact z x _ ⟨p, dx, upd_same, h1.same s1⟩ s1
section
variable {P : Program} {w : World} {K : PySem.W.Frag} {mg : Str → Option Value} {base : Heap} {c : Cs} {D : Addr} {f : Addr} {fd : FuncData}
theorem sc_bt6 : FnScope ["self"] ["self"] (defScope (sBtw 6)) := ⟨rfl, rfl, rfl, by decide +kernel, rfl, by decide +kernel, by decide +kernel⟩
theorem sc_bt7 : FnScope ["self"] ["self"] (defScope (sBtw 7)) := ⟨rfl, rfl, rfl, by decide +kernel, rfl, by decide +kernel, by decide +kernel⟩
theorem sc_bt10 : FnScope ["self"] ["self"] (defScope (sBtw 10)) := ⟨rfl, rfl, rfl, by decide +kernel, rfl, by decide +kernel, by decide +kernel⟩
theorem sc_bt8 : FnScope ["self", "other"] ["self", "other"] (defScope (sBtw 8)) := ⟨rfl, rfl, rfl, by decide +kernel, rfl, by decide +kernel, by decide +kernel⟩
theorem sc_bt9 : FnScope ["self", "other"] ["self", "other"] (defScope (sBtw 9)) := ⟨rfl, rfl, rfl, by decide +kernel, rfl, by decide +kernel, by decide +kernel⟩
theorem sc_bt4 : FnScope ["self", "key", "value"] ["self", "key", "value"] (defScope (sBtw 4)) := ⟨rfl, rfl, rfl, by decide +kernel, rfl, by decide +kernel, by decide +kernel⟩
theorem sc_bt5 : FnScope ["self", "key", "value"] ["self", "key", "value"] (defScope (sBtw 5)) := ⟨rfl, rfl, rfl, by decide +kernel, rfl, by decide +kernel, by decide +kernel⟩
theorem ok_btdepth (F : Fun K "depth" "Between.depth" (sBtw 7) f fd) (O : CsOk K D c) : FnOk P w K mg base CX0 1 f fd ["self"] (spDepth c) := by
  refine F.ok sc_bt7 (fun vs H Q E h => ?_) (fun cdv A outer s H vs Q E hr h => ?_)
  · obtain ⟨a, m, rfl, _⟩ := h
    rfl
  · obtain ⟨a, m, rfl, hc, qq⟩ := h
    obtain ⟨dx, fs, ha, l1, l2, l3, _⟩ := hc.get
    exact ⟨_, pss_one (ps_ret (pe_fld (pv 0) rfl)), _, rfl, a, _, dx, fs, _, rfl, ha, (O.of m).cl, (O.of m).n2, l2, qq⟩
theorem ok_btcall {k d : Nat} {fR : Addr} {fdR : FuncData} (F : Fun K "__call__" "Between.__call__" (sBtw 4) f fd) (HA : HoldsAll P w K mg base c k d) (h4 : 4 ≤ k) (kR : PySem.W.keepIn K (.ref fR) = true) (bR : Binds K fdR ["key", "value"] []) (gR : mg "need_record" = some (.ref fR))
    (GR : FnOk P w K mg base CX0 4 fR fdR ["key", "value"] spNeedRecord) : FnOk P w K mg base CX0 (k + 1) f fd ["self", "key", "value"] (spCall c d) := by
  refine F.ok sc_bt4 (fun vs H Q E h => ?_) (fun cdv A outer s H vs Q E hr h => ?_)
  · obtain ⟨a, v, y, m, zs, kvs, rfl, _⟩ := h
    rfl
  · obtain ⟨a, v, y, m, zs, kvs, rfl, hc, hd, hy, hv, ok, qq⟩ := h
    refine ⟨_, pss_cons (ps_expr (pe_call GR (hr.mono h4) rfl gR kR bR .nil pass0 (pa_cons (pv 1) (pa_cons (pv 2) pa_nil))))
      (pss_one (ps_ret (pe_methV (k := k) (pv 0) hr pass0 (pa_cons (pv 1) (pa_cons (pv 2) pa_nil))))), ?_⟩
    refine ⟨_, rfl, _, rfl, y, v, zs, kvs, rfl, hy, hv, ok, fun H1 s1 => ?_⟩
    have hc1 := hc.same s1
    obtain ⟨dx, fs, ha, l1, l2, l3, l4, _⟩ := hc1.get
    exact ⟨_, rfl, a, _, dx, fs, spHolds c m.tag d, rfl, ha, HA m, l4, _, rfl, _, rfl, a, v, y, m, zs, kvs, rfl, hc1, rfl, hd, s1 _ _ hv, ok.is, qq H1 s1⟩
theorem ok_btand_ {fB : Addr} {fdB : FuncData} (F : Fun K "__and__" "Between.__and__" (sBtw 8) f fd) (M : Mk K c.bo fB) (GB : FnOk P w K mg base CX0 3 fB fdB ["self", "one", "other"] (spPair c c.bo)) (gB : mg "Both" = some (.ref c.bo)) (bB : Binds K fdB ["self", "one", "other"] []) :
    FnOk P w K mg base CX0 5 f fd ["self", "other"] (spAnd c) := by
  refine F.ok sc_bt8 (fun vs H Q E h => ?_) (fun cdv A outer s H vs Q E hr h => ?_)
  · obtain ⟨a, b, m, n, rfl, _⟩ := h
    rfl
  · obtain ⟨a, b, m, n, rfl, h1, h2, ft, z⟩ := h
    exact ⟨_, pss_one (ps_ret (pe_make M GB hr rfl gB bB .nil pass0 (pa_cons (pv 0) (pa_cons (pv 1) pa_nil)))), _, rfl, _, rfl, bo_made h1 h2 ft z⟩
theorem ok_btor_ {fB : Addr} {fdB : FuncData} (F : Fun K "__or__" "Between.__or__" (sBtw 9) f fd) (M : Mk K c.ei fB) (GB : FnOk P w K mg base CX0 3 fB fdB ["self", "one", "other"] (spPair c c.ei)) (gB : mg "Either" = some (.ref c.ei)) (bB : Binds K fdB ["self", "one", "other"] []) :
    FnOk P w K mg base CX0 5 f fd ["self", "other"] (spOr c) := by
  refine F.ok sc_bt9 (fun vs H Q E h => ?_) (fun cdv A outer s H vs Q E hr h => ?_)
  · obtain ⟨a, b, m, n, rfl, _⟩ := h
    rfl
  · obtain ⟨a, b, m, n, rfl, h1, h2, ft, z⟩ := h
    exact ⟨_, pss_one (ps_ret (pe_make M GB hr rfl gB bB .nil pass0 (pa_cons (pv 0) (pa_cons (pv 1) pa_nil)))), _, rfl, _, rfl, ei_made h1 h2 ft z⟩
theorem ok_btinv {fB : Addr} {fdB : FuncData} (F : Fun K "__invert__" "Between.__invert__" (sBtw 10) f fd) (M : Mk K c.nt fB) (GB : FnOk P w K mg base CX0 2 fB fdB ["self", "one"] (spNeg c c.nt)) (gB : mg "Not" = some (.ref c.nt)) (bB : Binds K fdB ["self", "one"] []) :
    FnOk P w K mg base CX0 4 f fd ["self"] (spInv c) := by
  refine F.ok sc_bt10 (fun vs H Q E h => ?_) (fun cdv A outer s H vs Q E hr h => ?_)
  · obtain ⟨a, m, rfl, _⟩ := h
    rfl
  · obtain ⟨a, m, rfl, h1, l6, d5, n8, z⟩ := h
    exact ⟨_, pss_one (ps_ret (pe_make M GB hr rfl gB bB .nil pass0 (pa_cons (pv 0) pa_nil))), _, rfl, nt_made h1 l6 d5 n8 z⟩
theorem sc_nm4 : FnScope ["self"] ["self"] (defScope (sNam 4)) := ⟨rfl, rfl, rfl, by decide +kernel, rfl, by decide +kernel, by decide +kernel⟩
theorem sc_nm5 : FnScope ["self"] ["self"] (defScope (sNam 5)) := ⟨rfl, rfl, rfl, by decide +kernel, rfl, by decide +kernel, by decide +kernel⟩
theorem sc_nm8 : FnScope ["self"] ["self"] (defScope (sNam 8)) := ⟨rfl, rfl, rfl, by decide +kernel, rfl, by decide +kernel, by decide +kernel⟩
theorem sc_nm6 : FnScope ["self", "other"] ["self", "other"] (defScope (sNam 6)) := ⟨rfl, rfl, rfl, by decide +kernel, rfl, by decide +kernel, by decide +kernel⟩
theorem sc_nm7 : FnScope ["self", "other"] ["self", "other"] (defScope (sNam 7)) := ⟨rfl, rfl, rfl, by decide +kernel, rfl, by decide +kernel, by decide +kernel⟩
theorem sc_nm2 : FnScope ["self", "key", "value"] ["self", "key", "value"] (defScope (sNam 2)) := ⟨rfl, rfl, rfl, by decide +kernel, rfl, by decide +kernel, by decide +kernel⟩
theorem sc_nm3 : FnScope ["self", "key", "value"] ["self", "key", "value"] (defScope (sNam 3)) := ⟨rfl, rfl, rfl, by decide +kernel, rfl, by decide +kernel, by decide +kernel⟩
theorem ok_nmdepth (F : Fun K "depth" "Named.depth" (sNam 5) f fd) (O : CsOk K D c) : FnOk P w K mg base CX0 1 f fd ["self"] (spDepth c) := by
  refine F.ok sc_nm5 (fun vs H Q E h => ?_) (fun cdv A outer s H vs Q E hr h => ?_)
  · obtain ⟨a, m, rfl, _⟩ := h
    rfl
  · obtain ⟨a, m, rfl, hc, qq⟩ := h
    obtain ⟨dx, fs, ha, l1, l2, l3, _⟩ := hc.get
    exact ⟨_, pss_one (ps_ret (pe_fld (pv 0) rfl)), _, rfl, a, _, dx, fs, _, rfl, ha, (O.of m).cl, (O.of m).n2, l2, qq⟩
theorem ok_nmcall {k d : Nat} {fR : Addr} {fdR : FuncData} (F : Fun K "__call__" "Named.__call__" (sNam 2) f fd) (HA : HoldsAll P w K mg base c k d) (h4 : 4 ≤ k) (kR : PySem.W.keepIn K (.ref fR) = true) (bR : Binds K fdR ["key", "value"] []) (gR : mg "need_record" = some (.ref fR))
    (GR : FnOk P w K mg base CX0 4 fR fdR ["key", "value"] spNeedRecord) : FnOk P w K mg base CX0 (k + 1) f fd ["self", "key", "value"] (spCall c d) := by
  refine F.ok sc_nm2 (fun vs H Q E h => ?_) (fun cdv A outer s H vs Q E hr h => ?_)
  · obtain ⟨a, v, y, m, zs, kvs, rfl, _⟩ := h
    rfl
  · obtain ⟨a, v, y, m, zs, kvs, rfl, hc, hd, hy, hv, ok, qq⟩ := h
    refine ⟨_, pss_cons (ps_expr (pe_call GR (hr.mono h4) rfl gR kR bR .nil pass0 (pa_cons (pv 1) (pa_cons (pv 2) pa_nil))))
      (pss_one (ps_ret (pe_methV (k := k) (pv 0) hr pass0 (pa_cons (pv 1) (pa_cons (pv 2) pa_nil))))), ?_⟩
    refine ⟨_, rfl, _, rfl, y, v, zs, kvs, rfl, hy, hv, ok, fun H1 s1 => ?_⟩
    have hc1 := hc.same s1
    obtain ⟨dx, fs, ha, l1, l2, l3, l4, _⟩ := hc1.get
    exact ⟨_, rfl, a, _, dx, fs, spHolds c m.tag d, rfl, ha, HA m, l4, _, rfl, _, rfl, a, v, y, m, zs, kvs, rfl, hc1, rfl, hd, s1 _ _ hv, ok.is, qq H1 s1⟩
theorem ok_nmand_ {fB : Addr} {fdB : FuncData} (F : Fun K "__and__" "Named.__and__" (sNam 6) f fd) (M : Mk K c.bo fB) (GB : FnOk P w K mg base CX0 3 fB fdB ["self", "one", "other"] (spPair c c.bo)) (gB : mg "Both" = some (.ref c.bo)) (bB : Binds K fdB ["self", "one", "other"] []) :
    FnOk P w K mg base CX0 5 f fd ["self", "other"] (spAnd c) := by
  refine F.ok sc_nm6 (fun vs H Q E h => ?_) (fun cdv A outer s H vs Q E hr h => ?_)
  · obtain ⟨a, b, m, n, rfl, _⟩ := h
    rfl
  · obtain ⟨a, b, m, n, rfl, h1, h2, ft, z⟩ := h
    exact ⟨_, pss_one (ps_ret (pe_make M GB hr rfl gB bB .nil pass0 (pa_cons (pv 0) (pa_cons (pv 1) pa_nil)))), _, rfl, _, rfl, bo_made h1 h2 ft z⟩
theorem ok_nmor_ {fB : Addr} {fdB : FuncData} (F : Fun K "__or__" "Named.__or__" (sNam 7) f fd) (M : Mk K c.ei fB) (GB : FnOk P w K mg base CX0 3 fB fdB ["self", "one", "other"] (spPair c c.ei)) (gB : mg "Either" = some (.ref c.ei)) (bB : Binds K fdB ["self", "one", "other"] []) :
    FnOk P w K mg base CX0 5 f fd ["self", "other"] (spOr c) := by
  refine F.ok sc_nm7 (fun vs H Q E h => ?_) (fun cdv A outer s H vs Q E hr h => ?_)
  · obtain ⟨a, b, m, n, rfl, _⟩ := h
    rfl
  · obtain ⟨a, b, m, n, rfl, h1, h2, ft, z⟩ := h
    exact ⟨_, pss_one (ps_ret (pe_make M GB hr rfl gB bB .nil pass0 (pa_cons (pv 0) (pa_cons (pv 1) pa_nil)))), _, rfl, _, rfl, ei_made h1 h2 ft z⟩
theorem ok_nminv {fB : Addr} {fdB : FuncData} (F : Fun K "__invert__" "Named.__invert__" (sNam 8) f fd) (M : Mk K c.nt fB) (GB : FnOk P w K mg base CX0 2 fB fdB ["self", "one"] (spNeg c c.nt)) (gB : mg "Not" = some (.ref c.nt)) (bB : Binds K fdB ["self", "one"] []) :
    FnOk P w K mg base CX0 4 f fd ["self"] (spInv c) := by
  refine F.ok sc_nm8 (fun vs H Q E h => ?_) (fun cdv A outer s H vs Q E hr h => ?_)
  · obtain ⟨a, m, rfl, _⟩ := h
    rfl
  · obtain ⟨a, m, rfl, h1, l6, d5, n8, z⟩ := h
    exact ⟨_, pss_one (ps_ret (pe_make M GB hr rfl gB bB .nil pass0 (pa_cons (pv 0) pa_nil))), _, rfl, nt_made h1 l6 d5 n8 z⟩
theorem sc_bo5 : FnScope ["self"] ["self"] (defScope (sBo 5)) := ⟨rfl, rfl, rfl, by decide +kernel, rfl, by decide +kernel, by decide +kernel⟩
theorem sc_bo6 : FnScope ["self"] ["self"] (defScope (sBo 6)) := ⟨rfl, rfl, rfl, by decide +kernel, rfl, by decide +kernel, by decide +kernel⟩
theorem sc_bo9 : FnScope ["self"] ["self"] (defScope (sBo 9)) := ⟨rfl, rfl, rfl, by decide +kernel, rfl, by decide +kernel, by decide +kernel⟩
theorem sc_bo7 : FnScope ["self", "other"] ["self", "other"] (defScope (sBo 7)) := ⟨rfl, rfl, rfl, by decide +kernel, rfl, by decide +kernel, by decide +kernel⟩
theorem sc_bo8 : FnScope ["self", "other"] ["self", "other"] (defScope (sBo 8)) := ⟨rfl, rfl, rfl, by decide +kernel, rfl, by decide +kernel, by decide +kernel⟩
theorem sc_bo3 : FnScope ["self", "key", "value"] ["self", "key", "value"] (defScope (sBo 3)) := ⟨rfl, rfl, rfl, by decide +kernel, rfl, by decide +kernel, by decide +kernel⟩
theorem sc_bo4 : FnScope ["self", "key", "value"] ["self", "key", "value"] (defScope (sBo 4)) := ⟨rfl, rfl, rfl, by decide +kernel, rfl, by decide +kernel, by decide +kernel⟩
theorem ok_bodepth (F : Fun K "depth" "Both.depth" (sBo 6) f fd) (O : CsOk K D c) : FnOk P w K mg base CX0 1 f fd ["self"] (spDepth c) := by
  refine F.ok sc_bo6 (fun vs H Q E h => ?_) (fun cdv A outer s H vs Q E hr h => ?_)
  · obtain ⟨a, m, rfl, _⟩ := h
    rfl
  · obtain ⟨a, m, rfl, hc, qq⟩ := h
    obtain ⟨dx, fs, ha, l1, l2, l3, _⟩ := hc.get
    exact ⟨_, pss_one (ps_ret (pe_fld (pv 0) rfl)), _, rfl, a, _, dx, fs, _, rfl, ha, (O.of m).cl, (O.of m).n2, l2, qq⟩
theorem ok_bocall {k d : Nat} {fR : Addr} {fdR : FuncData} (F : Fun K "__call__" "Both.__call__" (sBo 3) f fd) (HA : HoldsAll P w K mg base c k d) (h4 : 4 ≤ k) (kR : PySem.W.keepIn K (.ref fR) = true) (bR : Binds K fdR ["key", "value"] []) (gR : mg "need_record" = some (.ref fR))
    (GR : FnOk P w K mg base CX0 4 fR fdR ["key", "value"] spNeedRecord) : FnOk P w K mg base CX0 (k + 1) f fd ["self", "key", "value"] (spCall c d) := by
  refine F.ok sc_bo3 (fun vs H Q E h => ?_) (fun cdv A outer s H vs Q E hr h => ?_)
  · obtain ⟨a, v, y, m, zs, kvs, rfl, _⟩ := h
    rfl
  · obtain ⟨a, v, y, m, zs, kvs, rfl, hc, hd, hy, hv, ok, qq⟩ := h
    refine ⟨_, pss_cons (ps_expr (pe_call GR (hr.mono h4) rfl gR kR bR .nil pass0 (pa_cons (pv 1) (pa_cons (pv 2) pa_nil))))
      (pss_one (ps_ret (pe_methV (k := k) (pv 0) hr pass0 (pa_cons (pv 1) (pa_cons (pv 2) pa_nil))))), ?_⟩
    refine ⟨_, rfl, _, rfl, y, v, zs, kvs, rfl, hy, hv, ok, fun H1 s1 => ?_⟩
    have hc1 := hc.same s1
    obtain ⟨dx, fs, ha, l1, l2, l3, l4, _⟩ := hc1.get
    exact ⟨_, rfl, a, _, dx, fs, spHolds c m.tag d, rfl, ha, HA m, l4, _, rfl, _, rfl, a, v, y, m, zs, kvs, rfl, hc1, rfl, hd, s1 _ _ hv, ok.is, qq H1 s1⟩
theorem ok_boand_ {fB : Addr} {fdB : FuncData} (F : Fun K "__and__" "Both.__and__" (sBo 7) f fd) (M : Mk K c.bo fB) (GB : FnOk P w K mg base CX0 3 fB fdB ["self", "one", "other"] (spPair c c.bo)) (gB : mg "Both" = some (.ref c.bo)) (bB : Binds K fdB ["self", "one", "other"] []) :
    FnOk P w K mg base CX0 5 f fd ["self", "other"] (spAnd c) := by
  refine F.ok sc_bo7 (fun vs H Q E h => ?_) (fun cdv A outer s H vs Q E hr h => ?_)
  · obtain ⟨a, b, m, n, rfl, _⟩ := h
    rfl
  · obtain ⟨a, b, m, n, rfl, h1, h2, ft, z⟩ := h
    exact ⟨_, pss_one (ps_ret (pe_make M GB hr rfl gB bB .nil pass0 (pa_cons (pv 0) (pa_cons (pv 1) pa_nil)))), _, rfl, _, rfl, bo_made h1 h2 ft z⟩
theorem ok_boor_ {fB : Addr} {fdB : FuncData} (F : Fun K "__or__" "Both.__or__" (sBo 8) f fd) (M : Mk K c.ei fB) (GB : FnOk P w K mg base CX0 3 fB fdB ["self", "one", "other"] (spPair c c.ei)) (gB : mg "Either" = some (.ref c.ei)) (bB : Binds K fdB ["self", "one", "other"] []) :
    FnOk P w K mg base CX0 5 f fd ["self", "other"] (spOr c) := by
  refine F.ok sc_bo8 (fun vs H Q E h => ?_) (fun cdv A outer s H vs Q E hr h => ?_)
  · obtain ⟨a, b, m, n, rfl, _⟩ := h
    rfl
  · obtain ⟨a, b, m, n, rfl, h1, h2, ft, z⟩ := h
    exact ⟨_, pss_one (ps_ret (pe_make M GB hr rfl gB bB .nil pass0 (pa_cons (pv 0) (pa_cons (pv 1) pa_nil)))), _, rfl, _, rfl, ei_made h1 h2 ft z⟩
theorem ok_boinv {fB : Addr} {fdB : FuncData} (F : Fun K "__invert__" "Both.__invert__" (sBo 9) f fd) (M : Mk K c.nt fB) (GB : FnOk P w K mg base CX0 2 fB fdB ["self", "one"] (spNeg c c.nt)) (gB : mg "Not" = some (.ref c.nt)) (bB : Binds K fdB ["self", "one"] []) :
    FnOk P w K mg base CX0 4 f fd ["self"] (spInv c) := by
  refine F.ok sc_bo9 (fun vs H Q E h => ?_) (fun cdv A outer s H vs Q E hr h => ?_)
  · obtain ⟨a, m, rfl, _⟩ := h
    rfl
  · obtain ⟨a, m, rfl, h1, l6, d5, n8, z⟩ := h
    exact ⟨_, pss_one (ps_ret (pe_make M GB hr rfl gB bB .nil pass0 (pa_cons (pv 0) pa_nil))), _, rfl, nt_made h1 l6 d5 n8 z⟩
theorem sc_ei5 : FnScope ["self"] ["self"] (defScope (sEi 5)) := ⟨rfl, rfl, rfl, by decide +kernel, rfl, by decide +kernel, by decide +kernel⟩
theorem sc_ei6 : FnScope ["self"] ["self"] (defScope (sEi 6)) := ⟨rfl, rfl, rfl, by decide +kernel, rfl, by decide +kernel, by decide +kernel⟩
theorem sc_ei9 : FnScope ["self"] ["self"] (defScope (sEi 9)) := ⟨rfl, rfl, rfl, by decide +kernel, rfl, by decide +kernel, by decide +kernel⟩
theorem sc_ei7 : FnScope ["self", "other"] ["self", "other"] (defScope (sEi 7)) := ⟨rfl, rfl, rfl, by decide +kernel, rfl, by decide +kernel, by decide +kernel⟩
theorem sc_ei8 : FnScope ["self", "other"] ["self", "other"] (defScope (sEi 8)) := ⟨rfl, rfl, rfl, by decide +kernel, rfl, by decide +kernel, by decide +kernel⟩
theorem sc_ei3 : FnScope ["self", "key", "value"] ["self", "key", "value"] (defScope (sEi 3)) := ⟨rfl, rfl, rfl, by decide +kernel, rfl, by decide +kernel, by decide +kernel⟩
theorem sc_ei4 : FnScope ["self", "key", "value"] ["self", "key", "value"] (defScope (sEi 4)) := ⟨rfl, rfl, rfl, by decide +kernel, rfl, by decide +kernel, by decide +kernel⟩
theorem ok_eidepth (F : Fun K "depth" "Either.depth" (sEi 6) f fd) (O : CsOk K D c) : FnOk P w K mg base CX0 1 f fd ["self"] (spDepth c) := by
  refine F.ok sc_ei6 (fun vs H Q E h => ?_) (fun cdv A outer s H vs Q E hr h => ?_)
  · obtain ⟨a, m, rfl, _⟩ := h
    rfl
  · obtain ⟨a, m, rfl, hc, qq⟩ := h
    obtain ⟨dx, fs, ha, l1, l2, l3, _⟩ := hc.get
    exact ⟨_, pss_one (ps_ret (pe_fld (pv 0) rfl)), _, rfl, a, _, dx, fs, _, rfl, ha, (O.of m).cl, (O.of m).n2, l2, qq⟩
theorem ok_eicall {k d : Nat} {fR : Addr} {fdR : FuncData} (F : Fun K "__call__" "Either.__call__" (sEi 3) f fd) (HA : HoldsAll P w K mg base c k d) (h4 : 4 ≤ k) (kR : PySem.W.keepIn K (.ref fR) = true) (bR : Binds K fdR ["key", "value"] []) (gR : mg "need_record" = some (.ref fR))
    (GR : FnOk P w K mg base CX0 4 fR fdR ["key", "value"] spNeedRecord) : FnOk P w K mg base CX0 (k + 1) f fd ["self", "key", "value"] (spCall c d) := by
  refine F.ok sc_ei3 (fun vs H Q E h => ?_) (fun cdv A outer s H vs Q E hr h => ?_)
  · obtain ⟨a, v, y, m, zs, kvs, rfl, _⟩ := h
    rfl
  · obtain ⟨a, v, y, m, zs, kvs, rfl, hc, hd, hy, hv, ok, qq⟩ := h
    refine ⟨_, pss_cons (ps_expr (pe_call GR (hr.mono h4) rfl gR kR bR .nil pass0 (pa_cons (pv 1) (pa_cons (pv 2) pa_nil))))
      (pss_one (ps_ret (pe_methV (k := k) (pv 0) hr pass0 (pa_cons (pv 1) (pa_cons (pv 2) pa_nil))))), ?_⟩
    refine ⟨_, rfl, _, rfl, y, v, zs, kvs, rfl, hy, hv, ok, fun H1 s1 => ?_⟩
    have hc1 := hc.same s1
    obtain ⟨dx, fs, ha, l1, l2, l3, l4, _⟩ := hc1.get
    exact ⟨_, rfl, a, _, dx, fs, spHolds c m.tag d, rfl, ha, HA m, l4, _, rfl, _, rfl, a, v, y, m, zs, kvs, rfl, hc1, rfl, hd, s1 _ _ hv, ok.is, qq H1 s1⟩
theorem ok_eiand_ {fB : Addr} {fdB : FuncData} (F : Fun K "__and__" "Either.__and__" (sEi 7) f fd) (M : Mk K c.bo fB) (GB : FnOk P w K mg base CX0 3 fB fdB ["self", "one", "other"] (spPair c c.bo)) (gB : mg "Both" = some (.ref c.bo)) (bB : Binds K fdB ["self", "one", "other"] []) :
    FnOk P w K mg base CX0 5 f fd ["self", "other"] (spAnd c) := by
  refine F.ok sc_ei7 (fun vs H Q E h => ?_) (fun cdv A outer s H vs Q E hr h => ?_)
  · obtain ⟨a, b, m, n, rfl, _⟩ := h
    rfl
  · obtain ⟨a, b, m, n, rfl, h1, h2, ft, z⟩ := h
    exact ⟨_, pss_one (ps_ret (pe_make M GB hr rfl gB bB .nil pass0 (pa_cons (pv 0) (pa_cons (pv 1) pa_nil)))), _, rfl, _, rfl, bo_made h1 h2 ft z⟩
theorem ok_eior_ {fB : Addr} {fdB : FuncData} (F : Fun K "__or__" "Either.__or__" (sEi 8) f fd) (M : Mk K c.ei fB) (GB : FnOk P w K mg base CX0 3 fB fdB ["self", "one", "other"] (spPair c c.ei)) (gB : mg "Either" = some (.ref c.ei)) (bB : Binds K fdB ["self", "one", "other"] []) :
    FnOk P w K mg base CX0 5 f fd ["self", "other"] (spOr c) := by
  refine F.ok sc_ei8 (fun vs H Q E h => ?_) (fun cdv A outer s H vs Q E hr h => ?_)
  · obtain ⟨a, b, m, n, rfl, _⟩ := h
    rfl
  · obtain ⟨a, b, m, n, rfl, h1, h2, ft, z⟩ := h
    exact ⟨_, pss_one (ps_ret (pe_make M GB hr rfl gB bB .nil pass0 (pa_cons (pv 0) (pa_cons (pv 1) pa_nil)))), _, rfl, _, rfl, ei_made h1 h2 ft z⟩
theorem ok_eiinv {fB : Addr} {fdB : FuncData} (F : Fun K "__invert__" "Either.__invert__" (sEi 9) f fd) (M : Mk K c.nt fB) (GB : FnOk P w K mg base CX0 2 fB fdB ["self", "one"] (spNeg c c.nt)) (gB : mg "Not" = some (.ref c.nt)) (bB : Binds K fdB ["self", "one"] []) :
    FnOk P w K mg base CX0 4 f fd ["self"] (spInv c) := by
  refine F.ok sc_ei9 (fun vs H Q E h => ?_) (fun cdv A outer s H vs Q E hr h => ?_)
  · obtain ⟨a, m, rfl, _⟩ := h
    rfl
  · obtain ⟨a, m, rfl, h1, l6, d5, n8, z⟩ := h
    exact ⟨_, pss_one (ps_ret (pe_make M GB hr rfl gB bB .nil pass0 (pa_cons (pv 0) pa_nil))), _, rfl, nt_made h1 l6 d5 n8 z⟩
theorem sc_nt5 : FnScope ["self"] ["self"] (defScope (sNt 5)) := ⟨rfl, rfl, rfl, by decide +kernel, rfl, by decide +kernel, by decide +kernel⟩
theorem sc_nt6 : FnScope ["self"] ["self"] (defScope (sNt 6)) := ⟨rfl, rfl, rfl, by decide +kernel, rfl, by decide +kernel, by decide +kernel⟩
theorem sc_nt9 : FnScope ["self"] ["self"] (defScope (sNt 9)) := ⟨rfl, rfl, rfl, by decide +kernel, rfl, by decide +kernel, by decide +kernel⟩
theorem sc_nt7 : FnScope ["self", "other"] ["self", "other"] (defScope (sNt 7)) := ⟨rfl, rfl, rfl, by decide +kernel, rfl, by decide +kernel, by decide +kernel⟩
theorem sc_nt8 : FnScope ["self", "other"] ["self", "other"] (defScope (sNt 8)) := ⟨rfl, rfl, rfl, by decide +kernel, rfl, by decide +kernel, by decide +kernel⟩
theorem sc_nt2 : FnScope ["self", "key", "value"] ["self", "key", "value"] (defScope (sNt 2)) := ⟨rfl, rfl, rfl, by decide +kernel, rfl, by decide +kernel, by decide +kernel⟩
theorem sc_nt3 : FnScope ["self", "key", "value"] ["self", "key", "value"] (defScope (sNt 3)) := ⟨rfl, rfl, rfl, by decide +kernel, rfl, by decide +kernel, by decide +kernel⟩
theorem ok_ntdepth (F : Fun K "depth" "Not.depth" (sNt 6) f fd) (O : CsOk K D c) : FnOk P w K mg base CX0 1 f fd ["self"] (spDepth c) := by
  refine F.ok sc_nt6 (fun vs H Q E h => ?_) (fun cdv A outer s H vs Q E hr h => ?_)
  · obtain ⟨a, m, rfl, _⟩ := h
    rfl
  · obtain ⟨a, m, rfl, hc, qq⟩ := h
    obtain ⟨dx, fs, ha, l1, l2, l3, _⟩ := hc.get
    exact ⟨_, pss_one (ps_ret (pe_fld (pv 0) rfl)), _, rfl, a, _, dx, fs, _, rfl, ha, (O.of m).cl, (O.of m).n2, l2, qq⟩
theorem ok_ntcall {k d : Nat} {fR : Addr} {fdR : FuncData} (F : Fun K "__call__" "Not.__call__" (sNt 2) f fd) (HA : HoldsAll P w K mg base c k d) (h4 : 4 ≤ k) (kR : PySem.W.keepIn K (.ref fR) = true) (bR : Binds K fdR ["key", "value"] []) (gR : mg "need_record" = some (.ref fR))
    (GR : FnOk P w K mg base CX0 4 fR fdR ["key", "value"] spNeedRecord) : FnOk P w K mg base CX0 (k + 1) f fd ["self", "key", "value"] (spCall c d) := by
  refine F.ok sc_nt2 (fun vs H Q E h => ?_) (fun cdv A outer s H vs Q E hr h => ?_)
  · obtain ⟨a, v, y, m, zs, kvs, rfl, _⟩ := h
    rfl
  · obtain ⟨a, v, y, m, zs, kvs, rfl, hc, hd, hy, hv, ok, qq⟩ := h
    refine ⟨_, pss_cons (ps_expr (pe_call GR (hr.mono h4) rfl gR kR bR .nil pass0 (pa_cons (pv 1) (pa_cons (pv 2) pa_nil))))
      (pss_one (ps_ret (pe_methV (k := k) (pv 0) hr pass0 (pa_cons (pv 1) (pa_cons (pv 2) pa_nil))))), ?_⟩
    refine ⟨_, rfl, _, rfl, y, v, zs, kvs, rfl, hy, hv, ok, fun H1 s1 => ?_⟩
    have hc1 := hc.same s1
    obtain ⟨dx, fs, ha, l1, l2, l3, l4, _⟩ := hc1.get
    exact ⟨_, rfl, a, _, dx, fs, spHolds c m.tag d, rfl, ha, HA m, l4, _, rfl, _, rfl, a, v, y, m, zs, kvs, rfl, hc1, rfl, hd, s1 _ _ hv, ok.is, qq H1 s1⟩
theorem ok_ntand_ {fB : Addr} {fdB : FuncData} (F : Fun K "__and__" "Not.__and__" (sNt 7) f fd) (M : Mk K c.bo fB) (GB : FnOk P w K mg base CX0 3 fB fdB ["self", "one", "other"] (spPair c c.bo)) (gB : mg "Both" = some (.ref c.bo)) (bB : Binds K fdB ["self", "one", "other"] []) :
    FnOk P w K mg base CX0 5 f fd ["self", "other"] (spAnd c) := by
  refine F.ok sc_nt7 (fun vs H Q E h => ?_) (fun cdv A outer s H vs Q E hr h => ?_)
  · obtain ⟨a, b, m, n, rfl, _⟩ := h
    rfl
  · obtain ⟨a, b, m, n, rfl, h1, h2, ft, z⟩ := h
    exact ⟨_, pss_one (ps_ret (pe_make M GB hr rfl gB bB .nil pass0 (pa_cons (pv 0) (pa_cons (pv 1) pa_nil)))), _, rfl, _, rfl, bo_made h1 h2 ft z⟩
theorem ok_ntor_ {fB : Addr} {fdB : FuncData} (F : Fun K "__or__" "Not.__or__" (sNt 8) f fd) (M : Mk K c.ei fB) (GB : FnOk P w K mg base CX0 3 fB fdB ["self", "one", "other"] (spPair c c.ei)) (gB : mg "Either" = some (.ref c.ei)) (bB : Binds K fdB ["self", "one", "other"] []) :
    FnOk P w K mg base CX0 5 f fd ["self", "other"] (spOr c) := by
  refine F.ok sc_nt8 (fun vs H Q E h => ?_) (fun cdv A outer s H vs Q E hr h => ?_)
  · obtain ⟨a, b, m, n, rfl, _⟩ := h
    rfl
  · obtain ⟨a, b, m, n, rfl, h1, h2, ft, z⟩ := h
    exact ⟨_, pss_one (ps_ret (pe_make M GB hr rfl gB bB .nil pass0 (pa_cons (pv 0) (pa_cons (pv 1) pa_nil)))), _, rfl, _, rfl, ei_made h1 h2 ft z⟩
theorem ok_ntinv {fB : Addr} {fdB : FuncData} (F : Fun K "__invert__" "Not.__invert__" (sNt 9) f fd) (M : Mk K c.nt fB) (GB : FnOk P w K mg base CX0 2 fB fdB ["self", "one"] (spNeg c c.nt)) (gB : mg "Not" = some (.ref c.nt)) (bB : Binds K fdB ["self", "one"] []) :
    FnOk P w K mg base CX0 4 f fd ["self"] (spInv c) := by
  refine F.ok sc_nt9 (fun vs H Q E h => ?_) (fun cdv A outer s H vs Q E hr h => ?_)
  · obtain ⟨a, m, rfl, _⟩ := h
    rfl
  · obtain ⟨a, m, rfl, h1, l6, d5, n8, z⟩ := h
    exact ⟨_, pss_one (ps_ret (pe_make M GB hr rfl gB bB .nil pass0 (pa_cons (pv 0) pa_nil))), _, rfl, nt_made h1 l6 d5 n8 z⟩
theorem ok_btholds2 {d : Nat} (F : Fun K "holds" "Between.holds" (sBtw 5) f fd) (cl : Cls K c.bt) (n1 : NoAttr K c.bt "field_name") (n2 : NoAttr K c.bt "lowest") (n3 : NoAttr K c.bt "highest") : FnOk P w K mg base CX0 1 f fd ["self", "key", "value"] (spHolds c 0 d) :=
  (ok_btwholds F cl n1 n2 n3).imp fun vs H Q E h => by
    obtain ⟨a, v, y, m, zs, kvs, rfl, hc, ht, hd, hv, ok, qq⟩ := h
    cases m with
    | btw z lo hi => exact ⟨a, v, y, z, lo, hi, zs, kvs, rfl, hc, hv, ok, qq⟩
    | _ => cases ht
theorem ok_nmholds2 {d : Nat} (F : Fun K "holds" "Named.holds" (sNam 3) f fd) (cl : Cls K c.nm) (n1 : NoAttr K c.nm "accepted_names") : FnOk P w K mg base CX0 1 f fd ["self", "key", "value"] (spHolds c 1 d) :=
  (ok_namholds F cl n1).imp fun vs H Q E h => by
    obtain ⟨a, v, y, m, zs, kvs, rfl, hc, ht, hd, hv, ok, qq⟩ := h
    cases m with
    | nam ns =>
      obtain ⟨t, hc⟩ := hc
      exact ⟨a, v, t, y, ns, rfl, hc, qq⟩
    | _ => cases ht
theorem ok_boholds {k d : Nat} (HA : HoldsAll P w K mg base c k d) (F : Fun K "holds" "Both.holds" (sBo 4) f fd) (cl : Cls K c.bo) (n1 : NoAttr K c.bo "first") (n2 : NoAttr K c.bo "second") : FnOk P w K mg base CX0 (k + 1) f fd ["self", "key", "value"] (spHolds c 3 (d + 1)) := by
  refine F.ok sc_bo4 (fun vs H Q E h => ?_) (fun cdv A outer s H vs Q E hr h => ?_)
  · obtain ⟨a, v, y, m, zs, kvs, rfl, _⟩ := h
    rfl
  · obtain ⟨a, v, y, m, zs, kvs, rfl, hc, ht, hd, hv, ok, qq⟩ := h
    refine ⟨_, pss_one (ps_ret (pe_and (pe_methV (k := k) (pe_fld (pv 0) rfl) hr pass0 (pa_cons (pv 1) (pa_cons (pv 2) pa_nil))) (pe_one (pe_methV (k := k) (pe_fld (pv 0) rfl) hr pass0 (pa_cons (pv 1) (pa_cons (pv 2) pa_nil)))))), ?_⟩
    cases m with
    | both m1 m2 =>
      obtain ⟨p, q, dx, ha, h1, h2⟩ := hc
      obtain ⟨dp, fp, hp, _, _, _, lp, _⟩ := h1.get
      obtain ⟨dq, fq, hq, _, _, _, lq, _⟩ := h2.get
      have d1 : m1.depth ≤ d := by
        have : max m1.depth m2.depth + 1 ≤ d + 1 := hd
        omega
      have d2 : m2.depth ≤ d := by
        have : max m1.depth m2.depth + 1 ≤ d + 1 := hd
        omega
      refine ⟨_, rfl, a, _, dx, _, _, rfl, ha, cl, n1, rfl, p, _, dp, fp, spHolds c m1.tag d, rfl, hp, HA m1, lp, _, rfl, _, rfl, p, v, y, m1, zs, kvs, rfl, h1, rfl, d1, hv, ok, _, rfl, ?_⟩
      have qz : Q (.bl (m1.holds y kvs && m2.holds y kvs)) H := qq
      cases e : m1.holds y kvs with
      | false =>
        rw [e] at qz
        exact iteF qz
      | true =>
        rw [e] at qz
        refine iteT ⟨_, rfl, a, _, dx, _, _, rfl, ha, cl, n2, rfl, q, _, dq, fq, spHolds c m2.tag d, rfl, hq, HA m2, lq, _, rfl, _, rfl, q, v, y, m2, zs, kvs, rfl, h2, rfl, d2, hv, ok, ?_⟩
        exact qz
    | _ => cases ht
theorem ok_eiholds {k d : Nat} (HA : HoldsAll P w K mg base c k d) (F : Fun K "holds" "Either.holds" (sEi 4) f fd) (cl : Cls K c.ei) (n1 : NoAttr K c.ei "first") (n2 : NoAttr K c.ei "second") : FnOk P w K mg base CX0 (k + 1) f fd ["self", "key", "value"] (spHolds c 4 (d + 1)) := by
  refine F.ok sc_ei4 (fun vs H Q E h => ?_) (fun cdv A outer s H vs Q E hr h => ?_)
  · obtain ⟨a, v, y, m, zs, kvs, rfl, _⟩ := h
    rfl
  · obtain ⟨a, v, y, m, zs, kvs, rfl, hc, ht, hd, hv, ok, qq⟩ := h
    refine ⟨_, pss_one (ps_ret (pe_or (pe_methV (k := k) (pe_fld (pv 0) rfl) hr pass0 (pa_cons (pv 1) (pa_cons (pv 2) pa_nil))) (pe_one (pe_methV (k := k) (pe_fld (pv 0) rfl) hr pass0 (pa_cons (pv 1) (pa_cons (pv 2) pa_nil)))))), ?_⟩
    cases m with
    | eith m1 m2 =>
      obtain ⟨p, q, dx, ha, h1, h2⟩ := hc
      obtain ⟨dp, fp, hp, _, _, _, lp, _⟩ := h1.get
      obtain ⟨dq, fq, hq, _, _, _, lq, _⟩ := h2.get
      have d1 : m1.depth ≤ d := by
        have : max m1.depth m2.depth + 1 ≤ d + 1 := hd
        omega
      have d2 : m2.depth ≤ d := by
        have : max m1.depth m2.depth + 1 ≤ d + 1 := hd
        omega
      refine ⟨_, rfl, a, _, dx, _, _, rfl, ha, cl, n1, rfl, p, _, dp, fp, spHolds c m1.tag d, rfl, hp, HA m1, lp, _, rfl, _, rfl, p, v, y, m1, zs, kvs, rfl, h1, rfl, d1, hv, ok, _, rfl, ?_⟩
      have qz : Q (.bl (m1.holds y kvs || m2.holds y kvs)) H := qq
      cases e : m1.holds y kvs with
      | true =>
        rw [e] at qz
        exact iteT qz
      | false =>
        rw [e] at qz
        refine iteF ⟨_, rfl, a, _, dx, _, _, rfl, ha, cl, n2, rfl, q, _, dq, fq, spHolds c m2.tag d, rfl, hq, HA m2, lq, _, rfl, _, rfl, q, v, y, m2, zs, kvs, rfl, h2, rfl, d2, hv, ok, ?_⟩
        exact qz
    | _ => cases ht
theorem ok_ntholds {k d : Nat} (HA : HoldsAll P w K mg base c k d) (F : Fun K "holds" "Not.holds" (sNt 3) f fd) (cl : Cls K c.nt) (n1 : NoAttr K c.nt "inner") : FnOk P w K mg base CX0 (k + 1) f fd ["self", "key", "value"] (spHolds c 2 (d + 1)) := by
  refine F.ok sc_nt3 (fun vs H Q E h => ?_) (fun cdv A outer s H vs Q E hr h => ?_)
  · obtain ⟨a, v, y, m, zs, kvs, rfl, _⟩ := h
    rfl
  · obtain ⟨a, v, y, m, zs, kvs, rfl, hc, ht, hd, hv, ok, qq⟩ := h
    refine ⟨_, pss_one (ps_ret (pe_not (pe_methV (k := k) (pe_fld (pv 0) rfl) hr pass0 (pa_cons (pv 1) (pa_cons (pv 2) pa_nil))))), ?_⟩
    cases m with
    | neg m1 =>
      obtain ⟨p, dx, ha, h1⟩ := hc
      obtain ⟨dp, fp, hp, _, _, _, lp, _⟩ := h1.get
      have d1 : m1.depth ≤ d := by
        have : m1.depth + 1 ≤ d + 1 := hd
        omega
      exact ⟨_, rfl, a, _, dx, _, _, rfl, ha, cl, n1, rfl, p, _, dp, fp, spHolds c m1.tag d, rfl, hp, HA m1, lp, _, rfl, _, rfl, p, v, y, m1, zs, kvs, rfl, h1, rfl, d1, hv, ok, _, rfl, qq⟩
    | _ => cases ht
end
end G

set_option Elab.async false
set_option linter.all false
set_option maxRecDepth 100000
set_option maxHeartbeats 4000000
/-! D1: a leaf of the law's models. -/
namespace G
open PySem PySem.Spec PyProof.Rows L2 NdefX StX
/-- a list of names -/
structure Nm (H : Hp) (a : Addr) (zs : List Str) : Prop where
  at_ : H a = some (.lst (zs.map V.str))
  pos : 1 ≤ zs.length
  few : zs.length ≤ 100
  nm : ∀ z ∈ zs, NameZ z
theorem Nm.ne {H : Hp} {a b : Addr} {n : Nat} {zs : List Str} (h : Nm H a zs) (B : BoxAt H b n) : a ≠ b := fun e => by
  obtain ⟨x, y, u, hb, _⟩ := B
  obtain ⟨h1, h2, _, _⟩ := h
  rw [e, hb] at h1
  match zs, h2 with
  | z :: r, _ => cases h1
theorem Nm.but {H H' : Hp} {a b : Addr} {n : Nat} {zs : List Str} (h : Nm H a zs) (B : BoxAt H b n) (k : But b H H') : Nm H' a zs := ⟨k _ _ (h.ne B) h.at_, h.pos, h.few, h.nm⟩
theorem Nm.same {H H' : Hp} {a : Addr} {zs : List Str} (h : Nm H a zs) (s : Same H H') : Nm H' a zs := ⟨s _ _ h.at_, h.pos, h.few, h.nm⟩
theorem BoxAt.same {H H' : Hp} {b : Addr} {n : Nat} (h : BoxAt H b n) (s : Same H H') : BoxAt H' b n := h.keep fun o e => s _ _ e
theorem pick {α : Type} {l : List α} {j : Nat} (h : j < l.length) : ∃ x, l[j]? = some x ∧ x ∈ l := ⟨l[j], List.getElem?_eq_getElem h, List.getElem_mem h⟩
theorem pick_map {α : Type} {f : α → V} {l : List α} {j : Nat} {x : α} (h : l[j]? = some x) : (l.map f)[j]? = some (f x) := by rw [List.getElem?_map, h] <;> rfl
end G

set_option Elab.async false
set_option linter.all false
set_option maxRecDepth 100000
set_option maxHeartbeats 4000000
/-! D2: the law's models, drawn; holds of all classes. -/
namespace G
open PySem PySem.Spec PyProof.Rows L2 NdefX StX
/-- how many draws a model of this depth takes at most -/
def cost : Nat → Nat
  | 0 => 11
  | d + 1 => 2 * cost d + 2
theorem cost_mono : ∀ {a b : Nat}, a ≤ b → cost a ≤ cost b
  | a, 0, h => by
    obtain rfl : a = 0 := by omega
    exact Nat.le_refl _
  | a, b + 1, h => by
    rcases Nat.lt_or_ge b a with e | e
    · obtain rfl : a = b + 1 := by omega
      exact Nat.le_refl _
    · have := cost_mono e
      show cost a ≤ 2 * cost b + 2
      omega
theorem cost_pos (d : Nat) : 11 ≤ cost d := cost_mono (Nat.zero_le d)
theorem fn_none {P : Program} {w : World} {K : PySem.W.Frag} {mg : Str → Option Value} {base : Heap} {CX : CXT} {k : Nat} {f : Addr} {fd : FuncData} {ps : List Str} {sp : Sp} (h : ∀ vs H Q E, sp vs H Q E → False) : FnOk P w K mg base CX k f fd ps sp :=
  ⟨fun vs H Q E z => (h vs H Q E z).elim, fun _ _ _ _ _ _ _ _ _ _ _ _ _ z => (h _ _ _ _ z).elim⟩
end G

set_option Elab.async false
set_option linter.all false
set_option maxRecDepth 100000
set_option maxHeartbeats 4000000
/-! D3: the law's models built into conditions. -/
namespace G
open PySem PySem.Spec PyProof.Rows L2 NdefX StX
theorem scBuilt : FnScope ["_law_box_here", "_law_model", "_law_way", "_law_one", "_law_other"] ["_law_box_here", "_law_model"] (defScope sBuilt) := ⟨rfl, rfl, rfl, by decide +kernel, rfl, by decide +kernel, by decide +kernel⟩
theorem ifN {c : Bool} {A B : Prop} (e : c = false) (h : B) : if c = true then A else B := by
  rw [e]
  exact iteF h
theorem ifY {c : Bool} {A B : Prop} (e : c = true) (h : A) : if c = true then A else B := by
  rw [e]
  exact iteT h
theorem nm_bt : decide (V.str ("named" : Str) = V.str ("between" : Str)) = false := by decide +kernel
theorem nt_bt : decide (V.str ("not" : Str) = V.str ("between" : Str)) = false := by decide +kernel
theorem nt_nm : decide (V.str ("not" : Str) = V.str ("named" : Str)) = false := by decide +kernel
theorem bo_bt : decide (V.str ("both" : Str) = V.str ("between" : Str)) = false := by decide +kernel
theorem bo_nm : decide (V.str ("both" : Str) = V.str ("named" : Str)) = false := by decide +kernel
theorem bo_nt : decide (V.str ("both" : Str) = V.str ("not" : Str)) = false := by decide +kernel
theorem ei_bt : decide (V.str ("either" : Str) = V.str ("between" : Str)) = false := by decide +kernel
theorem ei_nm : decide (V.str ("either" : Str) = V.str ("named" : Str)) = false := by decide +kernel
theorem ei_nt : decide (V.str ("either" : Str) = V.str ("not" : Str)) = false := by decide +kernel
theorem ei_bo : decide (V.str ("either" : Str) = V.str ("both" : Str)) = false := by decide +kernel
theorem self_eq (z : Str) : decide (V.str z = V.str z) = true := decide_eq_true rfl
theorem cut_tail (x : V) (r : List V) : cutV (x :: r) (some 1) none = r := by
  unfold cutV
  rw [HT.sIx_none, show ((1 : Int)) = ((1 : Nat) : Int) from rfl, HT.sIx_nat]
  have h : min 1 (x :: r).length = 1 := by
    rw [List.length_cons]
    omega
  rw [h]
  show (r.take ((r.length + 1) - 1)) = r
  rw [Nat.add_sub_cancel, List.take_length]
theorem not_whole (x : V) (r : List V) : ¬ (HT.sIx (x :: r).length 0 (some 1) = 0 ∧ HT.sIx (x :: r).length (x :: r).length none = (x :: r).length) := fun h => by
  have h1 := h.1
  rw [show ((1 : Int)) = ((1 : Nat) : Int) from rfl, HT.sIx_nat, List.length_cons] at h1
  omega
/-- the five classes and what they do -/
structure Conds (P : Program) (w : World) (K : PySem.W.Frag) (mg : Str → Option Value) (base : Heap) (D : Addr) (c : Cs) : Prop where
  ok : CsOk K D c
  mbt : ∃ (fB cda cc Dk : Addr) (fdB : FuncData), Mk K c.bt fB ∧ FunX K "__init__" "Between.__init__" sBtwInit fB cda cc (.ref Dk) fdB ∧ BtwDef K Dk ∧ FnOk P w K mg base CX0 3 fB fdB psBtw (spBtw c.bt)
  gbt : mg "Between" = some (.ref c.bt)
  mbo : ∃ (fB : Addr) (fdB : FuncData), Mk K c.bo fB ∧ Binds K fdB ["self", "one", "other"] [] ∧ FnOk P w K mg base CX0 3 fB fdB ["self", "one", "other"] (spPair c c.bo)
  gbo : mg "Both" = some (.ref c.bo)
  mei : ∃ (fB : Addr) (fdB : FuncData), Mk K c.ei fB ∧ Binds K fdB ["self", "one", "other"] [] ∧ FnOk P w K mg base CX0 3 fB fdB ["self", "one", "other"] (spPair c c.ei)
  gei : mg "Either" = some (.ref c.ei)
  mnt : ∃ (fB : Addr) (fdB : FuncData), Mk K c.nt fB ∧ Binds K fdB ["self", "one"] [] ∧ FnOk P w K mg base CX0 2 fB fdB ["self", "one"] (spNeg c c.nt)
  gnt : mg "Not" = some (.ref c.nt)
  and_ : ∀ m n : Md, PolyO P w K mg base 5 (m.cls c) (n.cls c) .BitAnd (spAnd c)
  or_ : ∀ m n : Md, PolyO P w K mg base 5 (m.cls c) (n.cls c) .BitOr (spOr c)
  inv : ∀ m : Md, PolyU P w K mg base 4 (m.cls c) (spInv c)
theorem btw_made {c : Cs} {H1 : Hp} {Q : VK} {E : XK} {z : Str} {lo hi : Int} (hz : NameZ z) (m1 : -999 ≤ lo) (m2 : lo ≤ hi) (m3 : hi ≤ 999) (q : ∀ r H', CoAt c H' r (.btw z lo hi) → Same H1 H' → Q (.ref r) H') :
    ∀ x dx, H1 x = Option.none → H1 dx = Option.none → dx ≠ x → spBtw c.bt [.ref x, .str z, .int lo, .int hi] (upd (upd H1 dx (.own x)) x (.ins c.bt dx [])) (fun v H2 => v = .non ∧ Q (.ref x) H2) E := by
  intro x dx hx hdx _
  exact ⟨x, dx, z, lo, hi, rfl, upd_same, hz, m1, m2, m3, fun H' s' => ⟨rfl, q x _ ⟨dx, upd_same⟩ (put_same hx hdx s')⟩⟩
def spBuilt (c : Cs) (d : Nat) : Sp := fun vs H Q _ => ∃ (b t : Addr) (n : Nat) (m : Md), vs = [.ref b, .ref t] ∧ BoxAt H b n ∧ n + m.size ≤ 90000 ∧ MdAt H t m ∧ m.good ∧ m.leaves ≤ 6 ∧ m.depth ≤ 5 ∧ m.depth ≤ d ∧ m.names ≤ 8 ∧
  ∀ r H', CoAt c H' r m → BoxAt H' b (n + m.size) → But b H H' → Q (.ref r) H'
section
variable {P : Program} {w : World} {K : PySem.W.Frag} {mg : Str → Option Value} {base : Heap}
theorem ok_built {f fT fL D : Addr} {fd fdT fdL : FuncData} {c : Cs} (F : Fun K "_law_built" "_law_built" sBuilt f fd) (bF : Binds K fd ["_law_box_here", "_law_model"] []) (gF : mg "_law_built" = some (.ref f))
    (T : Fun K "_law_take" "_law_take" sTake fT fdT) (bT : Binds K fdT ["_law_box_here", "_law_many"] []) (gT : mg "_law_take" = some (.ref fT))
    (GL : FnOk P w K mg base CX0 5 fL fdL ["_law_some"] (spMkNam K c.nm)) (gL : mg "_law_named" = some (.ref fL)) (kL : PySem.W.keepIn K (.ref fL) = true) (bL : Binds K fdL ["_law_some"] []) (O : Conds P w K mg base D c) :
    ∀ d, FnOk P w K mg base CX0 (d + 6) f fd ["_law_box_here", "_law_model"] (spBuilt c d)
  | 0 => fn_none fun vs H Q E h => by
    obtain ⟨b, t, n, m, _, _, _, _, _, _, _, h0, _⟩ := h
    have := m.depth_pos
    omega
  | d + 1 => by
    have GR := ok_built F bF gF T bT gT GL gL kL bL O d
    have GT : FnOk P w K mg base CX0 1 fT fdT ["_law_box_here", "_law_many"] spTake := ok_take T
    obtain ⟨fB, cda, cc, Dk, fdB, MB, FB, dB, GB⟩ := O.mbt
    obtain ⟨t2, b2⟩ := btw_b2 FB dB
    have b4 := btw_b4 FB
    obtain ⟨fO, fdO, MO, bO, GO⟩ := O.mbo
    obtain ⟨fE, fdE, ME, bE, GE⟩ := O.mei
    obtain ⟨fN, fdN, MN, bN, GN⟩ := O.mnt
    refine F.ok scBuilt (fun vs H Q E h => ?_) (fun cdv A outer s H vs Q E hr h => ?_)
    · obtain ⟨b, t, n, m, rfl, _⟩ := h
      rfl
    · obtain ⟨b, t, n, m, rfl, B, hn, hm, hg, h6, h5, hd, h8, q⟩ := h
      have hr1 := hr.mono (show 1 ≤ d + 6 by omega)
      have hr5 := hr.mono (show 5 ≤ d + 6 by omega)
      have hr4 := hr.mono (show 4 ≤ d + 6 by omega)
      have hr4' := hr.mono (show 3 + 1 ≤ d + 6 by omega)
      have hr3' := hr.mono (show 2 + 1 ≤ d + 6 by omega)
      refine ⟨_, pss_cons (ps_set (i := 2) scBuilt.nd rfl (.inl rfl) (pe_call GT hr1 rfl gT T.kp bT .nil pass0 (pa_cons (pv 0) (pa_cons pe_int pa_nil))))
        (pss_cons (ps_if (pt_cmpR op_eq (pe_ix ix_tup (pv 1) pe_int (fun _ _ => rfl)) pe_str (nomark _))
          (pss_cons (ps_if (PW.pt (pw_and (pt_cmpR op_eq (pv 2) pe_int (nomark _)) (pw_and1 (pt_cmpR op_eq (pe_ix ix_tup (pv 1) pe_int (fun _ _ => rfl)) pe_int (nomark _)))))
            (pss_one (ps_ret (pe_makeK (n := 1) MB GB hr4' rfl O.gbt b2 pass0 (pa_cons (pe_ix ix_tup (pv 1) pe_int (fun _ _ => rfl)) pa_nil) (pk_cons (pe_ix ix_tup (pv 1) pe_int (fun _ _ => rfl)) pk_nil)))) pss_nil)
          (pss_one (ps_ret (pe_makeK (n := 1) MB GB hr4' rfl O.gbt b4 pass0 (pa_cons (pe_ix ix_tup (pv 1) pe_int (fun _ _ => rfl)) pa_nil) (pk_cons (pe_ix ix_tup (pv 1) pe_int (fun _ _ => rfl)) (pk_cons (pe_ix ix_tup (pv 1) pe_int (fun _ _ => rfl)) pk_nil)))))) pss_nil)
        (pss_cons (ps_if (pt_cmpR op_eq (pe_ix ix_tup (pv 1) pe_int (fun _ _ => rfl)) pe_str (nomark _)) (pss_one (ps_ret (pe_call GL hr5 rfl gL kL bL .nil pass0 (pa_cons (pe_slice sl_tup (pv 1) (po_some pe_int) po_none) pa_nil)))) pss_nil)
        (pss_cons (ps_set (i := 3) scBuilt.nd rfl (.inl rfl) (pe_call GR hr rfl gF F.kp bF .nil pass0 (pa_cons (pv 0) (pa_cons (pe_ix ix_tup (pv 1) pe_int (fun _ _ => rfl)) pa_nil))))
        (pss_cons (ps_if (pt_cmpR op_eq (pe_ix ix_tup (pv 1) pe_int (fun _ _ => rfl)) pe_str (nomark _))
          (pss_one (ps_ret (pe_ifExp (pt_cmpR op_eq (pv 2) pe_int (nomark _)) (pe_un (un_own (sp := spInv c) hr4 pass0) (pv 3)) (pe_make MN GN hr3' rfl O.gnt bN .nil pass0 (pa_cons (pv 3) pa_nil))))) pss_nil)
        (pss_cons (ps_set (i := 4) scBuilt.nd rfl (.inl rfl) (pe_call GR hr rfl gF F.kp bF .nil pass0 (pa_cons (pv 0) (pa_cons (pe_ix ix_tup (pv 1) pe_int (fun _ _ => rfl)) pa_nil))))
        (pss_cons (ps_if (pt_cmpR op_eq (pe_ix ix_tup (pv 1) pe_int (fun _ _ => rfl)) pe_str (nomark _))
          (pss_one (ps_ret (pe_ifExp (pt_cmpR op_eq (pv 2) pe_int (nomark _)) (pe_op (op_own (sp := spAnd c) .BitAnd hr5 pass0) (pv 3) (pv 4)) (pe_make MO GO hr4' rfl O.gbo bO .nil pass0 (pa_cons (pv 3) (pa_cons (pv 4) pa_nil)))))) pss_nil)
        (pss_one (ps_ret (pe_ifExp (pt_cmpR op_eq (pv 2) pe_int (nomark _)) (pe_op (op_own (sp := spOr c) .BitOr hr5 pass0) (pv 3) (pv 4)) (pe_make ME GE hr4' rfl O.gei bE .nil pass0 (pa_cons (pv 3) (pa_cons (pv 4) pa_nil)))))))))))), ?_⟩
      refine ⟨_, rfl, b, 2, n, rfl, B, by omega, by decide, by decide, fun way H1 w0 w1 B1 k1 => ?_⟩
      have hm1 := hm.sk (SK.of_but B k1)
      cases m with
      | btw z lo hi =>
        have e : H1 t = some (.tup [.str "between", .str z, .int lo, .int hi]) := hm1
        obtain ⟨hz, m1, m2, m3⟩ := hg
        have fin : ∀ r H', CoAt c H' r (.btw z lo hi) → Same H1 H' → Q (.ref r) H' := fun r H' h s => q r H' h (B1.same s) (k1.trans (But.same s))
        refine ⟨_, rfl, t, _, 0, _, rfl, rfl, .of e, rfl, rfl, _, rfl, ifY (self_eq _) ?_⟩
        refine ⟨_, rfl, rfl, _, rfl, ite2 (fun _ => ⟨_, rfl, t, _, 3, _, rfl, rfl, .of e, rfl, rfl, _, rfl, ite2 (fun e9 => ?_) (fun _ => ?_)⟩) (fun _ => ?_)⟩
        · have h9 : hi = 999 := by
            have := of_decide_eq_true e9
            injection this
          subst h9
          exact ⟨_, rfl, t, _, 1, _, rfl, rfl, .of e, rfl, _, rfl, t, _, 2, _, rfl, rfl, .of e, rfl, rfl, rfl, btw_made hz m1 m2 m3 fin⟩
        all_goals exact ⟨_, rfl, t, _, 1, _, rfl, rfl, .of e, rfl, _, rfl, t, _, 3, _, rfl, rfl, .of e, rfl, _, rfl, t, _, 2, _, rfl, rfl, .of e, rfl, rfl, rfl, btw_made hz m1 m2 m3 fin⟩
      | nam zs =>
        have e : H1 t = some (.tup (.str "named" :: zs.map V.str)) := hm1
        refine ⟨_, rfl, t, _, ((0 : Nat) : Int), .str "named", rfl, rfl, .of e, atI_nat (j := 0) rfl, rfl, _, rfl, ifN nm_bt ?_⟩
        refine ⟨_, rfl, t, _, ((0 : Nat) : Int), .str "named", rfl, rfl, .of e, atI_nat (j := 0) rfl, rfl, _, rfl, ifY (self_eq _) ?_⟩
        refine ⟨_, rfl, _, rfl, t, _, rfl, .of e, not_whole _ _, fun p hp => ?_⟩
        rw [cut_tail]
        refine ⟨p, zs, rfl, .inr (.of upd_same), h8, hg, fun a u H' na s' => ?_⟩
        have s2 := (Same.new (o := .tup (zs.map V.str)) hp).trans s'
        exact q a H' ⟨u, na⟩ (B1.same s2) (k1.trans (But.same s2))
      | neg m1 =>
        obtain ⟨u, e, hu⟩ : ∃ u, H1 t = some (.tup [.str "not", .ref u]) ∧ MdAt H1 u m1 := hm1
        refine ⟨_, rfl, t, _, 0, _, rfl, rfl, .of e, rfl, rfl, _, rfl, ifN nt_bt ?_⟩
        refine ⟨_, rfl, t, _, 0, _, rfl, rfl, .of e, rfl, rfl, _, rfl, ifN nt_nm ?_⟩
        have hs : n + (m1.size + 1) ≤ 90000 := hn
        have hd5 : m1.depth + 1 ≤ 5 := h5
        have hdd : m1.depth + 1 ≤ d + 1 := hd
        refine ⟨_, rfl, _, rfl, t, _, 1, _, rfl, rfl, .of e, rfl, b, u, n + 1, m1, rfl, B1, by omega, hu, hg, h6, by omega, by omega, h8, fun r1 H2 c1 B2 k2 => ?_⟩
        have e2 : H2 t = some (.tup [.str "not", .ref u]) := SK.of_but B1 k2 _ _ e rfl
        have fin : ∀ r H', CoAt c H' r (.neg m1) → Same H2 H' → Q (.ref r) H' := fun r H' h s => q r H' h ((B2.same s).mono (by show n + 1 + m1.size ≤ n + (m1.size + 1); omega)) ((k1.trans k2).trans (But.same s))
        refine ⟨_, rfl, t, _, 0, _, rfl, rfl, .of e2, rfl, rfl, _, rfl, ifY (self_eq _) ?_⟩
        obtain ⟨dx, fs, ha, _⟩ := c1.get
        refine ⟨_, rfl, rfl, _, rfl, ite2 (fun _ => ⟨_, rfl, r1, _, dx, fs, rfl, ha, O.inv m1, r1, m1, rfl, c1, h6, hd5, h8, fin⟩) (fun _ => ⟨_, rfl, nt_made c1 h6 hd5 h8 fin⟩)⟩
      | both m1 m2 =>
        obtain ⟨u, v, e, hu, hv⟩ : ∃ u v, H1 t = some (.tup [.str "both", .ref u, .ref v]) ∧ MdAt H1 u m1 ∧ MdAt H1 v m2 := hm1
        refine ⟨_, rfl, t, _, 0, _, rfl, rfl, .of e, rfl, rfl, _, rfl, ifN bo_bt ?_⟩
        refine ⟨_, rfl, t, _, 0, _, rfl, rfl, .of e, rfl, rfl, _, rfl, ifN bo_nm ?_⟩
        have hs : n + (m1.size + m2.size + 1) ≤ 90000 := hn
        have hd5 : max m1.depth m2.depth + 1 ≤ 5 := h5
        have hdd : max m1.depth m2.depth + 1 ≤ d + 1 := hd
        have hl : m1.leaves + m2.leaves ≤ 6 := h6
        have hk : m1.names + m2.names ≤ 8 := h8
        refine ⟨_, rfl, _, rfl, t, _, 1, _, rfl, rfl, .of e, rfl, b, u, n + 1, m1, rfl, B1, by omega, hu, hg.1, by omega, by omega, by omega, by omega, fun r1 H2 c1 B2 k2 => ?_⟩
        have e2 : H2 t = some (.tup [.str "both", .ref u, .ref v]) := SK.of_but B1 k2 _ _ e rfl
        have hv2 := hv.sk (SK.of_but B1 k2)
        refine ⟨_, rfl, t, _, 0, _, rfl, rfl, .of e2, rfl, rfl, _, rfl, ifN bo_nt ?_⟩
        refine ⟨_, rfl, _, rfl, t, _, 2, _, rfl, rfl, .of e2, rfl, b, v, n + 1 + m1.size, m2, rfl, B2, by omega, hv2, hg.2, by omega, by omega, by omega, by omega, fun r2 H3 c2 B3 k3 => ?_⟩
        have e3 : H3 t = some (.tup [.str "both", .ref u, .ref v]) := SK.of_but B2 k3 _ _ e2 rfl
        have c1' := c1.sk (SK.of_but B2 k3)
        have fin : ∀ r H', CoAt c H' r (.both m1 m2) → Same H3 H' → Q (.ref r) H' := fun r H' h s => q r H' h ((B3.same s).mono (by show n + 1 + m1.size + m2.size ≤ n + (m1.size + m2.size + 1); omega)) (((k1.trans k2).trans k3).trans (But.same s))
        obtain ⟨dx, fs, ha, _⟩ := c1'.get
        obtain ⟨dy, gs, hb, _⟩ := c2.get
        refine ⟨_, rfl, t, _, 0, _, rfl, rfl, .of e3, rfl, rfl, _, rfl, ifY (self_eq _) ?_⟩
        refine ⟨_, rfl, rfl, _, rfl, ite2 (fun _ => ⟨_, rfl, _, rfl, r1, r2, _, _, dx, dy, fs, gs, rfl, rfl, ha, hb, O.and_ m1 m2, r1, r2, m1, m2, rfl, c1', c2, ⟨hl, hd5, hk⟩, fun r H' h s => ⟨⟨r, rfl⟩, fin r H' h s⟩⟩)
          (fun _ => ⟨_, rfl, _, rfl, bo_made c1' c2 ⟨hl, hd5, hk⟩ fin⟩)⟩
      | eith m1 m2 =>
        obtain ⟨u, v, e, hu, hv⟩ : ∃ u v, H1 t = some (.tup [.str "either", .ref u, .ref v]) ∧ MdAt H1 u m1 ∧ MdAt H1 v m2 := hm1
        refine ⟨_, rfl, t, _, 0, _, rfl, rfl, .of e, rfl, rfl, _, rfl, ifN ei_bt ?_⟩
        refine ⟨_, rfl, t, _, 0, _, rfl, rfl, .of e, rfl, rfl, _, rfl, ifN ei_nm ?_⟩
        have hs : n + (m1.size + m2.size + 1) ≤ 90000 := hn
        have hd5 : max m1.depth m2.depth + 1 ≤ 5 := h5
        have hdd : max m1.depth m2.depth + 1 ≤ d + 1 := hd
        have hl : m1.leaves + m2.leaves ≤ 6 := h6
        have hk : m1.names + m2.names ≤ 8 := h8
        refine ⟨_, rfl, _, rfl, t, _, 1, _, rfl, rfl, .of e, rfl, b, u, n + 1, m1, rfl, B1, by omega, hu, hg.1, by omega, by omega, by omega, by omega, fun r1 H2 c1 B2 k2 => ?_⟩
        have e2 : H2 t = some (.tup [.str "either", .ref u, .ref v]) := SK.of_but B1 k2 _ _ e rfl
        have hv2 := hv.sk (SK.of_but B1 k2)
        refine ⟨_, rfl, t, _, 0, _, rfl, rfl, .of e2, rfl, rfl, _, rfl, ifN ei_nt ?_⟩
        refine ⟨_, rfl, _, rfl, t, _, 2, _, rfl, rfl, .of e2, rfl, b, v, n + 1 + m1.size, m2, rfl, B2, by omega, hv2, hg.2, by omega, by omega, by omega, by omega, fun r2 H3 c2 B3 k3 => ?_⟩
        have e3 : H3 t = some (.tup [.str "either", .ref u, .ref v]) := SK.of_but B2 k3 _ _ e2 rfl
        have c1' := c1.sk (SK.of_but B2 k3)
        have fin : ∀ r H', CoAt c H' r (.eith m1 m2) → Same H3 H' → Q (.ref r) H' := fun r H' h s => q r H' h ((B3.same s).mono (by show n + 1 + m1.size + m2.size ≤ n + (m1.size + m2.size + 1); omega)) (((k1.trans k2).trans k3).trans (But.same s))
        obtain ⟨dx, fs, ha, _⟩ := c1'.get
        obtain ⟨dy, gs, hb, _⟩ := c2.get
        refine ⟨_, rfl, t, _, 0, _, rfl, rfl, .of e3, rfl, rfl, _, rfl, ifN ei_bo ?_⟩
        refine ⟨_, rfl, rfl, _, rfl, ite2 (fun _ => ⟨_, rfl, _, rfl, r1, r2, _, _, dx, dy, fs, gs, rfl, rfl, ha, hb, O.or_ m1 m2, r1, r2, m1, m2, rfl, c1', c2, ⟨hl, hd5, hk⟩, fun r H' h s => ⟨⟨r, rfl⟩, fin r H' h s⟩⟩)
          (fun _ => ⟨_, rfl, _, rfl, ei_made c1' c2 ⟨hl, hd5, hk⟩ fin⟩)⟩
end
end G

set_option Elab.async false
set_option linter.all false
set_option maxRecDepth 100000
set_option maxHeartbeats 2000000
/-! F1: conditions compared. -/
namespace G
open PySem PySem.Spec PyProof.Rows L2 NdefX StX
def Md.eqb : Md → Md → Bool
  | .btw z lo hi, .btw z2 lo2 hi2 => decide (z = z2) && (decide (lo = lo2) && decide (hi = hi2))
  | .nam zs, .nam ys => decide (zs = ys)
  | .neg a, .neg b => a.eqb b
  | .both a b, .both a2 b2 => a.eqb a2 && b.eqb b2
  | .eith a b, .eith a2 b2 => a.eqb a2 && b.eqb b2
  | _, _ => false
theorem Md.eqb_iff : ∀ m n : Md, m.eqb n = true ↔ m = n
  | .btw z lo hi, n => by
    cases n <;> simp [Md.eqb]
  | .nam zs, n => by
    cases n <;> simp [Md.eqb]
  | .neg a, n => by
    cases n <;> simp [Md.eqb]
    exact Md.eqb_iff a _
  | .both a b, n => by
    cases n <;> simp [Md.eqb]
    rw [Md.eqb_iff a, Md.eqb_iff b]
  | .eith a b, n => by
    cases n <;> simp [Md.eqb]
    rw [Md.eqb_iff a, Md.eqb_iff b]
theorem Md.eqb_tag {m n : Md} (h : ¬ n.tag = m.tag) : m.eqb n = false := by
  cases m <;> cases n <;> first | rfl | exact (h rfl).elim
theorem clsT (c : Cs) (m : Md) : m.cls c = c.at m.tag := by cases m <;> rfl
theorem tag_lt : ∀ m : Md, m.tag < 5
  | .btw _ _ _ => (by decide : 0 < 5)
  | .nam _ => (by decide : 1 < 5)
  | .neg _ => (by decide : 2 < 5)
  | .both _ _ => (by decide : 3 < 5)
  | .eith _ _ => (by decide : 4 < 5)
/-- what isinstance and == ask of the five classes -/
structure EqK (K : PySem.W.Frag) (c : Cs) : Prop where
  kit : ∀ i j, i < 5 → j < 5 → PySem.W.kitOne K (.ref (c.at i)) (.ref (c.at j)) = some (decide (i = j))
  kT : ∀ T ∈ (["NoneType", "int", "str", "list", "tuple"] : List String), ∀ j, j < 5 → PySem.W.kitOne K (.type T) (.ref (c.at j)) = some false
  nf : ∀ i j, i < 5 → j < 5 → PySem.W.notFirst K (c.at j) (.ref (c.at i)) = true
  nT : ∀ T ∈ (["NoneType", "int", "str", "list", "tuple"] : List String), ∀ j, j < 5 → PySem.W.notFirst K (c.at j) (.type T) = true
/-- what a condition is compared with -/
inductive EqM (c : Cs) (H : Hp) : V → Option Md → Prop where
  | co {b : Addr} {m : Md} (h : CoAt c H b m) : EqM c H (.ref b) (some m)
  | non : EqM c H .non none
  | int (i : Int) : EqM c H (.int i) none
  | str (z : Str) : EqM c H (.str z) none
  | lst {a : Addr} {xs : List V} (e : H a = some (.lst xs)) : EqM c H (.ref a) none
  | tup {a : Addr} {xs : List V} (e : H a = some (.tup xs)) : EqM c H (.ref a) none
def eqM (m : Md) : Option Md → Bool
  | some n => m.eqb n
  | none => false
def isTag (j : Nat) : Option Md → Bool
  | some n => decide (n.tag = j)
  | none => false
section
variable {P : Program} {w : World} {K : PySem.W.Frag} {mg : Str → Option Value} {base : Heap} {c : Cs} {D : Addr}
theorem EqM.isi {H : Hp} {y : V} {o : Option Md} (O : CsOk K D c) (k : EqK K c) (h : EqM c H y o) {j : Nat} (hj : j < 5) : ∃ t, TyX K H y t ∧ PySem.W.kitOne K t (.ref (c.at j)) = some (isTag j o) := by
  cases h with
  | @co b m h =>
    obtain ⟨dx, fs, hb, _⟩ := h.get
    have u := O.of m
    refine ⟨_, .base (.ins hb u.cl u.ha u.hn u.htk u.hm), ?_⟩
    rw [clsT]
    exact k.kit m.tag j (tag_lt m) hj
  | non => exact ⟨_, .base .non, k.kT _ (by decide) j hj⟩
  | int i => exact ⟨_, .base (.int i), k.kT _ (by decide) j hj⟩
  | str z => exact ⟨_, .base (.str z), k.kT _ (by decide) j hj⟩
  | lst e => exact ⟨_, .base (.lst e), k.kT _ (by decide) j hj⟩
  | tup e => exact ⟨_, .base (.tup e), k.kT _ (by decide) j hj⟩
theorem EqM.oth {H : Hp} {y : V} {o : Option Md} (k : EqK K c) (h : EqM c H y o) {j : Nat} (hj : j < 5) : ∃ t, Oth H y t ∧ PySem.W.notFirst K (c.at j) t = true := by
  cases h with
  | @co b m h =>
    obtain ⟨dx, fs, hb, _⟩ := h.get
    refine ⟨_, .ins hb, ?_⟩
    rw [clsT]
    exact k.nf m.tag j (tag_lt m) hj
  | non => exact ⟨_, .non, k.nT _ (by decide) j hj⟩
  | int i => exact ⟨_, .int i, k.nT _ (by decide) j hj⟩
  | str z => exact ⟨_, .str z, k.nT _ (by decide) j hj⟩
  | lst e => exact ⟨_, .lst e, k.nT _ (by decide) j hj⟩
  | tup e => exact ⟨_, .tup e, k.nT _ (by decide) j hj⟩
theorem EqM.tag {H : Hp} {y : V} {o : Option Md} {j : Nat} (h : EqM c H y o) (e : isTag j o = true) : ∃ b m, y = .ref b ∧ o = some m ∧ CoAt c H b m ∧ m.tag = j := by
  cases h with
  | @co b m h => exact ⟨b, m, rfl, rfl, h, of_decide_eq_true e⟩
  | _ => cases e
theorem eqM_no {m : Md} {o : Option Md} (e : isTag m.tag o = false) : eqM m o = false := by
  cases o with
  | none => rfl
  | some n => exact Md.eqb_tag (of_decide_eq_false e)
def spEqC (c : Cs) (t d : Nat) : Sp := fun vs H Q _ => ∃ (a : Addr) (m : Md) (y : V) (o : Option Md), vs = [.ref a, y] ∧ CoAt c H a m ∧ m.tag = t ∧ m.depth ≤ d ∧ m.good ∧ (∀ n, o = some n → n.good) ∧ EqM c H y o ∧ Q (.bl (eqM m o)) H
/-- each class's __eq__ keeps its promise, of depth d -/
structure EqAll (P : Program) (w : World) (K : PySem.W.Frag) (mg : Str → Option Value) (base : Heap) (c : Cs) (k d : Nat) : Prop where
  fn : ∀ t, t < 5 → ∃ (f : Addr) (fd : FuncData), EqO K (c.at t) f ∧ Binds K fd ["self", "other"] [] ∧ FnOk P w K mg base CX0 k f fd ["self", "other"] (spEqC c t d)
  ek : EqK K c
def rEqM (c : Cs) (d : Nat) (pos : Bool) : R2 := fun x y H Q => ∃ (a : Addr) (m : Md) (o : Option Md), x = .ref a ∧ CoAt c H a m ∧ m.depth ≤ d ∧ m.good ∧ (∀ n, o = some n → n.good) ∧ EqM c H y o ∧ Q (.bl (cond pos (eqM m o) (!eqM m o))) H
theorem op_eqM {X : Cx} {k d : Nat} (A : EqAll X.prog X.w X.K X.mg X.base c k d) (hr : Room k X.A) : OpR X (compareOp .Eq) (rEqM c d true) := by
  intro pins s σ H x y v u Q I rx ry h
  obtain ⟨a, m, o, rfl, hm, hd, g1, g2, ho, q⟩ := h
  obtain ⟨f, fd, e, hb, F⟩ := A.fn m.tag (tag_lt m)
  obtain ⟨dx, fs, ha, _⟩ := hm.get
  obtain ⟨t, ot, nf⟩ := ho.oth A.ek (tag_lt m)
  rw [clsT] at ha
  exact op_eqB (E := E0) e hb F hr pass0 pins s σ H _ y v u Q I rx ry ⟨a, dx, fs, t, rfl, ha, ot, nf, a, m, y, o, rfl, hm, rfl, hd, g1, g2, ho, _, rfl, q⟩
theorem op_neM {X : Cx} {k d : Nat} (A : EqAll X.prog X.w X.K X.mg X.base c k d) (hr : Room (k + 1) X.A) : OpR X (compareOp .NotEq) (rEqM c d false) := by
  intro pins s σ H x y v u Q I rx ry h
  obtain ⟨a, m, o, rfl, hm, hd, g1, g2, ho, q⟩ := h
  obtain ⟨f, fd, e, hb, F⟩ := A.fn m.tag (tag_lt m)
  obtain ⟨dx, fs, ha, _⟩ := hm.get
  obtain ⟨t, ot, nf⟩ := ho.oth A.ek (tag_lt m)
  rw [clsT] at ha
  exact op_neB (E := E0) e hb F hr pins s σ H _ y v u Q I rx ry ⟨a, dx, fs, t, rfl, ha, ot, nf, a, m, y, o, rfl, hm, rfl, hd, g1, g2, ho, _, rfl, q⟩
theorem int_dec (i j : Int) : decide (V.int i = V.int j) = decide (i = j) := by
  by_cases z : i = j
  · rw [decide_eq_true z, decide_eq_true (congrArg V.int z)]
  · rw [decide_eq_false z, decide_eq_false fun h => z (V.int.inj h)]
theorem str_dec (i j : Str) : decide (V.str i = V.str j) = decide (i = j) := by
  by_cases z : i = j
  · rw [decide_eq_true z, decide_eq_true (congrArg V.str z)]
  · rw [decide_eq_false z, decide_eq_false fun h => z (V.str.inj h)]
theorem sc_bt11 : FnScope ["self", "other"] ["self", "other"] (defScope (sBtw 11)) := ⟨rfl, rfl, rfl, by decide +kernel, rfl, by decide +kernel, by decide +kernel⟩
theorem sc_nm9 : FnScope ["self", "other"] ["self", "other"] (defScope (sNam 9)) := ⟨rfl, rfl, rfl, by decide +kernel, rfl, by decide +kernel, by decide +kernel⟩
theorem sc_bo10 : FnScope ["self", "other"] ["self", "other"] (defScope (sBo 10)) := ⟨rfl, rfl, rfl, by decide +kernel, rfl, by decide +kernel, by decide +kernel⟩
theorem sc_ei10 : FnScope ["self", "other"] ["self", "other"] (defScope (sEi 10)) := ⟨rfl, rfl, rfl, by decide +kernel, rfl, by decide +kernel, by decide +kernel⟩
theorem sc_nt10 : FnScope ["self", "other"] ["self", "other"] (defScope (sNt 10)) := ⟨rfl, rfl, rfl, by decide +kernel, rfl, by decide +kernel, by decide +kernel⟩
theorem spEqC_len {t d : Nat} : ∀ vs H Q E, spEqC c t d vs H Q E → vs.length = (["self", "other"] : List Str).length := fun vs H Q E h => by
  obtain ⟨a, m, y, o, rfl, _⟩ := h
  rfl
theorem ok_bteq {d : Nat} {f : Addr} {fd : FuncData} (F : Fun K "__eq__" "Between.__eq__" (sBtw 11) f fd) (O : CsOk K D c) (ek : EqK K c) (gC : mg "Between" = some (.ref c.bt)) (mi : mg "isinstance" = none)
    (n1 : NoAttr K c.bt "field_name") (n2 : NoAttr K c.bt "lowest") (n3 : NoAttr K c.bt "highest") : FnOk P w K mg base CX0 1 f fd ["self", "other"] (spEqC c 0 d) := by
  refine F.ok sc_bt11 spEqC_len (fun cdv A outer s H vs Q E hr h => ?_)
  obtain ⟨a, m, y, o, rfl, hm, ht, hd, g1, g2, ho, q⟩ := h
  refine ⟨_, pss_one (ps_ret (pe_and (pe_callB call_isi (by rfl) mi (by decide +kernel) (pa_cons (pv 1) (pa_cons (pe_glob (v := .ref c.bt) rfl gC rfl) pa_nil)))
    (pe_and (pe_cmpR op_eq (pe_fld (pv 0) rfl) (pe_fld (pv 1) rfl) (nomark _)) (pe_and (pe_cmpR op_eq (pe_fld (pv 0) rfl) (pe_fld (pv 1) rfl) (nomark _)) (pe_one (pe_cmpR op_eq (pe_fld (pv 0) rfl) (pe_fld (pv 1) rfl) (nomark _))))))), ?_⟩
  obtain ⟨t, ty, kt⟩ := ho.isi O ek (j := 0) (by decide)
  refine ⟨_, rfl, _, _, _, _, _, rfl, .own _, ty, kt, _, rfl, ?_⟩
  cases m with
  | btw z lo hi =>
    cases e : isTag 0 o with
    | false =>
      rw [eqM_no (m := .btw z lo hi) e] at q
      exact iteF q
    | true =>
      obtain ⟨b, n, rfl, rfl, hb, tn⟩ := ho.tag e
      cases n with
      | btw z2 lo2 hi2 =>
        obtain ⟨dx, ha⟩ := hm
        obtain ⟨dy, hb⟩ := hb
        have q' : Q (.bl (decide (z = z2) && (decide (lo = lo2) && decide (hi = hi2)))) H := by
          exact q
        refine iteT ⟨_, rfl, a, c.bt, dx, _, _, rfl, ha, O.bt.cl, n1, rfl, _, rfl, b, c.bt, dy, _, _, rfl, hb, O.bt.cl, n1, rfl, rfl, _, rfl, ?_⟩
        rw [str_dec]
        cases e1 : decide (z = z2) with
        | false =>
          rw [e1] at q'
          exact iteF q'
        | true =>
          rw [e1] at q'
          refine iteT ⟨_, rfl, a, c.bt, dx, _, _, rfl, ha, O.bt.cl, n2, rfl, _, rfl, b, c.bt, dy, _, _, rfl, hb, O.bt.cl, n2, rfl, rfl, _, rfl, ?_⟩
          rw [int_dec]
          cases e2 : decide (lo = lo2) with
          | false =>
            rw [e2] at q'
            exact iteF q'
          | true =>
            rw [e2] at q'
            refine iteT ⟨_, rfl, a, c.bt, dx, _, _, rfl, ha, O.bt.cl, n3, rfl, _, rfl, b, c.bt, dy, _, _, rfl, hb, O.bt.cl, n3, rfl, rfl, ?_⟩
            rw [int_dec]
            exact q'
      | _ => cases tn
  | _ => cases ht
theorem name_lay {z : Str} (h : NameZ z) : lay (.str z) := by
  refine ⟨rfl, ?_, Nat.zero_le _⟩
  show z.cps.all (· < 0x110000) = true
  rw [Array.all_eq_true]
  intro i hi
  have hm : z.cps[i] ∈ cs z := by simp [cs]
  have := h.1 _ hm
  exact decide_eq_true (by omega)
theorem names_shaped {zs : List Str} (h : ∀ z ∈ zs, NameZ z) : SeqAt.shaped (.tuple (zs.map PyData.str)) = true := lay_list (ds := zs.map PyData.str) fun d hd => by
  obtain ⟨z, hz, rfl⟩ := List.mem_map.mp hd
  exact name_lay (h z hz)
theorem dp_strs {H : Hp} : ∀ zs : List Str, DpAll K H (zs.map V.str) (zs.map PyData.str)
  | [] => .nil
  | z :: zs => .cons (.str z) (dp_strs zs)
theorem eqv_strs : ∀ xs ys : List Str, PyData.eqvAll (xs.map PyData.str) (ys.map PyData.str) = decide (xs = ys)
  | [], [] => rfl
  | [], _ :: _ => rfl
  | _ :: _, [] => rfl
  | x :: xs, y :: ys => by
    show (PyData.eqv (.str x) (.str y) && PyData.eqvAll (xs.map PyData.str) (ys.map PyData.str)) = _
    rw [eqv_strs xs ys]
    by_cases h : x = y
    · by_cases h2 : xs = ys
      · rw [decide_eq_true h2, h, h2]
        simp [PyData.eqv]
      · simp [h2]
    · simp [PyData.eqv, h]
theorem ok_nmeq {d : Nat} {f : Addr} {fd : FuncData} (F : Fun K "__eq__" "Named.__eq__" (sNam 9) f fd) (O : CsOk K D c) (ek : EqK K c) (gC : mg "Named" = some (.ref c.nm)) (mi : mg "isinstance" = none)
    (n1 : NoAttr K c.nm "accepted_names") : FnOk P w K mg base CX0 1 f fd ["self", "other"] (spEqC c 1 d) := by
  refine F.ok sc_nm9 spEqC_len (fun cdv A outer s H vs Q E hr h => ?_)
  obtain ⟨a, m, y, o, rfl, hm, ht, hd, g1, g2, ho, q⟩ := h
  refine ⟨_, pss_one (ps_ret (pe_and (pe_callB call_isi (by rfl) mi (by decide +kernel) (pa_cons (pv 1) (pa_cons (pe_glob (v := .ref c.nm) rfl gC rfl) pa_nil)))
    (pe_one (pe_cmpR (op_eqD hr.units) (pe_fld (pv 0) rfl) (pe_fld (pv 1) rfl) (nomark _))))), ?_⟩
  obtain ⟨t, ty, kt⟩ := ho.isi O ek (j := 1) (by decide)
  refine ⟨_, rfl, _, _, _, _, _, rfl, .own _, ty, kt, _, rfl, ?_⟩
  cases m with
  | nam zs =>
    cases e : isTag 1 o with
    | false =>
      rw [eqM_no (m := .nam zs) e] at q
      exact iteF q
    | true =>
      obtain ⟨b, n, rfl, rfl, hb, tn⟩ := ho.tag e
      cases n with
      | nam ys =>
        obtain ⟨ta, dx, ha, hta⟩ := hm
        obtain ⟨tb, dy, hb, htb⟩ := hb
        refine iteT ⟨_, rfl, a, c.nm, dx, _, _, rfl, ha, O.nm.cl, n1, rfl, _, rfl, b, c.nm, dy, _, _, rfl, hb, O.nm.cl, n1, rfl, ?_⟩
        refine ⟨.tuple (zs.map PyData.str), .tuple (ys.map PyData.str), .tup (.of hta) (dp_strs zs), .tup (.of htb) (dp_strs ys), names_shaped g1, names_shaped (g2 _ rfl), ?_⟩
        have e2 : PyData.eqv (.tuple (zs.map PyData.str)) (.tuple (ys.map PyData.str)) = eqM (.nam zs) (some (.nam ys)) := by
          show PyData.eqvAll _ _ = decide (zs = ys)
          exact eqv_strs zs ys
        rw [e2]
        exact q
      | _ => cases tn
  | _ => cases ht
end
end G

set_option Elab.async false
set_option linter.all false
set_option maxRecDepth 100000
set_option maxHeartbeats 4000000
/-! CK: is_name, is_integer, is_value, and the law's own, of things of any kind. -/
namespace G
open PySem PySem.Spec PyProof.Rows L2 NdefX
theorem scLIsName : FnScope ["_law_thing", "_law_sign"] ["_law_thing"] (defScope sLIsName) := ⟨rfl, rfl, rfl, by decide +kernel, rfl, by decide +kernel, by decide +kernel⟩
theorem scLIsNum : FnScope ["_law_thing", "_law_small", "_law_great"] ["_law_thing", "_law_small", "_law_great"] (defScope sLIsNum) := ⟨rfl, rfl, rfl, by decide +kernel, rfl, by decide +kernel, by decide +kernel⟩
theorem scLIsVal : FnScope ["_law_thing", "_law_one"] ["_law_thing"] (defScope sLIsVal) := ⟨rfl, rfl, rfl, by decide +kernel, rfl, by decide +kernel, by decide +kernel⟩
theorem take_snocK {α : Type} {l : List α} {i : Nat} {x : α} (h : l[i]? = some x) : l.take (i + 1) = l.take i ++ [x] := by
  rw [List.take_add_one, h]
  rfl
def lowB (c : Nat) : Bool := decide (c ∈ abc.cps.toList)
def nameB (z : Str) : Bool := decide (1 ≤ z.length) && decide (z.length ≤ 8) && (cs z).all lowB
def nameV : V → Bool
  | .str z => nameB z
  | _ => false
def intV (lo hi : Int) : V → Bool
  | .int i => decide (lo ≤ i) && decide (i ≤ hi)
  | _ => false
abbrev entB (p : Key × V) : Bool := nameV (kV p.1) && intV (-999) 999 p.2
def valB (kvs : List (Key × V)) : Bool := decide (1 ≤ kvs.length) && decide (kvs.length ≤ 6) && kvs.all entB
def valV' (H : Hp) : V → Bool
  | .ref a => match H a with
    | some (.dK kvs) => valB kvs
    | _ => false
  | _ => false
/-- none, a truth value, an int, a text or a list of such -/
def FlL (H : Hp) (v : V) : Prop := flatV v = true ∨ ∃ a xs, v = .ref a ∧ H a = some (.lst xs) ∧ ∀ x ∈ xs, flatV x = true
/-- a dict that can be asked -/
structure TameK (H : Hp) (kvs : List (Key × V)) : Prop where
  few : kvs.length ≤ 100
  nd : (kvs.map (·.1)).Nodup
  len : ∀ p ∈ kvs, ∀ z, p.1 = Sum.inr z → z.length ≤ 1000
  flat : ∀ p ∈ kvs, FlL H p.2
/-- a thing that can be asked -/
def Tame (H : Hp) : V → Prop
  | .str z => z.length ≤ 1000
  | .ref a => ∀ kvs, H a = some (.dK kvs) → TameK H kvs
  | _ => True
theorem rp_flat {K : PySem.W.Frag} {H : Hp} {v : V} (h : flatV v = true) : ∃ d, Rp K H v d := by
  cases v with
  | non => exact ⟨_, .non⟩
  | bl b => exact ⟨_, .bl b⟩
  | int i => exact ⟨_, .int i⟩
  | str z => exact ⟨_, .str z⟩
  | byt b => cases h
  | flt b => cases h
  | ref a => cases h
  | ty n => cases h
theorem rps_flat {K : PySem.W.Frag} {H : Hp} : ∀ {xs : List V}, (∀ x ∈ xs, flatV x = true) → ∃ ds, RpAll K H xs ds
  | [], _ => ⟨[], .nil⟩
  | x :: xs, h => by
    obtain ⟨d, hd⟩ := rp_flat (K := K) (H := H) (h x List.mem_cons_self)
    obtain ⟨ds, hds⟩ := rps_flat (K := K) (H := H) fun y hy => h y (List.mem_cons_of_mem _ hy)
    exact ⟨d :: ds, .cons hd hds⟩
theorem rp_fl {K : PySem.W.Frag} {H H' : Hp} {v : V} (h : FlL H v) (k : ∀ a xs, H a = some (.lst xs) → H' a = some (.lst xs)) : ∃ d, Rp K H' v d := by
  rcases h with h | ⟨a, xs, rfl, e, h⟩
  · exact rp_flat h
  · obtain ⟨ds, hds⟩ := rps_flat (K := K) (H := H') h
    exact ⟨_, .lst (k a xs e) hds⟩
theorem rp_key {K : PySem.W.Frag} {H : Hp} (k : Key) : ∃ d, Rp K H (kV k) d := by
  cases k with
  | inl i => exact ⟨_, .int i⟩
  | inr z => exact ⟨_, .str z⟩
def spIsNameT (K : PySem.W.Frag) : Sp := fun vs H Q _ => ∃ (v : V) (d : PyData), vs = [v] ∧ Rp K H v d ∧ (∀ z, v = .str z → z.length ≤ 1000) ∧ ∀ H', Same H H' → Q (.bl (nameV v)) H'
def spIsIntT (K : PySem.W.Frag) : Sp := fun vs H Q _ => ∃ (v : V) (d : PyData) (lo hi : Int), vs = [v, .int lo, .int hi] ∧ Rp K H v d ∧ Q (.bl (intV lo hi v)) H
def spIsValT (K : PySem.W.Frag) : Sp := fun vs H Q _ => ∃ (v : V) (d : PyData), vs = [v] ∧ Rp K H v d ∧ Tame H v ∧ ∀ H', Same H H' → Q (.bl (valV' H v)) H'
theorem small_1000 {n : Nat} (h : n ≤ 1000) : n ≤ sizeLine := by rw [sizeLine_eq]; omega
section
variable {X : Cx}
def rEqNil (K : PySem.W.Frag) : R2 := fun x y H Q => ∃ a b xs, x = .ref a ∧ y = .ref b ∧ SqL K H a xs ∧ SqL K H b [] ∧ Q (.bl xs.isEmpty) H
theorem op_eqNil (hu : X.A.units < cLine) : OpR X (compareOp .Eq) (rEqNil X.K) := by
  intro pins s σ H x y v u Q I rx ry h
  obtain ⟨a, b, xs, rfl, rfl, ha, hb, q⟩ := h
  cases (show v = Value.ref a from rx)
  cases (show u = Value.ref b from ry)
  obtain ⟨us, r1, p1, _⟩ := I.list ha
  obtain ⟨ws, r2, p2, _⟩ := I.list hb
  cases r2
  cases xs with
  | nil =>
    cases r1
    refine SeqAt.RcAt.lists (e := fun _ => true) p1.isList p2.isList rfl hu (fun j h1 h2 => absurd h1 (Nat.not_lt_zero j)) X.prog X.w _ _ ?_
    exact ⟨.bl true, H, I, rfl, q⟩
  | cons x xs =>
    refine SeqAt.RcAt.lists_lengths p1.isList p2.isList ?_ hu X.prog X.w _ _ ?_
    · have := r1.length
      rw [List.length_cons] at this
      rw [List.size_toArray, List.size_toArray, ← this]
      simp
    · exact ⟨.bl false, H, I, rfl, q⟩
end
theorem low_filter (l : List Nat) : ((l.filter fun c => !lowB c).map fun c => V.str ⟨#[c]⟩).isEmpty = l.all lowB := by
  induction l with
  | nil => rfl
  | cons c l ih =>
    rw [List.filter_cons, List.all_cons]
    cases h : lowB c with
    | true =>
      rw [if_neg (by simp)]
      rw [ih, Bool.true_and]
    | false =>
      rw [if_pos (by simp)]
      rfl
theorem ent_filter (l : List (Key × V)) : ((l.filter fun p => !entB p).map fun p => kV p.1).isEmpty = l.all entB := by
  induction l with
  | nil => rfl
  | cons c l ih =>
    rw [List.filter_cons, List.all_cons]
    cases h : entB c with
    | true =>
      rw [if_neg (by simp)]
      rw [ih, Bool.true_and]
    | false =>
      rw [if_pos (by simp)]
      rfl
theorem all_id (l : List Bool) : l.all id = l.all fun b => b := rfl
theorem map_all {α : Type} (f : α → Bool) (l : List α) : (l.map f).all id = l.all f := by rw [List.all_map]; rfl
section
variable {P : Program} {w : World} {K : PySem.W.Frag} {mg : Str → Option Value} {base : Heap}
theorem ok_isintT {f : Addr} {fd : FuncData} (F : Fun K "is_integer" "is_integer" sIsInt f fd) (mi : mg "isinstance" = none) (mn : mg "int" = none) (mb : mg "bool" = none) : FnOk P w K mg base CX0 1 f fd ["value", "low", "high"] (spIsIntT K) := by
  refine F.ok scIsInt (fun vs H Q E h => ?_) (fun cdv A outer s H vs Q E hr h => ?_)
  · obtain ⟨v, d, lo, hi, rfl, _⟩ := h
    rfl
  · obtain ⟨v, d, lo, hi, rfl, hR, q⟩ := h
    refine ⟨_, pss_cons (ps_if (PW.pt (pw_or (pt_not (pt_val (pt_isi "int" (pv 0) (hm := mi) (mn := mn)))) (pw_or1 (pt_val (pt_isi "bool" (pv 0) (hm := mi) (mn := mb)))))) (pss_one (ps_ret pe_bl)) pss_nil)
      (pss_one (ps_ret (pe_chain op_le op_le (pv 1) (pv 0) (pv 2)))), ?_⟩
    refine ⟨_, rfl, _, _, _, _, _, rfl, .ty _, rp_ty hR, kit_i d, _, rfl, ?_⟩
    cases hR with
    | non => exact iteT q
    | str z => exact iteT q
    | lst _ _ => exact iteT q
    | tup _ _ => exact iteT q
    | dic _ _ _ => exact iteT q
    | bl b => exact iteF ⟨_, rfl, _, _, _, _, _, rfl, .ty _, rp_ty (.bl b), kit_b (.bool b), _, rfl, iteT q⟩
    | int v =>
      refine iteF ⟨_, rfl, _, _, _, _, _, rfl, .ty _, rp_ty (.int v), kit_b (.int v), _, rfl, iteF ?_⟩
      refine ⟨_, rfl, _, rfl, _, _, rfl, rfl, _, rfl, ?_⟩
      have q : Q (.bl (decide (lo ≤ v) && decide (v ≤ hi))) H := q
      cases e : decide (lo ≤ v) with
      | false =>
        refine iteF ?_
        rw [e] at q
        exact q
      | true =>
        refine iteT ?_
        rw [e] at q
        exact ⟨_, rfl, _, _, rfl, rfl, q⟩
theorem ok_lisnum {f : Addr} {fd : FuncData} (F : Fun K "_law_is_number" "_law_is_number" sLIsNum f fd) (mi : mg "isinstance" = none) (mn : mg "int" = none) (mb : mg "bool" = none) : FnOk P w K mg base CX0 1 f fd ["_law_thing", "_law_small", "_law_great"] (spIsIntT K) := by
  refine F.ok scLIsNum (fun vs H Q E h => ?_) (fun cdv A outer s H vs Q E hr h => ?_)
  · obtain ⟨v, d, lo, hi, rfl, _⟩ := h
    rfl
  · obtain ⟨v, d, lo, hi, rfl, hR, q⟩ := h
    refine ⟨_, pss_one (ps_ret (pe_and (pt_isi "int" (pv 0) (hm := mi) (mn := mn)) (pe_and (pe_not (pt_isi "bool" (pv 0) (hm := mi) (mn := mb))) (pe_one (pe_chain op_le op_le (pv 1) (pv 0) (pv 2)))))), ?_⟩
    refine ⟨_, rfl, _, _, _, _, _, rfl, .ty _, rp_ty hR, kit_i d, _, rfl, ?_⟩
    cases hR with
    | non => exact iteF q
    | str z => exact iteF q
    | lst _ _ => exact iteF q
    | tup _ _ => exact iteF q
    | dic _ _ _ => exact iteF q
    | bl b => exact iteT ⟨_, rfl, _, _, _, _, _, rfl, .ty _, rp_ty (.bl b), kit_b (.bool b), _, rfl, _, rfl, iteF q⟩
    | int v =>
      refine iteT ⟨_, rfl, _, _, _, _, _, rfl, .ty _, rp_ty (.int v), kit_b (.int v), _, rfl, _, rfl, iteT ?_⟩
      refine ⟨_, rfl, _, rfl, _, _, rfl, rfl, _, rfl, ?_⟩
      have q : Q (.bl (decide (lo ≤ v) && decide (v ≤ hi))) H := q
      cases e : decide (lo ≤ v) with
      | false =>
        refine iteF ?_
        rw [e] at q
        exact q
      | true =>
        refine iteT ?_
        rw [e] at q
        exact ⟨_, rfl, _, _, rfl, rfl, q⟩
theorem ok_isnameT {f : Addr} {fd : FuncData} {t1 t2 : Tok} (F : Fun K "is_name" "is_name" sIsName f fd) (gM : mg "MOST_LETTERS" = some (.int 8 t1)) (gL : mg "LETTERS" = some (.str abc t2)) (mi : mg "isinstance" = none) (ms : mg "str" = none) (ml : mg "len" = none) (ma : mg "all" = none) :
    FnOk P w K mg base CX0 1 f fd ["value"] (spIsNameT K) := by
  refine F.ok scIsName (fun vs H Q E h => ?_) (fun cdv A outer s H vs Q E hr h => ?_)
  · obtain ⟨v, d, rfl, _⟩ := h
    rfl
  · obtain ⟨v, d, rfl, hR, hl, q⟩ := h
    refine ⟨_, pss_cons (ps_if (PW.pt (pw_or (pt_not (pt_val (pt_isi "str" (pv 0) (hm := mi) (mn := ms)))) (pw_or1 (pt_not (pt_chain op_le op_le pe_int (pe_callB call_len_str (by rfl) ml PySem.boot_len (pa_cons (pv 0) pa_nil)) (pe_glob (v := .int 8) rfl gM ⟨_, rfl⟩))))))
        (pss_one (ps_ret pe_bl)) pss_nil)
      (pss_one (ps_ret (pe_callB (cr_all rfl) (by rfl) ma (by decide +kernel) (pa_cons (pe_lc (own := [("letter", 1)]) (g := gName 1) (tt := tYes) (by rfl) scIsName.nd (pi_str (pv 0))
        (blkOk_by (own := [("letter", 1)]) (N := ["value", "letter"]) (sc := defScope sIsName) (by decide +kernel)) (fun _ _ _ _ _ => pg_name (i := 1) scIsName.nd rfl (.inl rfl)) (fun _ _ _ _ _ => pts_nil)
        (fun _ _ _ _ _ => pe_cmpR op_in_sign (pv 1) (pe_glob (v := .str abc) rfl gL ⟨_, rfl⟩) (by rfl))) pa_nil)))), ?_⟩
    refine ⟨_, rfl, _, _, _, _, _, rfl, .ty _, rp_ty hR, kit_s d, _, rfl, ?_⟩
    cases hR with
    | non => exact iteT (q H (.refl _))
    | int i => exact iteT (q H (.refl _))
    | bl b => exact iteT (q H (.refl _))
    | lst _ _ => exact iteT (q H (.refl _))
    | tup _ _ => exact iteT (q H (.refl _))
    | dic _ _ _ => exact iteT (q H (.refl _))
    | str z =>
      have l1000 := hl z rfl
      replace q : ∀ H', Same H H' → Q (.bl (nameB z)) H' := q
      refine iteF ⟨_, rfl, z, rfl, small_1000 l1000, _, _, rfl, rfl, _, rfl, ?_⟩
      unfold nameB at q
      by_cases h1 : 1 ≤ z.length
      · rw [decide_eq_true (show (1 : Int) ≤ (z.length : Int) by omega)]
        rw [decide_eq_true h1, Bool.true_and] at q
        refine iteT ⟨_, _, rfl, rfl, _, rfl, ?_⟩
        by_cases h8 : z.length ≤ 8
        · rw [decide_eq_true (show (z.length : Int) ≤ 8 by omega)]
          rw [decide_eq_true h8, Bool.true_and] at q
          refine iteF ?_
          refine ⟨_, rfl, z, rfl, fun D hD => ?_⟩
          refine lc_it walk_str (fun i H2 => Same H H2 ∧ H2 D = some (.lst ((((cs z).take i).map lowB).map V.bl))) ?_ ?_ ?_ ?_
          · exact ⟨Same.new hD, upd_same⟩
          · exact fun _ _ _ _ => trivial
          · rintro i x H2 H3 hi ⟨s2, e2⟩ ⟨rfl, c, hc, rfl⟩
            have hc2 : (cs z)[i]? = some c := by
              rw [← hc, ← Array.getElem?_toList]
            have hzs : z.cps.size = z.length := rfl
            refine ⟨rfl, ?_⟩
            unfold tYes
            dsimp only
            rw [if_pos rfl]
            refine ⟨_, rfl, c, _, rfl, rfl, _, e2, ?_, fun a o e => ?_, ?_⟩
            · rw [List.length_map, List.length_map, List.length_take]
              exact small1000 (by omega)
            · rw [upd_ne (ne_of_none e hD)]
              exact s2 _ _ e
            · rw [upd_same, take_snocK hc2, List.map_append, List.map_append]
              rfl
          · rintro H2 ⟨s2, e2⟩
            refine ⟨D, _, rfl, .of e2, ?_⟩
            rw [show (cs z).take z.cps.size = cs z from List.take_of_length_le (Nat.le_of_eq (cs_len z)), map_all]
            exact q H2 s2
        · rw [decide_eq_false (show ¬ (z.length : Int) ≤ 8 by omega)]
          rw [decide_eq_false h8, Bool.false_and] at q
          exact iteT (q H (.refl _))
      · rw [decide_eq_false (show ¬ (1 : Int) ≤ (z.length : Int) by omega)]
        rw [decide_eq_false h1, Bool.false_and, Bool.false_and] at q
        exact iteF ⟨_, rfl, iteT (q H (.refl _))⟩
theorem ok_lisname {f : Addr} {fd : FuncData} (F : Fun K "_law_is_name" "_law_is_name" sLIsName f fd) (mi : mg "isinstance" = none) (ms : mg "str" = none) (ml : mg "len" = none) :
    FnOk P w K mg base CX0 1 f fd ["_law_thing"] (spIsNameT K) := by
  refine F.ok scLIsName (fun vs H Q E h => ?_) (fun cdv A outer s H vs Q E hr h => ?_)
  · obtain ⟨v, d, rfl, _⟩ := h
    rfl
  · obtain ⟨v, d, rfl, hR, hl, q⟩ := h
    have hu0 : (A.deeper (envOfC "_law_is_name" (defScope sLIsName) s.heap.objs.size f cdv)).units < cLine := by have := hr.units; omega
    refine ⟨_, pss_cons (ps_if (PW.pt (pw_or (pt_not (pt_val (pt_isi "str" (pv 0) (hm := mi) (mn := ms)))) (pw_or1 (pt_not (pt_chain op_le op_le pe_int (pe_callB call_len_str (by rfl) ml PySem.boot_len (pa_cons (pv 0) pa_nil)) pe_int)))))
        (pss_one (ps_ret pe_bl)) pss_nil)
      (pss_one (ps_ret (pe_cmpR (op_eqNil hu0) (by exact pe_lc (own := [("_law_sign", 1)]) (g := gName 1) (by rfl) scLIsName.nd (pi_str (pv 0)) (blkOk_by (own := [("_law_sign", 1)]) (N := ["_law_thing", "_law_sign"]) (sc := defScope sLIsName) (by decide +kernel)) (fun _ _ _ _ _ => pg_name (i := 1) scLIsName.nd rfl (.inl rfl)) (fun _ _ _ _ _ => pts_one (pt_cmpR op_notIn_sign (pv 1) pe_str (by rfl))) (fun _ _ _ _ _ => pv 1)) (pe_lst pa_nil) (nomark _)))), ?_⟩
    refine ⟨_, rfl, _, _, _, _, _, rfl, .ty _, rp_ty hR, kit_s d, _, rfl, ?_⟩
    cases hR with
    | non => exact iteT (q H (.refl _))
    | int i => exact iteT (q H (.refl _))
    | bl b => exact iteT (q H (.refl _))
    | lst _ _ => exact iteT (q H (.refl _))
    | tup _ _ => exact iteT (q H (.refl _))
    | dic _ _ _ => exact iteT (q H (.refl _))
    | str z =>
      have l1000 := hl z rfl
      replace q : ∀ H', Same H H' → Q (.bl (nameB z)) H' := q
      refine iteF ⟨_, rfl, z, rfl, small_1000 l1000, _, _, rfl, rfl, _, rfl, ?_⟩
      unfold nameB at q
      by_cases h1 : 1 ≤ z.length
      · rw [decide_eq_true (show (1 : Int) ≤ (z.length : Int) by omega)]
        rw [decide_eq_true h1, Bool.true_and] at q
        refine iteT ⟨_, _, rfl, rfl, _, rfl, ?_⟩
        by_cases h8 : z.length ≤ 8
        · rw [decide_eq_true (show (z.length : Int) ≤ 8 by omega)]
          rw [decide_eq_true h8, Bool.true_and] at q
          refine iteF ?_
          refine ⟨_, rfl, z, rfl, fun D hD => ?_⟩
          refine lc_it walk_str (fun i H2 => Same H H2 ∧ H2 D = some (.lst ((((cs z).take i).filter fun c => !lowB c).map fun c => V.str ⟨#[c]⟩))) ?_ ?_ ?_ ?_
          · exact ⟨Same.new hD, upd_same⟩
          · exact fun _ _ _ _ => trivial
          · rintro i x H2 H3 hi ⟨s2, e2⟩ ⟨rfl, c, hc, rfl⟩
            have hc2 : (cs z)[i]? = some c := by
              rw [← hc, ← Array.getElem?_toList]
            have hzs : z.cps.size = z.length := rfl
            refine ⟨rfl, ?_⟩
            refine ⟨_, rfl, c, abc, rfl, rfl, _, rfl, ?_⟩
            have hx : decide (c ∈ abc.cps.toList) = lowB c := rfl
            rw [hx]
            cases hc3 : lowB c with
            | true =>
              refine iteF ⟨s2, ?_⟩
              rw [take_snocK hc2, List.filter_append, List.filter_cons, hc3, if_neg (by simp), List.filter_nil, List.append_nil]
              exact e2
            | false =>
              refine iteT ⟨_, rfl, _, e2, ?_, fun a o e => ?_, ?_⟩
              · rw [List.length_map]
                have := List.length_filter_le (fun c => !lowB c) ((cs z).take i)
                rw [List.length_take] at this
                exact small1000 (by omega)
              · rw [upd_ne (ne_of_none e hD)]
                exact s2 _ _ e
              · rw [upd_same, take_snocK hc2, List.filter_append, List.filter_cons, hc3, if_pos (by simp), List.filter_nil, List.map_append]
                rfl
          · rintro H2 ⟨s2, e2⟩
            rw [show (cs z).take z.cps.size = cs z from List.take_of_length_le (Nat.le_of_eq (cs_len z))] at e2
            refine ⟨by show 0 ≤ sizeLine; exact Nat.zero_le _, fun m hm => ?_⟩
            refine ⟨D, m, _, rfl, rfl, .of ((upd_ne (ne_of_none e2 hm)).trans e2), .of upd_same, ?_⟩
            rw [low_filter]
            exact q _ (s2.trans (Same.new hm))
        · rw [decide_eq_false (show ¬ (z.length : Int) ≤ 8 by omega)]
          rw [decide_eq_false h8, Bool.false_and] at q
          exact iteT (q H (.refl _))
      · rw [decide_eq_false (show ¬ (1 : Int) ≤ (z.length : Int) by omega)]
        rw [decide_eq_false h1, Bool.false_and, Bool.false_and] at q
        exact iteF ⟨_, rfl, iteT (q H (.refl _))⟩
theorem tame_key {H : Hp} {kvs : List (Key × V)} (h : TameK H kvs) {p : Key × V} (hp : p ∈ kvs) : ∀ z, kV p.1 = .str z → z.length ≤ 1000 := fun z e => by
  obtain ⟨k, v⟩ := p
  cases k with
  | inl i => cases e
  | inr y =>
    cases e
    exact h.len _ hp _ rfl
theorem ok_isvalT {f fN fI : Addr} {fd fdN fdI : FuncData} {t1 t2 : Tok} (F : Fun K "is_value" "is_value" sIsValue f fd) (kN : PySem.W.keepIn K (.ref fN) = true) (bN : Binds K fdN ["value"] []) (gN : mg "is_name" = some (.ref fN))
    (GN : FnOk P w K mg base CX0 1 fN fdN ["value"] (spIsNameT K)) (kI : PySem.W.keepIn K (.ref fI) = true) (bI : Binds K fdI ["value", "low", "high"] []) (gI : mg "is_integer" = some (.ref fI)) (GI : FnOk P w K mg base CX0 1 fI fdI ["value", "low", "high"] (spIsIntT K))
    (gM : mg "MOST_FIELDS" = some (.int 6 t1)) (gG : mg "GREATEST" = some (.int 999 t2)) (mi : mg "isinstance" = none) (md : mg "dict" = none) (ml : mg "len" = none) (ma : mg "all" = none) :
    FnOk P w K mg base CX0 2 f fd ["value"] (spIsValT K) := by
  refine F.ok scIsValue (fun vs H Q E h => ?_) (fun cdv A outer s H vs Q E hr h => ?_)
  · obtain ⟨v, d, rfl, _⟩ := h
    rfl
  · obtain ⟨v, d, rfl, hR, hT, q⟩ := h
    have hu := hu_of hr
    refine ⟨_, pss_cons (ps_if (PW.pt (pw_or (pt_not (pt_val (pt_isi "dict" (pv 0) (hm := mi) (mn := md)))) (pw_or1 (pt_not (pt_chain op_le op_le pe_int (pe_callB call_lenD (by rfl) ml PySem.boot_len (pa_cons (pv 0) pa_nil)) (pe_glob (v := .int 6) rfl gM ⟨_, rfl⟩))))))
        (pss_one (ps_ret pe_bl)) pss_nil)
      (pss_one (ps_ret (pe_callB (cr_all rfl) (by rfl) ma (by decide +kernel) (pa_cons (pe_lock (pe_lc (own := [("field", 1)]) (g := gName 1) (tt := tYes) (by rfl) scIsValue.nd (pi_keys (pv 0))
        (blkOk_by (own := [("field", 1)]) (N := ["value", "field"]) (sc := defScope sIsValue) (by decide +kernel)) (fun _ _ _ _ _ => pg_name (i := 1) scIsValue.nd rfl (.inl rfl)) (fun _ _ _ _ _ => pts_nil)
        (fun _ _ _ _ _ => pe_and (pe_call GN hr rfl gN kN bN .nil pass0 (pa_cons (pv 1) pa_nil)) (pe_one (pe_call GI hr rfl gI kI bI .nil pass0 (pa_cons (pe_dget hu (pv 0) (pv 1) (fun _ _ => rfl))
          (pa_cons (pe_un un_neg (pe_glob (v := .int 999) rfl gG ⟨_, rfl⟩)) (pa_cons (pe_glob (v := .int 999) rfl gG ⟨_, rfl⟩) pa_nil)))))))) pa_nil)))), ?_⟩
    refine ⟨_, rfl, _, _, _, _, _, rfl, .ty _, rp_ty hR, kit_d d, _, rfl, ?_⟩
    cases hR with
    | non => exact iteT (q H (.refl _))
    | int i => exact iteT (q H (.refl _))
    | bl b => exact iteT (q H (.refl _))
    | str z => exact iteT (q H (.refl _))
    | @lst a xs ds h _ =>
      have e : valV' H (.ref a) = false := by show (match H _ with | some (.dK kvs) => valB kvs | _ => false) = false; rw [h]
      rw [e] at q
      exact iteT (q H (.refl _))
    | @tup a xs ds h _ =>
      have e : valV' H (.ref a) = false := by show (match H _ with | some (.dK kvs) => valB kvs | _ => false) = false; rw [h]
      rw [e] at q
      exact iteT (q H (.refl _))
    | @dic d kvs ds hd _ _ =>
      have e : valV' H (.ref d) = valB kvs := by show (match H _ with | some (.dK kvs) => valB kvs | _ => false) = _; rw [hd]
      rw [e] at q
      have tm := hT kvs hd
      have few := tm.few
      unfold valB at q
      refine iteF ⟨_, rfl, d, kvs, rfl, hd, _, _, rfl, rfl, _, rfl, ?_⟩
      by_cases h1 : 1 ≤ kvs.length
      · rw [decide_eq_true (show (1 : Int) ≤ (kvs.length : Int) by omega)]
        rw [decide_eq_true h1, Bool.true_and] at q
        refine iteT ⟨_, _, rfl, rfl, _, rfl, ?_⟩
        by_cases h6 : kvs.length ≤ 6
        · rw [decide_eq_true (show (kvs.length : Int) ≤ 6 by omega)]
          rw [decide_eq_true h6, Bool.true_and] at q
          refine iteF ?_
          refine ⟨d, _, hd, trivial, fun od => ?_⟩
          refine ⟨_, rfl, d, od, rfl, .inl ⟨kvs, upd_same, fun D hD => ?_⟩⟩
          have ndD : d ≠ D := fun z => by
            rw [← z, upd_same] at hD
            cases hD
          have fD : H D = none := (upd_ne ndD.symm).symm.trans hD
          refine lc_it walk_keys (fun i H2 => But d H H2 ∧ H2 d = some (.frz od (.dK kvs)) ∧ H2 D = some (.lst (((kvs.take i).map entB).map V.bl))) ?_ ?_ ?_ ?_
          · exact ⟨but_upd But.upd fD, (upd_ne ndD).trans upd_same, upd_same⟩
          · exact fun _ _ _ h => h.2.1
          · rintro i x H2 H3 hi ⟨b2, d2, e2⟩ ⟨rfl, k, v, hk, rfl⟩
            have hm := List.mem_of_getElem? hk
            obtain ⟨dk, rk⟩ := rp_key (K := K) (H := H3) k
            have hv : valV kvs k = some v := valV_nodup tm.nd _ hm
            refine ⟨rfl, ?_⟩
            unfold tYes
            dsimp only
            rw [if_pos rfl]
            have fin : ∀ (b : Bool) (H4 : Hp), Same H3 H4 → b = entB (k, v) → ∃ acc, H4 D = some (.lst acc) ∧ acc.length < sizeLine ∧ (But d H (upd H4 D (.lst (acc ++ [V.bl b]))) ∧ (upd H4 D (.lst (acc ++ [V.bl b]))) d = some (.frz od (.dK kvs)) ∧ (upd H4 D (.lst (acc ++ [V.bl b]))) D = some (.lst (((kvs.take (i + 1)).map entB).map V.bl))) := by
              rintro b H4 s4 rfl
              refine ⟨_, s4 _ _ e2, ?_, but_upd (b2.trans (But.same s4)) fD, (upd_ne ndD).trans (s4 _ _ d2), ?_⟩
              · rw [List.length_map, List.length_map, List.length_take]
                exact small1000 (by omega)
              · rw [upd_same, take_snocK hk, List.map_append, List.map_append]
                rfl
            refine ⟨_, rfl, kV k, dk, rfl, rk, tame_key tm hm, fun H4 s4 => ⟨_, rfl, ?_⟩⟩
            cases hn : nameV (kV k) with
            | false =>
              refine iteF ?_
              exact fin false H4 s4 (by show false = (nameV (kV k) && _); rw [hn]; rfl)
            | true =>
              refine iteT ?_
              obtain ⟨dv, rv⟩ := rp_fl (K := K) (H' := H4) (tm.flat _ hm) (fun a xs e => s4 _ _ (b2 a _ (fun z => by rw [z, hd] at e; cases e) e))
              refine ⟨_, rfl, _, rfl, d, v, rfl, .inl ⟨kvs, k, .inr ⟨od, s4 _ _ d2⟩, rfl, hv.symm⟩, _, rfl, v, dv, -999, 999, rfl, rv, ?_⟩
              exact fin _ H4 s4 (by show intV (-999) 999 v = (nameV (kV k) && _); rw [hn]; rfl)
          · rintro H2 ⟨b2, d2, e2⟩
            rw [List.take_length] at e2
            refine ⟨d2, D, _, rfl, .of ((upd_ne ndD.symm).trans e2), ?_⟩
            rw [map_all]
            refine q _ fun c o e => ?_
            by_cases hc : c = d
            · rw [hc] at e ⊢
              rw [hd] at e
              rw [← e]
              exact upd_same
            · rw [upd_ne hc]
              exact b2 c o hc e
        · rw [decide_eq_false (show ¬ (kvs.length : Int) ≤ 6 by omega)]
          rw [decide_eq_false h6, Bool.false_and] at q
          exact iteT (q H (.refl _))
      · rw [decide_eq_false (show ¬ (1 : Int) ≤ (kvs.length : Int) by omega)]
        rw [decide_eq_false h1, Bool.false_and, Bool.false_and] at q
        exact iteF ⟨_, rfl, iteT (q H (.refl _))⟩
theorem ok_lisval {f fN fI : Addr} {fd fdN fdI : FuncData} (F : Fun K "_law_is_value" "_law_is_value" sLIsVal f fd) (kN : PySem.W.keepIn K (.ref fN) = true) (bN : Binds K fdN ["_law_thing"] []) (gN : mg "_law_is_name" = some (.ref fN))
    (GN : FnOk P w K mg base CX0 1 fN fdN ["_law_thing"] (spIsNameT K)) (kI : PySem.W.keepIn K (.ref fI) = true) (bI : Binds K fdI ["_law_thing", "_law_small", "_law_great"] []) (gI : mg "_law_is_number" = some (.ref fI)) (GI : FnOk P w K mg base CX0 1 fI fdI ["_law_thing", "_law_small", "_law_great"] (spIsIntT K))
    (mi : mg "isinstance" = none) (md : mg "dict" = none) (ml : mg "len" = none) :
    FnOk P w K mg base CX0 2 f fd ["_law_thing"] (spIsValT K) := by
  refine F.ok scLIsVal (fun vs H Q E h => ?_) (fun cdv A outer s H vs Q E hr h => ?_)
  · obtain ⟨v, d, rfl, _⟩ := h
    rfl
  · obtain ⟨v, d, rfl, hR, hT, q⟩ := h
    have hu := hu_of hr
    have hu0 : (A.deeper (envOfC "_law_is_value" (defScope sLIsVal) s.heap.objs.size f cdv)).units < cLine := by have := hr.units; omega
    refine ⟨_, pss_cons (ps_if (PW.pt (pw_or (pt_not (pt_val (pt_isi "dict" (pv 0) (hm := mi) (mn := md)))) (pw_or1 (pt_not (pt_chain op_le op_le pe_int (pe_callB call_lenD (by rfl) ml PySem.boot_len (pa_cons (pv 0) pa_nil)) pe_int)))))
        (pss_one (ps_ret pe_bl)) pss_nil)
      (pss_one (ps_ret (pe_cmpR (op_eqNil hu0) (pe_lock (by exact pe_lc (own := [("_law_one", 1)]) (g := gName 1) (by rfl) scLIsVal.nd (pi_keys (pv 0)) (blkOk_by (own := [("_law_one", 1)]) (N := ["_law_thing", "_law_one"]) (sc := defScope sLIsVal) (by decide +kernel)) (fun _ _ _ _ _ => pg_name (i := 1) scLIsVal.nd rfl (.inl rfl)) (fun _ _ _ _ _ => pts_one (PW.pt (pw_or (pt_not (pt_val (pe_call GN hr rfl gN kN bN .nil pass0 (pa_cons (pv 1) pa_nil)))) (pw_or1 (pt_not (pt_val (pe_call GI hr rfl gI kI bI .nil pass0 (pa_cons (pe_dget hu (pv 0) (pv 1) (fun _ _ => rfl)) (pa_cons (pe_un un_neg pe_int) (pa_cons pe_int pa_nil)))))))))) (fun _ _ _ _ _ => pv 1))) (pe_lst pa_nil) (nomark _)))), ?_⟩
    refine ⟨_, rfl, _, _, _, _, _, rfl, .ty _, rp_ty hR, kit_d d, _, rfl, ?_⟩
    cases hR with
    | non => exact iteT (q H (.refl _))
    | int i => exact iteT (q H (.refl _))
    | bl b => exact iteT (q H (.refl _))
    | str z => exact iteT (q H (.refl _))
    | @lst a xs ds h _ =>
      have e : valV' H (.ref a) = false := by show (match H _ with | some (.dK kvs) => valB kvs | _ => false) = false; rw [h]
      rw [e] at q
      exact iteT (q H (.refl _))
    | @tup a xs ds h _ =>
      have e : valV' H (.ref a) = false := by show (match H _ with | some (.dK kvs) => valB kvs | _ => false) = false; rw [h]
      rw [e] at q
      exact iteT (q H (.refl _))
    | @dic d kvs ds hd _ _ =>
      have e : valV' H (.ref d) = valB kvs := by show (match H _ with | some (.dK kvs) => valB kvs | _ => false) = _; rw [hd]
      rw [e] at q
      have tm := hT kvs hd
      have few := tm.few
      unfold valB at q
      refine iteF ⟨_, rfl, d, kvs, rfl, hd, _, _, rfl, rfl, _, rfl, ?_⟩
      by_cases h1 : 1 ≤ kvs.length
      · rw [decide_eq_true (show (1 : Int) ≤ (kvs.length : Int) by omega)]
        rw [decide_eq_true h1, Bool.true_and] at q
        refine iteT ⟨_, _, rfl, rfl, _, rfl, ?_⟩
        by_cases h6 : kvs.length ≤ 6
        · rw [decide_eq_true (show (kvs.length : Int) ≤ 6 by omega)]
          rw [decide_eq_true h6, Bool.true_and] at q
          refine iteF ?_
          refine ⟨d, _, hd, trivial, fun od => ?_⟩
          refine ⟨_, rfl, d, od, rfl, .inl ⟨kvs, upd_same, fun D hD => ?_⟩⟩
          have ndD : d ≠ D := fun z => by
            rw [← z, upd_same] at hD
            cases hD
          have fD : H D = none := (upd_ne ndD.symm).symm.trans hD
          refine lc_it walk_keys (fun i H2 => But d H H2 ∧ H2 d = some (.frz od (.dK kvs)) ∧ H2 D = some (.lst (((kvs.take i).filter fun p => !entB p).map fun p => kV p.1))) ?_ ?_ ?_ ?_
          · exact ⟨but_upd But.upd fD, (upd_ne ndD).trans upd_same, upd_same⟩
          · exact fun _ _ _ h => h.2.1
          · rintro i x H2 H3 hi ⟨b2, d2, e2⟩ ⟨rfl, k, v, hk, rfl⟩
            have hm := List.mem_of_getElem? hk
            obtain ⟨dk, rk⟩ := rp_key (K := K) (H := H3) k
            have hv : valV kvs k = some v := valV_nodup tm.nd _ hm
            refine ⟨rfl, ?_⟩
            have yes : ∀ (H4 : Hp), Same H3 H4 → entB (k, v) = true → But d H H4 ∧ H4 d = some (.frz od (.dK kvs)) ∧ H4 D = some (.lst (((kvs.take (i + 1)).filter fun p => !entB p).map fun p => kV p.1)) := by
              intro H4 s4 he
              refine ⟨b2.trans (But.same s4), s4 _ _ d2, ?_⟩
              rw [take_snocK hk, List.filter_append, List.filter_cons, he, if_neg (by simp), List.filter_nil, List.append_nil]
              exact s4 _ _ e2
            have no : ∀ (H4 : Hp), Same H3 H4 → entB (k, v) = false → ∃ acc, H4 D = some (.lst acc) ∧ acc.length < sizeLine ∧ (But d H (upd H4 D (.lst (acc ++ [kV k]))) ∧ (upd H4 D (.lst (acc ++ [kV k]))) d = some (.frz od (.dK kvs)) ∧ (upd H4 D (.lst (acc ++ [kV k]))) D = some (.lst (((kvs.take (i + 1)).filter fun p => !entB p).map fun p => kV p.1))) := by
              intro H4 s4 he
              refine ⟨_, s4 _ _ e2, ?_, but_upd (b2.trans (But.same s4)) fD, (upd_ne ndD).trans (s4 _ _ d2), ?_⟩
              · rw [List.length_map]
                have := List.length_filter_le (fun p => !entB p) (kvs.take i)
                rw [List.length_take] at this
                exact small1000 (by omega)
              · rw [upd_same, take_snocK hk, List.filter_append, List.filter_cons, he, if_pos (by simp), List.filter_nil, List.map_append]
                rfl
            refine ⟨_, rfl, kV k, dk, rfl, rk, tame_key tm hm, fun H4 s4 => ⟨_, rfl, ?_⟩⟩
            cases hn : nameV (kV k) with
            | false =>
              refine iteT ⟨_, rfl, ?_⟩
              exact no H4 s4 (by show (nameV (kV k) && _) = false; rw [hn]; rfl)
            | true =>
              refine iteF ?_
              obtain ⟨dv, rv⟩ := rp_fl (K := K) (H' := H4) (tm.flat _ hm) (fun a xs e => s4 _ _ (b2 a _ (fun z => by rw [z, hd] at e; cases e) e))
              refine ⟨_, rfl, _, rfl, d, v, rfl, .inl ⟨kvs, k, .inr ⟨od, s4 _ _ d2⟩, rfl, hv.symm⟩, _, rfl, v, dv, -999, 999, rfl, rv, _, rfl, ?_⟩
              cases hi2 : intV (-999) 999 v with
              | false => exact iteT ⟨_, rfl, no H4 s4 (by show (nameV (kV k) && intV (-999) 999 v) = false; rw [hn, hi2]; rfl)⟩
              | true => exact iteF (yes H4 s4 (by show (nameV (kV k) && intV (-999) 999 v) = true; rw [hn, hi2]; rfl))
          · rintro H2 ⟨b2, d2, e2⟩
            rw [List.take_length] at e2
            refine ⟨d2, by show 0 ≤ sizeLine; exact Nat.zero_le _, fun m hm => ?_⟩
            refine ⟨D, m, _, rfl, rfl, .of ((upd_ne (ne_of_none ((upd_ne ndD.symm).trans e2) hm)).trans ((upd_ne ndD.symm).trans e2)), .of upd_same, ?_⟩
            rw [ent_filter]
            refine q _ fun c o e => ?_
            have hc : (upd H2 d (.dK kvs)) c = some o := by
              by_cases hc : c = d
              · rw [hc] at e ⊢
                rw [hd] at e
                rw [← e]
                exact upd_same
              · rw [upd_ne hc]
                exact b2 c o hc e
            rw [upd_ne (ne_of_none hc hm)]
            exact hc
        · rw [decide_eq_false (show ¬ (kvs.length : Int) ≤ 6 by omega)]
          rw [decide_eq_false h6, Bool.false_and] at q
          exact iteT (q H (.refl _))
      · rw [decide_eq_false (show ¬ (1 : Int) ≤ (kvs.length : Int) by omega)]
        rw [decide_eq_false h1, Bool.false_and, Bool.false_and] at q
        exact iteF ⟨_, rfl, iteT (q H (.refl _))⟩
end
end G

set_option Elab.async false
set_option linter.all false
set_option maxRecDepth 100000
set_option maxHeartbeats 2000000
/-! O1: x in o, o[i], for x in o, len(o) by a class's own methods. -/
namespace G
open PySem PySem.Spec PyProof.Rows L2
/-- the class at C has its own m, the def at f -/
structure OwnM (K : PySem.W.Frag) (C : Addr) (m : Str) (f : Addr) : Prop where
  at_ : PySem.W.findIn K (.ref C) m = some (some (.ref f))
  fn : PySem.W.isFn K (.ref f) = true
section
variable {prog : Program} {w : World} {A : Around} {E : Value → Shared → Prop} {s : Shared} {K : PySem.W.Frag} {x C f : Addr} {ox : Obj} {od : Option Obj} {y : Value}
theorem in_own {Q : Bool → Shared → Prop} (X : K.In s.heap) (I : PySem.W.InstAt s.heap x ox C od) (e : OwnM K C "__contains__" f) (h : wpAny (model prog w) A (call (.ref f) [.ref x, y]) (fun v s' => ∃ b, v = .bool b ∧ Q b s') E s) :
    wpAny (model prog w) A (contains (.ref x) y) Q E s := by
  have sp : PySem.W.Looks (model prog w) s.heap (specialOf (.ref x) "__contains__") (some (.ref f)) := I.type.andThen (PySem.W.looks_findIn X e.at_)
  have hf := beq_iff_eq.mp e.fn
  unfold contains
  refine wpAny_holding ?_
  show wpAny _ _ (specialOf (.ref x) "__contains__" >>= _) _ _ _
  refine wpAny_bind (sp.here ?_)
  rw [if_neg (show ¬ ((some (Value.ref f) == some Value.none) = true) from Bool.false_ne_true)]
  unfold callSpecialUnlessNone?
  refine wpAny_bind (wpAny_bind (sp.here (wpAny_holding (wpAny_bind ((PySem.W.bind_fn X _ hf).here ?_)))))
  dsimp only
  rw [if_neg (show ¬ ((Value.ref f == Value.none) = true) from Bool.false_ne_true)]
  refine wpAny_bind (wpAny_mono h (fun v s' z => ?_) fun _ _ z => z)
  obtain ⟨b, rfl, q⟩ := z
  exact wpAny_pure (wpAny_truthy_bool q)
end
end G

set_option Elab.async false
set_option linter.all false
set_option maxRecDepth 100000
set_option maxHeartbeats 2000000
/-! O2: rules of x in o, o[i], for x in o. -/
namespace G
open PySem PySem.Spec PyProof.Rows L2 ItX
section
variable {X : Cx} {C g : Addr} {fd : FuncData} {ps : List Str} {n : Nat} {sp : Sp} {E : XK}
/-- x in o -/
def rInO (C : Addr) (sp : Sp) (E : XK) (neg : Bool) : R2 := fun x y H Q => ∃ a dx fs, y = .ref a ∧ H a = some (.ins C dx fs) ∧ sp [y, x] H (fun v H' => ∃ k : Bool, v = .bl k ∧ Q (.bl (cond neg (!k) k)) H') E
theorem in_run (e : OwnM X.K C "__contains__" g) (hb : Binds X.K fd ps []) (F : FnOk X.prog X.w X.K X.mg X.base CX0 n g fd ps sp) (hr : Room n X.A) (hx : Passes CX0 X E) {pins : List (Addr × Obj)} {σ : L2.St} {H : Hp} {s : Shared} {a dx : Addr} {fs : List (Str × V)} {x : V} {v : Value} {R : Bool → V → Hp → Prop}
    (I : Inv X pins σ H s) (rx : RelV x v) (ha : H a = some (.ins C dx fs)) {Q : Bool → Shared → Prop} (q : sp [.ref a, x] H (fun v H' => ∃ k : Bool, v = .bl k ∧ R k v H') E)
    (hq : ∀ k s' H', Inv X pins σ H' s' → R k (.bl k) H' → Q k s') : wpAny (model X.prog X.w) X.A (contains (.ref a) v) Q X.xe s := by
  obtain ⟨ox, od, J⟩ := insX_at I ha
  refine in_own I.kIn J e ?_
  refine wpAny_mono (run_fn (us := [.ref a, v]) (vs := [.ref a, x]) F hr hb .nil hx I (.cons rfl (.cons rx .nil)) q) (fun w s' z => ?_) fun _ _ x => x
  obtain ⟨z', H', I', rz, k, rfl, qz⟩ := z
  obtain rfl : w = Value.bool k := rz
  exact ⟨k, rfl, hq k s' H' I' qz⟩
theorem op_inO (e : OwnM X.K C "__contains__" g) (hb : Binds X.K fd ps []) (F : FnOk X.prog X.w X.K X.mg X.base CX0 n g fd ps sp) (hr : Room n X.A) (hx : Passes CX0 X E) : OpR X (compareOp .In) (rInO C sp E false) := by
  intro pins s σ H x y v u Q I rx ry h
  obtain ⟨a, dx, fs, rfl, ha, q⟩ := h
  cases (show u = Value.ref a from ry)
  refine wpAny_bind (in_run (R := fun k v H' => Q (.bl k) H') e hb F hr hx I rx ha q fun k s' H' I' z => ?_)
  exact wpAny_pure ⟨.bl k, H', I', rfl, z⟩
theorem op_ninO (e : OwnM X.K C "__contains__" g) (hb : Binds X.K fd ps []) (F : FnOk X.prog X.w X.K X.mg X.base CX0 n g fd ps sp) (hr : Room n X.A) (hx : Passes CX0 X E) : OpR X (compareOp .NotIn) (rInO C sp E true) := by
  intro pins s σ H x y v u Q I rx ry h
  obtain ⟨a, dx, fs, rfl, ha, q⟩ := h
  cases (show u = Value.ref a from ry)
  refine wpAny_bind (in_run (R := fun k v H' => Q (.bl (!k)) H') e hb F hr hx I rx ha q fun k s' H' I' z => ?_)
  exact wpAny_pure ⟨.bl (!k), H', I', rfl, z⟩
/-- o[i] -/
def tGetO (C : Addr) (sp : Sp) (E : XK) (ta ti : TE) : TE := fun σ H Q => ta σ H fun x H1 => ti σ H1 fun y H2 => ∃ a dx fs, x = .ref a ∧ H2 a = some (.ins C dx fs) ∧ sp [x, y] H2 Q E
theorem pe_getO {e i : Expr} {pos : Pos} {ta ti : TE} (m : OwnM X.K C "__getitem__" g) (hf : PySem.W.fnIn X.K g = true) (hb : Binds X.K fd ps []) (F : FnOk X.prog X.w X.K X.mg X.base CX0 n g fd ps sp) (hr : Room (n + 1) X.A) (he : PE X e ta) (hi : PE X i ti)
    (hsl : ∀ (a : Addr) (v : Value), subscripted i true (.ref a) v = runValue (.builtin "lifetime.subscript" ⟨[.ref a, v], []⟩) := by intro _ _; with_unfolding_all rfl) : PE X (.Subscript e i pos) (tGetO C sp E0 ta ti) := by
  refine ⟨fun pins s σ H Q I h => ?_⟩
  refine Subscript_ (thn (he.run pins s σ H _ I h) fun v s1 ⟨x, H1, I1, r1, q1⟩ => thn (hi.run pins s1 σ H1 _ I1 q1) fun u s2 ⟨y, H2, I2, r2, a, dx, fs, ex, ha, q⟩ => ?_)
  subst ex
  obtain rfl : v = Value.ref a := r1
  obtain ⟨ox, od, J⟩ := insX_at I2 ha
  obtain ⟨mm, hF⟩ := I2.fr
  refine PySem.W.sub_K hF I2.ok.mod.kin J m.at_ hf m.fn ?_ (hsl a u)
  have hl : ([Value.ref a, u] ++ []).length = ps.length := by
    have := F.len _ _ _ _ q
    exact this
  refine wpAny_call (codeAny_mono (F.run X.A.in1 X.stack s2 H2 ⟨[.ref a, u], []⟩ ([.ref a, u] ++ []) [.ref a, y] _ E0 hr.in1 I2.env0.in1 (hb s2 [.ref a, u] I2.kIn hl) (.cons rfl (.cons r2 .nil)) q) fun r s' hq => ?_)
  cases r with
  | error e => exact False.elim hq
  | ok fl =>
    cases fl with
    | ret u => exact I2.after hq
    | next => exact False.elim hq
    | brk => exact False.elim hq
    | cont => exact False.elim hq
end
/-! ### for x in o -/
/-- as FnOk, its promise knows how many objects there were -/
structure FnS (P : Program) (w : World) (K : PySem.W.Frag) (mg : Str → Option Value) (base : Heap) (k : Nat) (f : Addr) (fd : FuncData) (ps : List Str) (sp : Nat → Sp) : Prop where
  go : ∀ (A : Around) (outer : List Env) (s : Shared) (H : Hp) (args : Args) (us : List Value) (vs : List V) (Q : VK) (E : XK),
    Room k A → Env0 P w K mg base A outer s H → BindsTo s fd args (ps.zip us) → Vals vs us → sp s.heap.objs.size vs H Q E → codeAny (model P w) A (.call (.ref f) args) (CR CX0 outer P w H s Q E) s
section
variable {P : Program} {w : World} {K : PySem.W.Frag} {mg : Str → Option Value} {base : Heap}
theorem FnS.of_body {x qual : Str} {st : Stmt} {f : Addr} {fd : FuncData} {N ps : List Str} {k : Nat} {sp : Nat → Sp} (F : Fun K x qual st f fd) (S : FnScope N ps (defScope st))
    (size : ∀ n vs H Q E, sp n vs H Q E → vs.length = ps.length)
    (body : ∀ (cdv : Value) (A : Around) (outer : List Env) (s : Shared) (H : Hp) (vs : List V) (Q : VK) (E : XK),
      Room k (A.deeper (envOfC qual (defScope st) s.heap.objs.size f cdv)) → sp s.heap.objs.size vs H Q E →
      ∃ t, PSs (cxOf CX0 P w K mg base N qual (defScope st) f cdv A outer s H E).nox (defBody st) t ∧ t { nx := fun _ H' => Q .non H', rt := Q } (start N vs) H) :
    FnS P w K mg base (k + 1) f fd ps sp := by
  obtain ⟨_, _, _, _, _, _, cdv, _, _, rfl, lk, hcd⟩ := F.ex
  refine ⟨fun A outer s H args us vs Q E hr e0 hb r h => ?_⟩
  have inS : K.In s.heap := e0.mod.kin.keeps fun b o e => (e0.bs b o e).1
  have noL : s.heap.NoLimit := e0.mod.nolimit.keeps fun b o e => (e0.bs b o e).1
  refine codeAny_call_function hr.depth (inS _ _ lk) rfl S.co S.gen rfl
    (PySem.W.codeRec_of inS hcd) (hb _ _ _ _ ?_)
  refine wpAny_newFunctionEnv_cells S.kind
    (fun ⟨n, v⟩ hy => ?_) fun env he s1 x => ?_
  · rcases S.par n (List.of_mem_zip hy).1 with q | q
    · exact Or.inl q
    · exact Or.inr ⟨q, PySem.W.cellsFrom_some _ _ _ (Or.inl q)⟩
  · subst he
    refine ⟨noL.keeps x.toInCall.keep, codeAny_func ?_⟩
    obtain ⟨t, ht, hq⟩ := body cdv A outer s H vs Q E (hr.deeper _) h
    have J := inv_start (CX := CX0) (P := P) (w := w) (K := K) (mg := mg) (base := base) (E := E) S hr.hd e0 (size _ _ _ _ _ h) r x
    refine wpAny_mono (ht.nox.run [] s1 (start N vs) H _ J hq) (fun fl s' z => ?_) fun e s' z => z
    cases fl with
    | ret u =>
      obtain ⟨v, σ', H', J', rv, q⟩ := z
      exact ⟨v, H', J'.os, J'.bare, J'.base, J'.hok, rv, q⟩
    | next =>
      obtain ⟨σ', H', J', q⟩ := z
      exact ⟨.non, H', J'.os, J'.bare, J'.base, J'.hok, rfl, q⟩
    | brk =>
      obtain ⟨_, _, _, q⟩ := z
      exact q.elim
    | cont =>
      obtain ⟨_, _, _, q⟩ := z
      exact q.elim
end
/-- an __iter__ that gives the iterator of the list in the field fld -/
def spIter (K : PySem.W.Frag) (C : Addr) (fld : Str) (n : Nat) : Sp := fun vs H Q _ => ∃ (a dx l : Addr) (fs : List (Str × V)) (xs : List V), vs = [.ref a] ∧ H a = some (.ins C dx fs) ∧ fs.lookup fld = some (.ref l) ∧ SqL K H l xs ∧
  ∀ it, H it = none → n ≤ it → Q (.ref it) (upd H it (ItO l it 0))
def iOwn (K : PySem.W.Frag) (C : Addr) (fld : Str) (te : TE) : TI := fun σ H R => te σ H fun x H1 => ∃ (a dx l : Addr) (fs : List (Str × V)) (xs : List V), x = .ref a ∧ H1 a = some (.ins C dx fs) ∧ fs.lookup fld = some (.ref l) ∧ SqL K H1 l xs ∧ R (Itl K l) H1
theorem pi_own {X : Cx} {C g : Addr} {fd : FuncData} {n : Nat} {fld : Str} {e tg : Expr} {te : TE} (he : PE X e te) (m : OwnM X.K C "__iter__" g) (hb : Binds X.K fd ["self"] []) (F : FnS X.prog X.w X.K X.mg X.base n g fd ["self"] (spIter X.K C fld)) (hr : Room n X.A) : PI X tg e (iOwn X.K C fld te) := by
  refine ⟨fun pins s σ H R I h => ?_⟩
  refine thn (he.run pins s σ H _ I h) fun u s1 ⟨x, H1, I1, rx, a, dx, l, fs, xs, ex, ea, lk, sq, q⟩ => ?_
  subst ex
  obtain rfl : u = Value.ref a := rx
  obtain ⟨ox, od, J⟩ := insX_at I1 ea
  obtain ⟨mm, hF⟩ := I1.fr
  refine PySem.W.owit_iter hF I1.ok.mod.kin J m.at_ m.fn ?_
  refine wpAny_call (codeAny_mono (F.go X.A X.stack s1 H1 ⟨[Value.ref a], []⟩ ([Value.ref a] ++ []) [V.ref a] (fun v H2 => ∃ it, v = .ref it ∧ H1 it = none ∧ X.s_0.heap.objs.size ≤ it ∧ H2 = upd H1 it (ItO l it 0)) E0 hr I1.env0 (hb s1 [Value.ref a] I1.kIn rfl) (show Vals [V.ref a] [Value.ref a] from .cons rfl .nil)
    ⟨a, dx, l, fs, xs, rfl, ea, lk, sq, fun it hn hs => ⟨it, rfl, hn, Nat.le_trans I1.sz hs, rfl⟩⟩) fun r s' hq => ?_)
  cases r with
  | error e => exact False.elim hq
  | ok fl =>
    cases fl with
    | ret u =>
      obtain ⟨v, H', I2, rv, it, rfl, hn, hs, rfl⟩ := I1.after hq
      cases (show u = Value.ref it from rv)
      have hi : (upd H1 it (ItO l it 0)) it = some (ItO l it 0) := upd_same
      have eo := itO_get I2 hi
      have st : s'.heap.IsListIter it l (0 : Nat) := ⟨_, eo, rfl, rfl⟩
      have hT : s'.TypeIs (.ref it) "list_iterator" := ⟨_, eo, rfl⟩
      unfold PySem.W.OwitIt
      refine wpAny_specialOf (name := Str.ofString "__next__") hT slot_listiter_next.lookup ?_
      have hi' := hi
      unfold ItO at hi'
      have ed : dropH (upd H1 it (ItO l it 0)) it = H1 := by
        funext b
        by_cases hb : b = it
        · rw [hb, hn]
          exact dropH_same
        · rw [dropH_ne hb, upd_ne hb]
      refine ⟨it, [it], _, _, dropH (upd H1 it (ItO l it 0)) it, rfl, inv_drop I2 hi', turn_list l it, st, fun b hb => ?_, ?_⟩
      · have e : b = it := by simpa using hb
        rw [e]
        exact inv_fp I2 hi hs
      · rw [ed]
        exact q
    | next => exact False.elim hq
    | brk => exact False.elim hq
    | cont => exact False.elim hq
end G

set_option Elab.async false
set_option linter.all false
set_option maxRecDepth 100000
set_option maxHeartbeats 2000000
/-! O3: xs[::-1], isinstance(x, (list, tuple)), lists of the same things compared. -/
namespace G
open PySem PySem.Spec PyProof.Rows L2 HT
theorem pick_rev (its : List Value) : slicePick its.toArray none none (some (-1)) = its.reverse.toArray := by
  have e : ∀ k, k ≤ its.length → (((List.range k).map fun (m : Nat) => (((its.length : Nat) : Int) - 1 + (-1) * (m : Int)).toNat).filterMap fun j => its.toArray[j]?) = its.reverse.take k := by
    intro k
    induction k with
    | zero =>
      intro _
      simp
    | succ k ih =>
      intro hk
      rw [List.range_succ, List.map_append, List.filterMap_append, ih (by omega), List.take_add_one]
      congr 1
      have e1 : (((its.length : Nat) : Int) - 1 + (-1) * (k : Int)).toNat = its.length - 1 - k := by omega
      have hk2 : its.length - 1 - k < its.length := by omega
      simp only [List.map_cons, List.map_nil, List.filterMap_cons, List.filterMap_nil]
      rw [e1, List.getElem?_toArray, List.getElem?_eq_getElem hk2, List.getElem?_reverse (by omega)]
      simp [hk2]
  have r : sliceRange ((its.length : Int) - 1) (-1) (-1) = (List.range its.length).map fun (m : Nat) => (((its.length : Nat) : Int) - 1 + (-1) * (m : Int)).toNat := by
    unfold sliceRange
    have c : (if (-1 : Int) > 0 then (if (its.length : Int) - 1 < -1 then ((-1) - ((its.length : Int) - 1) + (-1) - 1) / (-1) else 0) else (if (its.length : Int) - 1 > -1 then ((its.length : Int) - 1 - (-1) - (-1) - 1) / (-(-1)) else 0)).toNat = its.length := by
      rw [if_neg (by decide)]
      split
      · rw [show (-(-1) : Int) = 1 by decide, Int.ediv_one]
        omega
      · omega
    show (List.range _).map _ = _
    rw [c]
  have b : sliceBounds none none (some (-1)) its.toArray.size = ((its.length : Int) - 1, -1, -1) := by
    rw [List.size_toArray]
    rfl
  unfold slicePick
  rw [b]
  dsimp only
  rw [r, e _ (Nat.le_refl _), List.take_of_length_le (by rw [List.length_reverse]; exact Nat.le_refl _)]
def tBackL (K : PySem.W.Frag) (te : TE) (tp : TO) : TE := fun σ H Q => te σ H fun x H1 => tp σ H1 fun o H2 => ∃ a xs, x = .ref a ∧ SqL K H2 a xs ∧ o = some (-1) ∧ ∀ p, H2 p = none → Q (.ref p) (upd H2 p (.lst xs.reverse))
theorem pe_backL {X : Cx} {e st : Expr} {te : TE} {tp : TO} {p3 pos : Pos} (he : PE X e te) (hst : PO X (some st) tp)
    (hsub : ∀ a l : Addr, subscripted (.Slice none none (some st) p3) false (.ref a) (.ref l) = operate [.ref a, .ref l] (getItem (.ref a) (.ref l)) := by intro _ _; with_unfolding_all rfl) :
    PE X (.Subscript e (.Slice none none (some st) p3) pos) (tBackL X.K te tp) := by
  refine ⟨fun pins s σ H Q I h => ?_⟩
  refine Subscript_ (thn (he.run pins s σ H _ I h) fun v s1 ⟨x, H1, I1, r1, q1⟩ => ?_)
  refine wpAny_Slice (thn (po_none.run pins s1 σ H1 (fun o H2 => o = none ∧ H2 = H1) I1 ⟨rfl, rfl⟩) fun vl s2 ⟨l, H2, I2, pl, el, e2⟩ => ?_)
  subst el e2
  refine thn (po_none.run pins s2 σ H2 (fun o H3 => o = none ∧ H3 = H2) I2 ⟨rfl, rfl⟩) fun vu s3 ⟨u, H3, I3, pu, eu, e3⟩ => ?_
  subst eu e3
  refine thn (hst.run pins s3 σ H3 _ I3 q1) fun vs s4 ⟨o, H4, I4, ps, a, xs, ex, hx, eo, q⟩ => ?_
  subst ex eo
  cases r1
  have I5 : Inv X pins σ H4 { s4 with heap := s4.heap.push { cls := .type "slice", data := .fields #[vl, vu, vs] } } := I4.kept (t' := s4.toks) fun b ob q => Heap.get?_push_of_some _ q
  obtain ⟨its, r, ht, hz⟩ := I5.list hx
  have hlen : its.length = xs.length := r.length.symm
  show wpAny (model X.prog X.w) X.A (subscriptTail e (.Slice none none (some st) p3) (.ref a) (.ref s4.heap.objs.size)) (EP X pins σ Q) X.xe { s4 with heap := s4.heap.push { cls := .type "slice", data := .fields #[vl, vu, vs] } }
  refine tail_any (ops := [.ref a, .ref s4.heap.objs.size]) ht.isList.typeIs slot_list_getitem.lookup ?_ (hsub _ _)
  refine wpAny_getItem_list_slice ht.isList (Heap.IsSliceOf.new _ _ _ _) pl pu ps (by decide) ?_ (by rw [List.size_toArray]; omega)
  rw [pick_rev]
  refine ⟨.ref _, _, I5.laid (t' := s4.toks) (o := .lst xs.reverse) (fun b ob q => Heap.get?_push_of_some _ q) (Nat.le_refl _) ?_, rfl, q _ (I5.hok.fresh (Nat.le_refl _))⟩
  exact ⟨by rw [List.length_reverse]; exact hz, _, 0, Vals.reverse r, Heap.get?_push_size _ rfl⟩
/-! ### isinstance(x, (list, tuple)) -/
def tIsLT (K : PySem.W.Frag) (te : TE) : TE := fun σ H Q => te σ H fun x H1 => (∃ t xs, x = .ref t ∧ (SqL K H1 t xs ∨ SqT K H1 t xs)) ∧ ∀ T, H1 T = none → Q (.bl true) (upd H1 T (.tup [.ty "list", .ty "tuple"]))
theorem lt_list (t : Addr) : AnswersAll (fun s => s.TypeIs (.ref t) "list") (.ref t) [.type "list", .type "tuple"] [true, false] :=
  ⟨Answers.of_true PySem.F.isi_meta_list sub_list_self, Answers.of_false_list (by decide +kernel) PySem.F.isi_meta_tuple PySem.F.sub_list_tuple, True.intro⟩
theorem lt_tuple (t : Addr) : AnswersAll (fun s => s.TypeIs (.ref t) "tuple") (.ref t) [.type "list", .type "tuple"] [false, true] :=
  ⟨Answers.of_false_tuple (by decide +kernel) PySem.F.isi_meta_list PySem.F.sub_tuple_list, Answers.of_true PySem.F.isi_meta_tuple PySem.F.isi_sub_tuple, True.intro⟩
theorem pe_isiLT {X : Cx} {p pos tpos : Pos} {e : Expr} {es : List Expr} {te : TE} {k : Nat} (he : PE X e te) (hg : Gl X "isinstance") (hm : X.mg "isinstance" = none) (hes : PA X es (tCons (tC (.ty "list")) (tCons (tC (.ty "tuple")) tNil)))
    (n1 : starEach [e, .Tuple es k tpos] X.env = (false, eval e X.env) :: starEach [.Tuple es k tpos] X.env := by rfl) (n2 : starEach [.Tuple es k tpos] X.env = (false, eval (.Tuple es k tpos) X.env) :: starEach [] X.env := by rfl)
    (n3 : (backTo pos (starEach [.Tuple es k tpos] X.env)).any (·.1) = false := by rfl) : PE X (.Call (.Name "isinstance" p) [e, .Tuple es k tpos] [] pos) (tIsLT X.K te) := by
  refine ⟨fun pins s σ H Q I h => ?_⟩
  refine wpAny_Call_Name_kw (ld_blt I hg hm PyProof.Rows.boot_isinstance ?_ (by decide) (by decide))
  refine PyProof.Rows.callWith_builtin1 ?_ n1 n3
  rw [n1]
  show wpAny _ _ (spliced ((false, eval e X.env) :: backTo pos (starEach [.Tuple es k tpos] X.env))) _ _ s
  refine Calls.spliced_cons (thn (he.run pins s σ H _ I h) fun u s1 ⟨x, H1, I1, r1, ⟨t, xs, ex, hT⟩, q1⟩ => ?_)
  subst ex
  obtain rfl : u = Value.ref t := r1
  rw [n2]
  show wpAny _ _ (spliced ((false, eval (.Tuple es k tpos) X.env) :: backTo pos (starEach [] X.env))) _ _ s1
  refine Calls.spliced_cons (wpAny_Tuple_spliced (thn (hes.run tpos pins s1 σ H1 (fun ys H' => ys = [.ty "list", .ty "tuple"] ∧ H' = H1) I1 ⟨rfl, rfl⟩) fun us s2 ⟨ys, H2, I2, r2, ey, eH⟩ => ?_))
  subst ey eH
  have eu := vals_ty2 r2
  subst eu
  have two : 2 ≤ sizeLine := by rw [sizeLine_eq]; omega
  refine ⟨two, ?_⟩
  have fresh := I2.hok.fresh (Nat.le_refl s2.heap.objs.size)
  have I3 := I2.laid (a := s2.heap.objs.size) (o := .tup [.ty "list", .ty "tuple"]) (h' := s2.heap.push { cls := .type "tuple", data := .seq [Value.type "list", Value.type "tuple"].toArray }) (t' := s2.toks) (fun b u e => Heap.get?_push_of_some _ e) (Nat.le_refl _)
    ⟨two, [.type "list", .type "tuple"], r2, ⟨_, Heap.get?_push_size _ rfl, rfl, _, rfl⟩⟩
  refine Calls.spliced_nil ?_
  rcases hT with hT | hT
  · obtain ⟨its, _, pl, _⟩ := I2.list hT
    obtain ⟨o, ho, hc, _⟩ := pl.isList
    exact call_isinstance (isinstance_tuple (x := .ref t) (Tx := "list") (tp := s2.heap.objs.size) (lt_list t)) ⟨⟨o, Heap.get?_push_of_some _ ho, hc⟩, Heap.get?_push_size _ rfl, fun tk => ⟨.bl true, _, I3.tok tk, rfl, q1 _ fresh⟩⟩
  · obtain ⟨its, _, ⟨o, ho, hc, _⟩, _⟩ := I2.tuple hT
    exact call_isinstance (isinstance_tuple (x := .ref t) (Tx := "tuple") (tp := s2.heap.objs.size) (lt_tuple t)) ⟨⟨o, Heap.get?_push_of_some _ ho, hc⟩, Heap.get?_push_size _ rfl, fun tk => ⟨.bl true, _, I3.tok tk, rfl, q1 _ fresh⟩⟩
/-! ### lists of the same things -/
def sameB : V → Bool
  | .ref _ => true
  | v => flatB v
theorem items_same {A : Around} {s : Shared} : ∀ {xs : List V} {us ws : List Value}, (∀ v ∈ xs, sameB v = true) → Vals xs us → Vals xs ws → ∀ j (h1 : j < us.length) (h2 : j < ws.length), SeqAt.EqAt A s us[j] ws[j] true
  | [], _, _, _, .nil, .nil, j, h1, _ => absurd h1 (Nat.not_lt_zero j)
  | x :: xs, _, _, hf, .cons r1 t1, .cons r2 t2, 0, _, _ => by
    have f := hf x List.mem_cons_self
    cases x with
    | ref a =>
      cases r1
      cases r2
      exact SeqAt.EqAt.same _
    | _ => exact eqAt_same r1 r2 f
  | x :: xs, _, _, hf, .cons r1 t1, .cons r2 t2, j + 1, h1, h2 => items_same (fun v hv => hf v (List.mem_cons_of_mem _ hv)) t1 t2 j (Nat.lt_of_succ_lt_succ h1) (Nat.lt_of_succ_lt_succ h2)
section
variable {X : Cx}
def rNeS (K : PySem.W.Frag) : R2 := fun x y H Q => ∃ a b xs, x = .ref a ∧ y = .ref b ∧ SqL K H a xs ∧ SqL K H b xs ∧ (∀ v ∈ xs, sameB v = true) ∧ Q (.bl false) H
theorem op_neS (hu : X.A.units < cLine) : OpR X (compareOp .NotEq) (rNeS X.K) := by
  intro pins s σ H x y v u Q I rx ry h
  obtain ⟨a, b, xs, rfl, rfl, ha, hb, hf, q⟩ := h
  cases (show v = Value.ref a from rx)
  cases (show u = Value.ref b from ry)
  obtain ⟨us, r1, p1, _⟩ := I.list ha
  obtain ⟨ws, r2, p2, _⟩ := I.list hb
  have hsz : us.toArray.size = ws.toArray.size := by rw [List.size_toArray, List.size_toArray, ← r1.length, ← r2.length]
  refine SeqAt.RcNeAt.lists (e := fun _ => true) p1.isList p2.isList hsz hu (fun j h1 h2 => ?_) X.prog X.w _ _ ?_
  · have k := items_same (A := X.A.in1) (s := s) hf r1 r2 j (by simpa using h1) (by simpa using h2)
    simpa using k
  · rw [show ((List.range us.toArray.size).all fun _ => true) = true from List.all_eq_true.mpr fun _ _ => rfl]
    exact ⟨.bl false, H, I, rfl, q⟩
end
end G

set_option Elab.async false
set_option linter.all false
set_option maxRecDepth 100000
set_option maxHeartbeats 2000000
/-! O4: dicts of ints compared; a list compared with an empty one; things in a drawn order. -/
namespace G
open PySem PySem.Spec PyProof.Rows L2
def dEq (ks ls : List (Key × V)) : Bool := ks.length == ls.length && ks.all fun p => decide (valV ls p.1 = some p.2)
def AllInt (ks : List (Key × V)) : Prop := ∀ p ∈ ks, ∃ i, p.2 = V.int i
theorem int_valV {ls : List (Key × V)} (h : AllInt ls) {k : Key} {v : V} (e : valV ls k = some v) : ∃ i, v = V.int i := by
  have h2 : Option.map (fun p : Key × V => p.2) (ls.find? fun kv => decide (kv.1 = k)) = some v := e
  obtain ⟨p, hp, rfl⟩ := Option.map_eq_some_iff.mp h2
  exact h p (List.mem_of_find?_eq_some hp)
theorem hits_int {A : Around} {s : Shared} {ls : List (Key × V)} {vb : List (Key × Value)} (rb : KV ls vb) (hl : AllInt ls) {ks : List (Key × V)} {va : List (Key × Value)} (ra : KV ks va) :
    AllInt ks → PySem.W.KeqHits A s vb va (ks.all fun p => decide (valV ls p.1 = some p.2)) := by
  unfold KV at ra
  induction ra with
  | nil => intro _; exact .nil
  | @cons p q ps qs h t ih =>
    intro hp
    obtain ⟨h1, h2⟩ := h
    obtain ⟨i, ei⟩ := hp p List.mem_cons_self
    have ih' := ih fun p' hm => hp p' (List.mem_cons_of_mem _ hm)
    obtain ⟨k, v⟩ := q
    have h1' : p.1 = k := h1
    subst h1'
    rw [ei] at h2
    obtain ⟨t1, rfl⟩ := (show ∃ t, v = Value.int i t from h2)
    rw [List.all_cons]
    cases e : valV ls p.1 with
    | none =>
      have rr : RelO none (valueAt vb p.1) := by rw [← e]; exact rb.val p.1
      have hn : valueAt vb p.1 = none := by
        cases z : valueAt vb p.1 with
        | none => rfl
        | some y =>
          rw [z] at rr
          exact rr.elim
      rw [decide_eq_false (show ¬ (none = some p.2) from fun z => nomatch z), Bool.false_and]
      exact .miss hn
    | some x =>
      obtain ⟨j, rfl⟩ := int_valV hl e
      have rr : RelO (some (.int j)) (valueAt vb p.1) := by rw [← e]; exact rb.val p.1
      obtain ⟨y, hy, ry⟩ := rr.some_of
      obtain ⟨t2, rfl⟩ := (show ∃ t, y = Value.int j t from ry)
      rw [ei]
      have q := SeqAt.EqAt.int_int (A := A) (s := s) i t1 j t2
      have e2 : decide (some (V.int j) = some (V.int i)) = (i == j) := by
        by_cases z : i = j
        · rw [z, decide_eq_true rfl]
          exact (beq_self_eq_true _).symm
        · rw [decide_eq_false fun h => z (V.int.inj (Option.some.inj h)).symm]
          exact (Bool.eq_false_iff.mpr fun h => z (beq_iff_eq.mp h)).symm
      rw [e2]
      exact .hit hy q ih'
section
variable {X : Cx}
def rNeDI : R2 := fun x y H Q => ∃ a b ks ls, x = .ref a ∧ y = .ref b ∧ H a = some (.dK ks) ∧ H b = some (.dK ls) ∧ AllInt ks ∧ AllInt ls ∧ Q (.bl (!dEq ks ls)) H
theorem op_neDI (hu : X.A.units < cLine) : OpR X (compareOp .NotEq) rNeDI := by
  intro pins s σ H x y v u Q I rx ry h
  obtain ⟨a, b, ks, ls, rfl, rfl, ea, eb, ik, il, q⟩ := h
  obtain rfl : v = Value.ref a := rx
  obtain rfl : u = Value.ref b := ry
  obtain ⟨_, ya, va, ra, da⟩ := (show ObjOk X.prog X.w H s.heap a (.dK ks) from I.hok a _ ea)
  obtain ⟨_, yb, vb, rb, db⟩ := (show ObjOk X.prog X.w H s.heap b (.dK ls) from I.hok b _ eb)
  have e : dEq ks ls = (va.length == vb.length && ks.all fun p => decide (valV ls p.1 = some p.2)) := by
    rw [← ra.length, ← rb.length]
    rfl
  exact PySem.W.keq_ne (knd := mixKind X.prog X.w) ya yb da db hu (fun _ => hits_int rb il ra ik) (fin_bl I q (by rw [e]))
def rNeNil (K : PySem.W.Frag) : R2 := fun x y H Q => ∃ a b xs, x = .ref a ∧ y = .ref b ∧ SqL K H a xs ∧ SqL K H b [] ∧ Q (.bl (!xs.isEmpty)) H
theorem op_neNil (hu : X.A.units < cLine) : OpR X (compareOp .NotEq) (rNeNil X.K) := by
  intro pins s σ H x y v u Q I rx ry h
  obtain ⟨a, b, xs, rfl, rfl, ha, hb, q⟩ := h
  cases (show v = Value.ref a from rx)
  cases (show u = Value.ref b from ry)
  obtain ⟨us, r1, p1, _⟩ := I.list ha
  obtain ⟨ws, r2, p2, _⟩ := I.list hb
  cases r2
  cases xs with
  | nil =>
    cases r1
    refine SeqAt.RcNeAt.lists (e := fun _ => true) p1.isList p2.isList rfl hu (fun j h1 h2 => absurd h1 (Nat.not_lt_zero j)) X.prog X.w _ _ ?_
    exact ⟨.bl false, H, I, rfl, q⟩
  | cons x xs =>
    refine SeqAt.RcNeAt.lists_lengths p1.isList p2.isList ?_ hu X.prog X.w _ _ ?_
    · have := r1.length
      rw [List.length_cons] at this
      rw [List.size_toArray, List.size_toArray, ← this]
      rfl
    · exact ⟨.bl true, H, I, rfl, q⟩
end
/-- things in a drawn order -/
def spMixR (K : PySem.W.Frag) : Sp := fun vs H Q _ => ∃ (b a : Addr) (n : Nat) (xs : List V), vs = [.ref b, .ref a] ∧ BoxAt H b n ∧ n + xs.length ≤ 100000 ∧ SqL K H a xs ∧
  ∀ (p : Addr) (H' : Hp) (ys : List V), ys.Perm xs → H p = none → H' p = some (.lst ys) → BoxAt H' b (n + xs.length) → But b H H' → Q (.ref p) H'
section
variable {P : Program} {w : World} {K : PySem.W.Frag} {mg : Str → Option Value} {base : Heap}
theorem ok_mixR {f fT : Addr} {fd fdT : FuncData} (F : Fun K "_law_mixed" "_law_mixed" sMixed f fd) (T : Fun K "_law_take" "_law_take" sTake fT fdT) (bT : Binds K fdT ["_law_box_here", "_law_many"] []) (gT : mg "_law_take" = some (.ref fT))
    (ml : mg "len" = none) (mL : mg "list" = none) : FnOk P w K mg base CX0 2 f fd ["_law_box_here", "_law_some"] (spMixR K) := by
  refine F.ok scMixed (fun vs H Q E h => ?_) (fun cdv A outer s H vs Q E hr h => ?_)
  · obtain ⟨b, a, n, ps, rfl, _⟩ := h
    rfl
  · obtain ⟨b, a, n, ps, rfl, B, hn, hS, q⟩ := h
    have big : ∀ {k : Nat}, k ≤ 100000 → k < sizeLine := fun {k} h => by
      rw [sizeLine_eq]
      omega
    refine ⟨_, pss_cons (ps_par (i := 2) (j := 3) (by rfl) scMixed.nd rfl rfl (by decide) rfl rfl (pa_cons (pe_callTy call_list_of (by rfl) mL (by decide +kernel) (pa_cons (pv 1) pa_nil)) (pa_cons (pe_lst pa_nil) pa_nil)) (by rfl))
      (pss_cons (ps_while PassesOwn.never (pt_cmpR (op_neNil (Nat.lt_of_succ_lt (hu_of hr))) (pv 2) (pe_lst pa_nil) (nomark _))
        (pss_one (ps_expr (pe_bm PySem.F.plainAttrs_list PySem.F.slot_list_append PySem.F.type_list_append mt_append (pv 3) (pa_cons
          (pe_bm PySem.F.plainAttrs_list PySem.F.slot_list_pop PySem.F.type_list_pop mt_popAt (pv 2)
            (pa_cons (pe_call (ok_take T) hr rfl gT T.kp bT .nil pass0 (pa_cons (pv 0) (pa_cons (pe_callB call_len_seq (by rfl) ml PySem.boot_len (pa_cons (pv 2) pa_nil)) pa_nil))) pa_nil)) pa_nil)))))
      (pss_one (ps_ret (pv 3)))), ?_⟩
    refine ⟨_, rfl, a, _, rfl, .inl hS, fun l hl => ⟨by decide, fun p hp0 => ⟨_, _, rfl, ?_⟩⟩⟩
    have nlp : l ≠ p := fun z => by
      rw [z, upd_same] at hp0
      cases hp0
    have hpn : H p = none := (upd_ne nlp.symm).symm.trans hp0
    have nbl : b ≠ l := by
      obtain ⟨_, _, _, e, _⟩ := B
      exact ne_of_none e hl
    have nbp : b ≠ p := by
      obtain ⟨_, _, _, e, _⟩ := B
      exact ne_of_none e hpn
    refine ⟨fun m σ H1 => ∃ qs rs : List V, m = qs.length ∧ σ = [some (.ref b), some (.ref a), some (.ref l), some (.ref p)] ∧ H1 l = some (.lst qs) ∧ H1 p = some (.lst rs) ∧
        (rs ++ qs).Perm ps ∧ BoxAt H1 b (n + rs.length) ∧ But b H H1, ⟨ps.length, ps, [], rfl, rfl, ?_, upd_same, .refl _, ?_, ?_⟩, ?_⟩
    · rw [upd_ne nlp, upd_same]
    · exact (B.keep fun o e => by rw [upd_ne nbp, upd_ne nbl]; exact e).mono (Nat.le_add_right _ _)
    · exact (But.new hl).trans (But.new hp0)
    · rintro m σ H1 ⟨qs, rs, rfl, rfl, el, ep, pm, B1, s1⟩
      have hlen : rs.length + qs.length = ps.length := by
        rw [← List.length_append]
        exact pm.length_eq
      refine ⟨_, rfl, by decide, fun t ht => ?_⟩
      have nlt : l ≠ t := ne_of_none el ht
      have s2 : But b H (upd H1 t (.lst [])) := s1.trans (But.new ht)
      refine ⟨l, t, qs, rfl, rfl, .of ((upd_ne nlt).trans el), .of upd_same, _, rfl, ?_⟩
      · cases qs with
        | nil =>
          refine iteF ?_
          refine ⟨_, rfl, ?_⟩
          rw [List.append_nil] at pm
          refine q p _ rs pm hpn ?_ ?_ s2
          · rw [upd_ne (ne_of_none ep ht)]
            exact ep
          · have e : rs.length = ps.length := pm.length_eq
            rw [← e]
            exact B1.keep fun o e => by rw [upd_ne (ne_of_none e ht)]; exact e
        | cons y ys =>
          refine iteT ?_
          have hlen' : rs.length + (ys.length + 1) = ps.length := hlen
          refine ⟨fun σ' H' => ∃ m', m' < (y :: ys).length ∧ ∃ qs rs : List V, m' = qs.length ∧ σ' = [some (.ref b), some (.ref a), some (.ref l), some (.ref p)] ∧ H' l = some (.lst qs) ∧ H' p = some (.lst rs) ∧
            (rs ++ qs).Perm ps ∧ BoxAt H' b (n + rs.length) ∧ But b H H', fun _ _ h => h, ?_⟩
          have ep2 : upd H1 t (.lst []) p = some (.lst rs) := by
            rw [upd_ne (ne_of_none ep ht)]
            exact ep
          have el2 : upd H1 t (.lst []) l = some (.lst (y :: ys)) := by
            rw [upd_ne nlt]
            exact el
          have B2 : BoxAt (upd H1 t (.lst [])) b (n + rs.length) := B1.keep fun o e => by rw [upd_ne (ne_of_none e ht)]; exact e
          refine ⟨_, rfl, .inl ⟨rfl, _, .of ep2⟩, _, rfl, .inl ⟨rfl, _, .of el2⟩, _, rfl, _, rfl, l, _, rfl, .inl (.of el2), b, _, n + rs.length, rfl, B2, by omega, ?_, ?_, fun r H3 r0 r1 B3 s3 => ?_⟩
          · show (0 : Int) < ((ys.length + 1 : Nat) : Int)
            omega
          · show ((ys.length + 1 : Nat) : Int) < _
            have : ys.length + 1 ≤ 100000 := by omega
            omega
          · obtain ⟨j, rfl, hj⟩ := draw_at r0 r1 (n := (y :: ys).length) rfl
            have el3 : H3 l = some (.lst (y :: ys)) := s3 _ _ nbl.symm el2
            have ep3 : H3 p = some (.lst rs) := s3 _ _ nbp.symm ep2
            have hj5 : j < 100000 := by
              have e : (y :: ys).length = ys.length + 1 := rfl
              omega
            refine ⟨l, _, (j : Int), j, (y :: ys)[j], rfl, rfl, el3, by omega, by omega, ?_, ?_, ?_⟩
            · have := PySem.seqIndex_of (k := (j : Int)) (n := (y :: ys).length) (by omega) (by omega)
              rw [this]
              rfl
            · exact List.getElem?_eq_getElem hj
            · refine ⟨p, _, _, rfl, rfl, by rw [upd_ne nlp.symm]; exact ep3, ?_, ?_⟩
              · exact big (by omega)
              · refine ⟨((y :: ys).eraseIdx j).length, ?_, (y :: ys).eraseIdx j, rs ++ [(y :: ys)[j]], rfl, rfl, ?_, ?_, ?_, ?_, ?_⟩
                · rw [List.length_eraseIdx, if_pos hj]
                  show (ys.length + 1) - 1 < ys.length + 1
                  omega
                · rw [upd_ne nlp, upd_same]
                · rw [upd_same]
                · rw [List.append_assoc]
                  refine List.Perm.trans (List.Perm.append_left rs ?_) pm
                  exact erase_perm hj
                · rw [List.length_append, List.length_singleton]
                  exact B3.keep fun o e => by rw [upd_ne nbp, upd_ne nbl]; exact e
                · intro c o nc e
                  have e3 := (s2.trans s3) c o nc e
                  rw [upd_ne (ne_of_none e hpn), upd_ne (ne_of_none e hl)]
                  exact e3
end
end G

set_option Elab.async false
set_option linter.all false
set_option maxRecDepth 100000
set_option maxHeartbeats 1000000
/-! GZ1 (of no law): what sleeps stays asleep. A run that would wake no generator that slept when it began leaves each of them as it was.
How: every sleeping generator is given a continuation that has no run; what then has a run wakes none of them, so the same run goes with the true ones. -/
namespace GZ
open PySem
open Sem (wp)
open PyProof.Rows (AllBare)

/-- a continuation that can't be woken -/
def dead : Resume → Sem PySem.Fin := fun _ => .unsupported "asleep"
/-- frames of calls alone -/
def Rets (fs : List Frame) : Prop := ∀ F ∈ fs, ∃ k h g l c p kp, F = Frame.ret k h g l c p kp
theorem Rets.nil : Rets [] := fun F h => by simp at h
theorem Rets.app {a b : List Frame} (x : Rets a) (y : Rets b) : Rets (a ++ b) := fun F h => by
  rcases List.mem_append.mp h with h | h
  · exact x F h
  · exact y F h
theorem Rets.one {k : Result → Sem PySem.Fin} {h : Option Value} {g : Bool} {l : List Value} {c : Code} {p : Pos} {kp : List Value} : Rets [.ret k h g l c p kp] := fun F m => by
  rw [List.mem_singleton.mp m]; exact ⟨_, _, _, _, _, _, _, rfl⟩
theorem Rets.tail {F : Frame} {fs : List Frame} (x : Rets (F :: fs)) : Rets fs := fun G h => x G (List.mem_cons_of_mem _ h)
theorem Rets.split {fs : List Frame} (x : Rets fs) : splitAtGen fs = none := by
  induction fs with
  | nil => rfl
  | cons F fs ih =>
    obtain ⟨k, h, g, l, c, p, kp, rfl⟩ := x F List.mem_cons_self
    show (splitAtGen fs).map _ = none
    rw [ih x.tail]; rfl
def GRets : GenState → Prop
  | .suspended _ _ _ _ fs _ => Rets fs
  | _ => True
def ERets : End → Prop
  | .susp _ _ _ _ _ _ fs => Rets fs
  | _ => True
theorem ERets.gen {e : End} (h : ERets e) : GRets e.genState := by
  cases e with
  | ret r => exact trivial
  | susp v g l k c p fs => exact h

/-- g: the generators with those in D asleep for good; G: as they are -/
structure Asl (D : Nat → Prop) (g G : Array GenState) : Prop where
  size : G.size = g.size
  slp : ∀ j, D j → ∃ k l c p fs cl, g[j]? = some (.suspended dead l c p fs cl) ∧ G[j]? = some (.suspended k l c p fs cl)
  oth : ∀ j, ¬ D j → G[j]? = g[j]? ∧ ∀ st, g[j]? = some st → GRets st
theorem Asl.push {D : Nat → Prop} {g G : Array GenState} {c : Code} (h : Asl D g G) : Asl D (g.push (.fresh c)) (G.push (.fresh c)) where
  size := by rw [Array.size_push, Array.size_push, h.size]
  slp := fun j dj => by
    obtain ⟨k, l, c', p, fs, cl, h1, h2⟩ := h.slp j dj
    have l1 := (Array.getElem?_eq_some_iff.mp h1).1
    have l2 := (Array.getElem?_eq_some_iff.mp h2).1
    refine ⟨k, l, c', p, fs, cl, ?_, ?_⟩
    · rw [Array.getElem?_push_lt l1, ← h1, Array.getElem?_eq_getElem l1]
    · rw [Array.getElem?_push_lt l2, ← h2, Array.getElem?_eq_getElem l2]
  oth := fun j dj => by
    obtain ⟨h1, h2⟩ := h.oth j dj
    rw [Array.getElem?_push, Array.getElem?_push, h.size]
    refine ⟨?_, fun st hs => ?_⟩
    · by_cases z : j = g.size
      · rw [if_pos z, if_pos z]
      · rw [if_neg z, if_neg z]; exact h1
    · by_cases z : j = g.size
      · rw [if_pos z] at hs; cases hs; exact trivial
      · rw [if_neg z] at hs; exact h2 st hs
theorem set_ne {g : Array GenState} {i j : Nat} {x : GenState} (h : i ≠ j) : (g.setIfInBounds i x)[j]? = g[j]? := Array.getElem?_setIfInBounds_ne h
theorem Asl.set {D : Nat → Prop} {g G : Array GenState} {i : Nat} {x : GenState} (h : Asl D g G) (nd : ¬ D i) (hx : GRets x) : Asl D (g.setIfInBounds i x) (G.setIfInBounds i x) where
  size := by rw [Array.size_setIfInBounds, Array.size_setIfInBounds, h.size]
  slp := fun j dj => by
    have ne : i ≠ j := fun e => nd (e ▸ dj)
    rw [set_ne ne, set_ne ne]; exact h.slp j dj
  oth := fun j dj => by
    by_cases z : i = j
    · subst z
      rw [Array.getElem?_setIfInBounds_self, Array.getElem?_setIfInBounds_self, h.size]
      refine ⟨rfl, fun st hs => ?_⟩
      by_cases y : i < g.size
      · rw [if_pos y] at hs; cases hs; exact hx
      · rw [if_neg y] at hs; cases hs
    · rw [set_ne z, set_ne z]; exact h.oth j dj
theorem Asl.not {D : Nat → Prop} {g G : Array GenState} {i : Nat} {x : GenState} (h : Asl D g G) (e : g[i]? = some x) (hx : ∀ l c p fs cl, x ≠ .suspended dead l c p fs cl) : ¬ D i := fun d => by
  obtain ⟨k, l, c, p, fs, cl, h1, _⟩ := h.slp i d
  rw [e] at h1
  exact hx l c p fs cl (Option.some.inj h1)

theorem no_dead {M : Model} {Γ : Ctx} {p : Pos} {t : Sem PySem.Fin} {fs : List Frame} {s s' : Shared} {e : End} (h : Runs M Γ p t fs s e s') : ∀ w, t = .unsupported w → False := by
  induction h with
  | segRet _ _ ih _ => exact ih
  | segGen _ _ ih _ => exact ih
  | segSuspOut _ _ ih => exact ih
  | segSuspGen _ _ _ _ ih _ => exact ih
  | _ => intro w e; cases e

theorem ne_of_D {D : Nat → Prop} {i j : Nat} (nd : ¬ D i) (dj : D j) : i ≠ j := fun e => nd (by rw [e]; exact dj)
abbrev under (s : Shared) (G : Array GenState) : Shared := { s with gens := G }

theorem runs_wake {M : Model} {D : Nat → Prop} {Γ : Ctx} {p : Pos} {t : Sem PySem.Fin} {fs : List Frame} {s s' : Shared} {e : End} (h : Runs M Γ p t fs s e s') :
    ∀ G, Asl D s.gens G → Rets fs → ∃ G', Asl D s'.gens G' ∧ (∀ j, D j → G'[j]? = G[j]?) ∧ ERets e ∧ Runs M Γ p t fs (under s G) e (under s' G') := by
  induction h with
  | done => exact fun G r _ => ⟨G, r, fun _ _ => rfl, trivial, .done⟩
  | raise => exact fun G r _ => ⟨G, r, fun _ _ => rfl, trivial, .raise⟩
  | again q _ ih => exact fun G r f => let ⟨G', a, b, c, d⟩ := ih G r f; ⟨G', a, b, c, .again q d⟩
  | rule _ ih => exact fun G r f => let ⟨G', a, b, c, d⟩ := ih G r f; ⟨G', a, b, c, .rule d⟩
  | «at» _ ih => exact fun G r f => let ⟨G', a, b, c, d⟩ := ih G r f; ⟨G', a, b, c, .at d⟩
  | load ho _ ih => exact fun G r f => let ⟨G', a, b, c, d⟩ := ih G r f; ⟨G', a, b, c, .load ho d⟩
  | update ho _ ih => exact fun G r f => let ⟨G', a, b, c, d⟩ := ih G r f; ⟨G', a, b, c, .update ho d⟩
  | loadIfAlive _ ih => exact fun G r f => let ⟨G', a, b, c, d⟩ := ih G r f; ⟨G', a, b, c, .loadIfAlive d⟩
  | point _ ih => exact fun G r f => let ⟨G', a, b, c, d⟩ := ih G r f; ⟨G', a, b, c, .point d⟩
  | alloc _ ih => exact fun G r f => let ⟨G', a, b, c, d⟩ := ih G r f; ⟨G', a, b, c, .alloc d⟩
  | fresh _ ih => exact fun G r f => let ⟨G', a, b, c, d⟩ := ih G r f; ⟨G', a, b, c, .fresh d⟩
  | ask _ ih => exact fun G r f => let ⟨G', a, b, c, d⟩ := ih G r f; ⟨G', a, b, c, .ask d⟩
  | choose ho _ ih => exact fun G r f => let ⟨G', a, b, c, d⟩ := ih G r f; ⟨G', a, b, c, .choose ho d⟩
  | os _ ih => exact fun G r f => let ⟨G', a, b, c, d⟩ := ih G r f; ⟨G', a, b, c, .os d⟩
  | handled _ ih => exact fun G r f => let ⟨G', a, b, c, d⟩ := ih G r f; ⟨G', a, b, c, .handled d⟩
  | @genState g st Γ p k s e s' hs _ ih =>
    intro G r f
    obtain ⟨G', a, b, c, d⟩ := ih G r f
    by_cases dg : D g
    · obtain ⟨k', l, c', p', fs', cl, h1, h2⟩ := r.slp g dg
      rw [hs] at h1
      cases h1
      exact ⟨G', a, b, c, .genState (s := under s G) h2 d⟩
    · exact ⟨G', a, b, c, .genState (s := under s G) ((r.oth g dg).1.trans hs) d⟩
  | stack _ ih => exact fun G r f => let ⟨G', a, b, c, d⟩ := ih G r f; ⟨G', a, b, c, .stack d⟩
  | thread _ ih => exact fun G r f => let ⟨G', a, b, c, d⟩ := ih G r f; ⟨G', a, b, c, .thread d⟩
  | @newGen Γ p k s e s' c _ ih =>
    intro G r f
    obtain ⟨G', a, b, cc, d⟩ := ih (G.push (.fresh c)) r.push f
    refine ⟨G', a, fun j dj => (b j dj).trans ?_, cc, .newGen ?_⟩
    · obtain ⟨k', l, c', p', fs', cl, h1, h2⟩ := r.slp j dj
      have l2 := (Array.getElem?_eq_some_iff.mp h2).1
      rw [Array.getElem?_push_lt l2, Array.getElem?_eq_getElem l2]
    · show Runs M Γ p (k G.size) [] _ _ _
      rw [r.size]; exact d
  | call _ _ ih1 ih2 =>
    intro G r f
    obtain ⟨G1, a1, b1, c1, d1⟩ := ih1 G r f
    obtain ⟨G2, a2, b2, c2, d2⟩ := ih2 G1 a1 f
    exact ⟨G2, a2, fun j dj => (b2 j dj).trans (b1 j dj), c2, .call d1 d2⟩
  | callSusp _ ih =>
    intro G r f
    obtain ⟨G', a, b, c, d⟩ := ih G r f
    exact ⟨G', a, b, Rets.app c .one, .callSusp d⟩
  | yield => exact fun G r _ => ⟨G, r, fun _ _ => rfl, .nil, .yield⟩
  | @resumeFresh Γ p g l k s c e₁ s₁ e s' hs _ hq _ ih1 ih2 =>
    intro G r f
    have nd : ¬ D g := r.not hs fun _ _ _ _ _ z => by cases z
    obtain ⟨G1, a1, b1, c1, d1⟩ := ih1 (G.setIfInBounds g .running) (r.set nd trivial) f
    obtain ⟨G2, a2, b2, c2, d2⟩ := ih2 (G1.setIfInBounds g e₁.genState) (a1.set nd c1.gen) f
    exact ⟨G2, a2, fun j dj => (b2 j dj).trans ((set_ne (ne_of_D nd dj)).trans ((b1 j dj).trans (set_ne (ne_of_D nd dj)))), c2, .resumeFresh (s := under s G) (s₁ := under s₁ G1) ((r.oth g nd).1.trans hs) d1 hq d2⟩
  | @resumeSuspended Γ p g rr l k s k₀ l₀ c₀ p₀ fs cl e₁ s₁ e s' hs h1 hq _ ih1 ih2 =>
    intro G r f
    by_cases dg : D g
    · obtain ⟨k', l', c', p', fs', cl', z, _⟩ := r.slp g dg
      rw [hs] at z
      cases z
      exact (no_dead h1 "asleep" rfl).elim
    · obtain ⟨q1, q2⟩ := r.oth g dg
      obtain ⟨G1, a1, b1, c1, d1⟩ := ih1 (G.setIfInBounds g .running) (r.set dg trivial) (q2 _ hs)
      obtain ⟨G2, a2, b2, c2, d2⟩ := ih2 (G1.setIfInBounds g e₁.genState) (a1.set dg c1.gen) f
      exact ⟨G2, a2, fun j dj => (b2 j dj).trans ((set_ne (ne_of_D dg dj)).trans ((b1 j dj).trans (set_ne (ne_of_D dg dj)))), c2, .resumeSuspended (s := under s G) (s₁ := under s₁ G1) (q1.trans hs) d1 hq d2⟩
  | @resumeJustStarted g v Γ p k s e s' l c hs hv _ ih =>
    intro G r f
    have nd : ¬ D g := r.not hs fun _ _ _ _ _ z => by cases z
    obtain ⟨G', a, b, c, d⟩ := ih G r f
    exact ⟨G', a, b, c, .resumeJustStarted ((r.oth _ nd).1.trans hs) hv d⟩
  | @resumeThrowFresh g Γ p k e s' x l s c hs _ ih =>
    intro G r f
    have nd : ¬ D g := r.not hs fun _ _ _ _ _ z => by cases z
    obtain ⟨G', a, b, c, d⟩ := ih (G.setIfInBounds _ .finished) (r.set nd trivial) f
    exact ⟨G', a, fun j dj => (b j dj).trans (set_ne (ne_of_D nd dj)), c, .resumeThrowFresh ((r.oth _ nd).1.trans hs) d⟩
  | resumeRunning hs _ ih =>
    intro G r f
    have nd : ¬ D _ := r.not hs fun _ _ _ _ _ z => by cases z
    obtain ⟨G', a, b, c, d⟩ := ih G r f
    exact ⟨G', a, b, c, .resumeRunning ((r.oth _ nd).1.trans hs) d⟩
  | resumeFinished hs _ ih =>
    intro G r f
    have nd : ¬ D _ := r.not hs fun _ _ _ _ _ z => by cases z
    obtain ⟨G', a, b, c, d⟩ := ih G r f
    exact ⟨G', a, b, c, .resumeFinished ((r.oth _ nd).1.trans hs) d⟩
  | segRet _ _ ih1 ih2 =>
    intro G r f
    obtain ⟨G1, a1, b1, c1, d1⟩ := ih1 G r .nil
    obtain ⟨G2, a2, b2, c2, d2⟩ := ih2 G1 a1 f.tail
    exact ⟨G2, a2, fun j dj => (b2 j dj).trans (b1 j dj), c2, .segRet d1 d2⟩
  | segGen _ _ _ _ =>
    intro G r f
    obtain ⟨_, _, _, _, _, _, _, z⟩ := f _ List.mem_cons_self
    cases z
  | segSuspOut hsp _ ih =>
    intro G r f
    obtain ⟨G', a, b, c, d⟩ := ih G r .nil
    exact ⟨G', a, b, Rets.app c f, .segSuspOut hsp d⟩
  | segSuspGen hsp _ _ _ _ _ =>
    intro G r f
    rw [f.split] at hsp
    cases hsp
end GZ

set_option Elab.async false
set_option linter.all false
set_option maxRecDepth 100000
set_option maxHeartbeats 1000000
/-! GZ2 (of no law): what sleeps stays asleep, for promises: a promise at a state whose sleepers can't be woken is one at the true state, and they sleep on. -/
namespace GZ
open PySem
open Sem (wp)
open PyProof.Rows (AllBare)

theorem returns_wake {M : Model} {D : Nat → Prop} {Γ : Ctx} {p : Pos} {s s' : Shared} {r : Result} (h : Returns M Γ p s r s') (G : Array GenState) (a : Asl D s.gens G) :
    ∃ G', Asl D s'.gens G' ∧ (∀ j, D j → G'[j]? = G[j]?) ∧ Returns M Γ p (under s G) r (under s' G') :=
  let ⟨G', x, y, _, z⟩ := runs_wake h G a .nil
  ⟨G', x, y, z⟩

theorem wakes_wake {M : Model} {D : Nat → Prop} {Γ : Ctx} {p : Pos} {g : Nat} {r : Resume} {s s' : Shared} {res : GenResult} (h : Wakes M Γ p g r s res s') (G : Array GenState) (a : Asl D s.gens G) :
    ∃ G', Asl D s'.gens G' ∧ (∀ j, D j → G'[j]? = G[j]?) ∧ Wakes M Γ p g r (under s G) res (under s' G') := by
  unfold Wakes at h
  cases hs : s.gens[g]? with
  | none => rw [hs] at h; exact h.elim
  | some st =>
    rw [hs] at h
    have keep : ∀ {x y : GenState} {G1 : Array GenState}, ¬ D g → (∀ j, D j → G1[j]? = (G.setIfInBounds g x)[j]?) → ∀ j, D j → (G1.setIfInBounds g y)[j]? = G[j]? := fun {x y G1} nd b j dj =>
      (set_ne (ne_of_D nd dj)).trans ((b j dj).trans (set_ne (ne_of_D nd dj)))
    cases st with
    | fresh c =>
      have nd : ¬ D g := a.not hs fun _ _ _ _ _ z => by cases z
      have hg : G[g]? = some (.fresh c) := (a.oth g nd).1.trans hs
      cases r with
      | throw x =>
        obtain ⟨hr1, hr2⟩ := h
        rw [hr1, hr2]
        refine ⟨G.setIfInBounds g .finished, a.set nd trivial, fun j dj => set_ne (ne_of_D nd dj), ?_⟩
        unfold Wakes
        rw [show (under s G).gens[g]? = _ from hg]
        exact ⟨rfl, rfl⟩
      | send v =>
        cases v with
        | none =>
          obtain ⟨e₁, s₁, hr, hq, rfl, rfl⟩ := h
          obtain ⟨G1, a1, b1, c1, d1⟩ := runs_wake hr (G.setIfInBounds g .running) (a.set nd trivial) .nil
          refine ⟨G1.setIfInBounds g e₁.genState, a1.set nd c1.gen, keep nd b1, ?_⟩
          unfold Wakes
          rw [show (under s G).gens[g]? = _ from hg]
          exact ⟨e₁, under s₁ G1, d1, hq, rfl, rfl⟩
        | _ =>
          obtain ⟨hr1, hr2⟩ := h
          rw [hr1, hr2]
          refine ⟨G, a, fun _ _ => rfl, ?_⟩
          unfold Wakes
          rw [show (under s G).gens[g]? = _ from hg]
          exact ⟨rfl, rfl⟩
    | suspended k l c p' fs cl =>
      by_cases dg : D g
      · obtain ⟨k', l', c', p', fs', cl', z, _⟩ := a.slp g dg
        rw [hs] at z
        cases z
        obtain ⟨e₁, s₁, hr, _⟩ := h
        exact (no_dead hr "asleep" rfl).elim
      · obtain ⟨q1, q2⟩ := a.oth g dg
        obtain ⟨e₁, s₁, hr, hq, rfl, rfl⟩ := h
        obtain ⟨G1, a1, b1, c1, d1⟩ := runs_wake hr (G.setIfInBounds g .running) (a.set dg trivial) (q2 _ hs)
        refine ⟨G1.setIfInBounds g e₁.genState, a1.set dg c1.gen, keep dg b1, ?_⟩
        unfold Wakes
        rw [show (under s G).gens[g]? = _ from q1.trans hs]
        exact ⟨e₁, under s₁ G1, d1, hq, rfl, rfl⟩
    | running =>
      have nd : ¬ D g := a.not hs fun _ _ _ _ _ z => by cases z
      obtain ⟨hr1, hr2⟩ := h
      rw [hr1, hr2]
      refine ⟨G, a, fun _ _ => rfl, ?_⟩
      unfold Wakes
      rw [show (under s G).gens[g]? = _ from (a.oth g nd).1.trans hs]
      exact ⟨rfl, rfl⟩
    | finished =>
      have nd : ¬ D g := a.not hs fun _ _ _ _ _ z => by cases z
      obtain ⟨hr1, hr2⟩ := h
      rw [hr1, hr2]
      refine ⟨G, a, fun _ _ => rfl, ?_⟩
      unfold Wakes
      rw [show (under s G).gens[g]? = _ from (a.oth g nd).1.trans hs]
      exact ⟨rfl, rfl⟩

/-- behind a run: s' with the sleepers as they were -/
def Back {α : Type} (D : Nat → Prop) (G : Array GenState) (Q : α → Shared → Prop) (a : α) (t : Shared) : Prop :=
  ∃ s' G', t = under s' G' ∧ Asl D s'.gens G' ∧ (∀ j, D j → G'[j]? = G[j]?) ∧ Q a s'

theorem wp_wake {α : Type} (M : Model) (Γ : Ctx) (D : Nat → Prop) (t : Sem α) : ∀ (Q : α → Pos → Shared → Prop) (E : Value → Pos → Shared → Prop) (p : Pos) (s : Shared) (G G0 : Array GenState), Asl D s.gens G → (∀ j, D j → G[j]? = G0[j]?) → wp M Γ t Q E p s →
    wp M Γ t (fun a p' t' => Back D G0 (fun a s' => Q a p' s') a t') (fun e p' t' => Back D G0 (fun e s' => E e p' s') e t') p (under s G) := by
  induction t with
  | pure a => intro Q E p s G G0 h0 hg h; exact ⟨s, G, rfl, h0, hg, h⟩
  | raise e => intro Q E p s G G0 h0 hg h; exact ⟨s, G, rfl, h0, hg, h⟩
  | unsupported _ => intro Q E p s G G0 _ _ h; exact h
  | finish _ => intro Q E p s G G0 _ _ h; exact h
  | rule _ k ih => intro Q E p s G G0 h0 hg h; exact ih () Q E p s G G0 h0 hg h
  | «at» p' k ih => intro Q E p s G G0 h0 hg h; exact ih () Q E p' s G G0 h0 hg h
  | load a _ k ih => intro Q E p s G G0 h0 hg h; obtain ⟨o, ho, h⟩ := h; exact ⟨o, ho, ih o Q E p s G G0 h0 hg h⟩
  | update a _ f k ih => intro Q E p s G G0 h0 hg h; exact ⟨h.1, ih () Q E p { s with heap := s.heap.update a f } G G0 h0 hg h.2⟩
  | loadIfAlive a k ih => intro Q E p s G G0 h0 hg h; exact ih _ Q E p s G G0 h0 hg h
  | point _ k ih => intro Q E p s G G0 h0 hg h; exact ih () Q E p s G G0 h0 hg h
  | register _ _ => intro Q E p s G G0 _ _ h; exact h
  | alloc o k ih => intro Q E p s G G0 h0 hg h; exact ih s.heap.objs.size Q E p { s with heap := s.heap.push o } G G0 h0 hg h
  | fresh k ih => intro Q E p s G G0 h0 hg h; exact ih s.toks Q E p { s with toks := s.toks + 1 } G G0 h0 hg h
  | ask k ih => intro Q E p s G G0 h0 hg h; exact ih _ Q E p s G G0 h0 hg h
  | choose src m k ih => intro Q E p s G G0 h0 hg h; exact ⟨h.1, ih _ Q E p { s with drawn := s.drawn.bump src } G G0 h0 hg h.2⟩
  | os q _ k ih => intro Q E p s G G0 h0 hg h; exact ih (Os.step s.os q).2 Q E p { s with os := (Os.step s.os q).1 } G G0 h0 hg h
  | call c hd _ _ k ih =>
    intro Q E p s G G0 h0 hg h
    obtain ⟨r, s', hr, h⟩ := h
    obtain ⟨G', x, y, z⟩ := returns_wake hr G h0
    exact ⟨r, under s' G', z, ih r Q E p s' G' G0 x (fun j dj => (y j dj).trans (hg j dj)) h⟩
  | handled own k ih => intro Q E p s G G0 h0 hg h; exact ih _ Q E p s G G0 h0 hg h
  | genState g k ih =>
    intro Q E p s G G0 h0 hg h
    obtain ⟨st, hs, h⟩ := h
    by_cases dg : D g
    · obtain ⟨k', l, c', p', fs', cl, h1, h2⟩ := h0.slp g dg
      rw [hs] at h1
      cases h1
      exact ⟨_, h2, ih _ Q E p s G G0 h0 hg h⟩
    · exact ⟨st, (h0.oth g dg).1.trans hs, ih _ Q E p s G G0 h0 hg h⟩
  | newGen c k ih =>
    intro Q E p s G G0 h0 hg h
    have q := ih s.gens.size Q E p { s with gens := s.gens.push (.fresh c) } (G.push (.fresh c)) G0 h0.push (fun j dj => by
      obtain ⟨k', l, c', p', fs', cl, h1, h2⟩ := h0.slp j dj
      have l2 := (Array.getElem?_eq_some_iff.mp h2).1
      rw [Array.getElem?_push_lt l2, ← Array.getElem?_eq_getElem l2]
      exact hg j dj) h
    show wp M Γ (k G.size) _ _ p _
    rw [h0.size]
    exact q
  | resume g r _ k ih =>
    intro Q E p s G G0 h0 hg h
    obtain ⟨res, s', hw, h⟩ := h
    obtain ⟨G', x, y, z⟩ := wakes_wake hw G h0
    exact ⟨res, under s' G', z, ih res Q E p s' G' G0 x (fun j dj => (y j dj).trans (hg j dj)) h⟩
  | yield _ _ _ _ => intro Q E p s G G0 _ _ h; exact h
  | stack k ih => intro Q E p s G G0 h0 hg h; exact ih _ Q E p s G G0 h0 hg h
  | fork _ _ => intro Q E p s G G0 _ _ h; exact h
  | thread k ih => intro Q E p s G G0 h0 hg h; exact ih _ Q E p s G G0 h0 hg h
  | await _ _ _ _ _ => intro Q E p s G G0 _ _ h; exact h

/-- it sleeps -/
def sleeps : GenState → Prop
  | .suspended .. => True
  | _ => False
/-- it can't be woken any more -/
def dulled : GenState → GenState
  | .suspended _ l c p fs cl => .suspended dead l c p fs cl
  | st => st
abbrev asleep (s : Shared) : Shared := under s (s.gens.map dulled)
theorem asl_of (s : Shared) : Asl (fun j => ∃ st, s.gens[j]? = some st ∧ sleeps st) (asleep s).gens s.gens where
  size := by rw [show (asleep s).gens = s.gens.map dulled from rfl, Array.size_map]
  slp := fun j ⟨st, hs, hz⟩ => by
    cases st with
    | suspended k l c p fs cl => exact ⟨k, l, c, p, fs, cl, by rw [show (asleep s).gens = s.gens.map dulled from rfl, Array.getElem?_map, hs]; rfl, hs⟩
    | _ => exact hz.elim
  oth := fun j hj => by
    rw [show (asleep s).gens = s.gens.map dulled from rfl, Array.getElem?_map]
    cases e : s.gens[j]? with
    | none => exact ⟨rfl, fun st z => by cases z⟩
    | some st =>
      cases st with
      | suspended k l c p fs cl => exact (hj ⟨_, e, trivial⟩).elim
      | _ => exact ⟨rfl, fun st z => by cases z; exact trivial⟩
theorem asleep_bare {s : Shared} (h : AllBare s.gens) : AllBare (asleep s).gens := fun y hy => by
  obtain ⟨x, hx, rfl⟩ := Array.mem_map.mp hy
  have q := h x hx
  cases x <;> exact q
theorem bare_back {D : Nat → Prop} {g G : Array GenState} (a : Asl D g G) (h : AllBare g) : AllBare G := fun y hy => by
  obtain ⟨j, hj, e⟩ := Array.mem_iff_getElem.mp hy
  have e' : G[j]? = some y := by rw [Array.getElem?_eq_getElem hj, e]
  by_cases d : D j
  · obtain ⟨k, l, c, p, fs, cl, h1, h2⟩ := a.slp j d
    rw [e'] at h2
    cases h2
    exact show (GenState.suspended dead l c p fs cl).bare = true from h _ (Array.mem_of_getElem? h1)
  · rw [(a.oth j d).1] at e'
    exact h y (Array.mem_of_getElem? e')

/-- THE RULE: a promise at the state whose sleepers can't be woken: behind it they are as they were -/
theorem wpAny_asleep {α : Type} {M : Model} {A : Around} {s : Shared} {t : Sem α} {Q : α → Shared → Prop} {E : Value → Shared → Prop}
    (h : wpAny M A t (fun a s' => ∀ G' : Array GenState, (AllBare s'.gens → AllBare G') → (∀ (j : Nat) (st : GenState), s.gens[j]? = some st → sleeps st → G'[j]? = some st) → Q a (under s' G'))
      (fun e s' => ∀ G' : Array GenState, (AllBare s'.gens → AllBare G') → (∀ (j : Nat) (st : GenState), s.gens[j]? = some st → sleeps st → G'[j]? = some st) → E e (under s' G')) (asleep s)) : wpAny M A t Q E s := fun Γ p hΓ => by
  have q := wp_wake M Γ _ t _ _ p (asleep s) s.gens s.gens (asl_of s) (fun _ _ => rfl) (h Γ p hΓ)
  refine Sem.wp_mono M Γ t (fun a p' t' ht => ?_) (fun e p' t' ht => ?_) p s q
  · obtain ⟨s', G', rfl, ha, hk, hq⟩ := ht
    exact hq G' (bare_back ha) fun j st hs hz => (hk j ⟨st, hs, hz⟩).trans hs
  · obtain ⟨s', G', rfl, ha, hk, hq⟩ := ht
    exact hq G' (bare_back ha) fun j st hs hz => (hk j ⟨st, hs, hz⟩).trans hs
end GZ

set_option Elab.async false
set_option linter.all false
set_option maxRecDepth 100000
set_option maxHeartbeats 1000000
/-! GZ3 (of no law): a generator's code up to where it sleeps or ends (Sg), told by what stands there; its statements. -/
namespace GZ
open PySem
open Sem (wp)
open PyProof.Rows (AllBare)

/-- t over fs runs to its end or to where it sleeps; Φ tells of it -/
def Sg (M : Model) (A : Around) (Φ : End → Shared → Prop) (c : Code) (t : Sem PySem.Fin) (fs : List Frame) (s : Shared) : Prop :=
  ∀ (Γ : Ctx) (p : Pos), Γ.code = c → Γ.Woken A → ∃ e s', Runs M Γ p t fs s e s' ∧ Φ e s'

section
variable {M : Model} {A : Around} {Φ : End → Shared → Prop} {c : Code} {fs : List Frame} {s : Shared}
theorem sg_wrap {α : Type} {m : Sem α} {K : α → Sem PySem.Fin} {J : Value → Sem PySem.Fin} {gd : Bool → Bool} {lv : List Value → List Value}
    (h : wpAny M (A.over c fs) m (fun a u => Sg M A Φ c (K a) fs u) (fun _ _ => False) s) : Sg M A Φ c (m.wrap K J gd lv) fs s := by
  intro Γ p hc hw
  subst hc
  exact runs_wrap_of_wp K J gd lv m (h (Γ.over fs) p (hw.over fs)) (fun a p1 u q => q Γ p1 rfl hw) fun _ _ _ q => q.elim
/-- the head of two -/
theorem sg_bw {α β : Type} {m : Sem α} {f : α → Sem β} {K : β → Sem PySem.Fin} {J : Value → Sem PySem.Fin} {gd : Bool → Bool} {lv : List Value → List Value}
    (h : wpAny M (A.over c fs) m (fun a u => Sg M A Φ c ((f a).wrap K J gd lv) fs u) (fun _ _ => False) s) : Sg M A Φ c ((m >>= f).wrap K J gd lv) fs s := by
  rw [Sem.bind_eq_wrap', Sem.wrap_wrap]
  exact sg_wrap h
theorem sg_at {p0 : Pos} {k : Unit → Sem PySem.Fin} (h : Sg M A Φ c (k ()) fs s) : Sg M A Φ c (.at p0 k) fs s :=
  sg_wrap (m := standAt p0) (K := k) (J := .raise) (gd := id) (lv := id) (wpAny_standAt h)
theorem sg_point {l : List Value} {k : Unit → Sem PySem.Fin} (h : Sg M A Φ c (k ()) fs s) : Sg M A Φ c (.point l k) fs s :=
  sg_wrap (m := point) (K := k) (J := .raise) (gd := id) (lv := fun _ => l) (wpAny_point h)
theorem sg_call {c1 : Code} {hd : Option Value} {g : Bool} {l : List Value} {k : Result → Sem PySem.Fin} (h : ∀ p, Sg M A Φ c1 (M.den c1) (.ret k hd g l c p [] :: fs) s) : Sg M A Φ c (.call c1 hd g l k) fs s := by
  intro Γ p hc hw
  subst hc
  obtain ⟨e, u, x, y⟩ := h p (Γ.goto c1) p rfl (hw.goto c1)
  exact ⟨e, u, runs_call_seg x, y⟩
theorem sg_leaf {k : Result → Sem PySem.Fin} {hd : Option Value} {g : Bool} {l kp : List Value} {c1 : Code} {p1 : Pos} (r : Result) (h : Sg M A Φ c1 (k r) fs s) : Sg M A Φ c (leafOf r) (.ret k hd g l c1 p1 kp :: fs) s := by
  intro Γ p hc hw
  subst hc
  obtain ⟨e, u, x, y⟩ := h (Γ.goto c1) p1 rfl (hw.goto c1)
  exact ⟨e, u, Runs.pop r x, y⟩
theorem sg_again {c1 : Code} (q : c1.quiet = true) (h : Sg M A Φ c1 (M.den c1) fs s) : Sg M A Φ c (.pure (.again c1)) fs s := by
  intro Γ p hc hw
  subst hc
  obtain ⟨e, u, x, y⟩ := h (Γ.goto c1) p rfl (hw.goto c1)
  exact ⟨e, u, Runs.head (c₁ := c1) (fun _ _ z => .again q z) x, y⟩
theorem sg_end (r : Result) (h : Φ (.ret r) s) : Sg M A Φ c (leafOf r) [] s := by
  intro Γ p hc _
  subst hc
  exact ⟨.ret r, s, Runs.leaf r, h⟩
theorem sg_yield {v : Value} {g : Bool} {l : List Value} {k : Resume → Sem PySem.Fin} (hf : splitAtGen fs = none) (h : ∀ p, Φ (.susp v g l k c p fs) s) : Sg M A Φ c (.yield v g l k) fs s := by
  intro Γ p hc _
  subst hc
  exact ⟨_, s, Runs.yield' fs hf, h p⟩
theorem sg_mono {Ψ : End → Shared → Prop} {t : Sem PySem.Fin} (h : Sg M A Φ c t fs s) (f : ∀ e u, Φ e u → Ψ e u) : Sg M A Ψ c t fs s := fun Γ p hc hw =>
  let ⟨e, u, x, y⟩ := h Γ p hc hw
  ⟨e, u, x, f e u y⟩
end

section
variable {prog : Program} {w : World} {A : Around} {Φ : End → Shared → Prop} {c : Code} {fs : List Frame} {s : Shared} {env : Env} {K : Flow → Sem PySem.Fin} {J : Value → Sem PySem.Fin} {gd : Bool → Bool} {lv : List Value → List Value}
theorem sg_nil (h : Sg (model prog w) A Φ c (K .next) fs s) : Sg (model prog w) A Φ c ((execs [] env).wrap K J gd lv) fs s := h
theorem sg_cons {st : Stmt} {rest : List Stmt}
    (h : Sg (model prog w) A Φ c ((exec st env).wrap (fun f => match f with | .next => (execs rest env).wrap K J gd lv | f => K f) J gd lv) fs s) : Sg (model prog w) A Φ c ((execs (st :: rest) env).wrap K J gd lv) fs s := by
  rw [execs_cons_wrap]; exact h
/-- what follows a loop's call -/
abbrev backK (env : Env) (K : Flow → Sem PySem.Fin) (J : Value → Sem PySem.Fin) (gd : Bool → Bool) (lv : List Value → List Value) (r : Result) : Sem PySem.Fin :=
  ((match r with | .ok f => (.pure f : Sem Flow) | .error e => .raise e).onRaise fun (x : Value) => do
        if (← field x 1) == Value.none then unsupported "frame.own-activation:exception-without-traceback"
        setFlight x env.frame).wrap K J gd lv
theorem sg_For {target iter : Expr} {body : List Stmt} {pos : Pos} (hs : ∀ x, foldedSetIterable iter env x = pure x)
    (h : wpAny (model prog w) (A.over c fs) (eval iter env) (fun x s1 => wpAny (model prog w) (A.over c fs) (pyIter x) (fun it s2 => ∀ p,
      Sg (model prog w) A Φ (.forLoop target it body [] env) ((model prog w).den (.forLoop target it body [] env)) (.ret (backK env K J gd lv) none (gd false) (lv []) c p [] :: fs) s2) (fun _ _ => False) s1) (fun _ _ => False) s) :
    Sg (model prog w) A Φ c ((exec (.For target iter body [] pos) env).wrap K J gd lv) fs s := by
  rw [exec_For]
  refine sg_bw (wpAny_standAt ?_)
  refine sg_bw (wpAny_mono h (fun x s1 h1 => ?_) fun _ _ q => q)
  rw [hs x]
  refine sg_bw (wpAny_pure ?_)
  refine sg_bw (wpAny_standAt ?_)
  refine sg_bw (wpAny_holding (wpAny_mono h1 (fun it s2 h2 => ?_) fun _ _ q => q))
  exact sg_call fun p => h2 p
/-- what follows a turn of a loop -/
abbrev turnK (cl : Code) (f : Flow) : Sem PySem.Fin := match f with
  | .next | .cont => .pure (.again cl)
  | .brk => .pure (.done .next)
  | .ret v => .pure (.done (.ret v))
abbrev turnJ (env : Env) (e : Value) : Sem PySem.Fin := (do noteFrame e env; theTreesLotGoes e : Sem Unit).wrap (fun _ => .raise e) .raise id id
theorem sg_turn {target : Expr} {it : Value} {body : List Stmt}
    (h : wpAny (model prog w) (A.over (.forLoop target it body [] env) fs) (pyNext it) (fun r s1 => match r with
      | none => Sg (model prog w) A Φ (.forLoop target it body [] env) (.pure (.again (.block [] env))) fs s1
      | some v => wpAny (model prog w) (A.over (.forLoop target it body [] env) fs) (letOwnedTupleGo target it v) (fun _ s2 => wpAny (model prog w) (A.over (.forLoop target it body [] env) fs) (assign target env v) (fun _ s3 =>
          Sg (model prog w) A Φ (.forLoop target it body [] env) ((execs body env).wrap (turnK (.forLoop target it body [] env)) (turnJ env) id id) fs s3) (fun _ _ => False) s2) (fun _ _ => False) s1) (fun _ _ => False) s) :
    Sg (model prog w) A Φ (.forLoop target it body [] env) ((model prog w).den (.forLoop target it body [] env)) fs s := by
  show Sg _ A Φ _ ((forTurn target it body [] env).onRaise (fun x => do noteFrame x env; theTreesLotGoes x)) fs s
  rw [Sem.onRaise_eq_wrap]
  unfold forTurn
  refine sg_bw (wpAny_standAt ?_)
  refine sg_bw (wpAny_onRaise (wpAny_mono h (fun r s1 h1 => ?_) fun _ _ q => q.elim))
  cases r with
  | none => exact h1
  | some v =>
    refine sg_bw (wpAny_mono h1 (fun _ s2 h2 => ?_) fun _ _ q => q)
    refine sg_bw (wpAny_mono h2 (fun _ s3 h3 => ?_) fun _ _ q => q)
    rw [Sem.bind_eq_wrap', Sem.wrap_wrap]
    rw [Sem.wrap_congr (execs body env) _ _ (K' := turnK (.forLoop target it body [] env)) (H' := turnJ env) (fun f => by cases f <;> rfl)
      (fun e => by first | exact Sem.bind_eq_wrap _ _ | (show (do noteFrame e env; theTreesLotGoes e : Sem Unit).bind (fun _ => .raise e) = _; rw [Sem.bind_eq_wrap]))]
    exact h3
/-- behind the last turn -/
theorem sg_done {c0 : Code} (h : Sg (model prog w) A Φ (.block [] env) (leafOf (.ok .next)) fs s) : Sg (model prog w) A Φ c0 (.pure (.again (.block [] env))) fs s := by
  refine sg_again rfl ?_
  exact h
theorem sg_func {body : List Stmt}
    (h : Sg (model prog w) A Φ (.func body env) ((execs body env).wrap (fun f => .pure (.done (.ret (match f with | .ret v => v | _ => .none)))) (fun e => (leaving env e).wrap (fun _ => .raise e) .raise id id) id id) fs s) :
    Sg (model prog w) A Φ (.func body env) ((model prog w).den (.func body env)) fs s := by
  show Sg _ A Φ _ (.point [] fun _ => ((execs body env).onRaise (leaving env)) >>= _) fs s
  refine sg_point ?_
  rw [Sem.onRaise_eq_wrap, Sem.bind_eq_wrap', Sem.wrap_wrap]
  rw [Sem.wrap_congr (execs body env) _ _ (K' := fun f => .pure (.done (.ret (match f with | .ret v => v | _ => .none))))
    (H' := fun e => (leaving env e).wrap (fun _ => .raise e) .raise id id) (fun f => by cases f <;> rfl) (fun e => by rw [Sem.bind_eq_wrap, Sem.wrap_wrap]; rfl)]
  exact h
/-- yield e: Φ at where it sleeps; when it is woken, what follows -/
theorem sg_Yield {e : Expr} {yp pos : Pos} (hf : splitAtGen fs = none)
    (h : wpAny (model prog w) (A.over c fs) (eval e env) (fun v u => ∀ (l : List Value) (k : Resume → Sem PySem.Fin) (p : Pos),
        (∀ (Ψ : End → Shared → Prop) (s2 : Shared), Sg (model prog w) A Ψ c (K .next) fs s2 → Sg (model prog w) A Ψ c (k (.send .none)) fs s2) → Φ (.susp v (gd false) l k c p fs) u) (fun _ _ => False) s)
    (hco : env.scope.isCoroutine = false := by rfl) (hi : interactive env = false := by rfl) : Sg (model prog w) A Φ c ((exec (.Expr (.Yield (some e) yp) pos) env).wrap K J gd lv) fs s := by
  rw [exec_Expr env _ pos hi rfl]
  show Sg (model prog w) A Φ c (.at pos fun _ => ((eval e env >>= fun v => (standAt yp >>= fun _ => yieldOut env v)) >>= fun x => dropValue (.Yield (some e) yp) pos x).wrap K J gd lv) fs s
  have hy : ∀ v, yieldOut env v = yieldValue v := fun v => by simp only [yieldOut, hco, Bool.false_eq_true, if_false]
  simp only [hy]
  refine sg_at ?_
  rw [Sem.bind_eq_wrap', Sem.bind_eq_wrap', Sem.wrap_wrap, Sem.wrap_wrap]
  refine sg_wrap (wpAny_mono h (fun v u q => ?_) fun _ _ x => x)
  refine sg_at (sg_yield hf fun p => q _ _ p fun Ψ s2 hk => ?_)
  exact hk
end
end GZ

set_option Elab.async false
set_option linter.all false
set_option maxRecDepth 100000
set_option maxHeartbeats 1000000
/-! GZ4 (of no law): next of a generator, told by what is stored of it. -/
namespace GZ
open PySem PySem.Spec PyProof.Rows GenW
open Sem (wp)

/-- what a wake of gs comes to -/
def Wk (M : Model) (A : Around) (Φ : End → Shared → Prop) (gs : GenState) (s : Shared) : Prop := match gs with
  | .fresh c => Sg M A Φ c (M.den c) [] s
  | .suspended k _ c _ fs _ => Sg M A Φ c (k (.send .none)) fs s
  | _ => False

theorem wpAny_wakes {M : Model} {α : Type} {A : Around} {Φ : End → Shared → Prop} {Q : α → Shared → Prop} {E : Value → Shared → Prop} {s : Shared} {g : Nat} {gs : GenState} {l : List Value} {k : GenResult → Sem α}
    (hg : s.gens[g]? = some gs) (hw : Wk M A Φ gs (s.setGen g .running)) (hq : ∀ e u, Φ e u → e.quiet = true ∧ wpAny M A (k e.result) Q E (u.setGen g e.genState)) :
    wpAny M A (.resume g (.send .none) l k) Q E s := by
  intro Γ p hΓ
  rw [Sem.wp_resume]
  cases gs with
  | fresh c =>
    obtain ⟨e, u, x, y⟩ := hw (Γ.wake c p) p rfl (hΓ.wake c p)
    refine ⟨e.result, u.setGen g e.genState, ?_, (hq e u y).2 Γ p hΓ⟩
    unfold Wakes
    rw [hg]
    exact ⟨e, u, x, (hq e u y).1, rfl, rfl⟩
  | suspended k0 l0 c p0 fs cl =>
    obtain ⟨e, u, x, y⟩ := hw (Γ.wake c p) p0 rfl (hΓ.wake c p)
    refine ⟨e.result, u.setGen g e.genState, ?_, (hq e u y).2 Γ p hΓ⟩
    unfold Wakes
    rw [hg]
    exact ⟨e, u, x, (hq e u y).1, rfl, rfl⟩
  | running => exact hw.elim
  | finished => exact hw.elim

section
variable {P : Program} {w : World} {A : Around} {E : Value → Shared → Prop} {s : Shared}
/-- next(g): Φ tells of a value handed out or of the end; no exception -/
theorem next_W {a : Addr} {g : Nat} {gs : GenState} {Φ : End → Shared → Prop} {Q : Option Value → Shared → Prop} (hh : A.handled = none) (hl : s.heap.NoLimit) (hroom : A.depth < recursionLimit) (hg : s.heap.IsGen a g) (hgs : s.gens[g]? = some gs)
    (hw : Wk (model P w) A.in1 Φ gs (s.setGen g .running))
    (hq : ∀ e u, Φ e u → e.quiet = true ∧ match e with
      | .susp v _ _ _ _ _ _ => Q (some v) (u.setGen g e.genState)
      | .ret r => (r = .ok (.ret .none) ∨ r = .ok .next) ∧ ∀ h', (∀ b o, u.heap.get? b = some o → h'.get? b = some o) → Q none { u.setGen g .finished with heap := h' }) :
    wpAny (model P w) A (pyNext (.ref a)) Q E s := by
  unfold pyNext
  refine wpAny_bind (wpAny_attempt (wpAny_callSpecial?_slot (name := Str.ofString "__next__") hg.typeIs slot_gen_next
    (wpAny_call_entry slot_gen_next hg.typeIs entry_gen_next ?_ (args_gen_next _))))
  show wpAny _ A.in1 (Builtin.Generator.genWake (.ref a) (.send .none)) _ _ s
  unfold Builtin.Generator.genWake
  refine wpAny_bind (wpAny_holding (wpAny_genNumber hg (wpAny_bind (wpAny_genState hgs ?_))))
  cases gs with
  | running => exact hw.elim
  | finished => exact hw.elim
  | _ =>
    refine wpAny_bind (wpAny_roomToWake hl hroom ?_)
    show wpAny _ A.in1 (.resume g (.send .none) [] _) _ _ s
    refine wpAny_wakes hgs hw fun e u he => ?_
    obtain ⟨q1, q2⟩ := hq e u he
    refine ⟨q1, ?_⟩
    cases e with
    | susp v g0 l k c p fs => exact wpAny_pure ⟨v, rfl, wpAny_pure q2⟩
    | ret x =>
      obtain ⟨hr, q⟩ := q2
      have hres : End.result (.ret x) = .returned .none := by rcases hr with hr | hr <;> rw [hr] <;> rfl
      first | rw [hres] | simp only [hres]
      show wpAny _ A.in1 (newExc (.type "StopIteration") [] >>= _) _ _ _
      refine wpAny_bind ?_
      simp only [newExc, newTuple]
      refine wpAny_bind (wpAny_newObj_type ?_ (by size_fits))
      refine wpAny_bind (m := firstArgMember _ _) (wpAny_of_eq (a := Value.none) (by first | rfl | (simp only [firstArgMember]; rfl)) ?_)
      refine wpAny_newObj_type ?_ (by size_fits)
      simp only [raiseNew]
      refine wpAny_bind (wpAny_bind (wpAny_handled ?_))
      first | rw [show A.in1.handled = none from hh] | rw [hh]
      refine wpAny_throw ?_
      refine wpAny_bind (wpAny_isInstance (T := "StopIteration") (b := true) ⟨_, Heap.get?_push_size _ rfl, rfl⟩ isSubtype_stop ?_)
      exact wpAny_pure (q _ fun b o hb => Heap.get?_push_of_some _ (Heap.get?_push_of_some _ hb))
end
end GZ

set_option Elab.async false
set_option linter.all false
set_option maxRecDepth 100000
set_option maxHeartbeats 1000000
/-! GZ5 (of no law): a generator's frame, seen anew at each wake: its context stands over what is older than the frame, as that stands at the wake. -/
namespace GZ
open PySem PySem.Spec PyProof.Rows GenW L2

/-- what is older than L, as it stands -/
def cut (L : Nat) (s : Shared) : Shared := { s with heap := ⟨s.heap.objs.extract 0 L, s.heap.life⟩ }
theorem cut_get {L b : Nat} {s : Shared} (h : b < L) : (cut L s).heap.get? b = s.heap.get? b := by
  have e : (s.heap.objs.extract 0 L)[b]? = s.heap.objs[b]? := by
    rw [Array.getElem?_extract]
    by_cases z : b < s.heap.objs.size
    · rw [if_pos (by omega), Nat.zero_add]
    · rw [if_neg (by omega), Array.getElem?_eq_none (by omega)]
  show (match (s.heap.objs.extract 0 L)[b]? with | some ⟨_, _, .freed, _⟩ => none | o => o) = _
  rw [e]; rfl
theorem cut_size {L : Nat} {s : Shared} (h : L ≤ s.heap.objs.size) : (cut L s).heap.objs.size = L := by
  show (s.heap.objs.extract 0 L).size = L
  rw [Array.size_extract]; omega
theorem cut_sub {L b : Nat} {s : Shared} {o : Obj} (h : (cut L s).heap.get? b = some o) : b < L ∧ s.heap.get? b = some o := by
  have lt : b < L := by
    have q : b < (cut L s).heap.objs.size := Heap.lt_size h
    have z : (cut L s).heap.objs.size ≤ L := by
      show (s.heap.objs.extract 0 L).size ≤ L
      rw [Array.size_extract]; omega
    omega
  exact ⟨lt, by rw [← cut_get lt]; exact h⟩

/-- a generator's frame at L -/
structure GF where
  P : Program
  w : World
  K : PySem.W.Frag
  mg : Str → Option Value
  base : Heap
  N : List Str
  qual : Str
  scope : Scope
  f : Addr
  cd : Value
  A : Around
  outer : List Env
  L : Addr
abbrev GF.env (F : GF) : Env := envOfC F.qual F.scope F.L F.f F.cd
/-- its context at a wake -/
abbrev gx (F : GF) (s : Shared) (H : Hp) : Cx where
  prog := F.P
  w := F.w
  K := F.K
  mg := F.mg
  base := F.base
  A := F.A.deeper F.env
  N := F.N
  s_0 := cut F.L s
  H_0 := H
  env := F.env
  outer := F.outer
  stack := F.env :: F.outer
  ex := []
  fn := fun _ => true
  calm := true
  pn := []
  xe := fun _ _ => False
/-- what never changes of it: no cells, younger than its callers' frames -/
structure GF.Ok (F : GF) : Prop where
  kind : F.scope.kind = .function
  cells : cellsFrom (F.L + 1) F.scope.names [] = []
  plain : ∀ x, F.scope.names.lookup x ≠ some .cell ∧ F.scope.names.lookup x ≠ some .free
  hd : F.A.handled = none
  base : F.base.objs.size ≤ F.L
  fr : ∀ b ∈ frs F.outer, b < F.L
/-- its names as they stand -/
def GLoc (F : GF) (σ : L2.St) (h : Heap) : Prop := ∃ m, h.Ns F.L m ∧ ∀ (i : Nat) (x : Str) (v : V), F.N[i]? = some x → σ[i]? = some (some v) → Vis F.scope x → ∃ u, RelV v u ∧ Look F.env h m x u
theorem GF.Ok.lk {F : GF} (k : F.Ok) (x : Str) : F.env.cells.lookup x = none := by
  show (cellsFrom (F.L + 1) F.scope.names []).lookup x = none
  rw [k.cells]; rfl
theorem GLoc.at {F : GF} (k : F.Ok) {σ : L2.St} {h h' : Heap} (g : GLoc F σ h) (e : ∀ o, h.get? F.L = some o → h'.get? F.L = some o) : GLoc F σ h' := by
  obtain ⟨m, hn, hv⟩ := g
  refine ⟨m, hn.at' e, fun i x v h1 h2 h3 => ?_⟩
  obtain ⟨u, r, l⟩ := hv i x v h1 h2 h3
  refine ⟨u, r, ?_⟩
  rcases l with l | ⟨_, c, l, _⟩
  · exact .inl l
  · rw [k.lk x] at l; cases l

theorem gx_inv {F : GF} (k : F.Ok) {s : Shared} {H : Hp} {σ : L2.St} {pins : List (Addr × Obj)} (e0 : Env0 F.P F.w F.K F.mg F.base F.A F.outer s H) (gl : GLoc F σ s.heap) (hf : H F.L = none)
    (hp : ∀ p ∈ pins, s.heap.get? p.1 = some p.2 ∧ H p.1 = none ∧ p.1 ≠ F.L ∧ p.1 ∉ frs F.outer ∧ ∀ v, p.2.data ≠ .cell v) (hl : σ.length = F.N.length) : Inv (gx F s H) pins σ H s := by
  have hlt : F.L < s.heap.objs.size := let ⟨_, hn, _⟩ := gl; hn.lt
  have hsz := cut_size (s := s) (Nat.le_of_lt hlt)
  have nol : ∀ {b : Addr}, b ∉ (gx F s H).ex := fun {b} z => by simp at z
  have nolk : ∀ {x : Str} {c : Addr}, (gx F s H).env.cells.lookup x = some c → False := fun {x c} z => by
    have q := k.lk x
    rw [show (gx F s H).env.cells.lookup x = F.env.cells.lookup x from rfl, q] at z
    cases z
  refine ⟨⟨e0.mod, k.kind, rfl, rfl, ?_, fun x y c h1 _ => (nolk h1).elim, fun x h => ?_, fun x c _ h => (nolk h).elim, fun _ => k.hd, Around.frames_deeper e0.frames, .inr ⟨rfl, rfl⟩, fun b z => (nol z).elim, fun b o e => ?_, ?_, fun b _ _ => nol, fun b z => (nol z).elim, ?_, e0.frf⟩,
    rfl, e0.bare, Un.kept fun b o e => (cut_sub e).2, gl, fun x c h => (nolk h).elim, hf, fun x c h => (nolk h).elim, fun p q => hp p q, e0.hok, hl⟩
  · show (cut F.L s).heap.objs.size ≤ F.L
    rw [hsz]; exact Nat.le_refl _
  · rcases h with h | h
    · exact ((k.plain x).1 h).elim
    · exact ((k.plain x).2 h).elim
  · obtain ⟨h1, h2⟩ := e0.bs b o e
    refine ⟨(cut_get ?_).trans h1, h2⟩
    exact Nat.lt_of_lt_of_le (Heap.lt_size e) k.base
  · show F.base.objs.size ≤ (cut F.L s).heap.objs.size
    rw [hsz]; exact k.base
  · have go : ∀ l : List Env, (∀ b ∈ frs l, b < F.L) → s.heap.FunFrames F.base l → (cut F.L s).heap.FunFrames F.base l := by
      intro l
      induction l with
      | nil => intro _ _; trivial
      | cons e l ih =>
        intro hb hh
        obtain ⟨h1, ⟨L, o, h2, h3, h4, h5⟩, h6⟩ := hh
        have hm : frs (e :: l) = L :: frs l := by unfold frs; rw [List.filterMap_cons, h2]
        rw [hm] at hb
        exact ⟨h1, ⟨L, o, h2, h3, (cut_get (hb L List.mem_cons_self)).trans h4, h5⟩, ih (fun b q => hb b (List.mem_cons_of_mem _ q)) h6⟩
    exact go F.outer k.fr e0.funs

/-- what is not older than L -/
def young (L : Nat) (s : Shared) : List Addr := (List.range s.heap.objs.size).filter fun b => decide (L ≤ b)
theorem not_young {L b : Nat} {s : Shared} {o : Obj} (e : s.heap.get? b = some o) (h : b ∉ young L s) : b < L := by
  by_cases z : b < L
  · exact z
  · exact (h (List.mem_filter.mpr ⟨List.mem_range.mpr (Heap.lt_size e), decide_eq_true (Nat.not_lt.mp z)⟩)).elim
theorem of_young {L b : Nat} {s : Shared} (h : b ∈ young L s) : L ≤ b := of_decide_eq_true (List.mem_filter.mp h).2
/-- behind a wake, seen from without -/
theorem gx_un {F : GF} {s u : Shared} {H H' : Hp} {σ : L2.St} {pins : List (Addr × Obj)} (J : Inv (gx F s H) pins σ H' u) : Un (frs F.outer) (young F.L s) H H' s.heap u.heap := by
  have b0 : Un (frs F.outer) [] H H' (cut F.L s).heap u.heap := J.base
  have nl : ∀ {b : Addr}, b ∉ ([] : List Addr) := fun {b} z => by simp at z
  exact ⟨fun b o e n hb hx => b0.keep b o ((cut_get (not_young e hx)).trans e) n hb nl, fun b o e n hb hx => b0.slot b o ((cut_get (not_young e hx)).trans e) n hb nl,
    fun b o e n hx => b0.free b o ((cut_get (not_young e hx)).trans e) n nl, fun b o e hx => b0.there b o ((cut_get (not_young e hx)).trans e) nl, b0.tups, b0.frzs, b0.tbls⟩
end GZ

set_option Elab.async false
set_option linter.all false
set_option maxRecDepth 100000
set_option maxHeartbeats 1000000
/-! GZ6 (of no law): for x in g(..): .. where g is a generator def of one's own and the body may leave. -/
namespace GZ
open PySem PySem.Spec PyProof.Rows GenW L2
open Sem (wp)

/-- behind a wake: what is older than the frame is kept -/
structure Step (F : GF) (s : Shared) (H H' : Hp) (u : Shared) : Prop where
  os : u.os = s.os
  bare : AllBare u.gens
  un : Un (frs F.outer) (young F.L s) H H' s.heap u.heap
  hok : HOk F.P F.w H' u.heap
/-- the generator's own records as they stand: its object, its frame, its iterators -/
structure Own (F : GF) (a : Addr) (go : Obj) (pg : List (Addr × Obj)) (H : Hp) (h : Heap) : Prop where
  here : ∀ p ∈ pg, h.get? p.1 = some p.2 ∧ H p.1 = none
  old : ∀ p ∈ pg, F.L ≤ p.1 ∧ p.1 ∉ frs F.outer ∧ ∀ v, p.2.data ≠ .cell v
  self : (a, go) ∈ pg
  frame : ∃ o, (F.L, o) ∈ pg
/-- a generator with r items left, the i-th next; W: what the heap that it was left with must keep until it is woken -/
def Fut (F : GF) (a : Addr) (go : Obj) (W : Hp → Hp → Prop) (Y : Nat → Hp → V → Hp → Prop) : Nat → Nat → Hp → List (Addr × Obj) → GenState → Prop
  | 0 => fun i Hl pg gs => ∀ (s : Shared) (H : Hp), Env0 F.P F.w F.K F.mg F.base F.A F.outer s H → (∀ p ∈ pg, s.heap.get? p.1 = some p.2 ∧ H p.1 = none) → W Hl H →
      Wk (model F.P F.w) F.A (fun e u => ∃ q, e = .ret q ∧ (q = .ok (.ret .none) ∨ q = .ok .next) ∧ Step F s H H u) gs s
  | r + 1 => fun i Hl pg gs => ∀ (s : Shared) (H : Hp), Env0 F.P F.w F.K F.mg F.base F.A F.outer s H → (∀ p ∈ pg, s.heap.get? p.1 = some p.2 ∧ H p.1 = none) → W Hl H →
      Wk (model F.P F.w) F.A (fun e u => ∃ v g l k c p fs x H' pg', e = .susp v g l k c p fs ∧ e.quiet = true ∧ RelV x v ∧ Step F s H H' u ∧ Own F a go pg' H' u.heap ∧ Y i H x H' ∧ Fut F a go W Y r (i + 1) H' pg' e.genState) gs s
/-- what a for asks of an expression that makes a generator -/
abbrev TGi := L2.St → Hp → (Nat → (Hp → Hp → Prop) → (Nat → Hp → V → Hp → Prop) → Hp → Prop) → Prop
/-- a generator has come, made in X's own code -/
def GenHere (X : Cx) (pins : List (Addr × Obj)) (σ : L2.St) (R : Nat → (Hp → Hp → Prop) → (Nat → Hp → V → Hp → Prop) → Hp → Prop) (v : Value) (s : Shared) : Prop :=
  ∃ (F : GF) (a : Addr) (go : Obj) (g : Nat) (nm qn : Value) (gs : GenState) (pg : List (Addr × Obj)) (n : Nat) (W : Hp → Hp → Prop) (Y : Nat → Hp → V → Hp → Prop) (H : Hp),
    v = .ref a ∧ Inv X pins σ H s ∧ go.cls = .type "generator" ∧ go.data = .fields #[.int g 0, nm, qn] ∧ go.slots = #[] ∧ s.gens[g]? = some gs ∧ Own F a go pg H s.heap ∧ Fut F a go W Y n 0 H pg gs ∧ W H H ∧ R n W Y H ∧
    F.P = X.prog ∧ F.w = X.w ∧ F.K = X.K ∧ F.mg = X.mg ∧ F.base = X.base ∧ F.A = X.A.in1 ∧ F.outer = X.stack ∧ X.s_0.heap.objs.size ≤ F.L ∧ X.env.locals < F.L ∧ (∀ x c, X.env.cells.lookup x = some c → c < F.L) ∧ ∀ p ∈ X.pn ++ pins, p.1 < F.L
structure PGi (X : Cx) (e : Expr) (t : TGi) : Prop where
  run : ∀ (pins : List (Addr × Obj)) (s : Shared) (σ : L2.St) (H : Hp) (R : Nat → (Hp → Hp → Prop) → (Nat → Hp → V → Hp → Prop) → Hp → Prop), Inv X pins σ H s → t σ H R →
    wpAny (model X.prog X.w) X.A (eval e X.env) (GenHere X pins σ R) X.xe s
/-- what is wanted of an exception does not ask how generators sleep -/
def XeG (X : Cx) : Prop := ∀ (D : Nat → Prop) (e : Value) (s : Shared) (G : Array GenState), Asl D s.gens G → X.xe e s → X.xe e (under s G)
theorem XeG.never {X : Cx} (h : ∀ e s, X.xe e s → False) : XeG X := fun _ e s _ _ q => (h e s q).elim

theorem inv_under {X : Cx} {pins : List (Addr × Obj)} {σ : L2.St} {H : Hp} {s : Shared} {G : Array GenState} (I : Inv X pins σ H s) (h : AllBare G) : Inv X pins σ H (under s G) :=
  ⟨I.ok, I.os, h, I.base, I.loc, I.cell, I.free, I.freeC, I.pin, I.hok, I.len⟩

/-- as wpAny_asleep, with how the sleepers stand -/
theorem wpAny_asl {α : Type} {M : Model} {A : Around} {s : Shared} {t : Sem α} {Q : α → Shared → Prop} {E : Value → Shared → Prop} {D : Nat → Prop} (hD : D = fun j => ∃ st, s.gens[j]? = some st ∧ sleeps st)
    (h : wpAny M A t (fun a s' => ∀ G' : Array GenState, Asl D s'.gens G' → (∀ j, D j → G'[j]? = s.gens[j]?) → Q a (under s' G')) (fun e s' => ∀ G' : Array GenState, Asl D s'.gens G' → E e (under s' G')) (asleep s)) : wpAny M A t Q E s := fun Γ p hΓ => by
  subst hD
  have q := wp_wake M Γ _ t _ _ p (asleep s) s.gens s.gens (asl_of s) (fun _ _ => rfl) (h Γ p hΓ)
  refine Sem.wp_mono M Γ t (fun a p' t' ht => ?_) (fun e p' t' ht => ?_) p s q
  · obtain ⟨s', G', rfl, ha, hk, hq⟩ := ht
    exact hq G' ha hk
  · obtain ⟨s', G', rfl, ha, hk, hq⟩ := ht
    exact hq G' ha

/-- for: Pv stands at each turn; the body may leave -/
def tForGi (t : TGi) (g : TG) (tb : TS) : TS := fun D σ H => t σ H fun n W Y H1 => ∃ Pv : Nat → L2.St → Hp → Prop, Pv 0 σ H1 ∧ (∀ σ H, Pv n σ H → D.nx σ H) ∧
  ∀ i σ H x H', i < n → Pv i σ H → Y i H x H' → g x σ H' fun σ2 H2 => tb { D with nx := fun σ3 H3 => Pv (i + 1) σ3 H3 ∧ W H' H3, ct := fun σ3 H3 => Pv (i + 1) σ3 H3 ∧ W H' H3, bk := D.nx } σ2 H2

section
variable {X : Cx} {iter tg : Expr} {body : List Stmt} {pos : Pos} {t : TGi} {g : TG} {tb : TS}
theorem ps_forGi (hp : PassesOwn (model X.prog X.w) X.A X.env X.xe) (hc : X.calm = true) (hxe : XeG X) (hroom : X.A.depth < recursionLimit) (hi : PGi X iter t) (hg : PG X tg g) (hb : PSs X body tb)
    (hs : ∀ x, foldedSetIterable iter X.env x = pure x := by intro _; rfl) : PS X (.For tg iter body [] pos) (tForGi t g tb) := by
  refine ⟨fun pins s σ H D I h => ?_⟩
  refine wpAny_For (thn (hi.run pins s σ H _ I h) fun v s1 h1 => ?_) hs
  obtain ⟨F, a, go, gn, nm, qn, gs, pg, n, W, Y, H1, rfl, I1, gc, gd, gsl, hgs, own, fut, w0, ⟨Pv, pv0, pvn, step⟩, eP, ew, eK, em, eb, eA, eo, oL, lL, cL, pL⟩ := h1
  have isg : ∀ {pg : List (Addr × Obj)} {H : Hp} {h : Heap}, Own F a go pg H h → h.IsGen a gn := fun {pg H h} o => ⟨go, nm, qn, (o.here _ o.self).1, gc, gd, gsl⟩
  refine wpAny_pyIter_gen (isg own) ?_
  have env0 : ∀ {σ : L2.St} {H : Hp} {s : Shared} {G : Array GenState}, Inv X pins σ H s → AllBare G → Env0 F.P F.w F.K F.mg F.base F.A F.outer (under s G) H := fun {σ H s G} I hG => by
    rw [eP, ew, eK, em, eb, eA, eo]
    exact (inv_under I hG).env0.in1
  -- the consumer's state behind a wake
  have back : ∀ {σ : L2.St} {H H' : Hp} {s u : Shared}, Inv X pins σ H s → Step F s H H' u → Inv X pins σ H' u := fun {σ H H' s u} I q => by
    refine I.call' (ch := young F.L s) q.os (by rw [← eo]; exact q.un) (by rw [← eP, ← ew]; exact q.hok) q.bare fun b hb => ?_
    have hL : F.L ≤ b := of_young hb
    exact ⟨.inr (Nat.le_trans oL hL), Nat.ne_of_gt (Nat.lt_of_lt_of_le lL hL), fun x c e => Nat.ne_of_lt (Nat.lt_of_lt_of_le (cL x c e) hL), fun p hp => Nat.ne_of_lt (Nat.lt_of_lt_of_le (pL p hp) hL)⟩
  have bareSet : ∀ {s : Shared} {j : Nat} {x : GenState}, AllBare s.gens → x.bare = true → AllBare (s.setGen j x).gens := fun h1 h2 => allBare_setGen h1 h2
  refine codeAny_forLoop_any (fun m s' => ∃ i σ' H' Hl pg gs, i + m = n ∧ Inv X pins σ' H' s' ∧ s'.gens[gn]? = some gs ∧ Own F a go pg H' s'.heap ∧ Fut F a go W Y m i Hl pg gs ∧ W Hl H' ∧ Pv i σ' H') ?_ n ⟨0, σ, H1, H1, pg, gs, Nat.zero_add n, I1, hgs, own, fut, w0, pv0⟩
  rintro m s3 ⟨i, σ3, H3, Hl, pg3, gs3, him, I3, hgs3, own3, fut3, w3, pv3⟩
  have lim : s3.heap.NoLimit := I3.nolimit
  have gz : gn < s3.gens.size := (Array.getElem?_eq_some_iff.mp hgs3).1
  cases m with
  | zero =>
    have ei : i = n := by omega
    subst ei
    refine wpAny_passesOwn hp ?_
    have wk := fut3 (s3.setGen gn .running) H3 (env0 I3 (bareSet I3.bare rfl)) own3.here w3
    rw [eP, ew, eA] at wk
    refine next_W (I3.ok.hd hc) lim hroom (isg own3) hgs3 wk fun e u he => ?_
    obtain ⟨q, rfl, hq, st⟩ := he
    refine ⟨rfl, hq, fun h' hk => ?_⟩
    have I4 : Inv X pins σ3 H3 u := back (inv_under I3 (bareSet I3.bare rfl)) st
    refine wpAny_execs_nil ⟨σ3, H3, ?_, pvn σ3 H3 pv3⟩
    have I5 := inv_under I4 (bareSet (s := u) (j := gn) I4.bare (x := .finished) rfl)
    exact I5.kept (h' := h') (t' := u.toks) hk
  | succ r =>
    have hlt : i < n := by omega
    refine wpAny_passesOwn hp ?_
    have wk := fut3 (s3.setGen gn .running) H3 (env0 I3 (bareSet I3.bare rfl)) own3.here w3
    rw [eP, ew, eA] at wk
    refine wpAny_gsz (n := gn + 1) gz (next_W (I3.ok.hd hc) lim hroom (isg own3) hgs3 wk fun e u he => ?_)
    obtain ⟨v, gd0, l, k, c, p, fs, x, H5, pg5, rfl, hqt, rx, st, own5, y5, fut5⟩ := he
    refine ⟨hqt, fun hsz => ?_⟩
    have I5 : Inv X pins σ3 H5 (u.setGen gn (End.susp v gd0 l k c p fs).genState) :=
      inv_under (back (inv_under I3 (bareSet I3.bare rfl)) st) (bareSet st.bare (End.bare_of_quiet hqt))
    have gz5 : gn < u.gens.size := by
      have q : (u.setGen gn (End.susp v gd0 l k c p fs).genState).gens.size = u.gens.size := setGen_size _ _ _
      have q2 : gn + 1 ≤ (u.setGen gn (End.susp v gd0 l k c p fs).genState).gens.size := hsz
      omega
    generalize hs5 : u.setGen gn (End.susp v gd0 l k c p fs).genState = s5 at I5
    have hg5 : s5.gens[gn]? = some (End.susp v gd0 l k c p fs).genState := by rw [← hs5]; exact setGen_at gz5
    have h5 : s5.heap = u.heap := by rw [← hs5]; rfl
    have own5' : Own F a go pg5 H5 s5.heap := by rw [h5]; exact own5
    have hsleep : sleeps (End.susp v gd0 l k c p fs).genState := trivial
    generalize hgs5 : (End.susp v gd0 l k c p fs).genState = gs5 at hg5 hsleep fut5
    -- the generator's records as pins
    have pinned : ∀ {σ : L2.St} {H : Hp} {s : Shared}, Inv X pins σ H s → Own F a go pg5 H s.heap → Inv X (pins ++ pg5) σ H s := fun {σ H s} I o => I.pins_of fun p hp => by
      rcases List.mem_append.mp hp with hp | hp
      · exact I.pin p (List.mem_append_right _ hp)
      · obtain ⟨h1, h2⟩ := o.here p hp
        obtain ⟨h3, h4, h5⟩ := o.old p hp
        refine ⟨h1, h2, Nat.ne_of_gt (Nat.lt_of_lt_of_le lL h3), fun hb => h4 ?_, h5⟩
        rw [eo]
        rcases I.ok.stk with z | ⟨z, _⟩
        · rw [z]; exact hb
        · rw [z]; unfold frs; rw [List.filterMap_cons]; cases X.env.frame <;> first | exact hb | exact List.mem_cons_of_mem _ hb
    have own_of : ∀ {σ : L2.St} {H : Hp} {s : Shared}, Inv X (pins ++ pg5) σ H s → Own F a go pg5 H s.heap := fun {σ H s} I =>
      ⟨fun p hp => let q := I.pin p (List.mem_append_right _ (List.mem_append_right _ hp)); ⟨q.1, q.2.1⟩, own5.old, own5.self, own5.frame⟩
    obtain ⟨goO, hgo⟩ : ∃ o, s5.heap.get? a = some o ∧ o = go := ⟨go, (own5'.here _ own5'.self).1, rfl⟩
    refine wpAny_passesOwn hp (go_of hgo.1 (by rw [hgo.2]; exact gc) (by rw [hgo.2]; exact gd) (by decide) ?_)
    refine wpAny_passesOwn hp (wpAny_asl rfl ?_)
    refine wpAny_mono (hg.run (pins ++ pg5) (asleep s5) σ3 H5 x v _ (inv_under (pinned I5 own5') (asleep_bare I5.bare)) rx (step i σ3 H3 x H5 hlt pv3 y5)) (fun _ s6 h6 G6 a6 k6 => ?_) fun e s6 hx G6 a6 => hxe _ e s6 G6 a6 hx
    obtain ⟨σ6, H6, I6, q6⟩ := h6
    have I6' : Inv X (pins ++ pg5) σ6 H6 (under s6 G6) := inv_under I6 (bare_back a6 I6.bare)
    have hg6 : (under s6 G6).gens[gn]? = some gs5 := (k6 gn ⟨_, hg5, hsleep⟩).trans hg5
    refine wpAny_passesOwn hp (wpAny_asl rfl ?_)
    refine wpAny_mono (hb.run (pins ++ pg5) (asleep (under s6 G6)) σ6 H6 _ (inv_under I6' (asleep_bare I6'.bare)) q6) (fun f s7 h7 G7 a7 k7 => ?_) fun e s7 hx G7 a7 => hxe _ e s7 G7 a7 hx
    have hg7 : (under s7 G7).gens[gn]? = some gs5 := (k7 gn ⟨_, hg6, hsleep⟩).trans hg6
    have I7' : ∀ {σ : L2.St} {H : Hp}, Inv X (pins ++ pg5) σ H s7 → Inv X (pins ++ pg5) σ H (under s7 G7) := fun I => inv_under I (bare_back a7 I.bare)
    have again : ∀ {σ7 : L2.St} {H7 : Hp}, Inv X (pins ++ pg5) σ7 H7 s7 → (Pv (i + 1) σ7 H7 ∧ W H5 H7) → ∃ m, m < r + 1 ∧ ∃ i σ' H' Hl pg gs, i + m = n ∧ Inv X pins σ' H' (under s7 G7) ∧ (under s7 G7).gens[gn]? = some gs ∧ Own F a go pg H' (under s7 G7).heap ∧ Fut F a go W Y m i Hl pg gs ∧ W Hl H' ∧ Pv i σ' H' := fun {σ7 H7} I7 n7 =>
      ⟨r, Nat.lt_succ_self r, i + 1, σ7, H7, H5, pg5, gs5, by omega, (I7' I7).unpinned, hg7, own_of (I7' I7), fut5, n7.2, n7.1⟩
    cases f with
    | next => obtain ⟨σ7, H7, I7, n7⟩ := h7; exact again I7 n7
    | cont => obtain ⟨σ7, H7, I7, n7⟩ := h7; exact again I7 n7
    | brk => obtain ⟨σ7, H7, I7, q7⟩ := h7; exact ⟨σ7, H7, (I7' I7).unpinned, q7⟩
    | ret v => obtain ⟨x7, σ7, H7, I7, r7, q7⟩ := h7; exact ⟨x7, σ7, H7, (I7' I7).unpinned, r7, q7⟩
end
end GZ

set_option Elab.async false
set_option linter.all false
set_option maxRecDepth 100000
set_option maxHeartbeats 1000000
/-! GZ7 (of no law): the generator's own side: what it hands out, and what follows a wake. -/
namespace GZ
open PySem PySem.Spec PyProof.Rows GenW L2
open Sem (wp)

/-- what a wake at (s, H) comes to, r items left, the i-th next -/
def PhiAt (F : GF) (a : Addr) (go : Obj) (W : Hp → Hp → Prop) (Y : Nat → Hp → V → Hp → Prop) : Nat → Nat → Shared → Hp → End → Shared → Prop
  | 0 => fun i s H e u => ∃ q, e = .ret q ∧ (q = .ok (.ret .none) ∨ q = .ok .next) ∧ Step F s H H u
  | r + 1 => fun i s H e u => ∃ v g l k c p fs x H' pg', e = .susp v g l k c p fs ∧ e.quiet = true ∧ RelV x v ∧ Step F s H H' u ∧ Own F a go pg' H' u.heap ∧ Y i H x H' ∧ Fut F a go W Y r (i + 1) H' pg' e.genState
section
variable {F : GF} {a : Addr} {go : Obj} {W : Hp → Hp → Prop} {Y : Nat → Hp → V → Hp → Prop}
theorem fut_of {r i : Nat} {Hl : Hp} {pg : List (Addr × Obj)} {gs : GenState}
    (h : ∀ (s : Shared) (H : Hp), Env0 F.P F.w F.K F.mg F.base F.A F.outer s H → (∀ p ∈ pg, s.heap.get? p.1 = some p.2 ∧ H p.1 = none) → W Hl H → Wk (model F.P F.w) F.A (PhiAt F a go W Y r i s H) gs s) : Fut F a go W Y r i Hl pg gs := by
  cases r with
  | zero => exact h
  | succ r => exact h
theorem step_of {s u : Shared} {H H' : Hp} {σ : L2.St} {pg : List (Addr × Obj)} (J : Inv (gx F s H) pg σ H' u) : Step F s H H' u := ⟨J.os, J.bare, gx_un J, J.hok⟩
/-- the end -/
theorem phi_end {i : Nat} {s u : Shared} {H : Hp} {σ : L2.St} {pg : List (Addr × Obj)} {q : Result} (hq : q = .ok (.ret .none) ∨ q = .ok .next) (J : Inv (gx F s H) pg σ H u) : PhiAt F a go W Y 0 i s H (.ret q) u :=
  ⟨q, rfl, hq, step_of J⟩

/-- something is handed out; then it goes on at whatever wake follows -/
theorem sg_out (kF : F.Ok) {r i : Nat} {s u : Shared} {H H' : Hp} {σ : L2.St} {pg : List (Addr × Obj)} {c : Code} {fs : List Frame} {K : Flow → Sem PySem.Fin} {J : Value → Sem PySem.Fin} {gd : Bool → Bool} {lv : List Value → List Value}
    {e : Expr} {yp pos : Pos} {te : TE} (over : F.A.over c fs = F.A.deeper F.env) (hsp : splitAtGen fs = none) (hgd : gd false = false) (hgu : fs.any Frame.guarded = false) (self : (a, go) ∈ pg) (old : ∀ p ∈ pg, F.L ≤ p.1)
    (he : PE (gx F s H) e te) (I : Inv (gx F s H) pg σ H' u)
    (h : te σ H' fun x H2 => Y i H x H2 ∧ ∀ s3 H3, Inv (gx F s3 H3) pg σ H3 s3 → W H2 H3 → Sg (model F.P F.w) F.A (PhiAt F a go W Y r (i + 1) s3 H3) c (K .next) fs s3)
    (hco : F.env.scope.isCoroutine = false := by rfl) (hi : interactive F.env = false := by rfl) :
    Sg (model F.P F.w) F.A (PhiAt F a go W Y (r + 1) i s H) c ((exec (.Expr (.Yield (some e) yp) pos) F.env).wrap K J gd lv) fs u := by
  refine sg_Yield hsp ?_ hco hi
  rw [over]
  refine wpAny_mono (he.run pg u σ H' _ I h) (fun v u2 hv => ?_) fun _ _ q => q
  obtain ⟨x, H2, I2, rx, y2, next⟩ := hv
  intro l k p hk
  obtain ⟨m, ⟨oL, es, ep, hoL, hdL, hsk⟩, hvis⟩ := I2.loc
  have hL0 : F.L ∉ frs F.outer := fun hb => Nat.lt_irrefl _ (kF.fr F.L hb)
  refine ⟨v, gd false, l, k, c, p, fs, x, H2, (F.L, oL) :: pg, rfl, ?_, rx, step_of I2, ⟨fun q hq => ?_, fun q hq => ?_, List.mem_cons_of_mem _ self, oL, List.mem_cons_self⟩, y2, fut_of fun s3 H3 e0 hp hw => ?_⟩
  · show (!(gd false || fs.any Frame.guarded)) = true
    rw [hgd, hgu]; rfl
  · rcases List.mem_cons.mp hq with hq | hq
    · rw [hq]; exact ⟨hoL, I2.free⟩
    · exact ⟨(I2.pin q (List.mem_append_right _ hq)).1, (I2.pin q (List.mem_append_right _ hq)).2.1⟩
  · rcases List.mem_cons.mp hq with hq | hq
    · rw [hq]
      exact ⟨Nat.le_refl _, hL0, fun v z => by rw [hdL] at z; cases z⟩
    · have q2 := I2.pin q (List.mem_append_right _ hq)
      exact ⟨old q hq, q2.2.2.2.1, q2.2.2.2.2⟩
  · have gl : GLoc F σ u2.heap := ⟨m, ⟨oL, es, ep, hoL, hdL, hsk⟩, hvis⟩
    have I3 : Inv (gx F s3 H3) pg σ H3 s3 := gx_inv kF e0 (gl.at kF fun o z => by
        have hoL' : u2.heap.get? F.L = some oL := hoL
        rw [hoL'] at z
        cases z
        exact (hp (F.L, oL) List.mem_cons_self).1) (hp (F.L, oL) List.mem_cons_self).2 (fun q hq => by
        obtain ⟨h1, h2⟩ := hp q (List.mem_cons_of_mem _ hq)
        have q2 := I2.pin q (List.mem_append_right _ hq)
        exact ⟨h1, h2, q2.2.2.1, q2.2.2.2.1, q2.2.2.2.2⟩) I2.len
    show Sg (model F.P F.w) F.A (PhiAt F a go W Y r (i + 1) s3 H3) c (k (.send .none)) fs s3
    exact hk _ s3 (next s3 H3 I3 hw)
end
end GZ

set_option Elab.async false
set_option linter.all false
set_option maxRecDepth 100000
set_option maxHeartbeats 1000000
/-! GZ8 (of no law): a for in a generator's body: its turns, over wakes. -/
namespace GZ
open PySem PySem.Spec PyProof.Rows GenW L2
open Sem (wp)

section
variable {F : GF} {a : Addr} {go : Obj} {W : Hp → Hp → Prop} {Y : Nat → Hp → V → Hp → Prop}
/-- an iterator's records at a context of this frame -/
theorem fp_gx {s : Shared} {H H' : Hp} {σ : L2.St} {pg : List (Addr × Obj)} {u : Shared} {b : Addr} (kF : F.Ok) (I : Inv (gx F s H) pg σ H' u) (hs : F.L ≤ s.heap.objs.size) (hL : F.L ≤ b) (hp : ∀ p ∈ pg, p.1 ≠ b) (hn : H' b = none) (hl : b ≠ F.L) (hf : b ∉ frs F.outer) : FpOk (gx F s H) pg H' b := by
  refine ⟨hn, hl, hf, .inr ?_, fun x c e => ?_, fun p q => ?_⟩
  · show (cut F.L s).heap.objs.size ≤ b
    rw [cut_size hs]; exact hL
  · have z : F.env.cells.lookup x = some c := e
    rw [kF.lk x] at z; cases z
  · exact hp p ((List.mem_append.mp q).elim (fun z => absurd (show p ∈ ([] : List (Addr × Obj)) from z) (by simp)) id)
/-- the turns of a loop: Iv stands ahead of each; the body goes on by what it is handed -/
theorem sg_loop (kF : F.Ok) {tg : Expr} {body : List Stmt} {fs : List Frame} {J : It} {fp : List Addr} {it : Addr} {tn : Nat → Heap → Prop} {g : TG} {pg : List (Addr × Obj)} (T : Turn F.P F.w F.K tg J fp it tn)
    (hov : F.A.over (.forLoop tg (.ref it) body [] F.env) fs = F.A.deeper F.env) (hg : ∀ s H, PG (gx F s H) tg g) (hfp : ∀ b ∈ fp, F.L ≤ b ∧ b ≠ F.L ∧ b ∉ frs F.outer ∧ ∀ p ∈ pg, p.1 ≠ b)
    (m : Nat) (Iv Bd : Nat → Nat → Nat → Shared → Hp → Hp → L2.St → Prop)
    (hgo : ∀ j r i s H H' σ, j < m → Iv j r i s H H' σ → J.go j H' ∧ ∀ x H5, J.yld j H' x H5 → g x σ H5 fun σ2 H2 => Bd j r i s H H2 σ2)
    (hstop : ∀ r i s H H' σ, Iv m r i s H H' σ → J.stop m H')
    (hbody : ∀ j r i s H σ2 H2 u2 pt, j < m → Bd j r i s H H2 σ2 → (∀ p ∈ pt, F.L ≤ p.1) → Inv (gx F s H) (pg ++ pt) σ2 H2 u2 → F.L ≤ s.heap.objs.size →
      (∀ r' i' s' H3 H4 σ4 u4, Iv (j + 1) r' i' s' H3 H4 σ4 → F.L ≤ s'.heap.objs.size → Inv (gx F s' H3) (pg ++ pt) σ4 H4 u4 → Sg (model F.P F.w) F.A (PhiAt F a go W Y r' i' s' H3) (.forLoop tg (.ref it) body [] F.env) (.pure (.again (.forLoop tg (.ref it) body [] F.env))) fs u4) →
      Sg (model F.P F.w) F.A (PhiAt F a go W Y r i s H) (.forLoop tg (.ref it) body [] F.env) ((execs body F.env).wrap (turnK (.forLoop tg (.ref it) body [] F.env)) (turnJ F.env) id id) fs u2)
    (hdone : ∀ r i s H H' σ u, Iv m r i s H H' σ → Inv (gx F s H) pg σ H' u → F.L ≤ s.heap.objs.size → Sg (model F.P F.w) F.A (PhiAt F a go W Y r i s H) (.block [] F.env) (leafOf (.ok .next)) fs u) :
    ∀ d j, j + d = m → ∀ r i s H H' σ u, Iv j r i s H H' σ → F.L ≤ s.heap.objs.size → Inv (gx F s H) pg σ H' u → (∀ b ∈ fp, H' b = none) → tn j u.heap →
      Sg (model F.P F.w) F.A (PhiAt F a go W Y r i s H) (.forLoop tg (.ref it) body [] F.env) ((model F.P F.w).den (.forLoop tg (.ref it) body [] F.env)) fs u := by
  intro d
  induction d with
  | zero =>
    intro j hj r i s H H' σ u iv hs I hn ht
    have ej : j = m := by omega
    subst ej
    refine sg_turn ?_
    rw [hov]
    have fpk : ∀ b ∈ fp, FpOk (gx F s H) pg H' b := fun b hb => let q := hfp b hb; fp_gx kF I hs q.1 q.2.2.2 (hn b hb) q.2.1 q.2.2.1
    refine thn (T.done (gx F s H) rfl rfl rfl rfl _ pg u σ H' (fun _ _ => False) I fpk ht (hstop r i s H H' σ iv)) fun q u1 ⟨hq, I1⟩ => ?_
    subst hq
    exact sg_done (hdone r i s H H' σ u1 iv I1 hs)
  | succ d ih =>
    intro j hj r i s H H' σ u iv hs I hn ht
    have hlt : j < m := by omega
    refine sg_turn ?_
    rw [hov]
    have fpk : ∀ b ∈ fp, FpOk (gx F s H) pg H' b := fun b hb => let q := hfp b hb; fp_gx kF I hs q.1 q.2.2.2 (hn b hb) q.2.1 q.2.2.1
    obtain ⟨go1, yl⟩ := hgo j r i s H H' σ hlt iv
    refine thn (T.item (gx F s H) rfl rfl rfl rfl j pg u σ H' (fun _ _ => False) I fpk ht go1) fun q u1 ⟨v, hq, h1⟩ => ?_
    subst hq
    refine thn h1 fun _ u2 ⟨x, H5, I5, rx, y5, t5, n5⟩ => ?_
    have fpk5 : ∀ b ∈ fp, FpOk (gx F s H) pg H5 b := fun b hb => let q := hfp b hb; fp_gx kF I5 hs q.1 q.2.2.2 (n5 b hb) q.2.1 q.2.2.1
    have I5' := I5.pinned fpk5 (T.obj _ _ t5)
    refine thn ((hg s H).run _ u2 σ H5 x v _ I5' rx (yl x H5 y5)) fun _ u3 ⟨σ6, H6, I6, q6⟩ => ?_
    refine hbody j r i s H σ6 H6 u3 (pinsAt fp u2.heap) hlt q6 (fun p hp => (hfp p.1 (of_pinsAt hp).1).1) I6 hs fun r' i' s' H3 H4 σ4 u4 iv4 hs4 I4 => ?_
    refine sg_again rfl (ih (j + 1) (by omega) r' i' s' H3 H4 σ4 u4 iv4 hs4 I4.unpinned (fun b hb => ?_) (T.keep _ _ _ t5 fun b hb o e => (I4.pin (b, o) (List.mem_append_right _ (List.mem_append_right _ (mem_pinsAt hb e)))).1))
    obtain ⟨o, e, _⟩ := T.obj _ _ t5 b hb
    exact (I4.pin (b, o) (List.mem_append_right _ (List.mem_append_right _ (mem_pinsAt hb e)))).2.1
end
end GZ

set_option Elab.async false
set_option linter.all false
set_option maxRecDepth 100000
set_option maxHeartbeats 1000000
/-! GZ9 (of no law): the statements of a generator's body: a for, what hands out nothing, the body's end. -/
namespace GZ
open PySem PySem.Spec PyProof.Rows GenW L2
open Sem (wp)

/-- where the generator's code stands: its around, no other generator's frame, no guard -/
structure At (F : GF) (c : Code) (fs : List Frame) : Prop where
  over : F.A.over c fs = F.A.deeper F.env
  split : splitAtGen fs = none
  guard : fs.any Frame.guarded = false
section
variable {F : GF} {a : Addr} {go : Obj} {W : Hp → Hp → Prop} {Y : Nat → Hp → V → Hp → Prop}
theorem At.loop {c : Code} {fs : List Frame} {tg : Expr} {it : Addr} {body : List Stmt} {k : Result → Sem PySem.Fin} {gd : Bool} {l : List Value} {p : Pos} (h : At F c fs) (hg : gd = false) : At F (.forLoop tg (.ref it) body [] F.env) (.ret k none gd l c p [] :: fs) where
  over := (over_loop rfl rfl).trans h.over
  split := by
    show (splitAtGen fs).map _ = none
    rw [h.split]; rfl
  guard := by
    show (gd || fs.any Frame.guarded) = false
    rw [hg, h.guard]; rfl
theorem At.func {body : List Stmt} : At F (.func body F.env) [] := ⟨over_func, rfl, rfl⟩

/-- a statement that hands out nothing, ahead of the others -/
theorem sg_ps {r i : Nat} {s u : Shared} {H H' : Hp} {σ : L2.St} {pg : List (Addr × Obj)} {c : Code} {fs : List Frame} {K : Flow → Sem PySem.Fin} {J : Value → Sem PySem.Fin} {gd : Bool → Bool} {lv : List Value → List Value} {st : Stmt} {t : TS}
    (at' : At F c fs) (h : PS (gx F s H) st t) (I : Inv (gx F s H) pg σ H' u)
    (q : t { nx := fun σ2 H2 => ∀ u2, Inv (gx F s H) pg σ2 H2 u2 → Sg (model F.P F.w) F.A (PhiAt F a go W Y r i s H) c (K .next) fs u2, rt := fun _ _ => False, bk := fun _ _ => False, ct := fun _ _ => False } σ H') :
    Sg (model F.P F.w) F.A (PhiAt F a go W Y r i s H) c ((exec st F.env).wrap K J gd lv) fs u := by
  refine sg_wrap ?_
  rw [at'.over]
  refine wpAny_mono (h.run pg u σ H' _ I q) (fun f u2 hf => ?_) fun _ _ z => z
  cases f with
  | next => obtain ⟨σ2, H2, I2, z⟩ := hf; exact z u2 I2
  | brk => obtain ⟨_, _, _, z⟩ := hf; exact z.elim
  | cont => obtain ⟨_, _, _, z⟩ := hf; exact z.elim
  | ret v => obtain ⟨_, _, _, _, _, z⟩ := hf; exact z.elim

/-- what a for of a generator wants of what it goes over -/
def ForWant (F : GF) (a : Addr) (go : Obj) (W : Hp → Hp → Prop) (Y : Nat → Hp → V → Hp → Prop) (tg : Expr) (body : List Stmt) (g : TG) (pg : List (Addr × Obj)) (c : Code) (fs : List Frame) (K : Flow → Sem PySem.Fin) (r0 i0 : Nat) (s0 : Shared) (H0 : Hp) (σ0 : L2.St) (J : It) (H1 : Hp) : Prop :=
  ∃ (m : Nat) (Iv Bd : Nat → Nat → Nat → Shared → Hp → Hp → L2.St → Prop), Iv 0 r0 i0 s0 H0 H1 σ0 ∧
    (∀ j r i s H H' σ, j < m → Iv j r i s H H' σ → J.go j H' ∧ ∀ x H5, J.yld j H' x H5 → g x σ H5 fun σ2 H2 => Bd j r i s H H2 σ2) ∧
    (∀ r i s H H' σ, Iv m r i s H H' σ → J.stop m H') ∧
    (∀ (Cl : Code) (fsI : List Frame), At F Cl fsI → Cl.quiet = true → ∀ j r i s H σ2 H2 u2 pt, j < m → Bd j r i s H H2 σ2 → (∀ p ∈ pt, F.L ≤ p.1) → Inv (gx F s H) (pg ++ pt) σ2 H2 u2 → F.L ≤ s.heap.objs.size →
      (∀ r' i' s' H3 H4 σ4 u4, Iv (j + 1) r' i' s' H3 H4 σ4 → F.L ≤ s'.heap.objs.size → Inv (gx F s' H3) (pg ++ pt) σ4 H4 u4 → Sg (model F.P F.w) F.A (PhiAt F a go W Y r' i' s' H3) Cl (.pure (.again Cl)) fsI u4) →
      Sg (model F.P F.w) F.A (PhiAt F a go W Y r i s H) Cl ((execs body F.env).wrap (turnK Cl) (turnJ F.env) id id) fsI u2) ∧
    ∀ r i s H H' σ u, Iv m r i s H H' σ → Inv (gx F s H) pg σ H' u → F.L ≤ s.heap.objs.size → Sg (model F.P F.w) F.A (PhiAt F a go W Y r i s H) c (K .next) fs u

theorem sg_for (kF : F.Ok) {r i : Nat} {s u : Shared} {H H' : Hp} {σ : L2.St} {pg : List (Addr × Obj)} {c : Code} {fs : List Frame} {K : Flow → Sem PySem.Fin} {J : Value → Sem PySem.Fin} {gd : Bool → Bool} {lv : List Value → List Value} {tg iter : Expr} {body : List Stmt} {pos : Pos} {wi : TI} {g : TG}
    (at' : At F c fs) (hgd : gd false = false) (hi : PI (gx F s H) tg iter wi) (hg : ∀ s H, PG (gx F s H) tg g) (I : Inv (gx F s H) pg σ H' u) (hsz : F.L ≤ s.heap.objs.size)
    (h : wi σ H' fun Jt H1 => ForWant F a go W Y tg body g pg c fs K r i s H σ Jt H1) (hs : ∀ x, foldedSetIterable iter F.env x = pure x := by intro _; rfl) :
    Sg (model F.P F.w) F.A (PhiAt F a go W Y r i s H) c ((exec (.For tg iter body [] pos) F.env).wrap K J gd lv) fs u := by
  refine sg_For hs ?_
  rw [at'.over]
  refine wpAny_mono (hi.run pg u σ H' _ I h) (fun v u1 h1 => wpAny_mono h1 (fun itv u2 h2 => ?_) fun _ _ z => z) fun _ _ z => z
  obtain ⟨it, fp, tn, Jt, H2, rfl, I2, T, t0, f2, m, Iv, Bd, iv0, hgo, hstop, hbody, hdone⟩ := h2
  intro p
  have at2 : At F (.forLoop tg (.ref it) body [] F.env) (.ret (backK F.env K J gd lv) none (gd false) (lv []) c p [] :: fs) := at'.loop hgd
  refine sg_loop kF T at2.over hg (fun b hb => ?_) m Iv Bd hgo hstop (hbody _ _ at2 rfl) (fun r i s H H' σ u iv I hs => sg_leaf (.ok .next) ?_) m 0 (Nat.zero_add m) r i s H H2 σ u2 iv0 hsz I2 (fun b hb => (f2 b hb).1) t0
  · obtain ⟨q1, q2, q3, q4, q5, q6⟩ := f2 b hb
    refine ⟨?_, q2, q3, fun p hp => q6 p (List.mem_append_right _ hp)⟩
    rcases q4 with z | z
    · exact absurd (show b ∈ ([] : List Addr) from z) (by simp)
    · have z2 : (cut F.L s).heap.objs.size ≤ b := z
      rw [cut_size hsz] at z2
      exact z2
  · exact hdone r i s H H' σ u iv I hs
end
end GZ

set_option Elab.async false
set_option linter.all false
set_option maxRecDepth 100000
set_option maxHeartbeats 1000000
/-! GZA (of no law): a call of a generator def, as what a for goes over. -/
namespace GZ
open PySem PySem.Spec PyProof.Rows GenW L2
open Sem (wp)

/-- what stands behind a generator's body -/
abbrev finK (f : Flow) : Sem PySem.Fin := .pure (.done (.ret (match f with | .ret v => v | _ => .none)))
abbrev finJ (env : Env) (e : Value) : Sem PySem.Fin := (leaving env e).wrap (fun _ => .raise e) .raise id id
/-- a generator def's promise: the arguments, the heap; how many items, what must be kept until a wake, what each is -/
abbrev SpGi := List V → Hp → (Nat → (Hp → Hp → Prop) → (Nat → Hp → V → Hp → Prop) → Hp → Prop) → Prop
structure GDef (P : Program) (w : World) (K : PySem.W.Frag) (mg : Str → Option Value) (base : Heap) (k : Nat) (f : Addr) (name qual : Str) (params : Arguments) (body : List Stmt) (scope : Scope) (dV kV doc pm cdv ct oc : Value) (an od : Option Addr) (osl : Array (Option Value)) (N ps : List Str) (sp : SpGi) : Prop where
  lk : K.lookup f = some ⟨oc, od, .func (PySem.W.fnOf name qual params body scope dV kV doc pm an cdv ct), osl⟩
  cd : PySem.W.codeIn K cdv qual = true
  sc : GScope N ps scope
  cells : ∀ n, cellsFrom n scope.names [] = []
  plain : ∀ x, scope.names.lookup x ≠ some .cell ∧ scope.names.lookup x ≠ some .free
  run : ∀ vs H R, sp vs H R → vs.length = ps.length ∧ ∃ n W Y, W H H ∧ R n W Y H ∧ ∀ (A : Around) (outer : List Env) (L : Addr) (a : Addr) (go : Obj), Room k A → GF.Ok ⟨P, w, K, mg, base, N, qual, scope, f, cdv, A, outer, L⟩ → L ≤ a → L ≠ a →
    ∀ (s3 : Shared) (H3 : Hp), Inv (gx ⟨P, w, K, mg, base, N, qual, scope, f, cdv, A, outer, L⟩ s3 H3) [(a, go)] (start N vs) H3 s3 → L ≤ s3.heap.objs.size → W H H3 →
      Sg (model P w) A (PhiAt ⟨P, w, K, mg, base, N, qual, scope, f, cdv, A, outer, L⟩ a go W Y n 0 s3 H3) (.func body (envOfC qual scope L f cdv)) ((execs body (envOfC qual scope L f cdv)).wrap finK (finJ (envOfC qual scope L f cdv)) id id) [] s3

theorem run_gdef {X : Cx} {k : Nat} {f : Addr} {name qual : Str} {params : Arguments} {body : List Stmt} {scope : Scope} {dV kV doc pm cdv ct oc : Value} {an od : Option Addr} {osl : Array (Option Value)} {N ps : List Str} {sp : SpGi}
    {pins : List (Addr × Obj)} {σ : L2.St} {H : Hp} {s : Shared} {us : List Value} {vs : List V} {R : Nat → (Hp → Hp → Prop) → (Nat → Hp → V → Hp → Prop) → Hp → Prop} {E : Value → Shared → Prop}
    (G : GDef X.prog X.w X.K X.mg X.base k f name qual params body scope dV kV doc pm cdv ct oc an od osl N ps sp) (hr : Room (k + 1) X.A) (hr1 : Room k X.A.in1) (hb : Binds X.K (PySem.W.fnOf name qual params body scope dV kV doc pm an cdv ct) ps [])
    (I : Inv X pins σ H s) (r : Vals vs us) (h : sp vs H R) : wpAny (model X.prog X.w) X.A (call (.ref f) us) (GenHere X pins σ R) E s := by
  obtain ⟨hl, n, W, Y, hW, hR, hrun⟩ := G.run vs H R h
  have hl2 : us.length = ps.length := by rw [← r.length]; exact hl
  have e0 : Env0 X.prog X.w X.K X.mg X.base X.A.in1 X.stack s H := I.env0.in1
  have KX : X.K.In s.heap := I.kIn
  have lim : s.heap.NoLimit := I.nolimit
  have hb' := hb s us KX (by rw [List.append_nil]; exact hl2)
  rw [List.append_nil] at hb'
  have hkind : ∀ y ∈ ps.zip us, scope.names.lookup y.1 = some .local ∨ (scope.names.lookup y.1 = some .cell ∧ ((cellsFrom (s.heap.objs.size + 1) scope.names []).lookup y.1).isSome = true) := fun y hy => by
    obtain ⟨n', v'⟩ := y
    rcases G.sc.par n' (List.of_mem_zip hy).1 with q | q
    · exact .inl q
    · exact ((G.plain n').1 q).elim
  refine wpAny_call ?_
  refine codeAny_call_generator hr.depth (KX _ _ G.lk) rfl G.sc.co G.sc.gen rfl (PySem.W.codeRec_of KX G.cd) (hb' _ _ _ _ ?_)
  refine wpAny_newFunctionEnv_cells G.sc.kind hkind fun env he s1 x => ?_
  subst he
  have lim1 : s1.heap.NoLimit := lim.keeps x.toInCall.keep
  refine ⟨lim1, ?_⟩
  have I1 := inv_startG (E := fun _ _ _ => False) G.sc hr1.hd e0 hl r x
  obtain ⟨h1, tk, es1, hk1⟩ := x.done
  have lt1 : s.heap.objs.size < s1.heap.objs.size := x.toInCall.ns.lt
  have kp1 : ∀ b o, s.heap.get? b = some o → s1.heap.get? b = some o := x.toInCall.keep
  have kF : GF.Ok ⟨X.prog, X.w, X.K, X.mg, X.base, N, qual, scope, f, cdv, X.A.in1, X.stack, s.heap.objs.size⟩ := by
    refine ⟨G.sc.kind, G.cells _, G.plain, hr1.hd, Nat.le_trans I.ok.bsz I.sz, fun b hb => ?_⟩
    obtain ⟨_, o, ho, _⟩ := I.stack.mem hb
    exact Heap.lt_size ho
  obtain ⟨m, ⟨oL, es, ep, hoL, hdL, hsk⟩, hvis⟩ := I1.loc
  have hoL' : s1.heap.get? s.heap.objs.size = some oL := hoL
  have frL : ∀ b : Nat, s.heap.objs.size ≤ b → b ∉ frs X.stack := fun b hb hm => by
    have q := kF.fr b hm
    exact absurd (Nat.lt_of_lt_of_le q hb) (Nat.lt_irrefl _)
  show GenHere X pins σ R (.ref s1.heap.objs.size) _
  generalize hgo : ({ cls := .type "generator", data := .fields #[.int s1.gens.size 0, .str name s1.toks, .str qual (s1.toks + 1)] } : Obj) = go
  have gcls : go.cls = .type "generator" := by rw [← hgo]
  have gdat : go.data = .fields #[.int s1.gens.size 0, .str name s1.toks, .str qual (s1.toks + 1)] := by rw [← hgo]
  have gslt : go.slots = #[] := by rw [← hgo]
  have hpush : (s1.heap.push go).get? s1.heap.objs.size = some go := by rw [← hgo]; exact Heap.get?_push_size _ rfl
  have hpL : (s1.heap.push go).get? s.heap.objs.size = some oL := Heap.get?_push_of_some _ hoL'
  refine ⟨⟨X.prog, X.w, X.K, X.mg, X.base, N, qual, scope, f, cdv, X.A.in1, X.stack, s.heap.objs.size⟩, s1.heap.objs.size, go, s1.gens.size, _, _, .fresh (.func body (envOfC qual scope s.heap.objs.size f cdv)), [(s.heap.objs.size, oL), (s1.heap.objs.size, go)], n, W, Y, H,
    rfl, ?_, gcls, gdat, gslt, Array.getElem?_push_size .., ⟨fun p hp => ?_, fun p hp => ?_, by simp, oL, by simp⟩, fut_of fun s3 H3 e3 hp3 w3 => ?_, hW, hR, rfl, rfl, rfl, rfl, rfl, rfl, rfl, I.sz, I.lt, fun x c e => ?_, fun p hp => ?_⟩
  · refine I.call' (ch := []) (show s1.os = s.os by rw [es1]) (Un.kept fun b o e => Heap.get?_push_of_some _ (kp1 b o e)) (I.hok.kept fun b o e => Heap.get?_push_of_some _ (kp1 b o e)) (AllBare.push (by rw [show s1.gens = s.gens by rw [es1]]; exact I.bare) rfl) fun b z => absurd z (by simp)
  · rcases List.mem_cons.mp hp with e | hp
    · rw [e]; exact ⟨hpL, I.hok.fresh (Nat.le_refl _)⟩
    · rw [List.mem_singleton.mp hp]; exact ⟨hpush, I.hok.fresh (Nat.le_of_lt lt1)⟩
  · rcases List.mem_cons.mp hp with e | hp
    · rw [e]; exact ⟨Nat.le_refl _, frL _ (Nat.le_refl _), fun v z => by rw [hdL] at z; cases z⟩
    · rw [List.mem_singleton.mp hp]; exact ⟨Nat.le_of_lt lt1, frL _ (Nat.le_of_lt lt1), fun v z => by rw [gdat] at z; cases z⟩
  · have gl1 : GLoc ⟨X.prog, X.w, X.K, X.mg, X.base, N, qual, scope, f, cdv, X.A.in1, X.stack, s.heap.objs.size⟩ (start N vs) s1.heap := ⟨m, ⟨oL, es, ep, hoL, hdL, hsk⟩, hvis⟩
    have q1 := hp3 (s.heap.objs.size, oL) (by simp)
    have q2 := hp3 (s1.heap.objs.size, go) (by simp)
    have gl3 := gl1.at kF (h' := s3.heap) fun o z => by
      have z2 : s1.heap.get? s.heap.objs.size = some o := z
      rw [hoL'] at z2
      cases z2
      exact q1.1
    have I3 := gx_inv kF (pins := [(s1.heap.objs.size, go)]) e3 gl3 q1.2 (fun p hp => by
      rw [List.mem_singleton.mp hp]
      exact ⟨q2.1, q2.2, Nat.ne_of_gt lt1, frL _ (Nat.le_of_lt lt1), fun v z => by rw [gdat] at z; cases z⟩) I1.len
    show Sg _ _ _ (.func body (envOfC qual scope s.heap.objs.size f cdv)) _ [] s3
    refine sg_func ?_
    exact hrun X.A.in1 X.stack s.heap.objs.size s1.heap.objs.size go hr1 kF (Nat.le_of_lt lt1) (Nat.ne_of_lt lt1) s3 H3 I3 (Nat.le_of_lt (Heap.lt_size q1.1)) w3
  · obtain ⟨v, q⟩ := I.cell x c e
    exact q.lt
  · exact Heap.lt_size (I.pin p hp).1

section
variable {X : Cx} {k : Nat} {f : Addr} {name qual : Str} {params : Arguments} {body : List Stmt} {scope : Scope} {dV kV doc pm cdv ct oc : Value} {an od : Option Addr} {osl : Array (Option Value)} {N ps : List Str} {sp : SpGi} {x : Str} {p pos' : Pos}
/-- f(e, ..) of a generator def, in a for -/
theorem pgi_call {e : Expr} {es : List Expr} {t : TA} (G : GDef X.prog X.w X.K X.mg X.base k f name qual params body scope dV kV doc pm cdv ct oc an od osl N ps sp) (hr : Room (k + 1) X.A) (hr1 : Room k X.A.in1) (hg : Gl X x) (hm : X.mg x = some (.ref f)) (hk : PySem.W.keepIn X.K (.ref f) = true)
    (hb : Binds X.K (PySem.W.fnOf name qual params body scope dV kV doc pm an cdv ct) ps []) (ha : PA X (e :: es) t) (hdb : (x == ("__debug__" : Str)) = false := by decide) (he : starEach (e :: es) X.env = (false, eval e X.env) :: starEach es X.env := by rfl) (hpl : (backTo pos' (starEach es X.env)).any (·.1) = false := by rfl) :
    PGi X (.Call (.Name x p) (e :: es) [] pos') (fun σ H R => t σ H fun vs H1 => sp vs H1 R) := by
  refine ⟨fun pins s σ H R I h => ?_⟩
  refine wpAny_Call_Name_kw (ld_glob I hg hm ?_ hdb)
  refine PySem.W.callWith_K (h₀ := X.base) I.ok.mod.kin hk (thn (ha.run pos' pins s σ H _ I h) fun us s1 ⟨vs, H1, I1, r, q⟩ => ⟨I1.kIn, ?_⟩) he hpl
  exact run_gdef G hr hr1 hb I1 r q
end
end GZ

set_option Elab.async false
set_option linter.all false
set_option maxRecDepth 100000
set_option maxHeartbeats 4000000
/-! ST3: set(xs) of a list of different keys (ints, texts), however many; len of such a set. -/
namespace GS
open PySem PySem.Spec PyProof.Rows L2
/-- is this one of the keys -/
def inK (ks : List Key) (c : Key) : Bool := ks.any fun y => decide (y = c)
theorem inK_of {ks : List Key} {c : Key} (h : c ∈ ks) : inK ks c = true := List.any_eq_true.mpr ⟨c, h, decide_eq_true rfl⟩
theorem inK_no {ks : List Key} {c : Key} (h : c ∉ ks) : inK ks c = false := by
  cases e : inK ks c with
  | false => rfl
  | true =>
    obtain ⟨y, hy, ey⟩ := List.any_eq_true.mp e
    exact (h (of_decide_eq_true ey ▸ hy)).elim
theorem mem_next {ks : List Key} {i : Nat} {c : Key} (h : ks[i]? = some c) (j : Key) : (inK (ks.take i) j || decide (j = c)) = inK (ks.take (i + 1)) j := by
  rw [List.take_add_one, h]
  show _ = List.any (ks.take i ++ [c]) _
  rw [List.any_append]
  show _ = (inK (ks.take i) j || (decide (c = j) || false))
  rw [Bool.or_false, decide_eq_decide.mpr (eq_comm (a := j) (b := c))]
theorem new_here {ks : List Key} (nd : ks.Nodup) {i : Nat} {c : Key} (h : ks[i]? = some c) : c ∉ ks.take i := fun hm => by
  obtain ⟨j, hj⟩ := List.mem_iff_getElem?.mp hm
  rw [List.getElem?_take] at hj
  by_cases z : j < i
  · rw [if_pos z] at hj
    obtain ⟨lj, ej⟩ := List.getElem?_eq_some_iff.mp hj
    obtain ⟨li, ei⟩ := List.getElem?_eq_some_iff.mp h
    exact List.pairwise_iff_getElem.mp nd j i lj li z (ej.trans ei.symm)
  · rw [if_neg z] at hj
    cases hj
section
variable {prog : Program} {w : World} {A : Around} {Z : Result → Shared → Prop} {it D : Addr} {fp wr : List Addr} {G : Array GenState → Array GenState → Prop} {n : Nat} {P : Nat → Value → Prop} {St : Nat → Shared → Prop}
/-- the set at D while the keys are walked -/
abbrev Upto (prog : Program) (w : World) (h : Heap) (D : Addr) (ks : List Key) (i : Nat) : Prop := h.SetOf (mixKind prog w) D (inK (ks.take i)) i
theorem upto_keep {h h' : Heap} {ks : List Key} {i : Nat} (u : Upto prog w h D ks i) (k : ∀ o, h.get? D = some o → h'.get? D = some o) : Upto prog w h' D ks i := setOf_at u k
theorem keys_loop (W : WalksS prog w A.in1 it fp wr G n P St) (out : D ∉ fp) (ks : List Key) (ln : ks.length = n) (nd : ks.Nodup) (few : n ≤ 4000) (each : ∀ i v, P i v → ∃ c, ks[i]? = some c ∧ RelV (kV c) v) :
    ∀ (m i : Nat) (s : Shared), i + m = n → St i s → Upto prog w s.heap D ks i → (∀ s', Moved (D :: wr) G s s' → Upto prog w s'.heap D ks n → Z (.ok (.ret .none)) s') →
      codeAny (model prog w) A (.builtin "set.update.loop" ⟨[.ref D, .ref it], []⟩) Z s := by
  have outw : D ∉ wr := fun z => out (W.sub _ z)
  have more : ∀ b ∈ wr, b ∈ D :: wr := fun b z => List.mem_cons_of_mem _ z
  intro m
  induction m with
  | zero =>
    intro i s em st u fin
    have e : i = n := em
    subst e
    refine codeAny_builtin PyProof.Rows.F.entry_set_update_loop ?_
    rw [Around.under_plainId PyProof.Rows.F.plain_set_update_loop _]
    show wpAny _ A.in1 (pyNext (.ref it) >>= _) _ _ s
    refine wpAny_bind (W.done s _ _ st fun s' mv => ?_)
    show wpAny _ A.in1 (ret Value.none) _ _ s'
    exact wpAny_pure (fin s' (mv.mono more) (upto_keep u fun o e => mv.heap D o outw e))
  | succ m ih =>
    intro i s em st u fin
    have lt : i < n := by omega
    refine codeAny_builtin PyProof.Rows.F.entry_set_update_loop ?_
    rw [Around.under_plainId PyProof.Rows.F.plain_set_update_loop _]
    show wpAny _ A.in1 (pyNext (.ref it) >>= _) _ _ s
    refine wpAny_bind (W.item i s _ _ lt st fun v s' pv st' mv => ?_)
    obtain ⟨c, hc, rc⟩ := each i v pv
    have u' : Upto prog w s'.heap D ks i := upto_keep u fun o e => mv.heap D o outw e
    show wpAny _ A.in1 (holding [v] (setAdd D v) >>= _) _ _ s'
    refine wpAny_bind (wpAny_holding ?_)
    unfold setAdd
    refine wpAny_holding ?_
    refine wpAny_bind ((mixKind prog w).pyHash (k := c) (kV_is rc) ?_)
    refine wpAny_setAddHashed_of (knd := mixKind prog w) (s := { s' with toks := s'.toks + 1 }) (kV_is rc) (key_scan rc) u' (by unfold scanBound; omega) fun h' sb u2 => ?_
    have u3 : Upto prog w h' D ks (i + 1) := by
      have e1 : (fun j => inK (ks.take i) j || decide (j = c)) = inK (ks.take (i + 1)) := funext (mem_next hc)
      rw [e1, inK_no (new_here nd hc)] at u2
      exact u2
    refine wpAny_pure ⟨plainId_quiet PyProof.Rows.F.plain_set_update_loop _, ih (i + 1) _ (by omega) (W.frame _ s' _ _ st' (Nat.le_succ _) fun b hb o e => ?_) u3 fun s2 mv2 u4 => ?_⟩
    · exact (sb.2 b fun z => out (z ▸ hb)).trans e
    · refine fin s2 (Moved.trans W.gtrans ((mv.mono more).then_heap (Nat.le_succ _) fun b o hb e => ?_) mv2) u4
      exact (sb.2 b fun z => hb (by rw [z]; exact List.mem_cons_self)).trans e
end
section
variable {prog : Program} {w : World} {A : Around} {E : Value → Shared → Prop} {s : Shared}
theorem set_of_list {l : Addr} {items : Array Value} {ks : List Key} {Q : Value → Shared → Prop} (calm : A.handled = none) (hl : s.heap.IsList l items) (r : Vals (ks.map kV) items.toList) (nd : ks.Nodup) (few : ks.length ≤ 4000)
    (go : ∀ (h' : Heap) (tk : Nat), h'.SetOf (mixKind prog w) s.heap.objs.size (inK ks) ks.length → (∀ b o, b < s.heap.objs.size → s.heap.get? b = some o → h'.get? b = some o) → Q (.ref s.heap.objs.size) { s with heap := h', toks := tk }) :
    wpAny (model prog w) A (call (.type "set") [.ref l]) Q E s := by
  have size : ks.length = items.size := by
    have := r.length
    rw [List.length_map] at this
    rw [this, Array.length_toList]
  obtain ⟨f1, f2, f3⟩ := PySem.F.called_set.mro
  have f4 := PySem.F.called_set.made
  have f5 := PySem.F.called_set.sub
  refine wpAny_call (codeAny_of_tree ?_)
  show wpAny _ _ (callAny (.type "set") _) _ _ _
  refine wpAny_pure ⟨Code.quiet_builtin _ (by decide +kernel), codeAny_builtin PySem.F.entry_type_call ?_⟩
  rw [Around.under_plain (weight_type_call_type "set" [.ref l] []) rfl]
  have f6 := PySem.F.called_set.notType
  have f7 := PySem.F.called_set.canCreate
  have f8 := PySem.F.typeCall_set_1 (.ref l)
  repeat (any_goals (first | assumption | wp_step))
  refine codeAny_mono (code_set_new_1 (.ref l) (E := E) (Q₁ := fun x s1 => ∃ fl : Bool, x = .ref s.heap.objs.size ∧ s1 = { s with heap := s.heap.push { cls := .type "set", dict := none, data := .set #[] 0 (.fresh 0 0 fl) } }) fun fl => ⟨fl, rfl, rfl⟩) fun rs s1 z => ?_
  rcases rs with e | (x | _ | _ | _) <;> first | exact z | exact z.elim | skip
  obtain ⟨fl, rfl, rfl⟩ := z
  have eS : (s.heap.push { cls := .type "set", dict := none, data := .set #[] 0 (.fresh 0 0 fl) }).get? s.heap.objs.size = some { cls := .type "set", dict := none, data := .set #[] 0 (.fresh 0 0 fl) } := Heap.get?_push_size _ rfl
  have tS : Shared.TypeIs { s with heap := s.heap.push { cls := .type "set", dict := none, data := .set #[] 0 (.fresh 0 0 fl) } } (.ref s.heap.objs.size) "set" := ⟨_, eS, rfl⟩
  have g1 := PySem.F.called_set.init.lookup
  have g2 := PySem.F.called_set.init.bind (.ref s.heap.objs.size)
  repeat (any_goals (first | assumption | wp_step))
  refine codeAny_mono (codeAny_call_builtin (R := wants (fun v s2 => v = .none ∧ ∃ h' tk, s2 = { s with heap := h', toks := tk } ∧ h'.SetOf (mixKind prog w) s.heap.objs.size (inK ks) ks.length ∧
      (∀ b o, b < s.heap.objs.size → s.heap.get? b = some o → h'.get? b = some o)) E) PySem.F.called_set.init.plain PySem.F.entry_set_init (check_set_init_1 tS ?_)) fun r2 s2 z => ?_
  · obtain ⟨ol, hol, hcl, nl, hdl⟩ := hl
    obtain ⟨c0, d0, dt0, sl0⟩ := ol
    simp only at hcl hdl
    subst hcl
    subst hdl
    have hol2 : (s.heap.push { cls := .type "set", dict := none, data := .set #[] 0 (.fresh 0 0 fl) }).get? l = some { cls := .type "list", dict := d0, data := .seq items nl, slots := sl0 } := Heap.get?_push_of_some _ hol
    have n1 := PySem.F.sub_list_set
    have n2 := PySem.F.sub_list_frozenset
    have n3 : (Value.type "list" == Value.type "dict") = false := by decide
    have old : (s.heap.push { cls := .type "set", dict := none, data := .set #[] 0 (.fresh 0 0 fl) }).IsList l items := ⟨_, hol2, rfl, nl, rfl⟩
    unfold Builtin.«set.__init__» noKeywords Builtin.Frozenset.updateFrom
    generalize hPI : pyIter = PI
    wp_walk
    subst hPI
    refine wpAny_pyIter_list old ?_
    refine wpAny_bind (wpAny_runValue ?_)
    have below : l < s.heap.objs.size := Heap.lt_size hol
    have calm3 : A.in1.in1.in1.handled = none := by simp [calm]
    have apart : l ≠ (s.heap.push { cls := .type "set", dict := none, data := .set #[] 0 (.fresh 0 0 fl) }).objs.size := by
      rw [Heap.size_push]
      exact Nat.ne_of_lt (Nat.lt_succ_of_lt below)
    have out : s.heap.objs.size ∉ [(s.heap.push { cls := .type "set", dict := none, data := .set #[] 0 (.fresh 0 0 fl) }).objs.size, l] := by
      rw [Heap.size_push]
      simp only [List.mem_cons, List.mem_singleton, List.not_mem_nil, or_false, not_or]
      exact ⟨Nat.ne_of_lt (Nat.lt_succ_self _), Nat.ne_of_gt below⟩
    refine keys_loop ((Walks.list calm3 _ l apart items).toS) out ks size nd (by rw [← size]; exact few) (fun i v hv => ?_) items.size 0 _ (Nat.zero_add _) ⟨⟨_, Heap.get?_push_size _ rfl, rfl, rfl⟩, ?old⟩ ?first ?last
    · rw [← Array.getElem?_toList] at hv
      obtain ⟨li, ei⟩ := List.getElem?_eq_some_iff.mp hv
      have lk : i < ks.length := by
        rw [Array.length_toList] at li
        omega
      obtain ⟨u, hu, ru⟩ := r.get (i := i) (x := kV ks[i]) (by rw [List.getElem?_map, List.getElem?_eq_getElem lk]; rfl)
      rw [hu] at hv
      cases hv
      exact ⟨_, List.getElem?_eq_getElem lk, ru⟩
    case old => exact old.push _
    case first =>
      have at0 : ((s.heap.push { cls := .type "set", dict := none, data := .set #[] 0 (.fresh 0 0 fl) }).push { cls := .type "list_iterator", data := .fields #[.ref l, .int 0 0] }).get? s.heap.objs.size = some { cls := .type "set", dict := none, data := .set #[] 0 (.fresh 0 0 fl) } := Heap.get?_push_of_some _ eS
      exact (show Heap.SetOf (mixKind prog w) _ s.heap.objs.size (fun _ => false) 0 from ⟨_, #[], 0, _, at0, ⟨rfl, rfl, rfl⟩, rfl, (fun e he => by simp at he), (fun k => by simp), (by decide), (by rfl), rfl⟩)
    case last =>
      intro s' mv u
      obtain ⟨h', g', d', tk', os'⟩ := s'
      have eg : g' = s.gens := mv.gens
      have ed : d' = s.drawn := mv.drawn
      have eo : os' = s.os := mv.os
      subst eg
      subst ed
      subst eo
      rw [← size] at u
      have u2 : h'.SetOf (mixKind prog w) s.heap.objs.size (inK (ks.take ks.length)) ks.length := u
      rw [List.take_length] at u2
      show wpAny _ _ _ _ _ _
      refine wpAny_pure ?_
      show wpAny _ _ (ret Value.none) _ _ _
      refine wpAny_pure ⟨rfl, h', tk', rfl, u2, fun b o hb e => ?_⟩
      refine mv.heap b o ?_ (Heap.get?_push_of_some _ (Heap.get?_push_of_some _ e))
      rw [Heap.size_push]
      simp only [List.mem_cons, List.mem_singleton, List.not_mem_nil, or_false, not_or]
      exact ⟨Nat.ne_of_lt hb, Nat.ne_of_lt (Nat.lt_succ_of_lt hb)⟩
  · rcases r2 with e | (x | _ | _ | _) <;> first | exact z | exact z.elim | skip
    obtain ⟨rfl, h', tk, rfl, hS, hk⟩ := z
    repeat (any_goals (first | assumption | wp_step))
    exact go _ _ hS hk
end
section
variable {prog : Program} {w : World} {A : Around} {E : Value → Shared → Prop} {s : Shared}
theorem set_of_tuple {l : Addr} {items : Array Value} {ks : List Key} {Q : Value → Shared → Prop} (calm : A.handled = none) (hl : s.heap.IsTuple l items) (r : Vals (ks.map kV) items.toList) (nd : ks.Nodup) (few : ks.length ≤ 4000)
    (go : ∀ (h' : Heap) (tk : Nat), h'.SetOf (mixKind prog w) s.heap.objs.size (inK ks) ks.length → (∀ b o, b < s.heap.objs.size → s.heap.get? b = some o → h'.get? b = some o) → Q (.ref s.heap.objs.size) { s with heap := h', toks := tk }) :
    wpAny (model prog w) A (call (.type "set") [.ref l]) Q E s := by
  have size : ks.length = items.size := by
    have := r.length
    rw [List.length_map] at this
    rw [this, Array.length_toList]
  obtain ⟨f1, f2, f3⟩ := PySem.F.called_set.mro
  have f4 := PySem.F.called_set.made
  have f5 := PySem.F.called_set.sub
  refine wpAny_call (codeAny_of_tree ?_)
  show wpAny _ _ (callAny (.type "set") _) _ _ _
  refine wpAny_pure ⟨Code.quiet_builtin _ (by decide +kernel), codeAny_builtin PySem.F.entry_type_call ?_⟩
  rw [Around.under_plain (weight_type_call_type "set" [.ref l] []) rfl]
  have f6 := PySem.F.called_set.notType
  have f7 := PySem.F.called_set.canCreate
  have f8 := PySem.F.typeCall_set_1 (.ref l)
  repeat (any_goals (first | assumption | wp_step))
  refine codeAny_mono (code_set_new_1 (.ref l) (E := E) (Q₁ := fun x s1 => ∃ fl : Bool, x = .ref s.heap.objs.size ∧ s1 = { s with heap := s.heap.push { cls := .type "set", dict := none, data := .set #[] 0 (.fresh 0 0 fl) } }) fun fl => ⟨fl, rfl, rfl⟩) fun rs s1 z => ?_
  rcases rs with e | (x | _ | _ | _) <;> first | exact z | exact z.elim | skip
  obtain ⟨fl, rfl, rfl⟩ := z
  have eS : (s.heap.push { cls := .type "set", dict := none, data := .set #[] 0 (.fresh 0 0 fl) }).get? s.heap.objs.size = some { cls := .type "set", dict := none, data := .set #[] 0 (.fresh 0 0 fl) } := Heap.get?_push_size _ rfl
  have tS : Shared.TypeIs { s with heap := s.heap.push { cls := .type "set", dict := none, data := .set #[] 0 (.fresh 0 0 fl) } } (.ref s.heap.objs.size) "set" := ⟨_, eS, rfl⟩
  have g1 := PySem.F.called_set.init.lookup
  have g2 := PySem.F.called_set.init.bind (.ref s.heap.objs.size)
  repeat (any_goals (first | assumption | wp_step))
  refine codeAny_mono (codeAny_call_builtin (R := wants (fun v s2 => v = .none ∧ ∃ h' tk, s2 = { s with heap := h', toks := tk } ∧ h'.SetOf (mixKind prog w) s.heap.objs.size (inK ks) ks.length ∧
      (∀ b o, b < s.heap.objs.size → s.heap.get? b = some o → h'.get? b = some o)) E) PySem.F.called_set.init.plain PySem.F.entry_set_init (check_set_init_1 tS ?_)) fun r2 s2 z => ?_
  · obtain ⟨ol, hol, hcl, nl, hdl⟩ := hl
    obtain ⟨c0, d0, dt0, sl0⟩ := ol
    simp only at hcl hdl
    subst hcl
    subst hdl
    have hol2 : (s.heap.push { cls := .type "set", dict := none, data := .set #[] 0 (.fresh 0 0 fl) }).get? l = some { cls := .type "tuple", dict := d0, data := .seq items nl, slots := sl0 } := Heap.get?_push_of_some _ hol
    have n1 := PySem.F.sub_tuple_set
    have n2 := PySem.F.sub_tuple_frozenset
    have n3 : (Value.type "tuple" == Value.type "dict") = false := by decide
    have old : (s.heap.push { cls := .type "set", dict := none, data := .set #[] 0 (.fresh 0 0 fl) }).IsTuple l items := ⟨_, hol2, rfl, nl, rfl⟩
    unfold Builtin.«set.__init__» noKeywords Builtin.Frozenset.updateFrom
    generalize hPI : pyIter = PI
    wp_walk
    subst hPI
    refine wpAny_pyIter_tuple old ?_
    refine wpAny_bind (wpAny_runValue ?_)
    have below : l < s.heap.objs.size := Heap.lt_size hol
    have calm3 : A.in1.in1.in1.handled = none := by simp [calm]
    have apart : l ≠ (s.heap.push { cls := .type "set", dict := none, data := .set #[] 0 (.fresh 0 0 fl) }).objs.size := by
      rw [Heap.size_push]
      exact Nat.ne_of_lt (Nat.lt_succ_of_lt below)
    have out : s.heap.objs.size ∉ [(s.heap.push { cls := .type "set", dict := none, data := .set #[] 0 (.fresh 0 0 fl) }).objs.size, l] := by
      rw [Heap.size_push]
      simp only [List.mem_cons, List.mem_singleton, List.not_mem_nil, or_false, not_or]
      exact ⟨Nat.ne_of_lt (Nat.lt_succ_self _), Nat.ne_of_gt below⟩
    refine keys_loop ((Walks.tuple calm3 _ l apart items).toS) out ks size nd (by rw [← size]; exact few) (fun i v hv => ?_) items.size 0 _ (Nat.zero_add _) ⟨⟨_, Heap.get?_push_size _ rfl, rfl, rfl⟩, ?old⟩ ?first ?last
    · rw [← Array.getElem?_toList] at hv
      obtain ⟨li, ei⟩ := List.getElem?_eq_some_iff.mp hv
      have lk : i < ks.length := by
        rw [Array.length_toList] at li
        omega
      obtain ⟨u, hu, ru⟩ := r.get (i := i) (x := kV ks[i]) (by rw [List.getElem?_map, List.getElem?_eq_getElem lk]; rfl)
      rw [hu] at hv
      cases hv
      exact ⟨_, List.getElem?_eq_getElem lk, ru⟩
    case old => exact old.push _
    case first =>
      have at0 : ((s.heap.push { cls := .type "set", dict := none, data := .set #[] 0 (.fresh 0 0 fl) }).push { cls := .type "tuple_iterator", data := .fields #[.ref l, .int 0 0] }).get? s.heap.objs.size = some { cls := .type "set", dict := none, data := .set #[] 0 (.fresh 0 0 fl) } := Heap.get?_push_of_some _ eS
      exact (show Heap.SetOf (mixKind prog w) _ s.heap.objs.size (fun _ => false) 0 from ⟨_, #[], 0, _, at0, ⟨rfl, rfl, rfl⟩, rfl, (fun e he => by simp at he), (fun k => by simp), (by decide), (by rfl), rfl⟩)
    case last =>
      intro s' mv u
      obtain ⟨h', g', d', tk', os'⟩ := s'
      have eg : g' = s.gens := mv.gens
      have ed : d' = s.drawn := mv.drawn
      have eo : os' = s.os := mv.os
      subst eg
      subst ed
      subst eo
      rw [← size] at u
      have u2 : h'.SetOf (mixKind prog w) s.heap.objs.size (inK (ks.take ks.length)) ks.length := u
      rw [List.take_length] at u2
      show wpAny _ _ _ _ _ _
      refine wpAny_pure ?_
      show wpAny _ _ (ret Value.none) _ _ _
      refine wpAny_pure ⟨rfl, h', tk', rfl, u2, fun b o hb e => ?_⟩
      refine mv.heap b o ?_ (Heap.get?_push_of_some _ (Heap.get?_push_of_some _ e))
      rw [Heap.size_push]
      simp only [List.mem_cons, List.mem_singleton, List.not_mem_nil, or_false, not_or]
      exact ⟨Nat.ne_of_lt hb, Nat.ne_of_lt (Nat.lt_succ_of_lt hb)⟩
  · rcases r2 with e | (x | _ | _ | _) <;> first | exact z | exact z.elim | skip
    obtain ⟨rfl, h', tk, rfl, hS, hk⟩ := z
    repeat (any_goals (first | assumption | wp_step))
    exact go _ _ hS hk
end
/-! ### the rules -/
section
variable {X : Cx}
/-- set(xs), xs a list or a tuple of different keys -/
def rSetKs (K : PySem.W.Frag) (P : Program) (w : World) : List V → Hp → VK → Prop := fun xs H Q => ∃ (l : Addr) (ks : List Key), xs = [.ref l] ∧ (SqL K H l (ks.map kV) ∨ SqT K H l (ks.map kV)) ∧ ks.Nodup ∧ ks.length ≤ 4000 ∧
  ∀ p, H p = none → Q (.ref p) (upd H p (SetK P w p (inK ks) ks.length))
theorem cr_setKs (calm : X.calm = true) : CallR X (.type "set") (rSetKs X.K X.prog X.w) := by
  intro pins s σ H xs us Q I r h
  obtain ⟨l, ks, rfl, hq, nd, few, q⟩ := h
  obtain ⟨u, rfl, ru⟩ := vals1 r
  cases (show u = Value.ref l from ru)
  have fin : ∀ (h' : Heap) (tk : Nat), h'.SetOf (mixKind X.prog X.w) s.heap.objs.size (inK ks) ks.length → (∀ b o, b < s.heap.objs.size → s.heap.get? b = some o → h'.get? b = some o) → EP X pins σ Q (.ref s.heap.objs.size) { s with heap := h', toks := tk } := fun h' tk hS k =>
    ⟨.ref _, upd H s.heap.objs.size (SetK X.prog X.w s.heap.objs.size (inK ks) ks.length), I.laid (t' := tk) (fun b o e => k b o (Heap.lt_size e) e) (Nat.le_refl _) (setK_new hS), rfl, q _ (I.hok.fresh (Nat.le_refl _))⟩
  rcases hq with hq | hq
  · obtain ⟨its, rv, p, _⟩ := I.list hq
    exact set_of_list (I.ok.hd calm) p.isList (by simpa using rv) nd few fin
  · obtain ⟨its, rv, p, _⟩ := I.tuple hq
    exact set_of_tuple (I.ok.hd calm) p (by simpa using rv) nd few fin
/-- len of a set of keys -/
def rLenK (P : Program) (w : World) : List V → Hp → VK → Prop := fun xs H Q => ∃ (a : Addr) (S : Key → Bool) (n : Nat), xs = [.ref a] ∧ H a = some (SetK P w a S n) ∧ n ≤ 4000 ∧ Q (.int (n : Nat)) H
theorem cr_lenKs : CallR X (.builtin "len") (rLenK X.prog X.w) := by
  intro pins s σ H xs us Q I r h
  obtain ⟨a, S, n, rfl, ha, few, q⟩ := h
  obtain ⟨u, rfl, ru⟩ := vals1 r
  cases (show u = Value.ref a from ru)
  obtain ⟨o, es, ep, t, ho, hex, hd, _, _, _, hf, hn⟩ := setK_get I ha
  exact call_len_set ho hex hd hf (by rw [hn]; omega) ⟨.int n, H, I.tok _, ⟨_, by rw [hn]⟩, q⟩
end
end GS

set_option Elab.async false
set_option linter.all false
set_option maxRecDepth 100000
set_option maxHeartbeats 4000000
/-! SS1 (of no law): sets of texts out of a list that may repeat them: set(xs), sorted of the set; min of a list of texts. -/
namespace SsT
open PySem PySem.Spec PyProof.Rows L2
def txt (e : Int × Value) : Str := match e.2 with
  | .str k _ => k
  | _ => ⟨#[]⟩
abbrev IsTx (w : World) (e : Int × Value) : Prop := ∃ k t, e.2 = Value.str k t ∧ e.1 = hashStr w k
/-- the texts of T, all different, stand at a -/
def StS (w : World) (h : Heap) (a : Addr) (T : List Str) : Prop :=
  ∃ o es ep tb, h.get? a = some o ∧ o.ExactSet ∧ o.data = .set es ep tb ∧ (∀ e ∈ es.toList, IsTx w e) ∧ (es.toList.map txt).Perm T ∧ T.Nodup ∧ T.length < scanBound ∧ tb.fits es.size = true ∧ Ris tb.place.toList ∧ (w.params.followText "set-order" = true ∨ tb.led = true)
section
variable {P : Program} {w : World} {A : Around} {E : Value → Shared → Prop} {s : Shared} {a : Addr} {T : List Str}
theorem is_tx (k : Str) (u : Tok) : (strKind P w).is k (.str k u) = true := by
  show Value.isStrOf k (.str k u) = true
  simp [Value.isStrOf]
theorem StS.at {h h' : Heap} (R : StS w h a T) (k : ∀ o, h.get? a = some o → h'.get? a = some o) : StS w h' a T := by
  obtain ⟨o, es, ep, tb, ho, r⟩ := R
  exact ⟨o, es, ep, tb, k o ho, r⟩
theorem perm_size {es : Array (Int × Value)} {T : List Str} (p : (es.toList.map txt).Perm T) : es.size = T.length := by
  rw [← p.length_eq, List.length_map, Array.length_toList]
theorem tx_elems {l : List (Int × Value)} (g : ∀ e ∈ l, IsTx w e) : ElemsOf (strKind P w) l := fun e he => by
  obtain ⟨k, t, h1, h2⟩ := g e he
  refine ⟨⟨k, ?_, h2⟩, ?_⟩ <;> rw [h1]
  · exact is_tx k t
  · rfl
theorem tx_is {e : Int × Value} (g : IsTx w e) (k : Str) : (strKind P w).is k e.2 = true ↔ txt e = k := by
  obtain ⟨k0, t, h1, _⟩ := g
  unfold txt
  rw [h1]
  refine ⟨fun z => (strKind P w).inj _ _ _ (is_tx k0 t) z, fun z => ?_⟩
  dsimp only at z
  subst z
  exact is_tx k0 t
/-- stored anew, the table perhaps laid wider -/
theorem sts_tail {g : Bool → Sem Unit} (hg : ∀ (b : Bool) (s₁ : Shared) (Q' : Unit → Shared → Prop), Q' () s₁ → wpAny (model P w) A (g b) Q' E s₁)
    {o : Obj} {es : Array (Int × Value)} {ep : Nat} {tb : SetTable} (ho : s.heap.get? a = some o) (hex : o.ExactSet) (hd : o.data = .set es ep tb)
    {fs : Array (Int × Value)} {tc : SetTable} (g1 : ∀ e ∈ fs.toList, IsTx w e) (p1 : (fs.toList.map txt).Perm T) (nd : T.Nodup) (hb : T.length < scanBound) (hf : tc.fits fs.size = true) (hr : Ris tc.place.toList)
    (hl : w.params.followText "set-order" = true ∨ tc.led = true) {wasDummy : Bool} {R : Option Bool → Shared → Prop}
    (hR : ∀ h', Heap.SameBut a s.heap h' → StS w h' a T → R (some true) { s with heap := h' }) :
    wpAny (model P w) A (do
        storeSet a fs tc
        if (!wasDummy && tc.tooFull) = true then do
            g (relayAll tc fs (SetTable.grown fs.size)).2.2
            storeSet a (relayAll tc fs (SetTable.grown fs.size)).1 (relayAll tc fs (SetTable.grown fs.size)).2.1
            pure (some true)
          else pure (some true)) R E s := by
  have few : fs.size < scanBound := by rw [perm_size p1]; exact hb
  have sb := Heap.SameBut.update s.heap a (Obj.putSet fs tc)
  have there := store_at (es' := fs) (t' := tc) ho hd
  refine wpAny_bind (wpAny_storeSet_of ho hd ?_ (fits_of_scanBound few))
  split
  · have q1 := relayAll_perm tc fs (SetTable.grown fs.size)
    have q2 := relayAll_fits tc fs (SetTable.grown fs.size)
    have q3 := relayAll_ris tc fs (SetTable.grown fs.size)
    have q4 := relayAll_led tc fs (SetTable.grown fs.size)
    generalize relayAll tc fs (SetTable.grown fs.size) = Z at q1 q2 q3 q4 ⊢
    obtain ⟨gs, td, gave⟩ := Z
    dsimp only at q1 q2 q3 q4 ⊢
    have p2 : (gs.toList.map txt).Perm T := (q1.map txt).trans p1
    have few2 : gs.size < scanBound := by rw [perm_size p2]; exact hb
    refine wpAny_bind (hg _ _ _ (wpAny_bind (wpAny_storeSet_of there rfl (wpAny_pure (hR _ (sb.trans (Heap.SameBut.update _ a _)) ?_)) (fits_of_scanBound few2))))
    exact ⟨_, gs, _, td, store_at (es' := gs) (t' := td) there rfl, hex, rfl, fun e he => g1 e (q1.mem_iff.mp he), p2, nd, hb, q2, q3, hl.imp id fun z => by rw [q4]; exact z⟩
  · exact wpAny_pure (hR _ sb ⟨_, fs, _, tc, there, hex, rfl, g1, p1, nd, hb, hf, hr, hl⟩)
/-- with one text more -/
def withT (T : List Str) (k : Str) : List Str := if k ∈ T then T else k :: T
theorem sts_add {k : Str} {t : Tok} {Q : Bool → Shared → Prop} (R : StS w s.heap a T) (room : T.length + 1 < scanBound)
    (hQ : ∀ (b : Bool) h', Heap.SameBut a s.heap h' → StS w h' a (withT T k) → Q b { s with heap := h' }) :
    wpAny (model P w) A (setAddHashed a (.str k t) (hashStr w k)) Q E s := by
  obtain ⟨o, es, ep, tb, ho, hex, hd, g, p, nd, hb, hf, hr, hl⟩ := R
  have few : es.size < scanBound := by rw [perm_size p]; exact hb
  have hkey : (strKind P w).is k (.str k t) = true := is_tx k t
  have hsc : (Value.str k t).scannable = true := rfl
  have hel : ElemsOf (strKind P w) es.toList := tx_elems g
  unfold setAddHashed setAddHashedIn
  refine wpAny_holding (wpAny_bind (wpAny_setState_of ho hd hf ?_))
  dsimp only
  rw [byScan_of hsc few hel]
  simp only [↓reduceIte]
  unfold setAddByScan
  refine wpAny_bind (wpAny_bind (wpAny_rule (wpAny_bind (wpAny_setScan_of hkey ho hd hf hel ?_))))
  cases hfi : List.findIdx? (fun e => (strKind P w).is k e.2) es.toList with
  | some j =>
    dsimp only
    obtain ⟨hj, pj, _⟩ := List.findIdx?_eq_some_iff_getElem.mp hfi
    have hin : k ∈ T := p.mem_iff.mp (List.mem_map.mpr ⟨es.toList[j], List.getElem_mem hj, (tx_is (P := P) (g _ (List.getElem_mem hj)) k).1 pj⟩)
    refine wpAny_pure (wpAny_pure (hQ _ s.heap (Heap.SameBut.refl a s.heap) ?_))
    unfold withT
    rw [if_pos hin]
    exact ⟨o, es, ep, tb, ho, hex, hd, g, p, nd, hb, hf, hr, hl⟩
  | none =>
    dsimp only
    have hnot : k ∉ T := fun z => by
      obtain ⟨e, he, q⟩ := List.mem_map.mp (p.mem_iff.mpr z)
      have c := List.findIdx?_eq_none_iff.mp hfi e he
      rw [(tx_is (P := P) (g e he) k).2 q] at c
      cases c
    have ew : withT T k = k :: T := if_neg hnot
    have nd2 : (k :: T).Nodup := List.nodup_cons.mpr ⟨hnot, nd⟩
    have hgw : ∀ (b : Bool) {s₁ : Shared} {Q' : Unit → Shared → Prop}, Q' () s₁ → wpAny (model P w) A (match b with | true => rule "set.scan.the-table-gave-way" | false => pure ()) Q' E s₁ :=
      fun b s₁ Q' q => by cases b <;> first | exact wpAny_pure q | exact wpAny_rule q
    have q1 := layNew_perm tb es (hashStr w k) (.str k t)
    have q2 := layNew_fits tb es (hashStr w k) (.str k t)
    have q3 := layNew_ris tb es (hashStr w k) (.str k t) hr
    have q4 := layNew_led tb es (hashStr w k) (.str k t)
    generalize layNew tb es (hashStr w k) (.str k t) = Z at q1 q2 q3 q4 ⊢
    obtain ⟨fs, tc, wasDummy, gave⟩ := Z
    dsimp only at q1 q2 q3 q4 ⊢
    rw [Array.toList_push] at q1
    have pc : fs.toList.Perm ((hashStr w k, Value.str k t) :: es.toList) := q1.trans (List.perm_append_singleton _ _)
    have p1 : (fs.toList.map txt).Perm (k :: T) := (pc.map txt).trans (List.Perm.cons k p)
    have g1 : ∀ e ∈ fs.toList, IsTx w e := fun e he => by
      rcases List.mem_cons.mp (pc.mem_iff.mp he) with z | z
      · rw [z]; exact ⟨k, t, rfl, rfl⟩
      · exact g e z
    have hled : w.params.followText "set-order" = true ∨ tc.led = true := hl.imp id fun z => by rw [q4]; exact z
    have fin : ∀ h', Heap.SameBut a s.heap h' → StS w h' a (k :: T) → Q true { s with heap := h' } := fun h' sb r => hQ true h' sb (by rw [ew]; exact r)
    refine wpAny_bind (hgw _ ?_)
    split
    · refine wpAny_bind ?_
      rw [hashByValue_scannable 8 hsc]
      refine wpAny_pure ?_
      refine sts_tail ?_ ho hex hd g1 p1 nd2 room ?_ ?_ ?_ ?_
      · intro b s₁ Q' q; cases b <;> first | exact wpAny_pure q | exact wpAny_rule q
      · first | (split <;> first | exact q2 | exact SetTable.fits_plain_off q2) | exact q2
      · first | (split <;> exact q3) | exact q3
      · first | (split <;> exact hled) | exact hled
      · intro h' sb r; dsimp only; exact wpAny_pure (fin h' sb r)
    · refine wpAny_bind (wpAny_pure ?_)
      simp only [↓reduceIte]
      refine sts_tail ?_ ho hex hd g1 p1 nd2 room q2 q3 hled ?_
      · intro b s₁ Q' q; cases b <;> first | exact wpAny_pure q | exact wpAny_rule q
      · intro h' sb r; dsimp only; exact wpAny_pure (fin h' sb r)
end
/-- the different ones of these texts -/
def difs (xs : List Str) : List Str := xs.foldl withT []
theorem withT_mem {T : List Str} {k j : Str} : j ∈ withT T k ↔ j ∈ T ∨ j = k := by
  unfold withT
  split
  · rename_i h
    exact ⟨.inl, fun z => z.elim id fun e => e ▸ h⟩
  · rw [List.mem_cons]
    exact Or.comm
theorem withT_nd {T : List Str} {k : Str} (h : T.Nodup) : (withT T k).Nodup := by
  unfold withT
  split
  · exact h
  · rename_i z
    exact List.nodup_cons.mpr ⟨z, h⟩
theorem withT_len (T : List Str) (k : Str) : (withT T k).length ≤ T.length + 1 := by
  unfold withT
  split
  · omega
  · exact Nat.le_refl _
theorem difs_mem {xs : List Str} {j : Str} : j ∈ difs xs ↔ j ∈ xs := by
  have : ∀ (xs T : List Str), j ∈ xs.foldl withT T ↔ j ∈ T ∨ j ∈ xs := fun xs => by
    induction xs with
    | nil => intro T; simp
    | cons x xs ih =>
      intro T
      rw [List.foldl_cons, ih, withT_mem, List.mem_cons]
      exact or_assoc
  rw [show difs xs = xs.foldl withT [] from rfl, this]
  simp
theorem difs_nd (xs : List Str) : (difs xs).Nodup := by
  have : ∀ (xs T : List Str), T.Nodup → (xs.foldl withT T).Nodup := fun xs => by
    induction xs with
    | nil => exact fun T h => h
    | cons x xs ih => exact fun T h => ih _ (withT_nd h)
  exact this xs [] List.nodup_nil
theorem difs_snoc (xs : List Str) (x : Str) : difs (xs ++ [x]) = withT (difs xs) x := by
  unfold difs
  rw [List.foldl_append]
  rfl
theorem difs_len (xs : List Str) : (difs xs).length ≤ xs.length := by
  have : ∀ (xs T : List Str), (xs.foldl withT T).length ≤ T.length + xs.length := fun xs => by
    induction xs with
    | nil => exact fun T => Nat.le_refl _
    | cons x xs ih =>
      intro T
      have h1 := ih (withT T x)
      have h2 := withT_len T x
      rw [List.foldl_cons, List.length_cons]
      omega
  have h := this xs []
  rw [List.length_nil, Nat.zero_add] at h
  exact h
section
variable {prog : Program} {w : World} {A : Around} {Z : Result → Shared → Prop} {it D : Addr} {fp wr : List Addr} {G : Array GenState → Array GenState → Prop} {n : Nat} {P : Nat → Value → Prop} {St : Nat → Shared → Prop}
theorem texts_loop (W : WalksS prog w A.in1 it fp wr G n P St) (out : D ∉ fp) (ks : List Str) (ln : ks.length = n) (few : n ≤ 4000) (each : ∀ i v, P i v → ∃ c t, ks[i]? = some c ∧ v = .str c t) :
    ∀ (m i : Nat) (s : Shared), i + m = n → St i s → StS w s.heap D (difs (ks.take i)) → (∀ s', Moved (D :: wr) G s s' → StS w s'.heap D (difs ks) → Z (.ok (.ret .none)) s') →
      codeAny (model prog w) A (.builtin "set.update.loop" ⟨[.ref D, .ref it], []⟩) Z s := by
  have outw : D ∉ wr := fun z => out (W.sub _ z)
  have more : ∀ b ∈ wr, b ∈ D :: wr := fun b z => List.mem_cons_of_mem _ z
  intro m
  induction m with
  | zero =>
    intro i s em st u fin
    have e : ks.take i = ks := List.take_of_length_le (by omega)
    rw [e] at u
    refine codeAny_builtin PyProof.Rows.F.entry_set_update_loop ?_
    rw [Around.under_plainId PyProof.Rows.F.plain_set_update_loop _]
    show wpAny _ A.in1 (pyNext (.ref it) >>= _) _ _ s
    have e2 : i = n := em
    subst e2
    refine wpAny_bind (W.done s _ _ st fun s' mv => ?_)
    show wpAny _ A.in1 (ret Value.none) _ _ s'
    exact wpAny_pure (fin s' (mv.mono more) (u.at fun o e => mv.heap D o outw e))
  | succ m ih =>
    intro i s em st u fin
    have lt : i < n := by omega
    refine codeAny_builtin PyProof.Rows.F.entry_set_update_loop ?_
    rw [Around.under_plainId PyProof.Rows.F.plain_set_update_loop _]
    show wpAny _ A.in1 (pyNext (.ref it) >>= _) _ _ s
    refine wpAny_bind (W.item i s _ _ lt st fun v s' pv st' mv => ?_)
    obtain ⟨c, t, hc, rfl⟩ := each i v pv
    have u' : StS w s'.heap D (difs (ks.take i)) := u.at fun o e => mv.heap D o outw e
    show wpAny _ A.in1 (holding [Value.str c t] (setAdd D (.str c t)) >>= _) _ _ s'
    refine wpAny_bind (wpAny_holding ?_)
    unfold setAdd
    refine wpAny_holding ?_
    refine wpAny_bind ((strKind prog w).pyHash (k := c) (is_tx c t) ?_)
    have hl := difs_len (ks.take i)
    rw [List.length_take] at hl
    refine sts_add (s := { s' with toks := s'.toks + 1 }) u' (by unfold scanBound; omega) fun b h' sb u2 => ?_
    have u3 : StS w h' D (difs (ks.take (i + 1))) := by
      rw [List.take_add_one, hc]
      show StS w h' D (difs (ks.take i ++ [c]))
      rw [difs_snoc]
      exact u2
    refine wpAny_pure ⟨plainId_quiet PyProof.Rows.F.plain_set_update_loop _, ih (i + 1) _ (by omega) (W.frame _ s' _ _ st' (Nat.le_succ _) fun b hb o e => ?_) u3 fun s2 mv2 u4 => ?_⟩
    · exact (sb.2 b fun z => out (z ▸ hb)).trans e
    · refine fin s2 (Moved.trans W.gtrans ((mv.mono more).then_heap (Nat.le_succ _) fun b o hb e => ?_) mv2) u4
      exact (sb.2 b fun z => hb (by rw [z]; exact List.mem_cons_self)).trans e
end
section
variable {prog : Program} {w : World} {A : Around} {E : Value → Shared → Prop} {s : Shared}
theorem set_of_texts {l : Addr} {items : Array Value} {ks : List Str} {Q : Value → Shared → Prop} (calm : A.handled = none) (hl : s.heap.IsList l items) (r : Vals (ks.map V.str) items.toList) (few : ks.length ≤ 4000)
    (go : ∀ (h' : Heap) (tk : Nat), StS w h' s.heap.objs.size (difs ks) → (∀ b o, b < s.heap.objs.size → s.heap.get? b = some o → h'.get? b = some o) → Q (.ref s.heap.objs.size) { s with heap := h', toks := tk }) :
    wpAny (model prog w) A (call (.type "set") [.ref l]) Q E s := by
  have size : ks.length = items.size := by
    have := r.length
    rw [List.length_map] at this
    rw [this, Array.length_toList]
  obtain ⟨f1, f2, f3⟩ := PySem.F.called_set.mro
  have f4 := PySem.F.called_set.made
  have f5 := PySem.F.called_set.sub
  refine wpAny_call (codeAny_of_tree ?_)
  show wpAny _ _ (callAny (.type "set") _) _ _ _
  refine wpAny_pure ⟨Code.quiet_builtin _ (by decide +kernel), codeAny_builtin PySem.F.entry_type_call ?_⟩
  rw [Around.under_plain (weight_type_call_type "set" [.ref l] []) rfl]
  have f6 := PySem.F.called_set.notType
  have f7 := PySem.F.called_set.canCreate
  have f8 := PySem.F.typeCall_set_1 (.ref l)
  repeat (any_goals (first | assumption | wp_step))
  refine codeAny_mono (code_set_led1 (.ref l) (E := E) (Q₁ := fun x s1 => x = .ref s.heap.objs.size ∧ s1 = { s with heap := s.heap.push { cls := .type "set", dict := none, data := .set #[] 0 (.fresh 0 0 (!w.params.followText "set-order")) } }) ⟨rfl, rfl⟩) fun rs s1 z => ?_
  rcases rs with e | (x | _ | _ | _) <;> first | exact z | exact z.elim | skip
  obtain ⟨rfl, rfl⟩ := z
  generalize hfl : (!w.params.followText "set-order") = fl
  have eS : (s.heap.push { cls := .type "set", dict := none, data := .set #[] 0 (.fresh 0 0 fl) }).get? s.heap.objs.size = some { cls := .type "set", dict := none, data := .set #[] 0 (.fresh 0 0 fl) } := Heap.get?_push_size _ rfl
  have tS : Shared.TypeIs { s with heap := s.heap.push { cls := .type "set", dict := none, data := .set #[] 0 (.fresh 0 0 fl) } } (.ref s.heap.objs.size) "set" := ⟨_, eS, rfl⟩
  have g1 := PySem.F.called_set.init.lookup
  have g2 := PySem.F.called_set.init.bind (.ref s.heap.objs.size)
  repeat (any_goals (first | assumption | wp_step))
  refine codeAny_mono (codeAny_call_builtin (R := wants (fun v s2 => v = .none ∧ ∃ h' tk, s2 = { s with heap := h', toks := tk } ∧ StS w h' s.heap.objs.size (difs ks) ∧
      (∀ b o, b < s.heap.objs.size → s.heap.get? b = some o → h'.get? b = some o)) E) PySem.F.called_set.init.plain PySem.F.entry_set_init (check_set_init_1 tS ?_)) fun r2 s2 z => ?_
  · obtain ⟨ol, hol, hcl, nl, hdl⟩ := hl
    obtain ⟨c0, d0, dt0, sl0⟩ := ol
    simp only at hcl hdl
    subst hcl
    subst hdl
    have hol2 : (s.heap.push { cls := .type "set", dict := none, data := .set #[] 0 (.fresh 0 0 fl) }).get? l = some { cls := .type "list", dict := d0, data := .seq items nl, slots := sl0 } := Heap.get?_push_of_some _ hol
    have n1 := PySem.F.sub_list_set
    have n2 := PySem.F.sub_list_frozenset
    have n3 : (Value.type "list" == Value.type "dict") = false := by decide
    have old : (s.heap.push { cls := .type "set", dict := none, data := .set #[] 0 (.fresh 0 0 fl) }).IsList l items := ⟨_, hol2, rfl, nl, rfl⟩
    unfold Builtin.«set.__init__» noKeywords Builtin.Frozenset.updateFrom
    generalize hPI : pyIter = PI
    wp_walk
    subst hPI
    refine wpAny_pyIter_list old ?_
    refine wpAny_bind (wpAny_runValue ?_)
    have below : l < s.heap.objs.size := Heap.lt_size hol
    have calm3 : A.in1.in1.in1.handled = none := by simp [calm]
    have apart : l ≠ (s.heap.push { cls := .type "set", dict := none, data := .set #[] 0 (.fresh 0 0 fl) }).objs.size := by
      rw [Heap.size_push]
      exact Nat.ne_of_lt (Nat.lt_succ_of_lt below)
    have out : s.heap.objs.size ∉ [(s.heap.push { cls := .type "set", dict := none, data := .set #[] 0 (.fresh 0 0 fl) }).objs.size, l] := by
      rw [Heap.size_push]
      simp only [List.mem_cons, List.mem_singleton, List.not_mem_nil, or_false, not_or]
      exact ⟨Nat.ne_of_lt (Nat.lt_succ_self _), Nat.ne_of_gt below⟩
    refine texts_loop ((Walks.list calm3 _ l apart items).toS) out ks size (by rw [← size]; exact few) (fun i v hv => ?_) items.size 0 _ (Nat.zero_add _) ⟨⟨_, Heap.get?_push_size _ rfl, rfl, rfl⟩, ?old⟩ ?first ?last
    · rw [← Array.getElem?_toList] at hv
      obtain ⟨li, ei⟩ := List.getElem?_eq_some_iff.mp hv
      have lk : i < ks.length := by
        rw [Array.length_toList] at li
        omega
      obtain ⟨u, hu, t, ru⟩ := r.get (i := i) (x := V.str ks[i]) (by rw [List.getElem?_map, List.getElem?_eq_getElem lk]; rfl)
      rw [hu] at hv
      cases hv
      exact ⟨_, t, List.getElem?_eq_getElem lk, ru⟩
    case old => exact old.push _
    case first =>
      have at0 : ((s.heap.push { cls := .type "set", dict := none, data := .set #[] 0 (.fresh 0 0 fl) }).push { cls := .type "list_iterator", data := .fields #[.ref l, .int 0 0] }).get? s.heap.objs.size = some { cls := .type "set", dict := none, data := .set #[] 0 (.fresh 0 0 fl) } := Heap.get?_push_of_some _ eS
      refine ⟨_, #[], 0, _, at0, ⟨rfl, rfl, rfl⟩, rfl, (fun e he => by simp at he), List.Perm.nil, List.nodup_nil, (by show 0 < scanBound; decide), (by rfl), List.Pairwise.nil, ?_⟩
      show _ ∨ fl = true
      rw [← hfl]
      cases w.params.followText "set-order"
      · exact .inr rfl
      · exact .inl rfl
    case last =>
      intro s' mv u
      obtain ⟨h', g', d', tk', os'⟩ := s'
      have eg : g' = s.gens := mv.gens
      have ed : d' = s.drawn := mv.drawn
      have eo : os' = s.os := mv.os
      subst eg
      subst ed
      subst eo
      show wpAny _ _ _ _ _ _
      refine wpAny_pure ?_
      show wpAny _ _ (ret Value.none) _ _ _
      refine wpAny_pure ⟨rfl, h', tk', rfl, u, fun b o hb e => ?_⟩
      refine mv.heap b o ?_ (Heap.get?_push_of_some _ (Heap.get?_push_of_some _ e))
      rw [Heap.size_push]
      simp only [List.mem_cons, List.mem_singleton, List.not_mem_nil, or_false, not_or]
      exact ⟨Nat.ne_of_lt hb, Nat.ne_of_lt (Nat.lt_succ_of_lt hb)⟩
  · rcases r2 with e | (x | _ | _ | _) <;> first | exact z | exact z.elim | skip
    obtain ⟨rfl, h', tk, rfl, hS, hk⟩ := z
    repeat (any_goals (first | assumption | wp_step))
    exact go _ _ hS hk
/-! ### one sorted list for all orders -/
abbrev leT : Str → Str → Bool := PySem.W.dataLe false PyData.str
theorem leT_eq : leT = fun a b => decide (a.cps.toList ≤ b.cps.toList) := PySem.W.dataLe_str (fun b : Str => b)
theorem leT_total : PySem.W.TotalLe leT := by
  rw [leT_eq]
  refine ⟨fun a b c h1 h2 => ?_, fun a b => ?_⟩
  · exact decide_eq_true (List.le_trans (of_decide_eq_true h1) (of_decide_eq_true h2))
  · rcases List.le_total a.cps.toList b.cps.toList with h | h
    · exact .inl (decide_eq_true h)
    · exact .inr (decide_eq_true h)
theorem leT_anti {a b : Str} (h1 : leT a b = true) (h2 : leT b a = true) : a = b := by
  rw [leT_eq] at h1 h2
  have e := List.le_antisymm (of_decide_eq_true h1) (of_decide_eq_true h2)
  obtain ⟨⟨x⟩⟩ := a
  obtain ⟨⟨y⟩⟩ := b
  have e : x = y := e
  rw [e]
theorem one_sorted : ∀ {l m : List Str}, l.Perm m → l.Pairwise (fun a b => leT a b = true) → m.Pairwise (fun a b => leT a b = true) → l = m
  | [], m, p, _, _ => (List.nil_perm.mp p).symm
  | a :: l, [], p, _, _ => (List.perm_nil.mp p)
  | a :: l, b :: m, p, h1, h2 => by
    have e : a = b := by
      have ha : a ∈ b :: m := p.mem_iff.mp List.mem_cons_self
      have hb : b ∈ a :: l := p.mem_iff.mpr List.mem_cons_self
      rcases List.mem_cons.mp ha with e | ha
      · exact e
      · rcases List.mem_cons.mp hb with e | hb
        · exact e.symm
        · exact leT_anti ((List.pairwise_cons.mp h1).1 b hb) ((List.pairwise_cons.mp h2).1 a ha)
    subst e
    rw [one_sorted (List.Perm.cons_inv p) (List.pairwise_cons.mp h1).2 (List.pairwise_cons.mp h2).2]
/-- these texts sorted -/
def srtT (T : List Str) : List Str := T.mergeSort leT
theorem srtT_perm {T U : List Str} (p : T.Perm U) : srtT T = srtT U :=
  one_sorted ((List.mergeSort_perm _ _).trans (p.trans (List.mergeSort_perm _ _).symm)) (PySem.W.sort_pairwise leT_total T) (PySem.W.sort_pairwise leT_total U)
theorem srtT_mem (T : List Str) : (srtT T).Perm T := List.mergeSort_perm _ _
/-- sorted of such a set -/
theorem sorted_texts {a : Addr} {T : List Str} {Q : Value → Shared → Prop} (R : StS w s.heap a T) (hh : A.handled = none) (hu : A.units + 8 < cLine)
    (hQ : ∀ s' p (out : Array Value) (c : Nat) (ns : List Str), (∀ b o, s.heap.get? b = some o → s'.heap.get? b = some o) → s'.gens = s.gens → s'.os = s.os → s.heap.objs.size ≤ p →
      s'.heap.get? p = some (seqObj "list" out c) → Vals (ns.map V.str) out.toList → ns = srtT T → Q (.ref p) s') :
    wpAny (model prog w) A (call (.builtin "sorted") [.ref a]) Q E s := by
  obtain ⟨o, es, ep, tb, ho, hex, hd, g, p, nd, hb, hf, hr, hl⟩ := R
  have few : es.size < scanBound := by rw [perm_size p]; exact hb
  refine Calls.call_function_entry kind_sorted plain_sorted entry_sorted (args_sorted1 _) ?_
  unfold Builtin.«sorted»
  refine wpAny_bind (m := checkCount "sorted" 1 1 _) (wpAny_pure ?_)
  refine wpAny_bind (collect_set (A := A.in1) hh ⟨o, ho, hex.1, hd⟩ hf few hr hl fun s1 vs k1 hz g1 o1 pm => ?_)
  have hvl : vs.length = T.length := by rw [pm.length_eq, List.length_map, Array.length_toList]; exact perm_size p
  have ht : ∀ v ∈ vs, ∃ k t, v = Value.str k t := fun v hv => by
    obtain ⟨e, he, q⟩ := List.mem_map.mp (pm.mem_iff.mp hv)
    obtain ⟨k, t, h1, _⟩ := g e he
    exact ⟨k, t, by rw [← q]; exact h1⟩
  have hsz : T.length ≤ sizeLine := by
    have : scanBound = 4096 := rfl
    rw [sizeLine_eq]
    omega
  refine wpAny_bind (wpAny_newList ?_ (by rw [hvl]; exact hsz))
  have hoL : (s1.heap.push (seqObj "list" vs.toArray 0)).get? s1.heap.objs.size = some (seqObj "list" vs.toArray 0) := Heap.get?_push_size _ rfl
  let tx : Value → Str := fun v => txt (0, v)
  have ee : PySem.W.EachIs (fun v (b : Str) => ∃ t, v = Value.str b t) vs (vs.map tx) := by
    have : ∀ l : List Value, (∀ v ∈ l, ∃ k t, v = Value.str k t) → PySem.W.EachIs (fun v (b : Str) => ∃ t, v = Value.str b t) l (l.map tx) := fun l => by
      induction l with
      | nil => exact fun _ => .nil
      | cons v l ih =>
        intro h
        obtain ⟨k, t, rfl⟩ := h v List.mem_cons_self
        exact .cons ⟨t, rfl⟩ (ih fun u hu => h u (List.mem_cons_of_mem _ hu))
    exact this vs ht
  have eP : ∀ (l : List Value) (m : List (Int × Value)), l.Perm (m.map (·.2)) → (l.map tx).Perm (m.map txt) := fun l m q => by
    have := q.map tx
    rw [List.map_map] at this
    exact this
  have pT : (vs.map tx).Perm T := (eP vs es.toList pm).trans p
  refine wpAny_bind (wpAny_holding (PySem.W.list_sort_data (enc := PyData.str) hoL ee (ee.mono fun v b ⟨t, q⟩ => ⟨[], by rw [q]; exact .str b t, by simp⟩) (PySem.W.AllAlike.of fun _ _ => rfl) (.inr fun d hd => ?_) (by rw [List.length_map, hvl]; exact hsz) (fun b hb => ?_) fun out hlo eo => ?_))
  · obtain ⟨b, _, rfl⟩ := List.mem_map.mp hd
    exact ⟨(fun z => nomatch z), (fun xs z => nomatch z)⟩
  · show A.in1.units + 1 + 0 < cLine
    have : A.in1.units ≤ A.units + 1 := by
      show A.units + _ ≤ _
      omega
    omega
  · obtain ⟨c, hc⟩ := sortedHeap_at (vs := vs) (out := out.toArray) hoL
    have rv : ∀ {l : List Value} {m : List Str}, PySem.W.EachIs (fun v (b : Str) => ∃ t, v = Value.str b t) l m → Vals (m.map V.str) l := fun h => by
      induction h with
      | nil => exact .nil
      | cons h t ih => exact .cons h ih
    refine wpAny_pure ⟨_, rfl, hQ { s1 with heap := sortedHeap (s1.heap.push (seqObj "list" vs.toArray 0)) s1.heap.objs.size vs out.toArray } s1.heap.objs.size out.toArray c _ (fun b u e => ?_) g1 o1 hz hc (by show Vals (List.map V.str ((vs.map tx).mergeSort (PySem.W.dataLe false PyData.str))) out.toArray.toList; simpa using rv eo) (srtT_perm pT)⟩
    have q := k1 b u e
    have hlt := Heap.lt_size q
    show (sortedHeap (s1.heap.push (seqObj "list" vs.toArray 0)) s1.heap.objs.size vs out.toArray).get? b = some u
    rw [sortedHeap_old (Nat.ne_of_lt hlt) (by rw [Heap.size_push]; exact Nat.lt_succ_of_lt hlt)]
    exact Heap.get?_push_of_some _ q
end
/-- a set of texts -/
def setO (w : World) (a : Addr) (T : List Str) : HO := .ext fun h => StS w h a T
theorem setO_ok {P : Program} {w : World} {H : Hp} {h : Heap} {a : Addr} {T : List Str} (R : StS w h a T) : ObjOk P w H h a (setO w a T) :=
  ⟨R, let ⟨o, _, _, _, ho, _⟩ := R; ⟨o, ho⟩, fun _ _ r k => r.at k⟩
section
variable {X : Cx}
def rSetT (K : PySem.W.Frag) (w : World) : List V → Hp → VK → Prop := fun xs H Q => ∃ (l : Addr) (ks : List Str), xs = [.ref l] ∧ SqL K H l (ks.map V.str) ∧ ks.length ≤ 4000 ∧ ∀ p, H p = none → Q (.ref p) (upd H p (setO w p (difs ks)))
theorem cr_setT (calm : X.calm = true) : CallR X (.type "set") (rSetT X.K X.w) := by
  intro pins s σ H vs us Q I r h
  obtain ⟨l, ks, rfl, hs, few, q⟩ := h
  obtain ⟨its, rv, hl, hz⟩ := I.list hs
  obtain ⟨u, rfl, ru⟩ := r.one
  obtain rfl : u = Value.ref l := ru
  refine set_of_texts (I.ok.hd calm) hl.isList (by simpa using rv) few fun h' tk R k => ⟨.ref s.heap.objs.size, _, I.laid (a := s.heap.objs.size) (o := setO X.w s.heap.objs.size (difs ks)) (t' := tk) (fun b o e => k b o (Heap.lt_size e) e) (Nat.le_refl _) (setO_ok R), rfl, q _ (I.hok.fresh (Nat.le_refl _))⟩
def rSortT (w : World) : List V → Hp → VK → Prop := fun xs H Q => ∃ (a : Addr) (T : List Str), xs = [.ref a] ∧ H a = some (setO w a T) ∧ ∀ p, H p = none → Q (.ref p) (upd H p (.lst ((srtT T).map V.str)))
theorem cr_sortT (calm : X.calm = true) (hu : X.A.units + 8 < cLine) : CallR X (.builtin "sorted") (rSortT X.w) := by
  intro pins s σ H vs us Q I r h
  obtain ⟨a, T, rfl, ha, q⟩ := h
  obtain ⟨u, rfl, ru⟩ := r.one
  obtain rfl : u = Value.ref a := ru
  have R : StS X.w s.heap a T := (I.hok a _ ha).1
  refine sorted_texts R (I.ok.hd calm) hu fun s' p out c ns k g o hp hc rv pe => ?_
  subst pe
  have pm := srtT_mem T
  generalize hns : srtT T = ns at rv pm q ⊢
  have tl : T.length < scanBound := by
    obtain ⟨_, _, _, _, _, _, _, _, _, _, hb, _⟩ := R
    exact hb
  refine ⟨.ref p, upd H p (.lst (ns.map V.str)), ?_, rfl, q p (I.hok.fresh hp)⟩
  have J : Inv X pins σ (upd H p (.lst (ns.map V.str))) { s with heap := s'.heap, gens := s'.gens, drawn := s'.drawn, toks := s'.toks } :=
    I.call (ch := []) (Un.laid k hp (I.hok.fresh hp)) (I.hok.laid k hp ⟨by rw [List.length_map, pm.length_eq, sizeLine_eq]; have : scanBound = 4096 := rfl; omega, out.toList, c, rv, by rw [Array.toArray_toList]; exact hc⟩) (by rw [g]; exact I.bare) (fun _ z => nomatch z)
  have e : s' = { s with heap := s'.heap, gens := s'.gens, drawn := s'.drawn, toks := s'.toks } := by
    cases s'
    cases s
    cases o
    rfl
  rw [e]
  exact J
/-! ### min of a list of texts -/
/-- the least of t :: ts -/
def minS (t : Str) (ts : List Str) : Str := ts.foldl (fun a y => if PySem.W.dataLt (.str y) (.str a) then y else a) t
theorem minD_strs (t : Str) (ts : List Str) : PySem.W.minD (.str t) (ts.map PyData.str) = .str (minS t ts) := by
  unfold PySem.W.minD minS
  induction ts generalizing t with
  | nil => rfl
  | cons y ts ih =>
    rw [List.map_cons, List.foldl_cons, List.foldl_cons, ← ih]
    cases PySem.W.dataLt (.str y) (.str t) <;> rfl
theorem minS_mem (t : Str) (ts : List Str) : minS t ts ∈ t :: ts := by
  unfold minS
  induction ts generalizing t with
  | nil => exact List.mem_cons_self
  | cons y ts ih =>
    rw [List.foldl_cons]
    rcases List.mem_cons.mp (ih (if PySem.W.dataLt (.str y) (.str t) then y else t)) with h | h
    · rw [h]
      split
      · exact List.mem_cons_of_mem _ List.mem_cons_self
      · exact List.mem_cons_self
    · exact List.mem_cons_of_mem _ (List.mem_cons_of_mem _ h)
def rMinS (K : PySem.W.Frag) : List V → Hp → VK → Prop := fun vs H Q => ∃ (a : Addr) (x : Str) (xs : List Str), vs = [V.ref a] ∧ SqL K H a ((x :: xs).map V.str) ∧ Q (.str (minS x xs)) H
theorem dp_texts {K : PySem.W.Frag} {H : Hp} : ∀ xs : List Str, DpAll K H (xs.map V.str) (xs.map PyData.str)
  | [] => .nil
  | x :: xs => .cons (.str x) (dp_texts xs)
theorem depth_texts : ∀ xs : List Str, PyData.depthAll (xs.map PyData.str) = 0
  | [] => rfl
  | x :: xs => by
    rw [List.map_cons]
    show max 0 (PyData.depthAll (xs.map PyData.str)) = 0
    rw [depth_texts xs]
    rfl
theorem some_text : ∀ {xs : List Str} {us : List Value}, Vals (xs.map V.str) us → ∀ v ∈ us, ∃ y ∈ xs, RelV (.str y) v
  | [], _, r, v, h => by
    cases r
    exact nomatch h
  | x :: xs, _, r, v, h => by
    rw [List.map_cons] at r
    cases r with
    | cons h1 t =>
      rcases List.mem_cons.mp h with e | h
      · rw [e]
        exact ⟨x, List.mem_cons_self, h1⟩
      · obtain ⟨y, hy, ry⟩ := some_text t v h
        exact ⟨y, List.mem_cons_of_mem _ hy, ry⟩
theorem cr_minS (hc : X.calm = true) (hu : X.A.units + 8 < cLine) : CallR X (.builtin "min") (rMinS X.K) := by
  intro pins s σ H vs us Q I r h
  obtain ⟨a, t, ts, rfl, hs, q⟩ := h
  obtain ⟨its, rv, hl, hz⟩ := I.list hs
  obtain ⟨u, rfl, ru⟩ := r.one
  obtain rfl : u = Value.ref a := ru
  obtain ⟨as, rs⟩ := Dp.readsAll I _ _ _ (dp_texts (t :: ts)) rv
  have dp := depth_texts (t :: ts)
  refine PySem.W.min_list_data (x := PyData.str t) (xs := ts.map PyData.str) (as := as) (I.ok.hd hc) hl.isList (by simpa using rs) ⟨fun d hd d' hd' => ?_, fun d hd => ?_⟩ ?_ fun i v h' tk bs hi rd hk => ?_
  · obtain ⟨p, _, rfl⟩ := List.mem_map.mp (show d ∈ (t :: ts).map PyData.str from hd)
    obtain ⟨p', _, rfl⟩ := List.mem_map.mp (show d' ∈ (t :: ts).map PyData.str from hd')
    rfl
  · obtain ⟨p, _, rfl⟩ := List.mem_map.mp (show d ∈ (t :: ts).map PyData.str from hd)
    exact fun z => nomatch z
  · show X.A.units + 1 + PyData.depthAll ((t :: ts).map PyData.str) < cLine
    omega
  · have mv : v ∈ its := by
      have := Array.mem_of_getElem? hi
      simpa using this
    obtain ⟨y, hy, tk2, rfl⟩ := some_text rv v mv
    rw [minD_strs] at rd
    cases rd
    exact ⟨.str _, H, I.kept hk, ⟨_, rfl⟩, q⟩
end
end SsT

set_option Elab.async false
set_option linter.all false
set_option maxRecDepth 100000
set_option maxHeartbeats 2000000
/-! DV: dicts whose keys are tuples: setdefault, list of the values. -/
namespace DvT
open PySem PySem.Spec PyProof.Rows L2
section
variable {prog : Program} {w : World} {A : Around} {E : Value → Shared → Prop} {s : Shared} {d : Addr} {es : Array DictEntry} {ep : Nat}
theorem vals_meet (hd : (d == sysModules) = false) :
    MeetsIn prog w (Builtin.«dict.values» ⟨[.ref d], []⟩) (fun _ R s => DT.Raw s.heap d es ep ∧ R (.ok (.ret (.ref s.heap.objs.size))) { s with heap := s.heap.push { cls := .type "dict_values", data := .fields #[.ref d] } }) :=
  .of_wp fun A R s ⟨z, q⟩ => by
    refine wpAny_bind ?_
    unfold Builtin.Dict.noArgs
    refine wpAny_bind (wpAny_notOrdered_dict z.typeIs ?_)
    show wpAny _ _ (pure d) _ _ s
    refine wpAny_pure (show wpAny _ _ (Builtin.Dict.showsAll d >>= _) _ _ s from ?_)
    unfold Builtin.Dict.showsAll
    rw [if_neg (by rw [hd]; exact Bool.false_ne_true)]
    exact wpAny_bind (wpAny_pure (wpAny_bind (wpAny_newObj_type (wpAny_pure ⟨_, rfl, q⟩))))
theorem vals_iter {v : Addr} {Q : Value → Shared → Prop} (hv : s.heap.IsValuesView v d) (z : DT.Raw s.heap d es ep)
    (q : Q (.ref s.heap.objs.size) { s with heap := s.heap.push { cls := .type "dict_valueiterator", data := .fields #[.ref d, .int 0 0, .int es.size 0, .int ep 0] } }) : wpAny (model prog w) A (pyIter (.ref v)) Q E s := by
  obtain ⟨ov, o1, o2, o3⟩ := id hv
  obtain ⟨od, z1, z2, z3⟩ := id z
  refine wpAny_pyIter_slot hv.typeIs PySem.F.slot_dict_values_iter (wpAny_call_entry PySem.F.slot_dict_values_iter hv.typeIs PySem.F.entry_dict_values_iter ?_ (PySem.F.args_dict_values_iter_1 _))
  unfold Builtin.«dict_values.__iter__»
  refine wpAny_bind (wpAny_pure (wpAny_bind ?_))
  unfold Builtin.Dict_items.dictOf
  refine wpAny_bind (wpAny_field o1 o3 (x := .ref d) rfl (wpAny_pure (wpAny_bind ?_)))
  unfold Builtin.Dict_items.newIterator
  refine wpAny_bind (wpAny_dictEntries z1 z3 (wpAny_bind (wpAny_dictEpoch z1 z3 ?_)))
  have own : Builtin.Dict_items.ownsTuple "dict_valueiterator" = false := by decide
  simp only [own, Bool.false_eq_true, if_false]
  refine wpAny_newObj_type (wpAny_pure ⟨_, rfl, "dict_valueiterator", _, ⟨_, Heap.get?_push_size _ rfl, rfl⟩, PySem.F.slot_dict_valueiterator_next.lookup, ?_⟩)
  simpa [rawInt] using q
theorem vals_next {it : Addr} {i : Nat} {en : DictEntry} {Q : Option Value → Shared → Prop} (hit : s.heap.IsValIter it d i es.size ep) (z : DT.Raw s.heap d es ep) (hx : es[i]? = some en)
    (q : ∀ h', h'.IsValIter it d (i + 1) es.size ep → Heap.SameBut it s.heap h' → Q (some en.val) { s with heap := h' }) : wpAny (model prog w) A (pyNext (.ref it)) Q E s := by
  obtain ⟨oi, i1, i2, i3⟩ := id hit
  obtain ⟨od, z1, z2, z3⟩ := id z
  unfold pyNext
  refine wpAny_bind (wpAny_attempt (wpAny_callSpecial?_slot (name := Str.ofString "__next__") hit.typeIs PySem.F.slot_dict_valueiterator_next (wpAny_call_entry PySem.F.slot_dict_valueiterator_next hit.typeIs PySem.F.entry_dict_valueiterator_next ?_ (PySem.F.args_dict_valueiterator_next_1 _))))
  refine wpAny_bind (wpAny_pure (wpAny_bind (wpAny_bind ?_)))
  first | refine wpAny_bind (wpAny_typeNameOfWhole_valiter hit.typeIs (wpAny_pure (wpAny_bind (wpAny_fieldsOf i1 i3 ?_)))) | refine wpAny_bind (wpAny_typeNameOf_valiter hit.typeIs (wpAny_pure (wpAny_bind (wpAny_fieldsOf i1 i3 ?_))))
  have own : Builtin.Dict_items.ownsTuple "dict_valueiterator" = false := by decide
  simp only [own, Bool.false_eq_true, if_false]
  show wpAny _ _ (if (Value.ref d == Value.none) = true then _ else _) _ _ s
  rw [if_neg (show ¬ ((Value.ref d == Value.none) = true) from Bool.false_ne_true)]
  refine wpAny_bind (wpAny_pure (wpAny_bind (wpAny_dictEntries z1 z3 ?_)))
  rw [if_neg (by simp)]
  refine wpAny_bind (wpAny_pure (wpAny_bind (wpAny_dictEpoch z1 z3 ?_)))
  rw [if_neg (by simp)]
  obtain ⟨lt, een⟩ := Array.getElem?_eq_some_iff.mp hx
  refine wpAny_pure ?_
  simp only [show ¬ ((i : Int) < 0) from by omega, if_false, Int.toNat_natCast, Array.getElem?_eq_getElem lt]
  refine wpAny_bind ?_
  first | refine wpAny_bind (wpAny_typeNameOfWhole_valiter hit.typeIs (wpAny_pure (wpAny_bind (wpAny_isOneOf_valiter hit.typeIs ?_)))) | refine wpAny_bind (wpAny_typeNameOf_valiter hit.typeIs (wpAny_pure (wpAny_bind (wpAny_isOneOf_valiter hit.typeIs ?_))))
  show wpAny _ _ (setField (.ref it) 1 (rawInt ((i : Int) + 1)) >>= _) _ _ s
  refine wpAny_bind (wpAny_setField i1 i3 (by simp) ?_)
  have hit' : (s.heap.update it (Obj.mapFields (·.setIfInBounds 1 (rawInt ((i : Int) + 1))))).IsValIter it d (i + 1) es.size ep :=
    ⟨_, Heap.get?_update_self _ i1 (Obj.isFreed_of_fields (Obj.data_mapFields i3 _)), (Obj.cls_mapFields ..).trans i2, by rw [Obj.data_mapFields i3]; simp [rawInt]⟩
  refine wpAny_bind (wpAny_holding (wpAny_bind (wpAny_isOneOf_valiter (s := { s with heap := s.heap.update it (Obj.mapFields (·.setIfInBounds 1 (rawInt ((i : Int) + 1)))) }) hit'.typeIs ?_)))
  refine wpAny_bind (wpAny_isOneOf_valiter (s := { s with heap := s.heap.update it (Obj.mapFields (·.setIfInBounds 1 (rawInt ((i : Int) + 1)))) }) hit'.typeIs ?_)
  show wpAny _ _ (pure es[i].val) _ _ _
  exact wpAny_pure (wpAny_pure ⟨_, rfl, wpAny_pure (by rw [een]; exact q _ hit' (Heap.SameBut.update ..))⟩)
theorem vals_end {it : Addr} {i : Nat} {Q : Option Value → Shared → Prop} (hh : A.handled = none) (hit : s.heap.IsValIter it d i es.size ep) (z : DT.Raw s.heap d es ep) (hx : es.size ≤ i)
    (q : ∀ h', Heap.ExtBut it s.heap h' → Q none { s with heap := h' }) : wpAny (model prog w) A (pyNext (.ref it)) Q E s := by
  obtain ⟨oi, i1, i2, i3⟩ := id hit
  obtain ⟨od, z1, z2, z3⟩ := id z
  unfold pyNext
  refine wpAny_bind (wpAny_attempt (wpAny_callSpecial?_slot (name := Str.ofString "__next__") hit.typeIs PySem.F.slot_dict_valueiterator_next (wpAny_call_entry PySem.F.slot_dict_valueiterator_next hit.typeIs PySem.F.entry_dict_valueiterator_next ?_ (PySem.F.args_dict_valueiterator_next_1 _))))
  refine wpAny_bind (wpAny_pure (wpAny_bind (wpAny_bind ?_)))
  first | refine wpAny_bind (wpAny_typeNameOfWhole_valiter hit.typeIs (wpAny_pure (wpAny_bind (wpAny_fieldsOf i1 i3 ?_)))) | refine wpAny_bind (wpAny_typeNameOf_valiter hit.typeIs (wpAny_pure (wpAny_bind (wpAny_fieldsOf i1 i3 ?_))))
  have own : Builtin.Dict_items.ownsTuple "dict_valueiterator" = false := by decide
  simp only [own, Bool.false_eq_true, if_false]
  show wpAny _ _ (if (Value.ref d == Value.none) = true then _ else _) _ _ s
  rw [if_neg (show ¬ ((Value.ref d == Value.none) = true) from Bool.false_ne_true)]
  refine wpAny_bind (wpAny_pure (wpAny_bind (wpAny_dictEntries z1 z3 ?_)))
  rw [if_neg (by simp)]
  refine wpAny_bind (wpAny_pure (wpAny_bind (wpAny_dictEpoch z1 z3 ?_)))
  rw [if_neg (by simp)]
  refine wpAny_pure ?_
  simp only [show ¬ ((i : Int) < 0) from by omega, if_false, Int.toNat_natCast, Array.getElem?_eq_none hx]
  refine wpAny_bind ?_
  first | refine wpAny_bind (wpAny_typeNameOfWhole_valiter hit.typeIs (wpAny_pure ?_)) | refine wpAny_bind (wpAny_typeNameOf_valiter hit.typeIs (wpAny_pure ?_))
  show wpAny _ _ (setField (.ref it) 0 .none >>= _) _ _ s
  refine wpAny_bind (wpAny_setField i1 i3 (by simp) ?_)
  show wpAny _ _ (newExc (.type "StopIteration") [] >>= _) _ _ _
  refine wpAny_bind ?_
  simp only [newExc, newTuple]
  refine wpAny_bind (wpAny_newObj_type ?_ (by size_fits))
  refine wpAny_bind (m := firstArgMember _ _) (wpAny_of_eq (a := Value.none) (by first | rfl | (simp only [firstArgMember]; rfl)) (wpAny_newObj_type ?_ (by size_fits)))
  simp only [raiseNew]
  refine wpAny_bind (wpAny_handled ?_)
  rw [show A.in1.handled = none from hh]
  refine wpAny_bind (wpAny_pure (wpAny_throw ?_))
  refine wpAny_bind (wpAny_isInstance (T := "StopIteration") (b := true) ⟨_, Heap.get?_push_size _ rfl, rfl⟩ isSubtype_stop ?_)
  exact wpAny_pure (q _ (((Heap.SameBut.update ..).extBut.push _).push _))
theorem vals_walk (hh : A.handled = none) (I : Addr) (hne : d ≠ I) : Walks prog w A I [I, d] [I] es.size (fun i v => ∃ en : DictEntry, es[i]? = some en ∧ v = en.val) (fun i h => h.IsValIter I d i es.size ep ∧ DT.Raw h d es ep) where
  sub := fun b hb => by simp at hb; simp [hb]
  frame := fun _ _ _ st hk => ⟨st.1.at fun o e => hk I (by simp) o e, st.2.at' fun o e => hk d (by simp) o e⟩
  item := fun i s Q E hi st hQ => by
    have hx : es[i]? = some es[i] := Array.getElem?_eq_getElem hi
    refine vals_next st.1 st.2 hx fun h' hit' sb => ?_
    exact hQ _ h' s.toks ⟨_, hx, rfl⟩ ⟨hit', st.2.at' fun o e => (sb.2 d hne).trans e⟩ fun b ob hb e => (sb.2 b (fun z => hb (by simp [z]))).trans e
  done := fun s Q E st hQ => vals_end hh st.1 st.2 (Nat.le_refl _) fun h' he' => hQ h' s.toks fun b ob hb e => he' b ob (fun z => hb (by simp [z])) e
  self := fun _ _ _ _ st hQ => wpAny_pyIter_valiter st.1 hQ
theorem vals_src {r : Addr} : PySem.W.KdlSrc prog w "dict_values" r d es.size (fun i v => ∃ en : DictEntry, es[i]? = some en ∧ v = en.val) (fun h => h.IsValuesView r d ∧ DT.Raw h d es ep) where
  type := fun _ hm => hm.1.typeIs
  there := fun _ hm => ⟨let ⟨_, ho, _⟩ := hm.1; Heap.lt_size ho, hm.2.lt⟩
  keep := fun _ _ hm hk => ⟨let ⟨o, ho, x⟩ := hm.1; ⟨o, hk r (.inl rfl) o ho, x⟩, hm.2.at' fun o e => hk d (.inr rfl) o e⟩
  notList := by decide
  notTuple := by decide
  hint := fun _ _ _ _ hm hq => PySem.W.kdl_hint_values hm.1.typeIs hq
  iter := fun _ _ hh hm => ⟨_, _, (fun _ _ hq => vals_iter hm.1 hm.2 hq), vals_walk hh _ (Nat.ne_of_lt hm.2.lt), ⟨⟨_, Heap.get?_push_size _ rfl, rfl, rfl⟩, hm.2.push _⟩⟩
end
/-- list(e.values()), the keys tuples -/
def rValsT : V → Hp → VK → Prop := fun x H Q => ∃ (d : Addr) (kvs : List (List Key × V)), x = .ref d ∧ H d = some (.dT kvs) ∧ ∀ p, H p = none → Q (.ref p) (upd H p (.lst (kvs.map (·.2))))
def tValsT (te : TE) : TE := fun σ H Q => te σ H fun x H1 => rValsT x H1 Q
section
variable {X : Cx} {e : Expr} {te : TE} {p apos cpos pos : Pos}
theorem kt_vals {H : Hp} {kvs : List (List Key × V)} {xs : List (List Key × Addr × Value)} (r : KT H kvs xs) : Vals (kvs.map (·.2)) (xs.map fun x => x.2.2) := by
  unfold KT at r
  induction r with
  | nil => exact .nil
  | cons h t ih => exact .cons h.2.2 ih
theorem pe_valsT (hc : X.calm = true) (he : PE X e te) (hg : Gl X "list") (hm : X.mg "list" = none) (hv : bootBuiltins "list" = some (.type "list")) (hbase : attributeBase e "values" X.env (eval e X.env) = eval e X.env := by rfl) (hline : (apos.endLine == cpos.line) = true := by rfl)
    (hs : starEach [.Call (.Attribute e "values" apos) [] [] cpos] X.env = (false, eval (.Call (.Attribute e "values" apos) [] [] cpos) X.env) :: starEach [] X.env := by rfl) :
    PE X (.Call (.Name "list" p) [.Call (.Attribute e "values" apos) [] [] cpos] [] pos) (tValsT te) := by
  refine ⟨fun pins s σ H Q I hq => ?_⟩
  refine wpAny_Call_Name_kw (ld_blt I hg hm hv (PyProof.Rows.callWith_type1 ?_ hs rfl))
  rw [hs]
  show wpAny _ _ (spliced ((false, eval (.Call (.Attribute e "values" apos) [] [] cpos) X.env) :: backTo pos (starEach [] X.env))) _ _ s
  refine Calls.spliced_cons (wpAny_Call_method (T := "dict") (id := "dict.values") hbase rfl hline PySem.F.plainAttrs_dict PySem.F.slot_dict_values PySem.F.type_dict_values (thn (he.run pins s σ H _ I hq) fun u s1 ⟨x, H1, I1, rx, d, kvs, ex, hd, q⟩ => ?_))
  subst ex
  obtain rfl : u = Value.ref d := rx
  obtain ⟨z, hs0, ks, pr, o, es, ep, ho, hx, hdt, hent, hnd⟩ := (show ObjOk X.prog X.w H1 s1.heap d (.dT kvs) from I1.hok d _ hd)
  have hraw : DT.Raw s1.heap d es ep := ⟨o, ho, hx, hdt⟩
  have l1 : es.size = ks.length := size_of_entries hent
  have l2 : kvs.length = ks.length := Paired.length pr
  refine ⟨hraw.typeIs, fun b e => ?_, ?_⟩
  · cases e
    exact ⟨o, ho, hx.2.1⟩
  show wpAny _ _ (callWith cpos (.builtin "dict.values") [.ref d] [] []) _ X.xe s1
  refine method_meetsIn PySem.F.slot_dict_values PySem.F.entry_dict_values rfl (PySem.evalArgs_none ⟨rfl, hraw.typeIs, PySem.F.args_dict_values_1 _, _, vals_meet (es := es) (ep := ep) hs0, hraw, ?_⟩)
  refine Calls.spliced_nil ?_
  have I2 : Inv X pins σ H1 { s1 with heap := s1.heap.push { cls := .type "dict_values", data := .fields #[.ref d] } } := I1.kept (t' := s1.toks) fun b ob q => Heap.get?_push_of_some _ q
  refine PySem.W.kdl_call (vals_src (d := d) (es := es) (ep := ep)) (I1.ok.hd hc) ⟨⟨_, Heap.get?_push_size _ rfl, rfl, rfl⟩, hraw.push _⟩ (by omega) fun h' tk acc c' kp ge ia => ?_
  have ea : acc.toList = ks.map fun x => x.2.2 := by
    have hl : acc.toList.length = ks.length := by rw [Array.length_toList, ia.1]; exact l1
    apply List.ext_getElem?
    intro j
    rw [List.getElem?_map]
    cases hj : acc.toList[j]? with
    | none =>
      rw [List.getElem?_eq_none (by have := List.getElem?_eq_none_iff.mp hj; omega)]
      all_goals rfl
    | some v =>
      obtain ⟨en, hen, hv⟩ := ia.2 j v (by rw [← Array.getElem?_toList]; exact hj)
      have qe := entry_at hent j
      rw [hen] at qe
      cases hb : ks[j]? with
      | none =>
        rw [hb] at qe
        exact nomatch (show some en = none from qe)
      | some b =>
        rw [hb] at qe
        have e2 : en = entryOfKey (tupleKind (mixKind X.prog X.w)) b := Option.some.inj qe
        rw [hv, e2]
        all_goals rfl
  have rv : Vals (kvs.map (·.2)) acc.toList := by
    rw [ea]
    exact kt_vals pr
  refine ⟨.ref _, _, I2.laid (t' := tk) (o := .lst (kvs.map (·.2))) kp (Nat.le_refl _) ?_, rfl, q _ (I2.hok.fresh (Nat.le_refl _))⟩
  exact ⟨by rw [List.length_map]; omega, acc.toList, c', rv, by rw [Array.toArray_toList]; exact ge⟩
end
/-- d.setdefault(y, z), y a tuple -/
def tSetdT (td ty tx : TE) : TE := fun σ H Q => td σ H fun x H1 => ∃ a, x = .ref a ∧ IsD H1 a ∧ ty σ H1 fun y H2 => tx σ H2 fun z H3 => ∃ (kvs : List (List Key × V)) (k : List Key) (b : Addr), H3 a = some (.dT kvs) ∧ y = .ref b ∧ H3 b = some (.tup (k.map kV)) ∧ kvs.length < sizeLine ∧
  (∀ v, valV kvs k = some v → Q v H3) ∧ (valV kvs k = none → Q z (upd H3 a (.dT (putK kvs k z))))
section
variable {X : Cx} {pins : List (Addr × Obj)} {σ : L2.St} {H : Hp} {s : Shared} {a b : Addr} {u r : Value} {d : V} {k : List Key} {A : Around} {E : Value → Shared → Prop}
theorem setd_t {kvs : List (List Key × V)} {Q : Value → Shared → Prop} (hu : A.units + 1 < cLine) (I : Inv X pins σ H s) (e : H a = some (.dT kvs)) (eb : H b = some (.tup (k.map kV))) (rd : RelV d r) (hl : kvs.length < sizeLine)
    (h1 : ∀ v, valV kvs k = some v → ∀ (w' : Value) (s' : Shared), Inv X pins σ H s' → RelV v w' → Q w' s') (h2 : valV kvs k = none → ∀ (w' : Value) (s' : Shared), Inv X pins σ (upd H a (.dT (putK kvs k d))) s' → RelV d w' → Q w' s') :
    wpAny (model X.prog X.w) A (call (.builtin "dict.setdefault") [.ref a, .ref b, r]) Q E s := by
  obtain ⟨z, hd, xs, rel, dd⟩ := dt_of I.hok e
  have hz : xs.length ≤ sizeLine := by rw [← Paired.length rel]; exact z
  refine call_setdefault_heap (hsz := hz) (tupleKind_room_in1 hu) (key_of I.hok eb) hd dd (fun p hp => ?_) fun hn h' dd' hs => ?_
  · have rr := rel.val k
    rw [hp] at rr
    cases ev : valV kvs k with
    | none =>
      rw [ev] at rr
      exact (show False from rr).elim
    | some v0 =>
      rw [ev] at rr
      exact h1 v0 ev _ _ (I.tok _) rr
  · have rr := rel.val k
    rw [hn] at rr
    cases ev : valV kvs k with
    | some v0 =>
      rw [ev] at rr
      exact (show False from rr).elim
    | none =>
      have hl2 : (putK kvs k d).length ≤ sizeLine := by
        have := length_putK kvs k d
        omega
      obtain ⟨q, es, ep, hq, g2, g3, g4, _, g5⟩ := dd'
      refine h2 ev _ _ (d_write (t' := s.toks + (tupleKind (mixKind X.prog X.w)).draws k) I (by rw [e]; exact True.intro) hs ⟨q, hq⟩ ⟨hl2, hd, _, (rel.put k eb rd).keeps fun c ys ec => ?_, q, es, ep, hq, g2, g3, g4, g5⟩) rd
      rw [upd_ne (ne_of ec e (fun y => nomatch y))]
      exact ec
end
section
variable {X : Cx} {o e f : Expr} {td ty tx : TE} {apos cpos : Pos}
theorem pe_setdT (hu : X.A.units + 2 < cLine) (ho : PE X o td) (he : PE X e ty) (hf : PE X f tx) (m : M2 X o "setdefault" apos e f cpos) : PE X (.Call (.Attribute o "setdefault" apos) [e, f] [] cpos) (tSetdT td ty tx) := by
  refine ⟨fun pins s σ H Q I h => ?_⟩
  refine wpAny_Call_method m.base m.few m.line PySem.F.plainAttrs_dict PySem.F.slot_dict_setdefault PySem.F.type_dict_setdefault (thn (ho.run pins s σ H _ I h) fun u s1 ⟨x, H1, I1, rx, a, ex, d, q1⟩ => ?_)
  subst ex
  obtain rfl : u = Value.ref a := rx
  obtain ⟨t1, t2, _⟩ := isD_at I1 d
  refine ⟨t1, t2, ?_⟩
  rw [m.trees]
  refine Calls.callWith_builtin rfl (Calls.evalArgs_plain (Calls.spliced_cons (thn (he.run pins s1 σ H1 _ I1 q1) fun iv s2 ⟨y, H2, I2, ry, q2⟩ =>
    Calls.spliced_cons (thn (hf.run pins s2 σ H2 _ I2 q2) fun fv s3 ⟨z, H3, I3, rz, kvs, k, b, ea, ey, eb, hl, q3, q4⟩ => Calls.spliced_nil ?_))))
  subst ey
  obtain rfl : iv = Value.ref b := ry
  exact setd_t (by exact Nat.lt_of_succ_lt hu) I3 ea eb rz hl (fun v hv w' s4 I4 rw' => ⟨v, _, I4, rw', q3 v hv⟩) fun hn w' s4 I4 rw' => ⟨z, _, I4, rw', q4 hn⟩
end
end DvT

set_option Elab.async false
set_option linter.all false
set_option maxRecDepth 100000
set_option maxHeartbeats 2000000
/-! DB1 (of no law): dicts keyed by tuples of truth values: new, setdefault, list of the values. -/
namespace DbB
open PySem PySem.Spec PyProof.Rows L2 DvT
/-- the truth values, their tuple's place, what stands there -/
abbrev EB := List Bool × Addr × V
abbrev bk (b : Bool) : NestedKey := .num (if b = true then 1 else 0)
def nk (bs : List Bool) : NestedKey := .tup (bs.map bk)
theorem bk_inj : ∀ {a b : Bool}, bk a = bk b → a = b
  | true, true, _ => rfl
  | false, false, _ => rfl
  | true, false, h => by
    injection h with h
    exact absurd h (by decide)
  | false, true, h => by
    injection h with h
    exact absurd h (by decide)
theorem nk_inj {a b : List Bool} (h : nk a = nk b) : a = b := by
  unfold nk at h
  injection h with h
  induction a generalizing b with
  | nil =>
    cases b with
    | nil => rfl
    | cons _ _ => cases h
  | cons x a ih =>
    cases b with
    | nil => cases h
    | cons y b =>
      rw [List.map_cons, List.map_cons] at h
      have h1 := (List.cons.inj h).1
      have h2 := (List.cons.inj h).2
      rw [bk_inj h1, ih h2]
theorem nk_deep (bs : List Bool) : (nk bs).depth ≤ 8 := by
  have : ∀ l : List Bool, NestedKey.depthAll (l.map bk) = 0 := fun l => by
    induction l with
    | nil => rfl
    | cons x l ih =>
      rw [List.map_cons]
      show max 0 (NestedKey.depthAll (l.map bk)) = 0
      rw [ih]
      rfl
  show NestedKey.depthAll (bs.map bk) + 1 ≤ 8
  rw [this]
  decide
abbrev EbR : EB → NestedKey × Addr × Value → Prop := fun p q => nk p.1 = q.1 ∧ p.2.1 = q.2.1 ∧ RelV p.2.2 q.2.2
def dbAt (P : Program) (w : World) (a : Addr) (ks : List EB) (h : Heap) : Prop := ks.length ≤ sizeLine ∧ (a == sysModules) = false ∧ ∃ xs : List (NestedKey × Addr × Value), Paired EbR ks xs ∧
  ∃ o es ep, h.get? a = some o ∧ o.ExactDict ∧ o.data = .dict es ep ∧ es.toList = xs.map (entryOfKey (nestedKind P w)) ∧ (xs.map (·.1)).Nodup
/-- such a dict, its entries from the oldest -/
def dbO (P : Program) (w : World) (a : Addr) (ks : List EB) : HO := .ext (dbAt P w a ks)
/-- its keys stand -/
def KsB (H : Hp) (ks : List EB) : Prop := ∀ e ∈ ks, H e.2.1 = some (.tup (e.1.map V.bl))
theorem KsB.same {H H' : Hp} {ks : List EB} (x : KsB H ks) (s : ∀ a xs, H a = some (.tup xs) → H' a = some (.tup xs)) : KsB H' ks := fun e he => s _ _ (x e he)
theorem vals_nested {h : Heap} : ∀ {bs : List Bool} {us : List Value}, Vals (bs.map V.bl) us → NestedAll h (bs.map bk) us
  | [], _, r => by
    cases r
    exact .nil
  | b :: bs, _, r => by
    rw [List.map_cons] at r
    cases r with
    | cons h1 t =>
      obtain rfl := (show _ = Value.bool b from h1)
      exact .cons (.bool rfl) (vals_nested t)
section
variable {P : Program} {w : World} {H : Hp} {h : Heap} {a b : Addr} {ks : List EB} {bs : List Bool}
theorem key_is (ok : HOk P w H h) (e : H b = some (.tup (bs.map V.bl))) : (nestedKind P w).is h (nk bs) b := by
  obtain ⟨_, its, rv, o, h1, h2, n, h3⟩ := (show ObjOk P w H h b (.tup (bs.map V.bl)) from ok b _ e)
  exact ⟨.tup h1 h2 h3 (by simpa using vals_nested rv), nk_deep bs⟩
theorem db_of (ok : HOk P w H h) (e : H a = some (dbO P w a ks)) (hk : KsB H ks) : ks.length ≤ sizeLine ∧ (a == sysModules) = false ∧ ∃ xs, Paired EbR ks xs ∧ h.DictOfH (nestedKind P w) a xs := by
  obtain ⟨⟨z, y, xs, r, o, es, ep, h1, h2, h3, h4, h5⟩, _⟩ := (show ObjOk P w H h a (.ext (dbAt P w a ks)) from ok a _ e)
  refine ⟨z, y, xs, r, o, es, ep, h1, h2, h3, h4, ?_, h5⟩
  have all : ∀ {l : List EB} {m : List (NestedKey × Addr × Value)}, Paired EbR l m → KsB H l → ∀ x ∈ m, (nestedKind P w).is h x.1 x.2.1 := by
    intro l m q
    induction q with
    | nil => intro _ x hx; exact nomatch hx
    | @cons p q ps qs hq t ih =>
      intro hl x hx
      rcases List.mem_cons.mp hx with e | hx
      · subst e
        have g := key_is ok (hl p List.mem_cons_self)
        obtain ⟨e1, e2, _⟩ := hq
        rw [← e1, ← e2]
        exact g
      · exact ih (fun e he => hl e (List.mem_cons_of_mem _ he)) x hx
  exact all r hk
theorem db_ok (z : dbAt P w a ks h) : ObjOk P w H h a (dbO P w a ks) := by
  refine ⟨z, ?_, ?_⟩
  · obtain ⟨_, _, _, _, o, _, _, h1, _⟩ := z
    exact ⟨o, h1⟩
  · rintro h1 h2 ⟨z1, z2, xs, r, o, es, ep, e1, e2⟩ hk
    exact ⟨z1, z2, xs, r, o, es, ep, hk _ e1, e2⟩
theorem db_raw (ok : HOk P w H h) (e : H a = some (dbO P w a ks)) : (a == sysModules) = false ∧ ks.length ≤ sizeLine ∧ ∃ xs es ep, Paired EbR ks xs ∧ DT.Raw h a es ep ∧ es.toList = xs.map (entryOfKey (nestedKind P w)) := by
  obtain ⟨⟨z, y, xs, r, o, es, ep, h1, h2, h3, h4, h5⟩, _⟩ := (show ObjOk P w H h a (.ext (dbAt P w a ks)) from ok a _ e)
  exact ⟨y, z, xs, es, ep, r, ⟨o, h1, h2, h3⟩, h4⟩
theorem db_empty (h : Heap) (hb : sysModules < h.objs.size) : ObjOk P w H (h.push { cls := .type "dict", data := .dict #[] }) h.objs.size (dbO P w h.objs.size []) :=
  db_ok ⟨Nat.zero_le _, beq_eq_false_iff_ne.mpr (Ne.symm (Nat.ne_of_lt hb)), [], .nil, _, #[], 0, Heap.get?_push_size _ rfl, ⟨rfl, rfl, rfl⟩, rfl, rfl, List.nodup_nil⟩
end
def hasB (ks : List EB) (k : List Bool) : Bool := ks.any fun e => decide (e.1 = k)
theorem has_at {ks : List EB} {xs : List (NestedKey × Addr × Value)} (r : Paired EbR ks xs) (k : List Bool) : hasB ks k = (atKey xs (nk k)).isSome := by
  unfold hasB
  induction r with
  | nil => rfl
  | @cons p q ps qs h t ih =>
    rw [List.any_cons]
    by_cases e : p.1 = k
    · have e' : q.1 = nk k := h.1.symm.trans (by rw [e])
      rw [decide_eq_true e, Bool.true_or]
      simp [atKey, List.find?_cons, e']
    · have e' : ¬ q.1 = nk k := fun z => e (nk_inj (h.1.trans z))
      have b : atKey (q :: qs) (nk k) = atKey qs (nk k) := by simp [atKey, List.find?_cons, e']
      rw [decide_eq_false e, Bool.false_or, b]
      exact ih
theorem val_at {ks : List EB} {xs : List (NestedKey × Addr × Value)} (r : Paired EbR ks xs) (k : NestedKey) {p : Addr × Value} (h : atKey xs k = some p) : ∃ v, RelV v p.2 := by
  induction r with
  | nil => exact nomatch h
  | @cons a q ps qs h0 t ih =>
    by_cases e : q.1 = k
    · have b : atKey (q :: qs) k = some q.2 := by simp [atKey, List.find?_cons, e]
      rw [b] at h
      cases h
      exact ⟨_, h0.2.2⟩
    · have b : atKey (q :: qs) k = atKey qs k := by simp [atKey, List.find?_cons, e]
      rw [b] at h
      exact ih h
section
variable {X : Cx} {pos : Pos}
/-- {}, to be such a dict -/
def tDNewB (P : Program) (w : World) : TE := fun _ H Q => ∀ p, H p = none → Q (.ref p) (upd H p (dbO P w p []))
theorem pe_dnewB : PE X (.Dict [] [] pos) (tDNewB X.prog X.w) := by
  constructor
  intro pins s σ H Q I h
  refine wpAny_Dict_empty ⟨.ref s.heap.objs.size, upd H s.heap.objs.size (dbO X.prog X.w s.heap.objs.size []), ?_, rfl, h _ (I.hok.fresh (Nat.le_refl _))⟩
  exact I.laid (t' := s.toks) (fun _ _ q => Heap.get?_push_of_some _ q) (Nat.le_refl _) (db_empty s.heap I.big)
end
/-- d.setdefault(y, z) -/
def tSetdB (P : Program) (w : World) (td ty tx : TE) : TE := fun σ H Q => td σ H fun x H1 => ∃ a, x = .ref a ∧ (∃ ks, H1 a = some (dbO P w a ks)) ∧ ty σ H1 fun y H2 => tx σ H2 fun z H3 => ∃ (ks : List EB) (k : List Bool) (b : Addr), H3 a = some (dbO P w a ks) ∧ y = .ref b ∧ KsB H3 ks ∧
  H3 b = some (.tup (k.map V.bl)) ∧ ks.length < sizeLine ∧ (hasB ks k = true → ∀ v, Q v H3) ∧ (hasB ks k = false → Q z (upd H3 a (dbO P w a (ks ++ [(k, b, z)]))))
section
variable {X : Cx} {pins : List (Addr × Obj)} {σ : L2.St} {H : Hp} {s : Shared} {a b : Addr} {u r : Value} {d : V} {k : List Bool} {A : Around} {E : Value → Shared → Prop}
theorem setd_b {ks : List EB} {Q : Value → Shared → Prop} (hu : A.units + 16 < cLine) (I : Inv X pins σ H s) (e : H a = some (dbO X.prog X.w a ks)) (hk : KsB H ks) (eb : H b = some (.tup (k.map V.bl))) (rd : RelV d r) (hl : ks.length < sizeLine)
    (h1 : hasB ks k = true → ∀ (v : V) (w' : Value) (s' : Shared), Inv X pins σ H s' → RelV v w' → Q w' s') (h2 : hasB ks k = false → ∀ (w' : Value) (s' : Shared), Inv X pins σ (upd H a (dbO X.prog X.w a (ks ++ [(k, b, d)]))) s' → RelV d w' → Q w' s') :
    wpAny (model X.prog X.w) A (call (.builtin "dict.setdefault") [.ref a, .ref b, r]) Q E s := by
  obtain ⟨z, hd, xs, rel, dd⟩ := db_of I.hok e hk
  have hz : xs.length ≤ sizeLine := by rw [← Paired.length rel]; exact z
  have room : (nestedKind X.prog X.w).room A.in1 := by
    show A.in1.units + 8 < cLine
    have : A.in1.units ≤ A.units + 8 := by
      show A.units + _ ≤ _
      omega
    omega
  refine call_setdefault_heap (hsz := hz) room (key_is I.hok eb) hd dd (fun p hp => ?_) fun hn h' dd' hs => ?_
  · obtain ⟨v, hv⟩ := val_at rel _ hp
    exact h1 (by rw [has_at rel, hp]; rfl) v _ _ (I.tok _) hv
  · have hh : hasB ks k = false := by rw [has_at rel, hn]; rfl
    obtain ⟨q, es, ep, hq, g2, g3, g4, _, g5⟩ := dd'
    have es : storedH xs (nk k) b r = xs ++ [(nk k, b, r)] := by
      unfold storedH
      rw [hn]
      rfl
    rw [es] at g4 g5
    refine h2 hh _ _ (d_write (t' := s.toks + (nestedKind X.prog X.w).draws (nk k)) I (by rw [e]; exact True.intro) hs ⟨q, hq⟩ (db_ok ⟨?_, hd, _, Paired.snoc rel ⟨rfl, rfl, rd⟩, q, _, ep, hq, g2, g3, g4, g5⟩)) rd
    rw [List.length_append]
    exact hl
end
section
variable {X : Cx} {o e f : Expr} {td ty tx : TE} {apos cpos : Pos}
theorem pe_setdB (hu : X.A.units + 17 < cLine) (ho : PE X o td) (he : PE X e ty) (hf : PE X f tx) (m : M2 X o "setdefault" apos e f cpos) : PE X (.Call (.Attribute o "setdefault" apos) [e, f] [] cpos) (tSetdB X.prog X.w td ty tx) := by
  refine ⟨fun pins s σ H Q I h => ?_⟩
  refine wpAny_Call_method m.base m.few m.line PySem.F.plainAttrs_dict PySem.F.slot_dict_setdefault PySem.F.type_dict_setdefault (thn (ho.run pins s σ H _ I h) fun u s1 ⟨x, H1, I1, rx, a, ex, ⟨ks0, d⟩, q1⟩ => ?_)
  subst ex
  obtain rfl : u = Value.ref a := rx
  obtain ⟨_, _, _, es, ep, _, raw, _⟩ := db_raw I1.hok d
  refine ⟨raw.typeIs, fun b e => ?_, ?_⟩
  · cases e
    obtain ⟨od, d1, d2, _⟩ := raw
    exact ⟨od, d1, d2.2.1⟩
  rw [m.trees]
  refine Calls.callWith_builtin rfl (Calls.evalArgs_plain (Calls.spliced_cons (thn (he.run pins s1 σ H1 _ I1 q1) fun iv s2 ⟨y, H2, I2, ry, q2⟩ =>
    Calls.spliced_cons (thn (hf.run pins s2 σ H2 _ I2 q2) fun fv s3 ⟨z, H3, I3, rz, ks, k, b, ea, ey, hk, eb, hl, q3, q4⟩ => Calls.spliced_nil ?_))))
  subst ey
  obtain rfl : iv = Value.ref b := ry
  exact setd_b (by exact Nat.lt_of_succ_lt hu) I3 ea hk eb rz hl (fun hh v w' s4 I4 rw' => ⟨v, _, I4, rw', q3 hh v⟩) fun hn w' s4 I4 rw' => ⟨z, _, I4, rw', q4 hn⟩
end
/-- list(e.values()) -/
def rValsB (P : Program) (w : World) : V → Hp → VK → Prop := fun x H Q => ∃ (d : Addr) (ks : List EB), x = .ref d ∧ H d = some (dbO P w d ks) ∧ ∀ p, H p = none → Q (.ref p) (upd H p (.lst (ks.map (·.2.2))))
def tValsB (P : Program) (w : World) (te : TE) : TE := fun σ H Q => te σ H fun x H1 => rValsB P w x H1 Q
section
variable {X : Cx} {e : Expr} {te : TE} {p apos cpos pos : Pos}
theorem eb_vals {ks : List EB} {xs : List (NestedKey × Addr × Value)} (r : Paired EbR ks xs) : Vals (ks.map (·.2.2)) (xs.map fun x => x.2.2) := by
  induction r with
  | nil => exact .nil
  | cons h t ih => exact .cons h.2.2 ih
theorem pe_valsB (hc : X.calm = true) (he : PE X e te) (hg : Gl X "list") (hm : X.mg "list" = none) (hv : bootBuiltins "list" = some (.type "list")) (hbase : attributeBase e "values" X.env (eval e X.env) = eval e X.env := by rfl) (hline : (apos.endLine == cpos.line) = true := by rfl)
    (hs : starEach [.Call (.Attribute e "values" apos) [] [] cpos] X.env = (false, eval (.Call (.Attribute e "values" apos) [] [] cpos) X.env) :: starEach [] X.env := by rfl) :
    PE X (.Call (.Name "list" p) [.Call (.Attribute e "values" apos) [] [] cpos] [] pos) (tValsB X.prog X.w te) := by
  refine ⟨fun pins s σ H Q I hq => ?_⟩
  refine wpAny_Call_Name_kw (ld_blt I hg hm hv (PyProof.Rows.callWith_type1 ?_ hs rfl))
  rw [hs]
  show wpAny _ _ (spliced ((false, eval (.Call (.Attribute e "values" apos) [] [] cpos) X.env) :: backTo pos (starEach [] X.env))) _ _ s
  refine Calls.spliced_cons (wpAny_Call_method (T := "dict") (id := "dict.values") hbase rfl hline PySem.F.plainAttrs_dict PySem.F.slot_dict_values PySem.F.type_dict_values (thn (he.run pins s σ H _ I hq) fun u s1 ⟨x, H1, I1, rx, d, kvs, ex, hd, q⟩ => ?_))
  subst ex
  obtain rfl : u = Value.ref d := rx
  obtain ⟨hs0, z, xs, es, ep, pr, hraw, hent⟩ := db_raw I1.hok hd
  have l1 : es.size = xs.length := by
    rw [← Array.length_toList, hent, List.length_map]
  have l2 : kvs.length = xs.length := Paired.length pr
  refine ⟨hraw.typeIs, fun b e => ?_, ?_⟩
  · cases e
    obtain ⟨od, d1, d2, _⟩ := hraw
    exact ⟨od, d1, d2.2.1⟩
  show wpAny _ _ (callWith cpos (.builtin "dict.values") [.ref d] [] []) _ X.xe s1
  refine method_meetsIn PySem.F.slot_dict_values PySem.F.entry_dict_values rfl (PySem.evalArgs_none ⟨rfl, hraw.typeIs, PySem.F.args_dict_values_1 _, _, vals_meet (es := es) (ep := ep) hs0, hraw, ?_⟩)
  refine Calls.spliced_nil ?_
  have I2 : Inv X pins σ H1 { s1 with heap := s1.heap.push { cls := .type "dict_values", data := .fields #[.ref d] } } := I1.kept (t' := s1.toks) fun b ob q => Heap.get?_push_of_some _ q
  refine PySem.W.kdl_call (vals_src (d := d) (es := es) (ep := ep)) (I1.ok.hd hc) ⟨⟨_, Heap.get?_push_size _ rfl, rfl, rfl⟩, hraw.push _⟩ (by omega) fun h' tk acc c' kp ge ia => ?_
  have ea : acc.toList = xs.map fun x => x.2.2 := by
    have hl : acc.toList.length = xs.length := by rw [Array.length_toList, ia.1]; exact l1
    apply List.ext_getElem?
    intro j
    rw [List.getElem?_map]
    cases hj : acc.toList[j]? with
    | none =>
      rw [List.getElem?_eq_none (by have := List.getElem?_eq_none_iff.mp hj; omega)]
      all_goals rfl
    | some v =>
      obtain ⟨en, hen, hv⟩ := ia.2 j v (by rw [← Array.getElem?_toList]; exact hj)
      have qe : es.toList[j]? = (xs[j]?).map (entryOfKey (nestedKind X.prog X.w)) := by rw [hent, List.getElem?_map]
      rw [Array.getElem?_toList, hen] at qe
      cases hb : xs[j]? with
      | none =>
        rw [hb] at qe
        exact nomatch (show some en = none from qe)
      | some b =>
        rw [hb] at qe
        have e2 : en = entryOfKey (nestedKind X.prog X.w) b := Option.some.inj qe
        rw [hv, e2]
        all_goals rfl
  have rv : Vals (kvs.map (·.2.2)) acc.toList := by
    rw [ea]
    exact eb_vals pr
  refine ⟨.ref _, _, I2.laid (t' := tk) (o := .lst (kvs.map (·.2.2))) kp (Nat.le_refl _) ?_, rfl, q _ (I2.hok.fresh (Nat.le_refl _))⟩
  exact ⟨by rw [List.length_map]; omega, acc.toList, c', rv, by rw [Array.toArray_toList]; exact ge⟩
end
end DbB

set_option Elab.async false
set_option linter.all false
set_option maxRecDepth 100000
set_option maxHeartbeats 2000000
/-! DS1 (of no law): {**d, k: v}. -/
namespace DsT
open PySem PySem.Spec PyProof.Rows L2
section
variable {prog : Program} {w : World} {K : Type} [DecidableEq K] {knd : KeyKind prog w K} {A : Around} {E : Value → Shared → Prop} {s : Shared}
/-- stored under a key whose hash is known -/
theorem put_pairs {d : Addr} {kvs : List (K × Value)} {k : K} {key v : Value} {Q : Unit → Shared → Prop} (hkey : knd.is k key = true) (hm : s.heap.DictOf knd d kvs) (hsz : kvs.length ≤ sizeLine)
    (hQ : ∀ h', h'.DictOf knd d (stored kvs k v) → Heap.SameBut d s.heap h' → Q () { s with heap := h' }) : wpAny (model prog w) A (dictPut d (knd.hash k) key v) Q E s := by
  obtain ⟨o, es, ep, ho, hc, hd, hk, hp, hn⟩ := hm
  have len : es.size ≤ sizeLine := by
    have e1 := hp.length
    rw [Array.length_toList] at e1
    omega
  unfold dictPut
  refine wpAny_bind (wpAny_dictFind_of hkey ho hd hk ?_)
  have place : (es.findIdx? fun e => knd.is k e.key) = kvs.findIdx? fun kv => decide (kv.1 = k) := by
    rw [← hp.findIdx k]
    obtain ⟨l⟩ := es
    simp
  cases hi : es.findIdx? fun e => knd.is k e.key with
  | some i =>
    have hl : (es.toList.findIdx? fun e => knd.is k e.key) = some i := by
      rw [← hi]
      obtain ⟨l⟩ := es
      simp
    have e1 : stored kvs k v = kvs.map fun kv => if kv.1 = k then (kv.1, v) else kv := if_pos (any_of_findIdx_some (place ▸ hi))
    refine wpAny_updateDict ho hd (hQ _ ⟨_, _, ep, Heap.get?_update_self _ ho (Obj.isFreed_of_dict (Obj.data_mapDict hd _)), hc.mapDict _, Obj.data_mapDict hd _, hk.modify _ _, ?_, ?_⟩ (Heap.SameBut.update ..))
    · rw [e1]
      have := hp.modify hn hl v
      obtain ⟨l⟩ := es
      simpa using this
    · rw [e1, keys_map_store]
      exact hn
  | none =>
    have hnot : k ∉ kvs.map (·.1) := not_mem_of_findIdx_none (place ▸ hi)
    have e1 : stored kvs k v = kvs ++ [(k, v)] := if_neg fun z => by
      obtain ⟨kv, hkv, he⟩ := List.any_eq_true.mp z
      exact hnot (List.mem_map.mpr ⟨kv, hkv, of_decide_eq_true he⟩)
    refine wpAny_updateDictKeys (hz := len) ho hd (hQ _ ⟨_, _, ep + 1, Heap.get?_update_self _ ho (Obj.isFreed_of_dict (Obj.data_mapDictKeys hd _)), hc.mapDictKeys _, Obj.data_mapDictKeys hd _, hk.push hkey _, ?_, ?_⟩ (Heap.SameBut.update ..))
    · rw [e1]
      have := hp.append hkey (knd.hash k) v
      obtain ⟨l⟩ := es
      simpa using this
    · rw [e1, List.map_append, List.nodup_append]
      refine ⟨hn, by simp, fun a ha b hb e => hnot ?_⟩
      rw [List.mem_singleton.mp hb] at e
      have e2 : a = k := e
      rw [e2] at ha
      exact ha
theorem merge_pairs {d o : Addr} {kvs more : List (K × Value)} {Q : Unit → Shared → Prop} (hno : ∀ k v, knd.is k v = true → ∀ b, v ≠ .ref b) (hdo : d ≠ o) (hoS : (o == sysModules) = false) (hd : s.heap.DictOf knd d kvs) (ho : s.heap.DictOf knd o more) (hsz : kvs.length + more.length ≤ sizeLine)
    (hQ : ∀ h', h'.DictOf knd d (merged kvs more) → h'.DictOf knd o more → Heap.SameBut d s.heap h' → Q () { s with heap := h' }) : wpAny (model prog w) A (mergeMapping d (.ref o) false) Q E s := by
  have ht : s.TypeIs (.ref o) "dict" := ho.typeIs
  obtain ⟨od, esd, epd, hod, hcd, hdd, hkd, hpd, hnd⟩ := id hd
  obtain ⟨oo, eso, epo, hoo, hco, hdo', hko, hpo, hnn⟩ := id ho
  have hlen : more.length = eso.size := by rw [← hpo.length]; simp
  unfold mergeMapping
  refine wpAny_bind (wpAny_isInstance ht isSubtype_dict_dict ?_)
  simp only [if_true]
  refine wpAny_bind (wpAny_specialOf ht PySem.F.slot_dict_iter.lookup ?_)
  simp only [beq_self_eq_true]
  refine wpAny_bind (wpAny_pure ?_)
  dsimp only
  rw [hoS]
  simp only [Bool.false_eq_true, if_false]
  have loop : wpAny (model prog w) A (do
      let l ← dictEntries o
      let epoch ← dictEpoch o
      forIn (List.range l.size) PUnit.unit fun i (_ : PUnit) => (do
          let l' ← dictEntries o
          match l'[i]? with
            | some e => do
              holding [e.key, e.val] (dictPut d e.hash e.key e.val)
              let ep' ← dictEpoch o
              if (ep' != epoch) = true then do
                  (unsupported "dict.changed-during-merge" : Sem PUnit)
                  pure (ForInStep.yield PUnit.unit)
                else pure (ForInStep.yield PUnit.unit)
            | _ => do
              (unsupported "dict.changed-during-merge" : Sem PUnit)
              pure (ForInStep.yield PUnit.unit) : Sem (ForInStep PUnit))
      pure ()) Q E s := by
    refine wpAny_bind (wpAny_dictEntries hoo hdo' (wpAny_bind (wpAny_dictEpoch hoo hdo' (wpAny_bind ?_))))
    rw [List.range_eq_range']
    refine wpAny_forIn_list _
      (fun rest _ s' => ∃ h' i, s' = { s with heap := h' } ∧ rest = List.range' i (eso.size - i) ∧ i ≤ eso.size ∧ h'.DictOf knd d (merged kvs (more.take i)) ∧ h'.get? o = some oo ∧ Heap.SameBut d s.heap h')
      _ ?_ ?_ _ _ ⟨s.heap, 0, rfl, by simp, Nat.zero_le _, by simpa [merged] using hd, hoo, Heap.SameBut.refl _ _⟩
    · rintro x rest b s' ⟨h', i, rfl, hr, hi, hd', hoo', hs'⟩
      have hlt : i < eso.size := by
        rcases Nat.lt_or_ge i eso.size with h | h
        · exact h
        · rw [Nat.sub_eq_zero_of_le h] at hr
          exact nomatch hr
      have e : eso.size - i = (eso.size - (i + 1)) + 1 := by omega
      rw [e, List.range'_succ] at hr
      have h1 : x = i := (List.cons.inj hr).1
      have hrest := (List.cons.inj hr).2
      subst h1
      refine wpAny_bind (wpAny_dictEntries hoo' hdo' ?_)
      rw [Array.getElem?_eq_getElem hlt]
      have hx : x < more.length := by rw [hlen]; exact hlt
      have hkv : more[x]? = some (more[x].1, more[x].2) := List.getElem?_eq_getElem hx
      obtain ⟨hkey, hval⟩ := hpo.get? (e := eso[x]) (by simp [hlt]) hkv
      obtain ⟨k', hkey', hhash⟩ := hko eso[x] (Array.getElem_mem hlt)
      have ek : k' = more[x].1 := knd.inj _ _ _ hkey' hkey
      show wpAny _ _ (holding [eso[x].key, eso[x].val] (dictPut d eso[x].hash eso[x].key eso[x].val) >>= _) _ _ _
      rw [hhash, hval, ek]
      have hmx : (merged kvs (more.take x)).length ≤ sizeLine := by
        have e1 := merged_length_le kvs (more.take x)
        rw [List.length_take] at e1
        omega
      refine wpAny_bind (wpAny_holding (put_pairs hkey hd' hmx fun h'' hd'' hs'' => ?_))
      have hoo'' : h''.get? o = some oo := (hs''.2 o (Ne.symm hdo)).trans hoo'
      refine wpAny_bind (wpAny_dictEpoch hoo'' hdo' ?_)
      rw [if_neg (by simp)]
      exact wpAny_pure ⟨h'', x + 1, rfl, hrest, hlt, by rw [merged_take_succ kvs more x _ hkv]; exact hd'', hoo'', hs'.trans hs''⟩
    · rintro b s' ⟨h', i, rfl, hr, hi, hd', hoo', hs'⟩
      have hin : i = eso.size := by
        rcases Nat.lt_or_ge i eso.size with h | h
        · have e : eso.size - i = (eso.size - (i + 1)) + 1 := by omega
          rw [e, List.range'_succ] at hr
          exact nomatch hr
        · exact Nat.le_antisymm hi h
      refine wpAny_pure (hQ h' ?_ ⟨oo, eso, epo, hoo', hco, hdo', hko, hpo, hnn⟩ hs')
      rw [hin, ← hlen, List.take_length] at hd'
      exact hd'
  refine wpAny_bind (wpAny_dictEntries hod hdd ?_)
  split
  · refine wpAny_bind (wpAny_dictEntries hoo hdo' (wpAny_bind ?_))
    rw [← Array.forIn_toList]
    refine wpAny_forIn_list _ (fun rest _ s' => s' = s ∧ ∀ e ∈ rest, e ∈ eso.toList) _ ?_ ?_ _ _ ⟨rfl, fun _ h => h⟩
    · rintro x rest b s' ⟨rfl, hr⟩
      obtain ⟨k', hk', _⟩ := hko x (by simpa using hr x List.mem_cons_self)
      have nr := hno k' _ hk'
      clear hk'
      generalize x.key = v at nr ⊢
      cases v <;> first | exact wpAny_pure ⟨rfl, fun e he => hr e (List.mem_cons_of_mem _ he)⟩ | exact (nr _ rfl).elim
    · rintro b s' ⟨rfl, _⟩
      exact loop
  · exact loop
theorem no_ref {P : Program} {w : World} (k : Key) (v : Value) (h : (mixKind P w).is k v = true) (b : Addr) : v ≠ .ref b := fun e => by
  subst e
  rcases keyIs_shape h with ⟨i, t, _, z⟩ | ⟨x, t, _, z⟩ <;> exact nomatch z
/-- {**a, b: c} -/
theorem display_star {A0 B0 C0 : Sem Value} {Q : Value → Shared → Prop}
    (h : wpAny (model prog w) A (do
      let d ← alloc { cls := .type "dict", data := .dict #[] }
      let m ← holding [.ref d] A0
      (((holding [.ref d, m] (mergeMapping d m false)).onRaise fun x => do let _ ← holding [.ref d, m, x] (runValue (.builtin "proto.let_go" {}))).tryCatch fun e => do
        if ← isInstance e (.type "AttributeError") then
          rule "dict.display.not-a-mapping"; raiseError "TypeError" s!"'{← typeNameOf m}' object is not a mapping"
        throw e).onRaise fun x => do let _ ← holding [.ref d, x] (runValue (.builtin "proto.let_go" {}))
      let sub ← holding [.ref d] (subDict [(B0, C0)])
      (holding [.ref d, .ref sub] (mergeMapping d (.ref sub) false)).onRaise fun x => do let _ ← holding [.ref d, x] (runValue (.builtin "proto.let_go" {}))
      pure (.ref d)) Q E s) : wpAny (model prog w) A (dictDisplay [(none, A0), (some B0, C0)]) Q E s := by
  refine (show dictDisplay [(none, A0), (some B0, C0)] = _ from ?_) ▸ h
  unfold dictDisplay
  simp
end
/-- {**x, y: z}, keys ints and texts -/
def tStarD (td tk tv : TE) : TE := fun σ H Q => ∀ p, H p = none → td σ (upd H p (.dK [])) fun x H1 => ∃ (o : Addr) (ks : List (Key × V)), x = .ref o ∧ o ≠ p ∧ H1 o = some (.dK ks) ∧ H1 p = some (.dK []) ∧ ks.length < sizeLine ∧ ∀ q, upd H1 p (.dK ks) q = none →
  tk σ (upd (upd H1 p (.dK ks)) q (.dK [])) fun y H2 => tv σ H2 fun z H3 => ∃ k : Key, y = kV k ∧ H3 q = some (.dK []) ∧ H3 p = some (.dK ks) ∧ Q (.ref p) (upd (upd H3 q (.dK [(k, z)])) p (.dK (putK ks k z)))
section
variable {X : Cx} {pos : Pos} {ex ek ev : Expr} {td tk tv : TE}
theorem pe_starD (hd : PE X ex td) (hk : PE X ek tk) (hv : PE X ev tv) : PE X (.Dict [none, some ek] [ex, ev] pos) (tStarD td tk tv) := by
  refine ⟨fun pins s σ H Q I h => ?_⟩
  have hn := I.hok.fresh (Nat.le_refl s.heap.objs.size)
  rw [arm_eval_Dict]
  refine wpAny_bind (wpAny_standAt ?_)
  show wpAny _ _ (dictDisplay [(none, do let x ← eval ex X.env; standAt pos; pure x), (some (eval ek X.env), do let x ← eval ev X.env; standAt pos; pure x)]) _ _ s
  refine display_star (wpAny_bind (wpAny_alloc ?_))
  have I1 := I.laid (a := s.heap.objs.size) (o := .dK []) (h' := s.heap.push { cls := .type "dict", data := .dict #[] }) (t' := s.toks) (fun _ _ q => Heap.get?_push_of_some _ q) (Nat.le_refl _) (dk_empty s.heap I.big)
  generalize hp : s.heap.objs.size = p at hn I1 ⊢
  refine wpAny_bind (wpAny_holding (wpAny_bind (thn (hd.run pins _ σ _ _ I1 (h p hn)) fun u s2 ⟨x, H1, I2, rx, o, ks, ex1, hne, ho, hp1, hl, q1⟩ => wpAny_bind (wpAny_standAt (wpAny_pure ?_)))))
  subst ex1
  obtain rfl : u = Value.ref o := rx
  obtain ⟨zo, hoS, vs, rel, ddo⟩ := dk_of I2.hok ho
  obtain ⟨zp, hpS, vs0, rel0, ddp⟩ := dk_of I2.hok hp1
  cases rel0
  have lv : ks.length = vs.length := rel.length
  refine wpAny_bind (wpAny_onRaise (wpAny_tryCatch (wpAny_onRaise (wpAny_holding (merge_pairs no_ref (Ne.symm hne) hoS ddp ddo (by rw [List.length_nil]; omega) fun h3 dd3 _ sb3 => ?_)))))
  have nd : (vs.map (·.1)).Nodup := by
    obtain ⟨_, _, _, _, _, _, _, _, nn⟩ := ddo
    exact nn
  rw [merged_nil_of_nodup vs nd] at dd3
  have e3 : ∃ q, h3.get? p = some q := let ⟨q, _, _, hq, _⟩ := dd3; ⟨q, hq⟩
  have I3 : Inv X pins σ (upd H1 p (.dK ks)) { s2 with heap := h3, toks := s2.toks } := d_write I2 (by rw [hp1]; exact True.intro) sb3 e3 (dk_new zo hpS rel dd3)
  have hn3 := I3.hok.fresh (Nat.le_refl _)
  have I4 : Inv X pins σ (upd (upd H1 p (.dK ks)) h3.objs.size (.dK [])) { heap := h3.push { cls := .type "dict", data := .dict #[] }, gens := s2.gens, drawn := s2.drawn, toks := s2.toks, os := s2.os } :=
    I3.laid (a := h3.objs.size) (o := .dK []) (h' := h3.push { cls := .type "dict", data := .dict #[] }) (t' := s2.toks) (fun _ _ q => Heap.get?_push_of_some _ q) (Nat.le_refl _) (dk_empty h3 I3.big)
  have hn3 : upd H1 p (.dK ks) h3.objs.size = none := hn3
  refine wpAny_bind (wpAny_holding (wpAny_subDict (knd := mixKind X.prog X.w) (Nat.le_of_lt_succ (by show 1 < 16; decide)) ?_))
  generalize hq : h3.objs.size = q at hn3 I4
  refine evalPairs_cons (thn (hk.run pins _ σ _ _ I4 (q1 q hn3)) fun kv s5 ⟨y, H2, I5, ry, q5⟩ => wpAny_bind (thn (hv.run pins s5 σ H2 _ I5 q5) fun vv s6 ⟨z, H3, I6, rz, k, ey, eq6, ep6, q6⟩ => wpAny_bind (wpAny_standAt (wpAny_pure (evalPairs_nil ?_)))))
  subst ey
  have epq : p ≠ q := fun e => by
    rw [← e, upd_same] at hn3
    cases hn3
  obtain ⟨zq, hqS, vs1, rel1, ddq⟩ := dk_of I6.hok eq6
  cases rel1
  refine ⟨[(k, vv)], ⟨kV_is ry, rfl, True.intro⟩, ddq, fun h7 dd7 sb7 => wpAny_bind ?_⟩
  have rel7 : KV [(k, z)] (merged [] [(k, vv)]) := KV.merge (more := [(k, z)]) (.cons ⟨rfl, rz⟩ .nil) (.nil : KV [] [])
  have I7 : Inv X pins σ (upd H3 q (.dK [(k, z)])) { s6 with heap := h7, toks := s6.toks + 1 } := d_write I6 (by rw [eq6]; exact True.intro) sb7 (let ⟨u, _, _, hu, _⟩ := dd7; ⟨u, hu⟩) (dk_new (by show 1 ≤ sizeLine; rw [sizeLine_eq]; decide) hqS rel7 dd7)
  have ep7 : upd H3 q (.dK [(k, z)]) p = some (.dK ks) := by rw [upd_ne epq]; exact ep6
  obtain ⟨zp7, _, vs7, relp, ddp7⟩ := dk_of I7.hok ep7
  have lp : ks.length = vs7.length := relp.length
  refine wpAny_onRaise (wpAny_holding (merge_pairs no_ref epq hqS ddp7 dd7 (by show vs7.length + 1 ≤ sizeLine; omega) fun h8 dd8 _ sb8 => wpAny_pure ?_))
  have rel8 : KV (putK ks k z) (merged vs7 (merged [] [(k, vv)])) := KV.merge (more := [(k, z)]) rel7 relp
  have len8 := length_putK ks k z
  exact ⟨.ref p, _, d_write (t' := s6.toks + 1) I7 (by rw [ep7]; exact True.intro) sb8 (let ⟨u, _, _, hu, _⟩ := dd8; ⟨u, hu⟩) (dk_new (by omega) hpS rel8 dd8), rfl, q6⟩
end
end DsT

set_option Elab.async false
set_option linter.all false
set_option maxRecDepth 100000
set_option maxHeartbeats 4000000
/-! CA1: unused_name, candidate_numbers. -/
namespace G
open PySem PySem.Spec PyProof.Rows L2 NdefX StX DbB SsT DsT
theorem scUnused : FnScope ["names", "letter"] ["names"] (defScope sUnused) := ⟨rfl, rfl, rfl, by decide +kernel, rfl, by decide +kernel, by decide +kernel⟩
theorem scNums : FnScope ["ranges", "found", "low", "high", "number", "holding", "first", "last"] ["ranges"] (defScope sNums) := ⟨rfl, rfl, rfl, by decide +kernel, rfl, by decide +kernel, by decide +kernel⟩
theorem sqL_keepC {K : PySem.W.Frag} {H H' : Hp} {l : Addr} {xs : List V} (s : Same H H') : SqL K H l xs → SqL K H' l xs
  | .inl (.inl h) => .inl (.inl (s _ _ h))
  | .inl (.inr ⟨o, h⟩) => .inl (.inr ⟨o, s _ _ h⟩)
  | .inr h => .inr h
theorem sqT_keepC {K : PySem.W.Frag} {H H' : Hp} {l : Addr} {xs : List V} (s : Same H H') : SqT K H l xs → SqT K H' l xs
  | .inl (.inl h) => .inl (.inl (s _ _ h))
  | .inl (.inr ⟨o, h⟩) => .inl (.inr ⟨o, s _ _ h⟩)
  | .inr h => .inr h
/-! ### any of a tuple of truth values -/
section
variable {X : Cx}
def rAnyT (K : PySem.W.Frag) : List V → Hp → VK → Prop := fun vs H Q => ∃ (a : Addr) (bs : List Bool), vs = [V.ref a] ∧ SqT K H a (bs.map V.bl) ∧ Q (.bl (bs.any id)) H
theorem cr_anyT (hc : X.calm = true) : CallR X (.builtin "any") (rAnyT X.K) := by
  intro pins s σ H vs us Q I r h
  obtain ⟨a, bs, rfl, hs, q⟩ := h
  obtain ⟨its, rv, hl, _⟩ := I.tuple hs
  rw [Vals.ref1 r]
  have hb := rv.bls
  have ht : s.heap.IsTuple a its.toArray := hl
  have lt : a < s.heap.objs.size := by obtain ⟨_, e, _⟩ := ht; exact Heap.lt_size e
  refine call_any_walk (wpAny_pyIter_tuple ht ?_)
  refine ⟨_, _, _, _, _, _, _, rfl, Walks.tuple (A := X.A.in1) (I.ok.hd hc) _ a (Nat.ne_of_lt lt) its.toArray, ⟨⟨_, Heap.get?_push_size _ rfl, rfl, rfl⟩, ht.push _⟩, truth_bools hb, fun h' tk hk => ?_⟩
  refine ⟨.bl _, H, I.kept fun b o eo => hk b o (fun hmem => ?_) (Heap.get?_push_of_some _ eo), ?_, q⟩
  · rcases List.mem_cons.mp hmem with e1 | hmem
    · exact absurd (e1 ▸ Heap.lt_size eo) (Nat.lt_irrefl _)
    · cases hmem
  · show Value.bool _ = Value.bool _
    rw [← L2.any_range, hb, List.size_toArray, List.length_map]
end
/-! ### a letter that is none of the names -/
theorem nodup_len {α : Type} [DecidableEq α] : ∀ {l m : List α}, l.Nodup → (∀ x ∈ l, x ∈ m) → l.length ≤ m.length
  | [], _, _, _ => Nat.zero_le _
  | x :: l, m, nd, h => by
    obtain ⟨n1, n2⟩ := List.nodup_cons.mp nd
    have := nodup_len (l := l) (m := m.erase x) n2 fun y hy => (List.mem_erase_of_ne fun e => n1 (by rw [← e]; exact hy)).mpr (h y (List.mem_cons_of_mem _ hy))
    have m1 := h x List.mem_cons_self
    rw [List.length_erase_of_mem m1] at this
    have := List.length_pos_of_mem m1
    rw [List.length_cons]
    omega
theorem str_beqC (z y : Str) : (z == y) = decide (z = y) := by
  by_cases h : z = y
  · subst h
    rw [decide_eq_true rfl]
    exact beq_self_eq_true z
  · rw [decide_eq_false h]
    exact beq_eq_false_iff_ne.mpr h
theorem inV_strC (y : Str) : ∀ zs : List Str, inV (.str y) (zs.map V.str) = decide (y ∈ zs)
  | [] => rfl
  | z :: zs => by
    show ((z == y) || inV (.str y) (zs.map V.str)) = decide (y ∈ z :: zs)
    rw [inV_strC y zs, str_beqC]
    by_cases h : z = y
    · subst h
      rw [decide_eq_true rfl, decide_eq_true List.mem_cons_self]
      rfl
    · rw [decide_eq_false h, Bool.false_or]
      refine decide_eq_decide.mpr ⟨List.mem_cons_of_mem _, fun q => ?_⟩
      rcases List.mem_cons.mp q with e | q
      · exact (h e.symm).elim
      · exact q
theorem flat_strC : ∀ zs : List Str, (zs.map V.str).all flatV = true
  | [] => rfl
  | z :: zs => flat_strC zs
abbrev ltr (c : Nat) : Str := ⟨#[c]⟩
/-- a name that is none of these -/
def FreeOf (zs : List Str) (x : Str) : Prop := NameZ x ∧ x ∉ zs
/-- the letters that are none of these -/
def freeLs (zs : List Str) : List Str := ((cs abc).filter fun c => !decide (ltr c ∈ zs)).map ltr
/-- the least of them -/
def freeOf (zs : List Str) : Str := match freeLs zs with
  | [] => ltr 97
  | x :: xs => minS x xs
def spUnused (K : PySem.W.Frag) : Sp := fun vs H Q _ => ∃ (l : Addr) (zs : List Str), vs = [.ref l] ∧ SqL K H l (zs.map V.str) ∧ zs.length < 26 ∧ ∀ H', Same H H' → Q (.str (freeOf zs)) H'
theorem ltr_inj {c d : Nat} (h : ltr c = ltr d) : c = d := by
  injection h with h
  have := congrArg Array.toList h
  simpa using this
theorem some_free {zs : List Str} (h : zs.length < 26) : ((cs abc).filter fun c => !decide (ltr c ∈ zs)) ≠ [] := fun e => by
  have all : ∀ x ∈ (cs abc).map ltr, x ∈ zs := fun x hx => by
    obtain ⟨c, hc, rfl⟩ := List.mem_map.mp hx
    have := List.filter_eq_nil_iff.mp e c hc
    by_cases q : ltr c ∈ zs
    · exact q
    · rw [decide_eq_false q] at this
      exact (this rfl).elim
  have nd : ((cs abc).map ltr).Nodup := by
    have h0 : (cs abc).Nodup := by decide +kernel
    exact List.pairwise_map.mpr (h0.imp fun {a b} n e => n (ltr_inj e))
  have := nodup_len nd all
  rw [List.length_map] at this
  have l26 : (cs abc).length = 26 := by decide +kernel
  omega
theorem ltr_name {c : Nat} (h : c ∈ cs abc) : NameZ (ltr c) := by
  refine ⟨fun d hd => ?_, by show 1 ≤ 1; decide, by show 1 ≤ 8; decide⟩
  have : d = c := by
    have : d ∈ [c] := hd
    simpa using this
  rw [this]
  exact abc_low c h
theorem free_ofC {zs : List Str} (h : zs.length < 26) : FreeOf zs (freeOf zs) := by
  have all : ∀ y ∈ freeLs zs, FreeOf zs y := fun y hy => by
    obtain ⟨d, hd, rfl⟩ := List.mem_map.mp hy
    refine ⟨ltr_name (List.mem_filter.mp hd).1, fun z => ?_⟩
    have := (List.mem_filter.mp hd).2
    rw [decide_eq_true z] at this
    exact nomatch this
  unfold freeOf
  cases e : freeLs zs with
  | nil => exact (some_free h (List.map_eq_nil_iff.mp e)).elim
  | cons x xs =>
    rw [e] at all
    exact all _ (minS_mem x xs)
section
variable {P : Program} {w : World} {K : PySem.W.Frag} {mg : Str → Option Value} {base : Heap}
theorem ok_unused {f : Addr} {fd : FuncData} {t2 : Tok} (F : Fun K "unused_name" "unused_name" sUnused f fd) (gL : mg "LETTERS" = some (.str abc t2)) (mm : mg "min" = none) : FnOk P w K mg base CX0 1 f fd ["names"] (spUnused K) := by
  refine F.ok scUnused (fun vs H Q E h => ?_) (fun cdv A outer s H vs Q E hr h => ?_)
  · obtain ⟨l, zs, rfl, _⟩ := h
    rfl
  · obtain ⟨l, zs, rfl, hl, few, q⟩ := h
    have hu8 : (A.deeper (envOfC "unused_name" (defScope sUnused) s.heap.objs.size f cdv)).units + 8 < cLine := by have := hr.units; omega
    refine ⟨_, pss_one (ps_ret (pe_callB (cr_minS rfl hu8) (by rfl) mm (by decide +kernel) (pa_cons (pe_lc (own := [("letter", 1)]) (g := gName 1) (by rfl) scUnused.nd (pi_str (pe_glob (v := .str abc) rfl gL ⟨_, rfl⟩))
        (blkOk_by (own := [("letter", 1)]) (N := ["names", "letter"]) (sc := defScope sUnused) (by decide +kernel)) (fun _ _ _ _ _ => pg_name (i := 1) scUnused.nd rfl (.inl rfl)) (fun _ _ _ _ _ => pts_one (pt_cmpR (r := rIn K true) op_notIn_seq (pv 1) (pv 0) (by rfl)))
        (fun _ _ _ _ _ => pv 1)) pa_nil))), ?_⟩
    refine ⟨abc, rfl, fun D hD => ?_⟩
    refine lc_it walk_str (fun i H2 => Same H H2 ∧ H2 D = some (.lst ((((cs abc).take i).filter fun c => !decide (ltr c ∈ zs)).map fun c => V.str (ltr c)))) ?_ ?_ ?_ ?_
    · exact ⟨Same.new hD, upd_same⟩
    · exact fun _ _ _ _ => trivial
    · rintro i x H2 H3 hi ⟨s2, e2⟩ ⟨rfl, c, hc, rfl⟩
      have hc2 : (cs abc)[i]? = some c := by
        rw [← hc, ← Array.getElem?_toList]
      refine ⟨rfl, ?_⟩
      refine ⟨_, rfl, _, rfl, l, zs.map V.str, rfl, .inl (sqL_keepC s2 hl), rfl, flat_strC zs, _, rfl, ?_⟩
      rw [show (if true = true then !inV (V.str (ltr c)) (zs.map V.str) else inV (V.str (ltr c)) (zs.map V.str)) = !decide (ltr c ∈ zs) from by rw [if_pos rfl, inV_strC]]
      cases hc3 : decide (ltr c ∈ zs) with
      | true =>
        refine iteF ⟨s2, ?_⟩
        rw [take_snocK hc2, List.filter_append, List.filter_cons, hc3, if_neg (by simp), List.filter_nil, List.append_nil]
        exact e2
      | false =>
        refine iteT ⟨_, rfl, _, e2, ?_, fun a o e => ?_, ?_⟩
        · rw [List.length_map]
          have := List.length_filter_le (fun c => !decide (ltr c ∈ zs)) ((cs abc).take i)
          rw [List.length_take] at this
          have l26 : (cs abc).length = 26 := by decide +kernel
          exact small1000 (by omega)
        · rw [upd_ne (ne_of_none e hD)]
          exact s2 _ _ e
        · rw [upd_same, take_snocK hc2, List.filter_append, List.filter_cons, hc3, if_pos (by simp), List.filter_nil, List.map_append]
          rfl
    · rintro H2 ⟨s2, e2⟩
      rw [show (cs abc).take abc.cps.size = cs abc from List.take_of_length_le (Nat.le_of_eq (cs_len abc))] at e2
      have ne := some_free few
      cases hF : ((cs abc).filter fun c => !decide (ltr c ∈ zs)) with
      | nil => exact (ne hF).elim
      | cons c l2 =>
        rw [hF] at e2
        have ef : freeOf zs = minS (ltr c) (l2.map ltr) := by
          unfold freeOf freeLs
          rw [hF]
          rfl
        refine ⟨D, ltr c, l2.map ltr, rfl, .of (by rw [e2, List.map_cons, List.map_cons, List.map_map]; rfl), ?_⟩
        rw [← ef]
        exact q H2 s2
end
end G

set_option Elab.async false
set_option linter.all false
set_option maxRecDepth 100000
set_option maxHeartbeats 4000000
/-! CA2: candidate_numbers. -/
namespace G
open PySem PySem.Spec PyProof.Rows L2 NdefX StX DbB SsT DsT
/-- which of the ranges hold the number -/
def holdB (rs : List (Int × Int)) (n : Int) : List Bool := rs.map fun r => decide (r.1 ≤ n) && decide (n ≤ r.2)
abbrev NumE := List Bool × V
def hasP (acc : List NumE) (k : List Bool) : Bool := acc.any fun e => decide (e.1 = k)
/-- one more, unless its pattern is there or is of no range -/
def addNum (rs : List (Int × Int)) (acc : List NumE) (n : Int) : List NumE := if (holdB rs n).any id = true then (if hasP acc (holdB rs n) = true then acc else acc ++ [(holdB rs n, V.int n)]) else acc
def numsAcc (rs l : List (Int × Int)) : List NumE := l.foldl (fun acc r => addNum rs (addNum rs acc r.1) (r.2 + 1)) []
def numsOf (rs : List (Int × Int)) : List V := (numsAcc rs rs).map (·.2)
theorem addNum_len (rs : List (Int × Int)) (acc : List NumE) (n : Int) : (addNum rs acc n).length ≤ acc.length + 1 := by
  unfold addNum
  split
  · split
    · omega
    · rw [List.length_append]
      exact Nat.le_refl _
  · omega
theorem numsAcc_len (rs l : List (Int × Int)) : (numsAcc rs l).length ≤ 2 * l.length := by
  have : ∀ (l : List (Int × Int)) (acc : List NumE), (l.foldl (fun acc r => addNum rs (addNum rs acc r.1) (r.2 + 1)) acc).length ≤ acc.length + 2 * l.length := fun l => by
    induction l with
    | nil => exact fun _ => Nat.le_refl _
    | cons r l ih =>
      intro acc
      have h1 := ih (addNum rs (addNum rs acc r.1) (r.2 + 1))
      have h2 := addNum_len rs (addNum rs acc r.1) (r.2 + 1)
      have h3 := addNum_len rs acc r.1
      rw [List.foldl_cons, List.length_cons]
      omega
  have h := this l []
  rw [List.length_nil, Nat.zero_add] at h
  exact h
theorem numsAcc_snoc (rs l : List (Int × Int)) (r : Int × Int) : numsAcc rs (l ++ [r]) = addNum rs (addNum rs (numsAcc rs l) r.1) (r.2 + 1) := by
  unfold numsAcc
  rw [List.foldl_append]
  rfl
/-- ranges as tuples: a place, the two bounds -/
abbrev RngE := Addr × Int × Int
def RngAt (H : Hp) (rs : List RngE) : Prop := ∀ r ∈ rs, H r.1 = some (.tup [.int r.2.1, .int r.2.2])
theorem RngAt.same {H H' : Hp} {rs : List RngE} (h : RngAt H rs) (s : Same H H') : RngAt H' rs := fun r hr => s _ _ (h r hr)
abbrev rgs (rs : List RngE) : List (Int × Int) := rs.map (·.2)
/-- the dict of patterns at F -/
structure NumD (P : Program) (w : World) (H : Hp) (F : Addr) (acc : List NumE) (ks : List EB) : Prop where
  d : H F = some (dbO P w F ks)
  k : KsB H ks
  e : ks.map (fun e => (e.1, e.2.2)) = acc
theorem NumD.same {P : Program} {w : World} {H H' : Hp} {F : Addr} {acc : List NumE} {ks : List EB} (h : NumD P w H F acc ks) (s : Same H H') : NumD P w H' F acc ks := ⟨s _ _ h.d, h.k.same fun _ _ e => s _ _ e, h.e⟩
theorem NumD.has {P : Program} {w : World} {H : Hp} {F : Addr} {acc : List NumE} {ks : List EB} (h : NumD P w H F acc ks) (k : List Bool) : hasB ks k = hasP acc k := by
  unfold hasB hasP
  rw [← h.e, List.any_map]
  rfl
theorem NumD.len {P : Program} {w : World} {H : Hp} {F : Addr} {acc : List NumE} {ks : List EB} (h : NumD P w H F acc ks) : ks.length = acc.length := by
  rw [← h.e, List.length_map]
theorem NumD.vals {P : Program} {w : World} {H : Hp} {F : Addr} {acc : List NumE} {ks : List EB} (h : NumD P w H F acc ks) : ks.map (·.2.2) = acc.map (·.2) := by
  rw [← h.e, List.map_map]
  rfl
/-- stored anew -/
theorem NumD.put {P : Program} {w : World} {H : Hp} {F b : Addr} {acc : List NumE} {ks : List EB} {k : List Bool} {v : V} (h : NumD P w H F acc ks) (hb : H b = some (.tup (k.map V.bl))) :
    NumD P w (upd H F (dbO P w F (ks ++ [(k, b, v)]))) F (acc ++ [(k, v)]) (ks ++ [(k, b, v)]) := by
  have ne : ∀ a xs, H a = some (.tup xs) → upd H F (dbO P w F (ks ++ [(k, b, v)])) a = some (.tup xs) := fun a xs e => by
    rw [upd_ne fun z => ?_]
    · exact e
    · rw [z, h.d] at e
      exact nomatch e
  refine ⟨upd_same, fun e he => ?_, ?_⟩
  · rcases List.mem_append.mp he with q | q
    · exact ne _ _ (h.k e q)
    · rw [List.mem_singleton.mp q]
      exact ne _ _ hb
  · rw [List.map_append, h.e]
    rfl
def spNums (K : PySem.W.Frag) : Sp := fun vs H Q _ => ∃ (l : Addr) (rs : List RngE), vs = [.ref l] ∧ SqL K H l (rs.map fun r => V.ref r.1) ∧ RngAt H rs ∧ rs.length ≤ 100 ∧
  ∀ p H', H p = none → Same H H' → H' p = some (.lst (numsOf (rgs rs))) → Q (.ref p) H'
theorem hold_snoc {rs : List RngE} {i : Nat} {r : RngE} (h : rs[i]? = some r) (n : Int) : (holdB (rgs (rs.take (i + 1))) n).map V.bl = (holdB (rgs (rs.take i)) n).map V.bl ++ [V.bl (decide (r.2.1 ≤ n) && decide (n ≤ r.2.2))] := by
  rw [take_snocK h]
  unfold holdB rgs
  rw [List.map_append, List.map_append, List.map_append]
  rfl
theorem same_upd {H H' : Hp} {F : Addr} {o : HO} (hF : H F = none) (s : Same H H') : Same H (upd H' F o) := fun a u e => (upd_ne (ne_of_none e hF)).trans (s a u e)
section
variable {P : Program} {w : World} {K : PySem.W.Frag} {mg : Str → Option Value} {base : Heap}
theorem ok_nums {f : Addr} {fd : FuncData} (F : Fun K "candidate_numbers" "candidate_numbers" sNums f fd) (mt : mg "tuple" = none) (ma : mg "any" = none) (mL : mg "list" = none) : FnOk P w K mg base CX0 1 f fd ["ranges"] (spNums K) := by
  refine F.ok scNums (fun vs H Q E h => ?_) (fun cdv A outer s H vs Q E hr h => ?_)
  · obtain ⟨l, rs, rfl, _⟩ := h
    rfl
  · obtain ⟨l, rs, rfl, hl, hrs, few, q⟩ := h
    have hu17 : (A.deeper (envOfC "candidate_numbers" (defScope sNums) s.heap.objs.size f cdv)).units + 17 < cLine := by have := hr.units; omega
    refine ⟨_, pss_cons (ps_set (i := 1) scNums.nd rfl (.inl rfl) pe_dnewB)
      (pss_cons (ps_for PassesOwn.never rfl (pi_list (pv 0)) (pg_tup rfl (pgs_cons (pg_name (i := 2) scNums.nd rfl (.inl rfl)) (pgs_cons (pg_name (i := 3) scNums.nd rfl (.inl rfl)) pgs_nil)))
        (pss_one (ps_for PassesOwn.never rfl (pi_tup (pe_tup (pa_cons (pv 2) (pa_cons (pe_op op_add (pv 3) pe_int) pa_nil)))) (pg_name (i := 4) scNums.nd rfl (.inr rfl))
          (pss_cons (ps_set (i := 5) scNums.nd rfl (.inl rfl) (pe_callTy call_tuple_of (by rfl) mt (by decide +kernel) (pa_cons (by exact pe_lc (own := [("first", 6), ("last", 7)]) (g := gTup K 2 (gCons (gName 6) (gCons (gName 7) gNil))) (tt := tYes) (by rfl) scNums.nd (pi_list (pv 0)) (blkOk_by (own := [("first", 6), ("last", 7)]) (N := ["ranges", "found", "low", "high", "number", "holding", "first", "last"]) (sc := defScope sNums) (by decide +kernel)) (fun _ _ _ _ _ => pg_tup (by rfl) (pgs_cons (pg_name (i := 6) scNums.nd rfl (.inl rfl)) (pgs_cons (pg_name (i := 7) scNums.nd rfl (.inl rfl)) pgs_nil))) (fun _ _ _ _ _ => pts_nil) (fun _ _ _ _ _ => pe_chain op_le op_le (pv 6) (pv 4) (pv 7))) pa_nil)))
          (pss_one (ps_if (pt_val (pe_callB (cr_anyT rfl) (by rfl) ma (by decide +kernel) (pa_cons (pv 5) pa_nil)))
            (pss_one (ps_expr (pe_setdB hu17 (pv 1) (pv 5) (pv 4) ⟨by rfl, by rfl, by rfl, by rfl⟩))) pss_nil))))))
      (pss_one (ps_ret (pe_valsB rfl (pv 1) (by rfl) mL (by decide +kernel))))), ?_⟩
    intro D hD
    have sD := Same.new (o := dbO P w D []) hD
    refine ⟨_, rfl, l, rfl, ⟨_, sqL_keepC sD hl⟩, ?_⟩
    refine for_list (xs := rs.map fun r => V.ref r.1) (fun i σ H2 => Same H H2 ∧ (∃ ks, NumD P w H2 D (numsAcc (rgs rs) (rgs (rs.take i))) ks) ∧ ∃ x2 x3 x4 x5 : Option V, σ = [some (.ref l), some (.ref D), x2, x3, x4, x5, none, none]) ?_ ?_ ?_ ?_
    · exact ⟨sD, ⟨[], upd_same, (fun e he => nomatch he), rfl⟩, _, _, _, _, rfl⟩
    · exact fun i σ H2 _ z => sqL_keepC z.1 hl
    · rintro i x σ H2 hx ⟨s2, ⟨ks, nd⟩, x2, x3, x4, x5, rfl⟩
      rw [List.getElem?_map] at hx
      obtain ⟨r, hr1, rfl⟩ := Option.map_eq_some_iff.mp hx
      have er := (hrs.same s2) r (List.mem_of_getElem? hr1)
      have li : i < rs.length := (List.getElem?_eq_some_iff.mp hr1).1
      refine ⟨r.1, _, rfl, .of er, rfl, ?_⟩
      refine ⟨_, _, rfl, _, _, rfl, rfl, ?_⟩
      refine ⟨_, rfl, _, rfl, _, _, rfl, rfl, (by show 2 ≤ sizeLine; rw [sizeLine_eq]; decide), fun T hT => ?_⟩
      have sT := Same.new (o := .tup [.int r.2.1, .int (r.2.2 + 1)]) hT
      refine ⟨T, rfl, ⟨_, .of upd_same⟩, ?_⟩
      refine for_tup (xs := [.int r.2.1, .int (r.2.2 + 1)]) (fun j σ H3 => Same H H3 ∧ H3 T = some (.tup [.int r.2.1, .int (r.2.2 + 1)]) ∧ (∃ ks, NumD P w H3 D (([r.2.1, r.2.2 + 1].take j).foldl (addNum (rgs rs)) (numsAcc (rgs rs) (rgs (rs.take i)))) ks) ∧
        ∃ x4 x5 : Option V, σ = [some (.ref l), some (.ref D), some (.int r.2.1), some (.int r.2.2), x4, x5, none, none]) ?_ ?_ ?_ ?_
      · exact ⟨s2.trans sT, upd_same, ⟨ks, nd.same sT⟩, _, _, rfl⟩
      · exact fun j σ H3 _ z => .of z.2.1
      · rintro j y σ H3 hy ⟨s3, eT, ⟨ks3, nd3⟩, y4, y5, rfl⟩
        have hj : ∃ n : Int, y = .int n ∧ [r.2.1, r.2.2 + 1][j]? = some n := by
          match j, hy with
          | 0, hy => exact ⟨_, (Option.some.inj hy).symm, rfl⟩
          | 1, hy => exact ⟨_, (Option.some.inj hy).symm, rfl⟩
        obtain ⟨n, rfl, hn⟩ := hj
        have e2 : ([r.2.1, r.2.2 + 1].take (j + 1)).foldl (addNum (rgs rs)) (numsAcc (rgs rs) (rgs (rs.take i))) = addNum (rgs rs) (([r.2.1, r.2.2 + 1].take j).foldl (addNum (rgs rs)) (numsAcc (rgs rs) (rgs (rs.take i)))) n := by
          rw [take_snocK hn, List.foldl_append]
          rfl
        rw [e2]
        have lacc : (([r.2.1, r.2.2 + 1].take j).foldl (addNum (rgs rs)) (numsAcc (rgs rs) (rgs (rs.take i)))).length < 1000 := by
          have h1 := numsAcc_len (rgs rs) (rgs (rs.take i))
          have h2 : (rgs (rs.take i)).length = i := by
            rw [List.length_map, List.length_take]
            omega
          have h3 : ∀ (ns : List Int) (acc : List NumE), (ns.foldl (addNum (rgs rs)) acc).length ≤ acc.length + ns.length := fun ns => by
            induction ns with
            | nil => exact fun _ => Nat.le_refl _
            | cons m ns ih =>
              intro acc
              have := ih (addNum (rgs rs) acc m)
              have := addNum_len (rgs rs) acc m
              rw [List.foldl_cons, List.length_cons]
              omega
          have h4 := h3 ([r.2.1, r.2.2 + 1].take j) (numsAcc (rgs rs) (rgs (rs.take i)))
          have h5 : ([r.2.1, r.2.2 + 1].take j).length ≤ 2 := by
            rw [List.length_take]
            exact Nat.min_le_right _ _
          omega
        generalize ([r.2.1, r.2.2 + 1].take j).foldl (addNum (rgs rs)) (numsAcc (rgs rs) (rgs (rs.take i))) = acc at nd3 lacc ⊢
        refine ⟨_, rfl, l, rfl, ⟨_, sqL_keepC s3 hl⟩, fun M hM => ?_⟩
        refine lc_list (xs := rs.map fun r => V.ref r.1) (fun m H4 => Same H3 H4 ∧ H4 M = some (.lst ((holdB (rgs (rs.take m)) n).map V.bl))) ?_ ?_ ?_ ?_
        · exact ⟨Same.new hM, upd_same⟩
        · exact fun m H4 _ z => sqL_keepC (s3.trans z.1) hl
        · rintro m x H4 hx4 ⟨s4, e4⟩
          rw [List.getElem?_map] at hx4
          obtain ⟨r4, hr4, rfl⟩ := Option.map_eq_some_iff.mp hx4
          have er4 := (hrs.same (s3.trans s4)) r4 (List.mem_of_getElem? hr4)
          have lm : m < rs.length := (List.getElem?_eq_some_iff.mp hr4).1
          refine ⟨r4.1, _, rfl, .of er4, rfl, ?_⟩
          refine ⟨_, _, rfl, _, _, rfl, rfl, rfl, ?_⟩
          unfold tYes
          dsimp only
          rw [if_pos rfl]
          have fin : ∀ b : Bool, b = (decide (r4.2.1 ≤ n) && decide (n ≤ r4.2.2)) → ∃ acc, H4 M = some (.lst acc) ∧ acc.length < sizeLine ∧ Same H3 (upd H4 M (.lst (acc ++ [V.bl b]))) ∧ upd H4 M (.lst (acc ++ [V.bl b])) M = some (.lst ((holdB (rgs (rs.take (m + 1))) n).map V.bl)) := fun b eb => by
            refine ⟨_, e4, ?_, same_upd hM s4, ?_⟩
            · rw [List.length_map]
              unfold holdB
              rw [List.length_map, List.length_map, List.length_take]
              exact small1000 (by omega)
            · rw [upd_same, hold_snoc hr4, eb]
          refine ⟨_, rfl, _, rfl, _, _, rfl, rfl, _, rfl, ?_⟩
          cases e : decide (r4.2.1 ≤ n) with
          | false =>
            refine iteF (fin false ?_)
            rw [e]
            rfl
          | true =>
            refine iteT ⟨_, rfl, _, _, rfl, rfl, fin _ ?_⟩
            rw [e]
            rfl
        · rintro H4 ⟨s4, e4⟩
          rw [List.length_map, List.take_length] at e4
          refine ⟨M, _, rfl, .inl ⟨.of e4, fun T2 hT2 => ?_⟩⟩
          have s5 : Same H3 (upd H4 T2 (.tup ((holdB (rgs rs) n).map V.bl))) := s4.trans (Same.new hT2)
          have nd5 := nd3.same s5
          refine ⟨_, rfl, T2, holdB (rgs rs) n, rfl, .of upd_same, _, rfl, ?_⟩
          have hFD : H D = none := hD
          have sH5 : Same H (upd H4 T2 (.tup ((holdB (rgs rs) n).map V.bl))) := s3.trans s5
          cases ea : (holdB (rgs rs) n).any id with
          | false =>
            refine iteF ⟨sH5, s5 _ _ eT, ⟨ks3, ?_⟩, _, _, rfl⟩
            unfold addNum
            rw [ea]
            exact nd5
          | true =>
            refine iteT ?_
            have hl3 : ks3.length < sizeLine := by
              rw [nd3.len]
              exact small1000 (by omega)
            refine ⟨_, rfl, D, rfl, ⟨_, nd5.d⟩, _, rfl, _, rfl, ks3, holdB (rgs rs) n, T2, nd5.d, rfl, nd5.k, upd_same, hl3, fun hh v => ?_, fun hn2 => ?_⟩
            · refine ⟨sH5, s5 _ _ eT, ⟨ks3, ?_⟩, _, _, rfl⟩
              rw [nd5.has] at hh
              unfold addNum
              rw [ea, if_pos rfl, if_pos hh]
              exact nd5
            · rw [nd5.has] at hn2
              refine ⟨same_upd hFD sH5, ?_, ⟨ks3 ++ [(holdB (rgs rs) n, T2, V.int n)], ?_⟩, _, _, rfl⟩
              · rw [upd_ne fun z => ?_]
                · exact s5 _ _ eT
                · have := s5 _ _ eT
                  rw [z, nd5.d] at this
                  exact nomatch this
              · unfold addNum
                rw [ea, if_pos rfl, hn2, if_neg Bool.false_ne_true]
                exact nd5.put upd_same
      · rintro σ H3 ⟨s3, eT, ⟨ks3, nd3⟩, y4, y5, rfl⟩
        refine ⟨s3, ⟨ks3, ?_⟩, _, _, _, _, rfl⟩
        rw [take_snocK hr1]
        unfold rgs
        rw [List.map_append]
        show NumD P w H3 D (numsAcc _ (_ ++ [r.2])) ks3
        rw [numsAcc_snoc]
        exact nd3
    · rintro σ H2 ⟨s2, ⟨ks, nd⟩, x2, x3, x4, x5, rfl⟩
      rw [List.length_map, List.take_length] at nd
      refine ⟨_, rfl, D, ks, rfl, nd.d, fun p hp => q p _ (s2.free hp) (s2.trans (Same.new hp)) ?_⟩
      rw [upd_same, nd.vals]
      rfl
end
end G

set_option Elab.async false
set_option linter.all false
set_option maxRecDepth 100000
set_option maxHeartbeats 1000000
/-! LC2 (of no law): a comprehension with two fors, over walks. -/
namespace Lc2
open PySem PySem.Spec PyProof.Rows L2
section
variable {J : It} {n : Nat} {G : Hp → Prop} {Y : Nat → Hp → V → Hp → Prop}
/-- the inner for: the outer's next state is Nx -/
theorem lc2_in (w : Walk J n G Y) {g1 : TG} {tt1 : TT} {te : TE} {vs1 : List Nat} {σ2 : L2.St} {H4 : Hp} {D : Addr} {Nx : Hp → Prop} (Pv : Nat → Hp → Prop) (h0 : Pv 0 H4) (hG : ∀ i H, i ≤ n → Pv i H → G H)
    (hs : ∀ i x H H', i < n → Pv i H → Y i H x H' → g1 x (wipe σ2 vs1) H' fun σ3 H5 => wipe σ3 vs1 = wipe σ2 vs1 ∧ tt1 σ3 H5 fun b H6 =>
      if b = true then te σ3 H6 fun y H7 => ∃ acc, H7 D = some (.lst acc) ∧ acc.length < sizeLine ∧ Pv (i + 1) (upd H7 D (.lst (acc ++ [y]))) else Pv (i + 1) H6) (hd : ∀ H, Pv n H → Nx H) :
    ∃ W1 : Nat → Nat → Hp → Prop, (∃ m, W1 0 m H4) ∧ ∀ j k H, W1 j k H →
      (J.stop j H ∧ Nx H) ∨ (J.go j H ∧ ∃ Nx1 : Hp → Prop, (∀ H', Nx1 H' → ∃ k', k' < k ∧ W1 (j + 1) k' H') ∧ ∀ x H', J.yld j H x H' → g1 x (wipe σ2 vs1) H' fun σ3 H5 => wipe σ3 vs1 = wipe σ2 vs1 ∧ tt1 σ3 H5 fun b H6 =>
        if b = true then te σ3 H6 fun y H7 => ∃ acc, H7 D = some (.lst acc) ∧ acc.length < sizeLine ∧ Nx1 (upd H7 D (.lst (acc ++ [y]))) else Nx1 H6) := by
  refine ⟨fun i m H => m = n - i ∧ i ≤ n ∧ Pv i H, ⟨n, by simp, Nat.zero_le _, h0⟩, ?_⟩
  rintro i m H ⟨rfl, hi, p⟩
  have q := hG i H hi p
  by_cases hlt : i < n
  · exact .inr ⟨w.goes i H hlt q, Pv (i + 1), fun H' p' => ⟨n - (i + 1), by omega, rfl, hlt, p'⟩, fun x H' y => hs i x H H' hlt p (w.yields i H x H' hlt q y)⟩
  · have e : i = n := by omega
    subst e
    exact .inl ⟨w.stops H q, hd H p⟩
/-- the outer for: B i Nx is what its block asks, Nx what it comes to -/
theorem lc2_out (w : Walk J n G Y) {g : TG} {blk : (Hp → Prop) → L2.St → Hp → Prop} {vs : List Nat} {σ : L2.St} {H1 : Hp} {Qd : Hp → Prop} (Pv : Nat → Hp → Prop) (h0 : Pv 0 H1) (hG : ∀ i H, i ≤ n → Pv i H → G H)
    (hs : ∀ i x H H', i < n → Pv i H → Y i H x H' → g x (wipe σ vs) H' fun σ2 H2 => blk (Pv (i + 1)) σ2 H2) (hd : ∀ H, Pv n H → Qd H) :
    ∃ W : Nat → Nat → Hp → Prop, (∃ m, W 0 m H1) ∧ ∀ i m H, W i m H →
      (J.stop i H ∧ Qd H) ∨ (J.go i H ∧ ∃ Nx : Hp → Prop, (∀ H', Nx H' → ∃ m', m' < m ∧ W (i + 1) m' H') ∧ ∀ x H', J.yld i H x H' → g x (wipe σ vs) H' fun σ2 H2 => blk Nx σ2 H2) := by
  refine ⟨fun i m H => m = n - i ∧ i ≤ n ∧ Pv i H, ⟨n, by simp, Nat.zero_le _, h0⟩, ?_⟩
  rintro i m H ⟨rfl, hi, p⟩
  have q := hG i H hi p
  by_cases hlt : i < n
  · exact .inr ⟨w.goes i H hlt q, Pv (i + 1), fun H' p' => ⟨n - (i + 1), by omega, rfl, hlt, p'⟩, fun x H' y => hs i x H H' hlt p (w.yields i H x H' hlt q y)⟩
  · have e : i = n := by omega
    subst e
    exact .inl ⟨w.stops H q, hd H p⟩
end
end Lc2

set_option Elab.async false
set_option linter.all false
set_option maxRecDepth 100000
set_option maxHeartbeats 4000000
/-! CA3: candidate_keys. -/
namespace G
open PySem PySem.Spec PyProof.Rows L2 NdefX StX DbB SsT DsT Lc2
theorem scKeys : FnScope ["groups", "name", "names", "found", "group"] ["groups"] (defScope sKeys) := ⟨rfl, rfl, rfl, by decide +kernel, rfl, by decide +kernel, by decide +kernel⟩
/-- groups as tuples: a place, its names -/
abbrev GrpE := Addr × List Str
def GrpAt (H : Hp) (gs : List GrpE) : Prop := ∀ g ∈ gs, H g.1 = some (.tup (g.2.map V.str))
theorem GrpAt.same {H H' : Hp} {gs : List GrpE} (h : GrpAt H gs) (s : Same H H') : GrpAt H' gs := fun g hg => s _ _ (h g hg)
def allNs (gs : List (List Str)) : List Str := gs.flatten
def holdK (gs : List (List Str)) (z : Str) : List Bool := gs.map fun g => decide (z ∈ g)
def addKey (gs : List (List Str)) (acc : List NumE) (z : Str) : List NumE := if hasP acc (holdK gs z) = true then acc else acc ++ [(holdK gs z, V.str z)]
def keysAcc (gs : List (List Str)) (zs : List Str) : List NumE := zs.foldl (addKey gs) []
def keysOf (gs : List (List Str)) (x : Str) : List V := (keysAcc gs (allNs gs ++ [x])).map (·.2)
theorem addKey_len (gs : List (List Str)) (acc : List NumE) (z : Str) : (addKey gs acc z).length ≤ acc.length + 1 := by
  unfold addKey
  split
  · omega
  · rw [List.length_append]
    exact Nat.le_refl _
theorem keysAcc_len (gs : List (List Str)) (zs : List Str) : (keysAcc gs zs).length ≤ zs.length := by
  have : ∀ (zs : List Str) (acc : List NumE), (zs.foldl (addKey gs) acc).length ≤ acc.length + zs.length := fun zs => by
    induction zs with
    | nil => exact fun _ => Nat.le_refl _
    | cons z zs ih =>
      intro acc
      have h1 := ih (addKey gs acc z)
      have h2 := addKey_len gs acc z
      rw [List.foldl_cons, List.length_cons]
      omega
  have h := this zs []
  rw [List.length_nil, Nat.zero_add] at h
  exact h
theorem keysAcc_snoc (gs : List (List Str)) (zs : List Str) (z : Str) : keysAcc gs (zs ++ [z]) = addKey gs (keysAcc gs zs) z := by
  unfold keysAcc
  rw [List.foldl_append]
  rfl
abbrev nms (gs : List GrpE) : List (List Str) := gs.map (·.2)
def spKeys (K : PySem.W.Frag) : Sp := fun vs H Q _ => ∃ (l : Addr) (gs : List GrpE), vs = [.ref l] ∧ SqL K H l (gs.map fun g => V.ref g.1) ∧ GrpAt H gs ∧ gs.length ≤ 100 ∧ (allNs (nms gs)).length < 26 ∧
  ∀ p H', H p = none → Same H H' → H' p = some (.lst (keysOf (nms gs) (freeOf (allNs (nms gs))))) → Q (.ref p) H'
theorem nms_snoc {gs : List GrpE} {i : Nat} {g : GrpE} (h : gs[i]? = some g) : nms (gs.take (i + 1)) = nms (gs.take i) ++ [g.2] := by
  rw [take_snocK h]
  unfold nms
  rw [List.map_append]
  rfl
section
variable {P : Program} {w : World} {K : PySem.W.Frag} {mg : Str → Option Value} {base : Heap}
theorem ok_keys {f fU : Addr} {fd fdU : FuncData} (F : Fun K "candidate_keys" "candidate_keys" sKeys f fd) (GU : FnOk P w K mg base CX0 1 fU fdU ["names"] (spUnused K)) (gU : mg "unused_name" = some (.ref fU)) (kU : PySem.W.keepIn K (.ref fU) = true) (bU : Binds K fdU ["names"] [])
    (mt : mg "tuple" = none) (mL : mg "list" = none) : FnOk P w K mg base CX0 2 f fd ["groups"] (spKeys K) := by
  refine F.ok scKeys (fun vs H Q E h => ?_) (fun cdv A outer s H vs Q E hr h => ?_)
  · obtain ⟨l, gs, rfl, _⟩ := h
    rfl
  · obtain ⟨l, gs, rfl, hl, hg, few, few2, q⟩ := h
    have hu17 : (A.deeper (envOfC "candidate_keys" (defScope sKeys) s.heap.objs.size f cdv)).units + 17 < cLine := by have := hr.units; omega
    refine ⟨_, pss_cons (ps_setLc2 (i := 2) (own := [("group", 4), ("name", 1)]) (vs1 := [1]) (wi1 := iTup K (tVar 4)) (g := gName 4) (g1 := gName 1) (tt := tYes) (tt1 := tYes) (by rfl) scKeys.nd rfl rfl (sw_true rfl rfl rfl (by decide +kernel)) (pi_list (pv 0))
        (blkOk_by (own := [("group", 4), ("name", 1)]) (N := ["groups", "name", "names", "found", "group"]) (sc := defScope sKeys) (by decide +kernel)) (by decide)
        (fun _ _ _ _ _ => pg_name (i := 4) scKeys.nd rfl (.inl rfl)) (fun _ _ _ _ _ => pts_nil) (fun _ _ _ _ _ => pi_tup (pv 4)) (fun _ _ _ _ _ => pg_name (i := 1) scKeys.nd rfl (.inl rfl)) (fun _ _ _ _ _ => pts_nil) (fun _ _ _ _ _ => pv 1))
      (pss_cons (ps_set (i := 3) scKeys.nd rfl (.inl rfl) pe_dnewB)
      (pss_cons (ps_for PassesOwn.never rfl (pi_list (pe_lst (StX.pa_star (pv 2) (pa_cons (pe_call GU hr rfl gU kU bU .nil pass0 (pa_cons (pv 2) pa_nil)) pa_nil)))) (pg_name (i := 1) scKeys.nd rfl (.inr rfl))
        (pss_one (ps_expr (pe_setdB hu17 (pv 3) (pe_callTy call_tuple_of (by rfl) mt (by decide +kernel) (pa_cons (by exact pe_lc (own := [("group", 4)]) (g := gName 4) (tt := tYes) (by rfl) scKeys.nd (pi_list (pv 0)) (blkOk_by (own := [("group", 4)]) (N := ["groups", "name", "names", "found", "group"]) (sc := defScope sKeys) (by decide +kernel)) (fun _ _ _ _ _ => pg_name (i := 4) scKeys.nd rfl (.inl rfl)) (fun _ _ _ _ _ => pts_nil) (fun _ _ _ _ _ => pe_cmpR (r := rIn K false) op_in_seq (pv 1) (pv 4) (by rfl))) pa_nil)) (pv 1) ⟨by rfl, by rfl, by rfl, by rfl⟩))))
      (pss_one (ps_ret (pe_valsB rfl (pv 3) (by rfl) mL (by decide +kernel)))))), ?_⟩
    refine ⟨_, rfl, l, rfl, ⟨_, hl⟩, fun D hD => ?_⟩
    refine lc2_out (w := walk_list (K := K) (a := l) (xs := gs.map fun g => V.ref g.1)) (fun i H2 => Same H H2 ∧ H2 D = some (.lst ((allNs (nms (gs.take i))).map V.str))) ?_ ?_ ?_ ?_
    · exact ⟨Same.new hD, upd_same⟩
    · exact fun i H2 _ z => sqL_keepC z.1 hl
    · rintro i x H2 H2' hi ⟨s2, e2⟩ ⟨rfl, hx⟩
      rw [List.getElem?_map] at hx
      obtain ⟨g, hgi, rfl⟩ := Option.map_eq_some_iff.mp hx
      have eg := (hg.same s2) g (List.mem_of_getElem? hgi)
      refine ⟨rfl, ?_⟩
      unfold tYes
      dsimp only
      rw [if_pos rfl]
      refine ⟨_, rfl, g.1, rfl, ⟨_, .of eg⟩, ?_⟩
      refine lc2_in (g1 := gName 1) (tt1 := tYes) (te := tVar 1) (w := walk_tup (K := K) (a := g.1) (xs := g.2.map V.str)) (fun j H3 => Same H H3 ∧ H3 D = some (.lst ((allNs (nms (gs.take i)) ++ g.2.take j).map V.str))) ?_ ?_ ?_ ?_
      · exact ⟨s2, by rw [List.take_zero, List.append_nil]; exact e2⟩
      · exact fun j H3 _ z => .of ((hg.same z.1) g (List.mem_of_getElem? hgi))
      · rintro j x H3 H3' hj ⟨s3, e3⟩ ⟨rfl, hx⟩
        rw [List.getElem?_map] at hx
        obtain ⟨z, hz, rfl⟩ := Option.map_eq_some_iff.mp hx
        refine ⟨rfl, ?_⟩
        unfold tYes
        dsimp only
        rw [if_pos rfl]
        refine ⟨_, rfl, _, e3, ?_, same_upd hD s3, ?_⟩
        · have h1 : allNs (nms gs) = allNs (nms (gs.take i)) ++ (g.2 ++ allNs (nms (gs.drop (i + 1)))) := by
            have : gs = gs.take i ++ g :: gs.drop (i + 1) := by
              have := List.take_append_drop i gs
              rw [List.drop_eq_getElem_cons (List.getElem?_eq_some_iff.mp hgi).1, (List.getElem?_eq_some_iff.mp hgi).2] at this
              exact this.symm
            conv => lhs; rw [this]
            unfold allNs nms
            rw [List.map_append, List.flatten_append, List.map_cons, List.flatten_cons]
          rw [h1] at few2
          rw [List.length_append, List.length_append] at few2
          rw [List.length_map, List.length_append, List.length_take]
          exact small1000 (by omega)
        · rw [upd_same, take_snocK hz, ← List.append_assoc, List.map_append (l₁ := allNs (nms (gs.take i)) ++ g.2.take j)]
          rfl
      · rintro H3 ⟨s3, e3⟩
        refine ⟨s3, ?_⟩
        rw [List.length_map, List.take_length] at e3
        rw [nms_snoc hgi]
        unfold allNs at e3 ⊢
        rw [List.flatten_append]
        simpa using e3
    · rintro H2 ⟨s2, e2⟩
      rw [List.length_map, List.take_length] at e2
      intro Fd hFd
      have sF := Same.new (o := dbO P w Fd []) hFd
      have eD := sF _ _ e2
      refine ⟨_, rfl, D, _, rfl, .inr (.of eD), _, rfl, D, allNs (nms gs), rfl, .of eD, few2, fun H3 s3 => ?_⟩
      generalize freeOf (allNs (nms gs)) = x at q ⊢
      generalize hZ : allNs (nms gs) ++ [x] = zs
      have hzl : zs.length ≤ 26 := by
        rw [← hZ, List.length_append]
        exact few2
      refine ⟨by rw [List.length_append, List.length_map]; exact small1000 (by omega), fun L hL => ?_⟩
      have sL := Same.new (o := .lst ((allNs (nms gs)).map V.str ++ [V.str x])) hL
      have eL : upd H3 L (.lst ((allNs (nms gs)).map V.str ++ [V.str x])) L = some (.lst (zs.map V.str)) := by
        rw [upd_same, ← hZ, List.map_append]
        rfl
      have s03 : Same H (upd H3 L (.lst ((allNs (nms gs)).map V.str ++ [V.str x]))) := s2.trans (sF.trans (s3.trans sL))
      have hF0 : H Fd = none := s2.free hFd
      have nd0 : NumD P w (upd H3 L (.lst ((allNs (nms gs)).map V.str ++ [V.str x]))) Fd [] [] := ⟨sL _ _ (s3 _ _ upd_same), (fun e he => nomatch he), rfl⟩
      generalize upd H3 L (.lst ((allNs (nms gs)).map V.str ++ [V.str x])) = H5 at eL s03 nd0 ⊢
      refine ⟨L, rfl, ⟨_, .of eL⟩, ?_⟩
      refine for_list (xs := zs.map V.str) (fun i σ H6 => Same H H6 ∧ H6 L = some (.lst (zs.map V.str)) ∧ (∃ ks, NumD P w H6 Fd (keysAcc (nms gs) (zs.take i)) ks) ∧ ∃ x1 : Option V, σ = [some (.ref l), x1, some (.ref D), some (.ref Fd), none]) ?_ ?_ ?_ ?_
      · exact ⟨s03, eL, ⟨[], nd0⟩, _, rfl⟩
      · exact fun i σ H6 _ z => .of z.2.1
      · rintro i y σ H6 hy ⟨s6, e6, ⟨ks, nd⟩, x1, rfl⟩
        rw [List.getElem?_map] at hy
        obtain ⟨z, hz, rfl⟩ := Option.map_eq_some_iff.mp hy
        have li : i < zs.length := (List.getElem?_eq_some_iff.mp hz).1
        refine ⟨_, rfl, Fd, rfl, ⟨_, nd.d⟩, _, rfl, l, rfl, ⟨_, sqL_keepC s6 hl⟩, fun M hM => ?_⟩
        refine lc_list (xs := gs.map fun g => V.ref g.1) (fun m H7 => Same H6 H7 ∧ H7 M = some (.lst ((holdK (nms (gs.take m)) z).map V.bl))) ?_ ?_ ?_ ?_
        · exact ⟨Same.new hM, upd_same⟩
        · exact fun m H7 _ z => sqL_keepC (s6.trans z.1) hl
        · rintro m y H7 hy7 ⟨s7, e7⟩
          rw [List.getElem?_map] at hy7
          obtain ⟨g, hgm, rfl⟩ := Option.map_eq_some_iff.mp hy7
          have eg := (hg.same (s6.trans s7)) g (List.mem_of_getElem? hgm)
          have lm : m < gs.length := (List.getElem?_eq_some_iff.mp hgm).1
          refine ⟨rfl, ?_⟩
          unfold tYes
          dsimp only
          rw [if_pos rfl]
          refine ⟨_, rfl, _, rfl, g.1, _, rfl, .inr (.of eg), rfl, flat_strC _, ?_⟩
          rw [show (if false = true then !inV (V.str z) (g.2.map V.str) else inV (V.str z) (g.2.map V.str)) = decide (z ∈ g.2) from by rw [if_neg Bool.false_ne_true, inV_strC]]
          refine ⟨_, e7, ?_, same_upd hM s7, ?_⟩
          · rw [List.length_map]
            unfold holdK
            rw [List.length_map, List.length_map, List.length_take]
            exact small1000 (by omega)
          · rw [upd_same, nms_snoc hgm]
            unfold holdK
            rw [List.map_append, List.map_append]
            rfl
        · rintro H7 ⟨s7, e7⟩
          rw [List.length_map, List.take_length] at e7
          refine ⟨M, _, rfl, .inl ⟨.of e7, fun T hT => ?_⟩⟩
          have s8 : Same H6 (upd H7 T (.tup ((holdK (nms gs) z).map V.bl))) := s7.trans (Same.new hT)
          have nd8 := nd.same s8
          have s08 := s6.trans s8
          have hlk : ks.length < sizeLine := by
            rw [nd.len]
            have := keysAcc_len (nms gs) (zs.take i)
            rw [List.length_take] at this
            exact small1000 (by omega)
          refine ⟨_, rfl, ks, holdK (nms gs) z, T, nd8.d, rfl, nd8.k, upd_same, hlk, fun hh v => ?_, fun hn => ?_⟩
          · refine ⟨s08, s8 _ _ e6, ⟨ks, ?_⟩, _, rfl⟩
            rw [nd8.has] at hh
            rw [take_snocK hz, keysAcc_snoc]
            unfold addKey
            rw [if_pos hh]
            exact nd8
          · rw [nd8.has] at hn
            refine ⟨same_upd hF0 s08, ?_, ⟨ks ++ [(holdK (nms gs) z, T, V.str z)], ?_⟩, _, rfl⟩
            · rw [upd_ne fun z => ?_]
              · exact s8 _ _ e6
              · have := s8 _ _ e6
                rw [z, nd8.d] at this
                exact nomatch this
            · rw [take_snocK hz, keysAcc_snoc]
              unfold addKey
              rw [if_neg (by rw [hn]; exact Bool.false_ne_true)]
              exact nd8.put upd_same
      · rintro σ H6 ⟨s6, e6, ⟨ks, nd⟩, x1, rfl⟩
        rw [List.length_map, List.take_length] at nd
        refine ⟨_, rfl, Fd, ks, rfl, nd.d, fun p hp => q p _ (s6.free hp) (s6.trans (Same.new hp)) ?_⟩
        rw [upd_same, nd.vals, ← hZ]
        rfl
end
end G

set_option Elab.async false
set_option linter.all false
set_option maxRecDepth 100000
set_option maxHeartbeats 4000000
/-! CA4: what candidate_values makes: its mathematics and sizes. -/
namespace G
open PySem PySem.Spec PyProof.Rows L2 NdefX StX DbB SsT DsT Lc2
/-- bounds as tuples: a place, field, low, high -/
abbrev BndE := Addr × Str × Int × Int
def BndAt (H : Hp) (bs : List BndE) : Prop := ∀ b ∈ bs, H b.1 = some (.tup [.str b.2.1, .int b.2.2.1, .int b.2.2.2])
theorem BndAt.same {H H' : Hp} {bs : List BndE} (h : BndAt H bs) (s : Same H H') : BndAt H' bs := fun b hb => s _ _ (h b hb)
abbrev Bnd := Str × Int × Int
abbrev bnds (bs : List BndE) : List Bnd := bs.map (·.2)
def rngFor (bs : List Bnd) (z : Str) : List (Int × Int) := (bs.filter fun b => decide (b.1 = z)).map (·.2)
def numsFor (bs : List Bnd) (z : Str) : List V := numsOf (rngFor bs z)
abbrev Kvs := List (Key × V)
def stepOf (vals : List Kvs) (z : Str) (ns : List V) : List Kvs := (vals.filter fun kv => decide (kv.length < 6)).flatMap fun kv => ns.map fun n => putK kv (Sum.inr z) n
def valsAcc (bs : List Bnd) (fs : List Str) : List Kvs := fs.foldl (fun acc z => acc ++ stepOf acc z (numsFor bs z)) [[]]
def valsOf (bs : List Bnd) (fs : List Str) (x : Str) : List Kvs := (valsAcc bs fs).set 0 [(Sum.inr x, V.int 0)]
theorem valsAcc_snoc (bs : List Bnd) (fs : List Str) (z : Str) : valsAcc bs (fs ++ [z]) = valsAcc bs fs ++ stepOf (valsAcc bs fs) z (numsFor bs z) := by
  unfold valsAcc
  rw [List.foldl_append]
  rfl
theorem stepOf_snoc (vals : List Kvs) (kv : Kvs) (z : Str) (ns : List V) : stepOf (vals ++ [kv]) z ns = stepOf vals z ns ++ (if kv.length < 6 then ns.map fun n => putK kv (Sum.inr z) n else []) := by
  unfold stepOf
  rw [List.filter_append, List.flatMap_append]
  by_cases h : kv.length < 6
  · rw [if_pos h, List.filter_cons, if_pos (decide_eq_true h), List.filter_nil]
    simp
  · rw [if_neg h, List.filter_cons, if_neg (by rw [decide_eq_false h]; exact Bool.false_ne_true), List.filter_nil]
    simp
theorem stepOf_len (vals : List Kvs) (z : Str) (ns : List V) : (stepOf vals z ns).length ≤ vals.length * ns.length := by
  induction vals with
  | nil => simp [stepOf]
  | cons kv vals ih =>
    have e : stepOf (kv :: vals) z ns = (if kv.length < 6 then ns.map fun n => putK kv (Sum.inr z) n else []) ++ stepOf vals z ns := by
      unfold stepOf
      by_cases h : kv.length < 6
      · rw [if_pos h, List.filter_cons, if_pos (decide_eq_true h), List.flatMap_cons]
      · rw [if_neg h, List.filter_cons, if_neg (by rw [decide_eq_false h]; exact Bool.false_ne_true)]
        rfl
    rw [e, List.length_append, List.length_cons, Nat.succ_mul]
    have : (if kv.length < 6 then ns.map fun n => putK kv (Sum.inr z) n else []).length ≤ ns.length := by
      split
      · rw [List.length_map]
        exact Nat.le_refl _
      · exact Nat.zero_le _
    omega
theorem numsFor_len (bs : List Bnd) (z : Str) : (numsFor bs z).length ≤ 2 * (bs.countP fun b => decide (b.1 = z)) := by
  unfold numsFor numsOf
  rw [List.length_map]
  refine Nat.le_trans (numsAcc_len _ _) ?_
  unfold rngFor
  rw [List.length_map, List.countP_eq_length_filter]
  exact Nat.le_refl _
theorem three_pow (c : Nat) : 1 + 2 * c ≤ 3 ^ c := by
  induction c with
  | zero => decide
  | succ c ih =>
    rw [Nat.pow_succ]
    have : 1 ≤ 3 ^ c := Nat.one_le_pow _ _ (by decide)
    omega
theorem count_more (bs : List Bnd) (fs : List Str) (z : Str) (h : z ∉ fs) : (bs.countP fun b => decide (b.1 = z)) + (bs.countP fun b => decide (b.1 ∈ fs)) ≤ bs.countP fun b => decide (b.1 ∈ fs ++ [z]) := by
  induction bs with
  | nil => simp
  | cons b bs ih =>
    rw [List.countP_cons, List.countP_cons, List.countP_cons]
    by_cases h1 : b.1 = z
    · have h2 : b.1 ∉ fs := by rw [h1]; exact h
      have h3 : b.1 ∈ fs ++ [z] := List.mem_append.mpr (.inr (by rw [h1]; exact List.mem_singleton.mpr rfl))
      rw [decide_eq_true h1, decide_eq_false h2, decide_eq_true h3, if_pos rfl, if_neg Bool.false_ne_true]
      omega
    · by_cases h2 : b.1 ∈ fs
      · have h3 : b.1 ∈ fs ++ [z] := List.mem_append.mpr (.inl h2)
        rw [decide_eq_false h1, decide_eq_true h2, decide_eq_true h3, if_pos rfl, if_neg Bool.false_ne_true]
        omega
      · have h3 : b.1 ∉ fs ++ [z] := fun q => (List.mem_append.mp q).elim h2 fun q => h1 (List.mem_singleton.mp q)
        rw [decide_eq_false h1, decide_eq_false h2, decide_eq_false h3, if_neg Bool.false_ne_true]
        omega
theorem valsAcc_len (bs : List Bnd) : ∀ (fs : List Str), fs.Nodup → (valsAcc bs fs).length ≤ 3 ^ (bs.countP fun b => decide (b.1 ∈ fs)) := by
  intro fs
  have gen : ∀ (n : Nat) (fs : List Str), fs.length = n → fs.Nodup → (valsAcc bs fs).length ≤ 3 ^ (bs.countP fun b => decide (b.1 ∈ fs)) := fun n => by
    induction n with
    | zero =>
      intro fs h _
      rw [List.length_eq_zero_iff.mp h]
      exact Nat.one_le_pow _ _ (by decide)
    | succ n ih =>
      intro fs h nd
      have ne : fs ≠ [] := fun e => by
        rw [e] at h
        cases h
      have es := List.dropLast_concat_getLast ne
      generalize fs.dropLast = gs at es
      generalize fs.getLast ne = z at es
      rw [← es] at nd h ⊢
      have hn : gs.length = n := by
        rw [List.length_append] at h
        exact Nat.succ.inj h
      have nd2 := List.nodup_append.mp nd
      have hz : z ∉ gs := fun q => nd2.2.2 z q z (List.mem_singleton.mpr rfl) rfl
      have h1 := ih gs hn nd2.1
      rw [valsAcc_snoc, List.length_append]
      have h2 := stepOf_len (valsAcc bs gs) z (numsFor bs z)
      have h3 := numsFor_len bs z
      have h4 := count_more bs gs z hz
      have h5 := three_pow (bs.countP fun b => decide (b.1 = z))
      have h6 : 3 ^ (bs.countP fun b => decide (b.1 = z)) * 3 ^ (bs.countP fun b => decide (b.1 ∈ gs)) ≤ 3 ^ (bs.countP fun b => decide (b.1 ∈ gs ++ [z])) := by
        rw [← Nat.pow_add]
        exact Nat.pow_le_pow_right (by decide) h4
      refine Nat.le_trans ?_ h6
      refine Nat.le_trans (m := (valsAcc bs gs).length * (1 + (numsFor bs z).length)) ?_ ?_
      · rw [Nat.mul_add, Nat.mul_one]
        omega
      · rw [Nat.mul_comm]
        exact Nat.mul_le_mul (by omega) h1
  exact gen _ fs rfl
theorem vals_few {bs : List Bnd} {fs : List Str} (nd : fs.Nodup) (few : bs.length ≤ 12) : (valsAcc bs fs).length ≤ 531441 := by
  refine Nat.le_trans (valsAcc_len bs fs nd) ?_
  refine Nat.le_trans (Nat.pow_le_pow_right (by decide) (Nat.le_trans List.countP_le_length few)) ?_
  decide
/-- what the next field adds -/
theorem step_few {bs : List Bnd} {fs : List Str} {z : Str} (nd : (fs ++ [z]).Nodup) (few : bs.length ≤ 12) : (valsAcc bs fs).length ≤ 531441 ∧ (valsAcc bs fs).length * (numsFor bs z).length + (valsAcc bs fs).length ≤ 13286025 := by
  have h1 := vals_few (bs := bs) (List.nodup_append.mp nd).1 few
  refine ⟨h1, ?_⟩
  have h2 := numsFor_len bs z
  have h3 : (bs.countP fun b => decide (b.1 = z)) ≤ bs.length := List.countP_le_length
  have h4 : (valsAcc bs fs).length * (numsFor bs z).length ≤ 531441 * 24 := Nat.mul_le_mul h1 (by omega)
  omega
/-- values: places of dicts, what stands there -/
abbrev ValE := Addr × Kvs
def ValsAt (H : Hp) (as : List ValE) : Prop := ∀ a ∈ as, H a.1 = some (.dK a.2)
theorem ValsAt.same {H H' : Hp} {as : List ValE} (h : ValsAt H as) (s : Same H H') : ValsAt H' as := fun a ha => s _ _ (h a ha)
theorem ValsAt.app {H : Hp} {as bs : List ValE} (h1 : ValsAt H as) (h2 : ValsAt H bs) : ValsAt H (as ++ bs) := fun a ha => (List.mem_append.mp ha).elim (h1 a) (h2 a)
/-- the fields, sorted -/
def fldsOf (bs : List Bnd) : List Str := srtT (difs (bs.map (·.1)))
def spVals (K : PySem.W.Frag) : Sp := fun vs H Q _ => ∃ (l : Addr) (bs : List BndE), vs = [.ref l] ∧ SqL K H l (bs.map fun b => V.ref b.1) ∧ BndAt H bs ∧ bs.length ≤ 12 ∧
  ∀ (p : Addr) (as : List ValE) (H' : Hp), H p = none → Same H H' → H' p = some (.lst (as.map fun a => V.ref a.1)) → ValsAt H' as →
    as.map (·.2) = valsOf (bnds bs) (fldsOf (bnds bs)) (freeOf (fldsOf (bnds bs))) → Q (.ref p) H'
end G

set_option Elab.async false
set_option linter.all false
set_option maxRecDepth 100000
set_option maxHeartbeats 4000000
/-! CA5: candidate_values. -/
namespace G
open PySem PySem.Spec PyProof.Rows L2 NdefX StX DbB SsT DsT Lc2
abbrev nVals : List Str := ["bounds", "field", "fields", "values", "numbers", "low", "high", "name", "value", "number"]
theorem scVals : FnScope nVals ["bounds"] (defScope sVals) := ⟨rfl, rfl, rfl, by decide +kernel, rfl, by decide +kernel, by decide +kernel⟩
theorem ixN_zero {n : Nat} (h : 0 < n) : ixN n 0 = some 0 := by
  unfold ixN
  rw [if_pos (Int.le_refl 0), if_pos (by omega)]
  rfl
theorem same_star {H H1 : Hp} {p q : Addr} {o1 o2 o3 o4 o5 : HO} (s : Same H H1) (hp : H p = none) (hq : H q = none) : Same H (upd (upd (upd (upd (upd H1 p o1) p o2) q o3) q o4) p o5) :=
  same_upd hp (same_upd hq (same_upd hq (same_upd hp (same_upd hp s))))
section
variable {P : Program} {w : World} {K : PySem.W.Frag} {mg : Str → Option Value} {base : Heap}
theorem ok_vals {f fN fU : Addr} {fd fdN fdU : FuncData} {t1 : Tok} (F : Fun K "candidate_values" "candidate_values" sVals f fd)
    (GN : FnOk P w K mg base CX0 1 fN fdN ["ranges"] (spNums K)) (gN : mg "candidate_numbers" = some (.ref fN)) (kN : PySem.W.keepIn K (.ref fN) = true) (bN : Binds K fdN ["ranges"] [])
    (GU : FnOk P w K mg base CX0 1 fU fdU ["names"] (spUnused K)) (gU : mg "unused_name" = some (.ref fU)) (kU : PySem.W.keepIn K (.ref fU) = true) (bU : Binds K fdU ["names"] [])
    (gM : mg "MOST_FIELDS" = some (.int 6 t1)) (mso : mg "sorted" = none) (ms : mg "set" = none) (ml : mg "len" = none) : FnOk P w K mg base CX0 2 f fd ["bounds"] (spVals K) := by
  refine F.ok scVals (fun vs H Q E h => ?_) (fun cdv A outer s H vs Q E hr h => ?_)
  · obtain ⟨l, bs, rfl, _⟩ := h
    rfl
  · obtain ⟨l, bs, rfl, hl, hb, few, q⟩ := h
    have hu8 : (A.deeper (envOfC "candidate_values" (defScope sVals) s.heap.objs.size f cdv)).units + 8 < cLine := by have := hr.units; omega
    refine ⟨_, pss_cons (ps_set (i := 2) scVals.nd rfl (.inl rfl) (pe_callB (cr_sortT rfl hu8) (by rfl) mso (by decide +kernel) (pa_cons (pe_callTy (cr_setT rfl) (by rfl) ms (by decide +kernel) (pa_cons (by exact pe_lc (own := [("field", 1), ("low", 5), ("high", 6)]) (g := gTup K 3 (gCons (gName 1) (gCons (gName 5) (gCons (gName 6) gNil)))) (tt := tYes) (te := tVar 1) (by rfl) scVals.nd (pi_list (pv 0)) (blkOk_by (own := [("field", 1), ("low", 5), ("high", 6)]) (N := nVals) (sc := defScope sVals) (by decide +kernel)) (fun _ _ _ _ _ => pg_tup (by rfl) (pgs_cons (pg_name (i := 1) scVals.nd rfl (.inl rfl)) (pgs_cons (pg_name (i := 5) scVals.nd rfl (.inl rfl)) (pgs_cons (pg_name (i := 6) scVals.nd rfl (.inl rfl)) pgs_nil)))) (fun _ _ _ _ _ => pts_nil) (fun _ _ _ _ _ => pv 1)) pa_nil)) pa_nil)))
      (pss_cons (ps_set (i := 3) scVals.nd rfl (.inl rfl) (pe_lst (pa_cons pe_dnewK pa_nil)))
      (pss_cons (ps_for PassesOwn.never rfl (pi_list (pv 2)) (pg_name (i := 1) scVals.nd rfl (.inr rfl))
        (pss_cons (ps_set (i := 4) scVals.nd rfl (.inr rfl) (pe_call GN hr rfl gN kN bN .nil pass0 (pa_cons (by exact pe_lc (own := [("name", 7), ("low", 5), ("high", 6)]) (g := gTup K 3 (gCons (gName 7) (gCons (gName 5) (gCons (gName 6) gNil)))) (by rfl) scVals.nd (pi_list (pv 0)) (blkOk_by (own := [("name", 7), ("low", 5), ("high", 6)]) (N := nVals) (sc := defScope sVals) (by decide +kernel)) (fun _ _ _ _ _ => pg_tup (by rfl) (pgs_cons (pg_name (i := 7) scVals.nd rfl (.inl rfl)) (pgs_cons (pg_name (i := 5) scVals.nd rfl (.inl rfl)) (pgs_cons (pg_name (i := 6) scVals.nd rfl (.inl rfl)) pgs_nil)))) (fun _ _ _ _ _ => pts_one (pt_cmpR op_eq (pv 7) (pv 1) (nomark _))) (fun _ _ _ _ _ => pe_tup (pa_cons (pv 5) (pa_cons (pv 6) pa_nil)))) pa_nil)))
        (pss_one (ps_set (i := 3) scVals.nd rfl (.inl rfl) (pe_op op_cat (pv 3) (by exact pe_lc2 (own := [("value", 8), ("number", 9)]) (vs1 := [9]) (wi1 := iList K (tVar 4)) (g := gName 8) (g1 := gName 9) (tt1 := tYes) (te := tStarD (tVar 8) (tVar 1) (tVar 9)) (by rfl) scVals.nd (pi_list (pv 3)) (blkOk_by (own := [("value", 8), ("number", 9)]) (N := nVals) (sc := defScope sVals) (by decide +kernel)) (by decide) (fun _ _ _ _ _ => pg_name (i := 8) scVals.nd rfl (.inl rfl)) (fun _ _ _ _ _ => pts_one (pt_cmpR op_lt (pe_callB call_lenD (by rfl) ml PySem.boot_len (pa_cons (pv 8) pa_nil)) (pe_glob (v := .int 6) rfl gM ⟨_, rfl⟩) (nomark _))) (fun _ _ _ _ _ => pi_list (pv 4)) (fun _ _ _ _ _ => pg_name (i := 9) scVals.nd rfl (.inl rfl)) (fun _ _ _ _ _ => pts_nil) (fun _ _ _ _ _ => pe_starD (pv 8) (pv 1) (pv 9))))))))
      (pss_cons (ps_asg (pe_disp (pps_cons (pe_call GU hr rfl gU kU bU .nil pass0 (pa_cons (pv 2) pa_nil)) pe_int pps_nil) (by rfl) (by rfl) (fun z => by cases z) (by decide)) (pg_sub (pv 3) pe_int set_list))
      (pss_one (ps_ret (pv 3)))))), ?_⟩
    -- the fields
    refine ⟨_, rfl, l, rfl, ⟨_, hl⟩, fun M hM => ?_⟩
    refine lc_list (xs := bs.map fun b => V.ref b.1) (fun i H2 => Same H H2 ∧ H2 M = some (.lst (((bnds (bs.take i)).map (·.1)).map V.str))) ?_ ?_ ?_ ?_
    · exact ⟨Same.new hM, upd_same⟩
    · exact fun i H2 _ z => sqL_keepC z.1 hl
    · rintro i x H2 hx ⟨s2, e2⟩
      rw [List.getElem?_map] at hx
      obtain ⟨b, hbi, rfl⟩ := Option.map_eq_some_iff.mp hx
      have eb := (hb.same s2) b (List.mem_of_getElem? hbi)
      have li : i < bs.length := (List.getElem?_eq_some_iff.mp hbi).1
      refine ⟨b.1, _, rfl, .of eb, rfl, ?_⟩
      refine ⟨_, _, rfl, _, _, rfl, _, _, rfl, rfl, rfl, ?_⟩
      unfold tYes
      dsimp only
      rw [if_pos rfl]
      refine ⟨_, rfl, _, e2, ?_, same_upd hM s2, ?_⟩
      · rw [List.length_map, List.length_map, List.length_map, List.length_take]
        exact small1000 (by omega)
      · rw [upd_same, take_snocK hbi]
        simp only [bnds, List.map_append]
        rfl
    · rintro H2 ⟨s2, e2⟩
      rw [List.length_map, List.take_length] at e2
      have lf : ((bnds bs).map (·.1)).length = bs.length := by rw [List.length_map, List.length_map]
      refine ⟨M, (bnds bs).map (·.1), rfl, .of e2, by rw [lf]; omega, fun S hS => ?_⟩
      refine ⟨S, difs ((bnds bs).map (·.1)), rfl, upd_same, fun Fl hFl => ?_⟩
      have pm := srtT_mem (difs ((bnds bs).map (·.1)))
      have efs : fldsOf (bnds bs) = srtT (difs ((bnds bs).map (·.1))) := rfl
      rw [efs] at q
      clear efs
      generalize srtT (difs ((bnds bs).map (·.1))) = fs at q pm hFl ⊢
      have ndf : fs.Nodup := pm.nodup_iff.mpr (difs_nd _)
      have lfs : fs.length ≤ 12 := by
        rw [pm.length_eq]
        have := difs_len ((bnds bs).map (·.1))
        omega
      have s3 : Same H (upd (upd H2 S (setO w S (difs ((bnds bs).map (·.1))))) Fl (.lst (fs.map V.str))) := s2.trans ((Same.new hS).trans (Same.new hFl))
      have eF : (upd (upd H2 S (setO w S (difs ((bnds bs).map (·.1))))) Fl (.lst (fs.map V.str))) Fl = some (.lst (fs.map V.str)) := upd_same
      change tSeq _ _ _ _ (upd (upd H2 S (setO w S (difs ((bnds bs).map (·.1))))) Fl (.lst (fs.map V.str)))
      generalize upd (upd H2 S (setO w S (difs ((bnds bs).map (·.1))))) Fl (.lst (fs.map V.str)) = H3 at s3 eF ⊢
      -- [{}]
      intro d0 hd0
      refine ⟨by show 1 ≤ sizeLine; rw [sizeLine_eq]; decide, fun L hL => ?_⟩
      have s4 : Same H3 (upd (upd H3 d0 (.dK [])) L (.lst [.ref d0])) := (Same.new hd0).trans (Same.new hL)
      have nLd : d0 ≠ L := fun e => by
        rw [← e, upd_same] at hL
        cases hL
      have v0 : ValsAt (upd (upd H3 d0 (.dK [])) L (.lst [.ref d0])) [(d0, [])] := fun a ha => by
        rw [List.mem_singleton.mp ha]
        exact (upd_ne nLd).trans upd_same
      have eL0 : (upd (upd H3 d0 (.dK [])) L (.lst [.ref d0])) L = some (.lst ([(d0, ([] : Kvs))].map fun a => V.ref a.1)) := upd_same
      have s5 := s3.trans s4
      have eF5 := s4 _ _ eF
      generalize upd (upd H3 d0 (.dK [])) L (.lst [.ref d0]) = H4 at s5 eF5 v0 eL0 ⊢
      have fL0 : H L = none := (s3.free (Same.free (Same.new hd0) hL))
      refine ⟨_, rfl, Fl, rfl, ⟨_, .of eF5⟩, ?_⟩
      refine for_list (xs := fs.map V.str) (fun i σ H5 => Same H H5 ∧ H5 Fl = some (.lst (fs.map V.str)) ∧ ∃ (x1 x4 : Option V) (L : Addr) (as : List ValE), σ = [some (.ref l), x1, some (.ref Fl), some (.ref L), x4, none, none, none, none, none] ∧ H L = none ∧ L ≠ Fl ∧
        H5 L = some (.lst (as.map fun a => V.ref a.1)) ∧ ValsAt H5 as ∧ as.map (·.2) = valsAcc (bnds bs) (fs.take i)) ?_ ?_ ?_ ?_
      · refine ⟨s5, eF5, none, none, L, [(d0, [])], rfl, fL0, fun e => ?_, eL0, v0, rfl⟩
        have := Same.free (Same.new hd0) hL
        rw [e, eF] at this
        cases this
      · exact fun i σ H5 _ z => .of z.2.1
      · rintro i y σ H5 hy ⟨s6, e6, x1, x4, L, as, rfl, fL, nLF, eL, va, ea⟩
        rw [List.getElem?_map] at hy
        obtain ⟨z, hz, rfl⟩ := Option.map_eq_some_iff.mp hy
        have hbH := hb.same s6
        refine ⟨_, rfl, l, rfl, ⟨_, sqL_keepC s6 hl⟩, fun M hM => ?_⟩
        refine lc_list (xs := bs.map fun b => V.ref b.1) (fun m H6 => Same H5 H6 ∧ ∃ rs : List RngE, H6 M = some (.lst (rs.map fun r => V.ref r.1)) ∧ RngAt H6 rs ∧ rgs rs = rngFor (bnds (bs.take m)) z ∧ rs.length ≤ m) ?_ ?_ ?_ ?_
        · exact ⟨Same.new hM, [], upd_same, (fun r hr => nomatch hr), rfl, Nat.le_refl _⟩
        · exact fun m H6 _ z => sqL_keepC (s6.trans z.1) hl
        · rintro m x H6 hx ⟨s7, rs, e7, r7, g7, l7⟩
          rw [List.getElem?_map] at hx
          obtain ⟨b, hbm, rfl⟩ := Option.map_eq_some_iff.mp hx
          have eb := (hbH.same s7) b (List.mem_of_getElem? hbm)
          have lm : m < bs.length := (List.getElem?_eq_some_iff.mp hbm).1
          have eg : rngFor (bnds (bs.take (m + 1))) z = rngFor (bnds (bs.take m)) z ++ (if b.2.1 = z then [b.2.2] else []) := by
            rw [take_snocK hbm]
            unfold rngFor bnds
            rw [List.map_append, List.filter_append, List.map_append]
            by_cases hh : b.2.1 = z
            · rw [if_pos hh]
              congr 1
              rw [List.map_cons, List.filter_cons, if_pos (decide_eq_true hh)]
              rfl
            · rw [if_neg hh]
              congr 1
              rw [List.map_cons, List.filter_cons, if_neg (by rw [decide_eq_false hh]; exact Bool.false_ne_true)]
              rfl
          refine ⟨b.1, _, rfl, .of eb, rfl, ?_⟩
          refine ⟨_, _, rfl, _, _, rfl, _, _, rfl, rfl, rfl, ?_⟩
          refine ⟨_, rfl, _, rfl, rfl, _, rfl, ?_⟩
          by_cases hh : b.2.1 = z
          · rw [decide_eq_true (show V.str b.2.1 = V.str z by rw [hh])]
            refine iteT ?_
            refine ⟨_, rfl, _, rfl, (by show 2 ≤ sizeLine; rw [sizeLine_eq]; decide), fun T hT => ?_⟩
            have sT := Same.new (o := .tup [.int b.2.2.1, .int b.2.2.2]) hT
            refine ⟨_, sT _ _ e7, ?_, same_upd hM (s7.trans sT), rs ++ [(T, b.2.2)], ?_, ?_, ?_, ?_⟩
            · rw [List.length_map]
              exact small1000 (by omega)
            · rw [upd_same, List.map_append]
              rfl
            · intro r hr
              have ne : r.1 ≠ M ∧ (upd H6 T (.tup [.int b.2.2.1, .int b.2.2.2])) r.1 = some (.tup [.int r.2.1, .int r.2.2]) := by
                rcases List.mem_append.mp hr with hr | hr
                · refine ⟨fun e => ?_, sT _ _ (r7 r hr)⟩
                  have := r7 r hr
                  rw [e, e7] at this
                  cases this
                · rw [List.mem_singleton.mp hr]
                  refine ⟨fun e => ?_, upd_same⟩
                  have e : T = M := e
                  rw [e, e7] at hT
                  cases hT
              rw [upd_ne ne.1]
              exact ne.2
            · unfold rgs at g7 ⊢
              rw [eg, if_pos hh, List.map_append, g7]
              rfl
            · rw [List.length_append]
              exact Nat.succ_le_succ l7
          · rw [decide_eq_false (show ¬ V.str b.2.1 = V.str z from fun e => hh (V.str.inj e))]
            refine iteF ⟨s7, rs, e7, r7, ?_, Nat.le_succ_of_le l7⟩
            rw [eg, if_neg hh, List.append_nil]
            exact g7
        · rintro H6 ⟨s7, rs, e7, r7, g7, l7⟩
          rw [List.length_map] at l7 g7
          rw [List.take_length] at g7
          refine ⟨M, rs, rfl, .of e7, r7, by omega, fun N H7 hN s8 e8 => ?_⟩
          rw [g7] at e8
          have sB := s6.trans (s7.trans s8)
          have eL7 := s8 _ _ (s7 _ _ eL)
          have va7 := va.same (s7.trans s8)
          have eF7 := s8 _ _ (s7 _ _ e6)
          have ndz : (fs.take i ++ [z]).Nodup := by
            rw [← take_snocK hz]
            exact ndf.sublist (List.take_sublist _ _)
          have szs := step_few (bs := bnds bs) ndz (by rw [List.length_map]; exact few)
          have eacc : as.map (·.2) = valsAcc (bnds bs) (fs.take i) := ea
          generalize hacc : valsAcc (bnds bs) (fs.take i) = acc at szs eacc
          generalize hns : numsFor (bnds bs) z = ns at szs
          have e8 : H7 N = some (.lst ns) := by rw [← hns]; exact e8
          have las : as.length = acc.length := by rw [← eacc, List.length_map]
          obtain ⟨sz1, sz2⟩ := szs
          have line : sizeLine = 16777216 := sizeLine_eq
          refine ⟨_, rfl, _, rfl, L, rfl, ⟨_, .of eL7⟩, fun M2 hM2 => ?_⟩
          refine lc2_out (w := walk_list (K := K) (a := L) (xs := as.map fun a => V.ref a.1)) (fun k H8 => Same H7 H8 ∧ ∃ new : List ValE, H8 M2 = some (.lst (new.map fun a => V.ref a.1)) ∧ ValsAt H8 new ∧ new.map (·.2) = stepOf (acc.take k) z ns) ?_ ?_ ?_ ?_
          · exact ⟨Same.new hM2, [], upd_same, (fun r hr => nomatch hr), rfl⟩
          · exact fun k H8 _ z => .of (z.1 _ _ eL7)
          · rintro k x H8 H8' hk ⟨s9, new, e9, v9, g9⟩ ⟨rfl, hx⟩
            rw [List.getElem?_map] at hx
            obtain ⟨a, hak, rfl⟩ := Option.map_eq_some_iff.mp hx
            have ea8 := (va7.same s9) a (List.mem_of_getElem? hak)
            have hacck : acc[k]? = some a.2 := by
              rw [← eacc, List.getElem?_map, hak]
              rfl
            have lk : k < acc.length := (List.getElem?_eq_some_iff.mp hacck).1
            refine ⟨rfl, _, rfl, a.1, a.2, rfl, ea8, _, _, rfl, rfl, _, rfl, ?_⟩
            have es := stepOf_snoc (acc.take k) a.2 z ns
            rw [← take_snocK hacck] at es
            by_cases h6 : a.2.length < 6
            · rw [decide_eq_true (show (a.2.length : Int) < 6 by omega)]
              rw [if_pos h6] at es
              refine iteT ⟨_, rfl, N, rfl, ⟨_, .of (s9 _ _ e8)⟩, ?_⟩
              refine lc2_in (g1 := gName 9) (tt1 := tYes) (te := tStarD (tVar 8) (tVar 1) (tVar 9)) (w := walk_list (K := K) (a := N) (xs := ns)) (fun j H9 => Same H7 H9 ∧ ∃ new : List ValE, H9 M2 = some (.lst (new.map fun a => V.ref a.1)) ∧ ValsAt H9 new ∧
                new.map (·.2) = stepOf (acc.take k) z ns ++ (ns.take j).map fun n => putK a.2 (Sum.inr z) n) ?_ ?_ ?_ ?_
              · exact ⟨s9, new, e9, v9, by rw [List.take_zero, List.map_nil, List.append_nil]; exact g9⟩
              · exact fun j H9 _ z => .of (z.1 _ _ e8)
              · rintro j n H90 H9 hj ⟨s10, new, e10, v10, g10⟩ ⟨rfl, hn⟩
                refine ⟨rfl, ?_⟩
                unfold tYes
                dsimp only
                rw [if_pos rfl]
                intro p hp
                have ea9 := (va7.same s10) a (List.mem_of_getElem? hak)
                have nap : a.1 ≠ p := fun e => by
                  rw [e, hp] at ea9
                  cases ea9
                refine ⟨_, rfl, a.1, a.2, rfl, nap, (upd_ne nap).trans ea9, upd_same, small1000 (by omega), fun q hq => ⟨_, rfl, _, rfl, Sum.inr z, rfl, upd_same, ?_, ?_⟩⟩
                · rw [upd_ne fun e => ?_]
                  · exact upd_same
                  · rw [← e, upd_same] at hq
                    cases hq
                · have nqp : q ≠ p := fun e => by
                    rw [e, upd_same] at hq
                    cases hq
                  have hq9 : H9 q = none := by
                    rw [upd_ne nqp, upd_ne nqp] at hq
                    exact hq
                  have sS : Same H9 (upd (upd (upd (upd (upd H9 p (.dK [])) p (.dK a.2)) q (.dK [])) q (.dK [(Sum.inr z, n)])) p (.dK (putK a.2 (Sum.inr z) n))) := same_star (.refl H9) hp hq9
                  have eS : (upd (upd (upd (upd (upd H9 p (.dK [])) p (.dK a.2)) q (.dK [])) q (.dK [(Sum.inr z, n)])) p (.dK (putK a.2 (Sum.inr z) n))) p = some (.dK (putK a.2 (Sum.inr z) n)) := upd_same
                  generalize upd (upd (upd (upd (upd H9 p (.dK [])) p (.dK a.2)) q (.dK [])) q (.dK [(Sum.inr z, n)])) p (.dK (putK a.2 (Sum.inr z) n)) = H10 at sS eS ⊢
                  have eM := sS _ _ e10
                  have npM : p ≠ M2 := fun e => by
                    rw [e, e10] at hp
                    cases hp
                  have fM : H7 M2 = none := hM2
                  refine ⟨_, eM, ?_, same_upd fM (s10.trans sS), new ++ [(p, putK a.2 (Sum.inr z) n)], ?_, ?_, ?_⟩
                  · have ln : new.length = (stepOf (acc.take k) z ns).length + j := by
                      have := congrArg List.length g10
                      rw [List.length_map, List.length_append, List.length_map, List.length_take] at this
                      omega
                    have l1 := stepOf_len (acc.take k) z ns
                    rw [List.length_take, Nat.min_eq_left (by omega)] at l1
                    have l2 : (k + 1) * ns.length ≤ acc.length * ns.length := Nat.mul_le_mul_right _ lk
                    rw [Nat.succ_mul] at l2
                    rw [List.length_map]
                    omega
                  · rw [upd_same, List.map_append]
                    rfl
                  · intro a2 ha2
                    have : a2.1 ≠ M2 ∧ H10 a2.1 = some (.dK a2.2) := by
                      rcases List.mem_append.mp ha2 with h | h
                      · refine ⟨fun e => ?_, sS _ _ (v10 a2 h)⟩
                        have := v10 a2 h
                        rw [e, e10] at this
                        cases this
                      · rw [List.mem_singleton.mp h]
                        exact ⟨npM, eS⟩
                    rw [upd_ne this.1]
                    exact this.2
                  · rw [List.map_append, g10, take_snocK hn, List.map_append, List.append_assoc]
                    rfl
              · rintro H9 ⟨s10, new, e10, v10, g10⟩
                rw [List.take_length] at g10
                exact ⟨s10, new, e10, v10, by rw [es]; exact g10⟩
            · rw [decide_eq_false (show ¬ (a.2.length : Int) < 6 by omega)]
              rw [if_neg h6, List.append_nil] at es
              exact iteF ⟨s9, new, e9, v9, by rw [es]; exact g9⟩
          · rintro H8 ⟨s9, new, e9, v9, g9⟩
            rw [List.length_map, las, List.take_length] at g9
            have ln : new.length = (stepOf acc z ns).length := by
              have := congrArg List.length g9
              rw [List.length_map] at this
              exact this
            have l1 := stepOf_len acc z ns
            refine ⟨L, M2, _, _, rfl, rfl, s9 _ _ eL7, e9, by rw [List.length_map, List.length_map]; omega, fun p hp => ?_⟩
            have sp := Same.new (o := .lst ((as.map fun a => V.ref a.1) ++ (new.map fun a => V.ref a.1))) hp
            have sA := sB.trans (s9.trans sp)
            refine ⟨sA, sp _ _ (s9 _ _ eF7), _, _, p, as ++ new, rfl, (sB.trans s9).free hp, fun e => ?_, ?_, ?_, ?_⟩
            · rw [e, s9 _ _ eF7] at hp
              cases hp
            · rw [upd_same, List.map_append]
            · exact ((va7.same s9).same sp).app (v9.same sp)
            · rw [List.map_append, eacc, g9, take_snocK hz, valsAcc_snoc, hacc, hns]
      · rintro σ H5 ⟨s6, e6, x1, x4, L, as, rfl, fL, nLF, eL, va, ea⟩
        rw [List.length_map, List.take_length] at ea
        have la : 0 < as.length := by
          have h1 := congrArg List.length ea
          rw [List.length_map] at h1
          have h2 : ∀ (gs : List Str) (acc : List Kvs), 1 ≤ acc.length → 1 ≤ (gs.foldl (fun acc z => acc ++ stepOf acc z (numsFor (bnds bs) z)) acc).length := fun gs => by
            induction gs with
            | nil => exact fun _ h => h
            | cons g gs ih =>
              intro acc h
              rw [List.foldl_cons]
              exact ih _ (by rw [List.length_append]; omega)
          have h3 := h2 fs [[]] (Nat.le_refl _)
          rw [h1]
          exact h3
        intro p hp
        have sp := Same.new (o := .dK []) hp
        refine ⟨_, rfl, Fl, fs, rfl, .of (sp _ _ e6), by omega, fun H6 s7 => ?_⟩
        generalize freeOf fs = x at q ⊢
        have ep6 := s7 _ _ (show (upd H5 p (.dK [])) p = some (.dK []) from upd_same)
        refine ⟨ep6, [(Sum.inr x, .int 0)], rfl, (by show 1 ≤ 15; decide), ?_⟩
        have npL : p ≠ L := fun e => by
          rw [e, eL] at hp
          cases hp
        have sP := sp.trans s7
        have fp : H p = none := s6.free hp
        have eL6 : (upd H6 p (.dK (mergeK [] [(Sum.inr x, .int 0)]))) L = some (.lst (as.map fun a => V.ref a.1)) := (upd_ne (Ne.symm npL)).trans (sP _ _ eL)
        refine ⟨_, rfl, L, _, 0, 0, rfl, rfl, eL6, by rw [List.length_map]; exact ixN_zero la, ?_⟩
        have s0 : Same H (upd (upd H6 p (.dK (mergeK [] [(Sum.inr x, .int 0)]))) L (.lst ((as.map fun a => V.ref a.1).set 0 (.ref p)))) := same_upd fL (same_upd fp (s6.trans sP))
        refine ⟨_, rfl, q L (as.set 0 (p, [(Sum.inr x, .int 0)])) _ fL s0 ?_ ?_ ?_⟩
        · rw [upd_same, List.map_set]
        · intro a ha
          have : a.1 ≠ L ∧ (upd H6 p (.dK (mergeK [] [(Sum.inr x, .int 0)]))) a.1 = some (.dK a.2) := by
            rcases List.mem_or_eq_of_mem_set ha with h | h
            · have h1 := va a h
              refine ⟨fun e => ?_, ?_⟩
              · rw [e, eL] at h1
                cases h1
              · rw [upd_ne fun e => ?_]
                · exact sP _ _ h1
                · rw [e, hp] at h1
                  cases h1
            · rw [h]
              exact ⟨npL, upd_same⟩
          rw [upd_ne this.1]
          exact this.2
        · rw [List.map_set, ea]
          rfl
end
end G

set_option Elab.async false
set_option linter.all false
set_option maxRecDepth 100000
set_option maxHeartbeats 4000000
/-! CA6: candidate_records, a generator def. -/
namespace G
open PySem PySem.Spec PyProof.Rows L2 NdefX StX DbB SsT DsT Lc2 GZ
abbrev nCRec : List Str := ["bounds", "groups", "values", "key", "value"]
theorem scCRec : GScope nCRec ["bounds", "groups"] (defScope sCRec) := ⟨rfl, rfl, rfl, by decide +kernel, rfl, by decide +kernel, by decide +kernel⟩
theorem lookup_all {l : List (Str × NameKind)} {k : NameKind} (h : ∀ y ∈ l, y.2 ≠ k) (x : Str) : l.lookup x ≠ some k := by
  induction l with
  | nil => exact fun z => nomatch z
  | cons y l ih =>
    intro z
    rw [List.lookup_cons] at z
    cases e : x == y.1 with
    | true =>
      rw [e] at z
      exact h y List.mem_cons_self (Option.some.inj z)
    | false =>
      rw [e] at z
      exact ih (fun y hy => h y (List.mem_cons_of_mem _ hy)) z
theorem plain_crec (x : Str) : (defScope sCRec).names.lookup x ≠ some .cell ∧ (defScope sCRec).names.lookup x ≠ some .free :=
  ⟨lookup_all (by decide +kernel) x, lookup_all (by decide +kernel) x⟩
/-- the keys, the values -/
def keysFor (gs : List GrpE) : List V := keysOf (nms gs) (freeOf (allNs (nms gs)))
def valsFor (bs : List BndE) : List Kvs := valsOf (bnds bs) (fldsOf (bnds bs)) (freeOf (fldsOf (bnds bs)))
theorem keys_pos (gs : List (List Str)) (x : Str) : 0 < (keysOf gs x).length := by
  unfold keysOf
  rw [List.length_map, keysAcc_snoc]
  unfold addKey
  split
  · rename_i h
    unfold hasP at h
    obtain ⟨e, he, _⟩ := List.any_eq_true.mp h
    exact List.length_pos_of_mem he
  · rw [List.length_append]
    exact Nat.succ_pos _
theorem vals_pos (bs : List Bnd) (fs : List Str) (x : Str) : 0 < (valsOf bs fs x).length := by
  unfold valsOf
  rw [List.length_set]
  have h2 : ∀ (gs : List Str) (acc : List Kvs), 1 ≤ acc.length → 1 ≤ (gs.foldl (fun acc z => acc ++ stepOf acc z (numsFor bs z)) acc).length := fun gs => by
    induction gs with
    | nil => exact fun _ h => h
    | cons g gs ih =>
      intro acc h
      rw [List.foldl_cons]
      exact ih _ (by rw [List.length_append]; omega)
  exact h2 fs [[]] (Nat.le_refl _)
/-- the i-th record -/
def RecY (ks : List V) (vs : List Kvs) : Nat → Hp → V → Hp → Prop := fun i H x H' => Same H H' ∧ ∃ (T d : Addr) (k : V) (kv : Kvs), x = .ref T ∧ H' T = some (.tup [k, .ref d]) ∧ H' d = some (.dK kv) ∧ ks[i / vs.length]? = some k ∧ vs[i % vs.length]? = some kv
def spCRec (K : PySem.W.Frag) : SpGi := fun vs H R => ∃ (lb lg : Addr) (bs : List BndE) (gs : List GrpE), vs = [.ref lb, .ref lg] ∧ SqL K H lb (bs.map fun b => V.ref b.1) ∧ BndAt H bs ∧ bs.length ≤ 12 ∧ SqL K H lg (gs.map fun g => V.ref g.1) ∧ GrpAt H gs ∧ gs.length ≤ 100 ∧
  (allNs (nms gs)).length < 26 ∧ R ((keysFor gs).length * (valsFor bs).length) Same (RecY (keysFor gs) (valsFor bs)) H
theorem div_at {j m n : Nat} (h : m < n) : (j * n + m) / n = j ∧ (j * n + m) % n = m := by
  have hn : 0 < n := Nat.lt_of_le_of_lt (Nat.zero_le _) h
  constructor
  · rw [Nat.add_comm, Nat.add_mul_div_right _ _ hn, Nat.div_eq_of_lt h, Nat.zero_add]
  · rw [Nat.add_comm, Nat.add_mul_mod_self_right, Nat.mod_eq_of_lt h]
/-- the generator's own: its lists stand -/
structure CrS (H0 H : Hp) (pk Lv : Addr) (ks : List V) (as : List ValE) : Prop where
  s : Same H0 H
  k : H pk = some (.lst ks)
  l : H Lv = some (.lst (as.map fun a => V.ref a.1))
  v : ValsAt H as
theorem CrS.same {H0 H H' : Hp} {pk Lv : Addr} {ks : List V} {as : List ValE} (c : CrS H0 H pk Lv ks as) (s : Same H H') : CrS H0 H' pk Lv ks as := ⟨c.s.trans s, s _ _ c.k, s _ _ c.l, c.v.same s⟩
theorem CrS.anew {H0 H H' : Hp} {pk Lv : Addr} {ks : List V} {as : List ValE} (c : CrS H0 H pk Lv ks as) (s : Same H H') : CrS H' H' pk Lv ks as := ⟨.refl H', s _ _ c.k, s _ _ c.l, c.v.same s⟩
section
variable {P : Program} {w : World} {K : PySem.W.Frag} {mg : Str → Option Value} {base : Heap}
theorem ok_crec {f fV fK : Addr} {fd fdV fdK : FuncData} (F : Fun K "candidate_records" "candidate_records" sCRec f fd)
    (GV : FnOk P w K mg base CX0 2 fV fdV ["bounds"] (spVals K)) (gV : mg "candidate_values" = some (.ref fV)) (kV : PySem.W.keepIn K (.ref fV) = true) (bV : Binds K fdV ["bounds"] [])
    (GK : FnOk P w K mg base CX0 2 fK fdK ["groups"] (spKeys K)) (gK : mg "candidate_keys" = some (.ref fK)) (kK : PySem.W.keepIn K (.ref fK) = true) (bK : Binds K fdK ["groups"] []) :
    ∃ (kV doc pm cdv ct oc : Value) (an od : Option Addr) (osl : Array (Option Value)), fd = PySem.W.fnOf "candidate_records" "candidate_records" (defArgs sCRec) (defBody sCRec) (defScope sCRec) .none kV doc pm an cdv ct ∧
      GDef P w K mg base 3 f "candidate_records" "candidate_records" (defArgs sCRec) (defBody sCRec) (defScope sCRec) .none kV doc pm cdv ct oc an od osl nCRec ["bounds", "groups"] (spCRec K) := by
  obtain ⟨oc, od, kV0, doc, pm, an, cdv, ct, osl, rfl, lk, hcd⟩ := F.ex
  refine ⟨kV0, doc, pm, cdv, ct, oc, an, od, osl, rfl, lk, hcd, scCRec, fun n => rfl, plain_crec, fun vs H R h => ?_⟩
  obtain ⟨lb, lg, bs, gs, rfl, hlb, hbs, few, hlg, hgs, fewg, few26, q⟩ := h
  refine ⟨rfl, _, _, _, .refl H, q, fun A outer L a go hr kF hLa hne s3 H3 I3 hsz w3 => ?_⟩
  have hr2 : Room 2 (A.deeper (envOfC "candidate_records" (defScope sCRec) L f cdv)) := hr.deeper _
  have hself : (a, go) ∈ [(a, go)] := List.mem_singleton.mpr rfl
  have hold : ∀ p ∈ [(a, go)], L ≤ p.1 := fun p hp => by rw [List.mem_singleton.mp hp]; exact hLa
  refine sg_cons (sg_ps At.func (by exact ps_set (i := 2) scCRec.nd rfl (.inl rfl) (pe_call GV hr2 rfl gV kV bV .nil pass0 (pa_cons (pv 0) pa_nil))) I3 ?_)
  refine ⟨_, rfl, lb, bs, rfl, sqL_keepC w3 hlb, hbs.same w3, few, fun Lv as H4 hLv s4 e4 va ea => ?_⟩
  intro u4 I4
  refine sg_cons (sg_for kF At.func rfl (by exact pi_list (pe_call GK hr2 rfl gK kK bK .nil pass0 (pa_cons (pv 1) pa_nil))) (g := gName 3) (fun s H => by exact pg_name (i := 3) scCRec.nd rfl (.inl rfl)) I4 hsz ?_)
  have s04 := w3.trans s4
  refine ⟨_, rfl, lg, gs, rfl, sqL_keepC s04 hlg, hgs.same s04, fewg, few26, fun pk H5 hpk s5 e5 => ⟨pk, rfl, ⟨_, .of e5⟩, ?_⟩⟩
  have eks : keysOf (nms gs) (freeOf (allNs (nms gs))) = keysFor gs := rfl
  rw [eks] at e5
  have eas : as.map (·.2) = valsFor bs := ea
  have las : as.length = (valsFor bs).length := by rw [← eas, List.length_map]
  have c5 : CrS H3 H5 pk Lv (keysFor gs) as := ⟨s4.trans s5, e5, s5 _ _ e4, va.same s5⟩
  have npos : 0 < (keysFor gs).length * (valsFor bs).length := Nat.mul_pos (keys_pos _ _) (vals_pos _ _ _)
  generalize hks : keysFor gs = ks at e5 c5 npos ⊢
  generalize hvs : valsFor bs = vs at eas las npos ⊢
  have wk : Walk (Itl K pk) ks.length (fun H => SqL K H pk ks) (YAt ks) := walk_list
  have wl : Walk (Itl K Lv) as.length (fun H => SqL K H Lv (as.map fun a => V.ref a.1)) (YAt (as.map fun a => V.ref a.1)) := by
    have := walk_list (K := K) (a := Lv) (xs := as.map fun a => V.ref a.1)
    rw [List.length_map] at this
    exact this
  refine ⟨ks.length, fun j r i s H H' σ => r + j * vs.length = ks.length * vs.length ∧ i = j * vs.length ∧ CrS H H' pk Lv ks as ∧ (r = 0 → H' = H) ∧ ∃ x3 x4 : Option V, σ = [some (.ref lb), some (.ref lg), some (.ref Lv), x3, x4],
    fun j r i s H H' σ => r + j * vs.length = ks.length * vs.length ∧ i = j * vs.length ∧ CrS H H' pk Lv ks as ∧ (r = 0 → H' = H) ∧ ∃ (k : V) (x4 : Option V), ks[j]? = some k ∧ σ = [some (.ref lb), some (.ref lg), some (.ref Lv), some k, x4],
    ⟨by rw [Nat.zero_mul]; rfl, by rw [Nat.zero_mul], c5, (fun z => absurd z (Nat.ne_of_gt npos)), _, _, rfl⟩, ?_, ?_, ?_, ?_⟩
  · rintro j r i s H H' σ hj ⟨e1, e2, c, z0, x3, x4, rfl⟩
    refine ⟨wk.goes j H' hj (.of c.k), fun x H5 y => ?_⟩
    obtain ⟨rfl, hx⟩ := wk.yields j H' x H5 hj (.of c.k) y
    exact ⟨e1, e2, c, z0, x, x4, hx, rfl⟩
  · rintro r i s H H' σ ⟨e1, e2, c, _⟩
    exact wk.stops H' (.of c.k)
  · rintro Cl fsI at1 hq1 j r i s H σ2 H2 u2 pt hj ⟨e1, e2, c, z0, k, x4, hk, rfl⟩ hpt I2 hs2 next
    refine sg_cons (sg_for kF at1 rfl (by exact pi_list (pv 2)) (g := gName 4) (fun s H => by exact pg_name (i := 4) scCRec.nd rfl (.inl rfl)) I2 hs2 ?_)
    refine ⟨_, rfl, Lv, rfl, ⟨_, .of c.l⟩, ?_⟩
    refine ⟨as.length, fun jj r i s H H' σ => r + (j * vs.length + jj) = ks.length * vs.length ∧ i = j * vs.length + jj ∧ CrS H H' pk Lv ks as ∧ (r = 0 → H' = H) ∧ ∃ x4 : Option V, σ = [some (.ref lb), some (.ref lg), some (.ref Lv), some k, x4],
      fun jj r i s H H' σ => r + (j * vs.length + jj) = ks.length * vs.length ∧ i = j * vs.length + jj ∧ CrS H H' pk Lv ks as ∧ ∃ av : ValE, as[jj]? = some av ∧ σ = [some (.ref lb), some (.ref lg), some (.ref Lv), some k, some (.ref av.1)],
      ⟨e1, e2, c, z0, _, rfl⟩, ?_, ?_, ?_, ?_⟩
    · rintro jj r i s H H' σ hj2 ⟨e1, e2, c, z0, x4, rfl⟩
      refine ⟨wl.goes jj H' hj2 (.of c.l), fun x H5 y => ?_⟩
      obtain ⟨rfl, hx⟩ := wl.yields jj H' x H5 hj2 (.of c.l) y
      rw [List.getElem?_map] at hx
      obtain ⟨av, hav, rfl⟩ := Option.map_eq_some_iff.mp hx
      exact ⟨e1, e2, c, av, hav, rfl⟩
    · rintro r i s H H' σ ⟨e1, e2, c, _⟩
      exact wl.stops H' (.of c.l)
    · rintro Cl2 fs2 at2 hq2 jj r i s H σ2 H2 u2 pt2 hj2 ⟨e1, e2, c, av, hav, rfl⟩ hpt2 I hs next2
      have hlen : jj < vs.length := by rw [← las]; exact hj2
      have hlt : j * vs.length + jj < ks.length * vs.length := by
        have h1 : (j + 1) * vs.length ≤ ks.length * vs.length := Nat.mul_le_mul_right _ hj
        rw [Nat.succ_mul] at h1
        omega
      obtain ⟨r', rfl⟩ : ∃ r', r = r' + 1 := ⟨r - 1, by omega⟩
      refine sg_cons (sg_out kF at2.over at2.split rfl at2.guard (List.mem_append_left _ (List.mem_append_left _ hself)) (fun p hp => ?_) (by exact pe_tup (pa_cons (pv 3) (pa_cons (pv 4) pa_nil))) I ?_)
      · rcases List.mem_append.mp hp with hp | hp
        · rcases List.mem_append.mp hp with hp | hp
          · exact hold p hp
          · exact hpt p hp
        · exact hpt2 p hp
      · refine ⟨_, rfl, _, rfl, (by show 2 ≤ sizeLine; rw [sizeLine_eq]; decide), fun T hT => ⟨⟨c.s.trans (Same.new hT), T, av.1, k, av.2, rfl, upd_same, (c.v.same (Same.new hT)) av (List.mem_of_getElem? hav), ?_, ?_⟩, fun s6 H6 I6 w6 => ?_⟩⟩
        · rw [e2, (div_at hlen).1]
          exact hk
        · rw [e2, (div_at hlen).2, ← eas, List.getElem?_map, hav]
          rfl
        · refine sg_nil ?_
          obtain ⟨m6, hn6, _⟩ := I6.loc
          exact next2 r' (i + 1) s6 H6 H6 _ s6 ⟨by omega, by rw [e2]; omega, c.anew ((Same.new hT).trans w6), (fun _ => rfl), _, rfl⟩ (Nat.le_of_lt hn6.lt) I6
    · rintro r i s H H' σ u ⟨e1, e2, c, z0, x4, rfl⟩ I hs
      refine sg_nil ?_
      refine next r i s H H' _ u ⟨?_, ?_, c, z0, _, _, rfl⟩ hs I
      · rw [Nat.succ_mul, ← las]
        rw [← las] at e1
        exact e1
      · rw [Nat.succ_mul, ← las]
        rw [← las] at e2
        exact e2
  · rintro r i s H H' σ u ⟨e1, e2, c, z0, x3, x4, rfl⟩ I hs
    refine sg_nil ?_
    have er : r = 0 := by omega
    subst er
    have eH := z0 rfl
    subst eH
    exact sg_end (.ok (.ret .none)) (phi_end (.inl rfl) I)
end
end G

set_option Elab.async false
set_option linter.all false
set_option maxRecDepth 100000
set_option maxHeartbeats 2000000
/-! CB1: the leaves of a condition. -/
namespace G
open PySem PySem.Spec PyProof.Rows L2 NdefX StX
theorem scLeafAll : FnScope ["self"] ["self"] (defScope sLeafAll) := ⟨rfl, rfl, rfl, by decide +kernel, rfl, by decide +kernel, by decide +kernel⟩
theorem scPairAll : FnScope ["self"] ["self"] (defScope sPairAll) := ⟨rfl, rfl, rfl, by decide +kernel, rfl, by decide +kernel, by decide +kernel⟩
theorem scNotAll : FnScope ["self"] ["self"] (defScope (sNt 4)) := ⟨rfl, rfl, rfl, by decide +kernel, rfl, by decide +kernel, by decide +kernel⟩
def Md.lvs : Md → List Md
  | .btw z lo hi => [.btw z lo hi]
  | .nam zs => [.nam zs]
  | .neg m => m.lvs
  | .both a b => a.lvs ++ b.lvs
  | .eith a b => a.lvs ++ b.lvs
theorem Md.lvs_len : ∀ m : Md, m.lvs.length = m.leaves
  | .btw _ _ _ => rfl
  | .nam _ => rfl
  | .neg m => m.lvs_len
  | .both a b => by
    show (a.lvs ++ b.lvs).length = a.leaves + b.leaves
    rw [List.length_append, a.lvs_len, b.lvs_len]
  | .eith a b => by
    show (a.lvs ++ b.lvs).length = a.leaves + b.leaves
    rw [List.length_append, a.lvs_len, b.lvs_len]
theorem Md.lvs_leaf : ∀ {m l : Md}, l ∈ m.lvs → l.tag < 2
  | .btw _ _ _, l, h => by
    rw [List.mem_singleton.mp h]
    show 0 < 2
    decide
  | .nam _, l, h => by
    rw [List.mem_singleton.mp h]
    show 1 < 2
    decide
  | .neg m, l, h => Md.lvs_leaf (m := m) h
  | .both a b, l, h => (List.mem_append.mp h).elim (fun h => Md.lvs_leaf (m := a) h) fun h => Md.lvs_leaf (m := b) h
  | .eith a b, l, h => (List.mem_append.mp h).elim (fun h => Md.lvs_leaf (m := a) h) fun h => Md.lvs_leaf (m := b) h
theorem Md.lvs_good : ∀ {m l : Md}, m.good → l ∈ m.lvs → l.good
  | .btw _ _ _, l, g, h => by
    rw [List.mem_singleton.mp h]
    exact g
  | .nam _, l, g, h => by
    rw [List.mem_singleton.mp h]
    exact g
  | .neg m, l, g, h => Md.lvs_good (m := m) g h
  | .both a b, l, g, h => (List.mem_append.mp h).elim (fun h => Md.lvs_good (m := a) g.1 h) fun h => Md.lvs_good (m := b) g.2 h
  | .eith a b, l, g, h => (List.mem_append.mp h).elim (fun h => Md.lvs_good (m := a) g.1 h) fun h => Md.lvs_good (m := b) g.2 h
/-- leaves: a place each, what stands there -/
abbrev LfE := Addr × Md
def LfsAt (c : Cs) (H : Hp) (ls : List LfE) : Prop := ∀ l ∈ ls, CoAt c H l.1 l.2
theorem LfsAt.same {c : Cs} {H H' : Hp} {ls : List LfE} (h : LfsAt c H ls) (s : Same H H') : LfsAt c H' ls := fun l hl => (h l hl).same s
def spAllL (c : Cs) (t d : Nat) : Sp := fun vs H Q _ => ∃ (a : Addr) (m : Md), vs = [.ref a] ∧ CoAt c H a m ∧ m.tag = t ∧ m.depth ≤ d ∧ m.leaves ≤ 6 ∧
  ∀ (p : Addr) (ls : List LfE) (H' : Hp), H p = none → Same H H' → H' p = some (.lst (ls.map fun l => V.ref l.1)) → LfsAt c H' ls → ls.map (·.2) = m.lvs → Q (.ref p) H'
def spLeafL (c : Cs) : Sp := fun vs H Q _ => ∃ (a : Addr) (m : Md), vs = [.ref a] ∧ CoAt c H a m ∧ m.lvs = [m] ∧
  ∀ (p : Addr) (ls : List LfE) (H' : Hp), H p = none → Same H H' → H' p = some (.lst (ls.map fun l => V.ref l.1)) → LfsAt c H' ls → ls.map (·.2) = m.lvs → Q (.ref p) H'
def LeavesAll (P : Program) (w : World) (K : PySem.W.Frag) (mg : Str → Option Value) (base : Heap) (c : Cs) (k d : Nat) : Prop := ∀ m : Md, PolyM P w K mg base k (m.cls c) "all_leaves" (spAllL c m.tag d)
theorem CoAt.getL {c : Cs} {H : Hp} : ∀ {m : Md} {a : Addr}, CoAt c H a m → ∃ dx fs, H a = some (.ins (m.cls c) dx fs) ∧ fs.lookup ("all_leaves" : Str) = none ∧ fs.lookup ("holds" : Str) = none
  | .btw z lo hi, a, ⟨dx, e⟩ => ⟨dx, _, e, rfl, rfl⟩
  | .nam zs, a, ⟨t, dx, e, _⟩ => ⟨dx, _, e, rfl, rfl⟩
  | .neg m, a, ⟨p, dx, e, _⟩ => ⟨dx, _, e, rfl, rfl⟩
  | .both m n, a, ⟨p, q, dx, e, _, _⟩ => ⟨dx, _, e, rfl, rfl⟩
  | .eith m n, a, ⟨p, q, dx, e, _, _⟩ => ⟨dx, _, e, rfl, rfl⟩
section
variable {P : Program} {w : World} {K : PySem.W.Frag} {mg : Str → Option Value} {base : Heap} {c : Cs} {D : Addr} {f : Addr} {fd : FuncData}
theorem ok_leafall (F : Fun K "all_leaves" "Leaf.all_leaves" sLeafAll f fd) : FnOk P w K mg base CX0 1 f fd ["self"] (spLeafL c) := by
  refine F.ok scLeafAll (fun vs H Q E h => ?_) (fun cdv A outer s H vs Q E hr h => ?_)
  · obtain ⟨a, m, rfl, _⟩ := h
    rfl
  · obtain ⟨a, m, rfl, hc, hl, q⟩ := h
    refine ⟨_, pss_one (ps_ret (pe_lst (pa_cons (pv 0) pa_nil))), ?_⟩
    refine ⟨_, rfl, (by show 1 ≤ sizeLine; rw [sizeLine_eq]; decide), fun p hp => q p [(a, m)] _ hp (Same.new hp) upd_same (fun l hl => ?_) hl.symm⟩
    rw [List.mem_singleton.mp hl]
    exact hc.same (Same.new hp)
theorem leaf_all {t d : Nat} (ht : t < 2) (G : FnOk P w K mg base CX0 1 f fd ["self"] (spLeafL c)) : FnOk P w K mg base CX0 1 f fd ["self"] (spAllL c t d) := by
  refine G.imp fun vs H Q E h => ?_
  obtain ⟨a, m, rfl, hc, hm, hd, l6, q⟩ := h
  refine ⟨a, m, rfl, hc, ?_, q⟩
  cases m with
  | btw z lo hi => rfl
  | nam zs => rfl
  | neg m => exact absurd (show 2 < 2 by rw [← hm] at ht; exact ht) (by decide)
  | both a b => exact absurd (show 3 < 2 by rw [← hm] at ht; exact ht) (by decide)
  | eith a b => exact absurd (show 4 < 2 by rw [← hm] at ht; exact ht) (by decide)
theorem ok_pairall {k d t : Nat} (ht : t = 3 ∨ t = 4) (HA : LeavesAll P w K mg base c k d) (F : Fun K "all_leaves" "Pair.all_leaves" sPairAll f fd) (clb : Cls K c.bo) (cle : Cls K c.ei) (n1 : NoAttr K c.bo "first") (n2 : NoAttr K c.bo "second") (n3 : NoAttr K c.ei "first") (n4 : NoAttr K c.ei "second") :
    FnOk P w K mg base CX0 (k + 1) f fd ["self"] (spAllL c t (d + 1)) := by
  refine F.ok scPairAll (fun vs H Q E h => ?_) (fun cdv A outer s H vs Q E hr h => ?_)
  · obtain ⟨a, m, rfl, _⟩ := h
    rfl
  · obtain ⟨a, m, rfl, hc, hm, hd, l6, q⟩ := h
    have ex : ∃ (m1 m2 : Md) (C p q' dx : Addr) (fs : List (Str × V)), H a = some (.ins C dx fs) ∧ Cls K C ∧ NoAttr K C "first" ∧ NoAttr K C "second" ∧ fs.lookup ("first" : Str) = some (.ref p) ∧ fs.lookup ("second" : Str) = some (.ref q') ∧ CoAt c H p m1 ∧ CoAt c H q' m2 ∧
        m1.depth ≤ d ∧ m2.depth ≤ d ∧ m1.leaves + m2.leaves ≤ 6 ∧ m.lvs = m1.lvs ++ m2.lvs := by
      rcases ht with rfl | rfl
      · cases m with
        | both m1 m2 =>
          obtain ⟨p, q', dx, ha, h1, h2⟩ := hc
          have hd : max m1.depth m2.depth + 1 ≤ d + 1 := hd
          exact ⟨m1, m2, _, p, q', dx, _, ha, clb, n1, n2, rfl, rfl, h1, h2, by omega, by omega, l6, rfl⟩
        | _ => cases hm
      · cases m with
        | eith m1 m2 =>
          obtain ⟨p, q', dx, ha, h1, h2⟩ := hc
          have hd : max m1.depth m2.depth + 1 ≤ d + 1 := hd
          exact ⟨m1, m2, _, p, q', dx, _, ha, cle, n3, n4, rfl, rfl, h1, h2, by omega, by omega, l6, rfl⟩
        | _ => cases hm
    obtain ⟨m1, m2, C, p, q', dx, fs, ha, cl, x1, x2, k1, k2, h1, h2, d1, d2, l12, el⟩ := ex
    obtain ⟨dp, fp, hp, lp, _⟩ := h1.getL
    obtain ⟨dq, fq, hq, lq, _⟩ := h2.getL
    refine ⟨_, pss_one (ps_ret (pe_op op_cat (pe_methV0 (k := k) (pe_fld (pv 0) rfl) hr pass0) (pe_methV0 (k := k) (pe_fld (pv 0) rfl) hr pass0))), ?_⟩
    refine ⟨_, rfl, a, C, dx, fs, _, rfl, ha, cl, x1, k1, p, _, dp, fp, spAllL c m1.tag d, rfl, hp, HA m1, lp, p, m1, rfl, h1, rfl, d1, by omega, fun p1 ls1 H1 hp1 s1 e1 v1 g1 => ?_⟩
    refine ⟨_, rfl, a, C, dx, fs, _, rfl, s1 _ _ ha, cl, x2, k2, q', _, dq, fq, spAllL c m2.tag d, rfl, s1 _ _ hq, HA m2, lq, q', m2, rfl, h2.same s1, rfl, d2, by omega, fun p2 ls2 H2 hp2 s2 e2 v2 g2 => ?_⟩
    have n1 : ls1.length = m1.leaves := by rw [← m1.lvs_len, ← g1, List.length_map]
    have n2 : ls2.length = m2.leaves := by rw [← m2.lvs_len, ← g2, List.length_map]
    refine ⟨p1, p2, _, _, rfl, rfl, s2 _ _ e1, e2, by rw [List.length_map, List.length_map]; exact Nat.le_of_lt (small1000 (by omega)), fun r hr' => ?_⟩
    have s3 := Same.new (o := .lst ((ls1.map fun l => V.ref l.1) ++ (ls2.map fun l => V.ref l.1))) hr'
    refine q r (ls1 ++ ls2) _ ((s1.trans s2).free hr') ((s1.trans s2).trans s3) (by rw [upd_same, List.map_append]) (fun l hl => ?_) (by rw [List.map_append, g1, g2, el])
    rcases List.mem_append.mp hl with hl | hl
    · exact ((v1 l hl).same s2).same s3
    · exact (v2 l hl).same s3
theorem ok_notall {k d : Nat} (HA : LeavesAll P w K mg base c k d) (F : Fun K "all_leaves" "Not.all_leaves" (sNt 4) f fd) (cl : Cls K c.nt) (n1 : NoAttr K c.nt "inner") : FnOk P w K mg base CX0 (k + 1) f fd ["self"] (spAllL c 2 (d + 1)) := by
  refine F.ok scNotAll (fun vs H Q E h => ?_) (fun cdv A outer s H vs Q E hr h => ?_)
  · obtain ⟨a, m, rfl, _⟩ := h
    rfl
  · obtain ⟨a, m, rfl, hc, hm, hd, l6, q⟩ := h
    refine ⟨_, pss_one (ps_ret (pe_methV0 (k := k) (pe_fld (pv 0) rfl) hr pass0)), ?_⟩
    cases m with
    | neg m =>
      obtain ⟨p, dx, ha, h1⟩ := hc
      obtain ⟨dp, fp, hp, lp, _⟩ := h1.getL
      have hd : m.depth + 1 ≤ d + 1 := hd
      exact ⟨_, rfl, a, _, dx, _, _, rfl, ha, cl, n1, rfl, p, _, dp, fp, spAllL c m.tag d, rfl, hp, HA m, lp, p, m, rfl, h1, rfl, by omega, l6, q⟩
    | _ => cases hm
/-! ### put together, down to any depth -/
theorem fn_noneC {CX : CXT} {k : Nat} {ps : List Str} {sp : Sp} (h : ∀ vs H Q E, sp vs H Q E → False) : FnOk P w K mg base CX k f fd ps sp :=
  ⟨fun vs H Q E z => (h vs H Q E z).elim, fun _ _ _ _ _ _ _ _ _ _ _ _ _ z => (h _ _ _ _ z).elim⟩
def LeafMt (P : Program) (w : World) (K : PySem.W.Frag) (mg : Str → Option Value) (base : Heap) (m : Str) (ps : List Str) (sp : Nat → Sp) (C : Addr) : Prop := ∃ (f : Addr) (fd : FuncData), Meth K C m f ∧ Binds K fd ps [] ∧ ∀ d, FnOk P w K mg base CX0 1 f fd ps (sp d)
def TreeMt (P : Program) (w : World) (K : PySem.W.Frag) (mg : Str → Option Value) (base : Heap) (m : Str) (ps : List Str) (sp : Nat → Sp) (All : Nat → Nat → Prop) (C : Addr) : Prop := ∃ (f : Addr) (fd : FuncData), Meth K C m f ∧ Binds K fd ps [] ∧ ∀ k d, All k d → FnOk P w K mg base CX0 (k + 1) f fd ps (sp (d + 1))
theorem all_none {t : Nat} : ∀ vs H Q E, spAllL c t 0 vs H Q E → False := fun vs H Q E h => by
  obtain ⟨a, m, _, _, _, hd, _⟩ := h
  have := m.depth_pos
  omega
theorem hol_none {t : Nat} : ∀ vs H Q E, spHolds c t 0 vs H Q E → False := fun vs H Q E h => by
  obtain ⟨a, v, y, m, zs, kvs, _, _, _, hd, _⟩ := h
  have := m.depth_pos
  omega
/-- the five classes keep such a promise for a method, if leaves and trees do -/
theorem poly_all {mt : Str} {ps : List Str} {sp : Nat → Nat → Sp} (O : CsOk K D c) (none : ∀ t vs H Q E, sp t 0 vs H Q E → False)
    (h0 : LeafMt P w K mg base mt ps (sp 0) c.bt) (h1 : LeafMt P w K mg base mt ps (sp 1) c.nm)
    (h2 : TreeMt P w K mg base mt ps (sp 2) (fun k d => ∀ m : Md, PolyM P w K mg base k (m.cls c) mt (sp m.tag d)) c.nt) (h3 : TreeMt P w K mg base mt ps (sp 3) (fun k d => ∀ m : Md, PolyM P w K mg base k (m.cls c) mt (sp m.tag d)) c.bo)
    (h4 : TreeMt P w K mg base mt ps (sp 4) (fun k d => ∀ m : Md, PolyM P w K mg base k (m.cls c) mt (sp m.tag d)) c.ei) : ∀ d (m : Md), PolyM P w K mg base (d + 1) (m.cls c) mt (sp m.tag d)
  | 0 => fun m => by
    obtain ⟨f1, fd1, m1, b1, g1⟩ := h0
    obtain ⟨f2, fd2, m2, b2, g2⟩ := h1
    obtain ⟨f3, fd3, m3, b3, g3⟩ := h2
    obtain ⟨f4, fd4, m4, b4, g4⟩ := h3
    obtain ⟨f5, fd5, m5, b5, g5⟩ := h4
    cases m with
    | btw z lo hi => exact ⟨O.bt.cl, f1, fd1, _, m1, b1, g1 0⟩
    | nam zs => exact ⟨O.nm.cl, f2, fd2, _, m2, b2, g2 0⟩
    | neg m => exact ⟨O.nt.cl, f3, fd3, ps, m3, b3, fn_noneC (none _)⟩
    | both m n => exact ⟨O.bo.cl, f4, fd4, ps, m4, b4, fn_noneC (none _)⟩
    | eith m n => exact ⟨O.ei.cl, f5, fd5, ps, m5, b5, fn_noneC (none _)⟩
  | d + 1 => fun m => by
    have HA := poly_all O none h0 h1 h2 h3 h4 d
    obtain ⟨f1, fd1, m1, b1, g1⟩ := h0
    obtain ⟨f2, fd2, m2, b2, g2⟩ := h1
    obtain ⟨f3, fd3, m3, b3, g3⟩ := h2
    obtain ⟨f4, fd4, m4, b4, g4⟩ := h3
    obtain ⟨f5, fd5, m5, b5, g5⟩ := h4
    cases m with
    | btw z lo hi => exact ⟨O.bt.cl, f1, fd1, _, m1, b1, (g1 _).mono (by omega)⟩
    | nam zs => exact ⟨O.nm.cl, f2, fd2, _, m2, b2, (g2 _).mono (by omega)⟩
    | neg m => exact ⟨O.nt.cl, f3, fd3, _, m3, b3, g3 _ _ HA⟩
    | both m n => exact ⟨O.bo.cl, f4, fd4, _, m4, b4, g4 _ _ HA⟩
    | eith m n => exact ⟨O.ei.cl, f5, fd5, _, m5, b5, g5 _ _ HA⟩
end
end G

set_option Elab.async false
set_option linter.all false
set_option maxRecDepth 100000
set_option maxHeartbeats 4000000
/-! CB2: what the candidates of two conditions are. -/
namespace G
open PySem PySem.Spec PyProof.Rows L2 NdefX StX DbB SsT DsT Lc2 GZ
def btwB : Md → Option Bnd
  | .btw z lo hi => some (z, lo, hi)
  | _ => none
def namG : Md → Option (List Str)
  | .nam zs => some zs
  | _ => none
def partBs (m n : Md) : List Bnd := (m.lvs ++ n.lvs).filterMap btwB
def partGs (m n : Md) : List (List Str) := (m.lvs ++ n.lvs).filterMap namG
def candK (m n : Md) : List V := keysOf (partGs m n) (freeOf (allNs (partGs m n)))
def candV (m n : Md) : List Kvs := valsOf (partBs m n) (fldsOf (partBs m n)) (freeOf (fldsOf (partBs m n)))
/-! ### numbers within bounds, names are names -/
def BsOk (bs : List Bnd) : Prop := ∀ b ∈ bs, NameZ b.1 ∧ -999 ≤ b.2.1 ∧ b.2.2 ≤ 999
theorem lvs_bs {m n : Md} (g1 : m.good) (g2 : n.good) : BsOk (partBs m n) := fun b hb => by
  obtain ⟨l, hl, e⟩ := List.mem_filterMap.mp hb
  have g : l.good := (List.mem_append.mp hl).elim (Md.lvs_good g1) (Md.lvs_good g2)
  cases l with
  | btw z lo hi =>
    cases e
    exact ⟨g.1, g.2.1, g.2.2.2⟩
  | _ => cases e
theorem lvs_gs {m n : Md} (g1 : m.good) (g2 : n.good) : ∀ z ∈ allNs (partGs m n), NameZ z := fun z hz => by
  obtain ⟨g, hg, hz⟩ := List.mem_flatten.mp hz
  obtain ⟨l, hl, e⟩ := List.mem_filterMap.mp hg
  have gd : l.good := (List.mem_append.mp hl).elim (Md.lvs_good g1) (Md.lvs_good g2)
  cases l with
  | nam zs =>
    cases e
    exact gd z hz
  | _ => cases e
def lfN : Md → Nat
  | .nam zs => zs.length
  | _ => 0
theorem names_sum : ∀ m : Md, (m.lvs.map lfN).sum = m.names
  | .btw _ _ _ => rfl
  | .nam zs => by
    show zs.length + 0 = zs.length
    omega
  | .neg m => names_sum m
  | .both a b => by
    show ((a.lvs ++ b.lvs).map lfN).sum = a.names + b.names
    rw [List.map_append, List.sum_append, names_sum a, names_sum b]
  | .eith a b => by
    show ((a.lvs ++ b.lvs).map lfN).sum = a.names + b.names
    rw [List.map_append, List.sum_append, names_sum a, names_sum b]
theorem gs_few : ∀ ls : List Md, (allNs (ls.filterMap namG)).length = (ls.map lfN).sum
  | [] => rfl
  | l :: ls => by
    have ih := gs_few ls
    cases l with
    | nam zs =>
      show (allNs (zs :: ls.filterMap namG)).length = zs.length + (ls.map lfN).sum
      unfold allNs at ih ⊢
      rw [List.flatten_cons, List.length_append, ih]
    | btw z lo hi =>
      show (allNs (ls.filterMap namG)).length = 0 + (ls.map lfN).sum
      rw [ih, Nat.zero_add]
    | neg m =>
      show (allNs (ls.filterMap namG)).length = 0 + (ls.map lfN).sum
      rw [ih, Nat.zero_add]
    | both a b =>
      show (allNs (ls.filterMap namG)).length = 0 + (ls.map lfN).sum
      rw [ih, Nat.zero_add]
    | eith a b =>
      show (allNs (ls.filterMap namG)).length = 0 + (ls.map lfN).sum
      rw [ih, Nat.zero_add]
theorem part_gs_few (m n : Md) : (allNs (partGs m n)).length = m.names + n.names := by
  unfold partGs
  rw [gs_few, List.map_append, List.sum_append, names_sum, names_sum]
theorem part_bs_few (m n : Md) : (partBs m n).length ≤ m.leaves + n.leaves := by
  unfold partBs
  refine Nat.le_trans (List.length_filterMap_le _ _) ?_
  rw [List.length_append, m.lvs_len, n.lvs_len]
  exact Nat.le_refl _
theorem part_gs_len (m n : Md) : (partGs m n).length ≤ m.leaves + n.leaves := by
  unfold partGs
  refine Nat.le_trans (List.length_filterMap_le _ _) ?_
  rw [List.length_append, m.lvs_len, n.lvs_len]
  exact Nat.le_refl _
/-! ### the keys -/
theorem keysAcc_mem {gs : List (List Str)} {zs : List Str} : ∀ e ∈ keysAcc gs zs, ∃ z ∈ zs, e = (holdK gs z, V.str z) := by
  have gen : ∀ (zs : List Str) (acc : List NumE) (S : Str → Prop), (∀ e ∈ acc, ∃ z, S z ∧ e = (holdK gs z, V.str z)) → (∀ z ∈ zs, S z) → ∀ e ∈ zs.foldl (addKey gs) acc, ∃ z, S z ∧ e = (holdK gs z, V.str z) := fun zs => by
    induction zs with
    | nil => exact fun acc S h _ => h
    | cons z zs ih =>
      intro acc S h hz
      rw [List.foldl_cons]
      refine ih _ S (fun e he => ?_) fun y hy => hz y (List.mem_cons_of_mem _ hy)
      unfold addKey at he
      split at he
      · exact h e he
      · rcases List.mem_append.mp he with he | he
        · exact h e he
        · rw [List.mem_singleton.mp he]
          exact ⟨z, hz z List.mem_cons_self, rfl⟩
  intro e he
  exact gen zs [] (fun z => z ∈ zs) (fun e h => nomatch h) (fun z h => h) e he
theorem candK_name {m n : Md} (g1 : m.good) (g2 : n.good) (few : m.names + n.names < 26) : ∀ k ∈ candK m n, ∃ y, k = .str y ∧ NameZ y := fun k hk => by
  obtain ⟨e, he, rfl⟩ := List.mem_map.mp hk
  obtain ⟨z, hz, rfl⟩ := keysAcc_mem e he
  refine ⟨z, rfl, ?_⟩
  rcases List.mem_append.mp hz with hz | hz
  · exact lvs_gs g1 g2 z hz
  · rw [List.mem_singleton.mp hz]
    exact (free_ofC (by rw [part_gs_few]; exact few)).1
/-! ### the values -/
theorem addNum_in {rs : List (Int × Int)} {acc : List NumE} {n : Int} (R : ∀ r ∈ rs, -999 ≤ r.1 ∧ r.2 ≤ 999) (h : ∀ e ∈ acc, ∃ i : Int, e.2 = .int i ∧ -999 ≤ i ∧ i ≤ 999) : ∀ e ∈ addNum rs acc n, ∃ i : Int, e.2 = .int i ∧ -999 ≤ i ∧ i ≤ 999 := by
  intro e he
  unfold addNum at he
  split at he
  · rename_i ha
    split at he
    · exact h e he
    · rcases List.mem_append.mp he with he | he
      · exact h e he
      · rw [List.mem_singleton.mp he]
        obtain ⟨b, hb, e1⟩ := List.any_eq_true.mp ha
        obtain ⟨r, hr, rfl⟩ := List.mem_map.mp hb
        have e1 : (decide (r.1 ≤ n) && decide (n ≤ r.2)) = true := e1
        rw [Bool.and_eq_true, decide_eq_true_eq, decide_eq_true_eq] at e1
        have := R r hr
        exact ⟨n, rfl, by omega, by omega⟩
  · exact h e he
theorem nums_in {bs : List Bnd} (B : BsOk bs) (z : Str) : ∀ v ∈ numsFor bs z, ∃ i : Int, v = .int i ∧ -999 ≤ i ∧ i ≤ 999 := by
  have R : ∀ r ∈ rngFor bs z, -999 ≤ r.1 ∧ r.2 ≤ 999 := fun r hr => by
    obtain ⟨b, hb, rfl⟩ := List.mem_map.mp hr
    exact (B b (List.mem_filter.mp hb).1).2
  have gen : ∀ (l : List (Int × Int)) (acc : List NumE), (∀ e ∈ acc, ∃ i : Int, e.2 = .int i ∧ -999 ≤ i ∧ i ≤ 999) → ∀ e ∈ l.foldl (fun acc r => addNum (rngFor bs z) (addNum (rngFor bs z) acc r.1) (r.2 + 1)) acc, ∃ i : Int, e.2 = .int i ∧ -999 ≤ i ∧ i ≤ 999 := fun l => by
    induction l with
    | nil => exact fun acc h => h
    | cons r l ih =>
      intro acc h
      rw [List.foldl_cons]
      exact ih _ (addNum_in R (addNum_in R h))
  intro v hv
  obtain ⟨e, he, rfl⟩ := List.mem_map.mp hv
  exact gen _ [] (fun e h => nomatch h) e he
theorem putK_nd {kvs : Kvs} {k : Key} {v : V} (h : (kvs.map (·.1)).Nodup) : ((putK kvs k v).map (·.1)).Nodup := by
  unfold putK
  split
  · rw [List.map_map]
    have : (kvs.map ((fun x => x.1) ∘ fun kv => if kv.1 = k then (kv.1, v) else kv)) = kvs.map (·.1) := by
      refine List.map_congr_left fun p hp => ?_
      show (if p.1 = k then (p.1, v) else p).1 = p.1
      split <;> rfl
    rw [this]
    exact h
  · rename_i hn
    rw [List.map_append, List.nodup_append]
    refine ⟨h, by simp, fun a ha b hb e => hn ?_⟩
    obtain ⟨p, hp, rfl⟩ := List.mem_map.mp ha
    have hb : b = k := List.mem_singleton.mp hb
    exact List.any_eq_true.mpr ⟨p, hp, decide_eq_true (e.trans hb)⟩
/-- such a value -/
structure KvOk (zs : List Str) (kv : Kvs) : Prop where
  is : ValN zs kv
  six : kv.length ≤ 6
  nd : (kv.map (·.1)).Nodup
theorem KvOk.more {zs ys : List Str} {kv : Kvs} (h : KvOk zs kv) (s : ∀ z ∈ zs, z ∈ ys) : KvOk ys kv := ⟨fun p hp => let ⟨z, i, e, hz, r⟩ := h.is p hp; ⟨z, i, e, s z hz, r⟩, h.six, h.nd⟩
theorem step_ok {zs : List Str} {z : Str} {vals : List Kvs} {ns : List V} (hz : z ∈ zs) (N : ∀ v ∈ ns, ∃ i : Int, v = .int i ∧ -999 ≤ i ∧ i ≤ 999) (h : ∀ kv ∈ vals, KvOk zs kv) : ∀ kv ∈ stepOf vals z ns, KvOk zs kv ∧ 1 ≤ kv.length := by
  intro kv hk
  unfold stepOf at hk
  obtain ⟨w, hw, hk⟩ := List.mem_flatMap.mp hk
  obtain ⟨hw, h6⟩ := List.mem_filter.mp hw
  obtain ⟨v, hv, rfl⟩ := List.mem_map.mp hk
  obtain ⟨i, rfl, i1, i2⟩ := N v hv
  have k := h w hw
  have := length_putK w (Sum.inr z) (V.int i)
  have h6 := of_decide_eq_true h6
  exact ⟨⟨k.is.put hz i1 i2, by omega, putK_nd k.nd⟩, putK_pos _ _ _⟩
theorem acc_ok {bs : List Bnd} (B : BsOk bs) (zs : List Str) : ∀ fs : List Str, (∀ z ∈ fs, z ∈ zs) → ∃ rest, valsAcc bs fs = [] :: rest ∧ ∀ kv ∈ rest, KvOk zs kv ∧ 1 ≤ kv.length := by
  intro fs
  have gen : ∀ (fs : List Str) (acc : List Kvs), (∀ z ∈ fs, z ∈ zs) → (∃ rest, acc = [] :: rest ∧ ∀ kv ∈ rest, KvOk zs kv ∧ 1 ≤ kv.length) → ∃ rest, fs.foldl (fun acc z => acc ++ stepOf acc z (numsFor bs z)) acc = [] :: rest ∧ ∀ kv ∈ rest, KvOk zs kv ∧ 1 ≤ kv.length := fun fs => by
    induction fs with
    | nil => exact fun acc _ h => h
    | cons z fs ih =>
      rintro acc hz ⟨rest, rfl, hr⟩
      rw [List.foldl_cons]
      refine ih _ (fun y hy => hz y (List.mem_cons_of_mem _ hy)) ⟨rest ++ stepOf ([] :: rest) z (numsFor bs z), rfl, fun kv hk => ?_⟩
      rcases List.mem_append.mp hk with hk | hk
      · exact hr kv hk
      · refine step_ok (hz z List.mem_cons_self) (nums_in B z) (fun w hw => ?_) kv hk
        rcases List.mem_cons.mp hw with rfl | hw
        · exact ⟨(fun p hp => nomatch hp), Nat.zero_le _, List.nodup_nil⟩
        · exact (hr w hw).1
  exact fun h => gen fs [[]] h ⟨[], rfl, fun kv h => nomatch h⟩
theorem flds_mem {bs : List Bnd} {z : Str} : z ∈ fldsOf bs ↔ z ∈ bs.map (·.1) := (srtT_mem _).mem_iff.trans difs_mem
theorem candV_ok {m n : Md} (g1 : m.good) (g2 : n.good) (few : m.leaves + n.leaves < 26) : ∃ zs, (∀ z ∈ zs, NameZ z) ∧ ∀ kv ∈ candV m n, ValOk zs kv ∧ (kv.map (·.1)).Nodup := by
  have B := lvs_bs g1 g2
  have lf : (fldsOf (partBs m n)).length < 26 := by
    have h1 := (srtT_mem (difs ((partBs m n).map (·.1)))).length_eq
    have h2 := difs_len ((partBs m n).map (·.1))
    have h3 := part_bs_few m n
    rw [List.length_map] at h2
    show (srtT (difs ((partBs m n).map (·.1)))).length < 26
    omega
  have fr := free_ofC lf
  have nm : ∀ z ∈ fldsOf (partBs m n) ++ [freeOf (fldsOf (partBs m n))], NameZ z := fun z hz => by
    rcases List.mem_append.mp hz with hz | hz
    · obtain ⟨b, hb, rfl⟩ := List.mem_map.mp (flds_mem.mp hz)
      exact (B b hb).1
    · rw [List.mem_singleton.mp hz]
      exact fr.1
  refine ⟨_, nm, fun kv hk => ?_⟩
  obtain ⟨rest, e, hr⟩ := acc_ok B (fldsOf (partBs m n) ++ [freeOf (fldsOf (partBs m n))]) (fldsOf (partBs m n)) (fun z hz => List.mem_append.mpr (.inl hz))
  have hk : kv ∈ (valsAcc (partBs m n) (fldsOf (partBs m n))).set 0 [(Sum.inr (freeOf (fldsOf (partBs m n))), V.int 0)] := hk
  rw [e] at hk
  rcases List.mem_cons.mp (show kv ∈ [(Sum.inr (freeOf (fldsOf (partBs m n))), V.int 0)] :: rest from hk) with rfl | hk
  · refine ⟨⟨nm, fun p hp => ?_, Nat.le_refl _, by show 1 ≤ 6; decide⟩, by simp⟩
    rw [List.mem_singleton.mp hp]
    exact ⟨_, 0, rfl, List.mem_append.mpr (.inr (List.mem_singleton.mpr rfl)), by decide, by decide⟩
  · obtain ⟨k, p⟩ := hr kv hk
    exact ⟨⟨nm, k.is, p, k.six⟩, k.nd⟩
end G

set_option Elab.async false
set_option linter.all false
set_option maxRecDepth 100000
set_option maxHeartbeats 4000000
/-! CB3: parting. -/
namespace G
open PySem PySem.Spec PyProof.Rows L2 NdefX StX DbB SsT DsT Lc2 GZ
abbrev nParting : List Str := ["one", "other", "leaves", "bounds", "groups", "key", "value", "leaf"]
theorem scParting : FnScope nParting ["one", "other"] (defScope sParting) := ⟨rfl, rfl, rfl, by decide +kernel, rfl, by decide +kernel, by decide +kernel⟩
theorem scNamAcc : FnScope ["self"] ["self"] (defScope (sNam 1)) := ⟨rfl, rfl, rfl, by decide +kernel, rfl, by decide +kernel, by decide +kernel⟩
/-- sizes that every condition has -/
structure MdOk (m : Md) : Prop where
  good : m.good
  deep : m.depth ≤ 5
  six : m.leaves ≤ 6
  names : m.names ≤ 8
def spParting (c : Cs) : Sp := fun vs H Q _ => ∃ (a b : Addr) (m n : Md), vs = [.ref a, .ref b] ∧ CoAt c H a m ∧ CoAt c H b n ∧ MdOk m ∧ MdOk n ∧
  (∀ H', Same H H' → (∀ y kv, V.str y ∈ candK m n → kv ∈ candV m n → m.holds y kv = n.holds y kv) → Q .non H') ∧
  ∀ (T d : Addr) (y : Str) (kv : Kvs) (zs : List Str) (H' : Hp), H T = none → Same H H' → H' T = some (.tup [.str y, .ref d]) → H' d = some (.dK kv) → NameZ y → ValOk zs kv → (kv.map (·.1)).Nodup → m.holds y kv ≠ n.holds y kv → Q (.ref T) H'
section
variable {P : Program} {w : World} {K : PySem.W.Frag} {mg : Str → Option Value} {base : Heap} {c : Cs} {D : Addr} {f : Addr} {fd : FuncData}
theorem ok_namaccC (F : Fun K "accepted" "Named.accepted" (sNam 1) f fd) (cl : Cls K c.nm) (n : NoAttr K c.nm "accepted_names") : FnOk P w K mg base CX0 1 f fd ["self"] (spNamAcc c.nm) := by
  refine F.ok scNamAcc (fun vs H Q E h => ?_) (fun cdv A outer s H vs Q E hr h => ?_)
  · obtain ⟨a, t, zs, rfl, _⟩ := h
    rfl
  · obtain ⟨a, t, zs, rfl, ⟨dx, ha, _⟩, q⟩ := h
    exact ⟨_, pss_one (ps_ret (pe_fld (pv 0) rfl)), _, rfl, a, c.nm, dx, _, _, rfl, ha, cl, n, rfl, q⟩
/-- a property of a class -/
structure PropP (P : Program) (w : World) (K : PySem.W.Frag) (mg : Str → Option Value) (base : Heap) (C : Addr) (x : Str) (sp : Sp) : Prop where
  ex : ∃ (p g : Addr) (fd : FuncData), PropOf K C x p g ∧ Binds K fd ["self"] [] ∧ FnOk P w K mg base CX0 1 g fd ["self"] sp
/-- all that parting asks of the text -/
structure PartK (P : Program) (w : World) (K : PySem.W.Frag) (mg : Str → Option Value) (base : Heap) (c : Cs) (D : Addr) : Prop where
  o : CsOk K D c
  ek : EqK K c
  la : LeavesAll P w K mg base c 6 5
  ha : HoldsAll P w K mg base c 6 5
  gB : mg "Between" = some (.ref c.bt)
  gN : mg "Named" = some (.ref c.nm)
  mi : mg "isinstance" = none
  pf : PropP P w K mg base c.bt "field" (spBtwField c.bt)
  pl : PropP P w K mg base c.bt "low" (spBtwLow c.bt)
  ph : PropP P w K mg base c.bt "high" (spBtwHigh c.bt)
  pa : PropP P w K mg base c.nm "accepted" (spNamAcc c.nm)
/-- isinstance of a leaf -/
theorem leaf_isi {H : Hp} {a : Addr} {m : Md} (O : CsOk K D c) (ek : EqK K c) (h : CoAt c H a m) {j : Nat} (hj : j < 5) : ∃ t, TyX K H (.ref a) t ∧ PySem.W.kitOne K t (.ref (c.at j)) = some (decide (m.tag = j)) :=
  EqM.isi (o := some m) O ek (.co h) hj
theorem ok_parting {fN fC : Addr} {fdN fdC : FuncData} (F : Fun K "parting" "parting" sParting f fd) (T : PartK P w K mg base c D)
    (GN : FnOk P w K mg base CX0 1 fN fdN ["value"] (spNeedCond c)) (gN : mg "need_condition" = some (.ref fN)) (kN : PySem.W.keepIn K (.ref fN) = true) (bN : Binds K fdN ["value"] [])
    (GC : ∃ (kV doc pm cdv ct oc : Value) (an od : Option Addr) (osl : Array (Option Value)), fdC = PySem.W.fnOf "candidate_records" "candidate_records" (defArgs sCRec) (defBody sCRec) (defScope sCRec) .none kV doc pm an cdv ct ∧
      GDef P w K mg base 3 fC "candidate_records" "candidate_records" (defArgs sCRec) (defBody sCRec) (defScope sCRec) .none kV doc pm cdv ct oc an od osl nCRec ["bounds", "groups"] (spCRec K))
    (gC : mg "candidate_records" = some (.ref fC)) (kC : PySem.W.keepIn K (.ref fC) = true) (bC : Binds K fdC ["bounds", "groups"] []) :
    FnOk P w K mg base CX0 7 f fd ["one", "other"] (spParting c) := by
  obtain ⟨kV0, doc, pm, cdvC, ctC, ocC, anC, odC, oslC, rfl, GD⟩ := GC
  refine F.ok scParting (fun vs H Q E h => ?_) (fun cdv A outer s H vs Q E hr h => ?_)
  · obtain ⟨a, b, m, n, rfl, _⟩ := h
    rfl
  · obtain ⟨a, b, m, n, rfl, ca, cb, ma, mb, q1, q2⟩ := h
    obtain ⟨pp1, pg1, pd1, P1, B1, G1⟩ := T.pf.ex
    obtain ⟨pp2, pg2, pd2, P2, B2, G2⟩ := T.pl.ex
    obtain ⟨pp3, pg3, pd3, P3, B3, G3⟩ := T.ph.ex
    obtain ⟨pp4, pg4, pd4, P4, B4, G4⟩ := T.pa.ex
    have hr1 := hr.mono (show 1 ≤ 6 by decide)
    have hr2 := hr.mono (show 2 ≤ 6 by decide)
    have hr4 := hr.mono (show 4 ≤ 6 by decide)
    have hdp : (A.deeper (envOfC "parting" (defScope sParting) s.heap.objs.size f cdv)).depth < recursionLimit := by have := hr.dp; omega
    refine ⟨_, pss_cons (ps_expr (pe_call GN hr1 rfl gN kN bN .nil pass0 (pa_cons (pv 0) pa_nil)))
      (pss_cons (ps_expr (pe_call GN hr1 rfl gN kN bN .nil pass0 (pa_cons (pv 1) pa_nil)))
      (pss_cons (ps_set (i := 2) scParting.nd rfl (.inl rfl) (pe_op op_cat (pe_methV0 (k := 6) (pv 0) hr pass0) (pe_methV0 (k := 6) (pv 1) hr pass0)))
      (pss_cons (ps_setLc (i := 3) (own := [("leaf", 7)]) (g := gName 7) (tt := tB (tCB (rIsi K) (tCons (tVar 7) (tCons (tC (.ref c.bt)) tNil)))) (te := tTup (tCons (tProp c.bt (spBtwField c.bt) [] E0 (tVar 7)) (tCons (tProp c.bt (spBtwLow c.bt) [] E0 (tVar 7)) (tCons (tProp c.bt (spBtwHigh c.bt) [] E0 (tVar 7)) tNil)))) (by rfl) scParting.nd rfl rfl (sw_true rfl rfl rfl (by decide +kernel)) (pi_list (pv 2))
        (blkOk_by (own := [("leaf", 7)]) (N := nParting) (sc := defScope sParting) (by decide +kernel)) (fun _ _ _ _ _ => pg_name (i := 7) scParting.nd rfl (.inl rfl)) (fun _ _ _ _ _ => pts_one (pt_val (by exact pe_callB call_isi (by rfl) T.mi (by decide +kernel) (pa_cons (pv 7) (pa_cons (pe_glob (v := .ref c.bt) rfl T.gB rfl) pa_nil)))))
        (fun _ _ _ _ _ => pe_tup (pa_cons (pe_prop (pv 7) T.o.bt.cl P1 G1 hr2 B1 .nil pass0 rfl) (pa_cons (pe_prop (pv 7) T.o.bt.cl P2 G2 hr2 B2 .nil pass0 rfl) (pa_cons (pe_prop (pv 7) T.o.bt.cl P3 G3 hr2 B3 .nil pass0 rfl) pa_nil)))))
      (pss_cons (ps_setLc (i := 4) (own := [("leaf", 7)]) (g := gName 7) (tt := tB (tCB (rIsi K) (tCons (tVar 7) (tCons (tC (.ref c.nm)) tNil)))) (te := tProp c.nm (spNamAcc c.nm) [] E0 (tVar 7)) (by rfl) scParting.nd rfl rfl (sw_true rfl rfl rfl (by decide +kernel)) (pi_list (pv 2))
        (blkOk_by (own := [("leaf", 7)]) (N := nParting) (sc := defScope sParting) (by decide +kernel)) (fun _ _ _ _ _ => pg_name (i := 7) scParting.nd rfl (.inl rfl)) (fun _ _ _ _ _ => pts_one (pt_val (by exact pe_callB call_isi (by rfl) T.mi (by decide +kernel) (pa_cons (pv 7) (pa_cons (pe_glob (v := .ref c.nm) rfl T.gN rfl) pa_nil)))))
        (fun _ _ _ _ _ => pe_prop (pv 7) T.o.nm.cl P4 G4 hr2 B4 .nil pass0 rfl))
      (pss_cons (ps_forGi PassesOwn.never rfl (XeG.never fun _ _ h => h) hdp (pgi_call GD hr4 (hr4.in1) rfl gC kC bC (pa_cons (pv 3) (pa_cons (pv 4) pa_nil))) (pg_tup rfl (pgs_cons (pg_name (i := 5) scParting.nd rfl (.inl rfl)) (pgs_cons (pg_name (i := 6) scParting.nd rfl (.inl rfl)) pgs_nil)))
        (pss_one (ps_if (pt_cmpR op_ne (pe_methV (k := 6) (pv 0) hr pass0 (pa_cons (pv 5) (pa_cons (pv 6) pa_nil))) (pe_methV (k := 6) (pv 1) hr pass0 (pa_cons (pv 5) (pa_cons (pv 6) pa_nil))) (nomark _))
          (pss_one (ps_ret (pe_tup (pa_cons (pv 5) (pa_cons (pv 6) pa_nil))))) pss_nil)))
      (pss_one (ps_ret pe_non))))))), ?_⟩
    refine ⟨_, rfl, a, m, rfl, ca, _, rfl, b, n, rfl, cb, ?_⟩
    obtain ⟨dx, fs, ea, la, lha⟩ := ca.getL
    obtain ⟨dy, gs, eb, lb, lhb⟩ := cb.getL
    refine ⟨_, rfl, a, _, dx, fs, spAllL c m.tag 5, rfl, ea, T.la m, la, a, m, rfl, ca, rfl, ma.deep, ma.six, fun p1 ls1 H1 hp1 s1 e1 v1 g1 => ?_⟩
    refine ⟨_, rfl, b, _, dy, gs, spAllL c n.tag 5, rfl, s1 _ _ eb, T.la n, lb, b, n, rfl, cb.same s1, rfl, mb.deep, mb.six, fun p2 ls2 H2 hp2 s2 e2 v2 g2 => ?_⟩
    have n1 : ls1.length = m.leaves := by rw [← m.lvs_len, ← g1, List.length_map]
    have n2 : ls2.length = n.leaves := by rw [← n.lvs_len, ← g2, List.length_map]
    have m6 := ma.six
    have n6 := mb.six
    refine ⟨p1, p2, _, _, rfl, rfl, s2 _ _ e1, e2, by rw [List.length_map, List.length_map]; exact Nat.le_of_lt (small1000 (by omega)), fun pl hpl => ?_⟩
    have s3 := Same.new (o := .lst ((ls1.map fun l => V.ref l.1) ++ (ls2.map fun l => V.ref l.1))) hpl
    have el : (upd H2 pl (.lst ((ls1.map fun l => V.ref l.1) ++ (ls2.map fun l => V.ref l.1)))) pl = some (.lst ((ls1 ++ ls2).map fun l => V.ref l.1)) := by rw [upd_same, List.map_append]
    have s03 := (s1.trans s2).trans s3
    have vl : LfsAt c (upd H2 pl (.lst ((ls1.map fun l => V.ref l.1) ++ (ls2.map fun l => V.ref l.1)))) (ls1 ++ ls2) := fun l hl => (List.mem_append.mp hl).elim (fun h => ((v1 l h).same s2).same s3) fun h => (v2 l h).same s3
    have gl : (ls1 ++ ls2).map (·.2) = m.lvs ++ n.lvs := by rw [List.map_append, g1, g2]
    have nl : (ls1 ++ ls2).length ≤ 12 := by rw [List.length_append]; omega
    have lf : ∀ l ∈ ls1 ++ ls2, l.2.tag < 2 := fun l hl => by
      have : l.2 ∈ m.lvs ++ n.lvs := by
        rw [← gl]
        exact List.mem_map.mpr ⟨l, hl, rfl⟩
      exact (List.mem_append.mp this).elim Md.lvs_leaf Md.lvs_leaf
    generalize upd H2 pl (.lst ((ls1.map fun l => V.ref l.1) ++ (ls2.map fun l => V.ref l.1))) = H3 at el s03 vl ⊢
    generalize ls1 ++ ls2 = ls at el vl gl nl lf
    -- the bounds
    refine ⟨_, rfl, pl, rfl, ⟨_, .of el⟩, fun M hM => ?_⟩
    refine lc_list (xs := ls.map fun l => V.ref l.1) (fun i H4 => Same H3 H4 ∧ ∃ bs : List BndE, H4 M = some (.lst (bs.map fun b => V.ref b.1)) ∧ BndAt H4 bs ∧ bnds bs = ((ls.take i).map (·.2)).filterMap btwB ∧ bs.length ≤ i) ?_ ?_ ?_ ?_
    · exact ⟨Same.new hM, [], upd_same, (fun b h => nomatch h), rfl, Nat.le_refl _⟩
    · exact fun i H4 _ z => .of (z.1 _ _ el)
    · rintro i x H4 hx ⟨s4, bs, e4, b4, f4, l4⟩
      rw [List.getElem?_map] at hx
      obtain ⟨l, hli, rfl⟩ := Option.map_eq_some_iff.mp hx
      have hl := List.mem_of_getElem? hli
      have cl := (vl l hl).same s4
      have li : i < ls.length := (List.getElem?_eq_some_iff.mp hli).1
      have ef : ((ls.take (i + 1)).map (·.2)).filterMap btwB = ((ls.take i).map (·.2)).filterMap btwB ++ (btwB l.2).toList := by
        rw [take_snocK hli, List.map_append, List.filterMap_append]
        rfl
      obtain ⟨t, ty, kt⟩ := leaf_isi T.o T.ek cl (j := 0) (by decide)
      refine ⟨rfl, _, rfl, _, _, _, _, _, rfl, .own _, ty, kt, _, rfl, ?_⟩
      have tg := lf l hl
      obtain ⟨la1, lm⟩ := l
      cases lm with
      | btw z lo hi =>
        refine iteT ?_
        obtain ⟨ddx, eB⟩ := cl
        refine ⟨_, rfl, la1, ddx, _, rfl, eB, la1, z, lo, hi, rfl, ⟨ddx, eB⟩, _, rfl, la1, ddx, _, rfl, eB, la1, z, lo, hi, rfl, ⟨ddx, eB⟩, _, rfl, la1, ddx, _, rfl, eB, la1, z, lo, hi, rfl, ⟨ddx, eB⟩, (by show 3 ≤ sizeLine; rw [sizeLine_eq]; decide), fun B hB => ?_⟩
        have sB := Same.new (o := .tup [.str z, .int lo, .int hi]) hB
        refine ⟨_, sB _ _ e4, ?_, same_upd hM (s4.trans sB), bs ++ [(B, z, lo, hi)], ?_, ?_, ?_, ?_⟩
        · rw [List.length_map]
          exact small1000 (by omega)
        · rw [upd_same, List.map_append]
          rfl
        · intro r hr'
          have ne : r.1 ≠ M ∧ (upd H4 B (.tup [.str z, .int lo, .int hi])) r.1 = some (.tup [.str r.2.1, .int r.2.2.1, .int r.2.2.2]) := by
            rcases List.mem_append.mp hr' with hr' | hr'
            · refine ⟨fun e => ?_, sB _ _ (b4 r hr')⟩
              have := b4 r hr'
              rw [e, e4] at this
              cases this
            · rw [List.mem_singleton.mp hr']
              refine ⟨fun e => ?_, upd_same⟩
              have e : B = M := e
              rw [e, e4] at hB
              cases hB
          rw [upd_ne ne.1]
          exact ne.2
        · unfold bnds at f4 ⊢
          rw [ef, List.map_append, f4]
          rfl
        · rw [List.length_append]
          exact Nat.succ_le_succ l4
      | nam zs =>
        refine iteF ⟨s4, bs, e4, b4, ?_, Nat.le_succ_of_le l4⟩
        rw [ef]
        show bnds bs = _ ++ []
        rw [List.append_nil]
        exact f4
      | neg _ => exact absurd (show 2 < 2 from tg) (by decide)
      | both _ _ => exact absurd (show 3 < 2 from tg) (by decide)
      | eith _ _ => exact absurd (show 4 < 2 from tg) (by decide)
    · rintro H4 ⟨s4, bs, e4, b4, f4, l4⟩
      rw [List.length_map] at f4 l4
      rw [List.take_length, gl] at f4
      have el4 := s4 _ _ el
      have vl4 := vl.same s4
      have s04 := s03.trans s4
      -- the groups
      refine ⟨_, rfl, pl, rfl, ⟨_, .of el4⟩, fun N hN => ?_⟩
      refine lc_list (xs := ls.map fun l => V.ref l.1) (fun i H5 => Same H4 H5 ∧ ∃ gs : List GrpE, H5 N = some (.lst (gs.map fun g => V.ref g.1)) ∧ GrpAt H5 gs ∧ nms gs = ((ls.take i).map (·.2)).filterMap namG ∧ gs.length ≤ i) ?_ ?_ ?_ ?_
      · exact ⟨Same.new hN, [], upd_same, (fun b h => nomatch h), rfl, Nat.le_refl _⟩
      · exact fun i H5 _ z => .of (z.1 _ _ el4)
      · rintro i x H5 hx ⟨s5, gs5, e5, b5, f5, l5⟩
        rw [List.getElem?_map] at hx
        obtain ⟨l, hli, rfl⟩ := Option.map_eq_some_iff.mp hx
        have hl := List.mem_of_getElem? hli
        have cl := (vl4 l hl).same s5
        have li : i < ls.length := (List.getElem?_eq_some_iff.mp hli).1
        have ef : ((ls.take (i + 1)).map (·.2)).filterMap namG = ((ls.take i).map (·.2)).filterMap namG ++ (namG l.2).toList := by
          rw [take_snocK hli, List.map_append, List.filterMap_append]
          rfl
        obtain ⟨t, ty, kt⟩ := leaf_isi T.o T.ek cl (j := 1) (by decide)
        refine ⟨rfl, _, rfl, _, _, _, _, _, rfl, .own _, ty, kt, _, rfl, ?_⟩
        have tg := lf l hl
        obtain ⟨la1, lm⟩ := l
        cases lm with
        | nam zs =>
          refine iteT ?_
          obtain ⟨tz, ddx, eB, eT⟩ := cl
          refine ⟨_, rfl, la1, ddx, _, rfl, eB, la1, tz, zs, rfl, ⟨ddx, eB, eT⟩, _, e5, ?_, same_upd hN s5, gs5 ++ [(tz, zs)], ?_, ?_, ?_, ?_⟩
          · rw [List.length_map]
            exact small1000 (by omega)
          · rw [upd_same, List.map_append]
            rfl
          · intro r hr'
            have ne : r.1 ≠ N ∧ H5 r.1 = some (.tup (r.2.map V.str)) := by
              have : H5 r.1 = some (.tup (r.2.map V.str)) := by
                rcases List.mem_append.mp hr' with hr' | hr'
                · exact b5 r hr'
                · rw [List.mem_singleton.mp hr']
                  exact eT
              refine ⟨fun e => ?_, this⟩
              rw [e, e5] at this
              cases this
            rw [upd_ne ne.1]
            exact ne.2
          · unfold nms at f5 ⊢
            rw [ef, List.map_append, f5]
            rfl
          · rw [List.length_append]
            exact Nat.succ_le_succ l5
        | btw z lo hi =>
          refine iteF ⟨s5, gs5, e5, b5, ?_, Nat.le_succ_of_le l5⟩
          rw [ef]
          show nms gs5 = _ ++ []
          rw [List.append_nil]
          exact f5
        | neg _ => exact absurd (show 2 < 2 from tg) (by decide)
        | both _ _ => exact absurd (show 3 < 2 from tg) (by decide)
        | eith _ _ => exact absurd (show 4 < 2 from tg) (by decide)
      · rintro H5 ⟨s5, gs5, e5, b5, f5, l5⟩
        rw [List.length_map] at f5 l5
        rw [List.take_length, gl] at f5
        have s05 := s04.trans s5
        have m8 := ma.names
        have n8 := mb.names
        have f26 : (allNs (nms gs5)).length < 26 := by
          rw [f5]
          show (allNs (partGs m n)).length < 26
          rw [part_gs_few]
          omega
        refine ⟨_, rfl, _, rfl, M, N, bs, gs5, rfl, .of (s5 _ _ e4), b4.same s5, by omega, .of e5, b5, by omega, f26, ?_⟩
        have ek : keysFor gs5 = candK m n := by
          unfold keysFor candK
          rw [f5]
          rfl
        have ev : valsFor bs = candV m n := by
          unfold valsFor candV
          rw [f4]
          rfl
        rw [ek, ev]
        have KN := candK_name ma.good mb.good (by omega : m.names + n.names < 26)
        obtain ⟨zs, hzs, VK⟩ := candV_ok ma.good mb.good (by omega : m.leaves + n.leaves < 26)
        refine ⟨fun i σ H6 => Same H H6 ∧ (∀ j, j < i → ∀ y kv, (candK m n)[j / (candV m n).length]? = some (.str y) → (candV m n)[j % (candV m n).length]? = some kv → m.holds y kv = n.holds y kv) ∧
          ∃ x5 x6 : Option V, σ = [some (.ref a), some (.ref b), some (.ref pl), some (.ref M), some (.ref N), x5, x6, none], ?_, ?_, ?_⟩
        · exact ⟨s05, fun j hj => absurd hj (Nat.not_lt_zero _), none, none, rfl⟩
        · rintro σ H6 ⟨s6, eq, x5, x6, rfl⟩
          refine q1 H6 s6 fun y kv hy hk => ?_
          obtain ⟨jk, hjk, ejk⟩ := List.mem_iff_getElem.mp hy
          obtain ⟨jv, hjv, ejv⟩ := List.mem_iff_getElem.mp hk
          have d := div_at (j := jk) hjv
          refine eq (jk * (candV m n).length + jv) ?_ y kv ?_ ?_
          · have h1 : (jk + 1) * (candV m n).length ≤ (candK m n).length * (candV m n).length := Nat.mul_le_mul_right _ hjk
            rw [Nat.succ_mul] at h1
            omega
          · rw [d.1, List.getElem?_eq_getElem hjk, ejk]
          · rw [d.2, List.getElem?_eq_getElem hjv, ejv]
        · rintro i σ H6 x H7 hi ⟨s6, eq, x5, x6, rfl⟩ ⟨s7, T1, d, k, kv, rfl, eT, ed, hk, hv⟩
          obtain ⟨y, rfl, hy⟩ := KN k (List.mem_of_getElem? hk)
          obtain ⟨vo, nd⟩ := VK kv (List.mem_of_getElem? hv)
          have s8 := s6.trans s7
          refine ⟨T1, _, rfl, .of eT, rfl, _, _, rfl, _, _, rfl, rfl, ?_⟩
          refine ⟨_, rfl, a, _, dx, fs, spHolds c m.tag 5, rfl, s8 _ _ ea, T.ha m, lha, _, rfl, _, rfl, a, d, y, m, zs, kv, rfl, ca.same s8, rfl, ma.deep, ed, vo.is, ?_⟩
          refine ⟨_, rfl, b, _, dy, gs, spHolds c n.tag 5, rfl, s8 _ _ eb, T.ha n, lhb, _, rfl, _, rfl, b, d, y, n, zs, kv, rfl, cb.same s8, rfl, mb.deep, ed, vo.is, rfl, _, rfl, ?_⟩
          by_cases e : m.holds y kv = n.holds y kv
          · rw [e]
            rw [show (!decide (V.bl (n.holds y kv) = V.bl (n.holds y kv))) = false from by rw [decide_eq_true rfl]; rfl]
            refine iteF ⟨⟨s8, fun j hj y2 kv2 h1 h2 => ?_, _, _, rfl⟩, .refl H7⟩
            rcases Nat.lt_succ_iff_lt_or_eq.mp hj with hj | rfl
            · exact eq j hj y2 kv2 h1 h2
            · rw [hk] at h1
              rw [hv] at h2
              cases h1
              cases h2
              exact e
          · rw [show (!decide (V.bl (m.holds y kv) = V.bl (n.holds y kv))) = true from by rw [decide_eq_false (fun z => e (V.bl.inj z))]; rfl]
            refine iteT ⟨_, rfl, _, rfl, (by show 2 ≤ sizeLine; rw [sizeLine_eq]; decide), fun T2 hT2 => ?_⟩
            have s9 := Same.new (o := .tup [.str y, .ref d]) hT2
            exact q2 T2 d y kv zs _ (s8.free hT2) (s8.trans s9) upd_same (s9 _ _ ed) hy vo nd e
end
end G

set_option Elab.async false
set_option linter.all false
set_option maxRecDepth 100000
set_option maxHeartbeats 4000000
/-! CB4: is_parting. -/
namespace G
open PySem PySem.Spec PyProof.Rows L2 NdefX StX DbB SsT DsT Lc2 GZ
abbrev nIsPart : List Str := ["one", "other", "found", "key", "value"]
theorem scIsPart : FnScope nIsPart ["one", "other", "found"] (defScope sIsPart) := ⟨rfl, rfl, rfl, by decide +kernel, rfl, by decide +kernel, by decide +kernel⟩
theorem name_of {z : Str} (h : nameB z = true) : NameZ z := by
  unfold nameB at h
  rw [Bool.and_eq_true, Bool.and_eq_true, decide_eq_true_eq, decide_eq_true_eq] at h
  exact ⟨fun c hc => abc_low c (of_decide_eq_true (List.all_eq_true.mp h.2 c hc)), h.1.1, h.1.2⟩
theorem name_to {z : Str} (h : NameZ z) : nameB z = true := by
  unfold nameB
  rw [Bool.and_eq_true, Bool.and_eq_true, decide_eq_true_eq, decide_eq_true_eq]
  refine ⟨⟨h.2.1, h.2.2⟩, List.all_eq_true.mpr fun c hc => decide_eq_true ?_⟩
  have r := h.1 c hc
  have all : ∀ c, c < 123 → 97 ≤ c → c ∈ cs abc := by decide +kernel
  exact all c (by omega) r.1
def keyZ (p : Key × V) : Option Str := match p.1 with
  | .inr z => some z
  | _ => none
theorem ent_of {p : Key × V} (h : entB p = true) : ∃ z i, p = (Sum.inr z, V.int i) ∧ NameZ z ∧ -999 ≤ i ∧ i ≤ 999 := by
  obtain ⟨k, v⟩ := p
  have h : (nameV (kV k) && intV (-999) 999 v) = true := h
  rw [Bool.and_eq_true] at h
  cases k with
  | inl i => exact absurd h.1 Bool.false_ne_true
  | inr z =>
    cases v with
    | int i =>
      have h2 : (decide (-999 ≤ i) && decide (i ≤ 999)) = true := h.2
      rw [Bool.and_eq_true, decide_eq_true_eq, decide_eq_true_eq] at h2
      exact ⟨z, i, rfl, name_of h.1, h2.1, h2.2⟩
    | _ => exact absurd h.2 Bool.false_ne_true
theorem val_of {kvs : Kvs} (h : valB kvs = true) : ∃ zs, ValOk zs kvs := by
  unfold valB at h
  rw [Bool.and_eq_true, Bool.and_eq_true, decide_eq_true_eq, decide_eq_true_eq] at h
  have all := List.all_eq_true.mp h.2
  refine ⟨kvs.filterMap keyZ, fun z hz => ?_, fun p hp => ?_, h.1.1, h.1.2⟩
  · obtain ⟨p, hp, e⟩ := List.mem_filterMap.mp hz
    obtain ⟨y, i, rfl, ny, _⟩ := ent_of (all p hp)
    cases e
    exact ny
  · obtain ⟨y, i, e, _, r⟩ := ent_of (all p hp)
    exact ⟨y, i, e, List.mem_filterMap.mpr ⟨p, hp, by rw [e]; rfl⟩, r⟩
theorem val_to {zs : List Str} {kvs : Kvs} (h : ValOk zs kvs) : valB kvs = true := by
  unfold valB
  rw [Bool.and_eq_true, Bool.and_eq_true, decide_eq_true_eq, decide_eq_true_eq]
  refine ⟨⟨h.pos, h.six⟩, List.all_eq_true.mpr fun p hp => ?_⟩
  obtain ⟨z, i, rfl, hz, i1, i2⟩ := h.is p hp
  show (nameB z && (decide (-999 ≤ i) && decide (i ≤ 999))) = true
  rw [name_to (h.nm z hz), decide_eq_true i1, decide_eq_true i2]
  rfl
mutual
theorem Rp.sameC {K : PySem.W.Frag} {H H' : Hp} (s : Same H H') : ∀ {v : V} {d : PyData}, Rp K H v d → Rp K H' v d
  | _, _, .non => .non
  | _, _, .bl b => .bl b
  | _, _, .int i => .int i
  | _, _, .str z => .str z
  | _, _, .lst e h => .lst (s _ _ e) (RpAll.sameC s h)
  | _, _, .tup e h => .tup (s _ _ e) (RpAll.sameC s h)
  | _, _, .dic e h1 h2 => .dic (s _ _ e) (RpAll.sameC s h1) (RpAll.sameC s h2)
theorem RpAll.sameC {K : PySem.W.Frag} {H H' : Hp} (s : Same H H') : ∀ {vs : List V} {ds : List PyData}, RpAll K H vs ds → RpAll K H' vs ds
  | _, _, .nil => .nil
  | _, _, .cons h t => .cons (Rp.sameC s h) (RpAll.sameC s t)
end
def valO' : HO → Bool
  | .dK kvs => valB kvs
  | _ => false
theorem valV'_at {H : Hp} {p : Addr} {o : HO} (e : H p = some o) : valV' H (.ref p) = valO' o := by
  show (match H p with | some (.dK kvs) => valB kvs | _ => false) = _
  rw [e]
  cases o <;> rfl
theorem valV'_same {K : PySem.W.Frag} {H H' : Hp} {x : V} {d : PyData} (r : Rp K H x d) (s : Same H H') : valV' H' x = valV' H x := by
  cases r with
  | lst e _ => rw [valV'_at (s _ _ e), valV'_at e]
  | tup e _ => rw [valV'_at (s _ _ e), valV'_at e]
  | dic e _ _ => rw [valV'_at (s _ _ e), valV'_at e]
  | _ => rfl
/-- a part of a thing that is asked whether it parts -/
def CmpOk (K : PySem.W.Frag) (H : Hp) (x : V) : Prop := (∃ d, Rp K H x d) ∧ Tame H x
structure Found (K : PySem.W.Frag) (H : Hp) (v : V) : Prop where
  rp : ∃ d, Rp K H v d
  two : ∀ a k x, v = .ref a → H a = some (.tup [k, x]) → CmpOk K H k ∧ CmpOk K H x
theorem FlL.same {H H' : Hp} {v : V} (h : FlL H v) (s : Same H H') : FlL H' v := by
  rcases h with h | ⟨a, xs, e, ea, hx⟩
  · exact .inl h
  · exact .inr ⟨a, xs, e, s _ _ ea, hx⟩
theorem CmpOk.same {K : PySem.W.Frag} {H H' : Hp} {x : V} (h : CmpOk K H x) (s : Same H H') : CmpOk K H' x := by
  obtain ⟨⟨d, r⟩, t⟩ := h
  refine ⟨⟨d, r.sameC s⟩, ?_⟩
  have up : ∀ a o, H a = some o → (∀ kvs, H a = some (.dK kvs) → TameK H kvs) → ∀ kvs, H' a = some (.dK kvs) → TameK H' kvs := fun a o e t kvs e' => by
    have := s _ _ e
    rw [e'] at this
    cases this
    have tm := t kvs e
    exact ⟨tm.few, tm.nd, tm.len, fun p hp => (tm.flat p hp).same s⟩
  cases r with
  | non => exact trivial
  | bl b => exact trivial
  | int i => exact trivial
  | str z => exact t
  | lst e _ => exact up _ _ e t
  | tup e _ => exact up _ _ e t
  | dic e _ _ => exact up _ _ e t
/-- what holds of a key and a value -/
def holdV (m : Md) (H : Hp) : V → V → Bool
  | .str y, .ref d => (match H d with
    | some (.dK kvs) => m.holds y kvs
    | _ => false)
  | _, _ => false
def partO (m n : Md) (H : Hp) : HO → Bool
  | .tup [k, x] => nameV k && valV' H x && (holdV m H k x != holdV n H k x)
  | _ => false
/-- a record for which just one of the two holds -/
def partB (m n : Md) (H : Hp) : V → Bool
  | .ref a => (match H a with
    | some o => partO m n H o
    | none => false)
  | _ => false
theorem partB_ref {m n : Md} {H : Hp} {a : Addr} {o : HO} (e : H a = some o) : partB m n H (.ref a) = partO m n H o := by
  show (match H a with | some o => partO m n H o | none => false) = _
  rw [e]
def spIsPart (K : PySem.W.Frag) (c : Cs) : Sp := fun vs H Q _ => ∃ (a b : Addr) (m n : Md) (v : V), vs = [.ref a, .ref b, v] ∧ CoAt c H a m ∧ CoAt c H b n ∧ m.depth ≤ 5 ∧ n.depth ≤ 5 ∧ Found K H v ∧ ∀ H', Same H H' → Q (.bl (partB m n H v)) H'
/-- a name and a value, as they come out of the tests -/
theorem both_is {H : Hp} {k x : V} (h1 : nameV k = true) (h2 : valV' H x = true) : ∃ y d kvs zs, k = .str y ∧ NameZ y ∧ x = .ref d ∧ H d = some (.dK kvs) ∧ ValOk zs kvs := by
  cases k with
  | str y =>
    cases x with
    | ref d =>
      have h2 : (match H d with | some (.dK kvs) => valB kvs | _ => false) = true := h2
      cases e : H d with
      | none =>
        rw [e] at h2
        exact absurd h2 Bool.false_ne_true
      | some o =>
        rw [e] at h2
        cases o with
        | dK kvs =>
          obtain ⟨zs, vo⟩ := val_of h2
          exact ⟨y, d, kvs, zs, rfl, name_of h1, rfl, e, vo⟩
        | _ => exact absurd h2 Bool.false_ne_true
    | _ => exact absurd h2 Bool.false_ne_true
  | _ => exact absurd h1 Bool.false_ne_true
theorem bne_bl (x y : Bool) : (!decide (V.bl x = V.bl y)) = (x != y) := by cases x <;> cases y <;> rfl
section
variable {P : Program} {w : World} {K : PySem.W.Frag} {mg : Str → Option Value} {base : Heap} {c : Cs} {D : Addr} {f : Addr} {fd : FuncData}
theorem ok_ispart {fN fI fV : Addr} {fdN fdI fdV : FuncData} (F : Fun K "is_parting" "is_parting" sIsPart f fd) (T : PartK P w K mg base c D)
    (GN : FnOk P w K mg base CX0 1 fN fdN ["value"] (spNeedCond c)) (gN : mg "need_condition" = some (.ref fN)) (kN : PySem.W.keepIn K (.ref fN) = true) (bN : Binds K fdN ["value"] [])
    (GI : FnOk P w K mg base CX0 1 fI fdI ["value"] (spIsNameT K)) (gI : mg "is_name" = some (.ref fI)) (kI : PySem.W.keepIn K (.ref fI) = true) (bI : Binds K fdI ["value"] [])
    (GV : FnOk P w K mg base CX0 2 fV fdV ["value"] (spIsValT K)) (gV : mg "is_value" = some (.ref fV)) (kV : PySem.W.keepIn K (.ref fV) = true) (bV : Binds K fdV ["value"] [])
    (mt : mg "tuple" = none) (ml : mg "len" = none) : FnOk P w K mg base CX0 7 f fd ["one", "other", "found"] (spIsPart K c) := by
  refine F.ok scIsPart (fun vs H Q E h => ?_) (fun cdv A outer s H vs Q E hr h => ?_)
  · obtain ⟨a, b, m, n, v, rfl, _⟩ := h
    rfl
  · obtain ⟨a, b, m, n, v, rfl, ca, cb, da, db, fo, q⟩ := h
    have hr1 := hr.mono (show 1 ≤ 6 by decide)
    have hr2 := hr.mono (show 2 ≤ 6 by decide)
    refine ⟨_, pss_cons (ps_expr (pe_call GN hr1 rfl gN kN bN .nil pass0 (pa_cons (pv 0) pa_nil)))
      (pss_cons (ps_expr (pe_call GN hr1 rfl gN kN bN .nil pass0 (pa_cons (pv 1) pa_nil)))
      (pss_cons (ps_if (PW.pt (pw_or (pt_not (pt_val (pt_isi "tuple" (pv 2) (hm := T.mi) (mn := mt)))) (pw_or1 (pt_cmpR op_ne (pe_callB call_len_seq (by rfl) ml PySem.boot_len (pa_cons (pv 2) pa_nil)) pe_int (nomark _))))) (pss_one (ps_ret pe_bl)) pss_nil)
      (pss_cons (ps_asg (pv 2) (pg_tup (by rfl) (pgs_cons (pg_name (i := 3) scIsPart.nd rfl (.inl rfl)) (pgs_cons (pg_name (i := 4) scIsPart.nd rfl (.inl rfl)) pgs_nil))))
      (pss_cons (ps_if (PW.pt (pw_or (pt_not (pt_val (pe_call GI hr1 rfl gI kI bI .nil pass0 (pa_cons (pv 3) pa_nil)))) (pw_or1 (pt_not (pt_val (pe_call GV hr2 rfl gV kV bV .nil pass0 (pa_cons (pv 4) pa_nil))))))) (pss_one (ps_ret pe_bl)) pss_nil)
      (pss_one (ps_ret (pe_cmpR op_ne (pe_methV (k := 6) (pv 0) hr pass0 (pa_cons (pv 3) (pa_cons (pv 4) pa_nil))) (pe_methV (k := 6) (pv 1) hr pass0 (pa_cons (pv 3) (pa_cons (pv 4) pa_nil))) (nomark _)))))))), ?_⟩
    refine ⟨_, rfl, a, m, rfl, ca, _, rfl, b, n, rfl, cb, ?_⟩
    obtain ⟨dx, fs, ea, la, lha⟩ := ca.getL
    obtain ⟨dy, gs, eb, lb, lhb⟩ := cb.getL
    obtain ⟨⟨d, hR⟩, two⟩ := fo
    refine ⟨_, rfl, _, _, _, _, _, rfl, .ty _, rp_ty hR, kit_t d, _, rfl, ?_⟩
    cases hR with
    | non => exact iteT (q H (.refl _))
    | int i => exact iteT (q H (.refl _))
    | bl b => exact iteT (q H (.refl _))
    | str z => exact iteT (q H (.refl _))
    | lst e _ =>
      have eq := partB_ref (m := m) (n := n) e
      rw [eq] at q
      exact iteT (q H (.refl _))
    | dic e _ _ =>
      have eq := partB_ref (m := m) (n := n) e
      rw [eq] at q
      exact iteT (q H (.refl _))
    | @tup t xs ds e _ =>
      have eq := partB_ref (m := m) (n := n) e
      rw [eq] at q
      refine iteF ⟨_, rfl, t, xs, rfl, .inr (.of e), rfl, _, rfl, ?_⟩
      match xs, e, q, two with
      | [], e, q, two => exact iteT (q H (.refl _))
      | [k], e, q, two => exact iteT (q H (.refl _))
      | k :: x :: y :: r, e, q, two =>
        rw [show (!decide (V.int (((k :: x :: y :: r).length : Nat) : Int) = V.int 2)) = true from by
          rw [decide_eq_false fun z => ?_]
          · rfl
          · have z := V.int.inj z
            rw [List.length_cons, List.length_cons, List.length_cons] at z
            omega]
        exact iteT (q H (.refl _))
      | [k, x], e, q, two =>
        obtain ⟨⟨⟨dk, rk⟩, tk⟩, cx⟩ := two t k x rfl e
        refine iteF ⟨_, rfl, t, _, rfl, .of e, rfl, _, _, rfl, _, _, rfl, rfl, ?_⟩
        refine ⟨_, rfl, k, dk, rfl, rk, (fun z ez => by rw [ez] at tk; exact tk), fun H1 s1 => ⟨_, rfl, ?_⟩⟩
        have q : ∀ H', Same H H' → Q (.bl (nameV k && valV' H x && (holdV m H k x != holdV n H k x))) H' := q
        cases hk : nameV k with
        | false =>
          rw [hk] at q
          exact iteT (q H1 s1)
        | true =>
          rw [hk] at q
          obtain ⟨⟨dv, rv⟩, tv⟩ := cx.same s1
          have ev : valV' H1 x = valV' H x := let ⟨⟨_, r0⟩, _⟩ := cx; valV'_same r0 s1
          refine iteF ⟨_, rfl, x, dv, rfl, rv, tv, fun H2 s2 => ⟨_, rfl, ?_⟩⟩
          rw [ev]
          cases hx : valV' H x with
          | false =>
            rw [hx] at q
            exact iteT (q H2 (s1.trans s2))
          | true =>
            rw [hx] at q
            obtain ⟨y, d, kvs, zs, rfl, hy, rfl, ed, vo⟩ := both_is hk hx
            have s02 := s1.trans s2
            have ed2 := s02 _ _ ed
            have h1 : ∀ m : Md, holdV m H (.str y) (.ref d) = m.holds y kvs := fun m => by
              show (match H d with | some (.dK kvs) => m.holds y kvs | _ => false) = _
              rw [ed]
            rw [h1, h1] at q
            refine iteF ⟨_, rfl, a, _, dx, fs, spHolds c m.tag 5, rfl, s02 _ _ ea, T.ha m, lha, _, rfl, _, rfl, a, d, y, m, zs, kvs, rfl, ca.same s02, rfl, da, ed2, vo.is, ?_⟩
            refine ⟨_, rfl, b, _, dy, gs, spHolds c n.tag 5, rfl, s02 _ _ eb, T.ha n, lhb, _, rfl, _, rfl, b, d, y, n, zs, kvs, rfl, cb.same s02, rfl, db, ed2, vo.is, rfl, ?_⟩
            rw [bne_bl]
            exact q H2 s02
end
end G

set_option Elab.async false
set_option linter.all false
set_option maxRecDepth 100000
set_option maxHeartbeats 2000000
/-! CP1: the candidates suffice. -/
namespace G
open PySem PySem.Spec PyProof.Rows L2 NdefX StX DbB SsT DsT Lc2 GZ
/-! ### leaves decide -/
theorem holds_lvs {y y' : Str} {kv kv' : Kvs} : ∀ {m : Md}, (∀ l ∈ m.lvs, l.holds y kv = l.holds y' kv') → m.holds y kv = m.holds y' kv'
  | .btw _ _ _, h => h _ (List.mem_singleton.mpr rfl)
  | .nam _, h => h _ (List.mem_singleton.mpr rfl)
  | .neg m, h => by
    show (!(m.holds y kv)) = !(m.holds y' kv')
    rw [holds_lvs (m := m) h]
  | .both a b, h => by
    show (a.holds y kv && b.holds y kv) = (a.holds y' kv' && b.holds y' kv')
    rw [holds_lvs (m := a) fun l hl => h l (List.mem_append.mpr (.inl hl)), holds_lvs (m := b) fun l hl => h l (List.mem_append.mpr (.inr hl))]
  | .eith a b, h => by
    show (a.holds y kv || b.holds y kv) = (a.holds y' kv' || b.holds y' kv')
    rw [holds_lvs (m := a) fun l hl => h l (List.mem_append.mpr (.inl hl)), holds_lvs (m := b) fun l hl => h l (List.mem_append.mpr (.inr hl))]
/-! ### numbers -/
theorem hasP_iff {acc : List NumE} {k : List Bool} : hasP acc k = true ↔ ∃ e ∈ acc, e.1 = k := by
  unfold hasP
  rw [List.any_eq_true]
  constructor
  · rintro ⟨e, he, h⟩
    exact ⟨e, he, of_decide_eq_true h⟩
  · rintro ⟨e, he, h⟩
    exact ⟨e, he, decide_eq_true h⟩
theorem addNum_keep {rs : List (Int × Int)} {acc : List NumE} {n : Int} : ∀ e ∈ acc, e ∈ addNum rs acc n := fun e he => by
  unfold addNum
  split
  · split
    · exact he
    · exact List.mem_append.mpr (.inl he)
  · exact he
theorem addNum_has {rs : List (Int × Int)} {acc : List NumE} {n : Int} (h : (holdB rs n).any id = true) : ∃ e ∈ addNum rs acc n, e.1 = holdB rs n := by
  unfold addNum
  rw [if_pos h]
  split
  · rename_i h2
    exact hasP_iff.mp h2
  · exact ⟨_, List.mem_append.mpr (.inr (List.mem_singleton.mpr rfl)), rfl⟩
def NumIs (rs : List (Int × Int)) (e : NumE) : Prop := ∃ n : Int, e = (holdB rs n, V.int n)
theorem addNum_is {rs : List (Int × Int)} {acc : List NumE} {n : Int} (h : ∀ e ∈ acc, NumIs rs e) : ∀ e ∈ addNum rs acc n, NumIs rs e := fun e he => by
  unfold addNum at he
  split at he
  · split at he
    · exact h e he
    · rcases List.mem_append.mp he with he | he
      · exact h e he
      · exact ⟨n, List.mem_singleton.mp he⟩
  · exact h e he
def numF (rs : List (Int × Int)) (acc : List NumE) (r : Int × Int) : List NumE := addNum rs (addNum rs acc r.1) (r.2 + 1)
theorem numF_keep {rs : List (Int × Int)} : ∀ {l : List (Int × Int)} {acc : List NumE}, ∀ e ∈ acc, e ∈ l.foldl (numF rs) acc
  | [], acc, e, he => he
  | r :: l, acc, e, he => numF_keep (l := l) e (addNum_keep e (addNum_keep e he))
theorem numF_is {rs : List (Int × Int)} : ∀ {l : List (Int × Int)} {acc : List NumE}, (∀ e ∈ acc, NumIs rs e) → ∀ e ∈ l.foldl (numF rs) acc, NumIs rs e
  | [], acc, h => h
  | r :: l, acc, h => numF_is (l := l) (addNum_is (addNum_is h))
theorem numF_has {rs : List (Int × Int)} : ∀ {l : List (Int × Int)} {acc : List NumE} {r : Int × Int} {n : Int}, r ∈ l → (n = r.1 ∨ n = r.2 + 1) → (holdB rs n).any id = true → ∃ e ∈ l.foldl (numF rs) acc, e.1 = holdB rs n
  | r0 :: l, acc, r, n, hr, hn, h => by
    rcases List.mem_cons.mp hr with rfl | hr
    · rcases hn with rfl | rfl
      · obtain ⟨e, he, e1⟩ := addNum_has (acc := acc) h
        exact ⟨e, numF_keep (l := l) e (addNum_keep e he), e1⟩
      · obtain ⟨e, he, e1⟩ := addNum_has (acc := addNum rs acc r.1) h
        exact ⟨e, numF_keep (l := l) e he, e1⟩
    · exact numF_has (l := l) hr hn h
/-- the greatest of some integers that are at most i -/
theorem greatest {i : Int} : ∀ {l : List Int} {c : Int}, c ∈ l → c ≤ i → ∃ d ∈ l, d ≤ i ∧ ∀ e ∈ l, e ≤ i → e ≤ d := by
  intro l
  induction l with
  | nil => exact fun h => nomatch h
  | cons x l ih =>
    intro c hc hi
    by_cases ex : ∃ d ∈ l, d ≤ i
    · obtain ⟨d0, h0, h1⟩ := ex
      obtain ⟨d, hd, di, all⟩ := ih h0 h1
      by_cases hx : x ≤ i ∧ d ≤ x
      · refine ⟨x, List.mem_cons_self, hx.1, fun e he hei => ?_⟩
        rcases List.mem_cons.mp he with rfl | he
        · exact Int.le_refl _
        · exact Int.le_trans (all e he hei) hx.2
      · refine ⟨d, List.mem_cons_of_mem _ hd, di, fun e he hei => ?_⟩
        rcases List.mem_cons.mp he with rfl | he
        · omega
        · exact all e he hei
    · have hcx : c = x := by
        rcases List.mem_cons.mp hc with h | h
        · exact h
        · exact absurd ⟨c, h, hi⟩ ex
      refine ⟨x, List.mem_cons_self, by omega, fun e he hei => ?_⟩
      rcases List.mem_cons.mp he with rfl | he
      · exact Int.le_refl _
      · exact absurd ⟨e, he, hei⟩ ex
theorem num_complete {rs : List (Int × Int)} {i : Int} (h : (holdB rs i).any id = true) : ∃ n : Int, V.int n ∈ numsOf rs ∧ holdB rs n = holdB rs i := by
  have hl : ∃ r ∈ rs, r.1 ≤ i ∧ i ≤ r.2 := by
    obtain ⟨b, hb, e⟩ := List.any_eq_true.mp h
    obtain ⟨r, hr, rfl⟩ := List.mem_map.mp hb
    have e : (decide (r.1 ≤ i) && decide (i ≤ r.2)) = true := e
    rw [Bool.and_eq_true, decide_eq_true_eq, decide_eq_true_eq] at e
    exact ⟨r, hr, e⟩
  obtain ⟨r0, hr0, lo0, hi0⟩ := hl
  have mem : ∀ r ∈ rs, r.1 ∈ rs.flatMap (fun r => [r.1, r.2 + 1]) ∧ r.2 + 1 ∈ rs.flatMap (fun r => [r.1, r.2 + 1]) := fun r hr =>
    ⟨List.mem_flatMap.mpr ⟨r, hr, List.mem_cons_self⟩, List.mem_flatMap.mpr ⟨r, hr, List.mem_cons_of_mem _ (List.mem_singleton.mpr rfl)⟩⟩
  obtain ⟨c, hc, ci, all⟩ := greatest (i := i) (mem r0 hr0).1 lo0
  have e : holdB rs c = holdB rs i := by
    unfold holdB
    refine List.map_congr_left fun r hr => ?_
    have h1 := all _ (mem r hr).1
    have h2 := all _ (mem r hr).2
    have a1 : decide (r.1 ≤ c) = decide (r.1 ≤ i) := decide_eq_decide.mpr ⟨fun h => by omega, h1⟩
    have a2 : decide (c ≤ r.2) = decide (i ≤ r.2) := decide_eq_decide.mpr ⟨fun h => by
      by_cases z : i ≤ r.2
      · exact z
      · have := h2 (by omega)
        omega, fun h => by omega⟩
    rw [a1, a2]
  obtain ⟨r, hr, hcr⟩ := List.mem_flatMap.mp hc
  have hcr : c = r.1 ∨ c = r.2 + 1 := by
    rcases List.mem_cons.mp hcr with h | h
    · exact .inl h
    · exact .inr (List.mem_singleton.mp h)
  obtain ⟨en, he, e1⟩ := numF_has (rs := rs) (l := rs) (acc := []) hr hcr (by rw [e]; exact h)
  obtain ⟨n, rfl⟩ := numF_is (rs := rs) (l := rs) (acc := []) (fun _ h => nomatch h) en he
  exact ⟨n, List.mem_map.mpr ⟨_, he, rfl⟩, e1.trans e⟩
/-! ### keys -/
theorem addKey_keep {gs : List (List Str)} {acc : List NumE} {z : Str} : ∀ e ∈ acc, e ∈ addKey gs acc z := fun e he => by
  unfold addKey
  split
  · exact he
  · exact List.mem_append.mpr (.inl he)
theorem keys_keep {gs : List (List Str)} : ∀ {zs : List Str} {acc : List NumE}, ∀ e ∈ acc, e ∈ zs.foldl (addKey gs) acc
  | [], _, e, he => he
  | z :: zs, acc, e, he => keys_keep (zs := zs) e (addKey_keep e he)
theorem keys_has {gs : List (List Str)} : ∀ {zs : List Str} {acc : List NumE} {z : Str}, z ∈ zs → ∃ e ∈ zs.foldl (addKey gs) acc, e.1 = holdK gs z
  | z0 :: zs, acc, z, hz => by
    rcases List.mem_cons.mp hz with rfl | hz
    · have : ∃ e ∈ addKey gs acc z, e.1 = holdK gs z := by
        unfold addKey
        split
        · rename_i h
          exact hasP_iff.mp h
        · exact ⟨_, List.mem_append.mpr (.inr (List.mem_singleton.mpr rfl)), rfl⟩
      obtain ⟨e, he, e1⟩ := this
      exact ⟨e, keys_keep (zs := zs) e he, e1⟩
    · exact keys_has (zs := zs) hz
theorem key_complete {gs : List (List Str)} {x : Str} (hx : x ∉ allNs gs) (y : Str) : ∃ y', V.str y' ∈ keysOf gs x ∧ holdK gs y' = holdK gs y := by
  have : ∃ z ∈ allNs gs ++ [x], holdK gs z = holdK gs y := by
    by_cases h : y ∈ allNs gs
    · exact ⟨y, List.mem_append.mpr (.inl h), rfl⟩
    · refine ⟨x, List.mem_append.mpr (.inr (List.mem_singleton.mpr rfl)), ?_⟩
      unfold holdK
      refine List.map_congr_left fun g hg => ?_
      have n1 : x ∉ g := fun z => hx (List.mem_flatten.mpr ⟨g, hg, z⟩)
      have n2 : y ∉ g := fun z => h (List.mem_flatten.mpr ⟨g, hg, z⟩)
      rw [decide_eq_false n1, decide_eq_false n2]
  obtain ⟨z, hz, e⟩ := this
  obtain ⟨en, he, e1⟩ := keys_has (gs := gs) (acc := []) hz
  obtain ⟨z', _, rfl⟩ := keysAcc_mem (gs := gs) (zs := allNs gs ++ [x]) en he
  exact ⟨z', List.mem_map.mpr ⟨_, he, rfl⟩, e1.trans e⟩
end G

set_option Elab.async false
set_option linter.all false
set_option maxRecDepth 100000
set_option maxHeartbeats 2000000
/-! CP2: a record that parts two conditions is like one of the candidates. -/
namespace G
open PySem PySem.Spec PyProof.Rows L2 NdefX StX DbB SsT DsT Lc2 GZ
/-- some leaf on the field holds -/
def onB (bs : List Bnd) (kv : Kvs) (z : Str) : Bool := match valV kv (Sum.inr z : Key) with
  | some (.int i) => (holdB (rngFor bs z) i).any id
  | _ => false
theorem onB_is {bs : List Bnd} {kv : Kvs} {z : Str} (h : onB bs kv z = true) : ∃ i : Int, valV kv (Sum.inr z : Key) = some (.int i) ∧ (holdB (rngFor bs z) i).any id = true := by
  unfold onB at h
  split at h
  · rename_i i e
    exact ⟨i, e, h⟩
  · cases h
structure GoodW (bs : List Bnd) (kv : Kvs) (S : List Str) (w : Kvs) : Prop where
  yes : ∀ z ∈ S, onB bs kv z = true → ∃ i n : Int, valV kv (Sum.inr z : Key) = some (.int i) ∧ valV w (Sum.inr z : Key) = some (.int n) ∧ holdB (rngFor bs z) n = holdB (rngFor bs z) i
  no : ∀ z, (z ∉ S ∨ onB bs kv z = false) → valV w (Sum.inr z : Key) = none
  len : w.length = (S.filter (onB bs kv)).length
theorem acc_has {bs : List Bnd} {kv : Kvs} : ∀ (fs : List Str) (acc : List Kvs) (w : Kvs) (S : List Str), w ∈ acc → GoodW bs kv S w → (S ++ fs).Nodup → ((S ++ fs).filter (onB bs kv)).length ≤ 6 →
    ∃ w' ∈ fs.foldl (fun acc z => acc ++ stepOf acc z (numsFor bs z)) acc, GoodW bs kv (S ++ fs) w'
  | [], acc, w, S, hw, g, nd, few => ⟨w, hw, by rw [List.append_nil]; exact g⟩
  | z :: fs, acc, w, S, hw, g, nd, few => by
    rw [List.foldl_cons]
    have ea : S ++ z :: fs = (S ++ [z]) ++ fs := by rw [List.append_assoc]; rfl
    rw [ea] at nd few ⊢
    have nz : z ∉ S := fun h => by
      have nd1 := (List.nodup_append.mp nd).1
      exact (List.nodup_append.mp nd1).2.2 z h z (List.mem_singleton.mpr rfl) rfl
    cases ho : onB bs kv z with
    | false =>
      refine acc_has fs _ w (S ++ [z]) (List.mem_append.mpr (.inl hw)) ⟨fun y hy h => ?_, fun y hy => ?_, ?_⟩ nd few
      · rcases List.mem_append.mp hy with hy | hy
        · exact g.yes y hy h
        · rw [List.mem_singleton.mp hy, ho] at h
          cases h
      · refine g.no y (hy.imp (fun h h2 => h (List.mem_append.mpr (.inl h2))) id)
      · rw [List.filter_append, g.len]
        simp [ho]
    | true =>
      obtain ⟨i, ei, hi⟩ := onB_is ho
      obtain ⟨n, hn, en⟩ := num_complete hi
      have nw : valV w (Sum.inr z : Key) = none := g.no z (.inl nz)
      have ew : putK w (Sum.inr z : Key) (V.int n) = w ++ [((Sum.inr z : Key), V.int n)] := putK_new _ nw
      have l1 : ((S ++ [z]).filter (onB bs kv)).length = w.length + 1 := by
        rw [List.filter_append, g.len, List.length_append]
        simp [ho]
      have l6 : w.length < 6 := by
        rw [List.filter_append, List.length_append, l1] at few
        omega
      refine acc_has fs _ (putK w (Sum.inr z : Key) (V.int n)) (S ++ [z]) (List.mem_append.mpr (.inr ?_)) ⟨fun y hy h => ?_, fun y hy => ?_, ?_⟩ nd few
      · exact List.mem_flatMap.mpr ⟨w, List.mem_filter.mpr ⟨hw, decide_eq_true l6⟩, List.mem_map.mpr ⟨V.int n, hn, rfl⟩⟩
      · by_cases e : y = z
        · subst e
          exact ⟨i, n, ei, by rw [valV_put, if_pos rfl], en⟩
        · rcases List.mem_append.mp hy with hy | hy
          · obtain ⟨a, b, h1, h2, h3⟩ := g.yes y hy h
            refine ⟨a, b, h1, ?_, h3⟩
            rw [valV_put, if_neg (fun q => e (Sum.inr.inj q))]
            exact h2
          · exact absurd (List.mem_singleton.mp hy) e
      · have e : y ≠ z := fun q => by
          rcases hy with h | h
          · exact h (List.mem_append.mpr (.inr (List.mem_singleton.mpr q)))
          · rw [q, ho] at h
            cases h
        rw [valV_put, if_neg (fun q => e (Sum.inr.inj q))]
        exact g.no y (hy.imp (fun h h2 => h (List.mem_append.mpr (.inl h2))) id)
      · rw [l1, ew, List.length_append]
        rfl
theorem flds_nd (bs : List Bnd) : (fldsOf bs).Nodup := (srtT_mem _).nodup_iff.mpr (difs_nd _)
theorem on_few {bs : List Bnd} {kv : Kvs} (h6 : kv.length ≤ 6) : ((fldsOf bs).filter (onB bs kv)).length ≤ 6 := by
  have nd : (((fldsOf bs).filter (onB bs kv)).map fun z => (Sum.inr z : Key)).Nodup := List.pairwise_map.mpr (((flds_nd bs).sublist List.filter_sublist).imp fun {a b} n e => n (Sum.inr.inj e))
  have all : ∀ k ∈ ((fldsOf bs).filter (onB bs kv)).map (fun z => (Sum.inr z : Key)), k ∈ kv.map (·.1) := fun k hk => by
    obtain ⟨z, hz, rfl⟩ := List.mem_map.mp hk
    obtain ⟨i, e, _⟩ := onB_is (List.mem_filter.mp hz).2
    unfold valV at e
    obtain ⟨p, hp, _⟩ := Option.map_eq_some_iff.mp e
    have h1 := List.find?_some hp
    exact List.mem_map.mpr ⟨p, List.mem_of_find?_eq_some hp, of_decide_eq_true h1⟩
  have := nodup_len nd all
  rw [List.length_map, List.length_map] at this
  omega
/-- a value of the candidates for which the same leaves hold -/
theorem val_complete {bs : List Bnd} {kv : Kvs} {zs : List Str} (B : BsOk bs) (hz : ∀ z ∈ fldsOf bs, z ∈ zs) (few : (fldsOf bs).length < 26) (h6 : kv.length ≤ 6) : ∃ w ∈ valsOf bs (fldsOf bs) (freeOf (fldsOf bs)), ∀ b ∈ bs, btwHolds b.1 b.2.1 b.2.2 w = btwHolds b.1 b.2.1 b.2.2 kv := by
  obtain ⟨w, hw, g⟩ := acc_has (bs := bs) (kv := kv) (fldsOf bs) [[]] [] [] (List.mem_singleton.mpr rfl) ⟨fun z h => (nomatch h), fun z _ => rfl, rfl⟩ (flds_nd bs) (on_few h6)
  have fin : ∀ w' : Kvs, (∀ z ∈ fldsOf bs, valV w' (Sum.inr z : Key) = valV w (Sum.inr z : Key)) → ∀ b ∈ bs, btwHolds b.1 b.2.1 b.2.2 w' = btwHolds b.1 b.2.1 b.2.2 kv := by
    intro w' hw' b hb
    have hf : b.1 ∈ fldsOf bs := flds_mem.mpr (List.mem_map.mpr ⟨b, hb, rfl⟩)
    have hr : (b.2.1, b.2.2) ∈ rngFor bs b.1 := List.mem_map.mpr ⟨b, List.mem_filter.mpr ⟨hb, decide_eq_true rfl⟩, rfl⟩
    unfold btwHolds
    rw [hw' _ hf]
    cases ho : onB bs kv b.1 with
    | true =>
      obtain ⟨i, n, e1, e2, e3⟩ := g.yes _ hf ho
      rw [e1, e2]
      exact (List.map_inj_left.mp e3) _ hr
    | false =>
      rw [g.no _ (.inr ho)]
      show false = _
      unfold onB at ho
      cases e : valV kv (Sum.inr b.1 : Key) with
      | none => rfl
      | some v =>
        cases v with
        | int i =>
          rw [e] at ho
          have := List.any_eq_false.mp ho _ (List.mem_map.mpr ⟨_, hr, rfl⟩)
          exact (Bool.eq_false_iff.mpr this).symm
        | _ => rfl
  obtain ⟨rest, e, hrest⟩ := acc_ok B zs (fldsOf bs) hz
  have hw : w ∈ valsAcc bs (fldsOf bs) := hw
  rw [e] at hw
  have ev : valsOf bs (fldsOf bs) (freeOf (fldsOf bs)) = [((Sum.inr (freeOf (fldsOf bs)) : Key), V.int 0)] :: rest := by
    unfold valsOf
    rw [e]
    rfl
  rw [ev]
  rcases List.mem_cons.mp hw with rfl | hw
  · refine ⟨_, List.mem_cons_self, fin _ fun z hz => ?_⟩
    have ne : freeOf (fldsOf bs) ≠ z := fun q => (free_ofC few).2 (by rw [q]; exact hz)
    rw [valV_neg (p := ((Sum.inr (freeOf (fldsOf bs)) : Key), V.int 0)) (fun q => ne (Sum.inr.inj q))]
  · exact ⟨w, List.mem_cons_of_mem _ hw, fin w fun _ _ => rfl⟩
theorem strs_beqC (z y : Str) : (z == y) = decide (z = y) := by
  by_cases h : z = y
  · rw [h, decide_eq_true rfl]
    exact beq_self_eq_true _
  · rw [decide_eq_false h]
    exact Bool.eq_false_iff.mpr fun e => h (eq_of_beq e)
theorem inV_strsC (y : Str) : ∀ zs : List Str, inV (.str y) (zs.map V.str) = decide (y ∈ zs)
  | [] => rfl
  | z :: zs => by
    show ((z == y) || inV (.str y) (zs.map V.str)) = decide (y ∈ z :: zs)
    rw [inV_strsC y zs, strs_beqC]
    by_cases h : z = y
    · subst h
      rw [decide_eq_true rfl, decide_eq_true List.mem_cons_self]
      rfl
    · rw [decide_eq_false h, Bool.false_or]
      by_cases h2 : y ∈ zs
      · rw [decide_eq_true h2, decide_eq_true (List.mem_cons_of_mem _ h2)]
      · rw [decide_eq_false h2, decide_eq_false fun e => (List.mem_cons.mp e).elim (fun e => h e.symm) h2]
theorem leaf_nam {y y' : Str} {kv kv' : Kvs} {zs : List Str} (h : decide (y ∈ zs) = decide (y' ∈ zs)) : (Md.nam zs).holds y kv = (Md.nam zs).holds y' kv' := by
  show inV (.str y) (zs.map V.str) = inV (.str y') (zs.map V.str)
  rw [inV_strsC, inV_strsC, h]
/-- if no candidate parts them, no record does -/
theorem cand_complete {m n : Md} (g1 : m.good) (g2 : n.good) (fewL : m.leaves + n.leaves < 26) (fewN : m.names + n.names < 26) (no : ∀ y kv, V.str y ∈ candK m n → kv ∈ candV m n → m.holds y kv = n.holds y kv) (y : Str) (kv : Kvs) (h6 : kv.length ≤ 6) : m.holds y kv = n.holds y kv := by
  have lf : (fldsOf (partBs m n)).length < 26 := by
    have h1 := (srtT_mem (difs ((partBs m n).map (·.1)))).length_eq
    have h2 := difs_len ((partBs m n).map (·.1))
    have h3 := part_bs_few m n
    rw [List.length_map] at h2
    show (srtT (difs ((partBs m n).map (·.1)))).length < 26
    omega
  have hx : freeOf (allNs (partGs m n)) ∉ allNs (partGs m n) := (free_ofC (by rw [part_gs_few]; exact fewN)).2
  obtain ⟨y', hy', ey⟩ := key_complete hx y
  obtain ⟨kv', hk', ek⟩ := val_complete (lvs_bs g1 g2) (fun z h => h) lf h6
  have same : ∀ l ∈ m.lvs ++ n.lvs, l.holds y' kv' = l.holds y kv := fun l hl => by
    cases l with
    | btw z lo hi => exact ek (z, lo, hi) (List.mem_filterMap.mpr ⟨_, hl, rfl⟩)
    | nam zs => exact leaf_nam ((List.map_inj_left.mp ey) _ (List.mem_filterMap.mpr ⟨_, hl, rfl⟩))
    | neg m => exact absurd (show 2 < 2 from (List.mem_append.mp hl).elim Md.lvs_leaf Md.lvs_leaf) (by decide)
    | both a b => exact absurd (show 3 < 2 from (List.mem_append.mp hl).elim Md.lvs_leaf Md.lvs_leaf) (by decide)
    | eith a b => exact absurd (show 4 < 2 from (List.mem_append.mp hl).elim Md.lvs_leaf Md.lvs_leaf) (by decide)
  rw [← holds_lvs fun l hl => same l (List.mem_append.mpr (.inl hl)), ← holds_lvs fun l hl => same l (List.mem_append.mpr (.inr hl))]
  exact no y' kv' hy' hk'
end G

set_option Elab.async false
set_option linter.all false
set_option maxRecDepth 100000
set_option maxHeartbeats 4000000
/-! D4: the law's own looks at a model: leaves, depth, holds. -/
namespace G
open PySem PySem.Spec PyProof.Rows L2 NdefX StX
theorem scLHolds : FnScope ["_law_model", "_law_key", "_law_value", "_law_both", "_law_part"] ["_law_model", "_law_key", "_law_value"] (defScope sLHolds) := ⟨rfl, rfl, rfl, by decide +kernel, rfl, by decide +kernel, by decide +kernel⟩
namespace Md
def parts : Md → List Md
  | .neg m => [m]
  | .both a b => [a, b]
  | .eith a b => [a, b]
  | _ => []
def isLeaf : Md → Bool
  | .btw _ _ _ => true
  | .nam _ => true
  | _ => false
def leafs : Md → List Md
  | .btw z lo hi => [.btw z lo hi]
  | .nam zs => [.nam zs]
  | .neg m => m.leafs
  | .both a b => a.leafs ++ b.leafs
  | .eith a b => a.leafs ++ b.leafs
theorem leafs_len : ∀ m : Md, m.leafs.length = m.leaves
  | .btw _ _ _ => rfl
  | .nam _ => rfl
  | .neg m => leafs_len m
  | .both a b => by
    show (a.leafs ++ b.leafs).length = a.leaves + b.leaves
    rw [List.length_append, leafs_len a, leafs_len b]
  | .eith a b => by
    show (a.leafs ++ b.leafs).length = a.leaves + b.leaves
    rw [List.length_append, leafs_len a, leafs_len b]
theorem leafs_parts : ∀ {m : Md}, m.isLeaf = false → m.leafs = m.parts.flatMap leafs
  | .neg m, _ => by simp [leafs, parts]
  | .both a b, _ => by simp [leafs, parts]
  | .eith a b, _ => by simp [leafs, parts]
theorem part_less : ∀ {m p : Md}, p ∈ m.parts → p.depth < m.depth ∧ p.leaves ≤ m.leaves
  | .neg m, p, h => by
    obtain rfl := List.mem_singleton.mp h
    exact ⟨Nat.lt_succ_self _, Nat.le_refl _⟩
  | .both a b, p, h => by
    rcases List.mem_cons.mp h with rfl | h
    · exact ⟨Nat.lt_succ_of_le (Nat.le_max_left _ _), Nat.le_add_right _ _⟩
    · obtain rfl := List.mem_singleton.mp h
      exact ⟨Nat.lt_succ_of_le (Nat.le_max_right _ _), Nat.le_add_left _ _⟩
  | .eith a b, p, h => by
    rcases List.mem_cons.mp h with rfl | h
    · exact ⟨Nat.lt_succ_of_le (Nat.le_max_left _ _), Nat.le_add_right _ _⟩
    · obtain rfl := List.mem_singleton.mp h
      exact ⟨Nat.lt_succ_of_le (Nat.le_max_right _ _), Nat.le_add_left _ _⟩
theorem parts_two (m : Md) : m.parts.length ≤ 2 := by cases m <;> simp [parts]
end Md
def AllAt (H : Hp) : List Addr → List Md → Prop
  | [], [] => True
  | a :: as, m :: ms => MdAt H a m ∧ AllAt H as ms
  | _, _ => False
theorem AllAt.sk {H H' : Hp} (s : SK H H') : ∀ {as : List Addr} {ms : List Md}, AllAt H as ms → AllAt H' as ms
  | [], [], _ => trivial
  | _ :: _, _ :: _, h => ⟨h.1.sk s, AllAt.sk s h.2⟩
  | [], _ :: _, h => h.elim
  | _ :: _, [], h => h.elim
theorem AllAt.same {H H' : Hp} {as : List Addr} {ms : List Md} (h : AllAt H as ms) (s : Same H H') : AllAt H' as ms := h.sk (.of_same s)
theorem AllAt.len {H : Hp} : ∀ {as : List Addr} {ms : List Md}, AllAt H as ms → as.length = ms.length
  | [], [], _ => rfl
  | _ :: as, _ :: ms, h => by
    rw [List.length_cons, List.length_cons, AllAt.len h.2]
  | [], _ :: _, h => h.elim
  | _ :: _, [], h => h.elim
theorem AllAt.app {H : Hp} : ∀ {as bs : List Addr} {ms ns : List Md}, AllAt H as ms → AllAt H bs ns → AllAt H (as ++ bs) (ms ++ ns)
  | [], _, [], _, _, h => h
  | _ :: _, _, _ :: _, _, h, h2 => ⟨h.1, AllAt.app h.2 h2⟩
  | [], _, _ :: _, _, h, _ => h.elim
  | _ :: _, _, [], _, h, _ => h.elim
theorem AllAt.get {H : Hp} : ∀ {as : List Addr} {ms : List Md} {i : Nat} {a : Addr}, AllAt H as ms → as[i]? = some a → ∃ m, ms[i]? = some m ∧ MdAt H a m
  | a :: as, m :: ms, 0, _, h, e => by
    cases e
    exact ⟨m, rfl, h.1⟩
  | a :: as, m :: ms, i + 1, _, h, e => AllAt.get (as := as) (ms := ms) (i := i) h.2 e
  | [], [], _, _, _, e => by cases e
  | [], _ :: _, _, _, h, _ => h.elim
  | _ :: _, [], _, _, h, _ => h.elim
/-- a model that is no leaf, as its word and its parts -/
theorem MdAt.split {H : Hp} : ∀ {m : Md} {t : Addr}, MdAt H t m → m.isLeaf = false → ∃ (w : Str) (us : List Addr), H t = some (.tup (.str w :: us.map V.ref)) ∧ AllAt H us m.parts ∧
    decide (V.str w = V.str ("between" : Str)) = false ∧ decide (V.str w = V.str ("named" : Str)) = false ∧ inV (.str w) [.str "between", .str "named"] = false
  | .neg m, t, ⟨u, e, h⟩, _ => ⟨"not", [u], e, ⟨h, trivial⟩, nt_bt, nt_nm, by decide +kernel⟩
  | .both a b, t, ⟨u, v, e, h1, h2⟩, _ => ⟨"both", [u, v], e, ⟨h1, h2, trivial⟩, bo_bt, bo_nm, by decide +kernel⟩
  | .eith a b, t, ⟨u, v, e, h1, h2⟩, _ => ⟨"either", [u, v], e, ⟨h1, h2, trivial⟩, ei_bt, ei_nm, by decide +kernel⟩
  | .btw _ _ _, _, _, h => by cases h
  | .nam _, _, _, h => by cases h
theorem MdAt.leaf {H : Hp} : ∀ {m : Md} {t : Addr}, MdAt H t m → m.isLeaf = true → ∃ (w : Str) (r : List V), H t = some (.tup (.str w :: r)) ∧ inV (.str w) [.str "between", .str "named"] = true
  | .btw _ _ _, t, e, _ => ⟨"between", _, e, by decide +kernel⟩
  | .nam _, t, e, _ => ⟨"named", _, e, by decide +kernel⟩
  | .neg _, _, _, h => by cases h
  | .both _ _, _, _, h => by cases h
  | .eith _ _, _, _, h => by cases h
def spLHolds (d : Nat) : Sp := fun vs H Q _ => ∃ (t v : Addr) (y : Str) (m : Md) (zs : List Str) (kvs : List (Key × V)), vs = [.ref t, .str y, .ref v] ∧ MdAt H t m ∧ m.depth ≤ d ∧ H v = some (.dK kvs) ∧ ValN zs kvs ∧ ∀ H', Same H H' → Q (.bl (m.holds y kvs)) H'
end G

set_option Elab.async false
set_option linter.all false
set_option maxRecDepth 100000
set_option maxHeartbeats 4000000
/-! D5: the law's depth and holds. -/
namespace G
open PySem PySem.Spec PyProof.Rows L2 NdefX StX
theorem depth_parts {m : Md} {k : Int} (hl : m.isLeaf = false) (h1 : k ∈ m.parts.map fun p => ((p.depth : Nat) : Int)) (h2 : ∀ y, y ∈ (m.parts.map fun p => ((p.depth : Nat) : Int)) → y ≤ k) : 1 + k = ((m.depth : Nat) : Int) := by
  have two : ∀ a b : Md, k ∈ [((a.depth : Nat) : Int), ((b.depth : Nat) : Int)] → (∀ y, y ∈ [((a.depth : Nat) : Int), ((b.depth : Nat) : Int)] → y ≤ k) → 1 + k = ((max a.depth b.depth + 1 : Nat) : Int) := fun a b h1 h2 => by
    have ha := h2 _ List.mem_cons_self
    have hb := h2 _ (List.mem_cons_of_mem _ List.mem_cons_self)
    rcases List.mem_cons.mp h1 with rfl | h1
    · omega
    · have := List.mem_singleton.mp h1
      omega
  cases m with
  | neg a =>
    have e : k = ((a.depth : Nat) : Int) := List.mem_singleton.mp h1
    show 1 + k = ((a.depth + 1 : Nat) : Int)
    omega
  | both a b => exact two a b h1 h2
  | eith a b => exact two a b h1 h2
  | _ => cases hl
section
variable {P : Program} {w : World} {K : PySem.W.Frag} {mg : Str → Option Value} {base : Heap}
theorem ok_lholds {f : Addr} {fd : FuncData} (F : Fun K "_law_holds" "_law_holds" sLHolds f fd) (bF : Binds K fd ["_law_model", "_law_key", "_law_value"] []) (gF : mg "_law_holds" = some (.ref f)) :
    ∀ d, FnOk P w K mg base CX0 (d + 1) f fd ["_law_model", "_law_key", "_law_value"] (spLHolds d)
  | 0 => fn_none fun vs H Q E h => by
    obtain ⟨t, v, y, m, zs, kvs, _, _, h0, _⟩ := h
    have := m.depth_pos
    omega
  | d + 1 => by
    have GR := ok_lholds F bF gF d
    refine F.ok scLHolds (fun vs H Q E h => ?_) (fun cdv A outer s H vs Q E hr h => ?_)
    · obtain ⟨t, v, y, m, zs, kvs, rfl, _⟩ := h
      rfl
    · obtain ⟨t, v, y, m, zs, kvs, rfl, hm, hd, hv, ok, q⟩ := h
      have hu := hu_of hr
      refine ⟨_, pss_cons (ps_if (pt_cmpR op_eq (pe_ix ix_tup (pv 0) pe_int (fun _ _ => rfl)) pe_str (nomark _))
          (pss_one (ps_ret (pe_and (pe_cmp (pc_din hu (pe_ix ix_tup (pv 0) pe_int (fun _ _ => rfl)) (pv 2)) rfl) (pe_one (pe_chain op_le op_le (pe_ix ix_tup (pv 0) pe_int (fun _ _ => rfl)) (pe_dget hu (pv 2) (pe_ix ix_tup (pv 0) pe_int (fun _ _ => rfl)) (fun _ _ => rfl)) (pe_ix ix_tup (pv 0) pe_int (fun _ _ => rfl))))))) pss_nil)
        (pss_cons (ps_if (pt_cmpR op_eq (pe_ix ix_tup (pv 0) pe_int (fun _ _ => rfl)) pe_str (nomark _)) (pss_one (ps_ret (pe_cmpR op_in_seq (pv 1) (pe_slice sl_tup (pv 0) (po_some pe_int) po_none) (by rfl)))) pss_nil)
        (pss_cons (ps_if (pt_cmpR op_eq (pe_ix ix_tup (pv 0) pe_int (fun _ _ => rfl)) pe_str (nomark _))
          (pss_one (ps_ret (pe_not (pe_call GR hr rfl gF F.kp bF .nil pass0 (pa_cons (pe_ix ix_tup (pv 0) pe_int (fun _ _ => rfl)) (pa_cons (pv 1) (pa_cons (pv 2) pa_nil))))))) pss_nil)
        (pss_cons (ps_setLc (i := 3) (own := [("_law_part", 4)]) (g := gName 4) (tt := tYes) (by rfl) scLHolds.nd rfl rfl (sw_true rfl rfl rfl (by decide +kernel)) (pi_tup (pe_slice sl_tup (pv 0) (po_some pe_int) po_none))
          (blkOk_by (own := [("_law_part", 4)]) (N := ["_law_model", "_law_key", "_law_value", "_law_both", "_law_part"]) (sc := defScope sLHolds) (by decide +kernel)) (fun _ _ _ _ _ => pg_name (i := 4) scLHolds.nd rfl (.inl rfl)) (fun _ _ _ _ _ => pts_nil)
          (fun _ _ _ _ _ => pe_call GR hr rfl gF F.kp bF .nil pass0 (pa_cons (pv 4) (pa_cons (pv 1) (pa_cons (pv 2) pa_nil)))))
        (pss_one (ps_ret (pe_ifExp (pt_cmpR op_eq (pe_ix ix_tup (pv 0) pe_int (fun _ _ => rfl)) pe_str (nomark _)) (pe_cmpR (op_eqD hr.units) (pv 3) (pe_lst (pa_cons pe_bl (pa_cons pe_bl pa_nil))) (nomark _)) (pe_cmpR op_in_seq pe_bl (pv 3) (by rfl)))))))), ?_⟩
      cases m with
      | btw z lo hi =>
        have e : H t = some (.tup [.str "between", .str z, .int lo, .int hi]) := hm
        refine ⟨_, rfl, t, _, 0, _, rfl, rfl, .of e, rfl, rfl, _, rfl, ifY (self_eq _) ?_⟩
        refine ⟨_, rfl, t, _, 1, _, rfl, rfl, .of e, rfl, _, rfl, v, _, rfl, DGet.k (k := Sum.inr z) hv, _, rfl, ?_⟩
        have qq : Q (.bl (btwHolds z lo hi kvs)) H := q H (Same.refl H)
        clear q
        unfold btwHolds at qq
        rcases valV_int ok (Sum.inr z) with ev | ⟨n, ev⟩
        · rw [ev] at qq ⊢
          exact iteF qq
        · rw [ev] at qq ⊢
          replace qq : Q (.bl (decide (lo ≤ n) && decide (n ≤ hi))) H := qq
          refine iteT ?_
          refine ⟨_, rfl, t, _, 2, _, rfl, rfl, .of e, rfl, _, rfl, _, rfl, t, _, 1, _, rfl, rfl, .of e, rfl, v, _, rfl, by rw [← ev]; exact DGet.k (k := Sum.inr z) hv, _, _, rfl, rfl, _, rfl, ?_⟩
          cases e2 : decide (lo ≤ n) with
          | false =>
            rw [e2] at qq
            exact iteF qq
          | true =>
            rw [e2] at qq
            exact iteT ⟨_, rfl, t, _, 3, _, rfl, rfl, .of e, rfl, _, _, rfl, rfl, qq⟩
      | nam ns =>
        have e : H t = some (.tup (.str "named" :: ns.map V.str)) := hm
        refine ⟨_, rfl, t, _, ((0 : Nat) : Int), .str "named", rfl, rfl, .of e, atI_nat (j := 0) rfl, rfl, _, rfl, ifN nm_bt ?_⟩
        refine ⟨_, rfl, t, _, ((0 : Nat) : Int), .str "named", rfl, rfl, .of e, atI_nat (j := 0) rfl, rfl, _, rfl, ifY (self_eq _) ?_⟩
        refine ⟨_, rfl, _, rfl, _, rfl, t, _, rfl, .of e, not_whole _ _, fun u hu' => ?_⟩
        rw [cut_tail]
        refine ⟨u, _, rfl, .inr (.of upd_same), rfl, ?_, q _ (Same.new hu')⟩
        rw [List.all_eq_true]
        intro x hx
        obtain ⟨z, _, rfl⟩ := List.mem_map.mp hx
        rfl
      | neg m1 =>
        obtain ⟨u, e, h1⟩ : ∃ u, H t = some (.tup [.str "not", .ref u]) ∧ MdAt H u m1 := hm
        have hdd : m1.depth + 1 ≤ d + 1 := hd
        refine ⟨_, rfl, t, _, 0, _, rfl, rfl, .of e, rfl, rfl, _, rfl, ifN nt_bt ?_⟩
        refine ⟨_, rfl, t, _, 0, _, rfl, rfl, .of e, rfl, rfl, _, rfl, ifN nt_nm ?_⟩
        refine ⟨_, rfl, t, _, 0, _, rfl, rfl, .of e, rfl, rfl, _, rfl, ifY (self_eq _) ?_⟩
        exact ⟨_, rfl, t, _, 1, _, rfl, rfl, .of e, rfl, _, rfl, _, rfl, u, v, y, m1, zs, kvs, rfl, h1, by omega, hv, ok, fun H' s' => ⟨_, rfl, q H' s'⟩⟩
      | both m1 m2 =>
        obtain ⟨u1, u2, e, h1, h2⟩ : ∃ u v, H t = some (.tup [.str "both", .ref u, .ref v]) ∧ MdAt H u m1 ∧ MdAt H v m2 := hm
        have hdd : max m1.depth m2.depth + 1 ≤ d + 1 := hd
        refine ⟨_, rfl, t, _, 0, _, rfl, rfl, .of e, rfl, rfl, _, rfl, ifN bo_bt ?_⟩
        refine ⟨_, rfl, t, _, 0, _, rfl, rfl, .of e, rfl, rfl, _, rfl, ifN bo_nm ?_⟩
        refine ⟨_, rfl, t, _, 0, _, rfl, rfl, .of e, rfl, rfl, _, rfl, ifN bo_nt ?_⟩
        refine ⟨_, rfl, _, rfl, t, _, rfl, .of e, not_whole _ _, fun u hu' => ?_⟩
        rw [cut_tail]
        have s1 : Same H (upd H u (.tup [.ref u1, .ref u2])) := Same.new hu'
        have eu0 : (upd H u (.tup [.ref u1, .ref u2])) u = some (.tup [.ref u1, .ref u2]) := upd_same
        generalize upd H u (.tup [.ref u1, .ref u2]) = H1 at s1 eu0 ⊢
        refine ⟨u, rfl, ⟨_, .of eu0⟩, fun D hD => ?_⟩
        have fD : H D = none := s1.free hD
        have nuD : u ≠ D := ne_of_none eu0 hD
        refine lc_tup (xs := [.ref u1, .ref u2]) (fun i H2 => Same H H2 ∧ H2 u = some (.tup [.ref u1, .ref u2]) ∧ H2 D = some (.lst (([m1.holds y kvs, m2.holds y kvs].take i).map V.bl))) ?_ ?_ ?_ ?_
        · exact ⟨s1.trans (Same.new hD), (upd_ne nuD).trans eu0, upd_same⟩
        · rintro i H2 _ ⟨_, eu, _⟩
          exact .of eu
        · rintro i x H2 hx ⟨s4, eu, eD⟩
          obtain ⟨a, mi, hmi, rfl, dmi, ebi⟩ : ∃ (a : Addr) (mi : Md), MdAt H2 a mi ∧ x = .ref a ∧ mi.depth ≤ d ∧ ([m1.holds y kvs, m2.holds y kvs].take (i + 1)).map V.bl = ([m1.holds y kvs, m2.holds y kvs].take i).map V.bl ++ [.bl (mi.holds y kvs)] := by
            match i, hx with
            | 0, hx => exact ⟨u1, m1, h1.same s4, (Option.some.inj hx).symm, by omega, rfl⟩
            | 1, hx => exact ⟨u2, m2, h2.same s4, (Option.some.inj hx).symm, by omega, rfl⟩
          refine ⟨rfl, ?_⟩
          unfold tYes
          dsimp only
          rw [if_pos rfl]
          refine ⟨_, rfl, _, rfl, _, rfl, a, v, y, mi, zs, kvs, rfl, hmi, dmi, s4 _ _ hv, ok, fun H3 s5 => ⟨_, s5 _ _ eD, ?_, ?_⟩⟩
          · rw [List.length_map, List.length_take]
            exact small1000 (by show min i 2 ≤ 1000; omega)
          · exact ⟨fun c o ec => (upd_ne (ne_of_none ec fD)).trans (s5 _ _ (s4 _ _ ec)), (upd_ne nuD).trans (s5 _ _ eu), by rw [upd_same, ebi]⟩
        · rintro H2 ⟨s4, eu, eD⟩
          have eD2 : H2 D = some (.lst [.bl (m1.holds y kvs), .bl (m2.holds y kvs)]) := eD
          refine ⟨_, rfl, t, _, 0, _, rfl, rfl, .of (s4 _ _ e), rfl, rfl, _, rfl, ifY (self_eq _) ?_⟩
          refine ⟨_, rfl, (by show 2 ≤ sizeLine; decide), fun p2 hp2 => ?_⟩
          have eD3 := (upd_ne (o := .lst [.bl true, .bl true]) (ne_of_none eD2 hp2)).trans eD2
          refine ⟨.list [.bool (m1.holds y kvs), .bool (m2.holds y kvs)], .list [.bool true, .bool true], .lst (.of eD3) (.cons (.bl _) (.cons (.bl _) .nil)), .lst (.of upd_same) (.cons (.bl _) (.cons (.bl _) .nil)), ?_, rfl, ?_⟩
          · cases m1.holds y kvs <;> cases m2.holds y kvs <;> rfl
          · have z : Q (.bl (m1.holds y kvs && m2.holds y kvs)) (upd H2 p2 (.lst [.bl true, .bl true])) := q _ (s4.trans (Same.new hp2))
            have eq2 : PyData.eqv (.list [.bool (m1.holds y kvs), .bool (m2.holds y kvs)]) (.list [.bool true, .bool true]) = (m1.holds y kvs && m2.holds y kvs) := by
              cases m1.holds y kvs <;> cases m2.holds y kvs <;> rfl
            rw [eq2]
            exact z
      | eith m1 m2 =>
        obtain ⟨u1, u2, e, h1, h2⟩ : ∃ u v, H t = some (.tup [.str "either", .ref u, .ref v]) ∧ MdAt H u m1 ∧ MdAt H v m2 := hm
        have hdd : max m1.depth m2.depth + 1 ≤ d + 1 := hd
        refine ⟨_, rfl, t, _, 0, _, rfl, rfl, .of e, rfl, rfl, _, rfl, ifN ei_bt ?_⟩
        refine ⟨_, rfl, t, _, 0, _, rfl, rfl, .of e, rfl, rfl, _, rfl, ifN ei_nm ?_⟩
        refine ⟨_, rfl, t, _, 0, _, rfl, rfl, .of e, rfl, rfl, _, rfl, ifN ei_nt ?_⟩
        refine ⟨_, rfl, _, rfl, t, _, rfl, .of e, not_whole _ _, fun u hu' => ?_⟩
        rw [cut_tail]
        have s1 : Same H (upd H u (.tup [.ref u1, .ref u2])) := Same.new hu'
        have eu0 : (upd H u (.tup [.ref u1, .ref u2])) u = some (.tup [.ref u1, .ref u2]) := upd_same
        generalize upd H u (.tup [.ref u1, .ref u2]) = H1 at s1 eu0 ⊢
        refine ⟨u, rfl, ⟨_, .of eu0⟩, fun D hD => ?_⟩
        have fD : H D = none := s1.free hD
        have nuD : u ≠ D := ne_of_none eu0 hD
        refine lc_tup (xs := [.ref u1, .ref u2]) (fun i H2 => Same H H2 ∧ H2 u = some (.tup [.ref u1, .ref u2]) ∧ H2 D = some (.lst (([m1.holds y kvs, m2.holds y kvs].take i).map V.bl))) ?_ ?_ ?_ ?_
        · exact ⟨s1.trans (Same.new hD), (upd_ne nuD).trans eu0, upd_same⟩
        · rintro i H2 _ ⟨_, eu, _⟩
          exact .of eu
        · rintro i x H2 hx ⟨s4, eu, eD⟩
          obtain ⟨a, mi, hmi, rfl, dmi, ebi⟩ : ∃ (a : Addr) (mi : Md), MdAt H2 a mi ∧ x = .ref a ∧ mi.depth ≤ d ∧ ([m1.holds y kvs, m2.holds y kvs].take (i + 1)).map V.bl = ([m1.holds y kvs, m2.holds y kvs].take i).map V.bl ++ [.bl (mi.holds y kvs)] := by
            match i, hx with
            | 0, hx => exact ⟨u1, m1, h1.same s4, (Option.some.inj hx).symm, by omega, rfl⟩
            | 1, hx => exact ⟨u2, m2, h2.same s4, (Option.some.inj hx).symm, by omega, rfl⟩
          refine ⟨rfl, ?_⟩
          unfold tYes
          dsimp only
          rw [if_pos rfl]
          refine ⟨_, rfl, _, rfl, _, rfl, a, v, y, mi, zs, kvs, rfl, hmi, dmi, s4 _ _ hv, ok, fun H3 s5 => ⟨_, s5 _ _ eD, ?_, ?_⟩⟩
          · rw [List.length_map, List.length_take]
            exact small1000 (by show min i 2 ≤ 1000; omega)
          · exact ⟨fun c o ec => (upd_ne (ne_of_none ec fD)).trans (s5 _ _ (s4 _ _ ec)), (upd_ne nuD).trans (s5 _ _ eu), by rw [upd_same, ebi]⟩
        · rintro H2 ⟨s4, eu, eD⟩
          have eD2 : H2 D = some (.lst [.bl (m1.holds y kvs), .bl (m2.holds y kvs)]) := eD
          refine ⟨_, rfl, t, _, 0, _, rfl, rfl, .of (s4 _ _ e), rfl, rfl, _, rfl, ifN ei_bo ?_⟩
          refine ⟨_, rfl, D, _, rfl, .inl (.inl (.inl eD2)), rfl, rfl, ?_⟩
          have z : Q (.bl (m1.holds y kvs || m2.holds y kvs)) H2 := q _ s4
          have eq2 : inV (.bl true) [.bl (m1.holds y kvs), .bl (m2.holds y kvs)] = (m1.holds y kvs || m2.holds y kvs) := by
            cases m1.holds y kvs <;> cases m2.holds y kvs <;> decide
          show Q (.bl (inV (.bl true) [.bl (m1.holds y kvs), .bl (m2.holds y kvs)])) H2
          rw [eq2]
          exact z
end
end G

set_option Elab.async false
set_option linter.all false
set_option maxRecDepth 100000
set_option maxHeartbeats 4000000
/-! LP1: _law_parted. -/
namespace G
open PySem PySem.Spec PyProof.Rows L2 NdefX StX
theorem scLPart : FnScope ["_law_one", "_law_other", "_law_found"] ["_law_one", "_law_other", "_law_found"] (defScope sLPart) := ⟨rfl, rfl, rfl, by decide +kernel, rfl, by decide +kernel, by decide +kernel⟩
def spLPart (K : PySem.W.Frag) : Sp := fun vs H Q _ => ∃ (t u : Addr) (m n : Md) (v : V), vs = [.ref t, .ref u, v] ∧ MdAt H t m ∧ MdAt H u n ∧ m.depth ≤ 5 ∧ n.depth ≤ 5 ∧ Found K H v ∧ ∀ H', Same H H' → Q (.bl (partB m n H v)) H'
section
variable {P : Program} {w : World} {K : PySem.W.Frag} {mg : Str → Option Value} {base : Heap} {f : Addr} {fd : FuncData}
theorem ok_lpart {fI fV fH : Addr} {fdI fdV fdH : FuncData} (F : Fun K "_law_parted" "_law_parted" sLPart f fd)
    (GI : FnOk P w K mg base CX0 1 fI fdI ["_law_thing"] (spIsNameT K)) (gI : mg "_law_is_name" = some (.ref fI)) (kI : PySem.W.keepIn K (.ref fI) = true) (bI : Binds K fdI ["_law_thing"] [])
    (GV : FnOk P w K mg base CX0 2 fV fdV ["_law_thing"] (spIsValT K)) (gV : mg "_law_is_value" = some (.ref fV)) (kV : PySem.W.keepIn K (.ref fV) = true) (bV : Binds K fdV ["_law_thing"] [])
    (GH : FnOk P w K mg base CX0 6 fH fdH ["_law_model", "_law_key", "_law_value"] (spLHolds 5)) (gH : mg "_law_holds" = some (.ref fH)) (kH : PySem.W.keepIn K (.ref fH) = true) (bH : Binds K fdH ["_law_model", "_law_key", "_law_value"] [])
    (mi : mg "isinstance" = none) (mt : mg "tuple" = none) (ml : mg "len" = none) : FnOk P w K mg base CX0 7 f fd ["_law_one", "_law_other", "_law_found"] (spLPart K) := by
  refine F.ok scLPart (fun vs H Q E h => ?_) (fun cdv A outer s H vs Q E hr h => ?_)
  · obtain ⟨a, b, m, n, v, rfl, _⟩ := h
    rfl
  · obtain ⟨t1, u1, m, n, v, rfl, ca, cb, da, db, fo, q⟩ := h
    have hr1 := hr.mono (show 1 ≤ 6 by decide)
    have hr2 := hr.mono (show 2 ≤ 6 by decide)
    refine ⟨_, pss_cons (ps_if (PW.pt (pw_or (pt_not (pt_val (pt_isi "tuple" (pv 2) (hm := mi) (mn := mt)))) (pw_or (pt_cmpR op_ne (pe_callB call_len_seq (by rfl) ml PySem.boot_len (pa_cons (pv 2) pa_nil)) pe_int (nomark _))
        (pw_or (pt_not (pt_val (pe_call GI hr1 rfl gI kI bI .nil pass0 (pa_cons (pe_ix ix_tup (pv 2) pe_int (fun _ _ => rfl)) pa_nil)))) (pw_or1 (pt_not (pt_val (pe_call GV hr2 rfl gV kV bV .nil pass0 (pa_cons (pe_ix ix_tup (pv 2) pe_int (fun _ _ => rfl)) pa_nil))))))))) (pss_one (ps_ret pe_bl)) pss_nil)
      (pss_one (ps_ret (pe_cmpR op_ne (pe_call GH hr rfl gH kH bH .nil pass0 (pa_cons (pv 0) (pa_cons (pe_ix ix_tup (pv 2) pe_int (fun _ _ => rfl)) (pa_cons (pe_ix ix_tup (pv 2) pe_int (fun _ _ => rfl)) pa_nil)))) (pe_call GH hr rfl gH kH bH .nil pass0 (pa_cons (pv 1) (pa_cons (pe_ix ix_tup (pv 2) pe_int (fun _ _ => rfl)) (pa_cons (pe_ix ix_tup (pv 2) pe_int (fun _ _ => rfl)) pa_nil)))) (nomark _)))), ?_⟩
    obtain ⟨⟨d, hR⟩, two⟩ := fo
    refine ⟨_, rfl, _, _, _, _, _, rfl, .ty _, rp_ty hR, kit_t d, _, rfl, ?_⟩
    cases hR with
    | non => exact iteT (q H (.refl _))
    | int i => exact iteT (q H (.refl _))
    | bl b => exact iteT (q H (.refl _))
    | str z => exact iteT (q H (.refl _))
    | lst e _ =>
      have eq := partB_ref (m := m) (n := n) e
      rw [eq] at q
      exact iteT (q H (.refl _))
    | dic e _ _ =>
      have eq := partB_ref (m := m) (n := n) e
      rw [eq] at q
      exact iteT (q H (.refl _))
    | @tup t xs ds e _ =>
      have eq := partB_ref (m := m) (n := n) e
      rw [eq] at q
      refine iteF ⟨_, rfl, t, xs, rfl, .inr (.of e), rfl, _, rfl, ?_⟩
      match xs, e, q, two with
      | [], e, q, two => exact iteT (q H (.refl _))
      | [k], e, q, two => exact iteT (q H (.refl _))
      | k :: x :: y :: r, e, q, two =>
        rw [show (!decide (V.int (((k :: x :: y :: r).length : Nat) : Int) = V.int 2)) = true from by
          rw [decide_eq_false fun z => ?_]
          · rfl
          · have z := V.int.inj z
            rw [List.length_cons, List.length_cons, List.length_cons] at z
            omega]
        exact iteT (q H (.refl _))
      | [k, x], e, q, two =>
        obtain ⟨⟨⟨dk, rk⟩, tk⟩, cx⟩ := two t k x rfl e
        refine iteF ⟨_, rfl, t, _, 0, _, rfl, rfl, .of e, rfl, k, dk, rfl, rk, (fun z ez => by rw [ez] at tk; exact tk), fun H1 s1 => ⟨_, rfl, ?_⟩⟩
        have q : ∀ H', Same H H' → Q (.bl (nameV k && valV' H x && (holdV m H k x != holdV n H k x))) H' := q
        cases hk : nameV k with
        | false =>
          rw [hk] at q
          exact iteT (q H1 s1)
        | true =>
          rw [hk] at q
          obtain ⟨⟨dv, rv⟩, tv⟩ := cx.same s1
          have ev : valV' H1 x = valV' H x := let ⟨⟨_, r0⟩, _⟩ := cx; valV'_same r0 s1
          refine iteF ⟨_, rfl, t, _, 1, _, rfl, rfl, .of (s1 _ _ e), rfl, x, dv, rfl, rv, tv, fun H2 s2 => ⟨_, rfl, ?_⟩⟩
          rw [ev]
          have s02 := s1.trans s2
          cases hx : valV' H x with
          | false =>
            rw [hx] at q
            exact iteT (q H2 s02)
          | true =>
            rw [hx] at q
            obtain ⟨y, d, kvs, zs, rfl, hy, rfl, ed, vo⟩ := both_is hk hx
            have h1 : ∀ m : Md, holdV m H (.str y) (.ref d) = m.holds y kvs := fun m => by
              show (match H d with | some (.dK kvs) => m.holds y kvs | _ => false) = _
              rw [ed]
            rw [h1, h1] at q
            refine iteF ⟨_, rfl, _, rfl, t, _, 0, _, rfl, rfl, .of (s02 _ _ e), rfl, _, rfl, t, _, 1, _, rfl, rfl, .of (s02 _ _ e), rfl, t1, d, y, m, zs, kvs, rfl, ca.same s02, da, s02 _ _ ed, vo.is, fun H3 s3 => ?_⟩
            have s03 := s02.trans s3
            refine ⟨_, rfl, _, rfl, t, _, 0, _, rfl, rfl, .of (s03 _ _ e), rfl, _, rfl, t, _, 1, _, rfl, rfl, .of (s03 _ _ e), rfl, u1, d, y, n, zs, kvs, rfl, cb.same s03, db, s03 _ _ ed, vo.is, fun H4 s4 => ⟨rfl, ?_⟩⟩
            rw [bne_bl]
            exact q H4 (s03.trans s4)
end
end G

set_option Elab.async false
set_option linter.all false
set_option maxRecDepth 100000
set_option maxHeartbeats 4000000
/-! VN: drawn names differ. -/
namespace G
open PySem PySem.Spec PyProof.Rows L2
def Cop (st : Nat) : Prop := st ∈ [1, 3, 5, 7, 9, 11, 15, 17]
theorem cop_le {st : Nat} (h : Cop st) : st ≤ 17 := by
  unfold Cop at h
  simp at h
  omega
theorem cop_inj {st bg i j : Nat} (h : Cop st) (e : (bg + st * i) % 26 = (bg + st * j) % 26) : i % 26 = j % 26 := by
  unfold Cop at h
  simp only [List.mem_cons, List.not_mem_nil, or_false] at h
  rcases h with rfl | rfl | rfl | rfl | rfl | rfl | rfl | rfl <;> omega
theorem abc_is : ∀ j : Fin 26, abc.cps[(j : Nat)]? = some (97 + (j : Nat)) := by decide +kernel
theorem abc_code {j c n : Nat} (hj : j < 26) (hc : abc.cps[j]? = some c) (e : j = n) : cs (⟨#[c]⟩ : Str) = [97 + n] := by
  have z := abc_is ⟨j, hj⟩
  rw [hc] at z
  rw [← e, ← Option.some.inj z]
theorem abc_code2 {j c : Nat} (hj : j < 26) (hc : abc.cps[j]? = some c) : cs (⟨#[c]⟩ : Str) = [97 + j] := abc_code hj hc rfl
/-- how the i-th name is written -/
def BaseF (md : Bool) (P : List Nat) (bg st i : Nat) (y : Str) : Prop := (md = true ∧ ∃ R, cs y = (97 + (bg + st * i) % 26) :: R) ∨ (md = false ∧ cs y = P ++ [97 + (bg + st * i) % 26])
def Form (md : Bool) (P : List Nat) (bg st i : Nat) (y : Str) : Prop := (md = true ∧ i < 26 ∧ ∃ R, cs y = (97 + (bg + st * i) % 26) :: R) ∨ (md = false ∧ i < 26 ∧ cs y = P ++ [97 + (bg + st * i) % 26]) ∨ (md = false ∧ 26 ≤ i ∧ cs y = P ++ [97 + (bg + st * i) % 26, 97 + i / 26])
theorem form_lt {md : Bool} {P : List Nat} {bg st i : Nat} {y : Str} (h : BaseF md P bg st i y) (hi : i < 26) : Form md P bg st i y := by
  rcases h with ⟨e, r⟩ | ⟨e, r⟩
  · exact .inl ⟨e, hi, r⟩
  · exact .inr (.inl ⟨e, hi, r⟩)
theorem form_ge {md : Bool} {P : List Nat} {bg st i : Nat} {y u : Str} (h : BaseF md P bg st i y) (hi : 26 ≤ i) (hm : md = true → i < 26) (e : cs u = cs y ++ [97 + i / 26]) : Form md P bg st i u := by
  rcases h with ⟨em, r⟩ | ⟨em, r⟩
  · have := hm em
    omega
  · refine .inr (.inr ⟨em, hi, ?_⟩)
    rw [e, r, List.append_assoc]
    rfl
theorem form_app {G : Nat → Str → Prop} {zs : List Str} {u : Str} {i : Nat} (hl : zs.length = i) (hf : ∀ (k : Nat) (y : Str), zs[k]? = some y → G k y) (hu : G i u) : ∀ (k : Nat) (y : Str), (zs ++ [u])[k]? = some y → G k y := fun k y h => by
  rcases Nat.lt_or_ge k zs.length with hk | hk
  · rw [List.getElem?_append_left hk] at h
    exact hf k y h
  · rw [List.getElem?_append_right hk] at h
    have hk0 : k - zs.length = 0 := by
      rcases Nat.eq_zero_or_pos (k - zs.length) with e | e
      · exact e
      · rw [List.getElem?_eq_none (by rw [List.length_singleton]; omega)] at h
        cases h
    rw [hk0] at h
    have e : u = y := Option.some.inj h
    have ek : k = i := by omega
    rw [ek, ← e]
    exact hu
theorem app_two {P : List Nat} {a b c d : Nat} (h : P ++ [a, b] = P ++ [c, d]) : a = c ∧ b = d := by
  have := List.append_cancel_left h
  injection this with e1 e2
  injection e2 with e3 _
  exact ⟨e1, e3⟩
theorem form_inj {md : Bool} {P : List Nat} {bg st i j : Nat} {y : Str} (hc : Cop st) (h1 : Form md P bg st i y) (h2 : Form md P bg st j y) : i = j := by
  rcases h1 with ⟨m1, l1, R1, e1⟩ | ⟨m1, l1, e1⟩ | ⟨m1, l1, e1⟩
  · rcases h2 with ⟨m2, l2, R2, e2⟩ | ⟨m2, l2, e2⟩ | ⟨m2, l2, e2⟩
    · rw [e1] at e2
      injection e2 with e3 _
      have := cop_inj (i := i) (j := j) hc (by omega : (bg + st * i) % 26 = (bg + st * j) % 26)
      omega
    · rw [m1] at m2
      cases m2
    · rw [m1] at m2
      cases m2
  · rcases h2 with ⟨m2, l2, R2, e2⟩ | ⟨m2, l2, e2⟩ | ⟨m2, l2, e2⟩
    · rw [m1] at m2
      cases m2
    · rw [e1] at e2
      have e3 := List.append_cancel_left e2
      injection e3 with e4 _
      have := cop_inj (i := i) (j := j) hc (by omega : (bg + st * i) % 26 = (bg + st * j) % 26)
      omega
    · rw [e1] at e2
      have e3 := List.append_cancel_left e2
      injection e3 with _ e4
      cases e4
  · rcases h2 with ⟨m2, l2, R2, e2⟩ | ⟨m2, l2, e2⟩ | ⟨m2, l2, e2⟩
    · rw [m1] at m2
      cases m2
    · rw [e1] at e2
      have e3 := List.append_cancel_left e2
      injection e3 with _ e4
      cases e4
    · rw [e1] at e2
      obtain ⟨e3, e4⟩ := app_two e2
      have := cop_inj (i := i) (j := j) hc (by omega : (bg + st * i) % 26 = (bg + st * j) % 26)
      omega
theorem nodup_at {zs : List Str} (h : ∀ (i j : Nat) (y : Str), zs[i]? = some y → zs[j]? = some y → i = j) : zs.Nodup := by
  rw [List.nodup_iff_pairwise_ne, List.pairwise_iff_getElem]
  intro i j hi hj hij e
  have h1 : zs[i]? = some zs[i] := List.getElem?_eq_getElem hi
  have h2 : zs[j]? = some zs[i] := by rw [List.getElem?_eq_getElem hj, e]
  have := h i j _ h1 h2
  omega
theorem form_nodup {md : Bool} {P : List Nat} {bg st : Nat} {zs : List Str} (hc : Cop st) (hf : ∀ (k : Nat) (y : Str), zs[k]? = some y → Form md P bg st k y) (_ : zs.length ≤ 600) : zs.Nodup :=
  nodup_at fun i j y h1 h2 => form_inj hc (hf i y h1) (hf j y h2)
theorem len_nodup {zs : List Str} (hf : ∀ (k : Nat) (y : Str), zs[k]? = some y → y.length = k + 1) : zs.Nodup :=
  nodup_at fun i j y h1 h2 => by
    have := hf i y h1
    have := hf j y h2
    omega
theorem perm_nodup {ys us : List Str} {qs : List Vd} (pm : qs.Perm (ys.map fun z => (V.str z, PyData.str z))) (e : qs.map (·.1) = us.map V.str) (h : ys.Nodup) : us.Nodup := by
  have p1 : (qs.map (·.1)).Perm ((ys.map fun z => (V.str z, PyData.str z)).map (·.1)) := pm.map _
  rw [e, List.map_map] at p1
  have h2 : (ys.map V.str).Nodup := h.map V.str fun a b hab hn => hab (V.str.inj hn)
  have h3 : (us.map V.str).Nodup := p1.nodup_iff.mpr h2
  unfold List.Nodup at *
  rw [List.pairwise_map] at h3
  exact h3.imp fun hne e => hne (congrArg V.str e)
def spNamesD : Sp := fun vs H Q _ => ∃ (b : Addr) (m n : Nat), vs = [.ref b, .int (m : Int)] ∧ BoxAt H b n ∧ n ≤ 50000 ∧ m ≤ 100 ∧
  ∀ (p : Addr) (H' : Hp) (zs : List Str), zs.length = m → (∀ z ∈ zs, NameZ z) → zs.Nodup → H p = none → H' p = some (.lst (zs.map V.str)) → BoxAt H' b (n + 11 + m) → But b H H' → Q (.ref p) H'
section
variable {P : Program} {w : World} {K : PySem.W.Frag} {mg : Str → Option Value} {base : Heap}
theorem ok_namesD {f fT fM : Addr} {fd fdT fdM : FuncData} (F : Fun K "_law_names" "_law_names" sNames f fd) (T : Fun K "_law_take" "_law_take" sTake fT fdT) (bT : Binds K fdT ["_law_box_here", "_law_many"] []) (gT : mg "_law_take" = some (.ref fT))
    (M : Fun K "_law_mixed" "_law_mixed" sMixed fM fdM) (bM : Binds K fdM ["_law_box_here", "_law_some"] []) (gM : mg "_law_mixed" = some (.ref fM)) (ml : mg "len" = none) (mL : mg "list" = none) (mr : mg "range" = none) :
    FnOk P w K mg base CX0 3 f fd ["_law_box_here", "_law_many"] spNamesD := by
  have GT : FnOk P w K mg base CX0 1 fT fdT ["_law_box_here", "_law_many"] spTake := ok_take T
  have GM : FnOk P w K mg base CX0 2 fM fdM ["_law_box_here", "_law_some"] (spMixed K) := ok_mixed M T bT gT ml mL
  refine F.ok scNames (fun vs H Q E h => ?_) (fun cdv A outer s H vs Q E hr h => ?_)
  · obtain ⟨b, m, n, rfl, _⟩ := h
    rfl
  · obtain ⟨b, m, n, rfl, B, hn, hm, q⟩ := h
    have hr1 := hr.mono (show 1 ≤ 2 by decide)
    obtain ⟨ts, psl, qsl⟩ : ∃ t, PSs (cxOf CX0 P w K mg base nNames "_law_names" (defScope sNames) f cdv A outer s H E).nox ((defBody sNames).drop 5) t ∧
        ∀ (way cut bg st : Nat) (z : Str) (x8 : Option V) (H1 : Hp), cut ≤ 7 → (26 < m → cut ≤ 6) → bg < 26 → Cop st → LowZ z → z.length = 7 → BoxAt H1 b (n + 11) → But b H H1 → t { nx := fun _ H' => Q .non H', rt := Q } [some (.ref b), some (.int (m : Int)), some (.str abc), some (.int (way : Int)), some (.int (cut : Int)), some (.int (bg : Int)), some (.int (st : Int)), some (.str z), x8, none, none, none] H1 := by
      refine ⟨_, pss_cons (ps_set (i := 9) scNames.nd rfl (.inl rfl) (pe_lst pa_nil))
      (pss_cons (ps_for PassesOwn.never rfl (pi_range1 rfl mr (pa_cons (pv 1) pa_nil)) (pg_name (i := 8) scNames.nd rfl (.inl rfl))
        (pss_cons (ps_set (i := 10) scNames.nd rfl (.inl rfl) (pe_item_str (pv 2) (pe_op op_mod (pe_op op_add (pv 5) (pe_op op_mul (pv 6) (pv 8))) pe_int) (fun _ _ => rfl)))
        (pss_cons (ps_set (i := 11) scNames.nd rfl (.inl rfl) (pe_op op_add_str (pe_slice sl_str (pv 7) po_none (po_some (pv 4))) (pv 10)))
        (pss_cons (ps_if (PW.pt (pw_and (pt_cmpR op_eq (pv 3) pe_int (nomark _)) (pw_and1 (pt_cmpR op_lt (pv 1) pe_int (nomark _)))))
          (pss_one (ps_set (i := 11) scNames.nd rfl (.inl rfl) (pe_op op_add_str (pv 10) (pe_slice sl_str (pv 7) po_none (po_some (pe_op op_mod (pe_op op_add (pv 4) (pe_op op_mul pe_int (pv 8))) pe_int)))))) pss_nil)
        (pss_one (ps_expr (pe_bm PySem.F.plainAttrs_list PySem.F.slot_list_append PySem.F.type_list_append mt_append (pv 9) (pa_cons
          (pe_ifExp (pt_cmpR op_lt (pv 8) pe_int (nomark _)) (pv 11) (pe_op op_add_str (pv 11) (pe_item_str (pv 2) (pe_op op_fdiv (pv 8) pe_int) (fun _ _ => rfl)))) pa_nil))))))))
      (pss_one (ps_ret (pv 9)))), ?_⟩
      intro way cut bg st z x8 H1 hcut hcut2 hbg hcop hz hl B1 k1
      have hst := cop_le hcop
      generalize hmd : (decide (V.int (way : Int) = V.int 1) && decide ((m : Int) < 27)) = md
      have hm26 : md = true → m < 27 := fun e => by
        rw [e] at hmd
        have := of_decide_eq_true (Bool.and_eq_true_iff.mp hmd).2
        omega
      refine ⟨Nat.zero_le _, fun D hD => ?_⟩
      have nD := box_ne B1 hD
      have fD := free_of k1 nD hD
      refine ⟨_, rfl, _, rfl, by omega, by omega, ?_⟩
      rw [Int.toNat_natCast m]
      refine for_range (lo := 0) (n := m) (fun i σ H2 => ∃ (zs : List Str) (x8 x10 x11 : Option V), σ = [some (.ref b), some (.int (m : Int)), some (.str abc), some (.int (way : Int)), some (.int (cut : Int)), some (.int (bg : Int)), some (.int (st : Int)), some (.str z), x8, some (.ref D), x10, x11] ∧
        H2 D = some (.lst (zs.map V.str)) ∧ zs.length = i ∧ (∀ y ∈ zs, NameZ y) ∧ (∀ (k : Nat) (y : Str), zs[k]? = some y → Form md (cs (cutS z none (some (cut : Int)))) bg st k y) ∧ BoxAt H2 b (n + 11) ∧ But b H H2) ?_ ?_ ?_
      · exact ⟨[], x8, none, none, rfl, upd_same, rfl, (fun y h => nomatch h), (fun k y h => by simp at h), box_new B1 hD, but_upd k1 fD⟩
      · rintro i σ H2 hi ⟨zs, x8, x10, x11, rfl, e2, hlz, hy, hf, B2, k2⟩
        have r := emod_in ((bg : Int) + (st : Int) * (0 + (i : Int))) 26 (by decide)
        obtain ⟨j, ej, hj⟩ := draw_at r.1 r.2 (n := 26) rfl
        obtain ⟨c, hc, c97⟩ := abc_at hj
        refine ⟨_, rfl, _, rfl, _, rfl, _, rfl, _, _, rfl, rfl, .inl ⟨by omega, by omega⟩, _, _, rfl, rfl, _, _, rfl, rfl, (by show (0 : Int) < 26; decide), _, _, c, rfl, rfl, r.1, by omega, (show _ < ((26 : Nat) : Int) by omega), (by rw [ej]; exact hc), ?_⟩
        have lo := low_one c97
        have len1 : (⟨#[c]⟩ : Str).length = 1 := rfl
        have ec : cs (⟨#[c]⟩ : Str) = [97 + (bg + st * i) % 26] := abc_code hj hc (by have ej2 := ej; rw [Int.zero_add] at ej2; omega)
        generalize (⟨#[c]⟩ : Str) = lt at lo len1 ec
        have cl := cut_len z cut
        refine ⟨_, rfl, _, rfl, _, rfl, z, rfl, small_size (by omega), _, rfl, _, _, rfl, rfl, small_size (by omega), ?_⟩
        have Y0 : LowZ (cutS z none (some (cut : Int)) ++ lt) ∧ 1 ≤ (cutS z none (some (cut : Int)) ++ lt).length ∧ (cutS z none (some (cut : Int)) ++ lt).length ≤ 8 ∧ (26 ≤ i → (cutS z none (some (cut : Int)) ++ lt).length ≤ 7) := by
          rw [app_len]
          exact ⟨(hz.cut _ _).app lo, by omega, by omega, fun _ => by omega⟩
        have r8 := emod_in ((cut : Int) + 3 * (0 + (i : Int))) 8 (by decide)
        refine ⟨_, rfl, rfl, _, rfl, ite2 (fun hw => ?_) (fun hw => ?_)⟩
        · refine ⟨_, rfl, _, _, rfl, rfl, _, rfl, ite2 (fun h27 => ?_) (fun h27 => ?_)⟩
          · have hm27 : (m : Int) < 27 := of_decide_eq_true h27
            obtain ⟨j8, ej8, hj8⟩ := draw_at r8.1 r8.2 (n := 8) rfl
            have cl8 := cut_len z j8
            refine ⟨_, rfl, _, rfl, _, rfl, _, rfl, _, _, rfl, rfl, .inl ⟨by decide, by decide⟩, _, _, rfl, rfl, _, _, rfl, rfl, (by show (0 : Int) < 8; decide), _, rfl, z, rfl, small_size (by omega), _, _, rfl, rfl, ?_, ?_⟩
            · rw [ej8, len1]
              exact small_size (by omega)
            have Y : NameI (lt ++ cutS z none (some (((cut : Int) + 3 * (0 + (i : Int))) % 8))) i ∧ BaseF md (cs (cutS z none (some (cut : Int)))) bg st i (lt ++ cutS z none (some (((cut : Int) + 3 * (0 + (i : Int))) % 8))) := by
              refine ⟨?_, .inl ⟨?_, cs (cutS z none (some (((cut : Int) + 3 * (0 + (i : Int))) % 8))), by rw [cs_app, ec]; rfl⟩⟩
              · unfold NameI
                rw [ej8, app_len]
                exact ⟨lo.app (hz.cut _ _), by omega, by omega, fun h => by omega⟩
              · rw [← hmd, hw, h27]
                rfl
            revert Y
            generalize (lt ++ cutS z none (some (((cut : Int) + 3 * (0 + (i : Int))) % 8))) = y
            intro Y
            obtain ⟨⟨y1, y2, y3, y4⟩, y5⟩ := Y
            have done : ∀ (u : Str) (x8 x10 x11 : Option V), NameZ u → Form md (cs (cutS z none (some (cut : Int)))) bg st i u → ∃ (zs' : List Str) (x8' x10' x11' : Option V), [some (V.ref b), some (.int (m : Int)), some (.str abc), some (.int (way : Int)), some (.int (cut : Int)), some (.int (bg : Int)), some (.int (st : Int)), some (.str z), x8, some (.ref D), x10, x11] = [some (.ref b), some (.int (m : Int)), some (.str abc), some (.int (way : Int)), some (.int (cut : Int)), some (.int (bg : Int)), some (.int (st : Int)), some (.str z), x8', some (.ref D), x10', x11'] ∧
                upd H2 D (.lst (zs.map V.str ++ [.str u])) D = some (.lst (zs'.map V.str)) ∧ zs'.length = i + 1 ∧ (∀ y ∈ zs', NameZ y) ∧ (∀ (k : Nat) (y : Str), zs'[k]? = some y → Form md (cs (cutS z none (some (cut : Int)))) bg st k y) ∧ BoxAt (upd H2 D (.lst (zs.map V.str ++ [.str u]))) b (n + 11) ∧ But b H (upd H2 D (.lst (zs.map V.str ++ [.str u]))) := fun u x8 x10 x11 hu hu2 => by
              refine ⟨zs ++ [u], x8, x10, x11, rfl, ?_, ?_, fun v hv => ?_, form_app hlz hf hu2, box_upd B2 nD, but_upd k2 fD⟩
              · rw [upd_same, List.map_append]
                rfl
              · rw [List.length_append, hlz]
                rfl
              · rcases List.mem_append.mp hv with hv | hv
                · exact hy v hv
                · rw [List.mem_singleton.mp hv]
                  exact hu
            have room : (zs.map V.str).length < sizeLine := by
              rw [List.length_map]
              exact small1000 (by omega)
            refine ⟨_, rfl, .inl ⟨rfl, _, .of e2⟩, _, rfl, _, _, rfl, rfl, _, rfl, ite2 (fun h26 => ?_) (fun h26 => ?_)⟩
            · exact ⟨_, rfl, D, _, _, rfl, rfl, e2, room, done y _ _ _ ⟨y1, y2, y3⟩ (form_lt y5 (by have := of_decide_eq_true h26; omega))⟩
            · have h26' : ¬ ((0 + (i : Int)) < 26) := fun h => h26 (decide_eq_true h)
              have yl := y4 (by omega)
              have hd : (0 + (i : Int)) / 26 = ((i / 26 : Nat) : Int) := by omega
              obtain ⟨c2, hc2, c297⟩ := abc_at (j := i / 26) (by omega)
              refine ⟨_, rfl, _, rfl, _, rfl, _, _, rfl, rfl, ⟨by decide, by decide⟩, _, _, c2, rfl, rfl, by omega, by omega, (show _ < ((26 : Nat) : Int) by omega), (by rw [hd]; exact hc2), _, _, rfl, rfl, ?_, D, _, _, rfl, rfl, e2, room, ?_⟩
              · show y.length + 1 ≤ sizeLine
                exact small_size (by omega)
              · have l2 : (y ++ (⟨#[c2]⟩ : Str)).length = y.length + 1 := app_len y ⟨#[c2]⟩
                exact done (y ++ ⟨#[c2]⟩) _ _ _ ⟨y1.app (low_one c297), by omega, by omega⟩ (form_ge y5 (by omega) (fun e => by have := hm26 e; omega) (by rw [cs_app, abc_code2 (by omega) hc2]))
          · have Y : NameI (cutS z none (some (cut : Int)) ++ lt) i ∧ BaseF md (cs (cutS z none (some (cut : Int)))) bg st i (cutS z none (some (cut : Int)) ++ lt) := ⟨Y0, .inr ⟨by rw [← hmd, Bool.eq_false_iff.mpr h27, Bool.and_false], by rw [cs_app, ec]⟩⟩
            revert Y
            generalize (cutS z none (some (cut : Int)) ++ lt) = y
            intro Y
            obtain ⟨⟨y1, y2, y3, y4⟩, y5⟩ := Y
            have done : ∀ (u : Str) (x8 x10 x11 : Option V), NameZ u → Form md (cs (cutS z none (some (cut : Int)))) bg st i u → ∃ (zs' : List Str) (x8' x10' x11' : Option V), [some (V.ref b), some (.int (m : Int)), some (.str abc), some (.int (way : Int)), some (.int (cut : Int)), some (.int (bg : Int)), some (.int (st : Int)), some (.str z), x8, some (.ref D), x10, x11] = [some (.ref b), some (.int (m : Int)), some (.str abc), some (.int (way : Int)), some (.int (cut : Int)), some (.int (bg : Int)), some (.int (st : Int)), some (.str z), x8', some (.ref D), x10', x11'] ∧
                upd H2 D (.lst (zs.map V.str ++ [.str u])) D = some (.lst (zs'.map V.str)) ∧ zs'.length = i + 1 ∧ (∀ y ∈ zs', NameZ y) ∧ (∀ (k : Nat) (y : Str), zs'[k]? = some y → Form md (cs (cutS z none (some (cut : Int)))) bg st k y) ∧ BoxAt (upd H2 D (.lst (zs.map V.str ++ [.str u]))) b (n + 11) ∧ But b H (upd H2 D (.lst (zs.map V.str ++ [.str u]))) := fun u x8 x10 x11 hu hu2 => by
              refine ⟨zs ++ [u], x8, x10, x11, rfl, ?_, ?_, fun v hv => ?_, form_app hlz hf hu2, box_upd B2 nD, but_upd k2 fD⟩
              · rw [upd_same, List.map_append]
                rfl
              · rw [List.length_append, hlz]
                rfl
              · rcases List.mem_append.mp hv with hv | hv
                · exact hy v hv
                · rw [List.mem_singleton.mp hv]
                  exact hu
            have room : (zs.map V.str).length < sizeLine := by
              rw [List.length_map]
              exact small1000 (by omega)
            refine ⟨_, rfl, .inl ⟨rfl, _, .of e2⟩, _, rfl, _, _, rfl, rfl, _, rfl, ite2 (fun h26 => ?_) (fun h26 => ?_)⟩
            · exact ⟨_, rfl, D, _, _, rfl, rfl, e2, room, done y _ _ _ ⟨y1, y2, y3⟩ (form_lt y5 (by have := of_decide_eq_true h26; omega))⟩
            · have h26' : ¬ ((0 + (i : Int)) < 26) := fun h => h26 (decide_eq_true h)
              have yl := y4 (by omega)
              have hd : (0 + (i : Int)) / 26 = ((i / 26 : Nat) : Int) := by omega
              obtain ⟨c2, hc2, c297⟩ := abc_at (j := i / 26) (by omega)
              refine ⟨_, rfl, _, rfl, _, rfl, _, _, rfl, rfl, ⟨by decide, by decide⟩, _, _, c2, rfl, rfl, by omega, by omega, (show _ < ((26 : Nat) : Int) by omega), (by rw [hd]; exact hc2), _, _, rfl, rfl, ?_, D, _, _, rfl, rfl, e2, room, ?_⟩
              · show y.length + 1 ≤ sizeLine
                exact small_size (by omega)
              · have l2 : (y ++ (⟨#[c2]⟩ : Str)).length = y.length + 1 := app_len y ⟨#[c2]⟩
                exact done (y ++ ⟨#[c2]⟩) _ _ _ ⟨y1.app (low_one c297), by omega, by omega⟩ (form_ge y5 (by omega) (fun e => by have := hm26 e; omega) (by rw [cs_app, abc_code2 (by omega) hc2]))
        · have Y : NameI (cutS z none (some (cut : Int)) ++ lt) i ∧ BaseF md (cs (cutS z none (some (cut : Int)))) bg st i (cutS z none (some (cut : Int)) ++ lt) := ⟨Y0, .inr ⟨by rw [← hmd, Bool.eq_false_iff.mpr hw, Bool.false_and], by rw [cs_app, ec]⟩⟩
          revert Y
          generalize (cutS z none (some (cut : Int)) ++ lt) = y
          intro Y
          obtain ⟨⟨y1, y2, y3, y4⟩, y5⟩ := Y
          have done : ∀ (u : Str) (x8 x10 x11 : Option V), NameZ u → Form md (cs (cutS z none (some (cut : Int)))) bg st i u → ∃ (zs' : List Str) (x8' x10' x11' : Option V), [some (V.ref b), some (.int (m : Int)), some (.str abc), some (.int (way : Int)), some (.int (cut : Int)), some (.int (bg : Int)), some (.int (st : Int)), some (.str z), x8, some (.ref D), x10, x11] = [some (.ref b), some (.int (m : Int)), some (.str abc), some (.int (way : Int)), some (.int (cut : Int)), some (.int (bg : Int)), some (.int (st : Int)), some (.str z), x8', some (.ref D), x10', x11'] ∧
              upd H2 D (.lst (zs.map V.str ++ [.str u])) D = some (.lst (zs'.map V.str)) ∧ zs'.length = i + 1 ∧ (∀ y ∈ zs', NameZ y) ∧ (∀ (k : Nat) (y : Str), zs'[k]? = some y → Form md (cs (cutS z none (some (cut : Int)))) bg st k y) ∧ BoxAt (upd H2 D (.lst (zs.map V.str ++ [.str u]))) b (n + 11) ∧ But b H (upd H2 D (.lst (zs.map V.str ++ [.str u]))) := fun u x8 x10 x11 hu hu2 => by
            refine ⟨zs ++ [u], x8, x10, x11, rfl, ?_, ?_, fun v hv => ?_, form_app hlz hf hu2, box_upd B2 nD, but_upd k2 fD⟩
            · rw [upd_same, List.map_append]
              rfl
            · rw [List.length_append, hlz]
              rfl
            · rcases List.mem_append.mp hv with hv | hv
              · exact hy v hv
              · rw [List.mem_singleton.mp hv]
                exact hu
          have room : (zs.map V.str).length < sizeLine := by
            rw [List.length_map]
            exact small1000 (by omega)
          refine ⟨_, rfl, .inl ⟨rfl, _, .of e2⟩, _, rfl, _, _, rfl, rfl, _, rfl, ite2 (fun h26 => ?_) (fun h26 => ?_)⟩
          · exact ⟨_, rfl, D, _, _, rfl, rfl, e2, room, done y _ _ _ ⟨y1, y2, y3⟩ (form_lt y5 (by have := of_decide_eq_true h26; omega))⟩
          · have h26' : ¬ ((0 + (i : Int)) < 26) := fun h => h26 (decide_eq_true h)
            have yl := y4 (by omega)
            have hd : (0 + (i : Int)) / 26 = ((i / 26 : Nat) : Int) := by omega
            obtain ⟨c2, hc2, c297⟩ := abc_at (j := i / 26) (by omega)
            refine ⟨_, rfl, _, rfl, _, rfl, _, _, rfl, rfl, ⟨by decide, by decide⟩, _, _, c2, rfl, rfl, by omega, by omega, (show _ < ((26 : Nat) : Int) by omega), (by rw [hd]; exact hc2), _, _, rfl, rfl, ?_, D, _, _, rfl, rfl, e2, room, ?_⟩
            · show y.length + 1 ≤ sizeLine
              exact small_size (by omega)
            · have l2 : (y ++ (⟨#[c2]⟩ : Str)).length = y.length + 1 := app_len y ⟨#[c2]⟩
              exact done (y ++ ⟨#[c2]⟩) _ _ _ ⟨y1.app (low_one c297), by omega, by omega⟩ (form_ge y5 (by omega) (fun e => by have := hm26 e; omega) (by rw [cs_app, abc_code2 (by omega) hc2]))
      · rintro σ H2 ⟨zs, x8, x10, x11, rfl, e2, hlz, hy, hf, B2, k2⟩
        exact ⟨_, rfl, q D H2 zs hlz hy (form_nodup hcop hf (by omega)) fD e2 (B2.mono (by omega)) k2⟩
    obtain ⟨tl, pl, ql⟩ : ∃ t, PSs (cxOf CX0 P w K mg base nNames "_law_names" (defScope sNames) f cdv A outer s H E).nox ((defBody sNames).drop 2) t ∧
        ∀ (way cut bg : Nat) (H1 : Hp), cut ≤ 7 → (26 < m → cut ≤ 6) → bg < 26 → BoxAt H1 b (n + 3) → But b H H1 → t { nx := fun _ H' => Q .non H', rt := Q } [some (.ref b), some (.int (m : Int)), some (.str abc), some (.int (way : Int)), some (.int (cut : Int)), some (.int (bg : Int)), none, none, none, none, none, none] H1 := by
      refine ⟨_, pss_cons (ps_asg (pe_tup (pa_cons (pe_ix ix_list (pe_lst (pa_cons pe_int (pa_cons pe_int (pa_cons pe_int (pa_cons pe_int (pa_cons pe_int (pa_cons pe_int (pa_cons pe_int (pa_cons pe_int pa_nil)))))))))
          (pe_call GT hr1 rfl gT T.kp bT .nil pass0 (pa_cons (pv 0) (pa_cons pe_int pa_nil))) (fun _ _ => rfl)) (pa_cons pe_str pa_nil)))
        (pg_tup (by rfl) (pgs_cons (pg_name (i := 6) scNames.nd rfl (.inl rfl)) (pgs_cons (pg_name (i := 7) scNames.nd rfl (.inr rfl)) pgs_nil))))
      (pss_cons (ps_for PassesOwn.never rfl (pi_range1 rfl mr (pa_cons pe_int pa_nil)) (pg_name (i := 8) scNames.nd rfl (.inl rfl))
        (pss_one (ps_set (i := 7) scNames.nd rfl (.inr rfl) (pe_op op_add_str (pv 7) (pe_item_str (pv 2) (pe_call GT hr1 rfl gT T.kp bT .nil pass0 (pa_cons (pv 0) (pa_cons pe_int pa_nil))) (fun _ _ => rfl))))))
      (pss_cons (ps_if (PW.pt (pw_and (pt_cmpR op_eq (pv 3) pe_int (nomark _)) (pw_and1 (pt_cmpR op_lt (pv 1) pe_int (nomark _)))))
        (pss_one (ps_ret (pe_call GM hr rfl gM M.kp bM .nil pass0 (pa_cons (pv 0) (pa_cons (pe_lc (own := [("_law_k", 8)]) (g := gName 8) (tt := tYes) (by rfl) scNames.nd (pi_range1 rfl mr (pa_cons (pv 1) pa_nil))
          (blkOk_by (own := [("_law_k", 8)]) (N := nNames) (sc := defScope sNames) (by decide +kernel)) (fun _ _ _ _ _ => pg_name (i := 8) scNames.nd rfl (.inl rfl)) (fun _ _ _ _ _ => pts_nil)
          (fun _ _ _ _ _ => pe_slice sl_str (pe_op op_add_str (pv 7) (pe_item_str (pv 2) (pv 5) (fun _ _ => rfl))) po_none (po_some (pe_op op_add (pv 8) pe_int)))) pa_nil))))) pss_nil)
      psl)), ?_⟩
      intro way cut bg H1 hcut hcut2 hbg B1 k1
      refine ⟨(by show 8 ≤ sizeLine; decide), fun p1 hp1 => ?_⟩
      have np1 := box_ne B1 hp1
      refine ⟨_, rfl, b, 8, n + 3, rfl, box_new B1 hp1, by omega, by decide, by decide, fun r H2 r0 r1 B2 k2 => ?_⟩
      obtain ⟨j, rfl, hj⟩ := draw_at (n := 8) r0 r1 rfl
      have e2 := k2 _ _ np1 upd_same
      have kk2 : But b H H2 := (k1.trans (But.new hp1)).trans k2
      obtain ⟨st, hst, hst17⟩ : ∃ st : Nat, ([.int 1, .int 3, .int 5, .int 7, .int 9, .int 11, .int 15, .int 17] : List V)[j]? = some (.int (st : Int)) ∧ Cop st := by
        match j, hj with
        | 0, _ => exact ⟨1, rfl, by unfold Cop; decide⟩
        | 1, _ => exact ⟨3, rfl, by unfold Cop; decide⟩
        | 2, _ => exact ⟨5, rfl, by unfold Cop; decide⟩
        | 3, _ => exact ⟨7, rfl, by unfold Cop; decide⟩
        | 4, _ => exact ⟨9, rfl, by unfold Cop; decide⟩
        | 5, _ => exact ⟨11, rfl, by unfold Cop; decide⟩
        | 6, _ => exact ⟨15, rfl, by unfold Cop; decide⟩
        | 7, _ => exact ⟨17, rfl, by unfold Cop; decide⟩
      refine ⟨p1, _, _, .int (st : Int), rfl, rfl, .of e2, atI_nat hst, (by show 2 ≤ sizeLine; decide), fun p2 hp2 => ?_⟩
      have np2 := box_ne B2 hp2
      refine ⟨p2, _, rfl, .of upd_same, rfl, _, _, rfl, _, _, rfl, rfl, ?_⟩
      have B3 : BoxAt (upd H2 p2 (.tup [.int (st : Int), .str ""])) b (n + 4) := box_new B2 hp2
      have k3 : But b H (upd H2 p2 (.tup [.int (st : Int), .str ""])) := kk2.trans (But.new hp2)
      generalize upd H2 p2 (.tup [.int (st : Int), .str ""]) = H3 at B3 k3
      -- the stem
      refine ⟨_, rfl, by decide, by decide, ?_⟩
      refine for_range (lo := 0) (n := 7) (fun i σ H4 => ∃ (z : Str) (x8 : Option V), σ = [some (.ref b), some (.int (m : Int)), some (.str abc), some (.int (way : Int)), some (.int (cut : Int)), some (.int (bg : Int)), some (.int (st : Int)), some (.str z), x8, none, none, none] ∧ LowZ z ∧ z.length = i ∧ BoxAt H4 b (n + 4 + i) ∧ But b H H4) ?_ ?_ ?_
      · exact ⟨"", none, rfl, (fun c h => nomatch h), rfl, B3, k3⟩
      · rintro i σ H4 hi ⟨z, x8, rfl, hz, hl, B4, k4⟩
        refine ⟨_, rfl, _, rfl, _, rfl, b, 26, n + 4 + i, rfl, B4, by omega, by decide, by decide, fun r H5 r0 r1 B5 k5 => ?_⟩
        obtain ⟨j, rfl, hj⟩ := draw_at (n := 26) r0 r1 rfl
        obtain ⟨c, hc, c97⟩ := abc_at hj
        refine ⟨_, _, c, rfl, rfl, by omega, by omega, (show ((j : Nat) : Int) < ((26 : Nat) : Int) by omega), hc, ?_⟩
        refine ⟨_, _, rfl, rfl, ?_, ?_⟩
        · show z.length + 1 ≤ sizeLine
          rw [sizeLine_eq]
          omega
        · refine ⟨z ++ ⟨#[c]⟩, _, rfl, hz.app (low_one c97), ?_, B5, k4.trans k5⟩
          rw [app_len, hl]
          rfl
      · rintro σ H4 ⟨z, x8, rfl, hz, hl, B4, k4⟩
        -- from here on two ways
        have namesOf : ∀ (zs : List Str) (qs : List Vd), qs.Perm (zs.map fun z => (V.str z, PyData.str z)) → (∀ z ∈ zs, NameZ z) →
            ∃ ys : List Str, qs.map (·.1) = ys.map V.str ∧ ys.length = zs.length ∧ ∀ y ∈ ys, NameZ y := fun zs qs pm hz => by
          have each : ∀ x ∈ qs, ∃ y, x = (V.str y, PyData.str y) ∧ NameZ y := fun x hx => by
            obtain ⟨y, hy, e⟩ := List.mem_map.mp (pm.mem_iff.mp hx)
            exact ⟨y, e.symm, hz y hy⟩
          have hlen : qs.length = zs.length := by
            rw [pm.length_eq, List.length_map]
          rw [← hlen]
          clear pm hlen
          induction qs with
          | nil => exact ⟨[], rfl, rfl, fun y hy => nomatch hy⟩
          | cons x qs ih =>
            obtain ⟨y, rfl, hy⟩ := each x List.mem_cons_self
            obtain ⟨ys, e1, e2, e3⟩ := ih fun x hx => each x (List.mem_cons_of_mem _ hx)
            refine ⟨y :: ys, ?_, congrArg (· + 1) e2, fun u hu => ?_⟩
            · rw [List.map_cons, e1]
              rfl
            · rcases List.mem_cons.mp hu with rfl | hu
              · exact hy
              · exact e3 u hu
        have mInt : (m : Int).toNat = m := Int.toNat_natCast m
        refine ⟨_, rfl, rfl, _, rfl, ite2 (fun _ => ?_) (fun _ => ?_)⟩
        · refine ⟨_, rfl, _, _, rfl, rfl, _, rfl, ite2 (fun h9 => ?_) (fun _ => ?_)⟩
          · have hm9 : (m : Int) < 9 := of_decide_eq_true h9
            refine ⟨_, rfl, _, rfl, _, rfl, by omega, by omega, fun D hD => ?_⟩
            have nD := box_ne B4 hD
            have fD := free_of k4 nD hD
            rw [mInt]
            refine lc_range (lo := 0) (n := m) (fun i H5 => ∃ ys : List Str, H5 D = some (.lst (ys.map V.str)) ∧ ys.length = i ∧ (∀ y ∈ ys, NameZ y) ∧ (∀ (k : Nat) (y : Str), ys[k]? = some y → y.length = k + 1) ∧ BoxAt H5 b (n + 11) ∧ But b H H5) ?_ ?_ ?_
            · exact ⟨[], upd_same, rfl, (fun y h => nomatch h), (fun k y h => by simp at h), box_new B4 hD, but_upd k4 fD⟩
            · rintro i H5 hi ⟨ys, e5, hl5, hy, hf5, B5, k5⟩
              refine ⟨rfl, ?_⟩
              unfold tYes
              dsimp only
              rw [if_pos rfl]
              obtain ⟨c, hc, c97⟩ := abc_at hbg
              refine ⟨_, rfl, _, rfl, _, rfl, _, _, c, rfl, rfl, by omega, by omega, (show ((bg : Nat) : Int) < ((26 : Nat) : Int) by omega), hc, _, _, rfl, rfl, ?_, ?_⟩
              · show z.length + 1 ≤ sizeLine
                rw [sizeLine_eq]
                omega
              have lz : (z ++ ⟨#[c]⟩).length = 8 := by
                rw [app_len, hl]
                rfl
              refine ⟨_, rfl, _, _, rfl, rfl, _, rfl, _, rfl, small_size (by omega), ?_⟩
              have e0 : (0 + (i : Int) + 1 : Int) = ((i + 1 : Nat) : Int) := by omega
              rw [e0]
              have cl := cut_len (z ++ ⟨#[c]⟩) (i + 1)
              refine ⟨_, e5, ?_, ys ++ [cutS (z ++ ⟨#[c]⟩) none (some ((i + 1 : Nat) : Int))], ?_, ?_, ?_, form_app (G := fun k y => y.length = k + 1) hl5 hf5 (by show (cutS (z ++ ⟨#[c]⟩) none (some ((i + 1 : Nat) : Int))).length = i + 1; omega), ?_, ?_⟩
              · rw [List.length_map]
                exact small1000 (by omega)
              · rw [upd_same, List.map_append]
                rfl
              · rw [List.length_append, hl5]
                rfl
              · intro y h
                rcases List.mem_append.mp h with h | h
                · exact hy y h
                · rw [List.mem_singleton.mp h]
                  exact ⟨(hz.app (low_one c97)).cut _ _, by omega, by omega⟩
              · exact box_upd B5 nD
              · exact but_upd k5 fD
            · rintro H5 ⟨ys, e5, hl5, hy, hf5, B5, k5⟩
              refine ⟨b, D, n + 11, ys.map fun z => (V.str z, PyData.str z), rfl, B5, ?_, .inl (.of ?_), ?_, fun p H6 qs pm np e6 B6 k6 => ?_⟩
              · rw [List.length_map]
                omega
              · rw [e5, List.map_map]
                rfl
              · intro x hx
                obtain ⟨y, hyy, rfl⟩ := List.mem_map.mp hx
                exact ⟨(hy y hyy).1.lay, fun H' _ => .str y⟩
              · obtain ⟨us, u1, u2, u3⟩ := namesOf ys qs pm hy
                rw [u1] at e6
                rw [List.length_map, hl5] at B6
                exact q p H6 us (u2.trans hl5) u3 (perm_nodup pm u1 (len_nodup hf5)) (free_of k5 (box_ne B5 np) np) e6 B6 (k5.trans k6)
          · exact qsl way cut bg st z x8 H4 hcut hcut2 hbg hst17 hz hl B4 k4
        · exact qsl way cut bg st z x8 H4 hcut hcut2 hbg hst17 hz hl B4 k4
    refine ⟨_, pss_cons (ps_set (i := 2) scNames.nd rfl (.inr rfl) pe_str)
      (pss_cons (ps_asg (pe_tup (pa_cons (pe_call GT hr1 rfl gT T.kp bT .nil pass0 (pa_cons (pv 0) (pa_cons pe_int pa_nil)))
          (pa_cons (pe_call GT hr1 rfl gT T.kp bT .nil pass0 (pa_cons (pv 0) (pa_cons (pe_ifExp (pt_cmpR op_lt (pv 1) pe_int (nomark _)) pe_int pe_int) pa_nil)))
          (pa_cons (pe_call GT hr1 rfl gT T.kp bT .nil pass0 (pa_cons (pv 0) (pa_cons pe_int pa_nil))) pa_nil))))
        (pg_tup (by rfl) (pgs_cons (pg_name (i := 3) scNames.nd rfl (.inl rfl)) (pgs_cons (pg_name (i := 4) scNames.nd rfl (.inl rfl)) (pgs_cons (pg_name (i := 5) scNames.nd rfl (.inr rfl)) pgs_nil))))) pl), ?_⟩
    refine ⟨_, rfl, b, 4, n, rfl, B, by omega, by decide, by decide, fun way H1 w0 w1 B1 k1 => ?_⟩
    obtain ⟨way, rfl, _⟩ := draw_at (n := 4) w0 w1 rfl
    refine ⟨_, rfl, _, rfl, _, _, rfl, rfl, _, rfl, ite2 (fun hm27 => ?_) (fun hm27 => ?_)⟩
    · refine ⟨b, 8, n + 1, rfl, B1, by omega, by decide, by decide, fun cut H2 c0 c1 B2 k2 => ?_⟩
      obtain ⟨cut, rfl, hcut⟩ := draw_at (n := 8) c0 c1 rfl
      refine ⟨_, rfl, b, 26, n + 2, rfl, B2, by omega, by decide, by decide, fun bg H3 g0 g1 B3 k3 => ?_⟩
      obtain ⟨bg, rfl, hbg⟩ := draw_at (n := 26) g0 g1 rfl
      refine ⟨(by show 3 ≤ sizeLine; decide), fun p hp => ⟨p, _, rfl, .of upd_same, rfl, _, _, rfl, _, _, rfl, _, _, rfl, rfl, ?_⟩⟩
      have hm' : (m : Int) < 27 := of_decide_eq_true hm27
      exact ql way cut bg _ (by omega) (by omega) hbg (box_new B3 hp) (((k1.trans k2).trans k3).trans (But.new hp))
    · refine ⟨b, 7, n + 1, rfl, B1, by omega, by decide, by decide, fun cut H2 c0 c1 B2 k2 => ?_⟩
      obtain ⟨cut, rfl, hcut⟩ := draw_at (n := 7) c0 c1 rfl
      refine ⟨_, rfl, b, 26, n + 2, rfl, B2, by omega, by decide, by decide, fun bg H3 g0 g1 B3 k3 => ?_⟩
      obtain ⟨bg, rfl, hbg⟩ := draw_at (n := 26) g0 g1 rfl
      refine ⟨(by show 3 ≤ sizeLine; decide), fun p hp => ⟨p, _, rfl, .of upd_same, rfl, _, _, rfl, _, _, rfl, _, _, rfl, rfl, ?_⟩⟩
      exact ql way cut bg _ (by omega) (by omega) hbg (box_new B3 hp) (((k1.trans k2).trans k3).trans (But.new hp))
end
end G

set_option Elab.async false
set_option linter.all false
set_option maxRecDepth 100000
set_option maxHeartbeats 2000000
/-! M13: neighboring ranges. -/
namespace G
open PySem PySem.Spec PyProof.Rows L2 NdefX StX
abbrev Rg := Int × Int
def inRg (r : Rg) (i : Int) : Bool := decide (r.1 ≤ i) && decide (i ≤ r.2)
theorem inRg_iff {r : Rg} {i : Int} : inRg r i = true ↔ r.1 ≤ i ∧ i ≤ r.2 := by
  unfold inRg
  rw [Bool.and_eq_true, decide_eq_true_eq, decide_eq_true_eq]
def covB (rs : List Rg) (i : Int) : Bool := rs.any fun r => inRg r i
theorem covB_iff {rs : List Rg} {i : Int} : covB rs i = true ↔ ∃ r ∈ rs, r.1 ≤ i ∧ i ≤ r.2 := by
  unfold covB
  rw [List.any_eq_true]
  exact ⟨fun ⟨r, h, e⟩ => ⟨r, h, inRg_iff.mp e⟩, fun ⟨r, h, e⟩ => ⟨r, h, inRg_iff.mpr e⟩⟩
theorem covB_app {rs : List Rg} {r : Rg} {i : Int} : covB (rs ++ [r]) i = (covB rs i || inRg r i) := by
  unfold covB
  rw [List.any_append]
  simp
/-- the integers from a on, before b -/
def itv (a b : Int) : List Int := (List.range (b - a).toNat).map fun i => a + (i : Nat)
theorem itv_mem {a b i : Int} : i ∈ itv a b ↔ a ≤ i ∧ i < b := by
  unfold itv
  rw [List.mem_map]
  constructor
  · rintro ⟨n, hn, rfl⟩
    have := List.mem_range.mp hn
    omega
  · rintro ⟨h1, h2⟩
    exact ⟨(i - a).toNat, List.mem_range.mpr (by omega), by omega⟩
theorem rgV_itv (a b : Int) : rgV a b = (itv a b).map V.int := by
  unfold rgV itv
  rw [List.map_map]
  rfl
/-- from s on, before b -/
structure CutI (s b : Int) (rs : List Rg) (gs : List Int) : Prop where
  inn : ∀ r ∈ rs, s ≤ r.1 ∧ r.1 ≤ r.2 ∧ r.2 < b
  gap : ∀ i, s ≤ i → i < b → (i ∈ gs ↔ covB rs i = false)
  gin : ∀ i ∈ gs, s ≤ i ∧ i < b
  le : s ≤ b
structure CutOk (s g : Int) (rs : List Rg) (gs : List Int) : Prop where
  inn : ∀ r ∈ rs, s ≤ r.1 ∧ r.1 ≤ r.2 ∧ r.2 ≤ g
  gap : ∀ i, s ≤ i → i ≤ g → (i ∈ gs ↔ covB rs i = false)
  gin : ∀ i ∈ gs, s ≤ i ∧ i ≤ g
  top : covB rs g = true
theorem CutI.nil (s : Int) : CutI s s [] [] := ⟨fun r h => (nomatch h), fun i h1 h2 => by omega, fun i h => (nomatch h), Int.le_refl s⟩
theorem cov_out {s b i : Int} {rs : List Rg} (h : ∀ r ∈ rs, s ≤ r.1 ∧ r.1 ≤ r.2 ∧ r.2 < b) (hi : b ≤ i) : covB rs i = false := Bool.eq_false_iff.mpr fun e => by
  obtain ⟨r, hr, h1, h2⟩ := covB_iff.mp e
  have := h r hr
  omega
theorem CutI.step {s b e h : Int} {rs : List Rg} {gs : List Int} (c : CutI s b rs gs) (h1 : b ≤ e) (h2 : e + 1 ≤ h) : CutI s h (rs ++ [(b, e)]) (gs ++ itv (e + 1) h) := by
  have le := c.le
  refine ⟨fun r hr => ?_, fun i i1 i2 => ?_, fun i hi => ?_, by omega⟩
  · rcases List.mem_append.mp hr with hr | hr
    · have := c.inn r hr
      omega
    · rw [List.mem_singleton.mp hr]
      exact ⟨le, h1, by show e < h; omega⟩
  · rw [List.mem_append, itv_mem, covB_app, Bool.or_eq_false_iff]
    have ei : inRg (b, e) i = true ↔ b ≤ i ∧ i ≤ e := inRg_iff
    by_cases lt : i < b
    · rw [c.gap i i1 lt]
      constructor
      · rintro (h | h)
        · exact ⟨h, Bool.eq_false_iff.mpr fun q => by have := ei.mp q; omega⟩
        · omega
      · exact fun h => .inl h.1
    · have out := cov_out c.inn (show b ≤ i by omega)
      have ng : i ∉ gs := fun q => by have := c.gin i q; omega
      constructor
      · rintro (h | h)
        · exact absurd h ng
        · exact ⟨out, Bool.eq_false_iff.mpr fun q => by have := ei.mp q; omega⟩
      · rintro ⟨_, h⟩
        refine .inr ⟨?_, i2⟩
        by_cases q : i ≤ e
        · rw [ei.mpr ⟨by omega, q⟩] at h
          cases h
        · omega
  · rcases List.mem_append.mp hi with hi | hi
    · have := c.gin i hi
      omega
    · have := itv_mem.mp hi
      omega
theorem CutI.fin {s b g : Int} {rs : List Rg} {gs : List Int} (c : CutI s b rs gs) (h : b ≤ g) : CutOk s g (rs ++ [(b, g)]) gs := by
  have le := c.le
  refine ⟨fun r hr => ?_, fun i i1 i2 => ?_, fun i hi => ?_, ?_⟩
  · rcases List.mem_append.mp hr with hr | hr
    · have := c.inn r hr
      omega
    · rw [List.mem_singleton.mp hr]
      exact ⟨le, h, Int.le_refl g⟩
  · rw [covB_app, Bool.or_eq_false_iff]
    have ei : inRg (b, g) i = true ↔ b ≤ i ∧ i ≤ g := inRg_iff
    by_cases lt : i < b
    · rw [c.gap i i1 lt]
      exact ⟨fun h => ⟨h, Bool.eq_false_iff.mpr fun q => by have := ei.mp q; omega⟩, fun h => h.1⟩
    · constructor
      · intro q
        have := c.gin i q
        omega
      · rintro ⟨_, q⟩
        rw [ei.mpr ⟨by omega, i2⟩] at q
        cases q
  · have := c.gin i hi
    omega
  · rw [covB_app, inRg_iff.mpr ⟨h, Int.le_refl g⟩, Bool.or_true]
/-! ### conditions of ranges -/
theorem btw_int {f : Str} {r : Rg} {kv : Kvs} {i : Int} (e : valV kv (Sum.inr f : Key) = some (.int i)) : btwHolds f r.1 r.2 kv = inRg r i := by
  unfold btwHolds
  rw [e]
  rfl
theorem btw_not {f : Str} {r : Rg} {kv : Kvs} (e : ∀ i, valV kv (Sum.inr f : Key) ≠ some (.int i)) : btwHolds f r.1 r.2 kv = false := by
  unfold btwHolds
  split
  · rename_i i q
    exact absurd q (e i)
  · rfl
/-- the union of ranges of a field -/
structure UnOk (f : Str) (rs : List Rg) (m : Md) : Prop where
  good : m.good
  leaves : m.leaves = rs.length
  depth : m.depth ≤ rs.length
  names : m.names = 0
  sem : ∀ y kv, m.holds y kv = rs.any fun r => btwHolds f r.1 r.2 kv
theorem UnOk.one {f : Str} {r : Rg} (nf : NameZ f) (h1 : -999 ≤ r.1) (h2 : r.1 ≤ r.2) (h3 : r.2 ≤ 999) : UnOk f [r] (.btw f r.1 r.2) :=
  ⟨⟨nf, h1, h2, h3⟩, rfl, Nat.le_refl _, rfl, fun y kv => by simp [Md.holds]⟩
theorem UnOk.add {f : Str} {rs : List Rg} {m : Md} {r : Rg} (u : UnOk f rs m) (nf : NameZ f) (h1 : -999 ≤ r.1) (h2 : r.1 ≤ r.2) (h3 : r.2 ≤ 999) (p : 1 ≤ rs.length) : UnOk f (rs ++ [r]) (.eith m (.btw f r.1 r.2)) ∧ UnOk f (rs ++ [r]) (.eith (.btw f r.1 r.2) m) := by
  have d := u.depth
  refine ⟨⟨⟨u.good, nf, h1, h2, h3⟩, ?_, ?_, ?_, fun y kv => ?_⟩, ⟨⟨⟨nf, h1, h2, h3⟩, u.good⟩, ?_, ?_, ?_, fun y kv => ?_⟩⟩
  · show m.leaves + 1 = (rs ++ [r]).length
    rw [u.leaves, List.length_append]
    rfl
  · show max m.depth 1 + 1 ≤ (rs ++ [r]).length
    rw [List.length_append]
    show max m.depth 1 + 1 ≤ rs.length + 1
    omega
  · show m.names + 0 = 0
    rw [u.names]
  · show (m.holds y kv || btwHolds f r.1 r.2 kv) = _
    rw [u.sem, List.any_append]
    simp
  · show 1 + m.leaves = (rs ++ [r]).length
    rw [u.leaves, List.length_append, Nat.add_comm]
    rfl
  · show max 1 m.depth + 1 ≤ (rs ++ [r]).length
    rw [List.length_append]
    show max 1 m.depth + 1 ≤ rs.length + 1
    omega
  · show 0 + m.names = 0
    rw [u.names]
  · show (btwHolds f r.1 r.2 kv || m.holds y kv) = _
    rw [u.sem, List.any_append, Bool.or_comm]
    simp
theorem un_int {f : Str} {rs : List Rg} {kv : Kvs} {i : Int} (e : valV kv (Sum.inr f : Key) = some (.int i)) : (rs.any fun r => btwHolds f r.1 r.2 kv) = covB rs i := by
  unfold covB
  congr 1
  funext r
  exact btw_int e
theorem un_not {f : Str} {rs : List Rg} {kv : Kvs} (e : ∀ i, valV kv (Sum.inr f : Key) ≠ some (.int i)) : (rs.any fun r => btwHolds f r.1 r.2 kv) = false :=
  Bool.eq_false_iff.mpr fun h => by
    obtain ⟨r, _, h⟩ := List.any_eq_true.mp h
    rw [btw_not e] at h
    cases h
theorem covB_perm {rs rs' : List Rg} (p : rs'.Perm rs) (i : Int) : covB rs' i = covB rs i := by
  rw [Bool.eq_iff_iff, covB_iff, covB_iff]
  exact ⟨fun ⟨r, h, e⟩ => ⟨r, p.mem_iff.mp h, e⟩, fun ⟨r, h, e⟩ => ⟨r, p.mem_iff.mpr h, e⟩⟩
/-- two conditions that differ in the gaps of a field -/
structure PairOk (f : Str) (g : Int) (gs : List Int) (W U : Md) : Prop where
  diff : ∀ y kv, W.holds y kv ≠ U.holds y kv → ∃ i, valV kv (Sum.inr f : Key) = some (.int i) ∧ i ∈ gs
  ex : ∀ i ∈ gs, ∃ y kv, kv.length ≤ 6 ∧ W.holds y kv ≠ U.holds y kv
  top : ∀ y, W.holds y [((Sum.inr f : Key), V.int g)] = U.holds y [((Sum.inr f : Key), V.int g)]
theorem valV_one {f : Str} {v : V} : valV [((Sum.inr f : Key), v)] (Sum.inr f : Key) = some v := valV_pos rfl
theorem pair_base {f : Str} {s g : Int} {rs rs' : List Rg} {gs : List Int} {U : Md} (c : CutOk s g rs gs) (p : rs'.Perm rs) (u : UnOk f rs' U) :
    (∀ y kv, (Md.btw f s g).holds y kv ≠ U.holds y kv → ∃ i, valV kv (Sum.inr f : Key) = some (.int i) ∧ i ∈ gs) ∧ (∀ i ∈ gs, ∀ y kv, valV kv (Sum.inr f : Key) = some (.int i) → (Md.btw f s g).holds y kv = true ∧ U.holds y kv = false) ∧
    ∀ y kv, valV kv (Sum.inr f : Key) = some (.int g) → s ≤ g → (Md.btw f s g).holds y kv = U.holds y kv := by
  have hw : ∀ y kv, (Md.btw f s g).holds y kv = btwHolds f s g kv := fun y kv => rfl
  refine ⟨fun y kv h => ?_, fun i hi y kv e => ?_, fun y kv e le => ?_⟩
  · rw [hw, u.sem] at h
    by_cases ex : ∃ i, valV kv (Sum.inr f : Key) = some (.int i)
    · obtain ⟨i, e⟩ := ex
      refine ⟨i, e, ?_⟩
      rw [btw_int (r := (s, g)) e, un_int e, covB_perm p] at h
      cases hc : covB rs i with
      | true =>
        obtain ⟨r, hr, h1, h2⟩ := covB_iff.mp hc
        have := c.inn r hr
        rw [hc, inRg_iff.mpr ⟨by show s ≤ i; omega, by show i ≤ g; omega⟩] at h
        exact absurd rfl h
      | false =>
        rw [hc] at h
        have h1 : inRg (s, g) i = true := by
          cases q : inRg (s, g) i with
          | true => rfl
          | false => exact absurd q h
        obtain ⟨a, b⟩ := inRg_iff.mp h1
        exact (c.gap i a b).mpr hc
    · have ne : ∀ i, valV kv (Sum.inr f : Key) ≠ some (.int i) := fun i q => ex ⟨i, q⟩
      rw [btw_not (r := (s, g)) ne, un_not ne] at h
      exact absurd rfl h
  · have hg := c.gin i hi
    have hc := (c.gap i hg.1 hg.2).mp hi
    rw [hw, u.sem, btw_int (r := (s, g)) e, un_int e, covB_perm p, hc]
    exact ⟨inRg_iff.mpr hg, rfl⟩
  · rw [hw, u.sem, btw_int (r := (s, g)) e, un_int e, covB_perm p, c.top]
    exact inRg_iff.mpr ⟨le, Int.le_refl g⟩
theorem pair_plain {f : Str} {s g : Int} {rs rs' : List Rg} {gs : List Int} {U : Md} (c : CutOk s g rs gs) (p : rs'.Perm rs) (u : UnOk f rs' U) (le : s ≤ g) : PairOk f g gs (.btw f s g) U := by
  obtain ⟨h1, h2, h3⟩ := pair_base c p u
  refine ⟨h1, fun i hi => ⟨"a", [((Sum.inr f : Key), V.int i)], by show 1 ≤ 6; decide, fun q => ?_⟩, fun y => h3 y _ valV_one le⟩
  obtain ⟨a, b⟩ := h2 i hi "a" _ valV_one
  rw [a, b] at q
  cases q
theorem pair_more {f : Str} {s g : Int} {rs rs' : List Rg} {gs : List Int} {U M : Md} (c : CutOk s g rs gs) (p : rs'.Perm rs) (u : UnOk f rs' U) (le : s ≤ g) (hs : -999 ≤ s) (hg : g ≤ 999)
    (hM : ∀ i : Int, -999 ≤ i → i ≤ 999 → ∃ y kv, kv.length ≤ 6 ∧ valV kv (Sum.inr f : Key) = some (.int i) ∧ M.holds y kv = true) : PairOk f g gs (.both (.btw f s g) M) (.both M U) := by
  obtain ⟨h1, h2, h3⟩ := pair_base c p u
  have e1 : ∀ y kv, (Md.both (.btw f s g) M).holds y kv = ((Md.btw f s g).holds y kv && M.holds y kv) := fun _ _ => rfl
  have e2 : ∀ y kv, (Md.both M U).holds y kv = (M.holds y kv && U.holds y kv) := fun _ _ => rfl
  refine ⟨fun y kv h => h1 y kv fun q => h ?_, fun i hi => ?_, fun y => ?_⟩
  · rw [e1, e2, q, Bool.and_comm]
  · have r := c.gin i hi
    obtain ⟨y, kv, l6, e, hm⟩ := hM i (by omega) (by omega)
    obtain ⟨a, b⟩ := h2 i hi y kv e
    refine ⟨y, kv, l6, fun q => ?_⟩
    rw [e1, e2, a, b, hm] at q
    cases q
  · rw [e1, e2, h3 y _ valV_one le, Bool.and_comm]
end G

set_option Elab.async false
set_option linter.all false
set_option maxRecDepth 100000
set_option maxHeartbeats 4000000
/-! CU: _law_cuts. -/
namespace G
open PySem PySem.Spec PyProof.Rows L2 NdefX StX
abbrev nCuts : List Str := ["_law_box_here", "_law_small", "_law_great", "_law_ranges", "_law_gaps", "_law_begin", "_law_lap", "_law_end", "_law_gap", "_law_behind"]
theorem scCuts : FnScope nCuts ["_law_box_here", "_law_small", "_law_great"] (defScope sCuts) := ⟨rfl, rfl, rfl, by decide +kernel, rfl, by decide +kernel, by decide +kernel⟩
theorem RngAt.keep {H H' : Hp} {es : List RngE} (h : RngAt H es) (s : ∀ p o, H p = some o → still o = true → H' p = some o) : RngAt H' es := fun e he => s _ _ (h e he) rfl
def spCuts : Sp := fun vs H Q _ => ∃ (b : Addr) (s g : Int) (n : Nat), vs = [.ref b, .int s, .int g] ∧ BoxAt H b n ∧ n ≤ 80000 ∧ -999 ≤ s ∧ s ≤ g ∧ g ≤ 999 ∧
  ∀ (T R G : Addr) (es : List RngE) (gs : List Int) (H' : Hp), H' T = some (.tup [.ref R, .ref G]) → H' R = some (.lst (es.map fun e => V.ref e.1)) → RngAt H' es → H' G = some (.lst (gs.map V.int)) → H R = none → H G = none → CutOk s g (rgs es) gs → 1 ≤ es.length → es.length ≤ 3 → BoxAt H' b (n + 5) → But b H H' → Q (.ref T) H'
section
variable {P : Program} {w : World} {K : PySem.W.Frag} {mg : Str → Option Value} {base : Heap} {f fT : Addr} {fd fdT : FuncData}
theorem ok_cuts (F : Fun K "_law_cuts" "_law_cuts" sCuts f fd) (T : Fun K "_law_take" "_law_take" sTake fT fdT) (bT : Binds K fdT ["_law_box_here", "_law_many"] []) (gT : mg "_law_take" = some (.ref fT)) (mr : mg "range" = none) (mL : mg "list" = none) (mmn : mg "min" = none) :
    FnOk P w K mg base CX0 2 f fd ["_law_box_here", "_law_small", "_law_great"] spCuts := by
  have GT : FnOk P w K mg base CX0 1 fT fdT ["_law_box_here", "_law_many"] spTake := ok_take T
  refine F.ok scCuts (fun vs H Q E h => ?_) (fun cdv A outer s H vs Q E hr h => ?_)
  · obtain ⟨b, s, g, n, rfl, _⟩ := h
    rfl
  · obtain ⟨b, sm, g, n, rfl, B, hn, b1, b2, b3, q⟩ := h
    refine ⟨_, pss_cons (ps_par3 (i := 3) (j := 4) (l := 5) (by rfl) scCuts.nd rfl rfl rfl (by decide) (by decide) (by decide) rfl rfl rfl (pa_cons (pe_lst pa_nil) (pa_cons (pe_lst pa_nil) (pa_cons (pv 1) pa_nil))) (by rfl))
      (pss_cons (ps_for PassesOwn.never rfl (pi_range1 rfl mr (pa_cons (pe_op op_add pe_int (pe_call GT hr rfl gT T.kp bT .nil pass0 (pa_cons (pv 0) (pa_cons pe_int pa_nil)))) pa_nil)) (pg_name (i := 6) scCuts.nd rfl (.inl rfl))
        (pss_one (ps_if (pt_cmpR op_lt (pv 5) (pv 2) (nomark _))
          (pss_cons (ps_set (i := 7) scCuts.nd rfl (.inl rfl) (pe_op op_add (pv 5) (pe_call GT hr rfl gT T.kp bT .nil pass0 (pa_cons (pv 0) (pa_cons (pe_op op_sub (pv 2) (pv 5)) pa_nil)))))
          (pss_cons (ps_set (i := 8) scCuts.nd rfl (.inl rfl) (pe_ix (r := rIxL K) ix_list (pe_lst (pa_cons pe_int (pa_cons pe_int (pa_cons pe_int (pa_cons pe_int pa_nil))))) (pe_call GT hr rfl gT T.kp bT .nil pass0 (pa_cons (pv 0) (pa_cons pe_int pa_nil))) (fun _ _ => rfl)))
          (pss_cons (ps_set (i := 9) scCuts.nd rfl (.inl rfl) (pe_callB (call_min2 rfl) (by rfl) mmn (by decide +kernel) (pa_cons (pv 2) (pa_cons (pe_op op_add (pe_op op_add (pv 7) pe_int) (pv 8)) pa_nil))))
          (pss_cons (ps_expr (pe_bm PySem.F.plainAttrs_list PySem.F.slot_list_append PySem.F.type_list_append mt_append (pv 3) (pa_cons (pe_tup (pa_cons (pv 5) (pa_cons (pv 7) pa_nil))) pa_nil)))
          (pss_cons (ps_expr (pe_bm PySem.F.plainAttrs_list PySem.F.slot_list_extend PySem.F.type_list_extend mt_extend (pv 4) (pa_cons (pe_listRg (by rfl) rfl mL (prg_2 rfl mr (pe_op op_add (pv 7) pe_int) (pv 9))) pa_nil)))
          (pss_one (ps_set (i := 5) scCuts.nd rfl (.inl rfl) (pv 9)))))))) pss_nil)))
      (pss_one (ps_ret (pe_tup (pa_cons (pe_op op_cat (pv 3) (pe_lst (pa_cons (pe_tup (pa_cons (pv 5) (pa_cons (pv 2) pa_nil))) pa_nil))) (pa_cons (pv 4) pa_nil)))))), ?_⟩
    refine ⟨Nat.zero_le _, fun R hR => ⟨Nat.zero_le _, fun G hG => ⟨_, rfl, _, _, _, rfl, ?_⟩⟩⟩
    have sR := Same.new (o := .lst []) hR
    have nRb := box_ne B hR
    have nGb := box_ne (B.same sR) hG
    have nRG : R ≠ G := ne_of_none (upd_same (H := H) (a := R) (o := .lst [])) hG
    have fG : H G = none := (upd_ne nRG.symm).symm.trans hG
    have sG := Same.new (o := .lst []) hG
    have s2 := sR.trans sG
    have eR : (upd (upd H R (.lst [])) G (.lst [])) R = some (.lst []) := (upd_ne nRG).trans upd_same
    have eG : (upd (upd H R (.lst [])) G (.lst [])) G = some (.lst []) := upd_same
    generalize upd (upd H R (.lst [])) G (.lst []) = H1 at s2 eR eG ⊢
    have B1 := B.same s2
    refine ⟨_, rfl, b, 2, n, rfl, B1, by omega, by decide, by decide, fun r H2 r0 r1 B2 k2 => ⟨_, _, rfl, rfl, ?_⟩⟩
    obtain ⟨laps, rfl, hl⟩ := draw_at (n := 2) r0 r1 rfl
    refine ⟨1 + (laps : Int), rfl, by omega, by omega, ?_⟩
    have k12 : But b H H2 := (But.same s2).trans k2
    refine for_range (lo := 0) (n := (1 + (laps : Int)).toNat) (fun i σ H3 => But b H H3 ∧ BoxAt H3 b (n + 1 + 2 * i) ∧ ∃ (es : List RngE) (gs : List Int) (bg : Int), H3 R = some (.lst (es.map fun e => V.ref e.1)) ∧ RngAt H3 es ∧ H3 G = some (.lst (gs.map V.int)) ∧ CutI sm bg (rgs es) gs ∧ bg ≤ g ∧ es.length ≤ i ∧ gs.length ≤ 3 * i ∧
      ∃ x6 x7 x8 x9 : Option V, σ = [some (.ref b), some (.int sm), some (.int g), some (.ref R), some (.ref G), some (.int bg), x6, x7, x8, x9]) ?_ ?_ ?_
    · exact ⟨k12, B2, [], [], sm, k2 _ _ nRb eR, (fun _ h => nomatch h), k2 _ _ nGb eG, CutI.nil sm, b2, Nat.le_refl _, Nat.le_refl _, _, _, _, _, rfl⟩
    · rintro i σ H3 hi ⟨k3, B3, es, gs, bg, eR3, et3, eG3, cut, le, l1, l2, x6, x7, x8, x9, rfl⟩
      have hi2 : i < 2 := by omega
      have hs := cut.le
      refine ⟨_, rfl, _, rfl, _, _, rfl, rfl, _, rfl, ite2 (fun lt => ?_) (fun _ => ?_)⟩
      · have lt : bg < g := of_decide_eq_true lt
        refine ⟨_, rfl, _, rfl, _, rfl, _, rfl, _, _, rfl, rfl, b, g - bg, _, rfl, B3, by omega, by omega, by omega, fun r4 H4 c0 c1 B4 k4 => ⟨_, _, rfl, rfl, ?_⟩⟩
        refine ⟨(by show 4 ≤ sizeLine; decide), fun p hp => ?_⟩
        have npb := box_ne B4 hp
        have sp := Same.new (o := .lst [.int 0, .int 0, .int 1, .int 2]) hp
        have ep : (upd H4 p (.lst [.int 0, .int 0, .int 1, .int 2])) p = some (.lst [.int 0, .int 0, .int 1, .int 2]) := upd_same
        generalize upd H4 p (.lst [.int 0, .int 0, .int 1, .int 2]) = H5 at sp ep ⊢
        refine ⟨_, rfl, b, 4, _, rfl, B4.same sp, by omega, by decide, by decide, fun r5 H6 d0 d1 B6 k6 => ?_⟩
        obtain ⟨j, rfl, hj⟩ := draw_at (n := 4) d0 d1 rfl
        obtain ⟨gp, egp, g0, g2⟩ : ∃ gp : Int, ([.int 0, .int 0, .int 1, .int 2] : List V)[j]? = some (.int gp) ∧ 0 ≤ gp ∧ gp ≤ 2 := by
          match j, hj with
          | 0, _ => exact ⟨_, rfl, by decide, by decide⟩
          | 1, _ => exact ⟨_, rfl, by decide, by decide⟩
          | 2, _ => exact ⟨_, rfl, by decide, by decide⟩
          | 3, _ => exact ⟨_, rfl, by decide, by decide⟩
        refine ⟨p, _, _, .int gp, rfl, rfl, .of (k6 _ _ npb ep), atI_nat egp, ?_⟩
        have k46 : But b H3 H6 := (k4.trans (But.same sp)).trans k6
        obtain ⟨en, een, en1, en2⟩ : ∃ en, bg + r4 = en ∧ bg ≤ en ∧ en < g := ⟨_, rfl, by omega, by omega⟩
        have een2 : V.int (bg + r4) = V.int en := congrArg V.int een
        dsimp only [gName]
        rw [een2]
        obtain ⟨be, ebe, be1, be2, be3⟩ : ∃ be, (if en + 1 + gp < g then en + 1 + gp else g) = be ∧ en + 1 ≤ be ∧ be ≤ g ∧ be ≤ en + 3 := by
          refine ⟨_, rfl, ?_, ?_, ?_⟩ <;> split <;> omega
        refine ⟨_, rfl, _, rfl, _, _, rfl, rfl, _, rfl, _, _, rfl, rfl, _, _, rfl, ?_⟩
        rw [ebe]
        have eR6 := k46 _ _ nRb eR3
        have eG6 := k46 _ _ nGb eG3
        refine ⟨_, rfl, .inl ⟨rfl, _, .of eR6⟩, _, rfl, _, rfl, (by show 2 ≤ sizeLine; decide), fun t ht => ?_⟩
        have st := Same.new (o := .tup [.int bg, .int en]) ht
        have et : (upd H6 t (.tup [.int bg, .int en])) t = some (.tup [.int bg, .int en]) := upd_same
        generalize upd H6 t (.tup [.int bg, .int en]) = H7 at st et ⊢
        have eR7 := st _ _ eR6
        have eG7 := st _ _ eG6
        refine ⟨R, _, _, rfl, rfl, eR7, small1000 (by rw [List.length_map]; omega), ?_⟩
        have et3' : RngAt H7 es := (et3.keep (SK.of_but B3 k46)).same st
        have es8 : RngAt (upd H7 R (.lst (es.map (fun e => V.ref e.1) ++ [.ref t]))) (es ++ [(t, bg, en)]) := fun e he => by
          have up : ∀ (p : Addr) (xs : List V), H7 p = some (.tup xs) → (upd H7 R (.lst (es.map (fun e => V.ref e.1) ++ [.ref t]))) p = some (.tup xs) := fun p xs e => (upd_ne fun z => by rw [z, eR7] at e; cases e).trans e
          rcases List.mem_append.mp he with he | he
          · exact up _ _ (et3' e he)
          · rw [List.mem_singleton.mp he]
            exact up _ _ et
        have eG8 : (upd H7 R (.lst (es.map (fun e => V.ref e.1) ++ [.ref t]))) G = some (.lst (gs.map V.int)) := (upd_ne nRG.symm).trans eG7
        have eR8 : (upd H7 R (.lst (es.map (fun e => V.ref e.1) ++ [.ref t]))) R = some (.lst ((es ++ [(t, bg, en)]).map fun e => V.ref e.1)) := by
          rw [upd_same, List.map_append]
          rfl
        have k8 : But b H (upd H7 R (.lst (es.map (fun e => V.ref e.1) ++ [.ref t]))) := but_upd ((k3.trans k46).trans (But.same st)) hR
        have B8 : BoxAt (upd H7 R (.lst (es.map (fun e => V.ref e.1) ++ [.ref t]))) b (n + 1 + 2 * (i + 1)) := (box_upd (B6.same st) nRb).mono (by omega)
        generalize upd H7 R (.lst (es.map (fun e => V.ref e.1) ++ [.ref t])) = H8 at es8 eG8 eR8 k8 B8 ⊢
        refine ⟨_, rfl, .inl ⟨rfl, _, .of eG8⟩, _, rfl, _, _, rfl, rfl, _, rfl, _, _, rfl, rfl, ⟨by omega, by omega, by omega, by omega, by omega⟩, fun L hL => ?_⟩
        rw [rgV_itv]
        have sL := Same.new (o := .lst ((itv (en + 1) be).map V.int)) hL
        have eL : (upd H8 L (.lst ((itv (en + 1) be).map V.int))) L = some (.lst ((itv (en + 1) be).map V.int)) := upd_same
        generalize upd H8 L (.lst ((itv (en + 1) be).map V.int)) = H9 at sL eL ⊢
        have ll : (itv (en + 1) be).length ≤ 2 := by
          unfold itv
          rw [List.length_map, List.length_range]
          omega
        have eG9 := sL _ _ eG8
        refine ⟨G, L, _, _, rfl, rfl, eG9, eL, ?_, ?_⟩
        · rw [List.length_map, List.length_map, sizeLine_eq]
          omega
        refine ⟨_, rfl, but_upd (k8.trans (But.same sL)) fG, box_upd (B8.same sL) nGb, es ++ [(t, bg, en)], gs ++ itv (en + 1) be, be, (upd_ne nRG).trans (sL _ _ eR8), fun e he => ?_, ?_, ?_, be2, ?_, ?_, _, _, _, _, rfl⟩
        · have h := sL _ _ (es8 e he)
          exact (upd_ne fun z => by rw [z, eG9] at h; cases h).trans h
        · rw [upd_same, List.map_append]
        · have := cut.step en1 be1
          show CutI sm be ((es ++ [(t, bg, en)]).map (·.2)) _
          rw [List.map_append]
          exact this
        · rw [List.length_append]
          exact Nat.succ_le_succ l1
        · rw [List.length_append]
          omega
      · exact ⟨k3, B3.mono (by omega), es, gs, bg, eR3, et3, eG3, cut, le, by omega, by omega, _, _, _, _, rfl⟩
    · rintro σ H3 ⟨k3, B3, es, gs, bg, eR3, et3, eG3, cut, le, l1, l2, x6, x7, x8, x9, rfl⟩
      have le2 : (1 + (laps : Int)).toNat ≤ 2 := by omega
      refine ⟨_, rfl, _, rfl, _, rfl, (by show 2 ≤ sizeLine; decide), fun t ht => ?_⟩
      have st := Same.new (o := .tup [.int bg, .int g]) ht
      have et : (upd H3 t (.tup [.int bg, .int g])) t = some (.tup [.int bg, .int g]) := upd_same
      generalize upd H3 t (.tup [.int bg, .int g]) = H4 at st et ⊢
      refine ⟨(by show 1 ≤ sizeLine; decide), fun p hp => ?_⟩
      have sp := Same.new (o := .lst [.ref t]) hp
      have ep : (upd H4 p (.lst [.ref t])) p = some (.lst [.ref t]) := upd_same
      generalize upd H4 p (.lst [.ref t]) = H5 at sp ep ⊢
      have s35 := st.trans sp
      refine ⟨R, p, _, _, rfl, rfl, s35 _ _ eR3, ep, ?_, fun R2 hR2 => ?_⟩
      · rw [List.length_map, sizeLine_eq]
        show es.length + 1 ≤ _
        omega
      have s2' := Same.new (o := .lst (es.map (fun e => V.ref e.1) ++ [.ref t])) hR2
      have eR2 : (upd H5 R2 (.lst (es.map (fun e => V.ref e.1) ++ [.ref t]))) R2 = some (.lst ((es ++ [(t, bg, g)]).map fun e => V.ref e.1)) := by
        rw [upd_same, List.map_append]
        rfl
      have fR2 : H R2 = none := free_of (k3.trans (But.same s35)) (box_ne (B3.same s35) hR2) hR2
      generalize upd H5 R2 (.lst (es.map (fun e => V.ref e.1) ++ [.ref t])) = H6 at s2' eR2 ⊢
      refine ⟨_, rfl, (by show 2 ≤ sizeLine; decide), fun Tt hT => ?_⟩
      have sT := Same.new (o := .tup [.ref R2, .ref G]) hT
      have s36 := s35.trans (s2'.trans sT)
      refine q Tt R2 G (es ++ [(t, bg, g)]) gs _ upd_same (sT _ _ eR2) (fun e he => ?_) (s36 _ _ eG3) fR2 fG ?_ (by rw [List.length_append]; exact Nat.le_add_left 1 _) (by rw [List.length_append]; show es.length + 1 ≤ 3; omega) ((B3.same s36).mono (by omega)) (k3.trans (But.same s36))
      · rcases List.mem_append.mp he with he | he
        · exact s36 _ _ (et3 e he)
        · rw [List.mem_singleton.mp he]
          exact (sp.trans (s2'.trans sT)) _ _ et
      · have := cut.fin le
        show CutOk sm g ((es ++ [(t, bg, g)]).map (·.2)) gs
        rw [List.map_append]
        exact this
end
end G

set_option Elab.async false
set_option linter.all false
set_option maxRecDepth 100000
set_option maxHeartbeats 4000000
/-! RI: _law_right, its end. -/
namespace G
open PySem PySem.Spec PyProof.Rows L2 NdefX StX
abbrev nRi : List Str := ["_law_box_here", "_law_fields", "_law_names_here", "_law_small", "_law_great", "_law_ranges", "_law_gaps", "_law_one", "_law_whole", "_law_parts", "_law_first", "_law_last", "_law_other", "_law_part", "_law_more", "_law_found"]
theorem scRi : FnScope nRi ["_law_box_here", "_law_fields", "_law_names_here"] (defScope sRi) := ⟨rfl, rfl, rfl, by decide +kernel, rfl, by decide +kernel, by decide +kernel⟩
/-! ### records -/
def NumK (kv : Kvs) : Prop := ∀ p ∈ kv, ∃ (z : Str) (i : Int), p = (Sum.inr z, V.int i) ∧ NameZ z
theorem NumK.of {zs : List Str} {kv : Kvs} (h : ValOk zs kv) : NumK kv := fun p hp => let ⟨z, i, e, hz, _⟩ := h.is p hp; ⟨z, i, e, h.nm z hz⟩
theorem rp_kv {K : PySem.W.Frag} {H : Hp} : ∀ {kv : Kvs}, NumK kv → ∃ ds : List (PyData × PyData), RpAll K H (kv.map fun p => kV p.1) (ds.map (·.1)) ∧ RpAll K H (kv.map (·.2)) (ds.map (·.2))
  | [], _ => ⟨[], .nil, .nil⟩
  | p :: kv, h => by
    obtain ⟨ds, r1, r2⟩ := rp_kv (K := K) (H := H) fun q hq => h q (List.mem_cons_of_mem _ hq)
    obtain ⟨z, i, rfl, _⟩ := h p List.mem_cons_self
    exact ⟨(.str z, .int i) :: ds, .cons (.str z) r1, .cons (.int i) r2⟩
theorem found_rec {K : PySem.W.Frag} {H : Hp} {T d : Addr} {y : Str} {kv : Kvs} (e : H T = some (.tup [.str y, .ref d])) (ed : H d = some (.dK kv)) (ny : NameZ y) (nk : NumK kv) (few : kv.length ≤ 6) (nd : (kv.map (·.1)).Nodup) : Found K H (.ref T) := by
  obtain ⟨ds, r1, r2⟩ := rp_kv (K := K) (H := H) nk
  have rd : Rp K H (.ref d) (.dict ds) := .dic ed r1 r2
  have len : ∀ z : Str, NameZ z → z.length ≤ 1000 := fun z h => Nat.le_trans h.2.2 (by decide)
  refine ⟨⟨_, .tup e (.cons (.str y) (.cons rd .nil))⟩, fun a k x ea e' => ?_⟩
  cases ea
  rw [e] at e'
  cases e'
  refine ⟨⟨⟨_, .str y⟩, len y ny⟩, ⟨⟨_, rd⟩, fun kvs e2 => ?_⟩⟩
  rw [ed] at e2
  cases e2
  refine ⟨by omega, nd, fun p hp z e => ?_, fun p hp => ?_⟩
  · obtain ⟨z', i, rfl, nz⟩ := nk p hp
    cases e
    exact len _ nz
  · obtain ⟨z', i, rfl, nz⟩ := nk p hp
    exact .inl rfl
theorem partB_at {m n : Md} {H : Hp} {T d : Addr} {y : Str} {kv : Kvs} (e : H T = some (.tup [.str y, .ref d])) (ed : H d = some (.dK kv)) : partB m n H (.ref T) = (nameB y && valB kv && (m.holds y kv != n.holds y kv)) := by
  rw [partB_ref e]
  show (nameV (.str y) && valV' H (.ref d) && (holdV m H (.str y) (.ref d) != holdV n H (.str y) (.ref d))) = _
  have h1 : ∀ m : Md, holdV m H (.str y) (.ref d) = m.holds y kv := fun m => by
    show (match H d with | some (.dK kvs) => m.holds y kvs | _ => false) = _
    rw [ed]
  have h2 : valV' H (.ref d) = valB kv := by
    show (match H d with | some (.dK kvs) => valB kvs | _ => false) = _
    rw [ed]
  rw [h1, h1, h2]
  rfl
theorem inV_int {i : Int} {gs : List Int} (h : i ∈ gs) : inV (.int i) (gs.map V.int) = true := by
  unfold inV
  rw [List.any_eq_true]
  exact ⟨V.int i, List.mem_map.mpr ⟨i, h, rfl⟩, by show (i == i) = true; exact beq_self_eq_true i⟩
theorem flat_ints (gs : List Int) : (gs.map V.int).all flatV = true := List.all_eq_true.mpr fun x hx => by
  obtain ⟨z, _, rfl⟩ := List.mem_map.mp hx
  rfl
theorem none_gaps {f : Str} {g : Int} {gs : List Int} {W U : Md} (p : PairOk f g gs W U) (w : MdOk W) (u : MdOk U) (no : ∀ y kv, V.str y ∈ candK W U → kv ∈ candV W U → W.holds y kv = U.holds y kv) : gs = [] := by
  cases gs with
  | nil => rfl
  | cons i r =>
    obtain ⟨y, kv, l6, ne⟩ := p.ex i List.mem_cons_self
    have := w.six
    have := w.names
    have := u.six
    have := u.names
    exact absurd (cand_complete w.good u.good (by omega) (by omega) no y kv l6) ne
section
variable {P : Program} {w : World} {K : PySem.W.Frag} {mg : Str → Option Value} {base : Heap} {f fA fS : Addr} {fd fdA fdS : FuncData} {c : Cs}
theorem ri_tail {cdv : Value} {A : Around} {outer : List Env} {s : Shared} {H : Hp} {E : XK}
    (GA : FnOk P w K mg base CX0 7 fA fdA ["one", "other"] (spParting c)) (gA : mg "parting" = some (.ref fA)) (kA : PySem.W.keepIn K (.ref fA) = true) (bA : Binds K fdA ["one", "other"] [])
    (GS : FnOk P w K mg base CX0 7 fS fdS ["one", "other", "found"] (spIsPart K c)) (gS : mg "is_parting" = some (.ref fS)) (kS : PySem.W.keepIn K (.ref fS) = true) (bS : Binds K fdS ["one", "other", "found"] []) (ml : mg "len" = none)
    (hr : Room 7 (A.deeper (envOfC "_law_right" (defScope sRi) s.heap.objs.size f cdv))) :
    ∃ t, PSs (cxOf CX0 P w K mg base nRi "_law_right" (defScope sRi) f cdv A outer s H E).nox ((defBody sRi).drop 8) t ∧
      ∀ (De : Ends) (x0 x1 x2 x3 x5 x9 x10 x11 x13 x14 x15 : Option V) (g : Int) (G a a2 : Addr) (fz : Str) (W U : Md) (gs : List Int) (H1 : Hp), CoAt c H1 a W → CoAt c H1 a2 U → MdOk W → MdOk U → PairOk fz g gs W U → H1 G = some (.lst (gs.map V.int)) → NameZ fz → -999 ≤ g → g ≤ 999 →
        (∀ H', Same H1 H' → De.rt (.bl true) H') →
        t De [x0, x1, x2, x3, some (.int g), x5, some (.ref G), some (.str fz), some (.ref a), x9, x10, x11, some (.ref a2), x13, x14, x15] H1 := by
  have hu := hu_of hr
  have hu0 : (A.deeper (envOfC "_law_right" (defScope sRi) s.heap.objs.size f cdv)).units < cLine := by
    have := hr.units
    omega
  refine ⟨_, pss_cons (ps_set (i := 15) scRi.nd rfl (.inl rfl) (pe_call GA hr rfl gA kA bA .nil pass0 (pa_cons (pv 8) (pa_cons (pv 12) pa_nil))))
    (pss_cons (ps_if (pt_cmpR (op_eqNil hu0) (pv 6) (pe_lst pa_nil) (nomark _)) (pss_one (ps_ret (pe_cmpR op_isN (pv 15) pe_non (nomark _)))) pss_nil)
    (pss_cons (ps_if (PW.pt (pw_or (pt_cmpR op_isN (pv 15) pe_non (nomark _)) (pw_or (pt_cmpR op_notIn_seq (pe_dget1 hu (pe_ix ix_tup (pv 15) pe_int (fun _ _ => rfl)) (pv 7) ⟨by rfl, by rfl, by rfl, by rfl⟩) (pv 6) (by rfl))
        (pw_or1 (pt_not (pt_chain op_le op_le pe_int (pe_callB call_lenD (by rfl) ml PySem.boot_len (pa_cons (pe_ix ix_tup (pv 15) pe_int (fun _ _ => rfl)) pa_nil)) pe_int)))))) (pss_one (ps_ret pe_bl)) pss_nil)
    (pss_one (ps_ret (pe_and (pe_cmpR op_isBl (pe_call GS hr rfl gS kS bS .nil pass0 (pa_cons (pv 8) (pa_cons (pv 12) (pa_cons (pv 15) pa_nil)))) pe_bl (nomark _))
      (pe_one (pe_cmpR op_isBl (pe_call GS hr rfl gS kS bS .nil pass0 (pa_cons (pv 8) (pa_cons (pv 12) (pa_cons (pe_tup (pa_cons (pe_ix ix_tup (pv 15) pe_int (fun _ _ => rfl)) (pa_cons (pe_disp (pps_cons (pv 7) (pv 4) pps_nil) (by rfl) (by rfl) (List.cons_ne_nil _ _) (by decide)) pa_nil))) pa_nil)))) pe_bl (nomark _)))))))), ?_⟩
  intro De x0 x1 x2 x3 x5 x9 x10 x11 x13 x14 x15 g G a a2 fz W U gs H1 ca ca2 oW oU po eG nf g1 g2 q
  refine ⟨_, rfl, _, rfl, a, a2, W, U, rfl, ca, ca2, oW, oU, fun H2 s2 no => ?_, fun T d y kv zs H2 hT s2 eT ed ny vo nd df => ?_⟩
  · have e := none_gaps po oW oU no
    subst e
    refine ⟨_, rfl, Nat.zero_le _, fun p hp => ⟨G, p, _, rfl, rfl, .of (Same.new hp _ _ (s2 _ _ eG)), .of upd_same, _, rfl, iteT ?_⟩⟩
    exact ⟨_, rfl, rfl, q _ (s2.trans (Same.new hp))⟩
  · obtain ⟨i, ei, mi⟩ := po.diff y kv df
    have gne : gs ≠ [] := fun e => by
      rw [e] at mi
      cases mi
    have eG2 := s2 _ _ eG
    refine ⟨_, rfl, Nat.zero_le _, fun p hp => ⟨G, p, _, rfl, rfl, .of (Same.new hp _ _ eG2), .of upd_same, _, rfl, ?_⟩⟩
    refine ifN (by cases gs with | nil => exact absurd rfl gne | cons _ _ => rfl) ?_
    have s3 := s2.trans (Same.new (o := .lst []) hp)
    have sp := Same.new (o := .lst []) hp
    have eT3 := sp _ _ eT
    have ed3 := sp _ _ ed
    have eG3 := sp _ _ eG2
    generalize upd H2 p (.lst []) = H3 at s3 sp eT3 ed3 eG3 ⊢
    refine ⟨_, rfl, rfl, _, rfl, ite2 (fun e => absurd (of_decide_eq_true e) (fun z => nomatch z)) (fun _ => ?_)⟩
    refine ⟨_, rfl, T, _, ((1 : Nat) : Int), .ref d, rfl, rfl, .of eT3, atI_nat (j := 1) rfl, d, rfl, .inl ⟨_, .of ed3⟩, _, rfl, _, DGet.k (k := Sum.inr fz) ed3, ?_⟩
    rw [ei]
    refine ⟨_, rfl, G, _, rfl, .inl (.of eG3), rfl, flat_ints gs, _, rfl, ?_⟩
    refine ifN (by rw [if_pos rfl]; show (!inV (.int i) (gs.map V.int)) = false; rw [inV_int mi]; rfl) ?_
    have p1 := vo.pos
    have p6 := vo.six
    refine ⟨_, rfl, T, _, ((1 : Nat) : Int), .ref d, rfl, rfl, .of eT3, atI_nat (j := 1) rfl, d, kv, rfl, ed3, _, _, rfl, rfl, _, rfl, ?_⟩
    refine ifY (decide_eq_true (show (1 : Int) ≤ (kv.length : Int) by omega)) ⟨_, _, rfl, rfl, _, rfl, ?_⟩
    refine ifN (by rw [decide_eq_true (show (kv.length : Int) ≤ 6 by omega)]; rfl) ?_
    have ca3 := ca.same s3
    have ca23 := ca2.same s3
    have fo := found_rec (K := K) eT3 ed3 ny (NumK.of vo) p6 nd
    refine ⟨_, rfl, _, rfl, _, rfl, a, a2, W, U, .ref T, rfl, ca3, ca23, oW.deep, oU.deep, fo, fun H4 s4 => ⟨_, true, rfl, rfl, _, rfl, ?_⟩⟩
    have pt : partB W U H3 (.ref T) = true := by
      rw [partB_at eT3 ed3, name_to ny, val_to vo]
      show (W.holds y kv != U.holds y kv) = true
      cases q1 : W.holds y kv <;> cases q2 : U.holds y kv <;> first | rfl | exact absurd (q1.trans q2.symm) df
    rw [pt]
    refine iteT ?_
    have eT4 := s4 _ _ eT3
    refine ⟨_, rfl, _, rfl, _, rfl, T, _, ((0 : Nat) : Int), .str y, rfl, rfl, .of eT4, atI_nat (j := 0) rfl, fun p7 h7 => ⟨_, rfl, _, rfl, upd_same, [(Sum.inr fz, .int g)], rfl, by show 1 ≤ 15; decide, ?_⟩⟩
    rw [upd_upd, show mergeK [] [((Sum.inr fz : Key), V.int g)] = [((Sum.inr fz : Key), V.int g)] from rfl]
    have s7 := Same.new (o := .dK [(Sum.inr fz, .int g)]) h7
    have e7 : (upd H4 p7 (.dK [(Sum.inr fz, .int g)])) p7 = some (.dK [(Sum.inr fz, .int g)]) := upd_same
    generalize upd H4 p7 (.dK [(Sum.inr fz, .int g)]) = H7 at s7 e7 ⊢
    refine ⟨(by show 2 ≤ sizeLine; decide), fun p8 h8 => ?_⟩
    have s8 := Same.new (o := .tup [.str y, .ref p7]) h8
    have e8 : (upd H7 p8 (.tup [.str y, .ref p7])) p8 = some (.tup [.str y, .ref p7]) := upd_same
    generalize upd H7 p8 (.tup [.str y, .ref p7]) = H8 at s8 e8 ⊢
    have e78 := s8 _ _ e7
    have s48 := (s4.trans s7).trans s8
    have fo8 := found_rec (K := K) e8 e78 ny (fun p hp => ⟨fz, g, List.mem_singleton.mp hp, nf⟩) (by show 1 ≤ 6; decide) (by simp)
    refine ⟨a, a2, W, U, .ref p8, rfl, ca3.same s48, ca23.same s48, oW.deep, oU.deep, fo8, fun H9 s9 => ⟨_, false, rfl, rfl, ?_⟩⟩
    have pf : partB W U H8 (.ref p8) = false := by
      rw [partB_at e8 e78, po.top y]
      cases U.holds y [((Sum.inr fz : Key), V.int g)] <;> simp
    rw [pf]
    exact q _ ((s3.trans s48).trans s9)
end
end G

set_option Elab.async false
set_option linter.all false
set_option maxRecDepth 100000
set_option maxHeartbeats 4000000
/-! RJ: _law_right from its seventh statement on. -/
namespace G
open PySem PySem.Spec PyProof.Rows L2 NdefX StX
theorem btw_b5 {K : PySem.W.Frag} {f cda cc D : Addr} {fd : FuncData} (F : FunX K "__init__" "Between.__init__" sBtwInit f cda cc (.ref D) fd) : KBn K fd psBtw 2 ["low", "high"] (fun us ws => us ++ ws) (fun vs zs => vs ++ zs) := by
  obtain ⟨oc, od, doc, pm, an, ct, osl, rfl, lk, hcd⟩ := F.ex
  refine ⟨fun s us ws X h1 h2 => ?_, fun r1 r2 => r1.append r2⟩
  match us, ws, h1, h2 with
  | [a, b], [c, d], _, _ => exact .of_eq rfl
/-- a Named is made -/
theorem nam_made2 {C : Addr} {H1 : Hp} {R : Addr → Hp → Prop} {E : XK} {zs : List Str} {vs : List V} (hv : zs.map V.str = vs) (h8 : zs.length ≤ 8) (hz : ∀ z ∈ zs, NameZ z) (q : ∀ (a t : Addr) (H' : Hp), NamAt C H' a t zs → Same H1 H' → R a H') :
    ∀ x dx, H1 x = Option.none → H1 dx = Option.none → dx ≠ x → spNamR C (V.ref x :: vs) (upd (upd H1 dx (.own x)) x (.ins C dx [])) (fun v H2 => v = .non ∧ R x H2) E := by
  subst hv
  intro x dx hx hdx hne
  refine ⟨[V.ref x], zs.map V.str, rfl, rfl, by rw [List.length_map]; exact small_size (by omega), fun p hp => ?_⟩
  have npx : p ≠ x := fun z => by
    rw [z, upd_same] at hp
    cases hp
  rw [upd_ne npx] at hp
  have npd : p ≠ dx := fun z => by
    rw [z, upd_same] at hp
    cases hp
  rw [upd_ne npd] at hp
  refine ⟨x, dx, p, zs, rfl, ?_, upd_same, h8, hz, fun H' s' => ⟨rfl, ?_⟩⟩
  · rw [upd_ne npx.symm, upd_same]
  · refine q x p _ ⟨dx, upd_same, ?_⟩ fun c o e => ?_
    · rw [upd_ne npx]
      exact s' p _ ((upd_ne npx).trans upd_same)
    · have n1 := ne_of_none e hx
      rw [upd_ne n1]
      refine s' c o ?_
      rw [upd_ne n1, upd_ne (ne_of_none e hp), upd_ne n1, upd_ne (ne_of_none e hdx)]
      exact e
theorem btw_made2 {c : Cs} {H1 : Hp} {R : Addr → Hp → Prop} {E : XK} {z : Str} {lo hi : Int} (hz : NameZ z) (m1 : -999 ≤ lo) (m2 : lo ≤ hi) (m3 : hi ≤ 999) (q : ∀ r H', CoAt c H' r (.btw z lo hi) → Same H1 H' → R r H') :
    ∀ x dx, H1 x = Option.none → H1 dx = Option.none → dx ≠ x → spBtw c.bt [.ref x, .str z, .int lo, .int hi] (upd (upd H1 dx (.own x)) x (.ins c.bt dx [])) (fun v H2 => v = .non ∧ R x H2) E := by
  intro x dx hx hdx _
  exact ⟨x, dx, z, lo, hi, rfl, upd_same, hz, m1, m2, m3, fun H' s' => ⟨rfl, q x _ ⟨dx, upd_same⟩ (put_same hx hdx s')⟩⟩
/-- a condition that is joined to both -/
structure MoreOk (f : Str) (M : Md) : Prop where
  good : M.good
  leaves : M.leaves ≤ 1
  depth : M.depth ≤ 2
  names : M.names ≤ 1
  some_ : ∀ i : Int, -999 ≤ i → i ≤ 999 → ∃ y kv, kv.length ≤ 6 ∧ valV kv (Sum.inr f : Key) = some (.int i) ∧ M.holds y kv = true
theorem more_nam {f y0 : Str} (h : NameZ y0) : MoreOk f (.nam [y0]) := by
  refine ⟨fun z hz => by rw [List.mem_singleton.mp hz]; exact h, Nat.le_refl _, (by show 1 ≤ 2; decide), Nat.le_refl _, fun i _ _ => ⟨y0, [((Sum.inr f : Key), V.int i)], by show 1 ≤ 6; decide, valV_one, ?_⟩⟩
  show inV (.str y0) ([y0].map V.str) = true
  rw [inV_strsC]
  exact decide_eq_true (List.mem_singleton.mpr rfl)
theorem more_btw {f f1 : Str} (h : NameZ f1) : MoreOk f (.btw f1 (-999) 999) := by
  refine ⟨⟨h, by decide, by decide, by decide⟩, Nat.le_refl _, (by show 1 ≤ 2; decide), Nat.zero_le _, fun i h1 h2 => ?_⟩
  have hh : ∀ kv : Kvs, (Md.btw f1 (-999) 999).holds "a" kv = btwHolds f1 (-999) 999 kv := fun _ => rfl
  by_cases e : f1 = f
  · subst e
    refine ⟨"a", [((Sum.inr f1 : Key), V.int i)], by show 1 ≤ 6; decide, valV_one, ?_⟩
    rw [hh, btw_int (r := ((-999 : Int), (999 : Int))) (i := i) valV_one]
    exact inRg_iff.mpr ⟨h1, h2⟩
  · refine ⟨"a", [((Sum.inr f : Key), V.int i), ((Sum.inr f1 : Key), V.int 0)], by show 2 ≤ 6; decide, valV_pos rfl, ?_⟩
    have e1 : valV [((Sum.inr f : Key), V.int i), ((Sum.inr f1 : Key), V.int 0)] (Sum.inr f1 : Key) = some (V.int 0) := by
      rw [valV_neg (p := ((Sum.inr f : Key), V.int i)) (fun q => e (Sum.inr.inj q).symm)]
      exact valV_one
    rw [hh, btw_int (r := ((-999 : Int), (999 : Int))) e1]
    decide
theorem more_neg {f : Str} : MoreOk f (.neg (.nam [])) :=
  ⟨(fun z hz => nomatch hz), Nat.le_refl _, Nat.le_refl _, Nat.zero_le _, fun i _ _ => ⟨"a", [((Sum.inr f : Key), V.int i)], by show 1 ≤ 6; decide, valV_one, rfl⟩⟩
/-- what the law's defs ask of the classes -/
structure Mks (P : Program) (w : World) (K : PySem.W.Frag) (mg : Str → Option Value) (base : Heap) (D : Addr) (c : Cs) : Prop where
  o : Conds P w K mg base D c
  nm : ∃ fI, Mk K c.nm fI ∧ FnR P w K mg base CX0 3 fI (spNamR c.nm)
  gnm : mg "Named" = some (.ref c.nm)
section
variable {P : Program} {w : World} {K : PySem.W.Frag} {mg : Str → Option Value} {base : Heap} {f fA fS fT D : Addr} {fd fdA fdS fdT : FuncData} {c : Cs}
theorem ri_more {cdv : Value} {A : Around} {outer : List Env} {s : Shared} {H : Hp} {E : XK} (O : Mks P w K mg base D c)
    (T : Fun K "_law_take" "_law_take" sTake fT fdT) (bT : Binds K fdT ["_law_box_here", "_law_many"] []) (gT : mg "_law_take" = some (.ref fT))
    (GA : FnOk P w K mg base CX0 7 fA fdA ["one", "other"] (spParting c)) (gA : mg "parting" = some (.ref fA)) (kA : PySem.W.keepIn K (.ref fA) = true) (bA : Binds K fdA ["one", "other"] [])
    (GS : FnOk P w K mg base CX0 7 fS fdS ["one", "other", "found"] (spIsPart K c)) (gS : mg "is_parting" = some (.ref fS)) (kS : PySem.W.keepIn K (.ref fS) = true) (bS : Binds K fdS ["one", "other", "found"] []) (ml : mg "len" = none)
    (hr : Room 7 (A.deeper (envOfC "_law_right" (defScope sRi) s.heap.objs.size f cdv))) :
    ∃ t, PSs (cxOf CX0 P w K mg base nRi "_law_right" (defScope sRi) f cdv A outer s H E).nox ((defBody sRi).drop 7) t ∧
      ∀ (De : Ends) (x3 x5 x9 x10 x11 x13 x14 x15 : Option V) (g sm : Int) (b fl nl G a a2 : Addr) (fz f1 y0 : Str) (fr yr : List Str) (U : Md) (rs rs' : List Rg) (gs : List Int) (n : Nat) (H1 : Hp), BoxAt H1 b n → n ≤ 80000 → Nm H1 fl (fz :: f1 :: fr) → Nm H1 nl (y0 :: yr) →
        CoAt c H1 a (.btw fz sm g) → CoAt c H1 a2 U → CutOk sm g rs gs → rs'.Perm rs → rs'.length ≤ 3 → UnOk fz rs' U → H1 G = some (.lst (gs.map V.int)) → G ≠ b → -999 ≤ sm → sm ≤ g → g ≤ 999 →
        (∀ H', BoxAt H' b (n + 2) → But b H1 H' → De.rt (.bl true) H') →
        t De [some (.ref b), some (.ref fl), some (.ref nl), x3, some (.int g), x5, some (.ref G), some (.str fz), some (.ref a), x9, x10, x11, some (.ref a2), x13, x14, x15] H1 := by
  have GT : FnOk P w K mg base CX0 1 fT fdT ["_law_box_here", "_law_many"] spTake := ok_take T
  have hr1 := hr.mono (show 1 ≤ 7 by decide)
  have hr3 := hr.mono (show 2 + 1 ≤ 7 by decide)
  have hr4 := hr.mono (show 3 + 1 ≤ 7 by decide)
  have hr5 := hr.mono (show 5 ≤ 7 by decide)
  obtain ⟨fB, cda, cc, Dk, fdB, MB, FB, dB, GB⟩ := O.o.mbt
  obtain ⟨ds, b1, rd⟩ := btw_b1 FB dB
  obtain ⟨fN, MN, GN⟩ := O.nm
  obtain ⟨tl, pl, ql⟩ := ri_tail (P := P) (w := w) (K := K) (mg := mg) (base := base) (outer := outer) (H := H) (E := E) (cdv := cdv) (s := s) (f := f) GA gA kA bA GS gS kS bS ml hr
  refine ⟨_, pss_cons (ps_if (pt_cmpR op_eq (pe_call GT hr1 rfl gT T.kp bT .nil pass0 (pa_cons (pv 0) (pa_cons pe_int pa_nil))) pe_int (nomark _))
    (pss_cons (ps_set (i := 14) scRi.nd rfl (.inl rfl) (pe_ix (r := rIxL K) ix_list (pe_lst (pa_cons (pe_makeR (E := E0) MN GN hr4 rfl O.gnm pass0 (pa_cons (pe_ix (r := rIxL K) ix_list (pv 2) pe_int (fun _ _ => rfl)) pa_nil))
        (pa_cons (pe_make MB GB hr4 rfl O.o.gbt b1 rd pass0 (pa_cons (pe_ix (r := rIxL K) ix_list (pv 1) pe_int (fun _ _ => rfl)) pa_nil))
        (pa_cons (pe_un (un_own (sp := spInv c) hr4 pass0) (pe_makeR0 (E := E0) MN GN hr4 rfl O.gnm pass0)) pa_nil))))
        (pe_call GT hr1 rfl gT T.kp bT .nil pass0 (pa_cons (pv 0) (pa_cons pe_int pa_nil))) (fun _ _ => rfl)))
    (pss_one (ps_par (i := 8) (j := 12) (by rfl) scRi.nd rfl rfl (by decide) rfl rfl (pa_cons (pe_op (op_own (sp := spAnd c) .BitAnd hr5 pass0) (pv 8) (pv 14)) (pa_cons (pe_op (op_own (sp := spAnd c) .BitAnd hr5 pass0) (pv 14) (pv 12)) pa_nil)) (by rfl)))) pss_nil) pl, ?_⟩
  intro De x3 x5 x9 x10 x11 x13 x14 x15 g sm b fl nl G a a2 fz f1 y0 fr yr U rs rs' gs n H1 B hn F0 N0 ca ca2 cut pm l3 un eG nGb s1 s2 g2 q
  have nf := F0.nm fz List.mem_cons_self
  have nf1 := F0.nm f1 (List.mem_cons_of_mem _ List.mem_cons_self)
  have ny := N0.nm y0 List.mem_cons_self
  have uL := un.leaves
  have uD := un.depth
  have uN := un.names
  refine ⟨_, rfl, b, 2, n, rfl, B, by omega, by decide, by decide, fun r H2 r0 r1 B2 k2 => ⟨rfl, _, rfl, ite2 (fun _ => ?_) (fun _ => ?_)⟩⟩
  · have F2 := F0.but B k2
    have N2 := N0.but B k2
    have c2 := ca.sk (SK.of_but B k2)
    have c22 := ca2.sk (SK.of_but B k2)
    have eG2 := k2 _ _ nGb eG
    refine ⟨_, rfl, nl, _, ((0 : Nat) : Int), .str y0, rfl, rfl, .of N2.at_, atI_nat (j := 0) rfl, ?_⟩
    refine nam_made2 (C := c.nm) (zs := [y0]) (vs := [V.str y0]) rfl (by show 1 ≤ 8; decide) (fun z hz => by rw [List.mem_singleton.mp hz]; exact ny) (fun m1 t1 H3 na1 s3 => ?_)
    have cm1 : CoAt c H3 m1 (.nam [y0]) := ⟨t1, na1⟩
    refine ⟨_, rfl, fl, _, ((0 + 1 : Nat) : Int), .str f1, rfl, rfl, .of (s3 _ _ F2.at_), atI_nat (j := 1) rfl, ?_⟩
    refine btw_made2 nf1 (by decide) (by decide) (by decide) (fun m2 H4 cm2 s4 => ?_)
    refine nam_made2 (C := c.nm) (zs := []) (vs := []) rfl (by show 0 ≤ 8; decide) (fun z hz => nomatch hz) (fun m3 t3 H5 na3 s5 => ?_)
    have cm3 : CoAt c H5 m3 (.nam []) := ⟨t3, na3⟩
    obtain ⟨dx, fs, ha, _⟩ := cm3.get
    refine ⟨m3, _, dx, fs, rfl, ha, O.o.inv _, m3, _, rfl, cm3, (by decide), (by decide), (by decide), fun m4 H6 cm4 s6 => ?_⟩
    refine ⟨(by show 3 ≤ sizeLine; decide), fun p hp => ?_⟩
    have sp := Same.new (o := .lst [.ref m1, .ref m2, .ref m4]) hp
    have ep : (upd H6 p (.lst [.ref m1, .ref m2, .ref m4])) p = some (.lst [.ref m1, .ref m2, .ref m4]) := upd_same
    have s26 := ((s3.trans s4).trans s5).trans s6
    have npb := box_ne (B2.same s26) hp
    generalize upd H6 p (.lst [.ref m1, .ref m2, .ref m4]) = H7 at sp ep ⊢
    have s27 := s26.trans sp
    refine ⟨_, rfl, b, 3, _, rfl, B2.same s27, by omega, by decide, by decide, fun r5 H8 d0 d1 B8 k8 => ?_⟩
    obtain ⟨j, rfl, hj⟩ := draw_at (n := 3) d0 d1 rfl
    have sk8 := SK.of_but (B2.same s27) k8
    obtain ⟨mA, M, em, cM, oM⟩ : ∃ (mA : Addr) (M : Md), ([.ref m1, .ref m2, .ref m4] : List V)[j]? = some (.ref mA) ∧ CoAt c H8 mA M ∧ MoreOk fz M := by
      match j, hj with
      | 0, _ => exact ⟨m1, _, rfl, (cm1.same (((s4.trans s5).trans s6).trans sp)).sk sk8, more_nam ny⟩
      | 1, _ => exact ⟨m2, _, rfl, (cm2.same ((s5.trans s6).trans sp)).sk sk8, more_btw nf1⟩
      | 2, _ => exact ⟨m4, _, rfl, (cm4.same sp).sk sk8, more_neg⟩
    refine ⟨p, _, _, .ref mA, rfl, rfl, .of (k8 _ _ npb ep), atI_nat em, ?_⟩
    have c8 := (c2.same s27).sk sk8
    have c28 := (c22.same s27).sk sk8
    have mL := oM.leaves
    have mD := oM.depth
    have mN := oM.names
    obtain ⟨dx1, fs1, ha1, _⟩ := c8.get
    obtain ⟨dx2, fs2, ha2, _⟩ := cM.get
    refine ⟨_, rfl, _, rfl, a, mA, _, _, dx1, dx2, fs1, fs2, rfl, rfl, ha1, ha2, O.o.and_ _ _, a, mA, _, _, rfl, c8, cM, ⟨by show 1 + M.leaves ≤ 6; omega, by show max 1 M.depth + 1 ≤ 5; omega, by show 0 + M.names ≤ 8; omega⟩, fun rW H9 cW s9 => ⟨⟨rW, rfl⟩, ?_⟩⟩
    have cM9 := cM.same s9
    have c29 := c28.same s9
    obtain ⟨dx3, fs3, ha3, _⟩ := cM9.get
    obtain ⟨dx4, fs4, ha4, _⟩ := c29.get
    refine ⟨_, rfl, _, rfl, mA, a2, _, _, dx3, dx4, fs3, fs4, rfl, rfl, ha3, ha4, O.o.and_ _ _, mA, a2, _, _, rfl, cM9, c29, ⟨by omega, by omega, by omega⟩, fun rU H10 cU s10 => ⟨⟨rU, rfl⟩, _, _, rfl, ?_⟩⟩
    have k10 : But b H1 H10 := ((k2.trans (But.same s27)).trans k8).trans (But.same (s9.trans s10))
    refine ql De _ _ _ _ _ _ _ _ _ _ _ g G rW rU fz _ _ gs H10 (cW.same s10) cU ⟨⟨⟨nf, s1, s2, g2⟩, oM.good⟩, ?_, ?_, ?_⟩ ⟨⟨oM.good, un.good⟩, ?_, ?_, ?_⟩ (pair_more cut pm un s2 s1 g2 oM.some_) (k10 _ _ nGb eG) nf (by omega) g2 fun H' s' => q H' ((B8.same ((s9.trans s10).trans s')).mono (by omega)) (k10.trans (But.same s'))
    · show max 1 M.depth + 1 ≤ 5
      omega
    · show 1 + M.leaves ≤ 6
      omega
    · show 0 + M.names ≤ 8
      omega
    · show max M.depth U.depth + 1 ≤ 5
      omega
    · show M.leaves + U.leaves ≤ 6
      omega
    · show M.names + U.names ≤ 8
      omega
  · exact ql De _ _ _ _ _ _ _ _ _ _ _ g G a a2 fz _ U gs H2 (ca.sk (SK.of_but B k2)) (ca2.sk (SK.of_but B k2)) ⟨⟨nf, s1, s2, g2⟩, (by show 1 ≤ 5; decide), (by show 1 ≤ 6; decide), (by show 0 ≤ 8; decide)⟩ ⟨un.good, by omega, by omega, by omega⟩ (pair_plain cut pm un s2) (k2 _ _ nGb eG) nf (by omega) g2
      fun H' s' => q H' ((B2.same s').mono (by omega)) (k2.trans (But.same s'))
end
end G

set_option Elab.async false
set_option linter.all false
set_option maxRecDepth 100000
set_option maxHeartbeats 8000000
/-! RH: _law_right, whole. -/
namespace G
open PySem PySem.Spec PyProof.Rows L2 NdefX StX
theorem perm_map {α β : Type} {f : α → β} {ys xs : List β} (h : ys.Perm xs) : ∀ es : List α, xs = es.map f → ∃ es' : List α, es'.Perm es ∧ ys = es'.map f := by
  induction h with
  | nil =>
    intro es e
    cases es with
    | nil => exact ⟨[], .refl _, rfl⟩
    | cons a r => cases e
  | cons x h ih =>
    intro es e
    cases es with
    | nil => cases e
    | cons a r =>
      injection e with e1 e2
      obtain ⟨es', p, rfl⟩ := ih r e2
      exact ⟨a :: es', p.cons a, by rw [List.map_cons, e1]⟩
  | swap x y l =>
    intro es e
    match es, e with
    | a :: b :: r, e =>
      injection e with e1 e2
      injection e2 with e2 e3
      exact ⟨b :: a :: r, .swap a b r, by rw [List.map_cons, List.map_cons, e1, e2, e3]⟩
  | trans h1 h2 ih1 ih2 =>
    intro es e
    obtain ⟨es2, p2, e2⟩ := ih2 es e
    obtain ⟨es1, p1, e1⟩ := ih1 es2 e2
    exact ⟨es1, p1.trans p2, e1⟩
def spRi : Sp := fun vs H Q _ => ∃ (b fl nl : Addr) (n : Nat) (fz f1 y0 : Str) (fr yr : List Str), vs = [.ref b, .ref fl, .ref nl] ∧ BoxAt H b n ∧ n ≤ 50000 ∧ Nm H fl (fz :: f1 :: fr) ∧ Nm H nl (y0 :: yr) ∧ ∀ H', BoxAt H' b (n + 30) → But b H H' → Q (.bl true) H'
def PtsAt (c : Cs) (fz : Str) (H : Hp) (as : List Addr) (rs : List Rg) : Prop := Paired (fun a (r : Rg) => CoAt c H a (.btw fz r.1 r.2)) as rs
theorem PtsAt.sk {c : Cs} {fz : Str} {H H' : Hp} {as : List Addr} {rs : List Rg} (h : PtsAt c fz H as rs) (s : SK H H') : PtsAt c fz H' as rs := Paired.mono (fun _ _ e => e.sk s) h
theorem PtsAt.get {c : Cs} {fz : Str} {H : Hp} : ∀ {as : List Addr} {rs : List Rg} {j : Nat} {a : Addr}, PtsAt c fz H as rs → as[j]? = some a → ∃ r, rs[j]? = some r ∧ CoAt c H a (.btw fz r.1 r.2)
  | _, _, 0, _, .cons h _, e => by
    cases e
    exact ⟨_, rfl, h⟩
  | _, _, j + 1, _, .cons _ t, e => PtsAt.get (j := j) t e
theorem sk_lst {H : Hp} {l : Addr} {xs : List V} {o : HO} (e : H l = some (.lst xs)) : SK H (upd H l o) := fun p u ep z => by
  rw [upd_ne fun q => ?_]
  · exact ep
  · rw [q, e] at ep
    cases ep
    cases z
section
variable {P : Program} {w : World} {K : PySem.W.Frag} {mg : Str → Option Value} {base : Heap} {f fA fS fT fN fC fM D : Addr} {fd fdA fdS fdT fdN fdC fdM : FuncData} {c : Cs}
theorem ok_ri (F : Fun K "_law_right" "_law_right" sRi f fd) (O : Mks P w K mg base D c)
    (T : Fun K "_law_take" "_law_take" sTake fT fdT) (bT : Binds K fdT ["_law_box_here", "_law_many"] []) (gT : mg "_law_take" = some (.ref fT))
    (GN : FnOk P w K mg base CX0 2 fN fdN ["_law_box_here"] spNumber) (gN : mg "_law_number" = some (.ref fN)) (kN : PySem.W.keepIn K (.ref fN) = true) (bN : Binds K fdN ["_law_box_here"] [])
    (GC : FnOk P w K mg base CX0 2 fC fdC ["_law_box_here", "_law_small", "_law_great"] spCuts) (gC : mg "_law_cuts" = some (.ref fC)) (kC : PySem.W.keepIn K (.ref fC) = true) (bC : Binds K fdC ["_law_box_here", "_law_small", "_law_great"] [])
    (GM : FnOk P w K mg base CX0 2 fM fdM ["_law_box_here", "_law_some"] (spMixR K)) (gM : mg "_law_mixed" = some (.ref fM)) (kM : PySem.W.keepIn K (.ref fM) = true) (bM : Binds K fdM ["_law_box_here", "_law_some"] [])
    (GA : FnOk P w K mg base CX0 7 fA fdA ["one", "other"] (spParting c)) (gA : mg "parting" = some (.ref fA)) (kA : PySem.W.keepIn K (.ref fA) = true) (bA : Binds K fdA ["one", "other"] [])
    (GS : FnOk P w K mg base CX0 7 fS fdS ["one", "other", "found"] (spIsPart K c)) (gS : mg "is_parting" = some (.ref fS)) (kS : PySem.W.keepIn K (.ref fS) = true) (bS : Binds K fdS ["one", "other", "found"] []) (ml : mg "len" = none) (mmn : mg "min" = none) (mmx : mg "max" = none) :
    FnOk P w K mg base CX0 8 f fd ["_law_box_here", "_law_fields", "_law_names_here"] spRi := by
  have GT : FnOk P w K mg base CX0 1 fT fdT ["_law_box_here", "_law_many"] spTake := ok_take T
  refine F.ok scRi (fun vs H Q E h => ?_) (fun cdv A outer s H vs Q E hr h => ?_)
  · obtain ⟨b, fl, nl, n, fz, f1, y0, fr, yr, rfl, _⟩ := h
    rfl
  · obtain ⟨b, fl, nl, n, fz, f1, y0, fr, yr, rfl, B, hn, F0, N0, q⟩ := h
    have hr1 := hr.mono (show 1 ≤ 7 by decide)
    have hr2 := hr.mono (show 2 ≤ 7 by decide)
    have hr4 := hr.mono (show 3 + 1 ≤ 7 by decide)
    have hr5 := hr.mono (show 5 ≤ 7 by decide)
    obtain ⟨fB, cda, cc, Dk, fdB, MB, FB, dB, GB⟩ := O.o.mbt
    have b4 := btw_b4 FB
    have b5 := btw_b5 FB
    obtain ⟨tl, pl, ql⟩ := ri_more (P := P) (w := w) (K := K) (mg := mg) (base := base) (outer := outer) (H := H) (E := E) (cdv := cdv) (s := s) (f := f) O T bT gT GA gA kA bA GS gS kS bS ml hr
    refine ⟨_, pss_cons (ps_par (i := 3) (j := 4) (by rfl) scRi.nd rfl rfl (by decide) rfl rfl (pa_cons (pe_call GN hr2 rfl gN kN bN .nil pass0 (pa_cons (pv 0) pa_nil)) (pa_cons (pe_call GN hr2 rfl gN kN bN .nil pass0 (pa_cons (pv 0) pa_nil)) pa_nil)) (by rfl))
      (pss_cons (ps_par (i := 3) (j := 4) (by rfl) scRi.nd rfl rfl (by decide) rfl rfl (pa_cons (pe_callB (call_min2 rfl) (by rfl) mmn (by decide +kernel) (pa_cons (pv 3) (pa_cons (pv 4) pa_nil))) (pa_cons (pe_callB (call_max2 rfl) (by rfl) mmx (by decide +kernel) (pa_cons (pv 3) (pa_cons (pv 4) pa_nil))) pa_nil)) (by rfl))
      (pss_cons (ps_asg (pe_call GC hr2 rfl gC kC bC .nil pass0 (pa_cons (pv 0) (pa_cons (pv 3) (pa_cons (pv 4) pa_nil)))) (pg_tup (by rfl) (pgs_cons (pg_name (i := 5) scRi.nd rfl (.inl rfl)) (pgs_cons (pg_name (i := 6) scRi.nd rfl (.inl rfl)) pgs_nil))))
      (pss_cons (ps_par3 (i := 7) (j := 8) (l := 9) (by rfl) scRi.nd rfl rfl rfl (by decide) (by decide) (by decide) rfl rfl rfl (pa_cons (pe_ix (r := rIxL K) ix_list (pv 1) pe_int (fun _ _ => rfl))
          (pa_cons (pe_makeK (n := 1) MB GB hr4 rfl O.o.gbt b5 pass0 (pa_cons (pe_ix (r := rIxL K) ix_list (pv 1) pe_int (fun _ _ => rfl)) pa_nil) (pk_cons (pv 3) (pk_cons (pv 4) pk_nil))) (pa_cons (pe_lst pa_nil) pa_nil))) (by rfl))
      (pss_cons (ps_for PassesOwn.never rfl (pi_list (pe_call GM hr2 rfl gM kM bM .nil pass0 (pa_cons (pv 0) (pa_cons (pv 5) pa_nil)))) (pg_tup (by rfl) (pgs_cons (pg_name (i := 10) scRi.nd rfl (.inl rfl)) (pgs_cons (pg_name (i := 11) scRi.nd rfl (.inl rfl)) pgs_nil)))
        (pss_one (ps_expr (pe_bm PySem.F.plainAttrs_list PySem.F.slot_list_append PySem.F.type_list_append mt_append (pv 9) (pa_cons (pe_makeK (n := 1) MB GB hr4 rfl O.o.gbt b4 pass0 (pa_cons (pv 7) pa_nil) (pk_cons (pv 11) (pk_cons (pv 10) pk_nil))) pa_nil)))))
      (pss_cons (ps_set (i := 12) scRi.nd rfl (.inl rfl) (pe_ix (r := rIxL K) ix_list (pv 9) pe_int (fun _ _ => rfl)))
      (pss_cons (ps_for PassesOwn.never rfl (pi_list (pe_slice (r := rSlL K) sl_list (pv 9) (po_some pe_int) po_none)) (pg_name (i := 13) scRi.nd rfl (.inl rfl))
        (pss_one (ps_set (i := 12) scRi.nd rfl (.inl rfl) (pe_ifExp (pt_cmpR op_eq (pe_call GT hr1 rfl gT T.kp bT .nil pass0 (pa_cons (pv 0) (pa_cons pe_int pa_nil))) pe_int (nomark _)) (pe_op (op_own (sp := spOr c) .BitOr hr5 pass0) (pv 12) (pv 13)) (pe_op (op_own (sp := spOr c) .BitOr hr5 pass0) (pv 13) (pv 12))))))
      pl)))))), ?_⟩
    have nf := F0.nm fz List.mem_cons_self
    refine ⟨_, rfl, b, n, rfl, B, by omega, fun i1 H1 a1 a2 B1 k1 => ⟨_, rfl, b, _, rfl, B1, by omega, fun i2 H2 a3 a4 B2 k2 => ⟨_, _, rfl, ?_⟩⟩⟩
    have k12 := k1.trans k2
    refine ⟨_, rfl, _, rfl, _, _, rfl, _, rfl, _, rfl, _, _, rfl, _, _, rfl, ?_⟩
    obtain ⟨sm, esm, sm1⟩ : ∃ sm, (if i2 < i1 then i2 else i1) = sm ∧ (sm = i1 ∨ sm = i2) ∧ sm ≤ i1 ∧ sm ≤ i2 := by
      refine ⟨_, rfl, ?_, ?_, ?_⟩ <;> split <;> omega
    obtain ⟨g, eg, gg1⟩ : ∃ g, (if i2 > i1 then i2 else i1) = g ∧ (g = i1 ∨ g = i2) ∧ i1 ≤ g ∧ i2 ≤ g := by
      refine ⟨_, rfl, ?_, ?_, ?_⟩ <;> split <;> omega
    rw [esm, eg]
    refine ⟨_, rfl, _, rfl, _, rfl, b, sm, g, _, rfl, B2, by omega, by omega, by omega, by omega, fun Tt R G es gs H3 eT eR et eG fR fG cut l1 l3 B3 k3 => ?_⟩
    refine ⟨Tt, _, rfl, .of eT, rfl, _, _, rfl, _, _, rfl, rfl, ?_⟩
    have k13 := k12.trans k3
    have F3 := F0.but B k13
    have nGb := box_ne B2 fG
    have nRb := box_ne B2 fR
    refine ⟨_, rfl, fl, _, ((0 : Nat) : Int), .str fz, rfl, rfl, .of F3.at_, atI_nat (j := 0) rfl, _, rfl, fl, _, ((0 : Nat) : Int), .str fz, rfl, rfl, .of F3.at_, atI_nat (j := 0) rfl, _, rfl, _, rfl, rfl, rfl, ?_⟩
    refine btw_made2 nf (lo := sm) (hi := g) (by omega) (by omega) (by omega) (fun aW H4 cW s4 => ?_)
    refine ⟨Nat.zero_le _, fun Pl hP => ⟨_, _, _, rfl, ?_⟩⟩
    have sP := Same.new (o := .lst []) hP
    have eP : (upd H4 Pl (.lst [])) Pl = some (.lst []) := upd_same
    have nPb := box_ne (B3.same s4) hP
    generalize upd H4 Pl (.lst []) = H5 at sP eP ⊢
    have s35 := s4.trans sP
    have B5 := B3.same s35
    have eR5 := s35 _ _ eR
    refine ⟨_, rfl, _, rfl, b, R, _, _, rfl, B5, by rw [List.length_map]; omega, .of eR5, fun Lm H6 ys pm hL eL B6 k6 => ⟨Lm, rfl, ⟨_, .of eL⟩, ?_⟩⟩
    obtain ⟨es', pe, rfl⟩ := perm_map pm es rfl
    rw [List.length_map] at B6
    have le' := pe.length_eq
    have nLP : Lm ≠ Pl := (ne_of_none eP hL).symm
    have et6 : RngAt H6 es' := fun e he => SK.of_but B5 k6 _ _ ((et.same s35) e (pe.mem_iff.mp he)) rfl
    have eP6 := k6 _ _ nPb eP
    have cW6 := (cW.same sP).sk (SK.of_but B5 k6)
    have k16 : But b H H6 := ((k13.trans (But.same s35))).trans k6
    have eG6 := k6 _ _ nGb (s35 _ _ eG)
    have bnd : ∀ e ∈ es', sm ≤ e.2.1 ∧ e.2.1 ≤ e.2.2 ∧ e.2.2 ≤ g := fun e he => cut.inn e.2 (List.mem_map.mpr ⟨e, pe.mem_iff.mp he, rfl⟩)
    refine for_list (xs := es'.map fun e => V.ref e.1) (fun j σ H7 => But Pl H6 H7 ∧ (∃ as : List Addr, H7 Pl = some (.lst (as.map V.ref)) ∧ as.length ≤ j ∧ PtsAt c fz H7 as ((rgs es').take j)) ∧
      ∃ x10 x11 : Option V, σ = [some (.ref b), some (.ref fl), some (.ref nl), some (.int sm), some (.int g), some (.ref R), some (.ref G), some (.str fz), some (.ref aW), some (.ref Pl), x10, x11, none, none, none, none]) ?_ ?_ ?_ ?_
    · exact ⟨But.refl _ _, ⟨[], eP6, Nat.le_refl _, .nil⟩, _, _, rfl⟩
    · rintro j σ H7 _ ⟨k7, _⟩
      exact .of (k7 _ _ nLP eL)
    · rintro j x σ H7 hx ⟨k7, ⟨as, eP7, la, pt⟩, y10, y11, rfl⟩
      rw [List.getElem?_map] at hx
      obtain ⟨e, hje, rfl⟩ := Option.map_eq_some_iff.mp hx
      have hem := List.mem_of_getElem? hje
      obtain ⟨n1, n2, n3⟩ := bnd e hem
      have j3 : j < 3 := by
        have := (List.getElem?_eq_some_iff.mp hje).1
        omega
      have ee := et6 e hem
      have neP : e.1 ≠ Pl := fun z => by
        rw [z, eP6] at ee
        cases ee
      refine ⟨e.1, _, rfl, .of (k7 _ _ neP ee), rfl, _, _, rfl, _, _, rfl, rfl, ?_⟩
      refine ⟨_, rfl, .inl ⟨rfl, _, .of eP7⟩, _, rfl, _, rfl, _, rfl, rfl, rfl, ?_⟩
      refine btw_made2 nf (lo := e.2.1) (hi := e.2.2) (by omega) (by omega) (by omega) (fun m H8 cm s8 => ?_)
      have eP8 := s8 _ _ eP7
      refine ⟨Pl, _, _, rfl, rfl, eP8, small1000 (by rw [List.length_map]; omega), ?_, ⟨as ++ [m], ?_, ?_, ?_⟩, _, _, rfl⟩
      · exact (k7.trans (But.same s8)).trans But.upd
      · rw [upd_same, List.map_append]
        rfl
      · rw [List.length_append]
        exact Nat.succ_le_succ la
      · have sk := sk_lst (o := .lst (as.map V.ref ++ [.ref m])) eP8
        rw [show (rgs es').take (j + 1) = (rgs es').take j ++ [e.2] from take_snocK (by rw [List.getElem?_map, hje]; rfl)]
        exact Paired.snoc ((pt.sk (SK.of_same s8)).sk sk) (cm.sk sk)
    · rintro σ H7 ⟨k7, ⟨as, eP7, la, pt⟩, y10, y11, rfl⟩
      have B7 : BoxAt H7 b (n + 3 + 3 + 5 + es.length) := B6.keep fun o e => k7 _ _ nPb.symm e
      rw [List.length_map] at la pt
      rw [show (rgs es').take es'.length = rgs es' from List.take_of_length_le (by rw [List.length_map]; exact Nat.le_refl _)] at pt
      have sk7 : SK H6 H7 := fun p o e z => k7 p o (fun q => by
        rw [q, eP6] at e
        rw [← Option.some.inj e] at z
        cases z) e
      have nGP : G ≠ Pl := ne_of_none (s4 _ _ eG) hP
      have eG7 := k7 _ _ nGP eG6
      have cW7 := cW6.sk sk7
      have kk7 : But b H H7 := fun p o n e => k7 p o (ne_of_none (s4 _ _ (k13 _ _ n e)) hP) (k16 p o n e)
      obtain ⟨a0, ar, r0, rr, rfl, er⟩ : ∃ a0 ar r0 rr, as = a0 :: ar ∧ rgs es' = r0 :: rr := by
        have h1 := pt.length
        have h2 : (rgs es').length = es'.length := List.length_map ..
        cases as with
        | nil =>
          have : (rgs es').length = 0 := h1.symm
          omega
        | cons a0 ar =>
          cases h3 : rgs es' with
          | nil =>
            rw [h3] at h2
            have : (0 : Nat) = es'.length := h2
            omega
          | cons r0 rr => exact ⟨a0, ar, r0, rr, rfl, rfl⟩
      have lr : (r0 :: rr).length ≤ 3 := by
        rw [← er, List.length_map]
        omega
      have bnd2 : ∀ r ∈ r0 :: rr, sm ≤ r.1 ∧ r.1 ≤ r.2 ∧ r.2 ≤ g := fun r hr' => by
        rw [← er] at hr'
        obtain ⟨e, he, rfl⟩ := List.mem_map.mp hr'
        exact bnd e he
      rw [er] at pt
      obtain ⟨b0, b1, b2⟩ := bnd2 r0 List.mem_cons_self
      have c0 : CoAt c H7 a0 (.btw fz r0.1 r0.2) := by
        cases pt with
        | cons h _ => exact h
      refine ⟨_, rfl, Pl, _, ((0 : Nat) : Int), .ref a0, rfl, rfl, .of eP7, atI_nat (j := 0) rfl, ?_⟩
      refine ⟨_, rfl, _, rfl, Pl, _, rfl, .of eP7, fun p hp => ?_⟩
      rw [show cutV ((a0 :: ar).map V.ref) (some 1) none = ar.map V.ref from cut_tail _ _]
      have sp := Same.new (o := .lst (ar.map V.ref)) hp
      have ep : (upd H7 p (.lst (ar.map V.ref))) p = some (.lst (ar.map V.ref)) := upd_same
      have npb := box_ne B7 hp
      generalize upd H7 p (.lst (ar.map V.ref)) = H8 at sp ep ⊢
      have B8 := B7.same sp
      have pt8 := pt.sk (SK.of_same sp)
      refine ⟨p, rfl, ⟨_, .of ep⟩, ?_⟩
      have lar : ar.length = rr.length := by
        have h1 := pt.length
        rw [List.length_cons, List.length_cons] at h1
        omega
      rw [List.length_cons] at lr
      refine for_list (xs := ar.map V.ref) (fun j σ H9 => But b H8 H9 ∧ BoxAt H9 b (n + 3 + 3 + 5 + es.length + j) ∧ (∃ (aU : Addr) (U : Md), CoAt c H9 aU U ∧ UnOk fz (r0 :: rr.take j) U ∧
        ∃ x13 : Option V, σ = [some (.ref b), some (.ref fl), some (.ref nl), some (.int sm), some (.int g), some (.ref R), some (.ref G), some (.str fz), some (.ref aW), some (.ref Pl), y10, y11, some (.ref aU), x13, none, none])) ?_ ?_ ?_ ?_
      · exact ⟨But.refl _ _, B8, a0, _, c0.same sp, UnOk.one nf (by omega) b1 (by omega), _, rfl⟩
      · rintro j σ H9 _ ⟨k9, _⟩
        exact .of (k9 _ _ npb ep)
      · rintro j x σ H9 hx ⟨k9, B9, aU, U, cU, un, x13, rfl⟩
        rw [List.getElem?_map] at hx
        obtain ⟨aj, hja, rfl⟩ := Option.map_eq_some_iff.mp hx
        obtain ⟨rj, hrj, cj⟩ := pt8.get (j := j + 1) hja
        have hrj' : rr[j]? = some rj := hrj
        obtain ⟨n1, n2, n3⟩ := bnd2 rj (List.mem_cons_of_mem _ (List.mem_of_getElem? hrj'))
        have jlt : j < rr.length := (List.getElem?_eq_some_iff.mp hrj').1
        have cj9 := cj.sk (SK.of_but B8 k9)
        obtain ⟨un1, un2⟩ := un.add (r := rj) nf (by omega) n2 (by omega) (by show 1 ≤ (rr.take j).length + 1; omega)
        rw [show (r0 :: rr.take j) ++ [rj] = r0 :: rr.take (j + 1) from by rw [take_snocK hrj']; rfl] at un1 un2
        have uL := un.leaves
        have uD := un.depth
        have uN := un.names
        have tl3 : (r0 :: rr.take j).length ≤ 2 := by
          rw [List.length_cons, List.length_take]
          omega
        refine ⟨_, rfl, b, 2, _, rfl, B9, by omega, by decide, by decide, fun r5 H10 d0 d1 B10 k10 => ⟨rfl, _, rfl, ?_⟩⟩
        have cU10 := cU.sk (SK.of_but B9 k10)
        have cj10 := cj9.sk (SK.of_but B9 k10)
        obtain ⟨dx, fs, ha, _⟩ := cU10.get
        obtain ⟨dy, gs', hb, _⟩ := cj10.get
        refine ite2 (fun _ => ?_) (fun _ => ?_)
        · exact ⟨_, rfl, _, rfl, aU, aj, _, _, dx, dy, fs, gs', rfl, rfl, ha, hb, O.o.or_ _ _, aU, aj, _, _, rfl, cU10, cj10, ⟨by show U.leaves + 1 ≤ 6; omega, by show max U.depth 1 + 1 ≤ 5; omega, by show U.names + 0 ≤ 8; omega⟩, fun r H' h s => ⟨⟨r, rfl⟩,
            (k9.trans k10).trans (But.same s), (B10.same s).mono (by omega), r, _, h, un1, _, rfl⟩⟩
        · exact ⟨_, rfl, _, rfl, aj, aU, _, _, dy, dx, gs', fs, rfl, rfl, hb, ha, O.o.or_ _ _, aj, aU, _, _, rfl, cj10, cU10, ⟨by show 1 + U.leaves ≤ 6; omega, by show max 1 U.depth + 1 ≤ 5; omega, by show 0 + U.names ≤ 8; omega⟩, fun r H' h s => ⟨⟨r, rfl⟩,
            (k9.trans k10).trans (But.same s), (B10.same s).mono (by omega), r, _, h, un2, _, rfl⟩⟩
      · rintro σ H9 ⟨k9, B9, aU, U, cU, un, x13, rfl⟩
        rw [List.length_map, lar, List.take_length] at un
        rw [List.length_map] at B9
        have k19 : But b H H9 := (kk7.trans (But.same sp)).trans k9
        refine ql _ _ _ _ _ _ _ _ _ g sm b fl nl G aW aU fz f1 y0 fr yr U (rgs es) (r0 :: rr) gs _ H9 B9 (by omega) (F0.but B k19) (N0.but B k19) ((cW7.same sp).sk (SK.of_but B8 k9)) cU cut (by rw [← er]; exact pe.map _) (by rw [List.length_cons]; omega) un (k9 _ _ nGb (sp _ _ eG7)) nGb (by omega) (by omega) (by omega) fun H' B' k' => q H' (B'.mono (by omega)) (k19.trans k')
end
end G

set_option Elab.async false
set_option linter.all false
set_option maxRecDepth 100000
set_option maxHeartbeats 4000000
/-! AR: _law_all_right. -/
namespace G
open PySem PySem.Spec PyProof.Rows L2 NdefX StX
theorem scAr : FnScope ["_law_box_here", "_law_fields", "_law_one", "_law_found", "_law_twice"] ["_law_box_here", "_law_fields"] (defScope sAr) := ⟨rfl, rfl, rfl, by decide +kernel, rfl, by decide +kernel, by decide +kernel⟩
/-- two conditions of few leaves between which a record stands are parted -/
theorem not_none {W U : Md} (w : MdOk W) (u : MdOk U) {y : Str} {kv : Kvs} (l6 : kv.length ≤ 6) (ne : W.holds y kv ≠ U.holds y kv) (no : ∀ y kv, V.str y ∈ candK W U → kv ∈ candV W U → W.holds y kv = U.holds y kv) : False := by
  have := w.six
  have := w.names
  have := u.six
  have := u.names
  exact ne (cand_complete w.good u.good (by omega) (by omega) no y kv l6)
theorem all_has {zs : List Str} {kv : Kvs} {fz y : Str} (vo : ValOk zs kv) (h : (Md.btw fz (-999) 999).holds y kv = false) : (valV kv (Sum.inr fz : Key)).isSome = false := by
  cases e : valV kv (Sum.inr fz : Key) with
  | none => rfl
  | some v =>
    exfalso
    unfold valV at e
    obtain ⟨p, hp, rfl⟩ := Option.map_eq_some_iff.mp e
    have hm := List.mem_of_find?_eq_some hp
    have hf := List.find?_some hp
    have hk : p.1 = (Sum.inr fz : Key) := of_decide_eq_true hf
    obtain ⟨z, i, e1, _, i1, i2⟩ := vo.is p hm
    have e2 : valV kv (Sum.inr fz : Key) = some (.int i) := by
      unfold valV
      rw [hp, e1]
      rfl
    have h : btwHolds fz (-999) 999 kv = false := h
    rw [btw_int (r := ((-999 : Int), (999 : Int))) e2, inRg_iff.mpr ⟨i1, i2⟩] at h
    cases h
def spAr : Sp := fun vs H Q _ => ∃ (b fl : Addr) (n : Nat) (fz : Str) (fr : List Str), vs = [.ref b, .ref fl] ∧ BoxAt H b n ∧ n ≤ 80000 ∧ Nm H fl (fz :: fr) ∧ ∀ H', BoxAt H' b (n + 3) → But b H H' → Q (.bl true) H'
section
variable {P : Program} {w : World} {K : PySem.W.Frag} {mg : Str → Option Value} {base : Heap} {f fA fN D : Addr} {fd fdA fdN : FuncData} {c : Cs}
theorem ok_ar (F : Fun K "_law_all_right" "_law_all_right" sAr f fd) (O : Mks P w K mg base D c)
    (GN : FnOk P w K mg base CX0 2 fN fdN ["_law_box_here"] spNumber) (gN : mg "_law_number" = some (.ref fN)) (kN : PySem.W.keepIn K (.ref fN) = true) (bN : Binds K fdN ["_law_box_here"] [])
    (GA : FnOk P w K mg base CX0 7 fA fdA ["one", "other"] (spParting c)) (gA : mg "parting" = some (.ref fA)) (kA : PySem.W.keepIn K (.ref fA) = true) (bA : Binds K fdA ["one", "other"] []) (ml : mg "len" = none) :
    FnOk P w K mg base CX0 8 f fd ["_law_box_here", "_law_fields"] spAr := by
  refine F.ok scAr (fun vs H Q E h => ?_) (fun cdv A outer s H vs Q E hr h => ?_)
  · obtain ⟨b, fl, n, fz, fr, rfl, _⟩ := h
    rfl
  · obtain ⟨b, fl, n, fz, fr, rfl, B, hn, F0, q⟩ := h
    have hu := hu_of hr
    have hr2 := hr.mono (show 2 ≤ 7 by decide)
    have hr4 := hr.mono (show 3 + 1 ≤ 7 by decide)
    have hr5 := hr.mono (show 5 ≤ 7 by decide)
    obtain ⟨fB, cda, cc, Dk, fdB, MB, FB, dB, GB⟩ := O.o.mbt
    obtain ⟨ds, b1, rd⟩ := btw_b1 FB dB
    obtain ⟨t2, b2⟩ := btw_b2 FB dB
    obtain ⟨fM, MN, GM⟩ := O.nm
    refine ⟨_, pss_cons (ps_set (i := 2) scAr.nd rfl (.inl rfl) (pe_make MB GB hr4 rfl O.o.gbt b1 rd pass0 (pa_cons (pe_ix (r := rIxL K) ix_list (pv 1) pe_int (fun _ _ => rfl)) pa_nil)))
      (pss_cons (ps_set (i := 3) scAr.nd rfl (.inl rfl) (pe_call GA hr rfl gA kA bA .nil pass0 (pa_cons (pv 2) (pa_cons (pe_un (un_own (sp := spInv c) hr4 pass0) (pe_makeR0 (E := E0) MN GM hr4 rfl O.gnm pass0)) pa_nil))))
      (pss_cons (ps_if (PW.pt (pw_or (pt_cmpR op_isN (pv 3) pe_non (nomark _)) (pw_or (pt_cmp (pc_din hu (pe_ix (r := rIxL K) ix_list (pv 1) pe_int (fun _ _ => rfl)) (pe_ix ix_tup (pv 3) pe_int (fun _ _ => rfl))))
          (pw_or1 (pt_not (pt_chain op_le op_le pe_int (pe_callB call_lenD (by rfl) ml PySem.boot_len (pa_cons (pe_ix ix_tup (pv 3) pe_int (fun _ _ => rfl)) pa_nil)) pe_int)))))) (pss_one (ps_ret pe_bl)) pss_nil)
      (pss_cons (ps_set (i := 4) scAr.nd rfl (.inl rfl) (pe_op (op_own (sp := spOr c) .BitOr hr5 pass0) (pe_makeK (n := 1) MB GB hr4 rfl O.o.gbt b2 pass0 (pa_cons (pe_ix (r := rIxL K) ix_list (pv 1) pe_int (fun _ _ => rfl)) pa_nil) (pk_cons (pe_call GN hr2 rfl gN kN bN .nil pass0 (pa_cons (pv 0) pa_nil)) pk_nil))
          (pe_make MB GB hr4 rfl O.o.gbt b1 rd pass0 (pa_cons (pe_ix (r := rIxL K) ix_list (pv 1) pe_int (fun _ _ => rfl)) pa_nil))))
      (pss_cons (ps_if (PW.pt (pw_or (pt_cmpR op_notN (pe_call GA hr rfl gA kA bA .nil pass0 (pa_cons (pv 2) (pa_cons (pv 4) pa_nil))) pe_non (nomark _))
          (pw_or1 (pt_cmpR op_isN (pe_call GA hr rfl gA kA bA .nil pass0 (pa_cons (pe_makeR0 (E := E0) MN GM hr4 rfl O.gnm pass0) (pa_cons (pe_un (un_own (sp := spInv c) hr4 pass0) (pe_makeR0 (E := E0) MN GM hr4 rfl O.gnm pass0)) pa_nil))) pe_non (nomark _))))) (pss_one (ps_ret pe_bl)) pss_nil)
      (pss_one (ps_ret (pe_cmpR op_isN (pe_call GA hr rfl gA kA bA .nil pass0 (pa_cons (pe_op (op_own (sp := spAnd c) .BitAnd hr5 pass0) (pv 2) (pe_un (un_own (sp := spInv c) hr4 pass0) (pv 2))) (pa_cons (pe_makeR0 (E := E0) MN GM hr4 rfl O.gnm pass0) pa_nil))) pe_non (nomark _)))))))), ?_⟩
    have nf := F0.nm fz List.mem_cons_self
    have okW : MdOk (.btw fz (-999) 999) := ⟨⟨nf, by decide, by decide, by decide⟩, (by show 1 ≤ 5; decide), (by show 1 ≤ 6; decide), (by show 0 ≤ 8; decide)⟩
    have okN : MdOk (.nam []) := ⟨(fun z h => nomatch h), (by decide), (by decide), (by decide)⟩
    have okG : MdOk (.neg (.nam [])) := ⟨(fun z h => nomatch h), (by decide), (by decide), (by decide)⟩
    refine ⟨_, rfl, fl, _, ((0 : Nat) : Int), .str fz, rfl, rfl, .of F0.at_, atI_nat (j := 0) rfl, ?_⟩
    refine btw_made2 nf (lo := -999) (hi := 999) (by decide) (by decide) (by decide) (fun a H1 ca s1 => ?_)
    refine ⟨_, rfl, ?_⟩
    refine nam_made2 (C := c.nm) (zs := []) (vs := []) rfl (by show 0 ≤ 8; decide) (fun z hz => nomatch hz) (fun m1 t1 H2 na1 s2 => ?_)
    have cm1 : CoAt c H2 m1 (.nam []) := ⟨t1, na1⟩
    obtain ⟨dx, fs, ha, _⟩ := cm1.get
    refine ⟨m1, _, dx, fs, rfl, ha, O.o.inv _, m1, _, rfl, cm1, (by decide), (by decide), (by decide), fun m2 H3 cm2 s3 => ?_⟩
    have s13 := s2.trans s3
    refine ⟨a, m2, _, _, rfl, ca.same s13, cm2, okW, okG, fun H4 s4 no => ?_, fun T d y kv zs H4 hT s4 eT ed ny vo nd df => ?_⟩
    · exact (not_none okW okG (y := "a") (kv := []) (Nat.zero_le _) (fun e => nomatch (show false = true from e)) no).elim
    have e2 : (Md.neg (.nam [])).holds y kv = true := rfl
    have e1 : (Md.btw fz (-999) 999).holds y kv = false := by
      cases q : (Md.btw fz (-999) 999).holds y kv with
      | false => rfl
      | true => exact absurd (q.trans e2.symm) df
    have has := all_has vo e1
    have s14 := s1.trans (s13.trans s4)
    have F4 := F0.same s14
    have c4 := ca.same (s13.trans s4)
    have p1 := vo.pos
    have p6 := vo.six
    refine ⟨_, rfl, rfl, _, rfl, ite2 (fun e => absurd (of_decide_eq_true e) (fun z => nomatch z)) (fun _ => ?_)⟩
    refine ⟨_, rfl, fl, _, ((0 : Nat) : Int), .str fz, rfl, rfl, .of F4.at_, atI_nat (j := 0) rfl, _, rfl, T, _, ((1 : Nat) : Int), .ref d, rfl, rfl, .of eT, atI_nat (j := 1) rfl, d, _, rfl, DGet.k (k := Sum.inr fz) ed, _, rfl, ?_⟩
    refine ifN has ?_
    refine ⟨_, rfl, T, _, ((1 : Nat) : Int), .ref d, rfl, rfl, .of eT, atI_nat (j := 1) rfl, d, kv, rfl, ed, _, _, rfl, rfl, _, rfl, ?_⟩
    refine ifY (decide_eq_true (show (1 : Int) ≤ (kv.length : Int) by omega)) ⟨_, _, rfl, rfl, _, rfl, ?_⟩
    refine ifN (by rw [decide_eq_true (show (kv.length : Int) ≤ 6 by omega)]; rfl) ?_
    have B4 := B.same s14
    refine ⟨_, rfl, fl, _, ((0 : Nat) : Int), .str fz, rfl, rfl, .of F4.at_, atI_nat (j := 0) rfl, _, rfl, b, _, rfl, B4, by omega, fun i H5 i1 i2 B5 k5 => ⟨rfl, rfl, ?_⟩⟩
    have F5 := F4.but B4 k5
    have c5 := c4.sk (SK.of_but B4 k5)
    refine btw_made2 nf (lo := i) (hi := 999) i1 i2 (by decide) (fun a5 H6 c6 s6 => ?_)
    have F6 := F5.same s6
    refine ⟨_, rfl, fl, _, ((0 : Nat) : Int), .str fz, rfl, rfl, .of F6.at_, atI_nat (j := 0) rfl, ?_⟩
    refine btw_made2 nf (lo := -999) (hi := 999) (by decide) (by decide) (by decide) (fun a6 H7 c7 s7 => ?_)
    have c67 := c6.same s7
    obtain ⟨dx1, fs1, ha1, _⟩ := c67.get
    obtain ⟨dx2, fs2, ha2, _⟩ := c7.get
    refine ⟨a5, a6, _, _, dx1, dx2, fs1, fs2, rfl, rfl, ha1, ha2, O.o.or_ _ _, a5, a6, _, _, rfl, c67, c7, ⟨(by show 1 + 1 ≤ 6; decide), (by show max 1 1 + 1 ≤ 5; decide), (by show 0 + 0 ≤ 8; decide)⟩, fun r H8 c8 s8 => ⟨⟨r, rfl⟩, ?_⟩⟩
    have okE : MdOk (.eith (.btw fz i 999) (.btw fz (-999) 999)) := ⟨⟨⟨nf, i1, i2, by decide⟩, nf, by decide, by decide, by decide⟩, (by show 2 ≤ 5; decide), (by show 2 ≤ 6; decide), (by show 0 ≤ 8; decide)⟩
    have c58 := c5.same ((s6.trans s7).trans s8)
    refine ⟨_, rfl, _, rfl, a, r, _, _, rfl, c58, c8, okW, okE, fun H9 s9 _ => ?_, fun T d y kv zs H9 hT s9 eT ed ny vo nd df => ?_⟩
    rotate_left
    · refine absurd ?_ df
      have h : ∀ y kv, (Md.eith (.btw fz i 999) (.btw fz (-999) 999)).holds y kv = (btwHolds fz i 999 kv || btwHolds fz (-999) 999 kv) := fun _ _ => rfl
      have h1 : (Md.btw fz (-999) 999).holds y kv = btwHolds fz (-999) 999 kv := rfl
      rw [h, h1]
      cases e : btwHolds fz i 999 kv with
      | false => rfl
      | true =>
        by_cases ex : ∃ j, valV kv (Sum.inr fz : Key) = some (.int j)
        · obtain ⟨j, ej⟩ := ex
          rw [btw_int (r := (i, (999 : Int))) ej] at e
          obtain ⟨j1, j2⟩ := inRg_iff.mp e
          have j1 : i ≤ j := j1
          have e3 : inRg ((-999 : Int), (999 : Int)) j = true := inRg_iff.mpr ⟨Int.le_trans i1 j1, j2⟩
          rw [btw_int (r := ((-999 : Int), (999 : Int))) ej, e3]
          rfl
        · rw [btw_not (r := (i, (999 : Int))) (fun j q => ex ⟨j, q⟩)] at e
          cases e
    refine ⟨rfl, _, rfl, ite2 (fun e => absurd e (by decide)) (fun _ => ?_)⟩
    refine nam_made2 (C := c.nm) (zs := []) (vs := []) rfl (by show 0 ≤ 8; decide) (fun z hz => nomatch hz) (fun m3 t3 H10 na3 s10 => ?_)
    have cm3 : CoAt c H10 m3 (.nam []) := ⟨t3, na3⟩
    refine nam_made2 (C := c.nm) (zs := []) (vs := []) rfl (by show 0 ≤ 8; decide) (fun z hz => nomatch hz) (fun m4 t4 H11 na4 s11 => ?_)
    have cm4 : CoAt c H11 m4 (.nam []) := ⟨t4, na4⟩
    obtain ⟨dx3, fs3, ha3, _⟩ := cm4.get
    refine ⟨m4, _, dx3, fs3, rfl, ha3, O.o.inv _, m4, _, rfl, cm4, (by decide), (by decide), (by decide), fun m5 H12 cm5 s12 => ?_⟩
    refine ⟨m3, m5, _, _, rfl, cm3.same (s11.trans s12), cm5, okN, okG, fun H13 s13 no => ?_, fun T d y kv zs H13 hT s13 eT ed ny vo nd df => ?_⟩
    · exact (not_none okN okG (y := "a") (kv := []) (Nat.zero_le _) (fun e => nomatch (show false = true from e)) no).elim
    refine ⟨rfl, _, rfl, ite2 (fun e => absurd (of_decide_eq_true e) (fun z => nomatch z)) (fun _ => ?_)⟩
    have s813 := ((s9.trans (s10.trans s11)).trans s12).trans s13
    have c13 := c58.same s813
    have B13 := B5.same (((s6.trans s7).trans s8).trans s813)
    have k13 : But b H H13 := ((But.same s14).trans k5).trans (But.same (((s6.trans s7).trans s8).trans s813))
    obtain ⟨dx5, fs5, ha5, _⟩ := c13.get
    refine ⟨_, rfl, _, rfl, a, _, dx5, fs5, rfl, ha5, O.o.inv _, a, _, rfl, c13, (by show 1 ≤ 6; decide), (by show 1 + 1 ≤ 5; decide), (by show 0 ≤ 8; decide), fun m6 H14 cm6 s14' => ?_⟩
    have c14 := c13.same s14'
    obtain ⟨dx6, fs6, ha6, _⟩ := c14.get
    obtain ⟨dx7, fs7, ha7, _⟩ := cm6.get
    refine ⟨a, m6, _, _, dx6, dx7, fs6, fs7, rfl, rfl, ha6, ha7, O.o.and_ _ _, a, m6, _, _, rfl, c14, cm6, ⟨(by show 1 + 1 ≤ 6; decide), (by show max 1 2 + 1 ≤ 5; decide), (by show 0 + 0 ≤ 8; decide)⟩, fun r2 H15 c15 s15 => ⟨⟨r2, rfl⟩, ?_⟩⟩
    refine nam_made2 (C := c.nm) (zs := []) (vs := []) rfl (by show 0 ≤ 8; decide) (fun z hz => nomatch hz) (fun m7 t7 H16 na7 s16 => ?_)
    have cm7 : CoAt c H16 m7 (.nam []) := ⟨t7, na7⟩
    have okB : MdOk (.both (.btw fz (-999) 999) (.neg (.btw fz (-999) 999))) := ⟨⟨okW.good, okW.good⟩, (by show max 1 2 + 1 ≤ 5; decide), (by show 1 + 1 ≤ 6; decide), (by show 0 ≤ 8; decide)⟩
    refine ⟨r2, m7, _, _, rfl, c15.same s16, cm7, okB, okN, fun H17 s17 _ => ?_, fun T d y kv zs H17 hT s17 eT ed ny vo nd df => ?_⟩
    · have s1317 := ((s14'.trans s15).trans s16).trans s17
      exact ⟨rfl, q _ ((B13.same s1317).mono (by omega)) (k13.trans (But.same s1317))⟩
    · refine absurd ?_ df
      show (btwHolds fz (-999) 999 kv && !(btwHolds fz (-999) 999 kv)) = false
      cases btwHolds fz (-999) 999 kv <;> rfl
end
end G

set_option Elab.async false
set_option linter.all false
set_option maxRecDepth 100000
set_option maxHeartbeats 4000000
/-! MR: _law_many_right, its end. -/
namespace G
open PySem PySem.Spec PyProof.Rows L2 NdefX StX
abbrev nMr : List Str := ["_law_box_here", "_law_fields", "_law_name", "_law_leaves", "_law_part", "_law_number_here", "_law_pairs", "_law_one", "_law_other", "_law_first", "_law_second", "_law_some", "_law_found"]
theorem scMr : FnScope nMr ["_law_box_here", "_law_fields", "_law_name"] (defScope sMr) := ⟨rfl, rfl, rfl, by decide +kernel, rfl, by decide +kernel, by decide +kernel⟩
section
variable {P : Program} {w : World} {K : PySem.W.Frag} {mg : Str → Option Value} {base : Heap} {f fA fS fB fP D : Addr} {fd fdA fdS fdB fdP : FuncData} {c : Cs}
theorem mr_tail {cdv : Value} {A : Around} {outer : List Env} {s : Shared} {H : Hp} {E : XK}
    (GB : FnOk P w K mg base CX0 11 fB fdB ["_law_box_here", "_law_model"] (spBuilt c 5)) (gB : mg "_law_built" = some (.ref fB)) (kB : PySem.W.keepIn K (.ref fB) = true) (bB : Binds K fdB ["_law_box_here", "_law_model"] [])
    (GP : FnOk P w K mg base CX0 7 fP fdP ["_law_one", "_law_other", "_law_found"] (spLPart K)) (gP : mg "_law_parted" = some (.ref fP)) (kP : PySem.W.keepIn K (.ref fP) = true) (bP : Binds K fdP ["_law_one", "_law_other", "_law_found"] [])
    (GA : FnOk P w K mg base CX0 7 fA fdA ["one", "other"] (spParting c)) (gA : mg "parting" = some (.ref fA)) (kA : PySem.W.keepIn K (.ref fA) = true) (bA : Binds K fdA ["one", "other"] [])
    (GS : FnOk P w K mg base CX0 7 fS fdS ["one", "other", "found"] (spIsPart K c)) (gS : mg "is_parting" = some (.ref fS)) (kS : PySem.W.keepIn K (.ref fS) = true) (bS : Binds K fdS ["one", "other", "found"] [])
    (hr : Room 11 (A.deeper (envOfC "_law_many_right" (defScope sMr) s.heap.objs.size f cdv))) :
    ∃ t, PSs (cxOf CX0 P w K mg base nMr "_law_many_right" (defScope sMr) f cdv A outer s H E).nox ((defBody sMr).drop 6) t ∧
      ∀ (De : Ends) (x1 x2 x3 x4 x5 x6 x9 x10 x11 x12 : Option V) (b u u2 : Addr) (M M2 : Md) (y : Str) (kv : Kvs) (n : Nat) (H1 : Hp), BoxAt H1 b n → n ≤ 80000 → MdAt H1 u M → MdAt H1 u2 M2 → MdOk M → MdOk M2 → kv.length ≤ 6 → M.holds y kv ≠ M2.holds y kv →
        (∀ H', BoxAt H' b (n + 200) → But b H1 H' → De.rt (.bl true) H') →
        t De [some (.ref b), x1, x2, x3, x4, x5, x6, some (.ref u), some (.ref u2), x9, x10, x11, x12] H1 := by
  have r7 := hr.mono (show 7 ≤ 11 by decide)
  refine ⟨_, pss_cons (ps_for PassesOwn.never rfl (pi_list (pe_lst (pa_cons (pe_tup (pa_cons (pv 7) (pa_cons (pv 8) pa_nil))) (pa_cons (pe_tup (pa_cons (pv 8) (pa_cons (pv 7) pa_nil))) pa_nil))))
        (pg_tup (by rfl) (pgs_cons (pg_name (i := 9) scMr.nd rfl (.inl rfl)) (pgs_cons (pg_name (i := 10) scMr.nd rfl (.inl rfl)) pgs_nil)))
      (pss_cons (ps_set (i := 11) scMr.nd rfl (.inl rfl) (pe_lst (pa_cons (pe_call GB hr rfl gB kB bB .nil pass0 (pa_cons (pv 0) (pa_cons (pv 9) pa_nil))) (pa_cons (pe_call GB hr rfl gB kB bB .nil pass0 (pa_cons (pv 0) (pa_cons (pv 10) pa_nil))) pa_nil))))
      (pss_cons (ps_set (i := 12) scMr.nd rfl (.inl rfl) (pe_call GA r7 rfl gA kA bA .nil pass0 (pa_cons (pe_ix (r := rIxL K) ix_list (pv 11) pe_int (fun _ _ => rfl)) (pa_cons (pe_ix (r := rIxL K) ix_list (pv 11) pe_int (fun _ _ => rfl)) pa_nil))))
      (pss_one (ps_if (PW.pt (pw_or (pt_not (pt_val (pe_call GP r7 rfl gP kP bP .nil pass0 (pa_cons (pv 9) (pa_cons (pv 10) (pa_cons (pv 12) pa_nil))))))
          (pw_or1 (pt_cmpR op_notBl (pe_call GS r7 rfl gS kS bS .nil pass0 (pa_cons (pe_ix (r := rIxL K) ix_list (pv 11) pe_int (fun _ _ => rfl)) (pa_cons (pe_ix (r := rIxL K) ix_list (pv 11) pe_int (fun _ _ => rfl)) (pa_cons (pv 12) pa_nil)))) pe_bl (nomark _))))) (pss_one (ps_ret pe_bl)) pss_nil)))))
    (pss_one (ps_ret pe_bl)), ?_⟩
  intro De x1 x2 x3 x4 x5 x6 x9 x10 x11 x12 b u u2 M M2 y kv n H1 B hn mu mu2 oM oM2 l6 ne q
  refine ⟨_, rfl, _, rfl, (by show 2 ≤ sizeLine; decide), fun p1 h1 => ?_⟩
  have s1 := Same.new (o := .tup [.ref u, .ref u2]) h1
  have e1 : (upd H1 p1 (.tup [.ref u, .ref u2])) p1 = some (.tup [.ref u, .ref u2]) := upd_same
  generalize upd H1 p1 (.tup [.ref u, .ref u2]) = G1 at s1 e1 ⊢
  refine ⟨_, rfl, _, rfl, (by show 2 ≤ sizeLine; decide), fun p2 h2 => ?_⟩
  have s2 := Same.new (o := .tup [.ref u2, .ref u]) h2
  have e2 : (upd G1 p2 (.tup [.ref u2, .ref u])) p2 = some (.tup [.ref u2, .ref u]) := upd_same
  generalize upd G1 p2 (.tup [.ref u2, .ref u]) = G2 at s2 e2 ⊢
  refine ⟨(by show 2 ≤ sizeLine; decide), fun p3 h3 => ?_⟩
  have s3 := Same.new (o := .lst [.ref p1, .ref p2]) h3
  have e3 : (upd G2 p3 (.lst [.ref p1, .ref p2])) p3 = some (.lst [.ref p1, .ref p2]) := upd_same
  have np3 := box_ne (B.same (s1.trans s2)) h3
  generalize upd G2 p3 (.lst [.ref p1, .ref p2]) = G3 at s3 e3 ⊢
  have s13 := (s1.trans s2).trans s3
  have B3 := B.same s13
  have E1 := s3 _ _ (s2 _ _ e1)
  have E2 := s3 _ _ e2
  refine ⟨p3, rfl, ⟨_, .of e3⟩, ?_⟩
  refine for_list (xs := [V.ref p1, V.ref p2]) (fun j σ H2 => But b G3 H2 ∧ BoxAt H2 b (n + 70 * j) ∧ ∃ y9 y10 y11 y12 : Option V, σ = [some (.ref b), x1, x2, x3, x4, x5, x6, some (.ref u), some (.ref u2), y9, y10, y11, y12]) ?_ ?_ ?_ ?_
  · exact ⟨But.refl _ _, B3, _, _, _, _, rfl⟩
  · rintro j σ H2 _ ⟨k2, _⟩
    exact .of (k2 _ _ np3 e3)
  · rintro j x σ H2 hx ⟨k2, B2, y9, y10, y11, y12, rfl⟩
    have mu' := (mu.same s13).sk (SK.of_but B3 k2)
    have mu2' := (mu2.same s13).sk (SK.of_but B3 k2)
    obtain ⟨t, ua, ub, Ma, Mb, rfl, et, ma, mb, oa, ob, nn, jl⟩ : ∃ (t ua ub : Addr) (Ma Mb : Md), x = .ref t ∧ H2 t = some (.tup [.ref ua, .ref ub]) ∧ MdAt H2 ua Ma ∧ MdAt H2 ub Mb ∧ MdOk Ma ∧ MdOk Mb ∧ Ma.holds y kv ≠ Mb.holds y kv ∧ j < 2 := by
      match j, hx with
      | 0, hx => exact ⟨p1, u, u2, M, M2, (Option.some.inj hx).symm, SK.of_but B3 k2 _ _ E1 rfl, mu', mu2', oM, oM2, ne, by decide⟩
      | 1, hx => exact ⟨p2, u2, u, M2, M, (Option.some.inj hx).symm, SK.of_but B3 k2 _ _ E2 rfl, mu2', mu', oM2, oM, ne.symm, by decide⟩
    refine ⟨t, _, rfl, .of et, rfl, _, _, rfl, _, _, rfl, rfl, ?_⟩
    have z1 := Md.size_31 (m := Ma) oa.deep
    have z2 := Md.size_31 (m := Mb) ob.deep
    refine ⟨_, rfl, _, rfl, b, ua, _, Ma, rfl, B2, by omega, ma, oa.good, oa.six, oa.deep, oa.deep, oa.names, fun ra H3 ca B3' k3 => ?_⟩
    have mb3 := mb.sk (SK.of_but B2 k3)
    refine ⟨_, rfl, _, rfl, b, ub, _, Mb, rfl, B3', by omega, mb3, ob.good, ob.six, ob.deep, ob.deep, ob.names, fun rb H4 cb B4 k4 => ?_⟩
    have ca4 := ca.sk (SK.of_but B3' k4)
    refine ⟨(by show 2 ≤ sizeLine; decide), fun p hp => ?_⟩
    have sp := Same.new (o := .lst [.ref ra, .ref rb]) hp
    have ep : (upd H4 p (.lst [.ref ra, .ref rb])) p = some (.lst [.ref ra, .ref rb]) := upd_same
    generalize upd H4 p (.lst [.ref ra, .ref rb]) = H5 at sp ep ⊢
    have B5 := B4.same sp
    have k25 : But b H2 H5 := (k3.trans k4).trans (But.same sp)
    have ma5 := ma.sk (SK.of_but B2 k25)
    have mb5 := mb.sk (SK.of_but B2 k25)
    refine ⟨_, rfl, p, _, ((0 : Nat) : Int), .ref ra, rfl, rfl, .of ep, atI_nat (j := 0) rfl, _, rfl, p, _, ((1 : Nat) : Int), .ref rb, rfl, rfl, .of ep, atI_nat (j := 1) rfl, ra, rb, Ma, Mb, rfl, ca4.same sp, cb.same sp, oa, ob, fun H6 s6 no => ?_, fun T d y' kv' zs H6 hT s6 eT ed ny vo nd df => ?_⟩
    · exact (not_none oa ob l6 nn no).elim
    have fo := found_rec (K := K) eT ed ny (NumK.of vo) vo.six nd
    have pt : partB Ma Mb H6 (.ref T) = true := by
      rw [partB_at eT ed, name_to ny, val_to vo]
      show (Ma.holds y' kv' != Mb.holds y' kv') = true
      cases q1 : Ma.holds y' kv' <;> cases q2 : Mb.holds y' kv' <;> first | rfl | exact absurd (q1.trans q2.symm) df
    refine ⟨_, rfl, _, rfl, _, rfl, ua, ub, Ma, Mb, .ref T, rfl, ma5.same s6, mb5.same s6, oa.deep, ob.deep, fo, fun H7 s7 => ⟨_, rfl, ?_⟩⟩
    rw [pt]
    refine iteF ?_
    have s57 := s6.trans s7
    have eT7 := s7 _ _ eT
    have ed7 := s7 _ _ ed
    have fo7 := found_rec (K := K) eT7 ed7 ny (NumK.of vo) vo.six nd
    refine ⟨_, rfl, p, _, ((0 : Nat) : Int), .ref ra, rfl, rfl, .of (s57 _ _ ep), atI_nat (j := 0) rfl, _, rfl, p, _, ((1 : Nat) : Int), .ref rb, rfl, rfl, .of (s57 _ _ ep), atI_nat (j := 1) rfl, _, rfl, ra, rb, Ma, Mb, .ref T, rfl, (ca4.same sp).same s57, (cb.same sp).same s57, oa.deep, ob.deep, fo7, fun H8 s8 => ⟨_, true, rfl, rfl, _, rfl, ?_⟩⟩
    have pt7 : partB Ma Mb H7 (.ref T) = true := by
      rw [partB_at eT7 ed7, ← partB_at eT ed]
      exact pt
    rw [pt7]
    refine ite2 (fun e => absurd e (by decide)) (fun _ => ?_)
    exact ⟨(k2.trans k25).trans (But.same (s57.trans s8)), (B5.same (s57.trans s8)).mono (by omega), _, _, _, _, rfl⟩
  · rintro σ H2 ⟨k2, B2, y9, y10, y11, y12, rfl⟩
    exact q H2 (B2.mono (by show n + 70 * 2 ≤ n + 200; omega)) ((But.same s13).trans k2)
end
end G

set_option Elab.async false
set_option linter.all false
set_option maxRecDepth 100000
set_option maxHeartbeats 8000000
/-! MS: _law_many_right, whole. -/
namespace G
open PySem PySem.Spec PyProof.Rows L2 NdefX StX
abbrev LvE := Str × Int
abbrev lvM (l : LvE) : Md := .btw l.1 l.2 999
def LvsAt (H : Hp) (ts : List Addr) (ls : List LvE) : Prop := Paired (fun t (l : LvE) => MdAt H t (lvM l)) ts ls
theorem LvsAt.sk {H H' : Hp} {ts : List Addr} {ls : List LvE} (h : LvsAt H ts ls) (s : SK H H') : LvsAt H' ts ls := Paired.mono (fun _ _ e => e.sk s) h
/-- the first of six leaves misses -/
theorem lv_miss {l : LvE} {f6 : Str} (h : l.1 ≠ f6) (y : Str) : (lvM l).holds y [((Sum.inr f6 : Key), V.int 6)] = false := by
  show btwHolds l.1 l.2 999 [((Sum.inr f6 : Key), V.int 6)] = false
  refine btw_not (r := (l.2, (999 : Int))) fun i e => ?_
  rw [valV_neg (p := ((Sum.inr f6 : Key), V.int 6)) (fun q => h (Sum.inr.inj q).symm)] at e
  cases e
/-- the other condition: what it is made of -/
structure OthOk (f6 : Str) (M : Md) : Prop where
  ok : MdOk M
  deep : M.depth ≤ 2
  one : M.leaves ≤ 1
  none : M.names = 0
  hit : ∀ y, M.holds y [((Sum.inr f6 : Key), V.int 6)] = true
theorem oth_a {f6 : Str} (h : NameZ f6) : OthOk f6 (.btw f6 (-999) 999) :=
  ⟨⟨⟨h, by decide, by decide, by decide⟩, (by show 1 ≤ 5; decide), (by show 1 ≤ 6; decide), (by show 0 ≤ 8; decide)⟩, (by show 1 ≤ 2; decide), Nat.le_refl _, rfl, fun y => by
    show btwHolds f6 (-999) 999 [((Sum.inr f6 : Key), V.int 6)] = true
    rw [btw_int (r := ((-999 : Int), (999 : Int))) (i := 6) valV_one]
    decide⟩
theorem oth_b {f6 : Str} (h : NameZ f6) : OthOk f6 (.neg (.btw f6 0 5)) :=
  ⟨⟨⟨h, by decide, by decide, by decide⟩, (by show 2 ≤ 5; decide), (by show 1 ≤ 6; decide), (by show 0 ≤ 8; decide)⟩, (by show 2 ≤ 2; decide), Nat.le_refl _, rfl, fun y => by
    show (!(btwHolds f6 0 5 [((Sum.inr f6 : Key), V.int 6)])) = true
    rw [btw_int (r := ((0 : Int), (5 : Int))) (i := 6) valV_one]
    decide⟩
theorem oth_nam {f6 x : Str} {M : Md} (o : OthOk f6 M) (hx : NameZ x) : MdOk (.both M (.neg (.nam [x]))) ∧ (Md.both M (.neg (.nam [x]))).holds "" [((Sum.inr f6 : Key), V.int 6)] = true := by
  have d := o.deep
  have l := o.one
  have n := o.none
  refine ⟨⟨⟨o.ok.good, fun z hz => by rw [List.mem_singleton.mp hz]; exact hx⟩, ?_, ?_, ?_⟩, ?_⟩
  · show max M.depth 2 + 1 ≤ 5
    omega
  · show M.leaves + 1 ≤ 6
    omega
  · show M.names + 1 ≤ 8
    omega
  · show (M.holds "" _ && !(inV (.str "") ([x].map V.str))) = true
    rw [o.hit, inV_strsC, decide_eq_false fun h => ?_]
    · rfl
    · have := hx.2.1
      rw [← List.mem_singleton.mp h] at this
      exact absurd this (by decide)
def spMr : Sp := fun vs H Q _ => ∃ (b fl : Addr) (x : Str) (n : Nat) (zs : List Str), vs = [.ref b, .ref fl, .str x] ∧ BoxAt H b n ∧ n ≤ 60000 ∧ Nm H fl zs ∧ zs.length = 7 ∧ zs.Nodup ∧ NameZ x ∧ ∀ H', BoxAt H' b (n + 300) → But b H H' → Q (.bl true) H'
section
variable {P : Program} {w : World} {K : PySem.W.Frag} {mg : Str → Option Value} {base : Heap} {f fA fS fB fP fT fN D : Addr} {fd fdA fdS fdB fdP fdT fdN : FuncData} {c : Cs}
theorem ok_mr (F : Fun K "_law_many_right" "_law_many_right" sMr f fd)
    (T : Fun K "_law_take" "_law_take" sTake fT fdT) (bT : Binds K fdT ["_law_box_here", "_law_many"] []) (gT : mg "_law_take" = some (.ref fT))
    (GN : FnOk P w K mg base CX0 2 fN fdN ["_law_box_here"] spNumber) (gN : mg "_law_number" = some (.ref fN)) (kN : PySem.W.keepIn K (.ref fN) = true) (bN : Binds K fdN ["_law_box_here"] [])
    (GB : FnOk P w K mg base CX0 11 fB fdB ["_law_box_here", "_law_model"] (spBuilt c 5)) (gB : mg "_law_built" = some (.ref fB)) (kB : PySem.W.keepIn K (.ref fB) = true) (bB : Binds K fdB ["_law_box_here", "_law_model"] [])
    (GP : FnOk P w K mg base CX0 7 fP fdP ["_law_one", "_law_other", "_law_found"] (spLPart K)) (gP : mg "_law_parted" = some (.ref fP)) (kP : PySem.W.keepIn K (.ref fP) = true) (bP : Binds K fdP ["_law_one", "_law_other", "_law_found"] [])
    (GA : FnOk P w K mg base CX0 7 fA fdA ["one", "other"] (spParting c)) (gA : mg "parting" = some (.ref fA)) (kA : PySem.W.keepIn K (.ref fA) = true) (bA : Binds K fdA ["one", "other"] [])
    (GS : FnOk P w K mg base CX0 7 fS fdS ["one", "other", "found"] (spIsPart K c)) (gS : mg "is_parting" = some (.ref fS)) (kS : PySem.W.keepIn K (.ref fS) = true) (bS : Binds K fdS ["one", "other", "found"] []) (mmn : mg "min" = none) :
    FnOk P w K mg base CX0 12 f fd ["_law_box_here", "_law_fields", "_law_name"] spMr := by
  have GT : FnOk P w K mg base CX0 1 fT fdT ["_law_box_here", "_law_many"] spTake := ok_take T
  refine F.ok scMr (fun vs H Q E h => ?_) (fun cdv A outer s H vs Q E hr h => ?_)
  · obtain ⟨b, fl, x, n, zs, rfl, _⟩ := h
    rfl
  · obtain ⟨b, fl, x, n, zs, rfl, B, hn, F0, z7, nd, nx, q⟩ := h
    have hr1 := hr.mono (show 1 ≤ 11 by decide)
    have hr2 := hr.mono (show 2 ≤ 11 by decide)
    obtain ⟨tl, pl, ql⟩ := mr_tail (P := P) (w := w) (K := K) (mg := mg) (base := base) (outer := outer) (H := H) (E := E) (cdv := cdv) (s := s) (f := f) GB gB kB bB GP gP kP bP GA gA kA bA GS gS kS bS hr
    refine ⟨_, pss_cons (ps_set (i := 3) scMr.nd rfl (.inl rfl) (pe_lst pa_nil))
      (pss_cons (ps_for PassesOwn.never rfl (pi_list (pe_slice (r := rSlL K) sl_list (pv 1) po_none (po_some pe_int))) (pg_name (i := 4) scMr.nd rfl (.inl rfl))
        (pss_cons (ps_set (i := 5) scMr.nd rfl (.inl rfl) (pe_call GN hr2 rfl gN kN bN .nil pass0 (pa_cons (pv 0) pa_nil)))
        (pss_one (ps_expr (pe_bm PySem.F.plainAttrs_list PySem.F.slot_list_append PySem.F.type_list_append mt_append (pv 3) (pa_cons (pe_tup (pa_cons pe_str (pa_cons (pv 4) (pa_cons (pe_callB (call_min2 rfl) (by rfl) mmn (by decide +kernel) (pa_cons (pv 5) (pa_cons pe_int pa_nil))) (pa_cons pe_int pa_nil))))) pa_nil))))))
      (pss_cons (ps_set (i := 6) scMr.nd rfl (.inl rfl) (pe_lst (pa_cons (pe_tup (pa_cons pe_str (pa_cons (pe_ix (r := rIxL K) ix_list (pv 3) pe_int (fun _ _ => rfl)) (pa_cons (pe_ix (r := rIxL K) ix_list (pv 3) pe_int (fun _ _ => rfl)) pa_nil))))
          (pa_cons (pe_tup (pa_cons pe_str (pa_cons (pe_ix (r := rIxL K) ix_list (pv 3) pe_int (fun _ _ => rfl)) (pa_cons (pe_ix (r := rIxL K) ix_list (pv 3) pe_int (fun _ _ => rfl)) pa_nil))))
          (pa_cons (pe_tup (pa_cons pe_str (pa_cons (pe_ix (r := rIxL K) ix_list (pv 3) pe_int (fun _ _ => rfl)) (pa_cons (pe_ix (r := rIxL K) ix_list (pv 3) pe_int (fun _ _ => rfl)) pa_nil)))) pa_nil)))))
      (pss_cons (ps_set (i := 7) scMr.nd rfl (.inl rfl) (pe_tup (pa_cons pe_str (pa_cons (pe_tup (pa_cons pe_str (pa_cons (pe_ix (r := rIxL K) ix_list (pv 6) pe_int (fun _ _ => rfl)) (pa_cons (pe_ix (r := rIxL K) ix_list (pv 6) pe_int (fun _ _ => rfl)) pa_nil)))) (pa_cons (pe_ix (r := rIxL K) ix_list (pv 6) pe_int (fun _ _ => rfl)) pa_nil)))))
      (pss_cons (ps_set (i := 8) scMr.nd rfl (.inl rfl) (pe_ix (r := rIxL K) ix_list (pe_lst (pa_cons (pe_tup (pa_cons pe_str (pa_cons (pe_ix (r := rIxL K) ix_list (pv 1) pe_int (fun _ _ => rfl)) (pa_cons (pe_un un_neg pe_int) (pa_cons pe_int pa_nil)))))
          (pa_cons (pe_tup (pa_cons pe_str (pa_cons (pe_tup (pa_cons pe_str (pa_cons (pe_ix (r := rIxL K) ix_list (pv 1) pe_int (fun _ _ => rfl)) (pa_cons pe_int (pa_cons pe_int pa_nil))))) pa_nil))) pa_nil)))
          (pe_call GT hr1 rfl gT T.kp bT .nil pass0 (pa_cons (pv 0) (pa_cons pe_int pa_nil))) (fun _ _ => rfl)))
      (pss_cons (ps_if (pt_cmpR op_eq (pe_call GT hr1 rfl gT T.kp bT .nil pass0 (pa_cons (pv 0) (pa_cons pe_int pa_nil))) pe_int (nomark _))
          (pss_one (ps_set (i := 8) scMr.nd rfl (.inl rfl) (pe_tup (pa_cons pe_str (pa_cons (pv 8) (pa_cons (pe_tup (pa_cons pe_str (pa_cons (pe_tup (pa_cons pe_str (pa_cons (pv 2) pa_nil))) pa_nil))) pa_nil)))))) pss_nil)
      pl))))), ?_⟩
    refine ⟨Nat.zero_le _, fun L hL => ?_⟩
    have nLb := box_ne B hL
    have sL := Same.new (o := .lst []) hL
    have eL : (upd H L (.lst [])) L = some (.lst []) := upd_same
    generalize upd H L (.lst []) = H1 at sL eL ⊢
    have F1 := F0.same sL
    refine ⟨_, rfl, _, rfl, fl, _, rfl, .of F1.at_, fun p hp => ?_⟩
    rw [show cutV (zs.map V.str) none (some 6) = (zs.take 6).map V.str from by rw [show (6 : Int) = ((6 : Nat) : Int) from rfl, cutV_first _ _ (by rw [List.length_map, z7]; decide), List.map_take]]
    have sp := Same.new (o := .lst ((zs.take 6).map V.str)) hp
    have ep : (upd H1 p (.lst ((zs.take 6).map V.str))) p = some (.lst ((zs.take 6).map V.str)) := upd_same
    have npb := box_ne (B.same sL) hp
    have npL : p ≠ L := (ne_of_none eL hp).symm
    generalize upd H1 p (.lst ((zs.take 6).map V.str)) = H2 at sp ep ⊢
    have s2 := sL.trans sp
    have B2 := B.same s2
    have eL2 := sp _ _ eL
    refine ⟨p, rfl, ⟨_, .of ep⟩, ?_⟩
    refine for_list (xs := (zs.take 6).map V.str) (fun j σ H3 => But b H H3 ∧ BoxAt H3 b (n + 3 * j) ∧ H3 p = some (.lst ((zs.take 6).map V.str)) ∧ (∃ (ts : List Addr) (ls : List LvE), H3 L = some (.lst (ts.map V.ref)) ∧ ts.length = j ∧ LvsAt H3 ts ls ∧ ls.map (·.1) = (zs.take 6).take j ∧ ∀ l ∈ ls, -999 ≤ l.2 ∧ l.2 ≤ 998) ∧
      ∃ x4 x5 : Option V, σ = [some (.ref b), some (.ref fl), some (.str x), some (.ref L), x4, x5, none, none, none, none, none, none, none]) ?_ ?_ ?_ ?_
    · exact ⟨But.same s2, B2, ep, ⟨[], [], eL2, rfl, .nil, rfl, fun _ h => nomatch h⟩, _, _, rfl⟩
    · rintro j σ H3 _ ⟨_, _, e3, _⟩
      exact .of e3
    · rintro j x' σ H3 hx ⟨k3, B3, e3, ⟨ts, ls, eL3, lt, at3, nm3, rg3⟩, x4, x5, rfl⟩
      rw [List.getElem?_map] at hx
      obtain ⟨z, hz, rfl⟩ := Option.map_eq_some_iff.mp hx
      have hzm : z ∈ zs := List.mem_of_mem_take (List.mem_of_getElem? hz)
      have j6 : j < 6 := by
        have := (List.getElem?_eq_some_iff.mp hz).1
        rw [List.length_take] at this
        omega
      refine ⟨_, rfl, b, _, rfl, B3, by omega, fun i H4 i1 i2 B4 k4 => ?_⟩
      have eL4 := k4 _ _ nLb eL3
      refine ⟨_, rfl, .inl ⟨rfl, _, .of eL4⟩, _, rfl, _, rfl, _, _, rfl, ?_⟩
      obtain ⟨lo, elo, lo1, lo2⟩ : ∃ lo, (if (998 : Int) < i then 998 else i) = lo ∧ -999 ≤ lo ∧ lo ≤ 998 := by
        refine ⟨_, rfl, ?_, ?_⟩ <;> split <;> omega
      rw [elo]
      refine ⟨(by show 4 ≤ sizeLine; decide), fun t ht => ?_⟩
      have st := Same.new (o := .tup [.str "between", .str z, .int lo, .int 999]) ht
      have et : (upd H4 t (.tup [.str "between", .str z, .int lo, .int 999])) t = some (.tup [.str "between", .str z, .int lo, .int 999]) := upd_same
      generalize upd H4 t (.tup [.str "between", .str z, .int lo, .int 999]) = H5 at st et ⊢
      have eL5 := st _ _ eL4
      have sk := sk_lst (o := .lst (ts.map V.ref ++ [.ref t])) eL5
      refine ⟨L, _, _, rfl, rfl, eL5, small1000 (by rw [List.length_map]; omega), but_upd ((k3.trans k4).trans (But.same st)) hL, (box_upd (B4.same st) nLb).mono (by omega), ?_, ⟨ts ++ [t], ls ++ [(z, lo)], ?_, ?_, ?_, ?_, ?_⟩, _, _, rfl⟩
      · exact (upd_ne npL).trans (st _ _ (k4 _ _ npb e3))
      · rw [upd_same, List.map_append]
        rfl
      · rw [List.length_append, lt]
        rfl
      · have a5 : LvsAt H5 ts ls := (at3.sk (SK.of_but B3 k4)).sk (SK.of_same st)
        exact Paired.snoc (a5.sk sk) ((show MdAt H5 t (.btw z lo 999) from et).sk sk)
      · rw [List.map_append, nm3, take_snocK hz]
        rfl
      · intro l hl
        rcases List.mem_append.mp hl with hl | hl
        · exact rg3 l hl
        · rw [List.mem_singleton.mp hl]
          exact ⟨lo1, lo2⟩
    · rintro σ H3 ⟨k3, B3, e3, ⟨ts, ls, eL3, lt, at3, nm3, rg3⟩, x4, x5, rfl⟩
      have l6 : ((zs.take 6).map V.str).length = 6 := by rw [List.length_map, List.length_take, z7]; rfl
      rw [l6] at lt B3 nm3
      rw [List.take_take, show min 6 6 = 6 from rfl] at nm3
      have F3 := F0.but B k3
      obtain ⟨f0, f1, f2, f3, f4, f5, f6, rfl⟩ : ∃ f0 f1 f2 f3 f4 f5 f6, zs = [f0, f1, f2, f3, f4, f5, f6] := by
        match zs, z7 with
        | [f0, f1, f2, f3, f4, f5, f6], _ => exact ⟨f0, f1, f2, f3, f4, f5, f6, rfl⟩
      have n06 : f0 ≠ f6 := fun e => (List.nodup_cons.mp nd).1 (by rw [e]; simp)
      have nmf : ∀ z ∈ [f0, f1, f2, f3, f4, f5, f6], NameZ z := F0.nm
      have lsl : ls.length = 6 := by
        have := at3.length
        omega
      obtain ⟨l0, l1, l2, l3, l4, l5, rfl⟩ : ∃ l0 l1 l2 l3 l4 l5, ls = [l0, l1, l2, l3, l4, l5] := by
        match ls, lsl with
        | [l0, l1, l2, l3, l4, l5], _ => exact ⟨l0, l1, l2, l3, l4, l5, rfl⟩
      obtain ⟨t0, t1, t2, t3, t4, t5, rfl⟩ : ∃ t0 t1 t2 t3 t4 t5, ts = [t0, t1, t2, t3, t4, t5] := by
        match ts, lt with
        | [t0, t1, t2, t3, t4, t5], _ => exact ⟨t0, t1, t2, t3, t4, t5, rfl⟩
      have nms : ∀ l ∈ [l0, l1, l2, l3, l4, l5], NameZ l.1 := fun l hl => by
        have : l.1 ∈ ([l0, l1, l2, l3, l4, l5] : List LvE).map (·.1) := List.mem_map.mpr ⟨l, hl, rfl⟩
        rw [nm3] at this
        exact nmf _ (List.mem_of_mem_take this)
      have e0 : l0.1 = f0 := by
        injection nm3
      have good : ∀ l ∈ [l0, l1, l2, l3, l4, l5], (lvM l).good := fun l hl => ⟨nms l hl, (rg3 l hl).1, Int.le_trans (rg3 l hl).2 (by decide), Int.le_refl _⟩
      obtain ⟨m0, m1, m2, m3, m4, m5⟩ : MdAt H3 t0 (lvM l0) ∧ MdAt H3 t1 (lvM l1) ∧ MdAt H3 t2 (lvM l2) ∧ MdAt H3 t3 (lvM l3) ∧ MdAt H3 t4 (lvM l4) ∧ MdAt H3 t5 (lvM l5) := by
        cases at3 with
        | cons h0 r => cases r with
          | cons h1 r => cases r with
            | cons h2 r => cases r with
              | cons h3 r => cases r with
                | cons h4 r => cases r with
                  | cons h5 r => exact ⟨h0, h1, h2, h3, h4, h5⟩
      refine ⟨_, rfl, L, _, ((0 : Nat) : Int), .ref t0, rfl, rfl, .of (eL3), atI_nat (j := 0) rfl, _, rfl, L, _, ((1 : Nat) : Int), .ref t1, rfl, rfl, .of (eL3), atI_nat (j := 1) rfl, (by show 3 ≤ sizeLine; decide), fun p0 h0 => ?_⟩
      have s0 := Same.new (o := .tup [.str "both", .ref t0, .ref t1]) h0
      have e0' : (upd H3 p0 (.tup [.str "both", .ref t0, .ref t1])) p0 = some (.tup [.str "both", .ref t0, .ref t1]) := upd_same
      generalize upd H3 p0 (.tup [.str "both", .ref t0, .ref t1]) = J0 at s0 e0' ⊢
      have c0 := s0
      refine ⟨_, rfl, L, _, ((2 : Nat) : Int), .ref t2, rfl, rfl, .of (c0 _ _ eL3), atI_nat (j := 2) rfl, _, rfl, L, _, ((3 : Nat) : Int), .ref t3, rfl, rfl, .of (c0 _ _ eL3), atI_nat (j := 3) rfl, (by show 3 ≤ sizeLine; decide), fun p1 h1 => ?_⟩
      have s1 := Same.new (o := .tup [.str "both", .ref t2, .ref t3]) h1
      have e1 : (upd J0 p1 (.tup [.str "both", .ref t2, .ref t3])) p1 = some (.tup [.str "both", .ref t2, .ref t3]) := upd_same
      generalize upd J0 p1 (.tup [.str "both", .ref t2, .ref t3]) = J1 at s1 e1 ⊢
      have c1 := c0.trans s1
      refine ⟨_, rfl, L, _, ((4 : Nat) : Int), .ref t4, rfl, rfl, .of (c1 _ _ eL3), atI_nat (j := 4) rfl, _, rfl, L, _, ((5 : Nat) : Int), .ref t5, rfl, rfl, .of (c1 _ _ eL3), atI_nat (j := 5) rfl, (by show 3 ≤ sizeLine; decide), fun p2 h2 => ?_⟩
      have s2' := Same.new (o := .tup [.str "both", .ref t4, .ref t5]) h2
      have e2 : (upd J1 p2 (.tup [.str "both", .ref t4, .ref t5])) p2 = some (.tup [.str "both", .ref t4, .ref t5]) := upd_same
      generalize upd J1 p2 (.tup [.str "both", .ref t4, .ref t5]) = J2 at s2' e2 ⊢
      have c2 := c1.trans s2'
      refine ⟨(by show 3 ≤ sizeLine; decide), fun p3 h3 => ?_⟩
      have s3 := Same.new (o := .lst [.ref p0, .ref p1, .ref p2]) h3
      have e3 : (upd J2 p3 (.lst [.ref p0, .ref p1, .ref p2])) p3 = some (.lst [.ref p0, .ref p1, .ref p2]) := upd_same
      generalize upd J2 p3 (.lst [.ref p0, .ref p1, .ref p2]) = J3 at s3 e3 ⊢
      have c3 := c2.trans s3
      refine ⟨_, rfl, p3, _, ((0 : Nat) : Int), .ref p0, rfl, rfl, .of (e3), atI_nat (j := 0) rfl, _, rfl, p3, _, ((1 : Nat) : Int), .ref p1, rfl, rfl, .of (e3), atI_nat (j := 1) rfl, (by show 3 ≤ sizeLine; decide), fun p4 h4 => ?_⟩
      have s4 := Same.new (o := .tup [.str "both", .ref p0, .ref p1]) h4
      have e4 : (upd J3 p4 (.tup [.str "both", .ref p0, .ref p1])) p4 = some (.tup [.str "both", .ref p0, .ref p1]) := upd_same
      generalize upd J3 p4 (.tup [.str "both", .ref p0, .ref p1]) = J4 at s4 e4 ⊢
      have c4 := c3.trans s4
      refine ⟨_, rfl, p3, _, ((2 : Nat) : Int), .ref p2, rfl, rfl, .of (s4 _ _ e3), atI_nat (j := 2) rfl, (by show 3 ≤ sizeLine; decide), fun p5 h5 => ?_⟩
      have s5 := Same.new (o := .tup [.str "both", .ref p4, .ref p2]) h5
      have e5 : (upd J4 p5 (.tup [.str "both", .ref p4, .ref p2])) p5 = some (.tup [.str "both", .ref p4, .ref p2]) := upd_same
      generalize upd J4 p5 (.tup [.str "both", .ref p4, .ref p2]) = J5 at s5 e5 ⊢
      have c5 := c4.trans s5
      have E0 := s5 _ _ (s4 _ _ (s3 _ _ (s2' _ _ (s1 _ _ e0'))))
      have E1 := s5 _ _ (s4 _ _ (s3 _ _ (s2' _ _ e1)))
      have E2 := s5 _ _ (s4 _ _ (s3 _ _ e2))
      have E4 := s5 _ _ e4
      have mt0 : ∀ {t : Addr} {l : LvE}, MdAt H3 t (lvM l) → MdAt J5 t (lvM l) := fun h => h.sk (SK.of_same c5)
      have M5 : MdAt J5 p5 (.both (.both (.both (lvM l0) (lvM l1)) (.both (lvM l2) (lvM l3))) (.both (lvM l4) (lvM l5))) := ⟨p4, p2, e5, ⟨p0, p1, E4, ⟨t0, t1, E0, mt0 m0, mt0 m1⟩, ⟨t2, t3, E1, mt0 m2, mt0 m3⟩⟩, ⟨t4, t5, E2, mt0 m4, mt0 m5⟩⟩
      have ok1 : MdOk (.both (.both (.both (lvM l0) (lvM l1)) (.both (lvM l2) (lvM l3))) (.both (lvM l4) (lvM l5))) := ⟨⟨⟨⟨good _ (by simp), good _ (by simp)⟩, good _ (by simp), good _ (by simp)⟩, good _ (by simp), good _ (by simp)⟩, (by show 4 ≤ 5; decide), (by show 6 ≤ 6; decide), (by show 0 ≤ 8; decide)⟩
      have F5 := F3.same c5
      have B5 := B3.same c5
      have k5 : But b H J5 := k3.trans (But.same c5)
      have n6 := nmf f6 (by simp)
      refine ⟨_, rfl, fl, _, ((6 : Nat) : Int), .str f6, rfl, rfl, .of (F5.at_), atI_nat (j := 6) rfl, _, rfl, (by show 4 ≤ sizeLine; decide), fun p6 h6 => ?_⟩
      have s6 := Same.new (o := .tup [.str "between", .str f6, .int (-999), .int 999]) h6
      have e6 : (upd J5 p6 (.tup [.str "between", .str f6, .int (-999), .int 999])) p6 = some (.tup [.str "between", .str f6, .int (-999), .int 999]) := upd_same
      generalize upd J5 p6 (.tup [.str "between", .str f6, .int (-999), .int 999]) = J6 at s6 e6 ⊢
      refine ⟨_, rfl, fl, _, ((6 : Nat) : Int), .str f6, rfl, rfl, .of ((F5.same s6).at_), atI_nat (j := 6) rfl, (by show 4 ≤ sizeLine; decide), fun p7 h7 => ?_⟩
      have s7 := Same.new (o := .tup [.str "between", .str f6, .int 0, .int 5]) h7
      have e7 : (upd J6 p7 (.tup [.str "between", .str f6, .int 0, .int 5])) p7 = some (.tup [.str "between", .str f6, .int 0, .int 5]) := upd_same
      generalize upd J6 p7 (.tup [.str "between", .str f6, .int 0, .int 5]) = J7 at s7 e7 ⊢
      refine ⟨(by show 2 ≤ sizeLine; decide), fun p8 h8 => ?_⟩
      have s8 := Same.new (o := .tup [.str "not", .ref p7]) h8
      have e8 : (upd J7 p8 (.tup [.str "not", .ref p7])) p8 = some (.tup [.str "not", .ref p7]) := upd_same
      generalize upd J7 p8 (.tup [.str "not", .ref p7]) = J8 at s8 e8 ⊢
      refine ⟨(by show 2 ≤ sizeLine; decide), fun p9 h9 => ?_⟩
      have s9 := Same.new (o := .lst [.ref p6, .ref p8]) h9
      have e9 : (upd J8 p9 (.lst [.ref p6, .ref p8])) p9 = some (.lst [.ref p6, .ref p8]) := upd_same
      generalize upd J8 p9 (.lst [.ref p6, .ref p8]) = J9 at s9 e9 ⊢
      have c9 := ((s6.trans s7).trans s8).trans s9
      have B9 := B5.same c9
      have np9 := box_ne (B5.same ((s6.trans s7).trans s8)) h9
      refine ⟨_, rfl, b, 2, _, rfl, B9, by omega, by decide, by decide, fun r K1 d0 d1 C1 k9 => ?_⟩
      obtain ⟨j, rfl, hj⟩ := draw_at (n := 2) d0 d1 rfl
      have sk9 := SK.of_but B9 k9
      obtain ⟨pO, M, eO, mO, oO⟩ : ∃ (pO : Addr) (M : Md), ([.ref p6, .ref p8] : List V)[j]? = some (.ref pO) ∧ MdAt K1 pO M ∧ OthOk f6 M := by
        match j, hj with
        | 0, _ =>
          have h : MdAt J9 p6 (.btw f6 (-999) 999) := s9 _ _ (s8 _ _ (s7 _ _ e6))
          exact ⟨p6, _, rfl, h.sk sk9, oth_a n6⟩
        | 1, _ =>
          have h : MdAt J9 p8 (.neg (.btw f6 0 5)) := ⟨p7, s9 _ _ e8, s9 _ _ (s8 _ _ e7)⟩
          exact ⟨p8, _, rfl, h.sk sk9, oth_b n6⟩
      refine ⟨p9, _, _, .ref pO, rfl, rfl, .of (k9 _ _ np9 e9), atI_nat eO, ?_⟩
      have M1K := (M5.same c9).sk sk9
      have kK : But b H K1 := (k5.trans (But.same c9)).trans k9
      have miss : ∀ y, ((Md.both (.both (.both (lvM l0) (lvM l1)) (.both (lvM l2) (lvM l3))) (.both (lvM l4) (lvM l5)))).holds y [((Sum.inr f6 : Key), V.int 6)] = false := fun y => by
        show (((lvM l0).holds y _ && (lvM l1).holds y _) && ((lvM l2).holds y _ && (lvM l3).holds y _) && ((lvM l4).holds y _ && (lvM l5).holds y _)) = false
        rw [lv_miss (by rw [e0]; exact n06)]
        rfl
      refine ⟨_, rfl, b, 2, _, rfl, C1, by omega, by decide, by decide, fun r2 K2 d2 d3 C2 k10 => ⟨rfl, _, rfl, ?_⟩⟩
      have sk10 := SK.of_but C1 k10
      have M1L := M1K.sk sk10
      have mOL := mO.sk sk10
      have kL : But b H K2 := kK.trans k10
      refine ite2 (fun _ => ?_) (fun _ => ?_)
      · refine ⟨_, rfl, _, rfl, (by show 2 ≤ sizeLine; decide), fun q1 g1 => ?_⟩
        have u1 := Same.new (o := .tup [.str "named", .str x]) g1
        have w1 : (upd K2 q1 (.tup [.str "named", .str x])) q1 = some (.tup [.str "named", .str x]) := upd_same
        generalize upd K2 q1 (.tup [.str "named", .str x]) = N1 at u1 w1 ⊢
        refine ⟨(by show 2 ≤ sizeLine; decide), fun q2 g2 => ?_⟩
        have u2 := Same.new (o := .tup [.str "not", .ref q1]) g2
        have w2 : (upd N1 q2 (.tup [.str "not", .ref q1])) q2 = some (.tup [.str "not", .ref q1]) := upd_same
        generalize upd N1 q2 (.tup [.str "not", .ref q1]) = N2 at u2 w2 ⊢
        refine ⟨(by show 3 ≤ sizeLine; decide), fun q3 g3 => ?_⟩
        have u3 := Same.new (o := .tup [.str "both", .ref pO, .ref q2]) g3
        have w3 : (upd N2 q3 (.tup [.str "both", .ref pO, .ref q2])) q3 = some (.tup [.str "both", .ref pO, .ref q2]) := upd_same
        generalize upd N2 q3 (.tup [.str "both", .ref pO, .ref q2]) = N3 at u3 w3 ⊢
        have u13 := (u1.trans u2).trans u3
        have mN : MdAt N3 q3 (.both M (.neg (.nam [x]))) := ⟨pO, q2, w3, (mOL.same u13), ⟨q1, u3 _ _ w2, u3 _ _ (u2 _ _ w1)⟩⟩
        obtain ⟨okN, hitN⟩ := oth_nam oO nx
        exact ql _ _ _ _ _ _ _ _ _ _ _ b p5 q3 _ _ "" [((Sum.inr f6 : Key), V.int 6)] _ N3 (C2.same u13) (by omega) (M1L.same u13) mN ok1 okN (by show 1 ≤ 6; decide) (by rw [miss, hitN]; decide) fun H' B' k' => q H' (B'.mono (by omega)) ((kL.trans (But.same u13)).trans k')
      · exact ql _ _ _ _ _ _ _ _ _ _ _ b p5 pO _ _ "" [((Sum.inr f6 : Key), V.int 6)] _ K2 C2 (by omega) M1L mOL ok1 oO.ok (by show 1 ≤ 6; decide) (by rw [miss, oO.hit]; decide) fun H' B' k' => q H' (B'.mono (by omega)) (kL.trans k')
end
end G

set_option Elab.async false
set_option linter.all false
set_option maxRecDepth 100000
set_option maxHeartbeats 4000000
/-! LL: the law. -/
namespace G
open PySem PySem.Spec PyProof.Rows L2 NdefX StX
theorem scLaw : FnScope ["_law_script", "_law_k", "_law_box_here", "_law_names_here", "_law_fields"] ["_law_script"] (defScope sLaw) := ⟨rfl, rfl, rfl, by decide +kernel, rfl, by decide +kernel, by decide +kernel⟩
def spLaw (K : PySem.W.Frag) : Sp := fun vs H Q _ => ∃ (a : Addr) (ns : List Int), vs = [.ref a] ∧ SqL K H a (ns.map V.int) ∧ ns.length ≤ 63 ∧ ∀ H', Q (.bl true) H'
theorem sqL_same {K : PySem.W.Frag} {H H' : Hp} {a : Addr} {xs : List V} (h : SqL K H a xs) (s : Same H H') : SqL K H' a xs := by
  rcases h with (h | ⟨o, h⟩) | h
  · exact .inl (.inl (s _ _ h))
  · exact .inl (.inr ⟨o, s _ _ h⟩)
  · exact .inr h
section
variable {P : Program} {w : World} {K : PySem.W.Frag} {mg : Str → Option Value} {base : Heap}
theorem ok_law {f fc fb fn fR fA fM : Addr} {fd fdc fdb fdn fdR fdA fdM : FuncData} (F : Fun K "law" "law" sLaw f fd)
    (Fc : Fun K "_law_cell" "_law_cell" sCell fc fdc) (bc : Binds K fdc ["_law_script", "_law_k"] []) (gc : mg "_law_cell" = some (.ref fc))
    (Fb : Fun K "_law_box" "_law_box" sBox fb fdb) (bb : Binds K fdb ["_law_cell_here"] []) (gb : mg "_law_box" = some (.ref fb))
    (Gn : FnOk P w K mg base CX0 3 fn fdn ["_law_box_here", "_law_many"] spNamesD) (gn : mg "_law_names" = some (.ref fn)) (kn : PySem.W.keepIn K (.ref fn) = true) (bn : Binds K fdn ["_law_box_here", "_law_many"] [])
    (GR : FnOk P w K mg base CX0 8 fR fdR ["_law_box_here", "_law_fields", "_law_names_here"] spRi) (gR : mg "_law_right" = some (.ref fR)) (kR : PySem.W.keepIn K (.ref fR) = true) (bR : Binds K fdR ["_law_box_here", "_law_fields", "_law_names_here"] [])
    (GA : FnOk P w K mg base CX0 8 fA fdA ["_law_box_here", "_law_fields"] spAr) (gA : mg "_law_all_right" = some (.ref fA)) (kA : PySem.W.keepIn K (.ref fA) = true) (bA : Binds K fdA ["_law_box_here", "_law_fields"] [])
    (GM : FnOk P w K mg base CX0 12 fM fdM ["_law_box_here", "_law_fields", "_law_name"] spMr) (gM : mg "_law_many_right" = some (.ref fM)) (kM : PySem.W.keepIn K (.ref fM) = true) (bM : Binds K fdM ["_law_box_here", "_law_fields", "_law_name"] [])
    (mr : mg "range" = none) (mmx : mg "max" = none) (mmn : mg "min" = none) (ml : mg "len" = none) : FnG P w K mg base CX0 13 f fd ["_law_script"] (spLaw K) := by
  have Gc : FnOk P w K mg base CX0 1 fc fdc ["_law_script", "_law_k"] (spCell' K) := ok_cell Fc ml
  have Gb : FnOk P w K mg base CX0 1 fb fdb ["_law_cell_here"] spBox := ok_box Fb mmx
  refine FnG.of_body F scLaw (fun vs H Q E h => ?_) (fun cdv A outer s H vs Q E hg hr h => ?_)
  · obtain ⟨a, ns, rfl, _⟩ := h
    rfl
  · obtain ⟨a, ns, rfl, hS, hl, q⟩ := h
    have hr1 := hr.mono (show 1 ≤ 12 by decide)
    have hr3 := hr.mono (show 3 ≤ 12 by decide)
    have hr8 := hr.mono (show 8 ≤ 12 by decide)
    refine ⟨_, pss_cons (ps_for PassesOwn.never rfl (pi_range1 rfl mr (pa_cons (pe_callB (call_max2 rfl) (by rfl) mmx (by decide +kernel) (pa_cons pe_int (pa_cons (pe_callB (call_min2 rfl) (by rfl) mmn (by decide +kernel)
          (pa_cons (pe_callB call_len_seq (by rfl) ml PySem.boot_len (pa_cons (pv 0) pa_nil)) (pa_cons pe_int pa_nil))) pa_nil))) pa_nil)) (pg_name (i := 1) scLaw.nd rfl (.inl rfl))
        (pss_cons (ps_set (i := 2) scLaw.nd rfl (.inl rfl) (pe_call Gb hr1 rfl gb Fb.kp bb .nil pass0 (pa_cons (pe_call Gc hr1 rfl gc Fc.kp bc .nil pass0 (pa_cons (pv 0) (pa_cons (pv 1) pa_nil))) pa_nil)))
        (pss_cons (ps_set (i := 3) scLaw.nd rfl (.inl rfl) (pe_call Gn hr3 rfl gn kn bn .nil pass0 (pa_cons (pv 2) (pa_cons pe_int pa_nil))))
        (pss_cons (ps_set (i := 4) scLaw.nd rfl (.inl rfl) (pe_call Gn hr3 rfl gn kn bn .nil pass0 (pa_cons (pv 2) (pa_cons pe_int pa_nil))))
        (pss_cons (ps_if (PW.pt (pw_or (pt_not (pt_val (pe_call GR hr8 rfl gR kR bR .nil pass0 (pa_cons (pv 2) (pa_cons (pv 4) (pa_cons (pv 3) pa_nil)))))) (pw_or1 (pt_not (pt_val (pe_call GA hr8 rfl gA kA bA .nil pass0 (pa_cons (pv 2) (pa_cons (pv 4) pa_nil)))))))) (pss_one (ps_ret pe_bl)) pss_nil)
        (pss_one (ps_if (pt_not (pt_val (pe_call GM hr rfl gM kM bM .nil pass0 (pa_cons (pv 2) (pa_cons (pv 4) (pa_cons (pe_ix (r := rIxL K) ix_list (pv 3) pe_int (fun _ _ => rfl)) pa_nil)))))) (pss_one (ps_ret pe_bl)) pss_nil)))))))
      (pss_one (ps_ret pe_bl)), ?_⟩
    refine ⟨_, rfl, a, _, rfl, .inl hS, _, _, rfl, _, _, rfl, ?_⟩
    generalize hm : (if (if (8 : Int) < ((ns.map V.int).length : Int) then (8 : Int) else ((ns.map V.int).length : Int)) > 2 then (if (8 : Int) < ((ns.map V.int).length : Int) then (8 : Int) else ((ns.map V.int).length : Int)) else 2) = m
    have hm8 : 0 ≤ m ∧ m ≤ 8 := by
      rw [← hm]
      split <;> split at * <;> omega
    refine ⟨m, rfl, by omega, by omega, ?_⟩
    refine for_range (lo := 0) (n := m.toNat) (fun i σ H' => Same H H' ∧ ∃ x1 x2 x3 x4 : Option V, σ = [some (.ref a), x1, x2, x3, x4]) ?_ ?_ ?_
    · exact ⟨Same.refl H, none, none, none, none, rfl⟩
    · rintro i σ H1 hi ⟨s1, x1, x2, x3, x4, rfl⟩
      refine ⟨_, rfl, _, rfl, a, ns, 0 + i, rfl, sqL_same hS s1, by omega, by omega, fun cell => ⟨cell, rfl, fun b H2 nb s2 B2 => ?_⟩⟩
      refine ⟨_, rfl, _, 2, 0, rfl, B2, by decide, by decide, fun np H3 zs l2 nm nd2 np3 e3 B3 k3 => ?_⟩
      refine ⟨_, rfl, _, 7, 0 + 11 + 2, rfl, B3, by decide, by decide, fun fp H4 ys l7 nf nd7 np4 e4 B4 k4 => ?_⟩
      have N3 : Nm H3 np zs := ⟨e3, by omega, by omega, nm⟩
      have N4 := N3.but B3 k4
      have F4 : Nm H4 fp ys := ⟨e4, by omega, by omega, nf⟩
      obtain ⟨y0, yr, rfl⟩ : ∃ y0 yr, zs = y0 :: yr := by
        match zs, l2 with
        | [y0, y1], _ => exact ⟨y0, [y1], rfl⟩
      obtain ⟨f0, f1, fr, rfl⟩ : ∃ f0 f1 fr, ys = f0 :: f1 :: fr := by
        match ys, l7 with
        | f0 :: f1 :: fr, _ => exact ⟨f0, f1, fr, rfl⟩
      refine ⟨_, rfl, _, rfl, _, rfl, b, fp, np, _, f0, f1, y0, fr, yr, rfl, B4, by decide, F4, N4, fun H5 B5 k5 => ⟨_, rfl, iteF ?_⟩⟩
      have F5 := F4.but B4 k5
      have N5 := N4.but B4 k5
      refine ⟨_, rfl, _, rfl, b, fp, _, f0, _, rfl, B5, by decide, F5, fun H6 B6 k6 => ⟨_, rfl, iteF ?_⟩⟩
      have F6 := F5.but B5 k6
      have N6 := N5.but B5 k6
      refine ⟨_, rfl, _, rfl, _, rfl, np, _, ((0 : Nat) : Int), .str y0, rfl, rfl, .of N6.at_, atI_nat (j := 0) rfl, b, fp, y0, _, _, rfl, B6, by decide, F6, l7, nd7, nm y0 List.mem_cons_self, fun H7 B7 k7 => ⟨_, rfl, iteF ?_⟩⟩
      have k27 : But b H2 H7 := (((k3.trans k4).trans k5).trans k6).trans k7
      exact ⟨s1.trans fun c o e => k27 c o (ne_of_none e nb) (s2 c o e), _, _, _, _, rfl⟩
    · rintro σ H1 ⟨s1, x1, x2, x3, x4, rfl⟩
      exact q H1
end
end G

set_option Elab.async false
set_option linter.all false
set_option maxRecDepth 100000
set_option maxHeartbeats 2000000
/-! HK2: FunX and SupOf by the Hook. -/
namespace G
open PySem PySem.Spec PyProof.Rows L2 NdefX StX He
theorem funx_of {P : Program} {K : PySem.W.Frag} {d : Dp} {a C f2 : Addr} {x : Str} (D : ClsDef P K d a C) (hx : ∃ ar, ((defArgs d.st).posonlyargs ++ (defArgs d.st).args).head? = some ar ∧ ar.arg = x) (s : supB K C f2 = true)
    (top : (P.main.scope.names.lookup ("super" : Str)).isSome = false) :
    ∃ cda cc fd, FunX K d.name d.qual d.st a cda cc (kwV K a) fd ∧ SupOf P K a cda cc C C f2 x := by
  obtain ⟨oc, od, doc, pm, ct, an, osl, cda, cc, oc3, od3, sl3, oc2, od2, vs, sl2, fl, tf, h1, h2, h3, h4, h5, h6⟩ := D.ex
  obtain ⟨s1, s⟩ := ba s
  obtain ⟨s2, s⟩ := ba s
  obtain ⟨s3, s⟩ := ba s
  obtain ⟨s4, s⟩ := ba s
  obtain ⟨s5, s6⟩ := ba s
  obtain ⟨cd, hcd⟩ := Option.isSome_iff_exists.mp s1
  obtain ⟨ar, e1, e2⟩ := hx
  rw [Array.getElem?_toList] at h5
  exact ⟨cda, cc, _, ⟨⟨oc, od, doc, pm, an, ct, osl, rfl, h1, h2⟩, ⟨oc3, od3, sl3, _, h3⟩⟩,
    ⟨⟨oc, od, _, osl, ar, h1, e1, e2⟩, ⟨oc2, od2, vs, sl2, fl, tf, h4, h5, h6⟩, ⟨oc3, od3, sl3, h3⟩, ⟨cd, hcd⟩, ⟨cd, hcd⟩, of_decide_eq_true s2, eqO_ok s3, eqO_ok s4, of_decide_eq_true s5, s6, top⟩⟩
theorem nsint_of {K : PySem.W.Frag} {D : Addr} {x : Str} {i : Int} (h : intB K D x i = true) : ∃ t, PySem.W.nsIn K D x = some (some (.int i t)) := by
  unfold intB at h
  split at h
  · rename_i j t e
    rw [of_decide_eq_true h] at e
    exact ⟨t, e⟩
  · cases h
theorem btwDef_of {K : PySem.W.Frag} {v : Value} (h : btwDefB K v = true) : ∃ D, v = .ref D ∧ BtwDef K D := by
  unfold btwDefB at h
  split at h
  · rename_i D
    obtain ⟨h1, h2⟩ := ba h
    exact ⟨D, rfl, nsint_of h1, nsint_of h2⟩
  · cases h
end G

set_option Elab.async false
set_option linter.all false
set_option maxRecDepth 100000
set_option maxHeartbeats 2000000
/-! DA: what is said of the five classes, put together. -/
namespace G
open PySem PySem.Spec PyProof.Rows L2 NdefX StX He
section
variable {P : Program} {w : World} {K : PySem.W.Frag} {mg : Str → Option Value} {base : Heap} {c : Cs} {D : Addr}
/-- a sign's method of the class at C -/
def OpOf (P : Program) (w : World) (K : PySem.W.Frag) (mg : Str → Option Value) (base : Heap) (C : Addr) (op : Operator) (sp : Sp) : Prop := ∃ (f : Addr) (fd : FuncData), OpO K C op f ∧ Binds K fd ["self", "other"] [] ∧ FnOk P w K mg base CX0 5 f fd ["self", "other"] sp
theorem polyO {C C2 : Addr} {op : Operator} {sp : Sp} (a : OpOf P w K mg base C op sp) (b : OpOf P w K mg base C2 op sp) (h : C = C2 ∨ PySem.W.subIn K (.ref C2) (.ref C) = some false) : PolyO P w K mg base 5 C C2 op sp := by
  obtain ⟨f, fd, o1, b1, g1⟩ := a
  obtain ⟨g, _, o2, _, _⟩ := b
  exact ⟨f, g, fd, _, o1, o2, h, b1, g1⟩
end
/-! ### facts -/
theorem cond_ok {K : PySem.W.Frag} {D C : Addr} (h : condB K D C = true) (cl : Cls K C) (n1 : NoAttr K C "leaf_count") (n2 : NoAttr K C "height") (n3 : NoAttr K C "name_count") : CondC K D C := by
  obtain ⟨c1, h⟩ := ba h
  obtain ⟨c2, h⟩ := ba h
  obtain ⟨c3, h⟩ := ba h
  obtain ⟨c4, c5⟩ := ba h
  exact ⟨cl, n1, n2, n3, eqO_ok c1, eqO_ok c2, of_decide_eq_true c3, of_decide_eq_true c4, of_decide_eq_true c5⟩
theorem op_ok {K : PySem.W.Frag} {C f : Addr} {op : Operator} (h : opB K C op f = true) : OpO K C op f := by
  obtain ⟨c1, h⟩ := ba h
  obtain ⟨c2, h⟩ := ba h
  obtain ⟨c3, c4⟩ := ba h
  exact ⟨c1, eqO_ok c2, c3, eqO_ok c4⟩
theorem eqo_ok {K : PySem.W.Frag} {C f : Addr} (h : eqoB K C f = true) : EqO K C f := by
  obtain ⟨c1, h⟩ := ba h
  obtain ⟨c2, h⟩ := ba h
  obtain ⟨c3, c4⟩ := ba h
  exact ⟨eqO_ok c1, c2, eqO_ok c3, of_decide_eq_true c4⟩
theorem five_mem {i : Nat} (h : i < 5) : i ∈ five := by
  match i, h with
  | 0, _ => decide
  | 1, _ => decide
  | 2, _ => decide
  | 3, _ => decide
  | 4, _ => decide
theorem eqk_ok {K : PySem.W.Frag} {c : Cs} (h1 : kitB K c = true) (h2 : kitTB K c = true) (h3 : nofB K c = true) (h4 : nofTB K c = true) : EqK K c :=
  ⟨fun i j hi hj => of_decide_eq_true (List.all_eq_true.mp (List.all_eq_true.mp h1 i (five_mem hi)) j (five_mem hj)), fun T hT j hj => of_decide_eq_true (List.all_eq_true.mp (List.all_eq_true.mp h2 T hT) j (five_mem hj)),
    fun i j hi hj => List.all_eq_true.mp (List.all_eq_true.mp h3 i (five_mem hi)) j (five_mem hj), fun T hT j hj => List.all_eq_true.mp (List.all_eq_true.mp h4 T hT) j (five_mem hj)⟩
end G

set_option Elab.async false
set_option linter.all false
set_option maxRecDepth 100000
set_option maxHeartbeats 8000000
/-! XA: what the top has written. -/
namespace G
open PySem PySem.Spec PyProof.Rows L2 NdefX StX
theorem fx_binds {K : PySem.W.Frag} {x qual : Str} {st : Stmt} {f cda cc : Addr} {kV : Value} {fd : FuncData} {ps : List Str} (F : FunX K x qual st f cda cc kV fd)
    (h : ∀ (kV doc pm : Value) (an : Option Addr) (cdv ct : Value) (cc : Addr) (us : List Value), us.length = ps.length → bindArgs (PySem.W.ksFn x qual (defArgs st) (defBody st) (defScope st) .none kV doc pm an cdv ct cc) ⟨us, []⟩ = pure (ps.zip us)) : Binds K fd ps [] := by
  obtain ⟨oc, od, doc, pm, an, ct, osl, rfl, lk, hcd⟩ := F.ex
  intro s us _ hl
  rw [List.append_nil] at hl ⊢
  exact .of_eq (h _ _ _ _ _ _ _ us hl)
theorem facts {w : World} {K : PySem.W.Frag} {h : Heap} {mg : Str → Option Value} {fa : Addr} (X : K.In h) (G : h.Ns mainGlobals mg) (hfa : mg "law" = some (.ref fa)) (c : SaysP cks fns K) :
    ∃ fd : FuncData, (∀ (s : Shared) (u : Value), BindsTo s fd ⟨[u], []⟩ [("_law_script", u)]) ∧ ∀ base : Heap, K.In base → base.Ns mainGlobals mg → FnG PX w K mg base CX0 13 fa fd ["_law_script"] (spLaw K) := by
  have m_isinstance : mg "isinstance" = none := He.free_ok X G (c.ck 0 rfl)
  have m_int : mg "int" = none := He.free_ok X G (c.ck 1 rfl)
  have m_bool : mg "bool" = none := He.free_ok X G (c.ck 2 rfl)
  have m_str : mg "str" = none := He.free_ok X G (c.ck 3 rfl)
  have m_dict : mg "dict" = none := He.free_ok X G (c.ck 4 rfl)
  have m_len : mg "len" = none := He.free_ok X G (c.ck 5 rfl)
  have m_all : mg "all" = none := He.free_ok X G (c.ck 6 rfl)
  have m_any : mg "any" = none := He.free_ok X G (c.ck 7 rfl)
  have m_list : mg "list" = none := He.free_ok X G (c.ck 8 rfl)
  have m_range : mg "range" = none := He.free_ok X G (c.ck 9 rfl)
  have m_min : mg "min" = none := He.free_ok X G (c.ck 10 rfl)
  have m_max : mg "max" = none := He.free_ok X G (c.ck 11 rfl)
  have m_tuple : mg "tuple" = none := He.free_ok X G (c.ck 12 rfl)
  have m_super : mg "super" = none := He.free_ok X G (c.ck 13 rfl)
  have m_sum : mg "sum" = none := He.free_ok X G (c.ck 14 rfl)
  have m_sorted : mg "sorted" = none := He.free_ok X G (c.ck 15 rfl)
  have m_set : mg "set" = none := He.free_ok X G (c.ck 16 rfl)
  obtain ⟨tcLet, gcLet⟩ := He.str_ok X G (x := "LETTERS") (c.ck 17 rfl)
  obtain ⟨tcML, gcML⟩ := He.int_ok X G (x := "MOST_LETTERS") (c.ck 18 rfl)
  obtain ⟨tcMF, gcMF⟩ := He.int_ok X G (x := "MOST_FIELDS") (c.ck 19 rfl)
  obtain ⟨tcG, gcG⟩ := He.int_ok X G (x := "GREATEST") (c.ck 20 rfl)
  obtain ⟨tcL, gcL⟩ := He.int_ok X G (x := "MOST_LEAVES") (c.ck 21 rfl)
  obtain ⟨tcD, gcD⟩ := He.int_ok X G (x := "MOST_DEPTH") (c.ck 22 rfl)
  obtain ⟨tcN, gcN⟩ := He.int_ok X G (x := "MOST_NAMES") (c.ck 23 rfl)
  obtain ⟨fd1, F1⟩ : ∃ fd, Fun K "is_integer" "is_integer" sIsInt (He.ga K "is_integer") fd := fun_of (c.at_ 0 rfl) rfl (c.ck 24 rfl)
  have b1 := F1.binds (ps := ["value", "low", "high"]) fun _ _ _ _ _ _ us hl => match us, hl with | [_, _, _], _ => rfl
  have g1 : mg "is_integer" = some (.ref (He.ga K "is_integer")) := He.glo_ok X G (c.ck 25 rfl)
  have k1 := F1.kp
  obtain ⟨fd2, F2⟩ : ∃ fd, Fun K "is_name" "is_name" sIsName (He.ga K "is_name") fd := fun_of (c.at_ 1 rfl) rfl (c.ck 26 rfl)
  have b2 := F2.binds (ps := ["value"]) fun _ _ _ _ _ _ us hl => match us, hl with | [_], _ => rfl
  have g2 : mg "is_name" = some (.ref (He.ga K "is_name")) := He.glo_ok X G (c.ck 27 rfl)
  have k2 := F2.kp
  obtain ⟨fd3, F3⟩ : ∃ fd, Fun K "is_value" "is_value" sIsValue (He.ga K "is_value") fd := fun_of (c.at_ 2 rfl) rfl (c.ck 28 rfl)
  have b3 := F3.binds (ps := ["value"]) fun _ _ _ _ _ _ us hl => match us, hl with | [_], _ => rfl
  have g3 : mg "is_value" = some (.ref (He.ga K "is_value")) := He.glo_ok X G (c.ck 29 rfl)
  have k3 := F3.kp
  obtain ⟨fd4, F4⟩ : ∃ fd, Fun K "need_integer" "need_integer" sNeedInt (He.ga K "need_integer") fd := fun_of (c.at_ 3 rfl) rfl (c.ck 30 rfl)
  have b4 := F4.binds (ps := ["value", "low", "high"]) fun _ _ _ _ _ _ us hl => match us, hl with | [_, _, _], _ => rfl
  have g4 : mg "need_integer" = some (.ref (He.ga K "need_integer")) := He.glo_ok X G (c.ck 31 rfl)
  have k4 := F4.kp
  obtain ⟨fd5, F5⟩ : ∃ fd, Fun K "need_name" "need_name" sNeedName (He.ga K "need_name") fd := fun_of (c.at_ 4 rfl) rfl (c.ck 32 rfl)
  have b5 := F5.binds (ps := ["value"]) fun _ _ _ _ _ _ us hl => match us, hl with | [_], _ => rfl
  have g5 : mg "need_name" = some (.ref (He.ga K "need_name")) := He.glo_ok X G (c.ck 33 rfl)
  have k5 := F5.kp
  obtain ⟨fdnc, Fnc⟩ : ∃ fd, Fun K "need_condition" "need_condition" sNeedCond (He.ga K "need_condition") fd := fun_of (c.at_ 5 rfl) rfl (c.ck 34 rfl)
  have bnc := Fnc.binds (ps := ["value"]) fun _ _ _ _ _ _ us hl => match us, hl with | [_], _ => rfl
  have gnc : mg "need_condition" = some (.ref (He.ga K "need_condition")) := He.glo_ok X G (c.ck 35 rfl)
  have knc := Fnc.kp
  obtain ⟨fdsz, Fsz⟩ : ∃ fd, Fun K "sizes_of_pair" "sizes_of_pair" sSizes (He.ga K "sizes_of_pair") fd := fun_of (c.at_ 6 rfl) rfl (c.ck 36 rfl)
  have bsz := Fsz.binds (ps := ["one", "other"]) fun _ _ _ _ _ _ us hl => match us, hl with | [_, _], _ => rfl
  have gsz : mg "sizes_of_pair" = some (.ref (He.ga K "sizes_of_pair")) := He.glo_ok X G (c.ck 37 rfl)
  have ksz := Fsz.kp
  obtain ⟨fduu, Fuu⟩ : ∃ fd, Fun K "unused_name" "unused_name" sUnused (He.ga K "unused_name") fd := fun_of (c.at_ 7 rfl) rfl (c.ck 38 rfl)
  have buu := Fuu.binds (ps := ["names"]) fun _ _ _ _ _ _ us hl => match us, hl with | [_], _ => rfl
  have guu : mg "unused_name" = some (.ref (He.ga K "unused_name")) := He.glo_ok X G (c.ck 39 rfl)
  have kuu := Fuu.kp
  obtain ⟨fdcn, Fcn⟩ : ∃ fd, Fun K "candidate_numbers" "candidate_numbers" sNums (He.ga K "candidate_numbers") fd := fun_of (c.at_ 8 rfl) rfl (c.ck 40 rfl)
  have bcn := Fcn.binds (ps := ["ranges"]) fun _ _ _ _ _ _ us hl => match us, hl with | [_], _ => rfl
  have gcn : mg "candidate_numbers" = some (.ref (He.ga K "candidate_numbers")) := He.glo_ok X G (c.ck 41 rfl)
  have kcn := Fcn.kp
  obtain ⟨fdck, Fck⟩ : ∃ fd, Fun K "candidate_keys" "candidate_keys" sKeys (He.ga K "candidate_keys") fd := fun_of (c.at_ 9 rfl) rfl (c.ck 42 rfl)
  have bck := Fck.binds (ps := ["groups"]) fun _ _ _ _ _ _ us hl => match us, hl with | [_], _ => rfl
  have gck : mg "candidate_keys" = some (.ref (He.ga K "candidate_keys")) := He.glo_ok X G (c.ck 43 rfl)
  have kck := Fck.kp
  obtain ⟨fdcv, Fcv⟩ : ∃ fd, Fun K "candidate_values" "candidate_values" sVals (He.ga K "candidate_values") fd := fun_of (c.at_ 10 rfl) rfl (c.ck 44 rfl)
  have bcv := Fcv.binds (ps := ["bounds"]) fun _ _ _ _ _ _ us hl => match us, hl with | [_], _ => rfl
  have gcv : mg "candidate_values" = some (.ref (He.ga K "candidate_values")) := He.glo_ok X G (c.ck 45 rfl)
  have kcv := Fcv.kp
  obtain ⟨fdcr, Fcr⟩ : ∃ fd, Fun K "candidate_records" "candidate_records" sCRec (He.ga K "candidate_records") fd := fun_of (c.at_ 11 rfl) rfl (c.ck 46 rfl)
  have bcr := Fcr.binds (ps := ["bounds", "groups"]) fun _ _ _ _ _ _ us hl => match us, hl with | [_, _], _ => rfl
  have gcr : mg "candidate_records" = some (.ref (He.ga K "candidate_records")) := He.glo_ok X G (c.ck 47 rfl)
  have kcr := Fcr.kp
  obtain ⟨fdpg, Fpg⟩ : ∃ fd, Fun K "parting" "parting" sParting (He.ga K "parting") fd := fun_of (c.at_ 12 rfl) rfl (c.ck 48 rfl)
  have bpg := Fpg.binds (ps := ["one", "other"]) fun _ _ _ _ _ _ us hl => match us, hl with | [_, _], _ => rfl
  have gpg : mg "parting" = some (.ref (He.ga K "parting")) := He.glo_ok X G (c.ck 49 rfl)
  have kpg := Fpg.kp
  obtain ⟨fdip, Fip⟩ : ∃ fd, Fun K "is_parting" "is_parting" sIsPart (He.ga K "is_parting") fd := fun_of (c.at_ 13 rfl) rfl (c.ck 50 rfl)
  have bip := Fip.binds (ps := ["one", "other", "found"]) fun _ _ _ _ _ _ us hl => match us, hl with | [_, _, _], _ => rfl
  have gip : mg "is_parting" = some (.ref (He.ga K "is_parting")) := He.glo_ok X G (c.ck 51 rfl)
  have kip := Fip.kp
  obtain ⟨fd8, F8⟩ : ∃ fd, Fun K "_law_cell" "_law_cell" sCell (He.ga K "_law_cell") fd := fun_of (c.at_ 14 rfl) rfl (c.ck 52 rfl)
  have b8 := F8.binds (ps := ["_law_script", "_law_k"]) fun _ _ _ _ _ _ us hl => match us, hl with | [_, _], _ => rfl
  have g8 : mg "_law_cell" = some (.ref (He.ga K "_law_cell")) := He.glo_ok X G (c.ck 53 rfl)
  have k8 := F8.kp
  obtain ⟨fd9, F9⟩ : ∃ fd, Fun K "_law_box" "_law_box" sBox (He.ga K "_law_box") fd := fun_of (c.at_ 15 rfl) rfl (c.ck 54 rfl)
  have b9 := F9.binds (ps := ["_law_cell_here"]) fun _ _ _ _ _ _ us hl => match us, hl with | [_], _ => rfl
  have g9 : mg "_law_box" = some (.ref (He.ga K "_law_box")) := He.glo_ok X G (c.ck 55 rfl)
  have k9 := F9.kp
  obtain ⟨fdA, FA⟩ : ∃ fd, Fun K "_law_take" "_law_take" sTake (He.ga K "_law_take") fd := fun_of (c.at_ 16 rfl) rfl (c.ck 56 rfl)
  have bA := FA.binds (ps := ["_law_box_here", "_law_many"]) fun _ _ _ _ _ _ us hl => match us, hl with | [_, _], _ => rfl
  have gA : mg "_law_take" = some (.ref (He.ga K "_law_take")) := He.glo_ok X G (c.ck 57 rfl)
  have kA := FA.kp
  obtain ⟨fdB, FB⟩ : ∃ fd, Fun K "_law_mixed" "_law_mixed" sMixed (He.ga K "_law_mixed") fd := fun_of (c.at_ 17 rfl) rfl (c.ck 58 rfl)
  have bB := FB.binds (ps := ["_law_box_here", "_law_some"]) fun _ _ _ _ _ _ us hl => match us, hl with | [_, _], _ => rfl
  have gB : mg "_law_mixed" = some (.ref (He.ga K "_law_mixed")) := He.glo_ok X G (c.ck 59 rfl)
  have kB := FB.kp
  obtain ⟨fdC, FC⟩ : ∃ fd, Fun K "_law_names" "_law_names" sNames (He.ga K "_law_names") fd := fun_of (c.at_ 18 rfl) rfl (c.ck 60 rfl)
  have bC := FC.binds (ps := ["_law_box_here", "_law_many"]) fun _ _ _ _ _ _ us hl => match us, hl with | [_, _], _ => rfl
  have gC : mg "_law_names" = some (.ref (He.ga K "_law_names")) := He.glo_ok X G (c.ck 61 rfl)
  have kC := FC.kp
  obtain ⟨fdD, FD⟩ : ∃ fd, Fun K "_law_number" "_law_number" sNumber (He.ga K "_law_number") fd := fun_of (c.at_ 19 rfl) rfl (c.ck 62 rfl)
  have bD := FD.binds (ps := ["_law_box_here"]) fun _ _ _ _ _ _ us hl => match us, hl with | [_], _ => rfl
  have gD : mg "_law_number" = some (.ref (He.ga K "_law_number")) := He.glo_ok X G (c.ck 63 rfl)
  have kD := FD.kp
  obtain ⟨fdF, FF⟩ : ∃ fd, Fun K "_law_named" "_law_named" sNamed (He.ga K "_law_named") fd := fun_of (c.at_ 20 rfl) rfl (c.ck 64 rfl)
  have bF := FF.binds (ps := ["_law_some"]) fun _ _ _ _ _ _ us hl => match us, hl with | [_], _ => rfl
  have gF : mg "_law_named" = some (.ref (He.ga K "_law_named")) := He.glo_ok X G (c.ck 65 rfl)
  have kF := FF.kp
  obtain ⟨fdbu, Fbu⟩ : ∃ fd, Fun K "_law_built" "_law_built" sBuilt (He.ga K "_law_built") fd := fun_of (c.at_ 21 rfl) rfl (c.ck 66 rfl)
  have bbu := Fbu.binds (ps := ["_law_box_here", "_law_model"]) fun _ _ _ _ _ _ us hl => match us, hl with | [_, _], _ => rfl
  have gbu : mg "_law_built" = some (.ref (He.ga K "_law_built")) := He.glo_ok X G (c.ck 67 rfl)
  have kbu := Fbu.kp
  obtain ⟨fdho, Fho⟩ : ∃ fd, Fun K "_law_holds" "_law_holds" sLHolds (He.ga K "_law_holds") fd := fun_of (c.at_ 22 rfl) rfl (c.ck 68 rfl)
  have bho := Fho.binds (ps := ["_law_model", "_law_key", "_law_value"]) fun _ _ _ _ _ _ us hl => match us, hl with | [_, _, _], _ => rfl
  have gho : mg "_law_holds" = some (.ref (He.ga K "_law_holds")) := He.glo_ok X G (c.ck 69 rfl)
  have kho := Fho.kp
  obtain ⟨fdln, Fln⟩ : ∃ fd, Fun K "_law_is_name" "_law_is_name" sLIsName (He.ga K "_law_is_name") fd := fun_of (c.at_ 23 rfl) rfl (c.ck 70 rfl)
  have bln := Fln.binds (ps := ["_law_thing"]) fun _ _ _ _ _ _ us hl => match us, hl with | [_], _ => rfl
  have gln : mg "_law_is_name" = some (.ref (He.ga K "_law_is_name")) := He.glo_ok X G (c.ck 71 rfl)
  have kln := Fln.kp
  obtain ⟨fdlm, Flm⟩ : ∃ fd, Fun K "_law_is_number" "_law_is_number" sLIsNum (He.ga K "_law_is_number") fd := fun_of (c.at_ 24 rfl) rfl (c.ck 72 rfl)
  have blm := Flm.binds (ps := ["_law_thing", "_law_small", "_law_great"]) fun _ _ _ _ _ _ us hl => match us, hl with | [_, _, _], _ => rfl
  have glm : mg "_law_is_number" = some (.ref (He.ga K "_law_is_number")) := He.glo_ok X G (c.ck 73 rfl)
  have klm := Flm.kp
  obtain ⟨fdlv, Flv⟩ : ∃ fd, Fun K "_law_is_value" "_law_is_value" sLIsVal (He.ga K "_law_is_value") fd := fun_of (c.at_ 25 rfl) rfl (c.ck 74 rfl)
  have blv := Flv.binds (ps := ["_law_thing"]) fun _ _ _ _ _ _ us hl => match us, hl with | [_], _ => rfl
  have glv : mg "_law_is_value" = some (.ref (He.ga K "_law_is_value")) := He.glo_ok X G (c.ck 75 rfl)
  have klv := Flv.kp
  obtain ⟨fdlp, Flp⟩ : ∃ fd, Fun K "_law_parted" "_law_parted" sLPart (He.ga K "_law_parted") fd := fun_of (c.at_ 26 rfl) rfl (c.ck 76 rfl)
  have blp := Flp.binds (ps := ["_law_one", "_law_other", "_law_found"]) fun _ _ _ _ _ _ us hl => match us, hl with | [_, _, _], _ => rfl
  have glp : mg "_law_parted" = some (.ref (He.ga K "_law_parted")) := He.glo_ok X G (c.ck 77 rfl)
  have klp := Flp.kp
  obtain ⟨fdcu, Fcu⟩ : ∃ fd, Fun K "_law_cuts" "_law_cuts" sCuts (He.ga K "_law_cuts") fd := fun_of (c.at_ 27 rfl) rfl (c.ck 78 rfl)
  have bcu := Fcu.binds (ps := ["_law_box_here", "_law_small", "_law_great"]) fun _ _ _ _ _ _ us hl => match us, hl with | [_, _, _], _ => rfl
  have gcu : mg "_law_cuts" = some (.ref (He.ga K "_law_cuts")) := He.glo_ok X G (c.ck 79 rfl)
  have kcu := Fcu.kp
  obtain ⟨fdri, Fri⟩ : ∃ fd, Fun K "_law_right" "_law_right" sRi (He.ga K "_law_right") fd := fun_of (c.at_ 28 rfl) rfl (c.ck 80 rfl)
  have bri := Fri.binds (ps := ["_law_box_here", "_law_fields", "_law_names_here"]) fun _ _ _ _ _ _ us hl => match us, hl with | [_, _, _], _ => rfl
  have gri : mg "_law_right" = some (.ref (He.ga K "_law_right")) := He.glo_ok X G (c.ck 81 rfl)
  have kri := Fri.kp
  obtain ⟨fdar, Far⟩ : ∃ fd, Fun K "_law_all_right" "_law_all_right" sAr (He.ga K "_law_all_right") fd := fun_of (c.at_ 29 rfl) rfl (c.ck 82 rfl)
  have bar := Far.binds (ps := ["_law_box_here", "_law_fields"]) fun _ _ _ _ _ _ us hl => match us, hl with | [_, _], _ => rfl
  have gar : mg "_law_all_right" = some (.ref (He.ga K "_law_all_right")) := He.glo_ok X G (c.ck 83 rfl)
  have kar := Far.kp
  obtain ⟨fdmr, Fmr⟩ : ∃ fd, Fun K "_law_many_right" "_law_many_right" sMr (He.ga K "_law_many_right") fd := fun_of (c.at_ 30 rfl) rfl (c.ck 84 rfl)
  have bmr := Fmr.binds (ps := ["_law_box_here", "_law_fields", "_law_name"]) fun _ _ _ _ _ _ us hl => match us, hl with | [_, _, _], _ => rfl
  have gmr : mg "_law_many_right" = some (.ref (He.ga K "_law_many_right")) := He.glo_ok X G (c.ck 85 rfl)
  have kmr := Fmr.kp
  obtain ⟨fdL, FL⟩ : ∃ fd, Fun K "law" "law" sLaw (He.ga K "law") fd := fun_of (c.at_ 31 rfl) rfl (c.ck 86 rfl)
  have bL := FL.binds (ps := ["_law_script"]) fun _ _ _ _ _ _ us hl => match us, hl with | [_], _ => rfl
  have gL : mg "law" = some (.ref (He.ga K "law")) := He.glo_ok X G (c.ck 87 rfl)
  have kL := FL.kp
  have gcond : mg "Condition" = some (.ref (He.ga K "Condition")) := He.glo_ok X G (c.ck 88 rfl)
  obtain ⟨fdci, Fci⟩ : ∃ fd, Fun K "__init__" "Condition.__init__" sCondInit (He.ma K (He.ga K "Condition") "__init__") fd := fun_of (c.at_ 32 rfl) rfl (c.ck 89 rfl)
  have bci := Fci.binds (ps := ["self", "leaf_count", "height", "name_count"]) fun _ _ _ _ _ _ us hl => match us, hl with | [_, _, _, _], _ => rfl
  have gbt : mg "Between" = some (.ref (He.ga K "Between")) := He.glo_ok X G (c.ck 90 rfl)
  have cbt : Cls K (He.ga K "Between") := He.cls_ok (c.ck 91 rfl)
  have nbt_leaf_count : NoAttr K (He.ga K "Between") "leaf_count" := He.noat_ok (c.ck 92 rfl)
  have nbt_height : NoAttr K (He.ga K "Between") "height" := He.noat_ok (c.ck 93 rfl)
  have nbt_name_count : NoAttr K (He.ga K "Between") "name_count" := He.noat_ok (c.ck 94 rfl)
  have nbt_field_name : NoAttr K (He.ga K "Between") "field_name" := He.noat_ok (c.ck 95 rfl)
  have nbt_lowest : NoAttr K (He.ga K "Between") "lowest" := He.noat_ok (c.ck 96 rfl)
  have nbt_highest : NoAttr K (He.ga K "Between") "highest" := He.noat_ok (c.ck 97 rfl)
  have Mbt : Mk K (He.ga K "Between") (He.ma K (He.ga K "Between") "__init__") := He.mkr_ok (c.ck 98 rfl)
  have Dbt : ClsDef PX K ⟨fun K => He.ma K (He.ga K "Between") "__init__", "__init__", "Between.__init__", sBtwInit, ["__class__"]⟩ (He.ma K (He.ga K "Between") "__init__") (He.ga K "Between") := clsdef_of (c.at_ 33 rfl) rfl (c.ck 99 rfl)
  obtain ⟨cdabt, ccbt, fdbt, FXbt, Sbt⟩ := funx_of Dbt (x := "self") ⟨_, rfl, rfl⟩ (c.ck 100 rfl) (show (PX.main.scope.names.lookup ("super" : Str)).isSome = false from rfl)
  have ccbt : CondC K (He.ga K "Condition") (He.ga K "Between") := cond_ok (c.ck 101 rfl) cbt nbt_leaf_count nbt_height nbt_name_count
  obtain ⟨fdbtho, Fbtho⟩ : ∃ fd, Fun K "holds" "Between.holds" (sBtw 5) (He.ma K (He.ga K "Between") "holds") fd := fun_of (c.at_ 34 rfl) rfl (c.ck 102 rfl)
  have bbtho := Fbtho.binds (ps := ["self", "key", "value"]) fun _ _ _ _ _ _ us hl => match us, hl with | [_, _, _], _ => rfl
  have Mbtho : Meth K (He.ga K "Between") "holds" (He.ma K (He.ga K "Between") "holds") := He.meth_ok (c.ck 103 rfl)
  obtain ⟨fdbtal, Fbtal⟩ : ∃ fd, Fun K "all_leaves" "Leaf.all_leaves" sLeafAll (He.ma K (He.ga K "Between") "all_leaves") fd := fun_of (c.at_ 35 rfl) rfl (c.ck 104 rfl)
  have bbtal := Fbtal.binds (ps := ["self"]) fun _ _ _ _ _ _ us hl => match us, hl with | [_], _ => rfl
  have Mbtal : Meth K (He.ga K "Between") "all_leaves" (He.ma K (He.ga K "Between") "all_leaves") := He.meth_ok (c.ck 105 rfl)
  obtain ⟨fdbtpfield, Fbtpfield⟩ : ∃ fd, Fun K "field" "Between.field" (sBtw 1) (getr K (He.ma K (He.ga K "Between") "field")) fd := fun_of (c.at_ 36 rfl) rfl (c.ck 106 rfl)
  have bbtpfield := Fbtpfield.binds (ps := ["self"]) fun _ _ _ _ _ _ us hl => match us, hl with | [_], _ => rfl
  have Pbtpfield : PropOf K (He.ga K "Between") "field" (He.ma K (He.ga K "Between") "field") (getr K (He.ma K (He.ga K "Between") "field")) := pro_ok (c.ck 107 rfl)
  obtain ⟨fdbtplow, Fbtplow⟩ : ∃ fd, Fun K "low" "Between.low" (sBtw 2) (getr K (He.ma K (He.ga K "Between") "low")) fd := fun_of (c.at_ 37 rfl) rfl (c.ck 108 rfl)
  have bbtplow := Fbtplow.binds (ps := ["self"]) fun _ _ _ _ _ _ us hl => match us, hl with | [_], _ => rfl
  have Pbtplow : PropOf K (He.ga K "Between") "low" (He.ma K (He.ga K "Between") "low") (getr K (He.ma K (He.ga K "Between") "low")) := pro_ok (c.ck 109 rfl)
  obtain ⟨fdbtphigh, Fbtphigh⟩ : ∃ fd, Fun K "high" "Between.high" (sBtw 3) (getr K (He.ma K (He.ga K "Between") "high")) fd := fun_of (c.at_ 38 rfl) rfl (c.ck 110 rfl)
  have bbtphigh := Fbtphigh.binds (ps := ["self"]) fun _ _ _ _ _ _ us hl => match us, hl with | [_], _ => rfl
  have Pbtphigh : PropOf K (He.ga K "Between") "high" (He.ma K (He.ga K "Between") "high") (getr K (He.ma K (He.ga K "Between") "high")) := pro_ok (c.ck 111 rfl)
  obtain ⟨fdbtan, Fbtan⟩ : ∃ fd, Fun K "__and__" "Between.__and__" (sBtw 8) (He.ma K (He.ga K "Between") "__and__") fd := fun_of (c.at_ 39 rfl) rfl (c.ck 112 rfl)
  have bbtan := Fbtan.binds (ps := ["self", "other"]) fun _ _ _ _ _ _ us hl => match us, hl with | [_, _], _ => rfl
  have obtan : OpO K (He.ga K "Between") .BitAnd (He.ma K (He.ga K "Between") "__and__") := op_ok (c.ck 113 rfl)
  obtain ⟨fdbtorr, Fbtorr⟩ : ∃ fd, Fun K "__or__" "Between.__or__" (sBtw 9) (He.ma K (He.ga K "Between") "__or__") fd := fun_of (c.at_ 40 rfl) rfl (c.ck 114 rfl)
  have bbtorr := Fbtorr.binds (ps := ["self", "other"]) fun _ _ _ _ _ _ us hl => match us, hl with | [_, _], _ => rfl
  have obtorr : OpO K (He.ga K "Between") .BitOr (He.ma K (He.ga K "Between") "__or__") := op_ok (c.ck 115 rfl)
  obtain ⟨fdbtiv, Fbtiv⟩ : ∃ fd, Fun K "__invert__" "Between.__invert__" (sBtw 10) (He.ma K (He.ga K "Between") "__invert__") fd := fun_of (c.at_ 41 rfl) rfl (c.ck 116 rfl)
  have bbtiv := Fbtiv.binds (ps := ["self"]) fun _ _ _ _ _ _ us hl => match us, hl with | [_], _ => rfl
  obtain ⟨vibt, vfbt⟩ := He.ba (c.ck 117 rfl : invB K (He.ga K "Between") (He.ma K (He.ga K "Between") "__invert__") = true)
  have gnm : mg "Named" = some (.ref (He.ga K "Named")) := He.glo_ok X G (c.ck 118 rfl)
  have cnm : Cls K (He.ga K "Named") := He.cls_ok (c.ck 119 rfl)
  have nnm_leaf_count : NoAttr K (He.ga K "Named") "leaf_count" := He.noat_ok (c.ck 120 rfl)
  have nnm_height : NoAttr K (He.ga K "Named") "height" := He.noat_ok (c.ck 121 rfl)
  have nnm_name_count : NoAttr K (He.ga K "Named") "name_count" := He.noat_ok (c.ck 122 rfl)
  have nnm_accepted_names : NoAttr K (He.ga K "Named") "accepted_names" := He.noat_ok (c.ck 123 rfl)
  have Mnm : Mk K (He.ga K "Named") (He.ma K (He.ga K "Named") "__init__") := He.mkr_ok (c.ck 124 rfl)
  have Dnm : ClsDef PX K ⟨fun K => He.ma K (He.ga K "Named") "__init__", "__init__", "Named.__init__", sNamInit, ["__class__"]⟩ (He.ma K (He.ga K "Named") "__init__") (He.ga K "Named") := clsdef_of (c.at_ 42 rfl) rfl (c.ck 125 rfl)
  obtain ⟨cdanm, ccnm, fdnm, FXnm, Snm⟩ := funx_of Dnm (x := "self") ⟨_, rfl, rfl⟩ (c.ck 126 rfl) (show (PX.main.scope.names.lookup ("super" : Str)).isSome = false from rfl)
  have ccnm : CondC K (He.ga K "Condition") (He.ga K "Named") := cond_ok (c.ck 127 rfl) cnm nnm_leaf_count nnm_height nnm_name_count
  obtain ⟨fdnmho, Fnmho⟩ : ∃ fd, Fun K "holds" "Named.holds" (sNam 3) (He.ma K (He.ga K "Named") "holds") fd := fun_of (c.at_ 43 rfl) rfl (c.ck 128 rfl)
  have bnmho := Fnmho.binds (ps := ["self", "key", "value"]) fun _ _ _ _ _ _ us hl => match us, hl with | [_, _, _], _ => rfl
  have Mnmho : Meth K (He.ga K "Named") "holds" (He.ma K (He.ga K "Named") "holds") := He.meth_ok (c.ck 129 rfl)
  obtain ⟨fdnmal, Fnmal⟩ : ∃ fd, Fun K "all_leaves" "Leaf.all_leaves" sLeafAll (He.ma K (He.ga K "Named") "all_leaves") fd := fun_of (c.at_ 44 rfl) rfl (c.ck 130 rfl)
  have bnmal := Fnmal.binds (ps := ["self"]) fun _ _ _ _ _ _ us hl => match us, hl with | [_], _ => rfl
  have Mnmal : Meth K (He.ga K "Named") "all_leaves" (He.ma K (He.ga K "Named") "all_leaves") := He.meth_ok (c.ck 131 rfl)
  obtain ⟨fdnmpaccepted, Fnmpaccepted⟩ : ∃ fd, Fun K "accepted" "Named.accepted" (sNam 1) (getr K (He.ma K (He.ga K "Named") "accepted")) fd := fun_of (c.at_ 45 rfl) rfl (c.ck 132 rfl)
  have bnmpaccepted := Fnmpaccepted.binds (ps := ["self"]) fun _ _ _ _ _ _ us hl => match us, hl with | [_], _ => rfl
  have Pnmpaccepted : PropOf K (He.ga K "Named") "accepted" (He.ma K (He.ga K "Named") "accepted") (getr K (He.ma K (He.ga K "Named") "accepted")) := pro_ok (c.ck 133 rfl)
  obtain ⟨fdnman, Fnman⟩ : ∃ fd, Fun K "__and__" "Named.__and__" (sNam 6) (He.ma K (He.ga K "Named") "__and__") fd := fun_of (c.at_ 46 rfl) rfl (c.ck 134 rfl)
  have bnman := Fnman.binds (ps := ["self", "other"]) fun _ _ _ _ _ _ us hl => match us, hl with | [_, _], _ => rfl
  have onman : OpO K (He.ga K "Named") .BitAnd (He.ma K (He.ga K "Named") "__and__") := op_ok (c.ck 135 rfl)
  obtain ⟨fdnmorr, Fnmorr⟩ : ∃ fd, Fun K "__or__" "Named.__or__" (sNam 7) (He.ma K (He.ga K "Named") "__or__") fd := fun_of (c.at_ 47 rfl) rfl (c.ck 136 rfl)
  have bnmorr := Fnmorr.binds (ps := ["self", "other"]) fun _ _ _ _ _ _ us hl => match us, hl with | [_, _], _ => rfl
  have onmorr : OpO K (He.ga K "Named") .BitOr (He.ma K (He.ga K "Named") "__or__") := op_ok (c.ck 137 rfl)
  obtain ⟨fdnmiv, Fnmiv⟩ : ∃ fd, Fun K "__invert__" "Named.__invert__" (sNam 8) (He.ma K (He.ga K "Named") "__invert__") fd := fun_of (c.at_ 48 rfl) rfl (c.ck 138 rfl)
  have bnmiv := Fnmiv.binds (ps := ["self"]) fun _ _ _ _ _ _ us hl => match us, hl with | [_], _ => rfl
  obtain ⟨vinm, vfnm⟩ := He.ba (c.ck 139 rfl : invB K (He.ga K "Named") (He.ma K (He.ga K "Named") "__invert__") = true)
  have gnt : mg "Not" = some (.ref (He.ga K "Not")) := He.glo_ok X G (c.ck 140 rfl)
  have cnt : Cls K (He.ga K "Not") := He.cls_ok (c.ck 141 rfl)
  have nnt_leaf_count : NoAttr K (He.ga K "Not") "leaf_count" := He.noat_ok (c.ck 142 rfl)
  have nnt_height : NoAttr K (He.ga K "Not") "height" := He.noat_ok (c.ck 143 rfl)
  have nnt_name_count : NoAttr K (He.ga K "Not") "name_count" := He.noat_ok (c.ck 144 rfl)
  have nnt_inner : NoAttr K (He.ga K "Not") "inner" := He.noat_ok (c.ck 145 rfl)
  have Mnt : Mk K (He.ga K "Not") (He.ma K (He.ga K "Not") "__init__") := He.mkr_ok (c.ck 146 rfl)
  have Dnt : ClsDef PX K ⟨fun K => He.ma K (He.ga K "Not") "__init__", "__init__", "Not.__init__", (sNt 0), ["__class__"]⟩ (He.ma K (He.ga K "Not") "__init__") (He.ga K "Not") := clsdef_of (c.at_ 49 rfl) rfl (c.ck 147 rfl)
  obtain ⟨cdant, ccnt, fdnt, FXnt, Snt⟩ := funx_of Dnt (x := "self") ⟨_, rfl, rfl⟩ (c.ck 148 rfl) (show (PX.main.scope.names.lookup ("super" : Str)).isSome = false from rfl)
  have ccnt : CondC K (He.ga K "Condition") (He.ga K "Not") := cond_ok (c.ck 149 rfl) cnt nnt_leaf_count nnt_height nnt_name_count
  obtain ⟨fdntho, Fntho⟩ : ∃ fd, Fun K "holds" "Not.holds" (sNt 3) (He.ma K (He.ga K "Not") "holds") fd := fun_of (c.at_ 50 rfl) rfl (c.ck 150 rfl)
  have bntho := Fntho.binds (ps := ["self", "key", "value"]) fun _ _ _ _ _ _ us hl => match us, hl with | [_, _, _], _ => rfl
  have Mntho : Meth K (He.ga K "Not") "holds" (He.ma K (He.ga K "Not") "holds") := He.meth_ok (c.ck 151 rfl)
  obtain ⟨fdntal, Fntal⟩ : ∃ fd, Fun K "all_leaves" "Not.all_leaves" (sNt 4) (He.ma K (He.ga K "Not") "all_leaves") fd := fun_of (c.at_ 51 rfl) rfl (c.ck 152 rfl)
  have bntal := Fntal.binds (ps := ["self"]) fun _ _ _ _ _ _ us hl => match us, hl with | [_], _ => rfl
  have Mntal : Meth K (He.ga K "Not") "all_leaves" (He.ma K (He.ga K "Not") "all_leaves") := He.meth_ok (c.ck 153 rfl)
  obtain ⟨fdntan, Fntan⟩ : ∃ fd, Fun K "__and__" "Not.__and__" (sNt 7) (He.ma K (He.ga K "Not") "__and__") fd := fun_of (c.at_ 52 rfl) rfl (c.ck 154 rfl)
  have bntan := Fntan.binds (ps := ["self", "other"]) fun _ _ _ _ _ _ us hl => match us, hl with | [_, _], _ => rfl
  have ontan : OpO K (He.ga K "Not") .BitAnd (He.ma K (He.ga K "Not") "__and__") := op_ok (c.ck 155 rfl)
  obtain ⟨fdntorr, Fntorr⟩ : ∃ fd, Fun K "__or__" "Not.__or__" (sNt 8) (He.ma K (He.ga K "Not") "__or__") fd := fun_of (c.at_ 53 rfl) rfl (c.ck 156 rfl)
  have bntorr := Fntorr.binds (ps := ["self", "other"]) fun _ _ _ _ _ _ us hl => match us, hl with | [_, _], _ => rfl
  have ontorr : OpO K (He.ga K "Not") .BitOr (He.ma K (He.ga K "Not") "__or__") := op_ok (c.ck 157 rfl)
  obtain ⟨fdntiv, Fntiv⟩ : ∃ fd, Fun K "__invert__" "Not.__invert__" (sNt 9) (He.ma K (He.ga K "Not") "__invert__") fd := fun_of (c.at_ 54 rfl) rfl (c.ck 158 rfl)
  have bntiv := Fntiv.binds (ps := ["self"]) fun _ _ _ _ _ _ us hl => match us, hl with | [_], _ => rfl
  obtain ⟨vint, vfnt⟩ := He.ba (c.ck 159 rfl : invB K (He.ga K "Not") (He.ma K (He.ga K "Not") "__invert__") = true)
  have gbo : mg "Both" = some (.ref (He.ga K "Both")) := He.glo_ok X G (c.ck 160 rfl)
  have cbo : Cls K (He.ga K "Both") := He.cls_ok (c.ck 161 rfl)
  have nbo_leaf_count : NoAttr K (He.ga K "Both") "leaf_count" := He.noat_ok (c.ck 162 rfl)
  have nbo_height : NoAttr K (He.ga K "Both") "height" := He.noat_ok (c.ck 163 rfl)
  have nbo_name_count : NoAttr K (He.ga K "Both") "name_count" := He.noat_ok (c.ck 164 rfl)
  have nbo_first : NoAttr K (He.ga K "Both") "first" := He.noat_ok (c.ck 165 rfl)
  have nbo_second : NoAttr K (He.ga K "Both") "second" := He.noat_ok (c.ck 166 rfl)
  have Mbo : Mk K (He.ga K "Both") (He.ma K (He.ga K "Both") "__init__") := He.mkr_ok (c.ck 167 rfl)
  have Dbo : ClsDef PX K ⟨fun K => He.ma K (He.ga K "Both") "__init__", "__init__", "Both.__init__", (sBo 0), ["__class__"]⟩ (He.ma K (He.ga K "Both") "__init__") (He.ga K "Both") := clsdef_of (c.at_ 55 rfl) rfl (c.ck 168 rfl)
  obtain ⟨cdabo, ccbo, fdbo, FXbo, Sbo⟩ := funx_of Dbo (x := "self") ⟨_, rfl, rfl⟩ (c.ck 169 rfl) (show (PX.main.scope.names.lookup ("super" : Str)).isSome = false from rfl)
  have ccbo : CondC K (He.ga K "Condition") (He.ga K "Both") := cond_ok (c.ck 170 rfl) cbo nbo_leaf_count nbo_height nbo_name_count
  obtain ⟨fdboho, Fboho⟩ : ∃ fd, Fun K "holds" "Both.holds" (sBo 4) (He.ma K (He.ga K "Both") "holds") fd := fun_of (c.at_ 56 rfl) rfl (c.ck 171 rfl)
  have bboho := Fboho.binds (ps := ["self", "key", "value"]) fun _ _ _ _ _ _ us hl => match us, hl with | [_, _, _], _ => rfl
  have Mboho : Meth K (He.ga K "Both") "holds" (He.ma K (He.ga K "Both") "holds") := He.meth_ok (c.ck 172 rfl)
  obtain ⟨fdboal, Fboal⟩ : ∃ fd, Fun K "all_leaves" "Pair.all_leaves" sPairAll (He.ma K (He.ga K "Both") "all_leaves") fd := fun_of (c.at_ 57 rfl) rfl (c.ck 173 rfl)
  have bboal := Fboal.binds (ps := ["self"]) fun _ _ _ _ _ _ us hl => match us, hl with | [_], _ => rfl
  have Mboal : Meth K (He.ga K "Both") "all_leaves" (He.ma K (He.ga K "Both") "all_leaves") := He.meth_ok (c.ck 174 rfl)
  obtain ⟨fdboan, Fboan⟩ : ∃ fd, Fun K "__and__" "Both.__and__" (sBo 7) (He.ma K (He.ga K "Both") "__and__") fd := fun_of (c.at_ 58 rfl) rfl (c.ck 175 rfl)
  have bboan := Fboan.binds (ps := ["self", "other"]) fun _ _ _ _ _ _ us hl => match us, hl with | [_, _], _ => rfl
  have oboan : OpO K (He.ga K "Both") .BitAnd (He.ma K (He.ga K "Both") "__and__") := op_ok (c.ck 176 rfl)
  obtain ⟨fdboorr, Fboorr⟩ : ∃ fd, Fun K "__or__" "Both.__or__" (sBo 8) (He.ma K (He.ga K "Both") "__or__") fd := fun_of (c.at_ 59 rfl) rfl (c.ck 177 rfl)
  have bboorr := Fboorr.binds (ps := ["self", "other"]) fun _ _ _ _ _ _ us hl => match us, hl with | [_, _], _ => rfl
  have oboorr : OpO K (He.ga K "Both") .BitOr (He.ma K (He.ga K "Both") "__or__") := op_ok (c.ck 178 rfl)
  obtain ⟨fdboiv, Fboiv⟩ : ∃ fd, Fun K "__invert__" "Both.__invert__" (sBo 9) (He.ma K (He.ga K "Both") "__invert__") fd := fun_of (c.at_ 60 rfl) rfl (c.ck 179 rfl)
  have bboiv := Fboiv.binds (ps := ["self"]) fun _ _ _ _ _ _ us hl => match us, hl with | [_], _ => rfl
  obtain ⟨vibo, vfbo⟩ := He.ba (c.ck 180 rfl : invB K (He.ga K "Both") (He.ma K (He.ga K "Both") "__invert__") = true)
  have gei : mg "Either" = some (.ref (He.ga K "Either")) := He.glo_ok X G (c.ck 181 rfl)
  have cei : Cls K (He.ga K "Either") := He.cls_ok (c.ck 182 rfl)
  have nei_leaf_count : NoAttr K (He.ga K "Either") "leaf_count" := He.noat_ok (c.ck 183 rfl)
  have nei_height : NoAttr K (He.ga K "Either") "height" := He.noat_ok (c.ck 184 rfl)
  have nei_name_count : NoAttr K (He.ga K "Either") "name_count" := He.noat_ok (c.ck 185 rfl)
  have nei_first : NoAttr K (He.ga K "Either") "first" := He.noat_ok (c.ck 186 rfl)
  have nei_second : NoAttr K (He.ga K "Either") "second" := He.noat_ok (c.ck 187 rfl)
  have Mei : Mk K (He.ga K "Either") (He.ma K (He.ga K "Either") "__init__") := He.mkr_ok (c.ck 188 rfl)
  have Dei : ClsDef PX K ⟨fun K => He.ma K (He.ga K "Either") "__init__", "__init__", "Either.__init__", (sEi 0), ["__class__"]⟩ (He.ma K (He.ga K "Either") "__init__") (He.ga K "Either") := clsdef_of (c.at_ 61 rfl) rfl (c.ck 189 rfl)
  obtain ⟨cdaei, ccei, fdei, FXei, Sei⟩ := funx_of Dei (x := "self") ⟨_, rfl, rfl⟩ (c.ck 190 rfl) (show (PX.main.scope.names.lookup ("super" : Str)).isSome = false from rfl)
  have ccei : CondC K (He.ga K "Condition") (He.ga K "Either") := cond_ok (c.ck 191 rfl) cei nei_leaf_count nei_height nei_name_count
  obtain ⟨fdeiho, Feiho⟩ : ∃ fd, Fun K "holds" "Either.holds" (sEi 4) (He.ma K (He.ga K "Either") "holds") fd := fun_of (c.at_ 62 rfl) rfl (c.ck 192 rfl)
  have beiho := Feiho.binds (ps := ["self", "key", "value"]) fun _ _ _ _ _ _ us hl => match us, hl with | [_, _, _], _ => rfl
  have Meiho : Meth K (He.ga K "Either") "holds" (He.ma K (He.ga K "Either") "holds") := He.meth_ok (c.ck 193 rfl)
  obtain ⟨fdeial, Feial⟩ : ∃ fd, Fun K "all_leaves" "Pair.all_leaves" sPairAll (He.ma K (He.ga K "Either") "all_leaves") fd := fun_of (c.at_ 63 rfl) rfl (c.ck 194 rfl)
  have beial := Feial.binds (ps := ["self"]) fun _ _ _ _ _ _ us hl => match us, hl with | [_], _ => rfl
  have Meial : Meth K (He.ga K "Either") "all_leaves" (He.ma K (He.ga K "Either") "all_leaves") := He.meth_ok (c.ck 195 rfl)
  obtain ⟨fdeian, Feian⟩ : ∃ fd, Fun K "__and__" "Either.__and__" (sEi 7) (He.ma K (He.ga K "Either") "__and__") fd := fun_of (c.at_ 64 rfl) rfl (c.ck 196 rfl)
  have beian := Feian.binds (ps := ["self", "other"]) fun _ _ _ _ _ _ us hl => match us, hl with | [_, _], _ => rfl
  have oeian : OpO K (He.ga K "Either") .BitAnd (He.ma K (He.ga K "Either") "__and__") := op_ok (c.ck 197 rfl)
  obtain ⟨fdeiorr, Feiorr⟩ : ∃ fd, Fun K "__or__" "Either.__or__" (sEi 8) (He.ma K (He.ga K "Either") "__or__") fd := fun_of (c.at_ 65 rfl) rfl (c.ck 198 rfl)
  have beiorr := Feiorr.binds (ps := ["self", "other"]) fun _ _ _ _ _ _ us hl => match us, hl with | [_, _], _ => rfl
  have oeiorr : OpO K (He.ga K "Either") .BitOr (He.ma K (He.ga K "Either") "__or__") := op_ok (c.ck 199 rfl)
  obtain ⟨fdeiiv, Feiiv⟩ : ∃ fd, Fun K "__invert__" "Either.__invert__" (sEi 9) (He.ma K (He.ga K "Either") "__invert__") fd := fun_of (c.at_ 66 rfl) rfl (c.ck 200 rfl)
  have beiiv := Feiiv.binds (ps := ["self"]) fun _ _ _ _ _ _ us hl => match us, hl with | [_], _ => rfl
  obtain ⟨viei, vfei⟩ := He.ba (c.ck 201 rfl : invB K (He.ga K "Either") (He.ma K (He.ga K "Either") "__invert__") = true)
  obtain ⟨Dkw, eDk, dB⟩ := btwDef_of (c.ck 202 rfl)
  rw [eDk] at FXbt
  have s_bt_nm : PySem.W.subIn K (.ref (He.ga K "Between")) (.ref (He.ga K "Named")) = some false := of_decide_eq_true (c.ck 203 rfl)
  have s_bt_nt : PySem.W.subIn K (.ref (He.ga K "Between")) (.ref (He.ga K "Not")) = some false := of_decide_eq_true (c.ck 204 rfl)
  have s_bt_bo : PySem.W.subIn K (.ref (He.ga K "Between")) (.ref (He.ga K "Both")) = some false := of_decide_eq_true (c.ck 205 rfl)
  have s_bt_ei : PySem.W.subIn K (.ref (He.ga K "Between")) (.ref (He.ga K "Either")) = some false := of_decide_eq_true (c.ck 206 rfl)
  have s_nm_bt : PySem.W.subIn K (.ref (He.ga K "Named")) (.ref (He.ga K "Between")) = some false := of_decide_eq_true (c.ck 207 rfl)
  have s_nm_nt : PySem.W.subIn K (.ref (He.ga K "Named")) (.ref (He.ga K "Not")) = some false := of_decide_eq_true (c.ck 208 rfl)
  have s_nm_bo : PySem.W.subIn K (.ref (He.ga K "Named")) (.ref (He.ga K "Both")) = some false := of_decide_eq_true (c.ck 209 rfl)
  have s_nm_ei : PySem.W.subIn K (.ref (He.ga K "Named")) (.ref (He.ga K "Either")) = some false := of_decide_eq_true (c.ck 210 rfl)
  have s_nt_bt : PySem.W.subIn K (.ref (He.ga K "Not")) (.ref (He.ga K "Between")) = some false := of_decide_eq_true (c.ck 211 rfl)
  have s_nt_nm : PySem.W.subIn K (.ref (He.ga K "Not")) (.ref (He.ga K "Named")) = some false := of_decide_eq_true (c.ck 212 rfl)
  have s_nt_bo : PySem.W.subIn K (.ref (He.ga K "Not")) (.ref (He.ga K "Both")) = some false := of_decide_eq_true (c.ck 213 rfl)
  have s_nt_ei : PySem.W.subIn K (.ref (He.ga K "Not")) (.ref (He.ga K "Either")) = some false := of_decide_eq_true (c.ck 214 rfl)
  have s_bo_bt : PySem.W.subIn K (.ref (He.ga K "Both")) (.ref (He.ga K "Between")) = some false := of_decide_eq_true (c.ck 215 rfl)
  have s_bo_nm : PySem.W.subIn K (.ref (He.ga K "Both")) (.ref (He.ga K "Named")) = some false := of_decide_eq_true (c.ck 216 rfl)
  have s_bo_nt : PySem.W.subIn K (.ref (He.ga K "Both")) (.ref (He.ga K "Not")) = some false := of_decide_eq_true (c.ck 217 rfl)
  have s_bo_ei : PySem.W.subIn K (.ref (He.ga K "Both")) (.ref (He.ga K "Either")) = some false := of_decide_eq_true (c.ck 218 rfl)
  have s_ei_bt : PySem.W.subIn K (.ref (He.ga K "Either")) (.ref (He.ga K "Between")) = some false := of_decide_eq_true (c.ck 219 rfl)
  have s_ei_nm : PySem.W.subIn K (.ref (He.ga K "Either")) (.ref (He.ga K "Named")) = some false := of_decide_eq_true (c.ck 220 rfl)
  have s_ei_nt : PySem.W.subIn K (.ref (He.ga K "Either")) (.ref (He.ga K "Not")) = some false := of_decide_eq_true (c.ck 221 rfl)
  have s_ei_bo : PySem.W.subIn K (.ref (He.ga K "Either")) (.ref (He.ga K "Both")) = some false := of_decide_eq_true (c.ck 222 rfl)
  have ek : EqK K (⟨He.ga K "Between", He.ga K "Named", He.ga K "Not", He.ga K "Both", He.ga K "Either"⟩ : Cs) := eqk_ok (c.ck 223 rfl) (c.ck 224 rfl) (c.ck 225 rfl) (c.ck 226 rfl)
  have e := hfa.symm.trans gL
  cases e
  obtain ⟨_, _, _, _, _, _, _, _, _, hfd, _, _⟩ := FL.ex
  refine ⟨fdL, fun s u => by rw [hfd]; exact .of_eq rfl, fun base _ _ => ?_⟩
  have O1 : FnOk PX w K mg base CX0 1 _ _ ["value", "low", "high"] spIsInt := ok_isint F1 m_isinstance m_int m_bool
  have O2 : FnOk PX w K mg base CX0 1 _ _ ["value"] spIsName := ok_isname F2 gcML gcLet m_isinstance m_str m_len m_all
  have O4 : FnOk PX w K mg base CX0 2 _ _ ["value", "low", "high"] spNeedInt := ok_needint F4 F1 b1 g1 O1
  have O5 : FnOk PX w K mg base CX0 2 _ _ ["value"] spNeedName := ok_needname F5 F2 b2 g2 O2
  have OC : CsOk K (He.ga K "Condition") (⟨He.ga K "Between", He.ga K "Named", He.ga K "Not", He.ga K "Both", He.ga K "Either"⟩ : Cs) := ⟨ccbt, ccnm, ccnt, ccbo, ccei⟩
  have Ocbt : FnOk PX w K mg base CX0 1 _ _ ["self", "leaf_count", "height", "name_count"] (spCond (He.ga K "Between")) := ok_condinit Fci cbt nbt_leaf_count nbt_height nbt_name_count gcL gcD gcN
  have Ocnm : FnOk PX w K mg base CX0 1 _ _ ["self", "leaf_count", "height", "name_count"] (spCond (He.ga K "Named")) := ok_condinit Fci cnm nnm_leaf_count nnm_height nnm_name_count gcL gcD gcN
  have Ocnt : FnOk PX w K mg base CX0 1 _ _ ["self", "leaf_count", "height", "name_count"] (spCond (He.ga K "Not")) := ok_condinit Fci cnt nnt_leaf_count nnt_height nnt_name_count gcL gcD gcN
  have Ocbo : FnOk PX w K mg base CX0 1 _ _ ["self", "leaf_count", "height", "name_count"] (spCond (He.ga K "Both")) := ok_condinit Fci cbo nbo_leaf_count nbo_height nbo_name_count gcL gcD gcN
  have Ocei : FnOk PX w K mg base CX0 1 _ _ ["self", "leaf_count", "height", "name_count"] (spCond (He.ga K "Either")) := ok_condinit Fci cei nei_leaf_count nei_height nei_name_count gcL gcD gcN
  have Onc : FnOk PX w K mg base CX0 1 _ _ ["value"] (spNeedCond (⟨He.ga K "Between", He.ga K "Named", He.ga K "Not", He.ga K "Both", He.ga K "Either"⟩ : Cs)) := ok_needcond Fnc OC gcond m_isinstance
  have Osz : FnOk PX w K mg base CX0 2 _ _ ["one", "other"] (spSizes (⟨He.ga K "Between", He.ga K "Named", He.ga K "Not", He.ga K "Both", He.ga K "Either"⟩ : Cs)) := ok_sizes Fsz OC Onc gnc knc bnc m_max
  have Obi : FnOk PX w K mg base CX0 3 _ _ psBtw (spBtw (He.ga K "Between")) := ok_btwinit FXbt Sbt cbt nbt_field_name nbt_lowest nbt_highest O5 g5 k5 b5 O4 g4 k4 b4 Ocbt bci m_super
  have Oni : FnR PX w K mg base CX0 3 _ (spNamR (He.ga K "Named")) := ok_naminit FXnm Snm cnm nnm_accepted_names O5 g5 k5 b5 Ocnm bci m_super m_len
  have Obo : FnOk PX w K mg base CX0 3 _ _ ["self", "one", "other"] (spPair (⟨He.ga K "Between", He.ga K "Named", He.ga K "Not", He.ga K "Both", He.ga K "Either"⟩ : Cs) (⟨He.ga K "Between", He.ga K "Named", He.ga K "Not", He.ga K "Both", He.ga K "Either"⟩ : Cs).bo) := ok_boinit FXbo Sbo cbo nbo_first nbo_second Osz gsz ksz bsz Ocbo bci m_super
  have Oei : FnOk PX w K mg base CX0 3 _ _ ["self", "one", "other"] (spPair (⟨He.ga K "Between", He.ga K "Named", He.ga K "Not", He.ga K "Both", He.ga K "Either"⟩ : Cs) (⟨He.ga K "Between", He.ga K "Named", He.ga K "Not", He.ga K "Both", He.ga K "Either"⟩ : Cs).ei) := ok_eiinit FXei Sei cei nei_first nei_second Osz gsz ksz bsz Ocei bci m_super
  have Ont : FnOk PX w K mg base CX0 2 _ _ ["self", "one"] (spNeg (⟨He.ga K "Between", He.ga K "Named", He.ga K "Not", He.ga K "Both", He.ga K "Either"⟩ : Cs) (⟨He.ga K "Between", He.ga K "Named", He.ga K "Not", He.ga K "Both", He.ga K "Either"⟩ : Cs).nt) := ok_ntinit FXnt Snt OC nnt_inner Onc gnc knc bnc Ocnt bci m_super
  have bibo : Binds K fdbo ["self", "one", "other"] [] := fx_binds FXbo fun _ _ _ _ _ _ _ us hl => match us, hl with | [_, _, _], _ => rfl
  have biei : Binds K fdei ["self", "one", "other"] [] := fx_binds FXei fun _ _ _ _ _ _ _ us hl => match us, hl with | [_, _, _], _ => rfl
  have bint : Binds K fdnt ["self", "one"] [] := fx_binds FXnt fun _ _ _ _ _ _ _ us hl => match us, hl with | [_, _], _ => rfl
  have HL : ∀ d, HoldsAll PX w K mg base (⟨He.ga K "Between", He.ga K "Named", He.ga K "Not", He.ga K "Both", He.ga K "Either"⟩ : Cs) (d + 1) d := poly_all (mt := "holds") (ps := ["self", "key", "value"]) (sp := spHolds (⟨He.ga K "Between", He.ga K "Named", He.ga K "Not", He.ga K "Both", He.ga K "Either"⟩ : Cs)) OC (fun _ => hol_none) ⟨_, _, Mbtho, bbtho, fun d => ok_btholds2 Fbtho cbt nbt_field_name nbt_lowest nbt_highest⟩ ⟨_, _, Mnmho, bnmho, fun d => ok_nmholds2 Fnmho cnm nnm_accepted_names⟩
    ⟨_, _, Mntho, bntho, fun k d HA => ok_ntholds HA Fntho cnt nnt_inner⟩ ⟨_, _, Mboho, bboho, fun k d HA => ok_boholds HA Fboho cbo nbo_first nbo_second⟩ ⟨_, _, Meiho, beiho, fun k d HA => ok_eiholds HA Feiho cei nei_first nei_second⟩
  have LA : ∀ d, LeavesAll PX w K mg base (⟨He.ga K "Between", He.ga K "Named", He.ga K "Not", He.ga K "Both", He.ga K "Either"⟩ : Cs) (d + 1) d := poly_all (mt := "all_leaves") (ps := ["self"]) (sp := spAllL (⟨He.ga K "Between", He.ga K "Named", He.ga K "Not", He.ga K "Both", He.ga K "Either"⟩ : Cs)) OC (fun _ => all_none) ⟨_, _, Mbtal, bbtal, fun d => leaf_all (by decide) (ok_leafall Fbtal)⟩ ⟨_, _, Mnmal, bnmal, fun d => leaf_all (by decide) (ok_leafall Fnmal)⟩
    ⟨_, _, Mntal, bntal, fun k d HA => ok_notall HA Fntal cnt nnt_inner⟩ ⟨_, _, Mboal, bboal, fun k d HA => ok_pairall (.inl rfl) HA Fboal cbo cei nbo_first nbo_second nei_first nei_second⟩ ⟨_, _, Meial, beial, fun k d HA => ok_pairall (.inr rfl) HA Feial cbo cei nbo_first nbo_second nei_first nei_second⟩
  have Aan : ∀ m : Md, OpOf PX w K mg base (m.cls (⟨He.ga K "Between", He.ga K "Named", He.ga K "Not", He.ga K "Both", He.ga K "Either"⟩ : Cs)) .BitAnd (spAnd (⟨He.ga K "Between", He.ga K "Named", He.ga K "Not", He.ga K "Both", He.ga K "Either"⟩ : Cs)) := fun m => by
    cases m with
    | btw z lo hi => exact ⟨_, _, obtan, bbtan, ok_btand_ Fbtan Mbo Obo gbo bibo⟩
    | nam zs => exact ⟨_, _, onman, bnman, ok_nmand_ Fnman Mbo Obo gbo bibo⟩
    | neg m => exact ⟨_, _, ontan, bntan, ok_ntand_ Fntan Mbo Obo gbo bibo⟩
    | both m n => exact ⟨_, _, oboan, bboan, ok_boand_ Fboan Mbo Obo gbo bibo⟩
    | eith m n => exact ⟨_, _, oeian, beian, ok_eiand_ Feian Mbo Obo gbo bibo⟩
  have Aorr : ∀ m : Md, OpOf PX w K mg base (m.cls (⟨He.ga K "Between", He.ga K "Named", He.ga K "Not", He.ga K "Both", He.ga K "Either"⟩ : Cs)) .BitOr (spOr (⟨He.ga K "Between", He.ga K "Named", He.ga K "Not", He.ga K "Both", He.ga K "Either"⟩ : Cs)) := fun m => by
    cases m with
    | btw z lo hi => exact ⟨_, _, obtorr, bbtorr, ok_btor_ Fbtorr Mei Oei gei biei⟩
    | nam zs => exact ⟨_, _, onmorr, bnmorr, ok_nmor_ Fnmorr Mei Oei gei biei⟩
    | neg m => exact ⟨_, _, ontorr, bntorr, ok_ntor_ Fntorr Mei Oei gei biei⟩
    | both m n => exact ⟨_, _, oboorr, bboorr, ok_boor_ Fboorr Mei Oei gei biei⟩
    | eith m n => exact ⟨_, _, oeiorr, beiorr, ok_eior_ Feiorr Mei Oei gei biei⟩
  have sub : ∀ m n : Md, m.cls (⟨He.ga K "Between", He.ga K "Named", He.ga K "Not", He.ga K "Both", He.ga K "Either"⟩ : Cs) = n.cls (⟨He.ga K "Between", He.ga K "Named", He.ga K "Not", He.ga K "Both", He.ga K "Either"⟩ : Cs) ∨ PySem.W.subIn K (.ref (n.cls (⟨He.ga K "Between", He.ga K "Named", He.ga K "Not", He.ga K "Both", He.ga K "Either"⟩ : Cs))) (.ref (m.cls (⟨He.ga K "Between", He.ga K "Named", He.ga K "Not", He.ga K "Both", He.ga K "Either"⟩ : Cs))) = some false := fun m n => by
    cases m <;> cases n <;> first | exact .inl rfl | exact .inr (by assumption)
  have OO : Conds PX w K mg base (He.ga K "Condition") (⟨He.ga K "Between", He.ga K "Named", He.ga K "Not", He.ga K "Both", He.ga K "Either"⟩ : Cs) := ⟨OC, ⟨_, _, _, _, _, Mbt, FXbt, dB, Obi⟩, gbt, ⟨_, _, Mbo, bibo, Obo⟩, gbo, ⟨_, _, Mei, biei, Oei⟩, gei, ⟨_, _, Mnt, bint, Ont⟩, gnt, fun m n => polyO (Aan m) (Aan n) (sub m n), fun m n => polyO (Aorr m) (Aorr n) (sub m n), fun m => by
    cases m with
    | btw z lo hi => exact ⟨_, _, _, He.eqO_ok vibt, vfbt, bbtiv, ok_btinv Fbtiv Mnt Ont gnt bint⟩
    | nam zs => exact ⟨_, _, _, He.eqO_ok vinm, vfnm, bnmiv, ok_nminv Fnmiv Mnt Ont gnt bint⟩
    | neg m => exact ⟨_, _, _, He.eqO_ok vint, vfnt, bntiv, ok_ntinv Fntiv Mnt Ont gnt bint⟩
    | both m n => exact ⟨_, _, _, He.eqO_ok vibo, vfbo, bboiv, ok_boinv Fboiv Mnt Ont gnt bint⟩
    | eith m n => exact ⟨_, _, _, He.eqO_ok viei, vfei, beiiv, ok_eiinv Feiiv Mnt Ont gnt bint⟩⟩
  have T1 : FnOk PX w K mg base CX0 1 _ _ ["value", "low", "high"] (spIsIntT K) := ok_isintT F1 m_isinstance m_int m_bool
  have T2 : FnOk PX w K mg base CX0 1 _ _ ["value"] (spIsNameT K) := ok_isnameT F2 gcML gcLet m_isinstance m_str m_len m_all
  have T3 : FnOk PX w K mg base CX0 2 _ _ ["value"] (spIsValT K) := ok_isvalT F3 k2 b2 g2 T2 k1 b1 g1 T1 gcMF gcG m_isinstance m_dict m_len m_all
  have Un : FnOk PX w K mg base CX0 1 _ _ ["names"] (spUnused K) := ok_unused Fuu gcLet m_min
  have Cn : FnOk PX w K mg base CX0 1 _ _ ["ranges"] (spNums K) := ok_nums Fcn m_tuple m_any m_list
  have Cke : FnOk PX w K mg base CX0 2 _ _ ["groups"] (spKeys K) := ok_keys Fck Un guu kuu buu m_tuple m_list
  have Cva : FnOk PX w K mg base CX0 2 _ _ ["bounds"] (spVals K) := ok_vals Fcv Cn gcn kcn bcn Un guu kuu buu gcMF m_sorted m_set m_len
  have CR := ok_crec Fcr Cva gcv kcv bcv Cke gck kck bck
  have PK : PartK PX w K mg base (⟨He.ga K "Between", He.ga K "Named", He.ga K "Not", He.ga K "Both", He.ga K "Either"⟩ : Cs) (He.ga K "Condition") := ⟨OC, ek, LA 5, HL 5, gbt, gnm, m_isinstance, ⟨⟨_, _, _, Pbtpfield, bbtpfield, ok_btwfield Fbtpfield cbt nbt_field_name⟩⟩, ⟨⟨_, _, _, Pbtplow, bbtplow, ok_btwlow Fbtplow cbt nbt_lowest⟩⟩, ⟨⟨_, _, _, Pbtphigh, bbtphigh, ok_btwhigh Fbtphigh cbt nbt_highest⟩⟩, ⟨⟨_, _, _, Pnmpaccepted, bnmpaccepted, ok_namaccC Fnmpaccepted cnm nnm_accepted_names⟩⟩⟩
  have Pg : FnOk PX w K mg base CX0 7 _ _ ["one", "other"] (spParting (⟨He.ga K "Between", He.ga K "Named", He.ga K "Not", He.ga K "Both", He.ga K "Either"⟩ : Cs)) := ok_parting Fpg PK Onc gnc knc bnc CR gcr kcr bcr
  have Ip : FnOk PX w K mg base CX0 7 _ _ ["one", "other", "found"] (spIsPart K (⟨He.ga K "Between", He.ga K "Named", He.ga K "Not", He.ga K "Both", He.ga K "Either"⟩ : Cs)) := ok_ispart Fip PK Onc gnc knc bnc T2 g2 k2 b2 T3 g3 k3 b3 m_tuple m_len
  have Nn : FnOk PX w K mg base CX0 3 _ _ ["_law_box_here", "_law_many"] spNamesD := ok_namesD FC FA bA gA FB bB gB m_len m_list m_range
  have Mi : FnOk PX w K mg base CX0 2 _ _ ["_law_box_here", "_law_some"] (spMixR K) := ok_mixR FB FA bA gA m_len m_list
  have Nu : FnOk PX w K mg base CX0 2 _ _ ["_law_box_here"] spNumber := ok_number FD FA bA gA
  have Nd : FnOk PX w K mg base CX0 5 _ _ ["_law_some"] (spMkNam K (He.ga K "Named")) := ok_named FF Mnm Oni gnm m_len m_list
  have Bu : FnOk PX w K mg base CX0 11 _ _ ["_law_box_here", "_law_model"] (spBuilt (⟨He.ga K "Between", He.ga K "Named", He.ga K "Not", He.ga K "Both", He.ga K "Either"⟩ : Cs) 5) := ok_built Fbu bbu gbu FA bA gA Nd gF kF bF OO 5
  have Ho : FnOk PX w K mg base CX0 6 _ _ ["_law_model", "_law_key", "_law_value"] (spLHolds 5) := ok_lholds Fho bho gho 5
  have Ln : FnOk PX w K mg base CX0 1 _ _ ["_law_thing"] (spIsNameT K) := ok_lisname Fln m_isinstance m_str m_len
  have Lm : FnOk PX w K mg base CX0 1 _ _ ["_law_thing", "_law_small", "_law_great"] (spIsIntT K) := ok_lisnum Flm m_isinstance m_int m_bool
  have Lv : FnOk PX w K mg base CX0 2 _ _ ["_law_thing"] (spIsValT K) := ok_lisval Flv kln bln gln Ln klm blm glm Lm m_isinstance m_dict m_len
  have Lp : FnOk PX w K mg base CX0 7 _ _ ["_law_one", "_law_other", "_law_found"] (spLPart K) := ok_lpart Flp Ln gln kln bln Lv glv klv blv Ho gho kho bho m_isinstance m_tuple m_len
  have MO : Mks PX w K mg base (He.ga K "Condition") (⟨He.ga K "Between", He.ga K "Named", He.ga K "Not", He.ga K "Both", He.ga K "Either"⟩ : Cs) := ⟨OO, ⟨_, Mnm, Oni⟩, gnm⟩
  have Cu : FnOk PX w K mg base CX0 2 _ _ ["_law_box_here", "_law_small", "_law_great"] spCuts := ok_cuts Fcu FA bA gA m_range m_list m_min
  have Ri : FnOk PX w K mg base CX0 8 _ _ ["_law_box_here", "_law_fields", "_law_names_here"] spRi := ok_ri Fri MO FA bA gA Nu gD kD bD Cu gcu kcu bcu Mi gB kB bB Pg gpg kpg bpg Ip gip kip bip m_len m_min m_max
  have Ar : FnOk PX w K mg base CX0 8 _ _ ["_law_box_here", "_law_fields"] spAr := ok_ar Far MO Nu gD kD bD Pg gpg kpg bpg m_len
  have Mr : FnOk PX w K mg base CX0 12 _ _ ["_law_box_here", "_law_fields", "_law_name"] spMr := ok_mr Fmr FA bA gA Nu gD kD bD Bu gbu kbu bbu Lp glp klp blp Pg gpg kpg bpg Ip gip kip bip m_min
  exact ok_law FL F8 b8 g8 F9 b9 g9 Nn gC kC bC Ri gri kri bri Ar gar kar bar Mr gmr kmr bmr m_range m_max m_min m_len
end G

set_option Elab.async false
set_option linter.all false
set_option maxRecDepth 100000
set_option maxHeartbeats 8000000
/-! XC: the end. -/
open PySem PySem.W PySem.Calls PyProof.Rows
set_option maxRecDepth 100000 in
set_option maxHeartbeats 0 in
theorem PySem.Challenge.cw_listviews_k13_neighboring_ranges_holds : PySem.Challenge.rw_listviews_k13_neighboring_ranges.Holds := by
  w_on; o_law
  refine HandSHeadRun.head_any (r := OpenLaw.row PySem.Challenge.rw_listviews_k13_neighboring_ranges) (q := view (OpenLaw.row PySem.Challenge.rw_listviews_k13_neighboring_ranges).prog [70]) (H := G.hk) (ob := G.ob) (M := 20000) (loose := G.looseX) (d := HandSHeadRun.topDef (OpenLaw.row PySem.Challenge.rw_listviews_k13_neighboring_ranges).prog 70) (kwd := []) G.ob_eq
    (by kernel_rfl) (fun s => by kernel_rfl) G.run (by kernel_rfl) (by kernel_rfl) (by kernel_rfl) (by rfl) (by first | assumption | decide +kernel) (by decide +kernel) ⟨rfl, rfl, rfl, rfl, rfl, by decide +kernel⟩ ?hw ?hc
  case hw => w_witness2
  case hc =>
    refine G.walk_goE (l := PySem.Challenge.rw_listviews_k13_neighboring_ranges) (n := 63) (k := 13) (x := "_law_script") rfl (by decide) (by kernel_rfl) ⟨rfl, by decide, by decide⟩ ?F
    intro w mg fa h Y GX hmg0
    obtain ⟨K, KX, c⟩ := Y
    have hmg : mg ("law" : PySem.Str) = some (.ref fa) := by
      have e : (HandSHeadRun.topDef (OpenLaw.row PySem.Challenge.rw_listviews_k13_neighboring_ranges).prog 70).name = ("law" : PySem.Str) := by kernel_rfl
      rw [← e]
      exact hmg0
    obtain ⟨fd, hb, hF⟩ := G.facts (w := w) KX GX hmg c
    exact ⟨K, fd, G.spLaw K, KX, hb, fun H a ns hl _ hS => ⟨a, ns, rfl, hS, hl, fun _ => rfl⟩, hF⟩

