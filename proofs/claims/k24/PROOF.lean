import PyProof.Rows.All
import Wide.All
import OpenK.AllK
import Wide.FinOn
import HandS.ForMost
import HandS.ForExc
import HandS.ExcInit
import HandS.ExcField
import HandS.TryMany
import HandS.IsInst
import HandS.Wide
import HandS.Small
import HandS.RaiseMore
import PyProof.ReprRoads
import KE.KSuper
import HandS.ClsMeth
import HandS.Nested
import HandS.More
import PyProof.InstNe
import HandS.SlotsOwn
import HandS.Words
import HandS.NamedTupSort
import KE.KCallOwn
import KE.KOpsOwn
import HandS.Star
import HandS.MethStar
import HandS.StrMore
import HandS.Walk
import HandS.Defaults
import HandS.MakeKwOnly
import OpenK.KMake
import KE.KOwnIter
import HandS.IterVal
import HandS.List
import HandS.TupSets
import HandS.DeepEq
import HandS.Style
import HandS.Deep
import HandS.Zip
import HandS.Conv
import HandS.DictTup
import KE.KDictZip
import KE.DataMinMax
import HandS.RevRange
import HandS.SortInts
import KE.KExcInit
import PyProof.ExcBaseAll.LookupError
import HandS.ExcInitHot
import HandS.SuiteRaise
import HandS.RaiseFrom
import HandS.WordsExc
import HandS.HotCalls
import HandS.Property
import HandS.Head0
import HandS.Head1
import HandS.Head2
import HandS.HeadHook1
import HandS.HeadHook2
import PySem.Challenge.RW_listviews_k24_changes_joined
set_option Elab.async false
set_option linter.all false
set_option maxRecDepth 100000
set_option maxHeartbeats 2000000
/-! G1: what a def keeps where no guard is under way; repr of data at any depth, dicts too. -/
namespace G
open PySem PySem.Spec PyProof.Rows L2

/-! ### how long a shown text is -/
mutual
def mass : PyData → Nat
  | .none => 4
  | .bool _ => 5
  | .int _ => 1921
  | .str x => (reprText x).length
  | .list xs => 3 + massAll xs
  | .tuple xs => 4 + massAll xs
  | .dict kvs => 3 + massKv kvs
def massAll : List PyData → Nat
  | [] => 0
  | x :: xs => mass x + 2 + massAll xs
def massKv : List (PyData × PyData) → Nat
  | [] => 0
  | (k, v) :: r => mass k + mass v + 4 + massKv r
end
theorem text_from_le : ∀ (ts : List Str) (k : Nat) (acc : Str), (textFrom k acc ts).length ≤ acc.length + piled ts
  | [], k, acc => by
    show acc.length ≤ acc.length + 0
    omega
  | t :: r, k, acc => by
    have h1 := text_from_le r (k + 1) (acc ++ (if k > 0 then ", " else "" : String) ++ t)
    rw [strLen_append, strLen_append] at h1
    have h2 : (((if k > 0 then ", " else "" : String) : Str)).length ≤ 2 := by
      split <;> decide
    show (textFrom (k + 1) _ r).length ≤ _
    rw [piled_cons]
    omega
theorem list_text_le (ts : List Str) : (listText ts).length ≤ 3 + piled ts := by
  unfold listText
  rw [strLen_append]
  have h1 := text_from_le ts 0 "["
  have e1 : ((("[" : String) : Str)).length = 1 := rfl
  have e2 : ((("]" : String) : Str)).length = 1 := rfl
  rw [e1] at h1
  rw [e2]
  omega
theorem join_le (ts : List Str) : (Str.join ", " ts).length ≤ piled ts := by
  by_cases h : ts = []
  · subst h
    exact Nat.le_refl 0
  · have := join_length_add ts h
    omega
theorem tuple_text_le (ts : List Str) : (tupleText ts).length ≤ 4 + piled ts := by
  unfold tupleText
  rw [strLen_append, strLen_append]
  have h1 := join_le ts
  have e1 : ((("(" : String) : Str)).length = 1 := rfl
  have e3 : (((if ts.length == 1 then ",)" else ")" : String) : Str)).length ≤ 2 := by split <;> decide
  rw [e1]
  omega
theorem dict_text_le (ts : List Str) : (dictText ts).length ≤ 3 + piled ts := by
  unfold dictText
  rw [strLen_append, strLen_append]
  have h1 := join_le ts
  have e1 : ((("{" : String) : Str)).length = 1 := rfl
  have e3 : ((("}" : String) : Str)).length = 1 := rfl
  rw [e1, e3]
  omega
mutual
theorem shown_le : ∀ d : PyData, d.showable = true → d.shown.length ≤ mass d
  | .none, _ => by decide
  | .bool b, _ => by cases b <;> decide
  | .int i, h => by
    have h' : i.natAbs.log2 < 1920 := by simpa [PyData.showable] using h
    have h2 := int_text_length_le (by decide) h'
    show (Str.ofString (toString i)).length ≤ 1921
    rw [PySem.ofString_length]
    exact h2
  | .str x, _ => by
    simp only [PyData.shown, mass]
    exact Nat.le_refl _
  | .list xs, h => by
    have h' : PyData.showableAll xs = true := by simpa [PyData.showable] using h
    have h1 := list_text_le (PyData.shownAll xs)
    have h2 := shown_all_le xs h'
    simp only [PyData.shown, mass]
    omega
  | .tuple xs, h => by
    have h' : PyData.showableAll xs = true := by simpa [PyData.showable] using h
    have h1 := tuple_text_le (PyData.shownAll xs)
    have h2 := shown_all_le xs h'
    simp only [PyData.shown, mass]
    omega
  | .dict kvs, h => by
    have h' : PyData.showableKv kvs = true := by simpa [PyData.showable] using h
    have h1 := dict_text_le (PyData.shownKv kvs)
    have h2 := shown_kv_le kvs h'
    simp only [PyData.shown, mass]
    omega
theorem shown_all_le : ∀ xs : List PyData, PyData.showableAll xs = true → piled (PyData.shownAll xs) ≤ massAll xs
  | [], _ => by
    simp only [PyData.shownAll, massAll, piled_nil]
    exact Nat.le_refl _
  | x :: xs, h => by
    simp only [PyData.showableAll, Bool.and_eq_true] at h
    have h1 := shown_le x h.1
    have h2 := shown_all_le xs h.2
    simp only [PyData.shownAll, massAll, piled_cons]
    omega
theorem shown_kv_le : ∀ xs : List (PyData × PyData), PyData.showableKv xs = true → piled (PyData.shownKv xs) ≤ massKv xs
  | [], _ => by
    simp only [PyData.shownKv, massKv, piled_nil]
    exact Nat.le_refl _
  | (k, v) :: xs, h => by
    simp only [PyData.showableKv, Bool.and_eq_true] at h
    have h1 := shown_le k h.1.1
    have h2 := shown_le v h.1.2
    have h3 := shown_kv_le xs h.2
    have e : (((": " : String) : Str)).length = 2 := rfl
    simp only [PyData.shownKv, massKv, piled_cons, strLen_append, e]
    omega
end

/-! ### data that stands in the heap: lists, tuples, dicts by int and text keys -/
mutual
inductive Rp (K : PySem.W.Frag) (H : Hp) : V → PyData → Prop
  | non : Rp K H .non .none
  | bl (b : Bool) : Rp K H (.bl b) (.bool b)
  | int (i : Int) : Rp K H (.int i) (.int i)
  | str (x : Str) : Rp K H (.str x) (.str x)
  | lst {a : Addr} {xs : List V} {ds : List PyData} : H a = some (.lst xs) → RpAll K H xs ds → Rp K H (.ref a) (.list ds)
  | tup {a : Addr} {xs : List V} {ds : List PyData} : H a = some (.tup xs) → RpAll K H xs ds → Rp K H (.ref a) (.tuple ds)
  | dic {a : Addr} {kvs : List (Key × V)} {ds : List (PyData × PyData)} : H a = some (.dK kvs) → RpAll K H (kvs.map fun p => kV p.1) (ds.map (·.1)) → RpAll K H (kvs.map (·.2)) (ds.map (·.2)) → Rp K H (.ref a) (.dict ds)
inductive RpAll (K : PySem.W.Frag) (H : Hp) : List V → List PyData → Prop
  | nil : RpAll K H [] []
  | cons {v : V} {vs : List V} {d : PyData} {ds : List PyData} : Rp K H v d → RpAll K H vs ds → RpAll K H (v :: vs) (d :: ds)
end

/-! ### .. and how it is read -/
mutual
/-- no list in it: each address that a reading of it counts is a dict's -/
def okS : PyData → Bool
  | .none | .bool _ | .int _ | .str _ => true
  | .list _ => false
  | .tuple xs => okSAll xs
  | .dict kvs => okSKv kvs
def okSAll : List PyData → Bool
  | [] => true
  | x :: xs => okS x && okSAll xs
def okSKv : List (PyData × PyData) → Bool
  | [] => true
  | (k, v) :: r => okS k && okS v && okSKv r
end
theorem okSKv_split : ∀ {kvs : List (PyData × PyData)}, okSKv kvs = true → okSAll (kvs.map (·.1)) = true ∧ okSAll (kvs.map (·.2)) = true
  | [], _ => ⟨rfl, rfl⟩
  | (k, v) :: r, h => by
    simp only [okSKv, Bool.and_eq_true] at h
    obtain ⟨h1, h2⟩ := okSKv_split h.2
    simp only [List.map_cons, okSAll, Bool.and_eq_true]
    exact ⟨⟨h.1.1, h1⟩, h.1.2, h2⟩
theorem pairs_vals {P : Program} {w : World} : ∀ {kvs : List (Key × V)} {vs : List (Key × Value)} {es : List DictEntry}, KV kvs vs → Pairs (mixKind P w) es vs →
    Vals (kvs.map fun p => kV p.1) (es.map (·.key)) ∧ Vals (kvs.map (·.2)) (es.map (·.val))
  | _, _, _, .nil, .nil => ⟨.nil, .nil⟩
  | _, _, _, .cons r t, .cons hk hv p => by
    obtain ⟨h1, h2⟩ := pairs_vals t p
    refine ⟨.cons ?_ h1, .cons ?_ h2⟩
    · dsimp only
      rw [r.1]
      rcases keyIs_shape hk with ⟨i, tk, e1, e2⟩ | ⟨x, tk, e1, e2⟩
      · rw [e1, e2]
        exact ⟨tk, rfl⟩
      · rw [e1, e2]
        exact ⟨tk, rfl⟩
    · dsimp only
      rw [hv]
      exact r.2
section
variable {X : Cx} {pins : List (Addr × Obj)} {σ : L2.St} {H : Hp} {s : Shared}
mutual
theorem rp_reads (I : Inv X pins σ H s) : ∀ (d : PyData) (v : V) (u : Value), Rp X.K H v d → RelV v u → ∃ as, Reads s.heap u d as ∧ (okS d = true → sysModules ∉ as)
  | .none, _, _, h, r => by
    cases h
    cases r
    exact ⟨_, Reads.none, fun _ => by simp⟩
  | .bool b, _, _, h, r => by
    cases h
    cases r
    exact ⟨_, Reads.bool b, fun _ => by simp⟩
  | .int i, _, _, h, r => by
    cases h
    obtain ⟨t, rfl⟩ := r
    exact ⟨_, Reads.int i t, fun _ => by simp⟩
  | .str x, _, _, h, r => by
    cases h
    obtain ⟨t, rfl⟩ := r
    exact ⟨_, Reads.str x t, fun _ => by simp⟩
  | .list ds, _, _, h, r => by
    cases h with
    | lst hs ha =>
      cases r
      obtain ⟨its, rv, ⟨o, n, ho, hc, _, hd⟩, _⟩ := I.list (.of hs)
      obtain ⟨as, hr, _⟩ := rp_readsAll I ds _ its ha rv
      exact ⟨_, Reads.list ho hc hd hr, fun z => by simp [okS] at z⟩
  | .tuple ds, _, _, h, r => by
    cases h with
    | tup hs ha =>
      cases r
      obtain ⟨its, rv, ⟨o, ho, hc, n, hd⟩, _⟩ := I.tuple (.of hs)
      obtain ⟨as, hr, q⟩ := rp_readsAll I ds _ its ha rv
      exact ⟨_, Reads.tuple ho hc hd hr, fun z => q (by simpa [okS] using z)⟩
  | .dict ds, _, _, h, r => by
    cases h with
    | dic hs hk hv =>
      cases r
      obtain ⟨_, hm, vs, rel, o, es, ep, e1, e2, e3, e4, e5, e6⟩ := I.hok _ _ hs
      obtain ⟨r1, r2⟩ := pairs_vals rel e5
      obtain ⟨as, q1, z1⟩ := rp_readsKeys I ds _ _ hk r1
      obtain ⟨bs, q2, z2⟩ := rp_readsVals I ds _ _ hv r2
      refine ⟨_, Reads.dict e1 e2.1 e3 q1 q2, fun z => ?_⟩
      have hz : okSKv ds = true := by simpa [okS] using z
      obtain ⟨k1, k2⟩ := okSKv_split hz
      have hm' := beq_eq_false_iff_ne.mp hm
      intro hin
      rcases List.mem_cons.mp hin with hx | hx
      · exact hm' hx.symm
      · rcases List.mem_append.mp hx with hx | hx
        · exact z1 k1 hx
        · exact z2 k2 hx
theorem rp_readsAll (I : Inv X pins σ H s) : ∀ (ds : List PyData) (vs : List V) (us : List Value), RpAll X.K H vs ds → Vals vs us → ∃ as, ReadsAll s.heap us ds as ∧ (okSAll ds = true → sysModules ∉ as)
  | [], _, _, h, r => by
    cases h
    cases r
    exact ⟨_, ReadsAll.nil, fun _ => by simp⟩
  | d :: ds, _, _, h, r => by
    cases h with
    | cons h1 h2 =>
      cases r with
      | cons r1 r2 =>
        obtain ⟨as, q1, z1⟩ := rp_reads I d _ _ h1 r1
        obtain ⟨bs, q2, z2⟩ := rp_readsAll I ds _ _ h2 r2
        refine ⟨_, ReadsAll.cons q1 q2, fun z => ?_⟩
        simp only [okSAll, Bool.and_eq_true] at z
        intro hin
        rcases List.mem_append.mp hin with hx | hx
        · exact z1 z.1 hx
        · exact z2 z.2 hx
theorem rp_readsKeys (I : Inv X pins σ H s) : ∀ (ds : List (PyData × PyData)) (vs : List V) (us : List Value), RpAll X.K H vs (ds.map (·.1)) → Vals vs us → ∃ as, ReadsAll s.heap us (ds.map (·.1)) as ∧ (okSAll (ds.map (·.1)) = true → sysModules ∉ as)
  | [], _, _, h, r => by
    cases h
    cases r
    exact ⟨_, ReadsAll.nil, fun _ => by simp⟩
  | (d, _) :: ds, _, _, h, r => by
    cases h with
    | cons h1 h2 =>
      cases r with
      | cons r1 r2 =>
        obtain ⟨as, q1, z1⟩ := rp_reads I d _ _ h1 r1
        obtain ⟨bs, q2, z2⟩ := rp_readsKeys I ds _ _ h2 r2
        refine ⟨_, ReadsAll.cons q1 q2, fun z => ?_⟩
        simp only [List.map_cons, okSAll, Bool.and_eq_true] at z
        intro hin
        rcases List.mem_append.mp hin with hx | hx
        · exact z1 z.1 hx
        · exact z2 z.2 hx
theorem rp_readsVals (I : Inv X pins σ H s) : ∀ (ds : List (PyData × PyData)) (vs : List V) (us : List Value), RpAll X.K H vs (ds.map (·.2)) → Vals vs us → ∃ as, ReadsAll s.heap us (ds.map (·.2)) as ∧ (okSAll (ds.map (·.2)) = true → sysModules ∉ as)
  | [], _, _, h, r => by
    cases h
    cases r
    exact ⟨_, ReadsAll.nil, fun _ => by simp⟩
  | (_, d) :: ds, _, _, h, r => by
    cases h with
    | cons h1 h2 =>
      cases r with
      | cons r1 r2 =>
        obtain ⟨as, q1, z1⟩ := rp_reads I d _ _ h1 r1
        obtain ⟨bs, q2, z2⟩ := rp_readsVals I ds _ _ h2 r2
        refine ⟨_, ReadsAll.cons q1 q2, fun z => ?_⟩
        simp only [List.map_cons, okSAll, Bool.and_eq_true] at z
        intro hin
        rcases List.mem_append.mp hin with hx | hx
        · exact z1 z.1 hx
        · exact z2 z.2 hx
end
end

/-! ### repr of a list of such data -/
/-- a list at the top: its own address is not counted -/
theorem repr_top {prog : Program} {w : World} {A : Around} {E : Value → Shared → Prop} {s : Shared} {Q : Value → Shared → Prop} {a : Addr} {o : Obj} {vs : Array Value} {n : Nat} {xs : List PyData} {as : List Addr}
    (h1 : s.heap.get? a = some o) (h2 : o.cls = .type "list") (h3 : o.data = .seq vs n) (h4 : ReadsAll s.heap vs.toList xs as) (hs : PyData.showableAll xs = true) (hsm : PyData.hasDictAll xs = true → sysModules ∉ as)
    (hg : A.guards = some []) (hu : A.units + ((PyData.list xs).depth + 1) < cLine) (hsz : (listText (PyData.shownAll xs)).length ≤ sizeLine)
    (hQ : ∀ h' u tk, (∀ b o, s.heap.get? b = some o → h'.get? b = some o) → Q (.str (listText (PyData.shownAll xs)) u) { s with heap := h', toks := tk }) :
    wpAny (model prog w) A (call (.builtin "repr") [.ref a]) Q E s := by
  obtain ⟨bs, hb, hk⟩ := ReprAllK.of_readsAll (prog := prog) (w := w) h4 hs hsm (fun t ht => Nat.le_trans (listText_mem_le ht) hsz)
  have hna : a ∉ bs :=
    not_mem_of_deeper (.list h1 h2 h3 h4) (by simp only [PyData.depth]; omega) hb
  simp only [PyData.depth] at hu
  refine call_repr_slot (A := A) (by omega) (idr := "list.__repr__") (T := "list") (show s.TypeIs (.ref a) "list" from ⟨o, h1, h2⟩) F.slot_list_repr.toG ?_
  have hu1 : A.in1.units = A.units + 1 := rfl
  obtain ⟨l⟩ := vs
  cases l with
  | nil =>
    have h4' : ReadsAll s.heap [] xs as := h4
    cases h4'
    have ht := hQ s.heap
    rw [show listText (PyData.shownAll []) = ("[]" : Str) by simp only [PyData.shownAll]; exact listText_nil] at ht
    exact call_list_repr_empty ⟨o, h1, h2⟩ h1 h3 ⟨_, _, rfl, ht _ _ fun _ _ e => e⟩
  | cons x l =>
    refine call_list_reprK h1 h2 h3 hna (by simpa using hk.length_eq) (fun i y e => hk.item i y (by simpa using e)) (by exact hg) (fun b _ => Clear.nil b) (by rw [hu1]; omega) (fun _ _ e => e) (fun h' u tk k => ⟨_, _, rfl, hQ h' u tk k⟩) hsz
/-- repr(xs), xs a list of data -/
def rRepr (K : PySem.W.Frag) : List V → Hp → VK → Prop := fun vs H Q => ∃ (a : Addr) (xs : List V) (ds : List PyData), vs = [.ref a] ∧ H a = some (.lst xs) ∧ RpAll K H xs ds ∧ PyData.showableAll ds = true ∧ (PyData.hasDictAll ds = true → okSAll ds = true) ∧
  (PyData.list ds).depth ≤ 20 ∧ 3 + massAll ds ≤ sizeLine ∧ Q (.str (listText (PyData.shownAll ds))) H
theorem call_repr {X : Cx} (hg : X.A.guards = some []) (hu : X.A.units + 64 < cLine) : CallR X (.builtin "repr") (rRepr X.K) := by
  intro pins s σ H xs us Q I r h
  obtain ⟨a, ys, ds, rfl, ha, hr, hs, hd, hp, hm, q⟩ := h
  obtain rfl := Vals.ref1 r
  obtain ⟨its, rv, ⟨o, n, ho, hc, _, hdt⟩, _⟩ := I.list (.of ha)
  obtain ⟨as, q1, z1⟩ := rp_readsAll I ds _ its hr rv
  have hz := Nat.le_trans (list_text_le _) (Nat.le_trans (Nat.add_le_add_left (shown_all_le ds hs) 3) hm)
  exact repr_top ho hc hdt q1 hs (fun z => z1 (hd z)) hg (by omega) hz fun h' u tk k => ⟨.str _, H, I.kept k, ⟨u, rfl⟩, q⟩
end G
set_option Elab.async false
set_option linter.all false
set_option maxRecDepth 100000
set_option maxHeartbeats 2000000
/-! G2: a def that runs where no guard is under way, and the law's own call. -/
namespace G
open PySem PySem.Spec PyProof.Rows L2
/-- as FnOk, of arounds without guards -/
structure FnG (P : Program) (w : World) (K : PySem.W.Frag) (mg : Str → Option Value) (base : Heap) (CX : CXT) (k : Nat) (f : Addr) (fd : FuncData) (ps : List Str) (sp : Sp) : Prop where
  size : ∀ vs H Q E, sp vs H Q E → vs.length = ps.length
  go : ∀ (A : Around) (outer : List Env) (s : Shared) (H : Hp) (args : Args) (us : List Value) (vs : List V) (Q : VK) (E : XK),
    A.guards = some [] → Room k A → Env0 P w K mg base A outer s H → BindsTo s fd args (ps.zip us) → Vals vs us → sp vs H Q E → codeAny (model P w) A (.call (.ref f) args) (CR CX outer P w H s Q E) s
section
variable {P : Program} {w : World} {K : PySem.W.Frag} {mg : Str → Option Value} {base : Heap} {CX : CXT}
theorem FnG.of_body {x qual : Str} {st : Stmt} {f : Addr} {fd : FuncData} {N ps : List Str} {k : Nat} {sp : Sp} (F : Fun K x qual st f fd) (S : FnScope N ps (defScope st))
    (size : ∀ vs H Q E, sp vs H Q E → vs.length = ps.length)
    (body : ∀ (cdv : Value) (A : Around) (outer : List Env) (s : Shared) (H : Hp) (vs : List V) (Q : VK) (E : XK), A.guards = some [] →
      Room k (A.deeper (envOfC qual (defScope st) s.heap.objs.size f cdv)) → sp vs H Q E →
      ∃ t, PSs (cxOf CX P w K mg base N qual (defScope st) f cdv A outer s H E).nox (defBody st) t ∧ t { nx := fun _ H' => Q .non H', rt := Q } (start N vs) H) :
    FnG P w K mg base CX (k + 1) f fd ps sp := by
  obtain ⟨_, _, _, _, _, _, cdv, _, _, rfl, lk, hcd⟩ := F.ex
  refine ⟨size, fun A outer s H args us vs Q E hg hr e0 hb r h => ?_⟩
  have inS : K.In s.heap := e0.mod.kin.keeps fun b o e => (e0.bs b o e).1
  have noL : s.heap.NoLimit := e0.mod.nolimit.keeps fun b o e => (e0.bs b o e).1
  refine codeAny_call_function hr.depth (inS _ _ lk) rfl S.co S.gen rfl
    (PySem.W.codeRec_of inS hcd) (hb _ _ _ _ ?_)
  refine wpAny_newFunctionEnv_cells S.kind
    (fun ⟨n, v⟩ hy => ?_) fun env he s1 x => ?_
  · rcases S.par n (List.of_mem_zip hy).1 with q | q
    · exact Or.inl q
    · exact Or.inr ⟨q, PySem.W.cellsFrom_some _ _ _ (Or.inl q)⟩
  · subst he
    refine ⟨noL.keeps x.toInCall.keep, codeAny_func ?_⟩
    obtain ⟨t, ht, hq⟩ := body cdv A outer s H vs Q E hg (hr.deeper _) h
    have J := inv_start (CX := CX) (P := P) (w := w) (K := K) (mg := mg) (base := base) (E := E) S hr.hd e0 (size _ _ _ _ h) r x
    refine wpAny_mono (ht.nox.run [] s1 (start N vs) H _ J hq) (fun fl s' z => ?_) fun e s' z => z
    cases fl with
    | ret u =>
      obtain ⟨v, σ', H', J', rv, q⟩ := z
      exact ⟨v, H', J'.os, J'.bare, J'.base, J'.hok, rv, q⟩
    | next =>
      obtain ⟨σ', H', J', q⟩ := z
      exact ⟨.non, H', J'.os, J'.bare, J'.base, J'.hok, rfl, q⟩
    | brk =>
      obtain ⟨_, _, _, q⟩ := z
      exact q.elim
    | cont =>
      obtain ⟨_, _, _, q⟩ := z
      exact q.elim
end
section
variable {X : Cx} {CX : CXT} {k : Nat} {f : Addr} {fd : FuncData} {ps : List Str} {sp : Sp} {dvs : List V} {ds : List Value} {E : XK} {x : Str} {p pos : Pos} {e : Expr} {es : List Expr} {t : TA}
theorem FnG.run {pins : List (Addr × Obj)} {σ : L2.St} {H : Hp} {s : Shared} {Q : VK} {us : List Value} {vs : List V} (F : FnG X.prog X.w X.K X.mg X.base CX k f fd ps sp) (hg : X.A.guards = some []) (hr : Room k X.A) (hb : Binds X.K fd ps ds) (hd : Vals dvs ds)
    (hx : Passes CX X E) (I : Inv X pins σ H s) (r : Vals vs us) (h : sp (vs ++ dvs) H Q E) : wpAny (model X.prog X.w) X.A (call (.ref f) us) (EP X pins σ Q) X.xe s := by
  have both := r.append hd
  have size : (us ++ ds).length = ps.length := both.length.symm.trans (F.size _ _ _ _ h)
  refine wpAny_call (codeAny_mono (F.go X.A X.stack s H ⟨us, []⟩ (us ++ ds) (vs ++ dvs) Q E hg hr I.env0 (hb s us I.kIn size) both h) fun q s' z => ?_)
  match q, z with
  | .error er, z => exact hx pins σ H s er s' I z
  | .ok (.ret u), z => exact I.after z
/-- f(e, ..) -/
theorem pe_callG (F : FnG X.prog X.w X.K X.mg X.base CX k f fd ps sp) (hg : X.A.guards = some []) (hr : Room k X.A) (gl : Gl X x) (hm : X.mg x = some (.ref f)) (hk : PySem.W.keepIn X.K (.ref f) = true) (hb : Binds X.K fd ps ds) (hd : Vals dvs ds)
    (hx : Passes CX X E) (ha : PA X (e :: es) t) (hdb : (x == ("__debug__" : Str)) = false := by decide)
    (he : starEach (e :: es) X.env = (false, eval e X.env) :: starEach es X.env := by rfl) (hpl : (backTo pos (starEach es X.env)).any (·.1) = false := by rfl) : PE X (.Call (.Name x p) (e :: es) [] pos) (tCall sp dvs E t) := by
  constructor
  intro pins s σ H Q I h
  refine wpAny_Call_Name_kw (ld_glob I gl hm ?_ hdb)
  exact PySem.W.callWith_K (h₀ := X.base) I.ok.mod.kin hk
    (thn (ha.run pos pins s σ H _ I h) fun us s1 ⟨vs, H1, I1, r, q⟩ => ⟨I1.kIn, F.run hg hr hb hd hx I1 r q⟩) he hpl
end
/-- True comes out, what stood stands, nothing went in or out -/
def Fine (s : Shared) (r : Result) (s' : Shared) : Prop :=
  r = .ok (.ret (.bool true)) ∧ OldK s.heap s'.heap ∧ s'.os = s.os ∧ AllBare s'.gens
/-- the law's call, from the state that the top leaves -/
theorem law_go {P : Program} {w : World} {K : PySem.W.Frag} {mg mb : Str → Option Value} {k : Nat} {fa a : Addr} {fd : FuncData} {x : Str} {sp : Sp} {s₁ : Shared} {vs : List Value} {ns : List Int}
    (inK : K.In s₁.heap) (gl : s₁.heap.Ns mainGlobals mg)
    (bl : s₁.heap.Ns builtinsNs mb) (boot : ∀ y : Str, y ≠ "__name__" → mb y = bootBuiltins y)
    (lim : s₁.heap.NoLimit) (noG : s₁.gens = #[])
    (script : s₁.heap.get? a = some { cls := .type "list", data := .seq vs.toArray })
    (allInt : IntsAre vs ns) (few : ns.length ≤ sizeLine) (hr : Room k callerA)
    (F : ∀ base : Heap, K.In base → base.Ns mainGlobals mg → FnG P w K mg base CX0 k fa fd [x] sp) (hbind : ∀ (s : Shared) (u : Value), BindsTo s fd ⟨[u], []⟩ [(x, u)])
    (hsp : ∀ H : Hp, Only H → SqL K H a (ns.map V.int) → sp [.ref a] H (fun v _ => v = .bl true) fun _ _ _ => False) :
    codeAny (model P w) callerA (.call (.ref fa) ⟨[.ref a], []⟩)
      (Fine s₁) s₁ := by
  -- nothing but the script is tracked; if the written part holds the script, nothing at all
  have main : ∀ H : Hp, Only H → SqL K H a (ns.map V.int) → HOk P w H s₁.heap → (∀ b, H b ≠ none → b = a ∧ K.lookup a = none) →
      codeAny (model P w) callerA (.call (.ref fa) ⟨[.ref a], []⟩)
      (Fine s₁) s₁ := by
    intro H hO hS hok hA
    have nsK : ∀ {b : Addr} {m : Str → Option Value}, s₁.heap.Ns b m → (hidT s₁.heap H).Ns b m := by
      rintro b m ⟨o, es, ep, e, d, r⟩
      refine ⟨o, es, ep, hidT_get e ?_, d, r⟩
      cases q : H b with
      | none => rfl
      | some u =>
        exfalso
        have eb := (hA b (by rw [q]; simp)).1
        rw [eb, script] at e
        rw [← Option.some.inj e] at d
        cases d
    have inB : K.In (hidT s₁.heap H) := fun b o e => hidT_get (inK b o e) (by
      cases q : H b with
      | none => rfl
      | some u =>
        exfalso
        obtain ⟨e1, e2⟩ := hA b (by rw [q]; simp)
        rw [e1, e2] at e
        cases e)
    obtain ⟨mc, l1, l2⟩ := lim
    have hM : Mod K mg (hidT s₁.heap H) := ⟨inB, nsK gl, ⟨mb, nsK bl, boot⟩, ⟨mc, nsK l1, l2⟩⟩
    have e0 : Env0 P w K mg (hidT s₁.heap H) callerA [] s₁ H := ⟨rfl, hM, fun b o e => of_hidT e, Nat.le_of_eq (hidT_size _ _), trivial, fun b z => absurd (show b ∈ ([] : List Addr) from z) (by simp), hok, .of_eq noG⟩
    have run := (F _ inB (nsK gl)).go callerA [] s₁ H ⟨[.ref a], []⟩ [.ref a] [.ref a] _ _ rfl hr e0 (hbind s₁ (.ref a)) (.cons rfl .nil) (hsp H hO hS)
    refine codeAny_mono run fun r s' h => ?_
    match r, h with
    | .ok (.ret u), h =>
      obtain ⟨v, H', os, bare, un, hok', r', q⟩ := h
      obtain rfl : v = .bl true := q
      obtain rfl : u = Value.bool true := r'
      refine ⟨rfl, OldK.of_keep fun b o e => ?_, os, bare⟩
      rcases hO b with z | ⟨ob, xs, z⟩
      · exact un.keep b o e z (fun z => absurd (show b ∈ ([] : List Addr) from z) (by simp)) (by simp)
      · obtain ⟨e1, _⟩ := hok b _ z
        obtain ⟨e2, _⟩ := hok' b _ (un.frzs b ob _ z)
        rw [e] at e1
        cases e1
        exact e2
  cases hk : K.lookup a with
  | some o =>
    have e := inK a o hk
    rw [script] at e
    cases e
    refine main (fun _ => none) (fun _ => .inl rfl) (.inr ⟨_, vs.toArray, _, hk, rfl, rfl, rfl, ?_, ?_⟩) (fun b u z => nomatch z) fun b z => absurd rfl z
    · rw [List.size_toArray, allInt.length]
      exact few
    · simpa using vals_ints allInt
  | none =>
    let o : Obj := { cls := .type "list", data := .seq vs.toArray }
    let T : HO := .frz o (.lst (ns.map V.int))
    have at_a : upd (fun _ => none) a T a = some T := upd_same
    refine main (upd (fun _ => none) a T) (fun b => ?_) (.inl (.inr ⟨o, at_a⟩)) (fun b u z => ?_) fun b z => ?_
    · by_cases h : b = a
      · exact .inr ⟨o, _, by rw [h]; exact at_a⟩
      · exact .inl (upd_ne h)
    · by_cases h : b = a
      · subst h
        rw [at_a] at z
        cases z
        exact ⟨script, by rw [List.length_map]; exact few, vs, _, vals_ints allInt, script⟩
      · rw [upd_ne h] at z
        cases z
    · by_cases h : b = a
      · exact ⟨h, hk⟩
      · exact absurd (upd_ne h) z
/-- what k_head leaves, by the law's promise -/
theorem walk_go {l : PySem.W.OpenLaw} {n k : Nat} {q : Program} {loose : List Str} {XP : (Str → Option Value) → Heap → Prop} {YP : World → Heap → Prop} {d : DefRec} {K : Params → PySem.W.Frag} {sp : PySem.W.Frag → Sp} {x : Str}
    (most : l.most = some n) (few : n ≤ sizeLine)
    (nodf : d.params.defaults = []) (hr : Room k callerA)
    (hY : ∀ (w : World) (h : Heap), YP w h → (K w.params).In h)
    (F : ∀ (w : World) (mg : Str → Option Value) (fa : Addr) (h : Heap),
      (K w.params).In h → h.Ns mainGlobals mg → mg d.name = some (.ref fa) →
      ∃ fd : FuncData, (∀ (s : Shared) (u : Value), BindsTo s fd ⟨[u], []⟩ [(x, u)]) ∧ ∀ base : Heap, (K w.params).In base → base.Ns mainGlobals mg → FnG l.prog w (K w.params) mg base CX0 k fa fd [x] (sp (K w.params)))
    (hsp : ∀ (K : PySem.W.Frag) (H : Hp) (a : Addr) (ns : List Int), ns.length ≤ n → Only H → SqL K H a (ns.map V.int) → sp K [.ref a] H (fun v _ => v = .bl true) fun _ _ _ => False) :
    PySem.W.WalkO q loose XP YP l.row.toRowW d []
      (fun f vs => PySem.call f vs) := by
  refine Att.attach_call most nodf
    fun w _ s₁ mg mb fa _ _ _ _ a vs ns top Y _ _ _ atF obj allInt len noG => ?_
  have inK := hY w _ Y
  obtain ⟨fd, binds, keeps⟩ := F w mg fa _ inK top.T.g atF
  exact law_go inK top.T.g top.T.b top.T.builtins top.T.nolimit noG obj allInt (Nat.le_trans len few) hr keeps binds
    fun H hO hS => hsp _ H a ns len hO hS
end G
set_option Elab.async false
set_option linter.all false
set_option maxRecDepth 100000
set_option maxHeartbeats 2000000
/-! U1: a method that says super().__init__(..): its own activation is known while it runs. -/
namespace G
open PySem PySem.Spec PyProof.Rows L2 NdefX

/-- one statement, of a body whose activation is on top -/
structure PSa (X : Cx) (body : List Stmt) (st : Stmt) (t : TS) : Prop where
  run : ∀ (pins : List (Addr × Obj)) (s : Shared) (σ : L2.St) (H : Hp) (D : Ends), Inv X pins σ H s → t D σ H → _root_.PySem.wpAt (model X.prog X.w) X.A (.func body X.env) (exec st X.env) (SP X pins D) X.xe s
/-- .. several -/
structure PSsa (X : Cx) (body : List Stmt) (st : List Stmt) (t : TS) : Prop where
  run : ∀ (pins : List (Addr × Obj)) (s : Shared) (σ : L2.St) (H : Hp) (D : Ends), Inv X pins σ H s → t D σ H → _root_.PySem.wpAt (model X.prog X.w) X.A (.func body X.env) (execs st X.env) (SP X pins D) X.xe s
section
variable {X : Cx} {body rest : List Stmt} {st : Stmt} {t u : TS}
theorem psa (h : PS X st t) : PSa X body st t := ⟨fun pins s σ H D I q => wpAt_of_wpAny (h.run pins s σ H D I q)⟩
theorem pssa {sts : List Stmt} (h : PSs X sts t) : PSsa X body sts t := ⟨fun pins s σ H D I q => wpAt_of_wpAny (h.run pins s σ H D I q)⟩
theorem pssa_cons (h1 : PSa X body st t) (h2 : PSsa X body rest u) : PSsa X body (st :: rest) (tSeq t u) := by
  refine ⟨fun pins s σ H D I h => ks_wpAt_execs_cons (ks_wpAt_mono (h1.run pins s σ H { D with nx := u D } I h) (fun f s1 q => ?_) fun _ _ z => z)⟩
  cases f with
  | next =>
    obtain ⟨σ', H', I', q⟩ := q
    exact h2.run pins s1 σ' H' D I' q
  | ret v => exact q
  | brk => exact q
  | cont => exact q
end

/-- what of the text the words super().__init__ rest on, said in the def at f, of the class at D, to an instance of the class at C; f2: the __init__ found -/
structure SupOf (P : Program) (K : PySem.W.Frag) (f cda cc D C f2 : Addr) (x : Str) : Prop where
  fn : ∃ oc od fd sl ar, K.lookup f = some ⟨oc, od, .func fd, sl⟩ ∧ (fd.params.posonlyargs ++ fd.params.args).head? = some ar ∧ ar.arg = x
  code : ∃ oc od vs sl file tf, K.lookup cda = some ⟨oc, od, .fields vs, sl⟩ ∧ vs[2]? = some (.str file tf) ∧ ((P.main.file : Str) == file) = true
  cell : ∃ oc od sl, K.lookup cc = some ⟨oc, od, .cell (some (.ref D)), sl⟩
  isc : ∃ cd, PySem.W.clsIn K D = some cd
  isC : ∃ cd, PySem.W.clsIn K C = some cd
  sub : PySem.W.mroIn K C (.ref D) = some true
  thd : PySem.W.nsIn K cStatics "thirdparty.any" = some none
  sup : PySem.W.ks_superIn K C D "__init__" = some (some (.ref f2))
  ty : PySem.W.typeIn K (.ref f2) = some (.type "function")
  fi : PySem.W.fnIn K f2 = true
  top : (P.main.scope.names.lookup ("super" : Str)).isSome = false

/-- super().__init__(..), the instance in the slot i -/
def tSup (i : Nat) (C : Addr) (sp : Sp) (E : XK) (t : TA) : TS := fun D σ H => ∃ a dx fs, σ[i]? = some (some (.ref a)) ∧ H a = some (.ins C dx fs) ∧
  t σ H fun vs H1 => sp (.ref a :: vs) H1 (fun _ H2 => D.nx σ H2) E

section
variable {X : Cx} {CX : CXT} {k i : Nat} {f cda cc D C f2 : Addr} {x : Str} {sp : Sp} {E : XK} {body : List Stmt} {e : Expr} {es : List Expr} {t : TA} {p0 p1 apos pos spos : Pos} {pl : Sem Bool}
theorem cls_at {h : Heap} {K : PySem.W.Frag} {D : Addr} {cd : ClassData} (I : K.In h) (hD : PySem.W.clsIn K D = some cd) : ∃ o, h.get? D = some o ∧ o.data = .cls cd := by
  unfold PySem.W.clsIn at hD
  split at hD
  · rename_i c d cd' sl ho
    cases hD
    exact ⟨_, I _ _ ho, rfl⟩
  · cases hD
/-- the object super() -/
theorem super_base {pins : List (Addr × Obj)} {s : Shared} {σ : L2.St} {H : Hp} {whole : Sem Value} {a dx : Addr} {fs : List (Str × V)} {Q : Value → Shared → Prop}
    (I : Inv X pins σ H s) (S : SupOf X.prog X.K f cda cc D C f2 x) (hfu : X.env.func = some f) (hco : X.env.code = .ref cda) (hcl : X.env.cells.lookup ("__class__" : Str) = some cc)
    (hks : X.env.kindOf "super" = some .globalImplicit) (hkc : X.env.kindOf "__class__" = some .free) (hkx : X.env.kindOf x = some .local) (hm : X.mg "super" = none) (hN : X.N[i]? = some x)
    (hs : σ[i]? = some (some (.ref a))) (ha : H a = some (.ins C dx fs))
    (h : ∀ s', Inv X pins σ H s' → s'.heap.get? s.heap.objs.size = some { cls := .type "super", dict := none, data := .fields #[.ref D, .ref a, .ref C], slots := #[] } → Q (.ref s.heap.objs.size) s') :
    _root_.PySem.wpAt (model X.prog X.w) X.A (.func body X.env) (attributeBase (.Call (.Name "super" p0) [] [] p1) "__init__" X.env whole) Q X.xe s := by
  obtain ⟨oc, od, fd, sl, ar, lk, hp, hx⟩ := S.fn
  obtain ⟨oc2, od2, vs, sl2, file, tf, lk2, hv, hfile⟩ := S.code
  obtain ⟨oc3, od3, sl3, lk3⟩ := S.cell
  obtain ⟨cdD, hD⟩ := S.isc
  have inK := I.kIn
  obtain ⟨oD, hD1, hD2⟩ := cls_at inK hD
  obtain ⟨mb, b1, b2⟩ := I.mod.blt
  obtain ⟨m, hn, hl⟩ := I.loc
  obtain ⟨u, ru, hlook⟩ := hl i x _ hN hs (.inl hkx)
  obtain rfl : u = Value.ref a := ru
  have hmx : m x = some (.ref a) := by
    rcases hlook with ⟨_, z⟩ | ⟨z, _⟩
    · exact z
    · rw [hkx] at z
      rcases z with z | z <;> cases z
  have hob : s.heap.get? a = some (PySem.W.instObj C dx) := (show ObjOk X.prog X.w H s.heap a (.ins C dx fs) from I.hok a _ ha).2.2.2.1
  refine ks_wpAt_super_base hks hkc (by decide) hfu (inK _ _ lk) rfl hp hco (inK _ _ lk2) rfl hv hfile S.top ?_
  refine PySem.W.ks_loadName_global I.ok.kind hks (Calls.loadGlobal_builtin (by rw [I.ok.glob]; exact I.mod.glob.keeps I.bk) hm (by rw [I.ok.blt]; exact b1.keeps I.bk) ((b2 "super" (by decide)).trans (by first | rfl | decide +kernel)) ⟨rfl, ?_⟩)
  refine wpAny_loadName_free I.ok.kind hkc hcl ⟨_, inK _ _ lk3, rfl⟩ ?_
  rw [hx]
  refine wpAny_loadName_local I.ok.kind hkx hn hmx ?_
  obtain ⟨hh, g, d, tk, os⟩ := s
  refine ks_wpAny_isType_cls hD1 hD2 ⟨rfl, ?_⟩
  refine ks_wpAny_call_super hD1 hD2 hob rfl (fun c z => nomatch z) (PySem.W.looks_mroIn inK S.sub) fun h' e1 kp => ?_
  exact h _ (I.kept (t' := tk) kp) e1
/-- super().__init__(e, ..) -/
theorem psa_super (S : SupOf X.prog X.K f cda cc D C f2 x) (F : FnR X.prog X.w X.K X.mg X.base CX k f2 sp) (hr : Room k X.A) (hx : Passes CX X E) (hfu : X.env.func = some f) (hco : X.env.code = .ref cda) (hcl : X.env.cells.lookup ("__class__" : Str) = some cc)
    (hks : X.env.kindOf "super" = some .globalImplicit) (hkc : X.env.kindOf "__class__" = some .free) (hkx : X.env.kindOf x = some .local) (hm : X.mg "super" = none) (hN : X.N[i]? = some x) (ha : PA X (e :: es) t)
    (hst : starEach (e :: es) X.env = (false, eval e X.env) :: starEach es X.env := by rfl) (hpl : (backTo pos (starEach es X.env)).any (·.1) = false := by rfl)
    (ht : eval (.Call (.Attribute (.Call (.Name "super" p0) [] [] p1) "__init__" apos) (e :: es) [] pos) X.env = (do
      let ov ← attributeBase (.Call (.Name "super" p0) [] [] p1) "__init__" X.env (eval (.Call (.Name "super" p0) [] [] p1) X.env)
      standAt apos.atName
      let (f, first) ← holding [ov] (getMethod ov "__init__" pl)
      callWith pos f first (backTo pos (starEach (e :: es) X.env)) []) := by rfl)
    (hw : swapsWith (.Call (.Attribute (.Call (.Name "super" p0) [] [] p1) "__init__" apos) (e :: es) [] pos) none spos.line X.env = pure false := by rfl) :
    PSa X body (.Expr (.Call (.Attribute (.Call (.Name "super" p0) [] [] p1) "__init__" apos) (e :: es) [] pos) spos) (tSup i C sp E t) := by
  refine ⟨fun pins s σ H Dn I h => ?_⟩
  obtain ⟨a, dx, fs, h1, h2, q⟩ := h
  refine ks_wpAt_Expr_any (ks_wpAt_MethodCall (pl := pl) (super_base I S hfu hco hcl hks hkc hkx hm hN h1 h2 fun s1 I1 hso => ?_) ht) I.quiet hw
  obtain ⟨cdC, hC⟩ := S.isC
  have inK := I1.kIn
  have hob : s1.heap.get? a = some (PySem.W.instObj C dx) := (show ObjOk X.prog X.w H s1.heap a (.ins C dx fs) from I1.hok a _ h2).2.2.2.1
  obtain ⟨oC, hC1, hC2⟩ := cls_at inK hC
  have hne : a ≠ C := fun z => by
    rw [z, hC1] at hob
    rw [Option.some.inj hob] at hC2
    cases hC2
  obtain ⟨of, hof, hofc⟩ : ∃ of, s1.heap.get? f2 = some of ∧ of.cls = .type "function" := by
    have ht' : (X.K.lookup f2).map (·.cls) = some (.type "function") := S.ty
    cases z : X.K.lookup f2 with
    | none =>
      rw [z] at ht'
      cases ht'
    | some of =>
      rw [z] at ht'
      exact ⟨of, inK _ _ z, Option.some.inj ht'⟩
  have hsup := S.sup
  unfold PySem.W.ks_superIn at hsup
  rw [hC] at hsup
  obtain ⟨hh, g, d, tk, os⟩ := s1
  refine ks_wpAny_getMethod_super hso (PySem.W.looks_opaque inK S.thd) (l₀ := cdC.mro) ((PySem.W.looks_clsIn inK hC).andThen .now) rfl inK hsup hof hofc hne (by decide) ?_
  have I2 := ClX.met_new (g := f2) (C := a) I1
  refine ClX.callwith_cm I2 (ClX.base_none I1 (Nat.le_refl _)) S.fi (thn (ha.run pos _ _ σ H _ I2 q) fun us s3 ⟨vs, H3, I3, r3, q3⟩ => ⟨⟨ClX.pin_at I3, I3.kIn⟩, ?_⟩) hst hpl
  refine thn (ClX.run_cm F hr hx I3 r3 q3) fun _ _ y => ?_
  obtain ⟨v, H4, I4, _, q4⟩ := y
  exact ⟨σ, H4, I4, q4⟩
end

/-! ### the method -/
/-- THE RULE: a method that captures __class__ (it says super()), by its body -/
theorem fnx_of {CX : CXT} {P : Program} {w : World} {K : PySem.W.Frag} {mg : Str → Option Value} {base : Heap} {k : Nat} {f cda cc : Addr} {name qual : Str} {params : Arguments} {body : List Stmt} {scope : Scope} {dV kV doc pm ct oc : Value} {an od : Option Addr}
    {osl : Array (Option Value)} {N ps : List Str} {sp : Sp} (lk : K.lookup f = some ⟨oc, od, .func (PySem.W.ksFn name qual params body scope dV kV doc pm an (.ref cda) ct cc), osl⟩) (hcd : PySem.W.codeIn K (.ref cda) qual = true)
    (hcell : ∃ oc od sl v, K.lookup cc = some ⟨oc, od, .cell v, sl⟩) (S : NScope N ps ["__class__"] scope) (len : ∀ vs H Q E, sp vs H Q E → vs.length = ps.length)
    (hbody : ∀ (A : Around) (outer : List Env) (s : Shared) (H : Hp) (vs : List V) (Q : VK) (E : XK), Room k (A.deeper (envF ⟨name, qual, params, body, scope, [("__class__", cc)], cda⟩ f s.heap.objs.size)) → sp vs H Q E →
      ∃ t, PSsa (ncx CX P w K mg base N ⟨name, qual, params, body, scope, [("__class__", cc)], cda⟩ f A outer s H E) body body t ∧ t { nx := fun _ H' => Q .non H', rt := Q } (startF N vs [none]) H) :
    FnOk P w K mg base CX (k + 1) f (PySem.W.ksFn name qual params body scope dV kV doc pm an (.ref cda) ct cc) ps sp := by
  refine ⟨len, fun A outer s H args us vs Q E hr e0 hb r hsp => ?_⟩
  have hl := len _ _ _ _ hsp
  have inK : K.In s.heap := e0.mod.kin.keeps fun b o e => (e0.bs b o e).1
  have lim : s.heap.NoLimit := e0.mod.nolimit.keeps fun b o e => (e0.bs b o e).1
  obtain ⟨oc3, od3, sl3, v3, lk3⟩ := hcell
  have C : CellsAt [(("__class__" : Str), cc)] ["__class__"] [none] s.heap H := by
    have one : ∀ {y : Str} {c : Addr}, List.lookup y [(("__class__" : Str), cc)] = some c → y = "__class__" ∧ c = cc := fun {y c} z => by
      have z2 := PySem.mem_of_lookup z
      rw [List.mem_singleton] at z2
      exact ⟨congrArg Prod.fst z2, congrArg Prod.snd z2⟩
    refine ⟨rfl, fun y c z => ?_, fun y y' c z z' => (one z).1.trans (one z').1.symm, fun i y z => ?_⟩
    · obtain ⟨_, rfl⟩ := one z
      exact ⟨(e0.bs _ _ (e0.mod.kin _ _ lk3)).2, v3, _, inK _ _ lk3, rfl⟩
    · have hy : y = "__class__" := by
        have z2 := List.mem_of_getElem? z
        rw [List.mem_singleton] at z2
        exact z2
      subst hy
      refine ⟨cc, by simp [List.lookup], fun v z => ?_⟩
      cases i with
      | zero => cases z
      | succ j => cases z
  refine codeAny_call_function hr.depth (inK _ _ lk) rfl S.co S.gen rfl (PySem.W.codeRec_of inK hcd) (hb _ _ _ _ ?_)
  refine wpAny_newFunctionEnv S.nocell (fun ⟨n, _⟩ hy => S.par n (List.of_mem_zip hy).1) (fun h₁ hns hsb => ⟨lim.fresh _ hsb, ?_⟩) S.kind
  show codeAny _ _ (.func body (envF ⟨name, qual, params, body, scope, [("__class__", cc)], cda⟩ f s.heap.objs.size)) _ _
  refine ks_codeAny_funcAt ?_
  have kp : ∀ b o, s.heap.get? b = some o → h₁.get? b = some o := fun b o e => hsb.extBut b o (Nat.ne_of_lt (Heap.lt_size e)) (Heap.get?_push_of_some _ e)
  obtain ⟨t, ht, hq⟩ := hbody A outer s H vs Q E (hr.deeper _) hsp
  have I : Inv (ncx CX P w K mg base N ⟨name, qual, params, body, scope, [("__class__", cc)], cda⟩ f A outer s H E) [] (startF N vs [none]) H { s with heap := h₁, toks := s.toks + (ps.zip us).length } := inv_startN S hr.hd e0 hl r C hns kp
  refine ks_wpAt_mono (ht.run [] _ (startF N vs [none]) H _ I hq) (fun fl s' hs => ?_) fun e s' hs => hs
  have fin : ∀ {σ' : L2.St} {H' : Hp} {v : V} {u : Value}, Inv (ncx CX P w K mg base N ⟨name, qual, params, body, scope, [("__class__", cc)], cda⟩ f A outer s H E) [] σ' H' s' → L2.RelV v u → Q v H' → CE outer P w H s Q u s' :=
    fun {σ' H' v u} J rv q => ⟨v, H', J.os, J.bare, J.base, J.hok, rv, q⟩
  cases fl with
  | ret u =>
    obtain ⟨v, σ', H', J, rv, q⟩ := hs
    exact fin J rv q
  | next =>
    obtain ⟨σ', H', J, q⟩ := hs
    exact fin (v := V.non) (u := Value.none) J rfl q
  | brk =>
    obtain ⟨_, _, _, q⟩ := hs
    exact False.elim q
  | cont =>
    obtain ⟨_, _, _, q⟩ := hs
    exact False.elim q
end G
set_option Elab.async false
set_option linter.all false
set_option maxRecDepth 100000
set_option maxHeartbeats 2000000
/-! Q1: == and != by an own __eq__ with both answers, the right side of any kind. -/
namespace G
open PySem PySem.Spec PyProof.Rows L2
open Builtin in
theorem entry_ne {prog : Program} {w : World} {A : Around} {E : Value → Shared → Prop} {s : Shared} {K : PySem.W.Frag} {x C f : Addr} {ox : Obj} {od : Option Obj} {b : Value} {Q : Fin → Shared → Prop}
    (X : K.In s.heap) (I : PySem.W.InstAt s.heap x ox C od) (hu : A.units < cLine) (hs : PySem.W.findIn K (.ref C) "__eq__" = some (some (.ref f))) (hf : PySem.W.isFn K (.ref f) = true)
    (hcall : wpAny (model prog w) A (call (.ref f) [.ref x, b]) (fun v s' => ∃ k, v = .bool k ∧ Q (.done (.ret (.bool (!k)))) s') E s) :
    wpAny (model prog w) A (Builtin.«object.__ne__» ⟨[.ref x, b], []⟩) Q E s := by
  unfold Builtin.«object.__ne__»
  repeat (first
    | with_reducible refine wpAny_cRoomFor hu ?_
    | (refine wpAny_bind (m := callSpecialIfBound? (.ref x) (Str.ofString "__eq__") [b])
        (PySem.W.ifBound_K X I hs hf (wpAny_mono hcall (fun r s' hr => by
          obtain ⟨k, rfl, hq⟩ := hr
          repeat (first | exact hq | exact wpAny_pure hq | exact wpAny_truthy_bool hq | (refine wpAny_bind (m := truthy (.bool _)) (wpAny_truthy_bool ?_)) | wp_step)) fun _ _ e => e)))
    | wp_step)
/-- what == and != ask of the class at C -/
structure EqO (K : PySem.W.Frag) (C f : Addr) : Prop where
  eq : PySem.W.findIn K (.ref C) "__eq__" = some (some (.ref f))
  fn : PySem.W.isFn K (.ref f) = true
  ne : PySem.W.findIn K (.ref C) "__ne__" = some (some (.builtin "object.__ne__"))
  ob : PySem.W.mroIn K C (.type "object") = some true
theorem ne_K {prog : Program} {w : World} {A : Around} {E : Value → Shared → Prop} {s : Shared} {K : PySem.W.Frag} {x C L f : Addr} {h₀ : Heap} {m : Str → Option Value} {ox : Obj} {od : Option Obj} {b tb : Value} {Q : Value → Shared → Prop} (hu : A.units + 1 < cLine) (hFr : Fr h₀ L s.heap m) (X₀ : K.In h₀)
    (I : PySem.W.InstAt s.heap x ox C od) (hb : PySem.W.Looks (model prog w) s.heap (typeOf b) tb) (hn : PySem.W.notFirst K C tb = true) (e : EqO K C f)
    (h : wpAny (model prog w) A.in1 (call (.ref f) [.ref x, b]) (fun v s' => ∃ k, v = .bool k ∧ Q (.bool (!k)) s') E s) : wpAny (model prog w) A (richCompare .NotEq (.ref x) b) Q E s := by
  have X := X₀.keeps hFr.keep
  have sp : PySem.W.Looks (model prog w) s.heap (specialOf (.ref x) "__ne__") (some (.builtin "object.__ne__")) := I.type.andThen (PySem.W.looks_findIn X e.ne)
  have iv : PySem.W.Looks (model prog w) s.heap (isInstance (.ref x) (.type "object")) true := I.type.andThen (PySem.W.looks_mroIn X e.ob)
  have one : wpAny (model prog w) A (tryCompare (.ref x) "__ne__" b) (fun r s' => ∃ v, r = some v ∧ Q v s') E s := by
    unfold tryCompare
    refine wpAny_bind (NtL.csib sp (F.cmp_object.ne.bind _) (wpAny_call (codeAny_call_builtin F.cmp_object.ne.plain F.cmpEntry_ne
      (PySem.W.check_slot F.cmpKind_ne F.cmpSplit_ne iv (F.cmpArgs_ne _ _) (entry_ne (A := A.in1) X I hu e.eq e.fn (wpAny_mono h (fun v s' hv => ?_) fun _ _ z => z))))))
    obtain ⟨k, rfl, hq⟩ := hv
    first | exact ⟨k, rfl, wpAny_pure ⟨_, rfl, hq⟩⟩ | exact ⟨k, rfl, _, rfl, hq⟩
  unfold richCompare
  simp only [oneThing_ref]
  refine wpAny_holding (wpAny_bind (wpAny_cRoomFor (Nat.lt_of_succ_lt hu) ?_))
  rw [cmpInfo_NotEq]
  dsimp only
  refine wpAny_bind (I.type.here (wpAny_bind (hb.here ?_)))
  split
  · rename_i q
    have e : PySem.W.subIn K tb (.ref C) = some false := by
      rcases Bool.or_eq_true_iff.mp hn with e | e
      · rw [beq_iff_eq.mp e] at q; simp at q
      · exact beq_iff_eq.mp e
    refine wpAny_bind ((PySem.W.looks_subIn X e).here ?_)
    simp only [Bool.false_eq_true, if_false]
    refine wpAny_bind (wpAny_mono one (fun r s' z => ?_) fun _ _ e => e)
    obtain ⟨v, rfl, hq⟩ := z
    exact wpAny_pure hq
  · refine wpAny_bind (wpAny_pure ?_)
    simp only [Bool.false_eq_true, if_false]
    refine wpAny_bind (wpAny_mono one (fun r s' z => ?_) fun _ _ e => e)
    obtain ⟨v, rfl, hq⟩ := z
    exact wpAny_pure hq
/-- the kinds of things on the right -/
inductive Oth (H : Hp) : V → Value → Prop where
  | non : Oth H .non (.type "NoneType")
  | int (i : Int) : Oth H (.int i) (.type "int")
  | str (z : Str) : Oth H (.str z) (.type "str")
  | lst {a : Addr} {xs : List V} (e : H a = some (.lst xs)) : Oth H (.ref a) (.type "list")
  | tup {a : Addr} {xs : List V} (e : H a = some (.tup xs)) : Oth H (.ref a) (.type "tuple")
  | ins {a C dx : Addr} {fs : List (Str × V)} (e : H a = some (.ins C dx fs)) : Oth H (.ref a) (.ref C)
  | dic {a : Addr} {ks : List (Key × V)} (e : H a = some (.dK ks)) : Oth H (.ref a) (.type "dict")
theorem insX_at {X : Cx} {pins : List (Addr × Obj)} {σ : L2.St} {H : Hp} {s : Shared} {a C dx : Addr} {fs : List (Str × V)} (I : Inv X pins σ H s) (h : H a = some (.ins C dx fs)) : ∃ ox od, PySem.W.InstAt s.heap a ox C od := by
  obtain ⟨mA, O, _⟩ := ins_get I.hok h
  obtain ⟨od, J, _⟩ := O.look
  exact ⟨_, _, J⟩
theorem oth_looks {X : Cx} {pins : List (Addr × Obj)} {σ : L2.St} {H : Hp} {s : Shared} {x : V} {u t : Value} (I : Inv X pins σ H s) (rx : RelV x u) (o : Oth H x t) (M : Model) : PySem.W.Looks M s.heap (typeOf u) t := by
  cases o with
  | non => cases (show u = Value.none from rx); exact .of_pure rfl
  | int i => obtain ⟨t, q⟩ := (show ∃ t, u = Value.int i t from rx); cases q; exact .of_pure rfl
  | str y => obtain ⟨t, q⟩ := (show ∃ t, u = Value.str y t from rx); cases q; exact .of_pure rfl
  | @lst a xs ea =>
    cases (show u = Value.ref a from rx)
    obtain ⟨_, _, n, _, h1⟩ := (show ObjOk X.prog X.w H s.heap a (.lst xs) from I.hok a _ ea)
    exact (PySem.W.Looks.ld h1).andThen .now
  | @tup a xs ea =>
    cases (show u = Value.ref a from rx)
    obtain ⟨_, _, _, o, h1, h2, _⟩ := (show ObjOk X.prog X.w H s.heap a (.tup xs) from I.hok a _ ea)
    rw [← h2]
    exact (PySem.W.Looks.ld h1).andThen .now
  | @ins a C dx fs ea =>
    cases (show u = Value.ref a from rx)
    obtain ⟨ox, od, J⟩ := insX_at I ea
    exact J.type
  | @dic a ks ea =>
    cases (show u = Value.ref a from rx)
    obtain ⟨_, _, _, _, o, _, _, h1, h2, _⟩ := (show ObjOk X.prog X.w H s.heap a (.dK ks) from I.hok a _ ea)
    rw [← h2.1]
    exact (PySem.W.Looks.ld h1).andThen .now
section
variable {X : Cx} {C g : Addr} {fd : FuncData} {ps : List Str} {n : Nat} {sp : Sp} {E : XK}
def rEqB (K : PySem.W.Frag) (C : Addr) (sp : Sp) (E : XK) (pos : Bool) : R2 := fun x y H Q => ∃ a dx fs t, x = .ref a ∧ H a = some (.ins C dx fs) ∧ Oth H y t ∧ PySem.W.notFirst K C t = true ∧ sp [x, y] H (fun v H' => ∃ k : Bool, v = .bl k ∧ Q (.bl (cond pos k (!k))) H') E
theorem op_eqB (e : EqO X.K C g) (hb : Binds X.K fd ps []) (F : FnOk X.prog X.w X.K X.mg X.base CX0 n g fd ps sp) (hr : Room n X.A) (hx : Passes CX0 X E) : OpR X (compareOp .Eq) (rEqB X.K C sp E true) := by
  intro pins s σ H x y v u Q I rx ry h
  obtain ⟨a, dx, fs, t, rfl, ha, ho, hn, q⟩ := h
  cases (show v = Value.ref a from rx)
  obtain ⟨ox, od, J⟩ := insX_at I ha
  obtain ⟨m, hF⟩ := I.fr
  refine PySem.W.cmp_K (op := .Eq) hr.units0 hF I.ok.mod.kin J (oth_looks I ry ho _) hn e.eq e.fn ?_
  refine wpAny_mono (run_fn (us := [.ref a, u]) (vs := [.ref a, y]) F hr hb .nil hx I (.cons rfl (.cons ry .nil)) q) (fun w s' z => ?_) fun _ _ x => x
  obtain ⟨z', H', I', rz, k, rfl, qz⟩ := z
  exact SlX.cmpback rz ⟨.bl k, H', I', rz, qz⟩
theorem op_neB (e : EqO X.K C g) (hb : Binds X.K fd ps []) (F : FnOk X.prog X.w X.K X.mg X.base CX0 n g fd ps sp) (hr : Room (n + 1) X.A) : OpR X (compareOp .NotEq) (rEqB X.K C sp E false) := by
  intro pins s σ H x y v u Q I rx ry h
  obtain ⟨a, dx, fs, t, rfl, ha, ho, hn, q⟩ := h
  cases (show v = Value.ref a from rx)
  obtain ⟨ox, od, J⟩ := insX_at I ha
  obtain ⟨m, hF⟩ := I.fr
  refine ne_K (by have := hr.units; omega) hF I.ok.mod.kin J (oth_looks I ry ho _) hn e ?_
  have hl : ([Value.ref a, u] ++ []).length = ps.length := by
    have := F.len _ _ _ _ q
    exact this
  refine wpAny_call (codeAny_mono (F.run X.A.in1 X.stack s H ⟨[.ref a, u], []⟩ ([.ref a, u] ++ []) [.ref a, y] _ E hr.in1 I.env0.in1 (hb s [.ref a, u] I.kIn hl) (.cons rfl (.cons ry .nil)) q) fun r s' hq => ?_)
  cases r with
  | error e => exact False.elim hq
  | ok fl =>
    cases fl with
    | ret u =>
      obtain ⟨v, H', I2, rv, k, rfl, q⟩ := I.after hq
      obtain rfl : u = Value.bool k := rv
      exact ⟨k, rfl, .bl (!k), H', I2, rfl, q⟩
    | next => exact False.elim hq
    | brk => exact False.elim hq
    | cont => exact False.elim hq
end
end G
set_option Elab.async false
set_option linter.all false
set_option maxRecDepth 100000
set_option maxHeartbeats 2000000
/-! Q2: str(x) by an own __str__; keys that differ stay so. -/
namespace G
open PySem PySem.Spec PyProof.Rows L2
section
variable {X : Cx} {C g : Addr} {fd : FuncData} {ps : List Str} {n : Nat} {sp : Sp} {E : XK}
def rStrB (C : Addr) (sp : Sp) (E : XK) : List V → Hp → VK → Prop := fun xs H Q => ∃ a dx fs, xs = [V.ref a] ∧ H a = some (.ins C dx fs) ∧ sp [.ref a] H (fun z H' => ∃ y, z = .str y ∧ Q z H') E
theorem call_strB (hs : PySem.W.findIn X.K (.ref C) "__str__" = some (some (.ref g))) (hf : PySem.W.isFn X.K (.ref g) = true) (hb : Binds X.K fd ps []) (F : FnOk X.prog X.w X.K X.mg X.base CX0 n g fd ps sp) (hr : Room (n + 2) X.A) : CallR X (.type "str") (rStrB C sp E) := by
  intro pins s σ H xs us Q I r h
  obtain ⟨a, dx, fs, rfl, ha, q⟩ := h
  obtain ⟨u, rfl, ru⟩ := r.one
  cases (show u = Value.ref a from ru)
  obtain ⟨ox, od, J⟩ := insX_at I ha
  have hr2 : Room n X.A.in1.in1 := (show Room (n + 1) X.A.in1 from Room.in1 hr).in1
  refine PySem.W.kso_call (by have := hr2.units; omega) I.kIn J hs hf ?_
  have hl : ([Value.ref a] ++ []).length = ps.length := by
    have := F.len _ _ _ _ q
    exact this
  refine wpAny_call (codeAny_mono (F.run X.A.in1.in1 X.stack s H ⟨[Value.ref a], []⟩ ([Value.ref a] ++ []) [V.ref a] _ E hr2 I.env0.in1.in1 (hb s [Value.ref a] I.kIn hl) (show Vals [V.ref a] [Value.ref a] from .cons rfl .nil) q) fun r s' hq => ?_)
  cases r with
  | error e => exact False.elim hq
  | ok fl =>
    cases fl with
    | ret u =>
      obtain ⟨v, H', I2, rv, y, rfl, q⟩ := I.after hq
      obtain ⟨t, rfl⟩ := (show ∃ t, u = Value.str y t from rv)
      exact ⟨.str y, H', I2, ⟨t, rfl⟩, q⟩
    | next => exact False.elim hq
    | brk => exact False.elim hq
    | cont => exact False.elim hq
end
theorem nodup_put {kvs : List (Key × V)} (h : (kvs.map (·.1)).Nodup) (k : Key) (v : V) : ((putK kvs k v).map (·.1)).Nodup := by
  unfold putK
  split
  · rw [List.map_map]
    have e : (kvs.map ((fun p : Key × V => p.1) ∘ fun kv => if kv.1 = k then (kv.1, v) else kv)) = kvs.map (·.1) := List.map_congr_left fun p _ => by
      show (if p.1 = k then (p.1, v) else p).1 = p.1
      split <;> rfl
    rw [e]
    exact h
  · rename_i hn
    rw [List.map_append, List.nodup_append]
    refine ⟨h, by simp, fun x hx y hy => ?_⟩
    rw [List.map_cons, List.map_nil, List.mem_singleton] at hy
    rintro rfl
    obtain ⟨p, hp, e⟩ := List.mem_map.mp hx
    apply hn
    exact List.any_eq_true.mpr ⟨p, hp, decide_eq_true (e.trans hy)⟩
theorem valV_nodup : ∀ {kvs : List (Key × V)}, (kvs.map (·.1)).Nodup → ∀ p ∈ kvs, valV kvs p.1 = some p.2
  | p :: kvs, h, q, hq => by
    rw [List.map_cons, List.nodup_cons] at h
    show Option.map (fun r : Key × V => r.2) (List.find? (fun kv => decide (kv.1 = q.1)) (p :: kvs)) = some q.2
    rcases List.mem_cons.mp hq with rfl | hq'
    · rw [List.find?_cons_of_pos (by simp)]
      rfl
    · have ne : ¬ p.1 = q.1 := fun e => h.1 (by rw [e]; exact List.mem_map.mpr ⟨q, hq', rfl⟩)
      rw [List.find?_cons_of_neg (by simpa using ne)]
      exact valV_nodup h.2 q hq'
end G
set_option Elab.async false
set_option linter.all false
set_option maxRecDepth 100000
set_option maxHeartbeats 2000000
/-! R1: methods, calls and operators of an instance whose class is not known ahead; super().__init__(*xs). -/
namespace G
open PySem PySem.Spec PyProof.Rows L2 NdefX StX

/-- the class at C keeps the promise sp for its method m -/
structure PolyM (P : Program) (w : World) (K : PySem.W.Frag) (mg : Str → Option Value) (base : Heap) (k : Nat) (C : Addr) (m : Str) (sp : Sp) : Prop where
  cl : Cls K C
  ex : ∃ (f : Addr) (fd : FuncData) (ps : List Str), Meth K C m f ∧ Binds K fd ps [] ∧ FnOk P w K mg base CX0 k f fd ps sp
/-- .. for the calls of its instances -/
structure PolyC (P : Program) (w : World) (K : PySem.W.Frag) (mg : Str → Option Value) (base : Heap) (k : Nat) (C : Addr) (sp : Sp) : Prop where
  ex : ∃ (f : Addr) (fd : FuncData) (ps : List Str), CallO K C f ∧ Binds K fd ps [] ∧ FnOk P w K mg base CX0 k f fd ps sp

/-- o.m(e, ..), o an instance of some class that keeps sp -/
def tMethV (X : Cx) (k : Nat) (m : Str) (E : XK) (ta : TE) (t : TA) : TE := fun σ H Q => ta σ H fun x H1 => ∃ (a C dx : Addr) (fs : List (Str × V)) (sp : Sp), x = .ref a ∧ H1 a = some (.ins C dx fs) ∧ PolyM X.prog X.w X.K X.mg X.base k C m sp ∧ fs.lookup m = none ∧ t σ H1 fun vs H2 => sp (.ref a :: vs) H2 Q E
/-- o(e, ..) -/
def tCallV (X : Cx) (k : Nat) (E : XK) (ta : TE) (t : TA) : TE := fun σ H Q => ta σ H fun x H1 => ∃ (a C : Addr) (sp : Sp), x = .ref a ∧ PolyC X.prog X.w X.K X.mg X.base k C sp ∧ t σ H1 fun vs H2 => InsC X H2 a C ∧ sp (.ref a :: vs) H2 Q E
section
variable {X : Cx} {k : Nat} {E : XK} {m : Str} {pos apos : Pos} {e o fe : Expr} {es : List Expr} {ta : TE} {t : TA}
theorem pe_methV {pl : Sem Bool} (he : PE X o ta) (hr : Room k X.A) (hx : Passes CX0 X E) (ha : PA X (e :: es) t)
    (hst : starEach (e :: es) X.env = (false, eval e X.env) :: starEach es X.env := by rfl) (hpl : (backTo pos (starEach es X.env)).any (·.1) = false := by rfl)
    (ht : eval (.Call (.Attribute o m apos) (e :: es) [] pos) X.env = (eval o X.env >>= fun ov => standAt apos.atName >>= fun _ => holding [ov] (getMethod ov m pl) >>= fun q => callWith pos q.1 q.2 (backTo pos (starEach (e :: es) X.env)) (backToKw pos (keywordEach [] X.env))) := by rfl) :
    PE X (.Call (.Attribute o m apos) (e :: es) [] pos) (tMethV X k m E ta t) := by
  refine ⟨fun pins s σ H Q I h => ?_⟩
  refine PySem.W.methodCall_KW (pl := pl) (thn (he.run pins s σ H _ I h) fun u s1 ⟨x, H1, I1, rx, a, C, dx, fs, sp, ex, ea, pm, l, q⟩ => ?_) ht
  subst ex
  obtain rfl : u = Value.ref a := rx
  obtain ⟨f, fd, ps, hm, hb, F⟩ := pm.ex
  refine getmeth_ok I1 ea pm.cl hm l ?_
  refine PySem.W.callWith_K (h₀ := X.base) (first := [.ref a]) I.ok.mod.kin hm.kp (thn (ha.run pos pins s1 σ H1 _ I1 q) fun us s2 ⟨vs, H2, I2, r, q2⟩ => ⟨I2.kIn, ?_⟩) hst hpl
  exact run_fn (us := .ref a :: us) (vs := .ref a :: vs) F hr hb .nil hx I2 (.cons rfl r) (by rw [List.append_nil]; exact q2)
theorem pe_methV0 {pl : Sem Bool} (he : PE X o ta) (hr : Room k X.A) (hx : Passes CX0 X E)
    (ht : eval (.Call (.Attribute o m apos) [] [] pos) X.env = (eval o X.env >>= fun ov => standAt apos.atName >>= fun _ => holding [ov] (getMethod ov m pl) >>= fun q => callWith pos q.1 q.2 (backTo pos (starEach [] X.env)) (backToKw pos (keywordEach [] X.env))) := by rfl) :
    PE X (.Call (.Attribute o m apos) [] [] pos) (tMethV X k m E ta tNil) := by
  refine ⟨fun pins s σ H Q I h => ?_⟩
  refine PySem.W.methodCall_KW (pl := pl) (thn (he.run pins s σ H _ I h) fun u s1 ⟨x, H1, I1, rx, a, C, dx, fs, sp, ex, ea, pm, l, q⟩ => ?_) ht
  subst ex
  obtain rfl : u = Value.ref a := rx
  obtain ⟨f, fd, ps, hm, hb, F⟩ := pm.ex
  refine getmeth_ok I1 ea pm.cl hm l ?_
  exact PySem.W.callWith_K0 (first := [.ref a]) I1.kIn hm.kp (run_fn (us := [.ref a]) (vs := [.ref a]) F hr hb .nil hx I1 (.cons rfl .nil) q)
theorem pe_callV (hf : PE X fe ta) (hr : Room k X.A) (hx : Passes CX0 X E) (ha : PA X (e :: es) t)
    (ht : eval (.Call fe (e :: es) [] pos) X.env = (eval fe X.env >>= fun g => callWith pos g [] (backTo pos (starEach (e :: es) X.env)) (backToKw pos (keywordEach [] X.env))) := by rfl)
    (he : starEach (e :: es) X.env = (false, eval e X.env) :: starEach es X.env := by rfl) (hpl : (backTo pos (starEach es X.env)).any (·.1) = false := by rfl) : PE X (.Call fe (e :: es) [] pos) (tCallV X k E ta t) := by
  refine ⟨fun pins s σ H Q I h => ?_⟩
  refine Call_ (thn (hf.run pins s σ H _ I h) fun u s1 ⟨y, H1, I1, ry, a, C, sp, ey, pc, q⟩ => ?_) ht
  subst ey
  obtain rfl : u = Value.ref a := ry
  obtain ⟨f, fd, ps, c, hb, F⟩ := pc.ex
  refine callO_with (thn (ha.run pos pins s1 σ H1 _ I1 q) fun us s2 ⟨vs, H2, I2, r, hi, q2⟩ => ?_) he hpl
  obtain ⟨ox, od, J, hd⟩ := insC_at I2 hi
  exact ⟨⟨C, ox, od, J, hd⟩, run_callO c (F.raw hb .nil) hr hx I2 hi r (by simpa using q2)⟩
end

/-! ### a sign between two instances of own classes -/
/-- the class at C has the sign's method (and no reflected one) -/
structure OpO (K : PySem.W.Frag) (C : Addr) (op : Operator) (f : Addr) : Prop where
  first : PySem.W.selfFirst K C = true
  at_ : PySem.W.findIn K (.ref C) (PySem.dunder op.info.2) = some (some (.ref f))
  fn : PySem.W.isFn K (.ref f) = true
  ref_ : PySem.W.findIn K (.ref C) (dunderR op.info.2) = some none
theorem bin_own {prog : Program} {w : World} {A : Around} {E : Value → Shared → Prop} {s : Shared} {K : PySem.W.Frag} {x y C C2 f g : Addr} {ox oy : Obj} {od od2 : Option Obj} {op : Operator} {Q : Value → Shared → Prop} (X : K.In s.heap)
    (I : PySem.W.InstAt s.heap x ox C od) (J : PySem.W.InstAt s.heap y oy C2 od2) (o1 : OpO K C op f) (o2 : OpO K C2 op g) (hs : C = C2 ∨ PySem.W.subIn K (.ref C2) (.ref C) = some false)
    (h : wpAny (model prog w) A (call (.ref f) [.ref x, .ref y]) (PySem.W.CmpBack Q) E s) : wpAny (model prog w) A (binaryOp op (.ref x) (.ref y)) Q E s := by
  obtain ⟨cd1, rest1, hc1, hm1⟩ := PySem.W.ksp_first o1.first
  obtain ⟨cd2, rest2, hc2, hm2⟩ := PySem.W.ksp_first o2.first
  have a1 := o1.at_
  have a2 := o2.at_
  have r1 := o1.ref_
  have r2 := o2.ref_
  rcases hi : op.info with ⟨sym, nm⟩
  rw [hi] at a1 a2 r1 r2
  dsimp only at a1 a2 r1 r2
  have one := PySem.W.ksp_try X I a1 o1.fn h
  obtain ⟨hh, gs, d, tt, os⟩ := s
  have L1 : PySem.W.Looks (model prog w) hh (typeOf (.ref x)) (.ref C) := I.type
  have L2 : PySem.W.Looks (model prog w) hh (typeOf (.ref y)) (.ref C2) := J.type
  have L3 : PySem.W.Looks (model prog w) hh (fillsNumberSlot (.ref C) nm) true := PySem.W.fills_K X hc1 hm1 a1
  have L4 : PySem.W.Looks (model prog w) hh (fillsNumberSlot (.ref C2) nm) true := PySem.W.fills_K X hc2 hm2 a2
  have L6 : PySem.W.Looks (model prog w) hh (numberSlotInPython (.ref C) nm) true := PySem.W.ksp_inPy X a1 r1 (.inl rfl)
  have L7 : PySem.W.Looks (model prog w) hh (numberSlotInPython (.ref C2) nm) true := PySem.W.ksp_inPy X a2 r2 (.inl rfl)
  simp only [binaryOp, hi]
  refine wpAny_holding (wpAny_bind ?_)
  unfold binaryOp1
  refine wpAny_bind (L1.at (wpAny_bind (L2.at (wpAny_bind (L3.at ?_)))))
  by_cases e : C = C2
  · have hne : (Value.ref C == Value.ref C2) = true := by
      rw [e]
      exact beq_self_eq_true _
    simp only [hne, if_true]
    ksp_lk
    refine wpAny_mono one (fun r s' hr' => ?_) fun _ _ z => z
    obtain ⟨v, rfl, hq⟩ := hr'
    ksp_lk
    exact hq
  · have hne : (Value.ref C == Value.ref C2) = false := Bool.eq_false_iff.mpr fun q => e (by
      have := beq_iff_eq.mp q
      injection this)
    have hs2 : PySem.W.subIn K (.ref C2) (.ref C) = some false := hs.resolve_left e
    have L5 : PySem.W.Looks (model prog w) hh (isSubtype (.ref C2) (.ref C)) false := PySem.W.looks_subIn X hs2
    simp only [hne, Bool.false_eq_true, if_false]
    ksp_lk
    refine wpAny_mono one (fun r s' hr' => ?_) fun _ _ z => z
    obtain ⟨v, rfl, hq⟩ := hr'
    ksp_lk
    exact hq
theorem insO_at {X : Cx} {pins : List (Addr × Obj)} {σ : L2.St} {H : Hp} {s : Shared} {a C dx : Addr} {fs : List (Str × V)} (I : Inv X pins σ H s) (h : H a = some (.ins C dx fs)) : ∃ ox od, PySem.W.InstAt s.heap a ox C od ∧ ox.data = .plain :=
  insC_at I (.inr ⟨dx, fs, h⟩)
/-- two classes under one sign: what the class at C does with one of the class at C2 -/
structure PolyO (P : Program) (w : World) (K : PySem.W.Frag) (mg : Str → Option Value) (base : Heap) (k : Nat) (C C2 : Addr) (op : Operator) (sp : Sp) : Prop where
  ex : ∃ (f g : Addr) (fd : FuncData) (ps : List Str), OpO K C op f ∧ OpO K C2 op g ∧ (C = C2 ∨ PySem.W.subIn K (.ref C2) (.ref C) = some false) ∧ Binds K fd ps [] ∧ FnOk P w K mg base CX0 k f fd ps sp
def rOwn (X : Cx) (k : Nat) (op : Operator) (sp : Sp) (E : XK) : R2 := fun x y H Q => ∃ a b C C2 dx dy fs gs, x = .ref a ∧ y = .ref b ∧ H a = some (.ins C dx fs) ∧ H b = some (.ins C2 dy gs) ∧ PolyO X.prog X.w X.K X.mg X.base k C C2 op sp ∧
  sp [.ref a, .ref b] H (fun v H' => (∃ r, v = .ref r) ∧ Q v H') E
theorem op_own {X : Cx} {k : Nat} {sp : Sp} {E : XK} (op : Operator) (hr : Room k X.A) (hx : Passes CX0 X E) : OpR X (binaryOp op) (rOwn X k op sp E) := by
  intro pins s σ H x y v u Q I rx ry h
  obtain ⟨a, b, C, C2, dx, dy, fs, gs, rfl, rfl, ha, hb, po, q⟩ := h
  obtain rfl : v = Value.ref a := rx
  obtain rfl : u = Value.ref b := ry
  obtain ⟨f, g, fd, ps, o1, o2, hs, hbd, F⟩ := po.ex
  obtain ⟨ox, od, J1, _⟩ := insO_at I ha
  obtain ⟨oy, od2, J2, _⟩ := insO_at I hb
  refine bin_own I.kIn J1 J2 o1 o2 hs (thn (run_fn (us := [.ref a, .ref b]) (vs := [.ref a, .ref b]) F hr hbd .nil hx I (.cons rfl (.cons rfl .nil)) q) fun r s' z => ?_)
  obtain ⟨v, H', I', rv, ⟨p, rfl⟩, q'⟩ := z
  obtain rfl : r = Value.ref p := rv
  exact ⟨V.ref p, H', I', rfl, q'⟩
/-! ### ~x -/
structure PolyU (P : Program) (w : World) (K : PySem.W.Frag) (mg : Str → Option Value) (base : Heap) (k : Nat) (C : Addr) (sp : Sp) : Prop where
  ex : ∃ (f : Addr) (fd : FuncData) (ps : List Str), PySem.W.findIn K (.ref C) "__invert__" = some (some (.ref f)) ∧ PySem.W.isFn K (.ref f) = true ∧ Binds K fd ps [] ∧ FnOk P w K mg base CX0 k f fd ps sp
def rInv (X : Cx) (k : Nat) (sp : Sp) (E : XK) : V → Hp → VK → Prop := fun x H Q => ∃ a C dx fs, x = .ref a ∧ H a = some (.ins C dx fs) ∧ PolyU X.prog X.w X.K X.mg X.base k C sp ∧ sp [.ref a] H Q E
theorem inv_own {M : Model} {A : Around} {E : Value → Shared → Prop} {s : Shared} {K : PySem.W.Frag} {x C f : Addr} {ox : Obj} {od : Option Obj} {Q : Value → Shared → Prop} (X : K.In s.heap) (I : PySem.W.InstAt s.heap x ox C od)
    (hs : PySem.W.findIn K (.ref C) "__invert__" = some (some (.ref f))) (hf : PySem.W.isFn K (.ref f) = true) (h : wpAny M A (call (.ref f) [.ref x]) Q E s) : wpAny M A (unaryOp .Invert (.ref x)) Q E s := by
  unfold unaryOp
  refine wpAny_holding (wpAny_bind (PySem.W.special_fn X I hs (beq_iff_eq.mp hf) (thn h fun _ _ z => ?_)))
  exact wpAny_pure z
theorem un_own {X : Cx} {k : Nat} {sp : Sp} {E : XK} (hr : Room k X.A) (hx : Passes CX0 X E) : UnR X (unaryOp .Invert) (rInv X k sp E) := by
  intro pins s σ H x v Q I rx h
  obtain ⟨a, C, dx, fs, rfl, ha, pu, q⟩ := h
  obtain rfl : v = Value.ref a := rx
  obtain ⟨f, fd, ps, h1, h2, hb, F⟩ := pu.ex
  obtain ⟨ox, od, J, _⟩ := insO_at I ha
  exact inv_own I.kIn J h1 h2 (run_fn (us := [.ref a]) (vs := [.ref a]) F hr hb .nil hx I (.cons rfl .nil) q)
end G
set_option Elab.async false
set_option linter.all false
set_option maxRecDepth 100000
set_option maxHeartbeats 2000000
/-! G3: a cell, its box, a draw from it. -/
namespace G
open PySem PySem.Spec PyProof.Rows L2
def topS (i : Nat) : Stmt := PySem.Challenge.pw_listviews_k24_changes_joined.main.body.getD i (.Pass ⟨0, 0, 0, 0⟩)
abbrev sCell : Stmt := topS 40
abbrev sBox : Stmt := topS 41
abbrev sTake : Stmt := topS 42
theorem scCell : FnScope ["_law_script", "_law_k"] ["_law_script", "_law_k"] (defScope sCell) := ⟨rfl, rfl, rfl, by decide +kernel, rfl, by decide +kernel, by decide +kernel⟩
theorem scBox : FnScope ["_law_cell_here"] ["_law_cell_here"] (defScope sBox) := ⟨rfl, rfl, rfl, by decide +kernel, rfl, by decide +kernel, by decide +kernel⟩
theorem scTake : FnScope ["_law_box_here", "_law_many", "_law_digit", "_law_mixed_here"] ["_law_box_here", "_law_many"] (defScope sTake) := ⟨rfl, rfl, rfl, by decide +kernel, rfl, by decide +kernel, by decide +kernel⟩
/-- all but b stands as it stood -/
def But (b : Addr) (H H' : Hp) : Prop := ∀ c o, c ≠ b → H c = some o → H' c = some o
theorem But.refl (b : Addr) (H : Hp) : But b H H := fun _ _ _ h => h
theorem But.trans {b : Addr} {H H1 H2 : Hp} (x : But b H H1) (y : But b H1 H2) : But b H H2 := fun c o n h => y c o n (x c o n h)
theorem But.upd {b : Addr} {H : Hp} {o : HO} : But b H (upd H b o) := fun c u n h => by
  rw [upd_ne n]
  exact h
theorem But.new {b p : Addr} {H : Hp} {o : HO} (h : H p = none) : But b H (L2.upd H p o) := fun c u n e => by
  rw [upd_ne (ne_of_none e h)]
  exact e
theorem But.same {b : Addr} {H H' : Hp} (h : Same H H') : But b H H' := fun c o _ e => h c o e
theorem Same.new {p : Addr} {H : Hp} {o : HO} (h : H p = none) : Same H (upd H p o) := fun c u e => by
  rw [upd_ne (ne_of_none e h)]
  exact e
/-- a box from which at most n draws were made -/
def BoxAt (H : Hp) (b : Addr) (n : Nat) : Prop := ∃ x y z : Int, H b = some (.lst [.int x, .int y, .int z]) ∧ 0 ≤ x ∧ 0 ≤ y ∧ y < 2147483629 ∧ 0 ≤ z ∧ z ≤ n
theorem BoxAt.mono {H : Hp} {b : Addr} {n m : Nat} (h : BoxAt H b n) (le : n ≤ m) : BoxAt H b m := by
  obtain ⟨x, y, z, e, h1, h2, h3, h4, h5⟩ := h
  exact ⟨x, y, z, e, h1, h2, h3, h4, by omega⟩
theorem BoxAt.keep {H H' : Hp} {b : Addr} {n : Nat} (h : BoxAt H b n) (s : ∀ o, H b = some o → H' b = some o) : BoxAt H' b n := by
  obtain ⟨x, y, z, e, r⟩ := h
  exact ⟨x, y, z, s _ e, r⟩
/-- a draw is one of so many -/
theorem draw_at {r m : Int} {n : Nat} (h0 : 0 ≤ r) (h1 : r < m) (e : m = n) : ∃ j : Nat, r = j ∧ j < n := ⟨r.toNat, by omega, by omega⟩
def spCell' (K : PySem.W.Frag) : Sp := fun vs H Q _ => ∃ (a : Addr) (ns : List Int) (z : Int), vs = [.ref a, .int z] ∧ SqL K H a (ns.map V.int) ∧ 0 ≤ z ∧ z < 1000 ∧ ∀ i : Int, Q (.int i) H
def spBox : Sp := fun vs H Q _ => ∃ i : Int, vs = [.int i] ∧ ∀ (b : Addr) (H' : Hp), H b = none → Same H H' → BoxAt H' b 0 → Q (.ref b) H'
def spTake : Sp := fun vs H Q _ => ∃ (b : Addr) (m : Int) (n : Nat), vs = [.ref b, .int m] ∧ BoxAt H b n ∧ n ≤ 100000 ∧ 0 < m ∧ m < 2 ^ 200 ∧
  ∀ (r : Int) (H' : Hp), 0 ≤ r → r < m → BoxAt H' b (n + 1) → But b H H' → Q (.int r) H'
section
variable {P : Program} {w : World} {K : PySem.W.Frag} {mg : Str → Option Value} {base : Heap}
theorem ok_cell {f : Addr} {fd : FuncData} (F : Fun K "_law_cell" "_law_cell" sCell f fd) (ml : mg "len" = none) : FnOk P w K mg base CX0 1 f fd ["_law_script", "_law_k"] (spCell' K) := by
  refine F.ok scCell (fun vs H Q E h => ?_) (fun cdv A outer s H vs Q E hr h => ?_)
  · obtain ⟨a, ns, j, rfl, _⟩ := h
    rfl
  · obtain ⟨a, ns, z, rfl, hS, z0, z1, q⟩ := h
    obtain ⟨j, rfl, hj⟩ := draw_at (n := 1000) z0 z1 rfl
    refine ⟨_, pss_cons (ps_if (pt_cmpR op_lt (pv 1) (pe_callB call_len_seq (by rfl) ml PySem.boot_len (pa_cons (pv 0) pa_nil)) (nomark _))
        (pss_one (ps_ret (pe_ix ix_list (pv 0) (pv 1) (fun _ _ => rfl)))) pss_nil)
      (pss_one (ps_ret (pe_op op_add (pe_op op_mul pe_int (pv 1)) pe_int))), ?_⟩
    refine ⟨_, rfl, _, rfl, a, _, rfl, .inl hS, _, _, rfl, rfl, _, rfl, ite2 (fun e => ?_) (fun _ => ?_)⟩
    · have e1 : (j : Int) < ((ns.map V.int).length : Nat) := of_decide_eq_true e
      have e2 : j < ns.length := by
        rw [List.length_map] at e1
        omega
      exact ⟨_, rfl, _, rfl, a, _, _, .int ns[j], rfl, rfl, hS, atI_nat (by rw [List.getElem?_map, List.getElem?_eq_getElem e2] <;> rfl), q _⟩
    · exact ⟨_, rfl, _, _, rfl, rfl, .inl ⟨by decide, by decide⟩, _, _, rfl, rfl, q _⟩
theorem ok_box {f : Addr} {fd : FuncData} (F : Fun K "_law_box" "_law_box" sBox f fd) (mm : mg "max" = none) : FnOk P w K mg base CX0 1 f fd ["_law_cell_here"] spBox := by
  refine F.ok scBox (fun vs H Q E h => ?_) (fun cdv A outer s H vs Q E hr h => ?_)
  · obtain ⟨i, rfl, _⟩ := h
    rfl
  · obtain ⟨i, rfl, q⟩ := h
    refine ⟨_, pss_one (ps_ret (pe_lst (pa_cons (pe_callB (call_max2 rfl) (by rfl) mm (by decide +kernel) (pa_cons pe_int (pa_cons (pe_op op_sub (pv 0) (pe_op op_pow pe_int pe_int)) pa_nil)))
      (pa_cons (pe_op op_mod (pv 0) pe_int) (pa_cons pe_int pa_nil))))), ?_⟩
    refine ⟨_, rfl, _, _, rfl, rfl, ⟨by decide, by decide, by decide⟩, _, _, rfl, rfl, _, _, rfl, _, rfl, _, _, rfl, rfl, (by show (0 : Int) < 2147483629; decide), (by show 3 ≤ sizeLine; decide), fun b hb => ?_⟩
    refine q b _ hb (Same.new hb) ⟨_, _, _, upd_same, ?_, Int.emod_nonneg _ (by decide), Int.emod_lt_of_pos _ (by decide), Int.le_refl _, Int.le_refl _⟩
    split <;> omega
theorem emod_in (a m : Int) (h : 0 < m) : 0 ≤ a % m ∧ a % m < m := ⟨Int.emod_nonneg _ (by omega), Int.emod_lt_of_pos _ h⟩
theorem ok_take {f : Addr} {fd : FuncData} (F : Fun K "_law_take" "_law_take" sTake f fd) : FnOk P w K mg base CX0 1 f fd ["_law_box_here", "_law_many"] spTake := by
  refine F.ok scTake (fun vs H Q E h => ?_) (fun cdv A outer s H vs Q E hr h => ?_)
  · obtain ⟨b, m, n, rfl, _⟩ := h
    rfl
  · obtain ⟨b, m, n, rfl, ⟨x, y, z, hb, hx, hy, hy2, hz, hzn⟩, hn, hm, hm2, q⟩ := h
    refine ⟨_, pss_cons (ps_if (pt_cmpR op_gt (pe_ix ix_list (pv 0) pe_int (fun _ _ => rfl)) pe_int (nomark _))
        (pss_cons (ps_set (i := 2) scTake.nd rfl (.inl rfl) (pe_op op_mod (pe_ix ix_list (pv 0) pe_int (fun _ _ => rfl)) (pv 1)))
        (pss_cons (ps_asg (pe_op op_fdivW (pe_ix ix_list (pv 0) pe_int (fun _ _ => rfl)) (pv 1)) (pg_sub (pv 0) pe_int set_list))
        (pss_one (ps_ret (pv 2))))) pss_nil)
      (pss_cons (ps_asg (pe_op op_add (pe_ix ix_list (pv 0) pe_int (fun _ _ => rfl)) pe_int) (pg_sub (pv 0) pe_int set_list))
      (pss_cons (ps_set (i := 3) scTake.nd rfl (.inl rfl) (pe_op op_mod (pe_op op_pow (pe_op op_add (pe_op op_add (pe_ix ix_list (pv 0) pe_int (fun _ _ => rfl)) (pe_op op_mul pe_int (pe_ix ix_list (pv 0) pe_int (fun _ _ => rfl)))) pe_int) pe_int) pe_int))
      (pss_cons (ps_set (i := 3) scTake.nd rfl (.inl rfl) (pe_op op_mod (pe_op op_pow (pe_op op_add (pv 3) (pe_op op_mul pe_int (pe_ix ix_list (pv 0) pe_int (fun _ _ => rfl)))) pe_int) pe_int))
      (pss_one (ps_ret (pe_op op_mod (pe_op op_fdivW (pv 3) pe_int) (pv 1))))))), ?_⟩
    -- if box[0] > 0
    refine ⟨_, rfl, b, _, 0, .int x, rfl, rfl, .of hb, rfl, _, _, rfl, rfl, _, rfl, ite2 (fun e => ?_) (fun _ => ?_)⟩
    · refine ⟨_, rfl, b, _, 0, .int x, rfl, rfl, .of hb, rfl, _, rfl, _, _, rfl, rfl, hm, ?_⟩
      refine ⟨_, rfl, b, _, 0, .int x, rfl, rfl, .of hb, rfl, _, rfl, _, _, rfl, rfl, wide_div hm (b := 200) (by omega) (by decide) (by decide), ?_⟩
      refine ⟨_, rfl, b, _, 0, 0, rfl, rfl, hb, rfl, _, rfl, ?_⟩
      have r := emod_in x m hm
      exact q _ _ r.1 r.2 ⟨_, _, _, upd_same, Int.ediv_nonneg hx (by omega), hy, hy2, hz, by omega⟩ But.upd
    · refine ⟨_, rfl, b, _, 2, .int z, rfl, rfl, .of hb, rfl, _, _, rfl, rfl, ?_⟩
      refine ⟨_, rfl, b, _, 2, 2, rfl, rfl, hb, rfl, ?_⟩
      have hb' : (upd H b (.lst [.int x, .int y, .int (z + 1)])) b = some (.lst [.int x, .int y, .int (z + 1)]) := upd_same
      refine ⟨_, rfl, b, _, 1, .int y, rfl, rfl, .of hb', rfl, _, rfl, b, _, 2, .int (z + 1), rfl, rfl, .of hb', rfl, _, _, rfl, rfl, .inl ⟨by decide, by decide⟩, _, _, rfl, rfl, _, _, rfl, rfl,
        _, _, rfl, rfl, ⟨by decide, by decide, by omega⟩, _, _, rfl, rfl, (by show (0 : Int) < 2147483647; decide), ?_⟩
      generalize h1 : ((y + 8467 * (z + 1) + 157) ^ (5 : Int).toNat : Int) = t1
      have r1 := emod_in t1 2147483647 (by decide)
      refine ⟨_, rfl, _, rfl, b, _, 2, .int (z + 1), rfl, rfl, .of hb', rfl, _, _, rfl, rfl, .inl ⟨by decide, by decide⟩, _, _, rfl, rfl, _, _, rfl, rfl, ⟨by decide, by decide, by omega⟩, _, _, rfl, rfl, (by show (0 : Int) < 2147483587; decide), ?_⟩
      generalize h2 : ((t1 % 2147483647 + 104729 * (z + 1)) ^ (3 : Int).toNat : Int) = t2
      refine ⟨_, rfl, _, _, rfl, rfl, wide_div (by decide) (b := 200) (by decide) (by decide) (by decide), _, rfl, _, _, rfl, rfl, hm, ?_⟩
      have r := emod_in (t2 % 2147483587 / 16) m hm
      exact q _ _ r.1 r.2 ⟨_, _, _, upd_same, hx, hy, hy2, by omega, by omega⟩ But.upd
end
end G
set_option Elab.async false
set_option linter.all false
set_option maxRecDepth 100000
set_option maxHeartbeats 2000000
/-! G5: what data in the heap keeps, its type, == of it. -/
namespace G
open PySem PySem.Spec PyProof.Rows L2
section
variable {K : PySem.W.Frag} {H H' : Hp}
mutual
theorem rp_same (s : Same H H') : ∀ (d : PyData) (v : V), Rp K H v d → Rp K H' v d
  | .none, _, h => by
    cases h
    exact .non
  | .bool b, _, h => by
    cases h
    exact .bl b
  | .int i, _, h => by
    cases h
    exact .int i
  | .str x, _, h => by
    cases h
    exact .str x
  | .list ds, _, h => by
    cases h with
    | lst e r => exact .lst (s _ _ e) (rp_sameAll s ds _ r)
  | .tuple ds, _, h => by
    cases h with
    | tup e r => exact .tup (s _ _ e) (rp_sameAll s ds _ r)
  | .dict ds, _, h => by
    cases h with
    | dic e r q => exact .dic (s _ _ e) (rp_sameK s ds _ r) (rp_sameV s ds _ q)
theorem rp_sameAll (s : Same H H') : ∀ (ds : List PyData) (vs : List V), RpAll K H vs ds → RpAll K H' vs ds
  | [], _, h => by
    cases h
    exact .nil
  | d :: ds, _, h => by
    cases h with
    | cons a b => exact .cons (rp_same s d _ a) (rp_sameAll s ds _ b)
theorem rp_sameK (s : Same H H') : ∀ (ds : List (PyData × PyData)) (vs : List V), RpAll K H vs (ds.map (·.1)) → RpAll K H' vs (ds.map (·.1))
  | [], _, h => by
    cases h
    exact .nil
  | (d, _) :: ds, _, h => by
    cases h with
    | cons a b => exact .cons (rp_same s d _ a) (rp_sameK s ds _ b)
theorem rp_sameV (s : Same H H') : ∀ (ds : List (PyData × PyData)) (vs : List V), RpAll K H vs (ds.map (·.2)) → RpAll K H' vs (ds.map (·.2))
  | [], _, h => by
    cases h
    exact .nil
  | (_, d) :: ds, _, h => by
    cases h with
    | cons a b => exact .cons (rp_same s d _ a) (rp_sameV s ds _ b)
end
theorem rp_len : ∀ {ds : List PyData} {vs : List V}, RpAll K H vs ds → vs.length = ds.length
  | [], _, h => by
    cases h
    rfl
  | _ :: ds, _, h => by
    cases h with
    | cons a b =>
      rw [List.length_cons, List.length_cons, rp_len b]
theorem rp_at : ∀ {ds : List PyData} {vs : List V} {i : Nat} {v : V}, RpAll K H vs ds → vs[i]? = some v → ∃ d, ds[i]? = some d ∧ Rp K H v d
  | [], _, i, v, h, e => by
    cases h
    simp at e
  | d :: ds, _, i, v, h, e => by
    cases h with
    | cons a b =>
      cases i with
      | zero =>
        have e' := Option.some.inj e
        subst e'
        exact ⟨d, rfl, a⟩
      | succ j => exact rp_at (ds := ds) (i := j) b (by simpa using e)
theorem rp_app : ∀ {ds : List PyData} {vs : List V} {v : V} {d : PyData}, RpAll K H vs ds → Rp K H v d → RpAll K H (vs ++ [v]) (ds ++ [d])
  | [], _, _, _, h, r => by
    cases h
    exact .cons r .nil
  | _ :: ds, _, _, _, h, r => by
    cases h with
    | cons a b => exact .cons a (rp_app b r)
theorem rp_set : ∀ {ds : List PyData} {vs : List V} {v : V} {d : PyData} (i : Nat), RpAll K H vs ds → Rp K H v d → RpAll K H (vs.set i v) (ds.set i d)
  | [], _, _, _, _, h, r => by
    cases h
    exact .nil
  | _ :: ds, _, _, _, i, h, r => by
    cases h with
    | cons a b =>
      cases i with
      | zero => exact .cons r b
      | succ j => exact .cons a (rp_set j b r)
theorem rp_ints : ∀ (is : List Int), RpAll K H (is.map V.int) (is.map PyData.int)
  | [] => .nil
  | i :: is => .cons (.int i) (rp_ints is)
mutual
theorem rp_dp : ∀ (d : PyData) (v : V), d.hasDict = false → Rp K H v d → Dp K H v d
  | .none, _, _, h => by
    cases h
    exact .non
  | .bool b, _, _, h => by
    cases h
    exact .bl b
  | .int i, _, _, h => by
    cases h
    exact .int i
  | .str x, _, _, h => by
    cases h
    exact .str x
  | .list ds, _, n, h => by
    cases h with
    | lst e r => exact .lst (.of e) (rp_dpAll ds _ (by simpa [PyData.hasDict] using n) r)
  | .tuple ds, _, n, h => by
    cases h with
    | tup e r => exact .tup (.of e) (rp_dpAll ds _ (by simpa [PyData.hasDict] using n) r)
  | .dict ds, _, n, h => by simp [PyData.hasDict] at n
theorem rp_dpAll : ∀ (ds : List PyData) (vs : List V), PyData.hasDictAll ds = false → RpAll K H vs ds → DpAll K H vs ds
  | [], _, _, h => by
    cases h
    exact .nil
  | d :: ds, _, n, h => by
    simp only [PyData.hasDictAll, Bool.or_eq_false_iff] at n
    cases h with
    | cons a b => exact .cons (rp_dp d _ n.1 a) (rp_dpAll ds _ n.2 b)
end
/-- the name of a thing's type -/
def tyN : PyData → String
  | .none => "NoneType"
  | .bool _ => "bool"
  | .int _ => "int"
  | .str _ => "str"
  | .list _ => "list"
  | .tuple _ => "tuple"
  | .dict _ => "dict"
theorem rp_ty {v : V} {d : PyData} (h : Rp K H v d) : TyX K H v (.type (tyN d)) := by
  cases h with
  | non => exact .base .non
  | bl b => exact .base (.bl b)
  | int i => exact .base (.int i)
  | str x => exact .base (.str x)
  | lst e r => exact .base (.lst e)
  | tup e r => exact .base (.tup e)
  | dic e r q => exact .base (.dK e)
end
/-- H without what stands at b -/
def hide (b : Addr) (H : Hp) : Hp := fun a => if a = b then none else H a
theorem hide_same (b : Addr) (H : Hp) : Same (hide b H) H := fun a o e => by
  by_cases h : a = b
  · rw [show hide b H a = none from if_pos h] at e
    cases e
  · rwa [show hide b H a = H a from if_neg h] at e
theorem hide_ne {b a : Addr} {H : Hp} (h : a ≠ b) : hide b H a = H a := if_neg h
theorem hide_at {b : Addr} {H : Hp} : hide b H b = none := if_pos rfl
theorem hide_but {b : Addr} {H H' : Hp} (h : But b H H') : Same (hide b H) (hide b H') := fun a o e => by
  have n : a ≠ b := fun z => by
    rw [z, hide_at] at e
    cases e
  rw [hide_ne n] at e ⊢
  exact h a o n e
theorem hide_upd {b : Addr} {H : Hp} {o : HO} : hide b (upd H b o) = hide b H := by
  funext a
  by_cases h : a = b
  · rw [h, hide_at, hide_at]
  · rw [hide_ne h, hide_ne h, upd_ne h]
/-- what is new is not in what stood -/
theorem hide_new {b : Addr} {H : Hp} (h : H b = none) : Same H (hide b H) := fun a o e => by
  rw [hide_ne (ne_of_none e h)]
  exact e
theorem hide_mono {b : Addr} {H H' : Hp} (h : Same H H') : Same (hide b H) (hide b H') := hide_but fun c o _ e => h c o e
theorem hide_hide {b c : Addr} {H : Hp} : hide b (hide c H) = hide c (hide b H) := by
  funext a
  unfold hide
  split <;> split <;> rfl
end G
set_option Elab.async false
set_option linter.all false
set_option maxRecDepth 100000
set_option maxHeartbeats 2000000
/-! V3: the items of a list, in a drawn order. -/
namespace G
open PySem PySem.Spec PyProof.Rows L2
abbrev sMixed : Stmt := topS 45
theorem scMixed : FnScope ["_law_box_here", "_law_some", "_law_left", "_law_found"] ["_law_box_here", "_law_some"] (defScope sMixed) := ⟨rfl, rfl, rfl, by decide +kernel, rfl, by decide +kernel, by decide +kernel⟩
/-- data that == takes: no dict, texts that can be compared, not too deep -/
def lay (d : PyData) : Prop := d.hasDict = false ∧ d.canLay0 = true ∧ d.depth ≤ 60
theorem lay_all : ∀ {ds : List PyData}, (∀ d ∈ ds, lay d) → PyData.hasDictAll ds = false ∧ PyData.canLayAll0 ds = true ∧ PyData.depthAll ds ≤ 60
  | [], _ => ⟨rfl, rfl, Nat.zero_le _⟩
  | d :: ds, h => by
    obtain ⟨a1, a2, a3⟩ := h d List.mem_cons_self
    obtain ⟨b1, b2, b3⟩ := lay_all (ds := ds) fun e he => h e (List.mem_cons_of_mem _ he)
    refine ⟨?_, ?_, ?_⟩
    · rw [PyData.hasDictAll, a1, b1]
      rfl
    · rw [PyData.canLayAll0, a2, b2]
      rfl
    · rw [PyData.depthAll]
      exact Nat.max_le.mpr ⟨a3, b3⟩
theorem lay_shaped {d : PyData} (h : lay d) : SeqAt.shaped d = true := by
  unfold SeqAt.shaped
  rw [h.2.1, decide_eq_true (Nat.le_trans h.2.2 (by decide))]
  rfl
theorem lay_list {ds : List PyData} (h : ∀ d ∈ ds, lay d) : SeqAt.shaped (.list ds) = true := by
  obtain ⟨_, b2, b3⟩ := lay_all h
  unfold SeqAt.shaped
  rw [PyData.canLay0, b2, decide_eq_true (show (PyData.list ds).depth ≤ 64 by rw [PyData.depth]; omega)]
  rfl
/-- values and what they show -/
abbrev Vd := V × PyData
theorem rp_pairs {K : PySem.W.Frag} {H : Hp} : ∀ {qs : List Vd}, (∀ p ∈ qs, Rp K H p.1 p.2) → RpAll K H (qs.map (·.1)) (qs.map (·.2))
  | [], _ => .nil
  | p :: qs, h => .cons (h p List.mem_cons_self) (rp_pairs fun q hq => h q (List.mem_cons_of_mem _ hq))
theorem dp_pairs {K : PySem.W.Frag} {H : Hp} {qs : List Vd} (h : ∀ p ∈ qs, Rp K H p.1 p.2) (l : ∀ p ∈ qs, lay p.2) : DpAll K H (qs.map (·.1)) (qs.map (·.2)) :=
  rp_dpAll _ _ (lay_all (ds := qs.map (·.2)) fun d hd => by
    obtain ⟨p, hp, rfl⟩ := List.mem_map.mp hd
    exact l p hp).1 (rp_pairs h)
theorem erase_map {α β : Type} (f : α → β) : ∀ (l : List α) (j : Nat), (l.map f).eraseIdx j = (l.eraseIdx j).map f
  | [], _ => rfl
  | _ :: _, 0 => rfl
  | x :: l, j + 1 => by
    show f x :: (l.map f).eraseIdx j = f x :: (l.eraseIdx j).map f
    rw [erase_map f l j]
theorem erase_perm {α : Type} : ∀ {l : List α} {j : Nat} (h : j < l.length), ([l[j]] ++ l.eraseIdx j).Perm l
  | _ :: _, 0, _ => .refl _
  | x :: l, j + 1, h => by
    have hj : j < l.length := by simpa using h
    have ih := erase_perm hj
    show (l[j] :: x :: l.eraseIdx j).Perm (x :: l)
    exact (List.Perm.swap x _ _).trans (List.Perm.cons x ih)
/-- some: any order of its items, in a new list -/
def spMixed (K : PySem.W.Frag) : Sp := fun vs H Q _ => ∃ (b a : Addr) (n : Nat) (ps : List Vd), vs = [.ref b, .ref a] ∧ BoxAt H b n ∧ n + ps.length ≤ 100000 ∧ (SqL K H a (ps.map (·.1)) ∨ SqT K H a (ps.map (·.1))) ∧
  (∀ p ∈ ps, lay p.2 ∧ ∀ H', But b H H' → Rp K H' p.1 p.2) ∧
  ∀ (p : Addr) (H' : Hp) (qs : List Vd), qs.Perm ps → H p = none → H' p = some (.lst (qs.map (·.1))) → BoxAt H' b (n + ps.length) → But b H H' → Q (.ref p) H'
theorem eqv_nil (ds : List PyData) : PyData.eqv (.list ds) (.list []) = ds.isEmpty := by
  cases ds with
  | nil => rfl
  | cons d ds => rfl
section
variable {P : Program} {w : World} {K : PySem.W.Frag} {mg : Str → Option Value} {base : Heap}
theorem ok_mixed {f fT : Addr} {fd fdT : FuncData} (F : Fun K "_law_mixed" "_law_mixed" sMixed f fd) (T : Fun K "_law_take" "_law_take" sTake fT fdT) (bT : Binds K fdT ["_law_box_here", "_law_many"] []) (gT : mg "_law_take" = some (.ref fT))
    (ml : mg "len" = none) (mL : mg "list" = none) : FnOk P w K mg base CX0 2 f fd ["_law_box_here", "_law_some"] (spMixed K) := by
  refine F.ok scMixed (fun vs H Q E h => ?_) (fun cdv A outer s H vs Q E hr h => ?_)
  · obtain ⟨b, a, n, ps, rfl, _⟩ := h
    rfl
  · obtain ⟨b, a, n, ps, rfl, B, hn, hS, hp, q⟩ := h
    have big : ∀ {k : Nat}, k ≤ 100000 → k < sizeLine := fun {k} h => by
      rw [sizeLine_eq]
      omega
    refine ⟨_, pss_cons (ps_par (i := 2) (j := 3) (by rfl) scMixed.nd rfl rfl (by decide) rfl rfl (pa_cons (pe_callTy call_list_of (by rfl) mL (by decide +kernel) (pa_cons (pv 1) pa_nil)) (pa_cons (pe_lst pa_nil) pa_nil)) (by rfl))
      (pss_cons (ps_while PassesOwn.never (pt_cmpR (op_neD hr.units) (pv 2) (pe_lst pa_nil) (nomark _))
        (pss_one (ps_expr (pe_bm PySem.F.plainAttrs_list PySem.F.slot_list_append PySem.F.type_list_append mt_append (pv 3) (pa_cons
          (pe_bm PySem.F.plainAttrs_list PySem.F.slot_list_pop PySem.F.type_list_pop mt_popAt (pv 2)
            (pa_cons (pe_call (ok_take T) hr rfl gT T.kp bT .nil pass0 (pa_cons (pv 0) (pa_cons (pe_callB call_len_seq (by rfl) ml PySem.boot_len (pa_cons (pv 2) pa_nil)) pa_nil))) pa_nil)) pa_nil)))))
      (pss_one (ps_ret (pv 3)))), ?_⟩
    refine ⟨_, rfl, a, _, rfl, hS, fun l hl => ⟨by decide, fun p hp0 => ⟨_, _, rfl, ?_⟩⟩⟩
    have nlp : l ≠ p := fun z => by
      rw [z, upd_same] at hp0
      cases hp0
    have hpn : H p = none := (upd_ne nlp.symm).symm.trans hp0
    have nbl : b ≠ l := by
      obtain ⟨_, _, _, e, _⟩ := B
      exact ne_of_none e hl
    have nbp : b ≠ p := by
      obtain ⟨_, _, _, e, _⟩ := B
      exact ne_of_none e hpn
    refine ⟨fun m σ H1 => ∃ qs rs : List Vd, m = qs.length ∧ σ = [some (.ref b), some (.ref a), some (.ref l), some (.ref p)] ∧ H1 l = some (.lst (qs.map (·.1))) ∧ H1 p = some (.lst (rs.map (·.1))) ∧
        (rs ++ qs).Perm ps ∧ BoxAt H1 b (n + rs.length) ∧ But b H H1, ⟨ps.length, ps, [], rfl, rfl, ?_, upd_same, .refl _, ?_, ?_⟩, ?_⟩
    · rw [upd_ne nlp, upd_same]
    · exact (B.keep fun o e => by rw [upd_ne nbp, upd_ne nbl]; exact e).mono (Nat.le_add_right _ _)
    · exact (But.new hl).trans (But.new hp0)
    · rintro m σ H1 ⟨qs, rs, rfl, rfl, el, ep, pm, B1, s1⟩
      have hq : ∀ x ∈ qs, x ∈ ps := fun x hx => pm.mem_iff.mp (List.mem_append_right _ hx)
      have hlen : rs.length + qs.length = ps.length := by
        rw [← List.length_append]
        exact pm.length_eq
      refine ⟨_, rfl, by decide, fun t ht => ?_⟩
      have nlt : l ≠ t := ne_of_none el ht
      have s2 : But b H (upd H1 t (.lst [])) := s1.trans (But.new ht)
      refine ⟨.list (qs.map fun x : Vd => x.2), .list [], .lst (xs := qs.map fun x : Vd => x.1) (.of (by rw [upd_ne nlt]; exact el)) (dp_pairs (fun x hx => (hp x (hq x hx)).2 _ s2) fun x hx => (hp x (hq x hx)).1), .lst (.of upd_same) .nil, lay_list (fun d hd => ?_), by rfl, _, rfl, ?_⟩
      · obtain ⟨x, hx, rfl⟩ := List.mem_map.mp hd
        exact (hp x (hq x hx)).1
      · rw [eqv_nil]
        cases qs with
        | nil =>
          refine iteF ?_
          refine ⟨_, rfl, ?_⟩
          rw [List.append_nil] at pm
          refine q p _ rs pm hpn ?_ ?_ s2
          · rw [upd_ne (ne_of_none ep ht)]
            exact ep
          · have e : rs.length = ps.length := pm.length_eq
            rw [← e]
            exact B1.keep fun o e => by rw [upd_ne (ne_of_none e ht)]; exact e
        | cons y ys =>
          refine iteT ?_
          have hlen' : rs.length + (ys.length + 1) = ps.length := hlen
          refine ⟨fun σ' H' => ∃ m', m' < (y :: ys).length ∧ ∃ qs rs : List Vd, m' = qs.length ∧ σ' = [some (.ref b), some (.ref a), some (.ref l), some (.ref p)] ∧ H' l = some (.lst (qs.map (·.1))) ∧ H' p = some (.lst (rs.map (·.1))) ∧
            (rs ++ qs).Perm ps ∧ BoxAt H' b (n + rs.length) ∧ But b H H', fun _ _ h => h, ?_⟩
          have ep2 : upd H1 t (.lst []) p = some (.lst (rs.map (·.1))) := by
            rw [upd_ne (ne_of_none ep ht)]
            exact ep
          have el2 : upd H1 t (.lst []) l = some (.lst ((y :: ys).map (·.1))) := by
            rw [upd_ne nlt]
            exact el
          have B2 : BoxAt (upd H1 t (.lst [])) b (n + rs.length) := B1.keep fun o e => by rw [upd_ne (ne_of_none e ht)]; exact e
          refine ⟨_, rfl, .inl ⟨rfl, _, .of ep2⟩, _, rfl, .inl ⟨rfl, _, .of el2⟩, _, rfl, _, rfl, l, _, rfl, .inl (.of el2), b, _, n + rs.length, rfl, B2, by omega, ?_, ?_, fun r H3 r0 r1 B3 s3 => ?_⟩
          · rw [List.length_map]
            show (0 : Int) < ((ys.length + 1 : Nat) : Int)
            omega
          · rw [List.length_map]
            show ((ys.length + 1 : Nat) : Int) < _
            have : ys.length + 1 ≤ 100000 := by omega
            omega
          · obtain ⟨j, rfl, hj⟩ := draw_at r0 r1 (n := (y :: ys).length) (by rw [List.length_map])
            have el3 : H3 l = some (.lst ((y :: ys).map (·.1))) := s3 _ _ nbl.symm el2
            have ep3 : H3 p = some (.lst (rs.map (·.1))) := s3 _ _ nbp.symm ep2
            have hjm : j < ((y :: ys).map (·.1)).length := by
              rw [List.length_map]
              exact hj
            have hj5 : j < 100000 := by
              have e : (y :: ys).length = ys.length + 1 := rfl
              omega
            refine ⟨l, _, (j : Int), j, ((y :: ys)[j]).1, rfl, rfl, el3, by omega, by omega, ?_, ?_, ?_⟩
            · have := PySem.seqIndex_of (k := (j : Int)) (n := ((y :: ys).map (·.1)).length) (by omega) (by omega)
              rw [this]
              rfl
            · rw [List.getElem?_map, List.getElem?_eq_getElem hj]
              rfl
            · refine ⟨p, _, _, rfl, rfl, by rw [upd_ne nlp.symm]; exact ep3, ?_, ?_⟩
              · rw [List.length_map]
                exact big (by omega)
              · refine ⟨((y :: ys).eraseIdx j).length, ?_, (y :: ys).eraseIdx j, rs ++ [(y :: ys)[j]], rfl, rfl, ?_, ?_, ?_, ?_, ?_⟩
                · rw [List.length_eraseIdx, if_pos hj]
                  show (ys.length + 1) - 1 < ys.length + 1
                  omega
                · rw [upd_ne nlp, upd_same, erase_map]
                · rw [upd_same, List.map_append]
                  rfl
                · rw [List.append_assoc]
                  refine List.Perm.trans (List.Perm.append_left rs ?_) pm
                  exact erase_perm hj
                · rw [List.length_append, List.length_singleton]
                  exact B3.keep fun o e => by rw [upd_ne nbp, upd_ne nbl]; exact e
                · intro c o nc e
                  have e3 := (s2.trans s3) c o nc e
                  rw [upd_ne (ne_of_none e hpn), upd_ne (ne_of_none e hl)]
                  exact e3
end
end G
set_option Elab.async false
set_option linter.all false
set_option maxRecDepth 100000
set_option maxHeartbeats 2000000
/-! Y1: letters and names. -/
namespace G
open PySem PySem.Spec PyProof.Rows L2
abbrev cs (z : Str) : List Nat := z.cps.toList
theorem cs_len (z : Str) : (cs z).length = z.length := by simp [cs, Str.length]
theorem cs_app (a b : Str) : cs (a ++ b) = cs a ++ cs b := TL.tl_append a b
theorem app_len (a b : Str) : (a ++ b).length = a.length + b.length := strLen_append a b
theorem small_size {n : Nat} (h : n ≤ 7000) : n ≤ sizeLine := by
  rw [sizeLine_eq]
  omega
theorem box_new {H : Hp} {b p : Addr} {n : Nat} {o : HO} (B : BoxAt H b n) (h : H p = none) : BoxAt (upd H p o) b n := B.keep fun o' e => Same.new h b o' e
theorem box_ne {H : Hp} {b p : Addr} {n : Nat} (B : BoxAt H b n) (h : H p = none) : p ≠ b := fun z => by
  obtain ⟨_, _, _, e, _⟩ := B
  rw [← z, h] at e
  cases e
theorem box_upd {H : Hp} {b p : Addr} {n : Nat} {o : HO} (B : BoxAt H b n) (h : p ≠ b) : BoxAt (upd H p o) b n := by
  obtain ⟨x, y, z, e, r⟩ := B
  exact ⟨x, y, z, (upd_ne h.symm).trans e, r⟩
/-- a store at what was new -/
theorem but_upd {b p : Addr} {H H1 : Hp} {o : HO} (k : But b H H1) (h : H p = none) : But b H (upd H1 p o) := fun c u n e => by
  rw [upd_ne (ne_of_none e h)]
  exact k c u n e
theorem free_of {b p : Addr} {H H' : Hp} (k : But b H H') (n : p ≠ b) (h : H' p = none) : H p = none := by
  cases e : H p with
  | none => rfl
  | some o =>
    rw [k p o n e] at h
    cases h
/-! ### names -/
def LowZ (z : Str) : Prop := ∀ c ∈ cs z, 97 ≤ c ∧ c ≤ 122
def NameZ (z : Str) : Prop := LowZ z ∧ 1 ≤ z.length ∧ z.length ≤ 8
def NameI (y : Str) (i : Nat) : Prop := LowZ y ∧ 1 ≤ y.length ∧ y.length ≤ 8 ∧ (26 ≤ i → y.length ≤ 7)
theorem LowZ.app {a b : Str} (h1 : LowZ a) (h2 : LowZ b) : LowZ (a ++ b) := fun c hc => by
  rw [cs_app] at hc
  rcases List.mem_append.mp hc with h | h
  · exact h1 c h
  · exact h2 c h
theorem LowZ.cut {a : Str} (h : LowZ a) (lo hi : Option Int) : LowZ (cutS a lo hi) := fun c hc => by
  have hc' : c ∈ ((cs a).drop _).take _ := hc
  exact h c (List.mem_of_mem_drop (List.mem_of_mem_take hc'))
theorem low_one {c : Nat} (h : 97 ≤ c ∧ c ≤ 122) : LowZ ⟨#[c]⟩ := fun x hx => by
  have : x ∈ [c] := hx
  rw [List.mem_singleton.mp this]
  exact h
theorem LowZ.lay {z : Str} (h : LowZ z) : lay (.str z) := by
  refine ⟨rfl, ?_, Nat.zero_le _⟩
  show z.cps.all (· < 0x110000) = true
  rw [Array.all_eq_true]
  intro i hi
  have := h z.cps[i] (by simp [cs])
  exact decide_eq_true (by omega)
abbrev abc : Str := "abcdefghijklmnopqrstuvwxyz"
theorem abc_low : LowZ abc := by
  have h : ((cs abc).all fun c => decide (97 ≤ c ∧ c ≤ 122)) = true := by decide +kernel
  exact fun c hc => of_decide_eq_true (List.all_eq_true.mp h c hc)
theorem abc_at {j : Nat} (hj : j < 26) : ∃ c, abc.cps[j]? = some c ∧ 97 ≤ c ∧ c ≤ 122 := by
  have h1 : j < abc.cps.size := hj
  refine ⟨abc.cps[j], by simp [h1], abc_low _ ?_⟩
  simp [cs]
theorem cut_first (z : Str) (k : Nat) : cs (cutS z none (some (k : Int))) = (cs z).take k := by
  show ((cs z).drop (HT.sIx z.length 0 none)).take (HT.sIx z.length z.length (some (k : Int)) - HT.sIx z.length 0 none) = _
  rw [HT.sIx_none, HT.sIx_nat z.length z.length k, List.drop_zero, ← cs_len, Nat.sub_zero]
  by_cases h : k ≤ (cs z).length
  · rw [Nat.min_eq_left h]
  · rw [Nat.min_eq_right (by omega), List.take_length, List.take_of_length_le (by omega)]
theorem cut_len (z : Str) (k : Nat) : (cutS z none (some (k : Int))).length = min k z.length := by
  rw [← cs_len, cut_first, List.length_take, cs_len]
def Cop (st : Nat) : Prop := st ∈ [1, 3, 5, 7, 9, 11, 15, 17]
theorem cop_le {st : Nat} (h : Cop st) : st ≤ 17 := by
  unfold Cop at h
  simp at h
  omega
theorem cop_inj {st bg i j : Nat} (h : Cop st) (e : (bg + st * i) % 26 = (bg + st * j) % 26) : i % 26 = j % 26 := by
  unfold Cop at h
  simp only [List.mem_cons, List.not_mem_nil, or_false] at h
  rcases h with rfl | rfl | rfl | rfl | rfl | rfl | rfl | rfl <;> omega
theorem abc_is : ∀ j : Fin 26, abc.cps[(j : Nat)]? = some (97 + (j : Nat)) := by decide +kernel
theorem abc_code {j c n : Nat} (hj : j < 26) (hc : abc.cps[j]? = some c) (e : j = n) : cs (⟨#[c]⟩ : Str) = [97 + n] := by
  have z := abc_is ⟨j, hj⟩
  rw [hc] at z
  rw [← e, ← Option.some.inj z]
theorem abc_code2 {j c : Nat} (hj : j < 26) (hc : abc.cps[j]? = some c) : cs (⟨#[c]⟩ : Str) = [97 + j] := abc_code hj hc rfl
theorem form_app {G : Nat → Str → Prop} {zs : List Str} {u : Str} {i : Nat} (hl : zs.length = i) (hf : ∀ (k : Nat) (y : Str), zs[k]? = some y → G k y) (hu : G i u) : ∀ (k : Nat) (y : Str), (zs ++ [u])[k]? = some y → G k y := fun k y h => by
  rcases Nat.lt_or_ge k zs.length with hk | hk
  · rw [List.getElem?_append_left hk] at h
    exact hf k y h
  · rw [List.getElem?_append_right hk] at h
    have hk0 : k - zs.length = 0 := by
      rcases Nat.eq_zero_or_pos (k - zs.length) with e | e
      · exact e
      · rw [List.getElem?_eq_none (by rw [List.length_singleton]; omega)] at h
        cases h
    rw [hk0] at h
    have e : u = y := Option.some.inj h
    have ek : k = i := by omega
    rw [ek, ← e]
    exact hu
theorem nodup_at {zs : List Str} (h : ∀ (i j : Nat) (y : Str), zs[i]? = some y → zs[j]? = some y → i = j) : zs.Nodup := by
  rw [List.nodup_iff_pairwise_ne, List.pairwise_iff_getElem]
  intro i j hi hj hij e
  have h1 : zs[i]? = some zs[i] := List.getElem?_eq_getElem hi
  have h2 : zs[j]? = some zs[i] := by rw [List.getElem?_eq_getElem hj, e]
  have := h i j _ h1 h2
  omega
end G
set_option Elab.async false
set_option linter.all false
set_option maxRecDepth 100000
set_option maxHeartbeats 2000000
/-! P0: isinstance by the kind of a thing. -/
namespace G
open PySem PySem.Spec PyProof.Rows L2
def isI : PyData → Bool
  | .int _ => true
  | .bool _ => true
  | _ => false
def isB : PyData → Bool
  | .bool _ => true
  | _ => false
def isTup : PyData → Bool
  | .tuple _ => true
  | _ => false
def isLst : PyData → Bool
  | .list _ => true
  | _ => false
def isDic : PyData → Bool
  | .dict _ => true
  | _ => false
theorem kit_i {K : PySem.W.Frag} : ∀ d : PyData, PySem.W.kitOne K (.type (tyN d)) (.type "int") = some (isI d)
  | .none => kit_ty (a := "NoneType") (b := "int") (r := false) (by decide +kernel)
  | .bool _ => kit_ty (a := "bool") (b := "int") (r := true) (by decide +kernel)
  | .int _ => kit_ty (a := "int") (b := "int") (r := true) (by decide +kernel)
  | .str _ => kit_ty (a := "str") (b := "int") (r := false) (by decide +kernel)
  | .list _ => kit_ty (a := "list") (b := "int") (r := false) (by decide +kernel)
  | .tuple _ => kit_ty (a := "tuple") (b := "int") (r := false) (by decide +kernel)
  | .dict _ => kit_ty (a := "dict") (b := "int") (r := false) (by decide +kernel)
theorem kit_b {K : PySem.W.Frag} : ∀ d : PyData, PySem.W.kitOne K (.type (tyN d)) (.type "bool") = some (isB d)
  | .none => kit_ty (a := "NoneType") (b := "bool") (r := false) (by decide +kernel)
  | .bool _ => kit_ty (a := "bool") (b := "bool") (r := true) (by decide +kernel)
  | .int _ => kit_ty (a := "int") (b := "bool") (r := false) (by decide +kernel)
  | .str _ => kit_ty (a := "str") (b := "bool") (r := false) (by decide +kernel)
  | .list _ => kit_ty (a := "list") (b := "bool") (r := false) (by decide +kernel)
  | .tuple _ => kit_ty (a := "tuple") (b := "bool") (r := false) (by decide +kernel)
  | .dict _ => kit_ty (a := "dict") (b := "bool") (r := false) (by decide +kernel)
theorem kit_t {K : PySem.W.Frag} : ∀ d : PyData, PySem.W.kitOne K (.type (tyN d)) (.type "tuple") = some (isTup d)
  | .none => kit_ty (a := "NoneType") (b := "tuple") (r := false) (by decide +kernel)
  | .bool _ => kit_ty (a := "bool") (b := "tuple") (r := false) (by decide +kernel)
  | .int _ => kit_ty (a := "int") (b := "tuple") (r := false) (by decide +kernel)
  | .str _ => kit_ty (a := "str") (b := "tuple") (r := false) (by decide +kernel)
  | .list _ => kit_ty (a := "list") (b := "tuple") (r := false) (by decide +kernel)
  | .tuple _ => kit_ty (a := "tuple") (b := "tuple") (r := true) (by decide +kernel)
  | .dict _ => kit_ty (a := "dict") (b := "tuple") (r := false) (by decide +kernel)
theorem kit_l {K : PySem.W.Frag} : ∀ d : PyData, PySem.W.kitOne K (.type (tyN d)) (.type "list") = some (isLst d)
  | .none => kit_ty (a := "NoneType") (b := "list") (r := false) (by decide +kernel)
  | .bool _ => kit_ty (a := "bool") (b := "list") (r := false) (by decide +kernel)
  | .int _ => kit_ty (a := "int") (b := "list") (r := false) (by decide +kernel)
  | .str _ => kit_ty (a := "str") (b := "list") (r := false) (by decide +kernel)
  | .list _ => kit_ty (a := "list") (b := "list") (r := true) (by decide +kernel)
  | .tuple _ => kit_ty (a := "tuple") (b := "list") (r := false) (by decide +kernel)
  | .dict _ => kit_ty (a := "dict") (b := "list") (r := false) (by decide +kernel)
theorem kit_d {K : PySem.W.Frag} : ∀ d : PyData, PySem.W.kitOne K (.type (tyN d)) (.type "dict") = some (isDic d)
  | .none => kit_ty (a := "NoneType") (b := "dict") (r := false) (by decide +kernel)
  | .bool _ => kit_ty (a := "bool") (b := "dict") (r := false) (by decide +kernel)
  | .int _ => kit_ty (a := "int") (b := "dict") (r := false) (by decide +kernel)
  | .str _ => kit_ty (a := "str") (b := "dict") (r := false) (by decide +kernel)
  | .list _ => kit_ty (a := "list") (b := "dict") (r := false) (by decide +kernel)
  | .tuple _ => kit_ty (a := "tuple") (b := "dict") (r := false) (by decide +kernel)
  | .dict _ => kit_ty (a := "dict") (b := "dict") (r := true) (by decide +kernel)
def isS : PyData → Bool
  | .str _ => true
  | _ => false
theorem kit_s {K : PySem.W.Frag} : ∀ d : PyData, PySem.W.kitOne K (.type (tyN d)) (.type "str") = some (isS d)
  | .none => kit_ty (a := "NoneType") (b := "str") (r := false) (by decide +kernel)
  | .bool _ => kit_ty (a := "bool") (b := "str") (r := false) (by decide +kernel)
  | .int _ => kit_ty (a := "int") (b := "str") (r := false) (by decide +kernel)
  | .str _ => kit_ty (a := "str") (b := "str") (r := true) (by decide +kernel)
  | .list _ => kit_ty (a := "list") (b := "str") (r := false) (by decide +kernel)
  | .tuple _ => kit_ty (a := "tuple") (b := "str") (r := false) (by decide +kernel)
  | .dict _ => kit_ty (a := "dict") (b := "str") (r := false) (by decide +kernel)
/-- isinstance(x, int), by name -/
theorem pt_isi {X : Cx} {y : Str} {py : Pos} {te : TE} {n : Str} {p q pos : Pos} (T : String) (he : PE X (.Name y py) te) (hg : Gl X "isinstance" := by rfl) (hm : X.mg "isinstance" = none) (gn : Gl X n := by rfl) (mn : X.mg n = none) (hv : bootBuiltins n = some (.type T) := by decide +kernel)
    (hn : n ≠ "__name__" := by decide) (hd : (n == ("__debug__" : Str)) = false := by decide) :
    PE X (.Call (.Name "isinstance" p) [.Name y py, .Name n q] [] pos) (tCB (rIsi X.K) (tCons te (tCons (tC (.ty T)) tNil))) :=
  pe_callB call_isi hg hm (by decide +kernel) (pa_cons he (pa_cons (pe_bltn gn mn hv rfl hn hd) pa_nil))

end G
set_option Elab.async false
set_option linter.all false
set_option maxRecDepth 100000
set_option maxHeartbeats 2000000
/-! WK: numbers and names that pass. -/
namespace G
open PySem PySem.Spec PyProof.Rows L2 NdefX
abbrev sIsInt : Stmt := topS 16
abbrev sIsName : Stmt := topS 17
theorem scIsInt : FnScope ["value", "low", "high"] ["value", "low", "high"] (defScope sIsInt) := ⟨rfl, rfl, rfl, by decide +kernel, rfl, by decide +kernel, by decide +kernel⟩
theorem scIsName : FnScope ["value", "letter"] ["value"] (defScope sIsName) := ⟨rfl, rfl, rfl, by decide +kernel, rfl, by decide +kernel, by decide +kernel⟩
def spIsInt : Sp := fun vs H Q _ => ∃ v lo hi : Int, vs = [.int v, .int lo, .int hi] ∧ Q (.bl (decide (lo ≤ v) && decide (v ≤ hi))) H
def spIsName : Sp := fun vs H Q _ => ∃ z : Str, vs = [.str z] ∧ NameZ z ∧ ∀ H', Same H H' → Q (.bl true) H'
section
variable {P : Program} {w : World} {K : PySem.W.Frag} {mg : Str → Option Value} {base : Heap}
theorem ok_isint {f : Addr} {fd : FuncData} (F : Fun K "is_integer" "is_integer" sIsInt f fd) (mi : mg "isinstance" = none) (mn : mg "int" = none) (mb : mg "bool" = none) : FnOk P w K mg base CX0 1 f fd ["value", "low", "high"] spIsInt := by
  refine F.ok scIsInt (fun vs H Q E h => ?_) (fun cdv A outer s H vs Q E hr h => ?_)
  · obtain ⟨v, lo, hi, rfl, _⟩ := h
    rfl
  · obtain ⟨v, lo, hi, rfl, q⟩ := h
    refine ⟨_, pss_cons (ps_if (PW.pt (pw_or (pt_not (pt_val (pt_isi "int" (pv 0) (hm := mi) (mn := mn)))) (pw_or1 (pt_val (pt_isi "bool" (pv 0) (hm := mi) (mn := mb)))))) (pss_one (ps_ret pe_bl)) pss_nil)
      (pss_one (ps_ret (pe_chain op_le op_le (pv 1) (pv 0) (pv 2)))), ?_⟩
    have hR : Rp K H (.int v) (.int v) := .int v
    refine ⟨_, rfl, _, _, _, _, _, rfl, .ty _, rp_ty hR, kit_i (.int v), _, rfl, iteF ?_⟩
    refine ⟨_, rfl, _, _, _, _, _, rfl, .ty _, rp_ty hR, kit_b (.int v), _, rfl, iteF ?_⟩
    refine ⟨_, rfl, _, rfl, _, _, rfl, rfl, _, rfl, ?_⟩
    cases e : decide (lo ≤ v) with
    | false =>
      refine iteF ?_
      rw [e] at q
      exact q
    | true =>
      refine iteT ?_
      rw [e] at q
      exact ⟨_, rfl, _, _, rfl, rfl, q⟩
theorem ok_isname {f : Addr} {fd : FuncData} {t1 t2 : Tok} (F : Fun K "is_name" "is_name" sIsName f fd) (gM : mg "MOST_LETTERS" = some (.int 8 t1)) (gL : mg "LETTERS" = some (.str abc t2)) (mi : mg "isinstance" = none) (ms : mg "str" = none) (ml : mg "len" = none) (ma : mg "all" = none) :
    FnOk P w K mg base CX0 1 f fd ["value"] spIsName := by
  refine F.ok scIsName (fun vs H Q E h => ?_) (fun cdv A outer s H vs Q E hr h => ?_)
  · obtain ⟨z, rfl, _⟩ := h
    rfl
  · obtain ⟨z, rfl, ⟨hz, h1, h8⟩, q⟩ := h
    refine ⟨_, pss_cons (ps_if (PW.pt (pw_or (pt_not (pt_val (pt_isi "str" (pv 0) (hm := mi) (mn := ms)))) (pw_or1 (pt_not (pt_chain op_le op_le pe_int (pe_callB call_len_str (by rfl) ml PySem.boot_len (pa_cons (pv 0) pa_nil)) (pe_glob (v := .int 8) rfl gM ⟨_, rfl⟩))))))
        (pss_one (ps_ret pe_bl)) pss_nil)
      (pss_one (ps_ret (pe_callB (cr_all rfl) (by rfl) ma (by decide +kernel) (pa_cons (pe_lc (own := [("letter", 1)]) (g := gName 1) (tt := tYes) (by rfl) scIsName.nd (pi_str (pv 0))
        (blkOk_by (own := [("letter", 1)]) (N := ["value", "letter"]) (sc := defScope sIsName) (by decide +kernel)) (fun _ _ _ _ _ => pg_name (i := 1) scIsName.nd rfl (.inl rfl)) (fun _ _ _ _ _ => pts_nil)
        (fun _ _ _ _ _ => pe_cmpR op_in_sign (pv 1) (pe_glob (v := .str abc) rfl gL ⟨_, rfl⟩) (by rfl))) pa_nil)))), ?_⟩
    have hR : Rp K H (.str z) (.str z) := .str z
    refine ⟨_, rfl, _, _, _, _, _, rfl, .ty _, rp_ty hR, kit_s (.str z), _, rfl, iteF ?_⟩
    refine ⟨_, rfl, z, rfl, small_size (by omega), _, _, rfl, rfl, _, rfl, ?_⟩
    rw [decide_eq_true (show (1 : Int) ≤ (z.length : Int) by omega)]
    refine iteT ⟨_, _, rfl, rfl, _, rfl, ?_⟩
    rw [decide_eq_true (show (z.length : Int) ≤ 8 by omega)]
    refine iteF ?_
    refine ⟨_, rfl, z, rfl, fun D hD => ?_⟩
    refine lc_it walk_str (fun i H2 => Same H H2 ∧ H2 D = some (.lst ((List.replicate i true).map V.bl))) ?_ ?_ ?_ ?_
    · exact ⟨Same.new hD, upd_same⟩
    · exact fun _ _ _ _ => trivial
    · rintro i x H2 H3 hi ⟨s2, e2⟩ ⟨rfl, c, hc, rfl⟩
      have hc2 : (cs z)[i]? = some c := by
        rw [← hc, ← Array.getElem?_toList]
      have hzs : z.cps.size = z.length := rfl
      have c97 := hz c (List.mem_of_getElem? hc2)
      refine ⟨rfl, ?_⟩
      unfold tYes
      dsimp only
      rw [if_pos rfl]
      refine ⟨_, rfl, c, _, rfl, rfl, _, e2, ?_, fun a o e => ?_, ?_⟩
      · rw [List.length_map, List.length_replicate]
        exact Nat.lt_of_lt_of_le hi (small_size (by omega))
      · rw [upd_ne (ne_of_none e hD)]
        exact s2 _ _ e
      · have hin : decide (c ∈ abc.cps.toList) = true := decide_eq_true (by
          have e : abc.cps.toList = (List.range 26).map (97 + ·) := by decide +kernel
          rw [e]
          exact List.mem_map.mpr ⟨c - 97, List.mem_range.mpr (by omega), by omega⟩)
        rw [upd_same, hin, List.replicate_succ', List.map_append]
        rfl
    · rintro H2 ⟨s2, e2⟩
      refine ⟨D, _, rfl, .of e2, ?_⟩
      have ha : (List.replicate z.cps.size true).all id = true := by
        rw [List.all_eq_true]
        intro x hx
        rw [(List.mem_replicate.mp hx).2]
        rfl
      rw [ha]
      exact q H2 s2
end
end G
set_option Elab.async false
set_option linter.all false
set_option maxRecDepth 100000
set_option maxHeartbeats 2000000
/-! O1: x in o, o[i], for x in o, len(o) by a class's own methods. -/
namespace G
open PySem PySem.Spec PyProof.Rows L2
/-- the class at C has its own m, the def at f -/
structure OwnM (K : PySem.W.Frag) (C : Addr) (m : Str) (f : Addr) : Prop where
  at_ : PySem.W.findIn K (.ref C) m = some (some (.ref f))
  fn : PySem.W.isFn K (.ref f) = true
section
variable {prog : Program} {w : World} {A : Around} {E : Value → Shared → Prop} {s : Shared} {K : PySem.W.Frag} {x C f : Addr} {ox : Obj} {od : Option Obj} {y : Value}
theorem in_own {Q : Bool → Shared → Prop} (X : K.In s.heap) (I : PySem.W.InstAt s.heap x ox C od) (e : OwnM K C "__contains__" f) (h : wpAny (model prog w) A (call (.ref f) [.ref x, y]) (fun v s' => ∃ b, v = .bool b ∧ Q b s') E s) :
    wpAny (model prog w) A (contains (.ref x) y) Q E s := by
  have sp : PySem.W.Looks (model prog w) s.heap (specialOf (.ref x) "__contains__") (some (.ref f)) := I.type.andThen (PySem.W.looks_findIn X e.at_)
  have hf := beq_iff_eq.mp e.fn
  unfold contains
  refine wpAny_holding ?_
  show wpAny _ _ (specialOf (.ref x) "__contains__" >>= _) _ _ _
  refine wpAny_bind (sp.here ?_)
  rw [if_neg (show ¬ ((some (Value.ref f) == some Value.none) = true) from Bool.false_ne_true)]
  unfold callSpecialUnlessNone?
  refine wpAny_bind (wpAny_bind (sp.here (wpAny_holding (wpAny_bind ((PySem.W.bind_fn X _ hf).here ?_)))))
  dsimp only
  rw [if_neg (show ¬ ((Value.ref f == Value.none) = true) from Bool.false_ne_true)]
  refine wpAny_bind (wpAny_mono h (fun v s' z => ?_) fun _ _ z => z)
  obtain ⟨b, rfl, q⟩ := z
  exact wpAny_pure (wpAny_truthy_bool q)
end
end G
set_option Elab.async false
set_option linter.all false
set_option maxRecDepth 100000
set_option maxHeartbeats 2000000
/-! O2: rules of x in o, o[i], for x in o. -/
namespace G
open PySem PySem.Spec PyProof.Rows L2 ItX
section
variable {X : Cx} {C g : Addr} {fd : FuncData} {ps : List Str} {n : Nat} {sp : Sp} {E : XK}
/-- x in o -/
def rInO (C : Addr) (sp : Sp) (E : XK) (neg : Bool) : R2 := fun x y H Q => ∃ a dx fs, y = .ref a ∧ H a = some (.ins C dx fs) ∧ sp [y, x] H (fun v H' => ∃ k : Bool, v = .bl k ∧ Q (.bl (cond neg (!k) k)) H') E
theorem in_run (e : OwnM X.K C "__contains__" g) (hb : Binds X.K fd ps []) (F : FnOk X.prog X.w X.K X.mg X.base CX0 n g fd ps sp) (hr : Room n X.A) (hx : Passes CX0 X E) {pins : List (Addr × Obj)} {σ : L2.St} {H : Hp} {s : Shared} {a dx : Addr} {fs : List (Str × V)} {x : V} {v : Value} {R : Bool → V → Hp → Prop}
    (I : Inv X pins σ H s) (rx : RelV x v) (ha : H a = some (.ins C dx fs)) {Q : Bool → Shared → Prop} (q : sp [.ref a, x] H (fun v H' => ∃ k : Bool, v = .bl k ∧ R k v H') E)
    (hq : ∀ k s' H', Inv X pins σ H' s' → R k (.bl k) H' → Q k s') : wpAny (model X.prog X.w) X.A (contains (.ref a) v) Q X.xe s := by
  obtain ⟨ox, od, J⟩ := insX_at I ha
  refine in_own I.kIn J e ?_
  refine wpAny_mono (run_fn (us := [.ref a, v]) (vs := [.ref a, x]) F hr hb .nil hx I (.cons rfl (.cons rx .nil)) q) (fun w s' z => ?_) fun _ _ x => x
  obtain ⟨z', H', I', rz, k, rfl, qz⟩ := z
  obtain rfl : w = Value.bool k := rz
  exact ⟨k, rfl, hq k s' H' I' qz⟩
theorem op_inO (e : OwnM X.K C "__contains__" g) (hb : Binds X.K fd ps []) (F : FnOk X.prog X.w X.K X.mg X.base CX0 n g fd ps sp) (hr : Room n X.A) (hx : Passes CX0 X E) : OpR X (compareOp .In) (rInO C sp E false) := by
  intro pins s σ H x y v u Q I rx ry h
  obtain ⟨a, dx, fs, rfl, ha, q⟩ := h
  cases (show u = Value.ref a from ry)
  refine wpAny_bind (in_run (R := fun k v H' => Q (.bl k) H') e hb F hr hx I rx ha q fun k s' H' I' z => ?_)
  exact wpAny_pure ⟨.bl k, H', I', rfl, z⟩
theorem op_ninO (e : OwnM X.K C "__contains__" g) (hb : Binds X.K fd ps []) (F : FnOk X.prog X.w X.K X.mg X.base CX0 n g fd ps sp) (hr : Room n X.A) (hx : Passes CX0 X E) : OpR X (compareOp .NotIn) (rInO C sp E true) := by
  intro pins s σ H x y v u Q I rx ry h
  obtain ⟨a, dx, fs, rfl, ha, q⟩ := h
  cases (show u = Value.ref a from ry)
  refine wpAny_bind (in_run (R := fun k v H' => Q (.bl (!k)) H') e hb F hr hx I rx ha q fun k s' H' I' z => ?_)
  exact wpAny_pure ⟨.bl (!k), H', I', rfl, z⟩
/-- o[i] -/
def tGetO (C : Addr) (sp : Sp) (E : XK) (ta ti : TE) : TE := fun σ H Q => ta σ H fun x H1 => ti σ H1 fun y H2 => ∃ a dx fs, x = .ref a ∧ H2 a = some (.ins C dx fs) ∧ sp [x, y] H2 Q E
theorem pe_getO {e i : Expr} {pos : Pos} {ta ti : TE} (m : OwnM X.K C "__getitem__" g) (hf : PySem.W.fnIn X.K g = true) (hb : Binds X.K fd ps []) (F : FnOk X.prog X.w X.K X.mg X.base CX0 n g fd ps sp) (hr : Room (n + 1) X.A) (he : PE X e ta) (hi : PE X i ti)
    (hsl : ∀ (a : Addr) (v : Value), subscripted i true (.ref a) v = runValue (.builtin "lifetime.subscript" ⟨[.ref a, v], []⟩) := by intro _ _; with_unfolding_all rfl) : PE X (.Subscript e i pos) (tGetO C sp E0 ta ti) := by
  refine ⟨fun pins s σ H Q I h => ?_⟩
  refine Subscript_ (thn (he.run pins s σ H _ I h) fun v s1 ⟨x, H1, I1, r1, q1⟩ => thn (hi.run pins s1 σ H1 _ I1 q1) fun u s2 ⟨y, H2, I2, r2, a, dx, fs, ex, ha, q⟩ => ?_)
  subst ex
  obtain rfl : v = Value.ref a := r1
  obtain ⟨ox, od, J⟩ := insX_at I2 ha
  obtain ⟨mm, hF⟩ := I2.fr
  refine PySem.W.sub_K hF I2.ok.mod.kin J m.at_ hf m.fn ?_ (hsl a u)
  have hl : ([Value.ref a, u] ++ []).length = ps.length := by
    have := F.len _ _ _ _ q
    exact this
  refine wpAny_call (codeAny_mono (F.run X.A.in1 X.stack s2 H2 ⟨[.ref a, u], []⟩ ([.ref a, u] ++ []) [.ref a, y] _ E0 hr.in1 I2.env0.in1 (hb s2 [.ref a, u] I2.kIn hl) (.cons rfl (.cons r2 .nil)) q) fun r s' hq => ?_)
  cases r with
  | error e => exact False.elim hq
  | ok fl =>
    cases fl with
    | ret u => exact I2.after hq
    | next => exact False.elim hq
    | brk => exact False.elim hq
    | cont => exact False.elim hq
end
/-! ### for x in o -/
/-- as FnOk, its promise knows how many objects there were -/
structure FnS (P : Program) (w : World) (K : PySem.W.Frag) (mg : Str → Option Value) (base : Heap) (k : Nat) (f : Addr) (fd : FuncData) (ps : List Str) (sp : Nat → Sp) : Prop where
  go : ∀ (A : Around) (outer : List Env) (s : Shared) (H : Hp) (args : Args) (us : List Value) (vs : List V) (Q : VK) (E : XK),
    Room k A → Env0 P w K mg base A outer s H → BindsTo s fd args (ps.zip us) → Vals vs us → sp s.heap.objs.size vs H Q E → codeAny (model P w) A (.call (.ref f) args) (CR CX0 outer P w H s Q E) s
section
variable {P : Program} {w : World} {K : PySem.W.Frag} {mg : Str → Option Value} {base : Heap}
theorem FnS.of_body {x qual : Str} {st : Stmt} {f : Addr} {fd : FuncData} {N ps : List Str} {k : Nat} {sp : Nat → Sp} (F : Fun K x qual st f fd) (S : FnScope N ps (defScope st))
    (size : ∀ n vs H Q E, sp n vs H Q E → vs.length = ps.length)
    (body : ∀ (cdv : Value) (A : Around) (outer : List Env) (s : Shared) (H : Hp) (vs : List V) (Q : VK) (E : XK),
      Room k (A.deeper (envOfC qual (defScope st) s.heap.objs.size f cdv)) → sp s.heap.objs.size vs H Q E →
      ∃ t, PSs (cxOf CX0 P w K mg base N qual (defScope st) f cdv A outer s H E).nox (defBody st) t ∧ t { nx := fun _ H' => Q .non H', rt := Q } (start N vs) H) :
    FnS P w K mg base (k + 1) f fd ps sp := by
  obtain ⟨_, _, _, _, _, _, cdv, _, _, rfl, lk, hcd⟩ := F.ex
  refine ⟨fun A outer s H args us vs Q E hr e0 hb r h => ?_⟩
  have inS : K.In s.heap := e0.mod.kin.keeps fun b o e => (e0.bs b o e).1
  have noL : s.heap.NoLimit := e0.mod.nolimit.keeps fun b o e => (e0.bs b o e).1
  refine codeAny_call_function hr.depth (inS _ _ lk) rfl S.co S.gen rfl
    (PySem.W.codeRec_of inS hcd) (hb _ _ _ _ ?_)
  refine wpAny_newFunctionEnv_cells S.kind
    (fun ⟨n, v⟩ hy => ?_) fun env he s1 x => ?_
  · rcases S.par n (List.of_mem_zip hy).1 with q | q
    · exact Or.inl q
    · exact Or.inr ⟨q, PySem.W.cellsFrom_some _ _ _ (Or.inl q)⟩
  · subst he
    refine ⟨noL.keeps x.toInCall.keep, codeAny_func ?_⟩
    obtain ⟨t, ht, hq⟩ := body cdv A outer s H vs Q E (hr.deeper _) h
    have J := inv_start (CX := CX0) (P := P) (w := w) (K := K) (mg := mg) (base := base) (E := E) S hr.hd e0 (size _ _ _ _ _ h) r x
    refine wpAny_mono (ht.nox.run [] s1 (start N vs) H _ J hq) (fun fl s' z => ?_) fun e s' z => z
    cases fl with
    | ret u =>
      obtain ⟨v, σ', H', J', rv, q⟩ := z
      exact ⟨v, H', J'.os, J'.bare, J'.base, J'.hok, rv, q⟩
    | next =>
      obtain ⟨σ', H', J', q⟩ := z
      exact ⟨.non, H', J'.os, J'.bare, J'.base, J'.hok, rfl, q⟩
    | brk =>
      obtain ⟨_, _, _, q⟩ := z
      exact q.elim
    | cont =>
      obtain ⟨_, _, _, q⟩ := z
      exact q.elim
end
/-- an __iter__ that gives the iterator of the list in the field fld -/
def spIter (K : PySem.W.Frag) (C : Addr) (fld : Str) (n : Nat) : Sp := fun vs H Q _ => ∃ (a dx l : Addr) (fs : List (Str × V)) (xs : List V), vs = [.ref a] ∧ H a = some (.ins C dx fs) ∧ fs.lookup fld = some (.ref l) ∧ SqL K H l xs ∧
  ∀ it, H it = none → n ≤ it → Q (.ref it) (upd H it (ItO l it 0))
def iOwn (K : PySem.W.Frag) (C : Addr) (fld : Str) (te : TE) : TI := fun σ H R => te σ H fun x H1 => ∃ (a dx l : Addr) (fs : List (Str × V)) (xs : List V), x = .ref a ∧ H1 a = some (.ins C dx fs) ∧ fs.lookup fld = some (.ref l) ∧ SqL K H1 l xs ∧ R (Itl K l) H1
theorem pi_own {X : Cx} {C g : Addr} {fd : FuncData} {n : Nat} {fld : Str} {e tg : Expr} {te : TE} (he : PE X e te) (m : OwnM X.K C "__iter__" g) (hb : Binds X.K fd ["self"] []) (F : FnS X.prog X.w X.K X.mg X.base n g fd ["self"] (spIter X.K C fld)) (hr : Room n X.A) : PI X tg e (iOwn X.K C fld te) := by
  refine ⟨fun pins s σ H R I h => ?_⟩
  refine thn (he.run pins s σ H _ I h) fun u s1 ⟨x, H1, I1, rx, a, dx, l, fs, xs, ex, ea, lk, sq, q⟩ => ?_
  subst ex
  obtain rfl : u = Value.ref a := rx
  obtain ⟨ox, od, J⟩ := insX_at I1 ea
  obtain ⟨mm, hF⟩ := I1.fr
  refine PySem.W.owit_iter hF I1.ok.mod.kin J m.at_ m.fn ?_
  refine wpAny_call (codeAny_mono (F.go X.A X.stack s1 H1 ⟨[Value.ref a], []⟩ ([Value.ref a] ++ []) [V.ref a] (fun v H2 => ∃ it, v = .ref it ∧ H1 it = none ∧ X.s_0.heap.objs.size ≤ it ∧ H2 = upd H1 it (ItO l it 0)) E0 hr I1.env0 (hb s1 [Value.ref a] I1.kIn rfl) (show Vals [V.ref a] [Value.ref a] from .cons rfl .nil)
    ⟨a, dx, l, fs, xs, rfl, ea, lk, sq, fun it hn hs => ⟨it, rfl, hn, Nat.le_trans I1.sz hs, rfl⟩⟩) fun r s' hq => ?_)
  cases r with
  | error e => exact False.elim hq
  | ok fl =>
    cases fl with
    | ret u =>
      obtain ⟨v, H', I2, rv, it, rfl, hn, hs, rfl⟩ := I1.after hq
      cases (show u = Value.ref it from rv)
      have hi : (upd H1 it (ItO l it 0)) it = some (ItO l it 0) := upd_same
      have eo := itO_get I2 hi
      have st : s'.heap.IsListIter it l (0 : Nat) := ⟨_, eo, rfl, rfl⟩
      have hT : s'.TypeIs (.ref it) "list_iterator" := ⟨_, eo, rfl⟩
      unfold PySem.W.OwitIt
      refine wpAny_specialOf (name := Str.ofString "__next__") hT slot_listiter_next.lookup ?_
      have hi' := hi
      unfold ItO at hi'
      have ed : dropH (upd H1 it (ItO l it 0)) it = H1 := by
        funext b
        by_cases hb : b = it
        · rw [hb, hn]
          exact dropH_same
        · rw [dropH_ne hb, upd_ne hb]
      refine ⟨it, [it], _, _, dropH (upd H1 it (ItO l it 0)) it, rfl, inv_drop I2 hi', turn_list l it, st, fun b hb => ?_, ?_⟩
      · have e : b = it := by simpa using hb
        rw [e]
        exact inv_fp I2 hi hs
      · rw [ed]
        exact q
    | next => exact False.elim hq
    | brk => exact False.elim hq
    | cont => exact False.elim hq
end G
set_option Elab.async false
set_option linter.all false
set_option maxRecDepth 100000
set_option maxHeartbeats 2000000
/-! O3: xs[::-1], isinstance(x, (list, tuple)), lists of the same things compared. -/
namespace G
open PySem PySem.Spec PyProof.Rows L2 HT
theorem pick_rev (its : List Value) : slicePick its.toArray none none (some (-1)) = its.reverse.toArray := by
  have e : ∀ k, k ≤ its.length → (((List.range k).map fun (m : Nat) => (((its.length : Nat) : Int) - 1 + (-1) * (m : Int)).toNat).filterMap fun j => its.toArray[j]?) = its.reverse.take k := by
    intro k
    induction k with
    | zero =>
      intro _
      simp
    | succ k ih =>
      intro hk
      rw [List.range_succ, List.map_append, List.filterMap_append, ih (by omega), List.take_add_one]
      congr 1
      have e1 : (((its.length : Nat) : Int) - 1 + (-1) * (k : Int)).toNat = its.length - 1 - k := by omega
      have hk2 : its.length - 1 - k < its.length := by omega
      simp only [List.map_cons, List.map_nil, List.filterMap_cons, List.filterMap_nil]
      rw [e1, List.getElem?_toArray, List.getElem?_eq_getElem hk2, List.getElem?_reverse (by omega)]
      simp [hk2]
  have r : sliceRange ((its.length : Int) - 1) (-1) (-1) = (List.range its.length).map fun (m : Nat) => (((its.length : Nat) : Int) - 1 + (-1) * (m : Int)).toNat := by
    unfold sliceRange
    have c : (if (-1 : Int) > 0 then (if (its.length : Int) - 1 < -1 then ((-1) - ((its.length : Int) - 1) + (-1) - 1) / (-1) else 0) else (if (its.length : Int) - 1 > -1 then ((its.length : Int) - 1 - (-1) - (-1) - 1) / (-(-1)) else 0)).toNat = its.length := by
      rw [if_neg (by decide)]
      split
      · rw [show (-(-1) : Int) = 1 by decide, Int.ediv_one]
        omega
      · omega
    show (List.range _).map _ = _
    rw [c]
  have b : sliceBounds none none (some (-1)) its.toArray.size = ((its.length : Int) - 1, -1, -1) := by
    rw [List.size_toArray]
    rfl
  unfold slicePick
  rw [b]
  dsimp only
  rw [r, e _ (Nat.le_refl _), List.take_of_length_le (by rw [List.length_reverse]; exact Nat.le_refl _)]
def tBackL (K : PySem.W.Frag) (te : TE) (tp : TO) : TE := fun σ H Q => te σ H fun x H1 => tp σ H1 fun o H2 => ∃ a xs, x = .ref a ∧ SqL K H2 a xs ∧ o = some (-1) ∧ ∀ p, H2 p = none → Q (.ref p) (upd H2 p (.lst xs.reverse))
theorem pe_backL {X : Cx} {e st : Expr} {te : TE} {tp : TO} {p3 pos : Pos} (he : PE X e te) (hst : PO X (some st) tp)
    (hsub : ∀ a l : Addr, subscripted (.Slice none none (some st) p3) false (.ref a) (.ref l) = operate [.ref a, .ref l] (getItem (.ref a) (.ref l)) := by intro _ _; with_unfolding_all rfl) :
    PE X (.Subscript e (.Slice none none (some st) p3) pos) (tBackL X.K te tp) := by
  refine ⟨fun pins s σ H Q I h => ?_⟩
  refine Subscript_ (thn (he.run pins s σ H _ I h) fun v s1 ⟨x, H1, I1, r1, q1⟩ => ?_)
  refine wpAny_Slice (thn (po_none.run pins s1 σ H1 (fun o H2 => o = none ∧ H2 = H1) I1 ⟨rfl, rfl⟩) fun vl s2 ⟨l, H2, I2, pl, el, e2⟩ => ?_)
  subst el e2
  refine thn (po_none.run pins s2 σ H2 (fun o H3 => o = none ∧ H3 = H2) I2 ⟨rfl, rfl⟩) fun vu s3 ⟨u, H3, I3, pu, eu, e3⟩ => ?_
  subst eu e3
  refine thn (hst.run pins s3 σ H3 _ I3 q1) fun vs s4 ⟨o, H4, I4, ps, a, xs, ex, hx, eo, q⟩ => ?_
  subst ex eo
  cases r1
  have I5 : Inv X pins σ H4 { s4 with heap := s4.heap.push { cls := .type "slice", data := .fields #[vl, vu, vs] } } := I4.kept (t' := s4.toks) fun b ob q => Heap.get?_push_of_some _ q
  obtain ⟨its, r, ht, hz⟩ := I5.list hx
  have hlen : its.length = xs.length := r.length.symm
  show wpAny (model X.prog X.w) X.A (subscriptTail e (.Slice none none (some st) p3) (.ref a) (.ref s4.heap.objs.size)) (EP X pins σ Q) X.xe { s4 with heap := s4.heap.push { cls := .type "slice", data := .fields #[vl, vu, vs] } }
  refine tail_any (ops := [.ref a, .ref s4.heap.objs.size]) ht.isList.typeIs slot_list_getitem.lookup ?_ (hsub _ _)
  refine wpAny_getItem_list_slice ht.isList (Heap.IsSliceOf.new _ _ _ _) pl pu ps (by decide) ?_ (by rw [List.size_toArray]; omega)
  rw [pick_rev]
  refine ⟨.ref _, _, I5.laid (t' := s4.toks) (o := .lst xs.reverse) (fun b ob q => Heap.get?_push_of_some _ q) (Nat.le_refl _) ?_, rfl, q _ (I5.hok.fresh (Nat.le_refl _))⟩
  exact ⟨by rw [List.length_reverse]; exact hz, _, 0, Vals.reverse r, Heap.get?_push_size _ rfl⟩
/-! ### isinstance(x, (list, tuple)) -/
def tIsLT (K : PySem.W.Frag) (te : TE) : TE := fun σ H Q => te σ H fun x H1 => (∃ t xs, x = .ref t ∧ (SqL K H1 t xs ∨ SqT K H1 t xs)) ∧ ∀ T, H1 T = none → Q (.bl true) (upd H1 T (.tup [.ty "list", .ty "tuple"]))
theorem lt_list (t : Addr) : AnswersAll (fun s => s.TypeIs (.ref t) "list") (.ref t) [.type "list", .type "tuple"] [true, false] :=
  ⟨Answers.of_true PySem.F.isi_meta_list sub_list_self, Answers.of_false_list (by decide +kernel) PySem.F.isi_meta_tuple PySem.F.sub_list_tuple, True.intro⟩
theorem lt_tuple (t : Addr) : AnswersAll (fun s => s.TypeIs (.ref t) "tuple") (.ref t) [.type "list", .type "tuple"] [false, true] :=
  ⟨Answers.of_false_tuple (by decide +kernel) PySem.F.isi_meta_list PySem.F.sub_tuple_list, Answers.of_true PySem.F.isi_meta_tuple PySem.F.isi_sub_tuple, True.intro⟩
theorem pe_isiLT {X : Cx} {p pos tpos : Pos} {e : Expr} {es : List Expr} {te : TE} {k : Nat} (he : PE X e te) (hg : Gl X "isinstance") (hm : X.mg "isinstance" = none) (hes : PA X es (tCons (tC (.ty "list")) (tCons (tC (.ty "tuple")) tNil)))
    (n1 : starEach [e, .Tuple es k tpos] X.env = (false, eval e X.env) :: starEach [.Tuple es k tpos] X.env := by rfl) (n2 : starEach [.Tuple es k tpos] X.env = (false, eval (.Tuple es k tpos) X.env) :: starEach [] X.env := by rfl)
    (n3 : (backTo pos (starEach [.Tuple es k tpos] X.env)).any (·.1) = false := by rfl) : PE X (.Call (.Name "isinstance" p) [e, .Tuple es k tpos] [] pos) (tIsLT X.K te) := by
  refine ⟨fun pins s σ H Q I h => ?_⟩
  refine wpAny_Call_Name_kw (ld_blt I hg hm PyProof.Rows.boot_isinstance ?_ (by decide) (by decide))
  refine PyProof.Rows.callWith_builtin1 ?_ n1 n3
  rw [n1]
  show wpAny _ _ (spliced ((false, eval e X.env) :: backTo pos (starEach [.Tuple es k tpos] X.env))) _ _ s
  refine Calls.spliced_cons (thn (he.run pins s σ H _ I h) fun u s1 ⟨x, H1, I1, r1, ⟨t, xs, ex, hT⟩, q1⟩ => ?_)
  subst ex
  obtain rfl : u = Value.ref t := r1
  rw [n2]
  show wpAny _ _ (spliced ((false, eval (.Tuple es k tpos) X.env) :: backTo pos (starEach [] X.env))) _ _ s1
  refine Calls.spliced_cons (wpAny_Tuple_spliced (thn (hes.run tpos pins s1 σ H1 (fun ys H' => ys = [.ty "list", .ty "tuple"] ∧ H' = H1) I1 ⟨rfl, rfl⟩) fun us s2 ⟨ys, H2, I2, r2, ey, eH⟩ => ?_))
  subst ey eH
  have eu := vals_ty2 r2
  subst eu
  have two : 2 ≤ sizeLine := by rw [sizeLine_eq]; omega
  refine ⟨two, ?_⟩
  have fresh := I2.hok.fresh (Nat.le_refl s2.heap.objs.size)
  have I3 := I2.laid (a := s2.heap.objs.size) (o := .tup [.ty "list", .ty "tuple"]) (h' := s2.heap.push { cls := .type "tuple", data := .seq [Value.type "list", Value.type "tuple"].toArray }) (t' := s2.toks) (fun b u e => Heap.get?_push_of_some _ e) (Nat.le_refl _)
    ⟨two, [.type "list", .type "tuple"], r2, ⟨_, Heap.get?_push_size _ rfl, rfl, _, rfl⟩⟩
  refine Calls.spliced_nil ?_
  rcases hT with hT | hT
  · obtain ⟨its, _, pl, _⟩ := I2.list hT
    obtain ⟨o, ho, hc, _⟩ := pl.isList
    exact call_isinstance (isinstance_tuple (x := .ref t) (Tx := "list") (tp := s2.heap.objs.size) (lt_list t)) ⟨⟨o, Heap.get?_push_of_some _ ho, hc⟩, Heap.get?_push_size _ rfl, fun tk => ⟨.bl true, _, I3.tok tk, rfl, q1 _ fresh⟩⟩
  · obtain ⟨its, _, ⟨o, ho, hc, _⟩, _⟩ := I2.tuple hT
    exact call_isinstance (isinstance_tuple (x := .ref t) (Tx := "tuple") (tp := s2.heap.objs.size) (lt_tuple t)) ⟨⟨o, Heap.get?_push_of_some _ ho, hc⟩, Heap.get?_push_size _ rfl, fun tk => ⟨.bl true, _, I3.tok tk, rfl, q1 _ fresh⟩⟩
/-! ### lists of the same things -/
def sameB : V → Bool
  | .ref _ => true
  | v => flatB v
theorem items_same {A : Around} {s : Shared} : ∀ {xs : List V} {us ws : List Value}, (∀ v ∈ xs, sameB v = true) → Vals xs us → Vals xs ws → ∀ j (h1 : j < us.length) (h2 : j < ws.length), SeqAt.EqAt A s us[j] ws[j] true
  | [], _, _, _, .nil, .nil, j, h1, _ => absurd h1 (Nat.not_lt_zero j)
  | x :: xs, _, _, hf, .cons r1 t1, .cons r2 t2, 0, _, _ => by
    have f := hf x List.mem_cons_self
    cases x with
    | ref a =>
      cases r1
      cases r2
      exact SeqAt.EqAt.same _
    | _ => exact eqAt_same r1 r2 f
  | x :: xs, _, _, hf, .cons r1 t1, .cons r2 t2, j + 1, h1, h2 => items_same (fun v hv => hf v (List.mem_cons_of_mem _ hv)) t1 t2 j (Nat.lt_of_succ_lt_succ h1) (Nat.lt_of_succ_lt_succ h2)
section
variable {X : Cx}
def rNeS (K : PySem.W.Frag) : R2 := fun x y H Q => ∃ a b xs, x = .ref a ∧ y = .ref b ∧ SqL K H a xs ∧ SqL K H b xs ∧ (∀ v ∈ xs, sameB v = true) ∧ Q (.bl false) H
theorem op_neS (hu : X.A.units < cLine) : OpR X (compareOp .NotEq) (rNeS X.K) := by
  intro pins s σ H x y v u Q I rx ry h
  obtain ⟨a, b, xs, rfl, rfl, ha, hb, hf, q⟩ := h
  cases (show v = Value.ref a from rx)
  cases (show u = Value.ref b from ry)
  obtain ⟨us, r1, p1, _⟩ := I.list ha
  obtain ⟨ws, r2, p2, _⟩ := I.list hb
  have hsz : us.toArray.size = ws.toArray.size := by rw [List.size_toArray, List.size_toArray, ← r1.length, ← r2.length]
  refine SeqAt.RcNeAt.lists (e := fun _ => true) p1.isList p2.isList hsz hu (fun j h1 h2 => ?_) X.prog X.w _ _ ?_
  · have k := items_same (A := X.A.in1) (s := s) hf r1 r2 j (by simpa using h1) (by simpa using h2)
    simpa using k
  · rw [show ((List.range us.toArray.size).all fun _ => true) = true from List.all_eq_true.mpr fun _ _ => rfl]
    exact ⟨.bl false, H, I, rfl, q⟩
end
end G
set_option Elab.async false
set_option linter.all false
set_option maxRecDepth 100000
set_option maxHeartbeats 2000000
/-! O4: dicts of ints compared; a list compared with an empty one; things in a drawn order. -/
namespace G
open PySem PySem.Spec PyProof.Rows L2
def dEq (ks ls : List (Key × V)) : Bool := ks.length == ls.length && ks.all fun p => decide (valV ls p.1 = some p.2)
def AllInt (ks : List (Key × V)) : Prop := ∀ p ∈ ks, ∃ i, p.2 = V.int i
theorem int_valV {ls : List (Key × V)} (h : AllInt ls) {k : Key} {v : V} (e : valV ls k = some v) : ∃ i, v = V.int i := by
  have h2 : Option.map (fun p : Key × V => p.2) (ls.find? fun kv => decide (kv.1 = k)) = some v := e
  obtain ⟨p, hp, rfl⟩ := Option.map_eq_some_iff.mp h2
  exact h p (List.mem_of_find?_eq_some hp)
theorem hits_int {A : Around} {s : Shared} {ls : List (Key × V)} {vb : List (Key × Value)} (rb : KV ls vb) (hl : AllInt ls) {ks : List (Key × V)} {va : List (Key × Value)} (ra : KV ks va) :
    AllInt ks → PySem.W.KeqHits A s vb va (ks.all fun p => decide (valV ls p.1 = some p.2)) := by
  unfold KV at ra
  induction ra with
  | nil => intro _; exact .nil
  | @cons p q ps qs h t ih =>
    intro hp
    obtain ⟨h1, h2⟩ := h
    obtain ⟨i, ei⟩ := hp p List.mem_cons_self
    have ih' := ih fun p' hm => hp p' (List.mem_cons_of_mem _ hm)
    obtain ⟨k, v⟩ := q
    have h1' : p.1 = k := h1
    subst h1'
    rw [ei] at h2
    obtain ⟨t1, rfl⟩ := (show ∃ t, v = Value.int i t from h2)
    rw [List.all_cons]
    cases e : valV ls p.1 with
    | none =>
      have rr : RelO none (valueAt vb p.1) := by rw [← e]; exact rb.val p.1
      have hn : valueAt vb p.1 = none := by
        cases z : valueAt vb p.1 with
        | none => rfl
        | some y =>
          rw [z] at rr
          exact rr.elim
      rw [decide_eq_false (show ¬ (none = some p.2) from fun z => nomatch z), Bool.false_and]
      exact .miss hn
    | some x =>
      obtain ⟨j, rfl⟩ := int_valV hl e
      have rr : RelO (some (.int j)) (valueAt vb p.1) := by rw [← e]; exact rb.val p.1
      obtain ⟨y, hy, ry⟩ := rr.some_of
      obtain ⟨t2, rfl⟩ := (show ∃ t, y = Value.int j t from ry)
      rw [ei]
      have q := SeqAt.EqAt.int_int (A := A) (s := s) i t1 j t2
      have e2 : decide (some (V.int j) = some (V.int i)) = (i == j) := by
        by_cases z : i = j
        · rw [z, decide_eq_true rfl]
          exact (beq_self_eq_true _).symm
        · rw [decide_eq_false fun h => z (V.int.inj (Option.some.inj h)).symm]
          exact (Bool.eq_false_iff.mpr fun h => z (beq_iff_eq.mp h)).symm
      rw [e2]
      exact .hit hy q ih'
section
variable {X : Cx}
def rNeDI : R2 := fun x y H Q => ∃ a b ks ls, x = .ref a ∧ y = .ref b ∧ H a = some (.dK ks) ∧ H b = some (.dK ls) ∧ AllInt ks ∧ AllInt ls ∧ Q (.bl (!dEq ks ls)) H
theorem op_neDI (hu : X.A.units < cLine) : OpR X (compareOp .NotEq) rNeDI := by
  intro pins s σ H x y v u Q I rx ry h
  obtain ⟨a, b, ks, ls, rfl, rfl, ea, eb, ik, il, q⟩ := h
  obtain rfl : v = Value.ref a := rx
  obtain rfl : u = Value.ref b := ry
  obtain ⟨_, ya, va, ra, da⟩ := (show ObjOk X.prog X.w H s.heap a (.dK ks) from I.hok a _ ea)
  obtain ⟨_, yb, vb, rb, db⟩ := (show ObjOk X.prog X.w H s.heap b (.dK ls) from I.hok b _ eb)
  have e : dEq ks ls = (va.length == vb.length && ks.all fun p => decide (valV ls p.1 = some p.2)) := by
    rw [← ra.length, ← rb.length]
    rfl
  exact PySem.W.keq_ne (knd := mixKind X.prog X.w) ya yb da db hu (fun _ => hits_int rb il ra ik) (fin_bl I q (by rw [e]))
def rNeNil (K : PySem.W.Frag) : R2 := fun x y H Q => ∃ a b xs, x = .ref a ∧ y = .ref b ∧ SqL K H a xs ∧ SqL K H b [] ∧ Q (.bl (!xs.isEmpty)) H
theorem op_neNil (hu : X.A.units < cLine) : OpR X (compareOp .NotEq) (rNeNil X.K) := by
  intro pins s σ H x y v u Q I rx ry h
  obtain ⟨a, b, xs, rfl, rfl, ha, hb, q⟩ := h
  cases (show v = Value.ref a from rx)
  cases (show u = Value.ref b from ry)
  obtain ⟨us, r1, p1, _⟩ := I.list ha
  obtain ⟨ws, r2, p2, _⟩ := I.list hb
  cases r2
  cases xs with
  | nil =>
    cases r1
    refine SeqAt.RcNeAt.lists (e := fun _ => true) p1.isList p2.isList rfl hu (fun j h1 h2 => absurd h1 (Nat.not_lt_zero j)) X.prog X.w _ _ ?_
    exact ⟨.bl false, H, I, rfl, q⟩
  | cons x xs =>
    refine SeqAt.RcNeAt.lists_lengths p1.isList p2.isList ?_ hu X.prog X.w _ _ ?_
    · have := r1.length
      rw [List.length_cons] at this
      rw [List.size_toArray, List.size_toArray, ← this]
      rfl
    · exact ⟨.bl true, H, I, rfl, q⟩
end
/-- things in a drawn order -/
def spMixR (K : PySem.W.Frag) : Sp := fun vs H Q _ => ∃ (b a : Addr) (n : Nat) (xs : List V), vs = [.ref b, .ref a] ∧ BoxAt H b n ∧ n + xs.length ≤ 100000 ∧ SqL K H a xs ∧
  ∀ (p : Addr) (H' : Hp) (ys : List V), ys.Perm xs → H p = none → H' p = some (.lst ys) → BoxAt H' b (n + xs.length) → But b H H' → Q (.ref p) H'
section
variable {P : Program} {w : World} {K : PySem.W.Frag} {mg : Str → Option Value} {base : Heap}
theorem ok_mixR {f fT : Addr} {fd fdT : FuncData} (F : Fun K "_law_mixed" "_law_mixed" sMixed f fd) (T : Fun K "_law_take" "_law_take" sTake fT fdT) (bT : Binds K fdT ["_law_box_here", "_law_many"] []) (gT : mg "_law_take" = some (.ref fT))
    (ml : mg "len" = none) (mL : mg "list" = none) : FnOk P w K mg base CX0 2 f fd ["_law_box_here", "_law_some"] (spMixR K) := by
  refine F.ok scMixed (fun vs H Q E h => ?_) (fun cdv A outer s H vs Q E hr h => ?_)
  · obtain ⟨b, a, n, ps, rfl, _⟩ := h
    rfl
  · obtain ⟨b, a, n, ps, rfl, B, hn, hS, q⟩ := h
    have big : ∀ {k : Nat}, k ≤ 100000 → k < sizeLine := fun {k} h => by
      rw [sizeLine_eq]
      omega
    refine ⟨_, pss_cons (ps_par (i := 2) (j := 3) (by rfl) scMixed.nd rfl rfl (by decide) rfl rfl (pa_cons (pe_callTy call_list_of (by rfl) mL (by decide +kernel) (pa_cons (pv 1) pa_nil)) (pa_cons (pe_lst pa_nil) pa_nil)) (by rfl))
      (pss_cons (ps_while PassesOwn.never (pt_cmpR (op_neNil (Nat.lt_of_succ_lt (hu_of hr))) (pv 2) (pe_lst pa_nil) (nomark _))
        (pss_one (ps_expr (pe_bm PySem.F.plainAttrs_list PySem.F.slot_list_append PySem.F.type_list_append mt_append (pv 3) (pa_cons
          (pe_bm PySem.F.plainAttrs_list PySem.F.slot_list_pop PySem.F.type_list_pop mt_popAt (pv 2)
            (pa_cons (pe_call (ok_take T) hr rfl gT T.kp bT .nil pass0 (pa_cons (pv 0) (pa_cons (pe_callB call_len_seq (by rfl) ml PySem.boot_len (pa_cons (pv 2) pa_nil)) pa_nil))) pa_nil)) pa_nil)))))
      (pss_one (ps_ret (pv 3)))), ?_⟩
    refine ⟨_, rfl, a, _, rfl, .inl hS, fun l hl => ⟨by decide, fun p hp0 => ⟨_, _, rfl, ?_⟩⟩⟩
    have nlp : l ≠ p := fun z => by
      rw [z, upd_same] at hp0
      cases hp0
    have hpn : H p = none := (upd_ne nlp.symm).symm.trans hp0
    have nbl : b ≠ l := by
      obtain ⟨_, _, _, e, _⟩ := B
      exact ne_of_none e hl
    have nbp : b ≠ p := by
      obtain ⟨_, _, _, e, _⟩ := B
      exact ne_of_none e hpn
    refine ⟨fun m σ H1 => ∃ qs rs : List V, m = qs.length ∧ σ = [some (.ref b), some (.ref a), some (.ref l), some (.ref p)] ∧ H1 l = some (.lst qs) ∧ H1 p = some (.lst rs) ∧
        (rs ++ qs).Perm ps ∧ BoxAt H1 b (n + rs.length) ∧ But b H H1, ⟨ps.length, ps, [], rfl, rfl, ?_, upd_same, .refl _, ?_, ?_⟩, ?_⟩
    · rw [upd_ne nlp, upd_same]
    · exact (B.keep fun o e => by rw [upd_ne nbp, upd_ne nbl]; exact e).mono (Nat.le_add_right _ _)
    · exact (But.new hl).trans (But.new hp0)
    · rintro m σ H1 ⟨qs, rs, rfl, rfl, el, ep, pm, B1, s1⟩
      have hlen : rs.length + qs.length = ps.length := by
        rw [← List.length_append]
        exact pm.length_eq
      refine ⟨_, rfl, by decide, fun t ht => ?_⟩
      have nlt : l ≠ t := ne_of_none el ht
      have s2 : But b H (upd H1 t (.lst [])) := s1.trans (But.new ht)
      refine ⟨l, t, qs, rfl, rfl, .of ((upd_ne nlt).trans el), .of upd_same, _, rfl, ?_⟩
      · cases qs with
        | nil =>
          refine iteF ?_
          refine ⟨_, rfl, ?_⟩
          rw [List.append_nil] at pm
          refine q p _ rs pm hpn ?_ ?_ s2
          · rw [upd_ne (ne_of_none ep ht)]
            exact ep
          · have e : rs.length = ps.length := pm.length_eq
            rw [← e]
            exact B1.keep fun o e => by rw [upd_ne (ne_of_none e ht)]; exact e
        | cons y ys =>
          refine iteT ?_
          have hlen' : rs.length + (ys.length + 1) = ps.length := hlen
          refine ⟨fun σ' H' => ∃ m', m' < (y :: ys).length ∧ ∃ qs rs : List V, m' = qs.length ∧ σ' = [some (.ref b), some (.ref a), some (.ref l), some (.ref p)] ∧ H' l = some (.lst qs) ∧ H' p = some (.lst rs) ∧
            (rs ++ qs).Perm ps ∧ BoxAt H' b (n + rs.length) ∧ But b H H', fun _ _ h => h, ?_⟩
          have ep2 : upd H1 t (.lst []) p = some (.lst rs) := by
            rw [upd_ne (ne_of_none ep ht)]
            exact ep
          have el2 : upd H1 t (.lst []) l = some (.lst (y :: ys)) := by
            rw [upd_ne nlt]
            exact el
          have B2 : BoxAt (upd H1 t (.lst [])) b (n + rs.length) := B1.keep fun o e => by rw [upd_ne (ne_of_none e ht)]; exact e
          refine ⟨_, rfl, .inl ⟨rfl, _, .of ep2⟩, _, rfl, .inl ⟨rfl, _, .of el2⟩, _, rfl, _, rfl, l, _, rfl, .inl (.of el2), b, _, n + rs.length, rfl, B2, by omega, ?_, ?_, fun r H3 r0 r1 B3 s3 => ?_⟩
          · show (0 : Int) < ((ys.length + 1 : Nat) : Int)
            omega
          · show ((ys.length + 1 : Nat) : Int) < _
            have : ys.length + 1 ≤ 100000 := by omega
            omega
          · obtain ⟨j, rfl, hj⟩ := draw_at r0 r1 (n := (y :: ys).length) rfl
            have el3 : H3 l = some (.lst (y :: ys)) := s3 _ _ nbl.symm el2
            have ep3 : H3 p = some (.lst rs) := s3 _ _ nbp.symm ep2
            have hj5 : j < 100000 := by
              have e : (y :: ys).length = ys.length + 1 := rfl
              omega
            refine ⟨l, _, (j : Int), j, (y :: ys)[j], rfl, rfl, el3, by omega, by omega, ?_, ?_, ?_⟩
            · have := PySem.seqIndex_of (k := (j : Int)) (n := (y :: ys).length) (by omega) (by omega)
              rw [this]
              rfl
            · exact List.getElem?_eq_getElem hj
            · refine ⟨p, _, _, rfl, rfl, by rw [upd_ne nlp.symm]; exact ep3, ?_, ?_⟩
              · exact big (by omega)
              · refine ⟨((y :: ys).eraseIdx j).length, ?_, (y :: ys).eraseIdx j, rs ++ [(y :: ys)[j]], rfl, rfl, ?_, ?_, ?_, ?_, ?_⟩
                · rw [List.length_eraseIdx, if_pos hj]
                  show (ys.length + 1) - 1 < ys.length + 1
                  omega
                · rw [upd_ne nlp, upd_same]
                · rw [upd_same]
                · rw [List.append_assoc]
                  refine List.Perm.trans (List.Perm.append_left rs ?_) pm
                  exact erase_perm hj
                · rw [List.length_append, List.length_singleton]
                  exact B3.keep fun o e => by rw [upd_ne nbp, upd_ne nbl]; exact e
                · intro c o nc e
                  have e3 := (s2.trans s3) c o nc e
                  rw [upd_ne (ne_of_none e hpn), upd_ne (ne_of_none e hl)]
                  exact e3
end
end G
set_option Elab.async false
set_option linter.all false
set_option maxRecDepth 100000
set_option maxHeartbeats 4000000
/-! YL: what lists keep; is_list. -/
namespace G
open PySem PySem.Spec PyProof.Rows L2 NdefX
abbrev sIsList : Stmt := topS 20
theorem scIsList : FnScope ["value", "most"] ["value", "most"] (defScope sIsList) := ⟨rfl, rfl, rfl, by decide +kernel, rfl, by decide +kernel, by decide +kernel⟩
theorem sqL_keep {K : PySem.W.Frag} {H H' : Hp} {l : Addr} {xs : List V} (s : Same H H') : SqL K H l xs → SqL K H' l xs
  | .inl (.inl h) => .inl (.inl (s _ _ h))
  | .inl (.inr ⟨o, h⟩) => .inl (.inr ⟨o, s _ _ h⟩)
  | .inr h => .inr h
theorem sqT_keep {K : PySem.W.Frag} {H H' : Hp} {l : Addr} {xs : List V} (s : Same H H') : SqT K H l xs → SqT K H' l xs
  | .inl (.inl h) => .inl (.inl (s _ _ h))
  | .inl (.inr ⟨o, h⟩) => .inl (.inr ⟨o, s _ _ h⟩)
  | .inr h => .inr h
def SqLT (K : PySem.W.Frag) (H : Hp) (l : Addr) (xs : List V) : Prop := SqL K H l xs ∨ SqT K H l xs
theorem SqLT.keep {K : PySem.W.Frag} {H H' : Hp} {l : Addr} {xs : List V} (s : Same H H') : SqLT K H l xs → SqLT K H' l xs
  | .inl h => .inl (sqL_keep s h)
  | .inr h => .inr (sqT_keep s h)
def iLT (K : PySem.W.Frag) (tl : TE) : TI := fun σ H R => tl σ H fun x H1 => ∃ a, x = .ref a ∧ (((∃ xs, SqL K H1 a xs) ∧ R (Itl K a) H1) ∨ ((∃ xs, SqT K H1 a xs) ∧ R (Itt K a) H1))
theorem pi_lt {X : Cx} {tg l : Expr} {tl : TE} (hl : PE X l tl) : PI X tg l (iLT X.K tl) := by
  refine ⟨fun pins s σ H R I h => ?_⟩
  refine thn (hl.run pins s σ H _ I h) fun v s1 ⟨x, H1, I1, r1, a, e, k⟩ => ?_
  subst e
  obtain rfl : v = Value.ref a := r1
  have fp : ∀ b ∈ [s1.heap.objs.size], _ := fun b hb => by
    obtain rfl : b = s1.heap.objs.size := by simpa using hb
    exact I1.fpOk (Nat.le_refl _) (I1.hok.fresh (Nat.le_refl _))
  rcases k with ⟨⟨xs, hq⟩, q⟩ | ⟨⟨xs, hq⟩, q⟩
  · obtain ⟨its, rv, pl, _⟩ := I1.list hq
    refine wpAny_pyIter_list pl.isList ⟨s1.heap.objs.size, [s1.heap.objs.size], _, _, H1, rfl, ?_, turn_list a _, ?_, fp, q⟩
    · exact I1.kept (t' := s1.toks) fun b o e => Heap.get?_push_of_some _ e
    · exact ⟨_, Heap.get?_push_size _ rfl, rfl, rfl⟩
  · obtain ⟨its, rv, pl, _⟩ := I1.tuple hq
    refine wpAny_pyIter_tuple (show s1.heap.IsTuple a its.toArray from pl) ⟨s1.heap.objs.size, [s1.heap.objs.size], _, _, H1, rfl, ?_, turn_tuple a _, ?_, fp, q⟩
    · exact I1.kept (t' := s1.toks) fun b o e => Heap.get?_push_of_some _ e
    · exact ⟨_, Heap.get?_push_size _ rfl, rfl, rfl⟩
theorem ne_ifL {A B : Prop} {x y : V} (e : x = y) (h : B) : if (!decide (x = y)) = true then A else B := by
  rw [decide_eq_true e]
  exact iteF h
theorem cutV_take (xs : List V) (k : Nat) : cutV xs none (some (k : Int)) = xs.take k := by
  unfold cutV
  rw [HT.sIx_none, HT.sIx_nat, List.drop_zero, Nat.sub_zero]
  by_cases h : k ≤ xs.length
  · rw [Nat.min_eq_left h]
  · rw [Nat.min_eq_right (by omega), List.take_length, List.take_of_length_le (by omega)]
theorem cutV_fr (xs : List V) (k : Nat) : cutV xs (some (k : Int)) none = xs.drop k := by
  unfold cutV
  rw [HT.sIx_none, HT.sIx_nat]
  by_cases h : k ≤ xs.length
  · rw [Nat.min_eq_left h]
    exact List.take_of_length_le (by rw [List.length_drop]; exact Nat.le_refl _)
  · rw [Nat.min_eq_right (by omega), List.drop_length, List.drop_eq_nil_of_le (by omega), List.take_nil]
theorem eq_ifT {A B : Prop} {x y : V} (e : x = y) (h : A) : if decide (x = y) = true then A else B := by
  rw [decide_eq_true e]
  exact iteT h
theorem eq_ifN {A B : Prop} {x y : V} (e : x ≠ y) (h : B) : if decide (x = y) = true then A else B := by
  rw [decide_eq_false e]
  exact iteF h
def spIsList (K : PySem.W.Frag) : Sp := fun vs H Q _ => ∃ (l : Addr) (n : Nat) (xs : List V), vs = [.ref l, .int (n : Nat)] ∧ SqLT K H l xs ∧ xs.length ≤ n ∧ ∀ H', Same H H' → Q (.bl true) H'
section
variable {P : Program} {w : World} {K : PySem.W.Frag} {mg : Str → Option Value} {base : Heap}
theorem ok_islist {f : Addr} {fd : FuncData} (F : Fun K "is_list" "is_list" sIsList f fd) (mi : mg "isinstance" = none) (ml : mg "len" = none) (mL : mg "list" = none) (mt : mg "tuple" = none) : FnOk P w K mg base CX0 1 f fd ["value", "most"] (spIsList K) := by
  refine F.ok scIsList (fun vs H Q E h => ?_) (fun cdv A outer s H vs Q E hr h => ?_)
  · obtain ⟨l, n, xs, rfl, _⟩ := h
    rfl
  · obtain ⟨l, n, xs, rfl, hx, hl, q⟩ := h
    refine ⟨_, pss_one (ps_ret (pe_and (pe_isiLT (pv 0) (by rfl) mi (pa_cons (pe_bltn (v := .ty "list") (u := .type "list") (by rfl) mL (by decide +kernel) rfl) (pa_cons (pe_bltn (v := .ty "tuple") (u := .type "tuple") (by rfl) mt (by decide +kernel) rfl) pa_nil)))
      (pe_one (pe_cmpR op_le (pe_callB call_len_seq (by rfl) ml PySem.boot_len (pa_cons (pv 0) pa_nil)) (pv 1) (nomark _))))), ?_⟩
    refine ⟨_, rfl, ⟨l, xs, rfl, hx⟩, fun T hT => ⟨_, rfl, iteT ?_⟩⟩
    have sT := Same.new (o := .tup [.ty "list", .ty "tuple"]) hT
    refine ⟨_, rfl, l, xs, rfl, hx.keep sT, _, rfl, _, _, rfl, rfl, ?_⟩
    have e : decide (((xs.length : Nat) : Int) ≤ (n : Int)) = true := decide_eq_true (by omega)
    show Q (.bl (decide (((xs.length : Nat) : Int) ≤ (n : Int)))) _
    rw [e]
    exact q _ sT
end
end G
set_option Elab.async false
set_option linter.all false
set_option maxRecDepth 100000
set_option maxHeartbeats 4000000
/-! YW: need_integer, with_item, without_index. -/
namespace G
open PySem PySem.Spec PyProof.Rows L2 NdefX
abbrev sNeedInt : Stmt := topS 24
abbrev sWith : Stmt := topS 27
abbrev sWout : Stmt := topS 28
theorem scNeedInt : FnScope ["value", "low", "high"] ["value", "low", "high"] (defScope sNeedInt) := ⟨rfl, rfl, rfl, by decide +kernel, rfl, by decide +kernel, by decide +kernel⟩
theorem scWith : FnScope ["items", "index", "item"] ["items", "index", "item"] (defScope sWith) := ⟨rfl, rfl, rfl, by decide +kernel, rfl, by decide +kernel, by decide +kernel⟩
theorem scWout : FnScope ["items", "index"] ["items", "index"] (defScope sWout) := ⟨rfl, rfl, rfl, by decide +kernel, rfl, by decide +kernel, by decide +kernel⟩
theorem ne_ifT {A B : Prop} {x y : V} (e : x ≠ y) (h : A) : if (!decide (x = y)) = true then A else B := by
  rw [decide_eq_false e]
  exact iteT h
def spNeedInt : Sp := fun vs H Q _ => ∃ v lo hi : Int, vs = [.int v, .int lo, .int hi] ∧ lo ≤ v ∧ v ≤ hi ∧ Q .non H
theorem str_beq (a b : Str) : (a == b) = decide (a = b) := by
  by_cases h : a = b
  · rw [decide_eq_true h, h]
    exact beq_self_eq_true _
  · rw [decide_eq_false h]
    exact Bool.eq_false_iff.mpr fun e => h (beq_iff_eq.mp e)
theorem cutV_from (xs : List V) (k : Nat) (h : k ≤ xs.length) : cutV xs (some (k : Int)) none = xs.drop k := by
  unfold cutV
  rw [HT.sIx_none, HT.sIx_nat, Nat.min_eq_left h, List.take_of_length_le]
  rw [List.length_drop]
  exact Nat.le_refl _
theorem cutV_to (xs : List V) (k : Nat) (h : k ≤ xs.length) : cutV xs none (some (k : Int)) = xs.take k := by
  unfold cutV
  rw [HT.sIx_none, HT.sIx_nat, List.drop_zero, Nat.min_eq_left h, Nat.sub_zero]
/-! ### lists with one more, one fewer -/
def insP {α : Type} (ps : List α) (i : Nat) (p : α) : List α := ps.take i ++ p :: ps.drop i
def delP {α : Type} (ps : List α) (i : Nat) : List α := ps.take i ++ ps.drop (i + 1)
theorem insP_perm {α : Type} (ps : List α) (i : Nat) (p : α) : (insP ps i p).Perm (p :: ps) := by
  unfold insP
  refine List.perm_middle.trans ?_
  rw [List.take_append_drop]
theorem delP_perm {α : Type} {ps : List α} {i : Nat} {p : α} (h : ps[i]? = some p) : (p :: delP ps i).Perm ps := by
  obtain ⟨hi, e⟩ := List.getElem?_eq_some_iff.mp h
  unfold delP
  refine List.perm_middle.symm.trans ?_
  rw [← e, ← List.drop_eq_getElem_cons hi, List.take_append_drop]
theorem insP_len {α : Type} (ps : List α) (i : Nat) (p : α) : (insP ps i p).length = ps.length + 1 := by
  rw [(insP_perm ps i p).length_eq, List.length_cons]
theorem delP_len {α : Type} {ps : List α} {i : Nat} (h : i < ps.length) : (delP ps i).length = ps.length - 1 := by
  have e := (delP_perm (List.getElem?_eq_getElem h)).length_eq
  rw [List.length_cons] at e
  omega
theorem insP_map {α β : Type} (f : α → β) (ps : List α) (i : Nat) (p : α) : (insP ps i p).map f = insP (ps.map f) i (f p) := by
  unfold insP
  rw [List.map_append, List.map_cons, List.map_take, List.map_drop]
theorem delP_map {α β : Type} (f : α → β) (ps : List α) (i : Nat) : (delP ps i).map f = delP (ps.map f) i := by
  unfold delP
  rw [List.map_append, List.map_take, List.map_drop]
def spWith : Sp := fun vs H Q _ => ∃ (l : Addr) (xs : List V) (i : Nat) (x : V), vs = [.ref l, .int (i : Nat), x] ∧ H l = some (.lst xs) ∧ i ≤ xs.length ∧ xs.length ≤ 900 ∧ ∀ p H', H p = none → Same H H' → H' p = some (.lst (insP xs i x)) → Q (.ref p) H'
def spWout : Sp := fun vs H Q _ => ∃ (l : Addr) (xs : List V) (i : Nat), vs = [.ref l, .int (i : Nat)] ∧ H l = some (.lst xs) ∧ i < xs.length ∧ xs.length ≤ 900 ∧ ∀ p H', H p = none → Same H H' → H' p = some (.lst (delP xs i)) → Q (.ref p) H'
section
variable {P : Program} {w : World} {K : PySem.W.Frag} {mg : Str → Option Value} {base : Heap} {f C : Addr} {fd : FuncData}
theorem ok_needint {fI : Addr} {fdI : FuncData} (F : Fun K "need_integer" "need_integer" sNeedInt f fd) (gI : mg "is_integer" = some (.ref fI)) (kI : PySem.W.keepIn K (.ref fI) = true) (bI : Binds K fdI ["value", "low", "high"] []) (GI : FnOk P w K mg base CX0 1 fI fdI ["value", "low", "high"] spIsInt) :
    FnOk P w K mg base CX0 2 f fd ["value", "low", "high"] spNeedInt := by
  refine F.ok scNeedInt (fun vs H Q E h => ?_) (fun cdv A outer s H vs Q E hr h => ?_)
  · obtain ⟨v, lo, hi, rfl, _⟩ := h
    rfl
  · obtain ⟨v, lo, hi, rfl, h1, h2, q⟩ := h
    refine ⟨_, pss_one (ps_if (pt_not (pt_val (pe_call GI hr rfl gI kI bI .nil pass0 (pa_cons (pv 0) (pa_cons (pv 1) (pa_cons (pv 2) pa_nil)))))) (pss_one ps_never) pss_nil), ?_⟩
    refine ⟨_, rfl, _, rfl, _, rfl, v, lo, hi, rfl, _, rfl, ?_⟩
    rw [decide_eq_true h1, decide_eq_true h2]
    exact iteF q
theorem ok_with (F : Fun K "with_item" "with_item" sWith f fd) : FnOk P w K mg base CX0 1 f fd ["items", "index", "item"] spWith := by
  refine F.ok scWith (fun vs H Q E h => ?_) (fun cdv A outer s H vs Q E hr h => ?_)
  · obtain ⟨l, xs, i, x, rfl, _⟩ := h
    rfl
  · obtain ⟨l, xs, i, x, rfl, hl, hi, h1, q⟩ := h
    refine ⟨_, pss_one (ps_ret (pe_lst (StX.pa_star (pe_slice (r := rSlL K) sl_list (pv 0) po_none (po_some (pv 1))) (pa_cons (pv 2) (StX.pa_star (pe_slice (r := rSlL K) sl_list (pv 0) (po_some (pv 1)) po_none) pa_nil))))), ?_⟩
    refine ⟨_, rfl, _, rfl, _, rfl, l, xs, rfl, .of hl, fun m1 h3 => ⟨m1, _, rfl, .inr (.of upd_same), _, rfl, _, rfl, _, rfl, _, rfl, l, xs, rfl, .of (Same.new h3 _ _ hl), fun m2 h4 => ⟨m2, _, rfl, .inr (.of upd_same), ?_⟩⟩⟩
    rw [cutV_to xs i hi] at h4
    rw [cutV_to xs i hi, cutV_from xs i hi]
    unfold tNil
    dsimp only
    rw [List.append_nil]
    refine ⟨?_, fun p hp => q p _ ?_ ?_ upd_same⟩
    · have := insP_len xs i x
      unfold insP at this
      rw [this]
      exact Nat.le_of_lt (small1000 (by omega))
    · exact ((Same.new h3).trans (Same.new h4)).free hp
    · exact ((Same.new h3).trans (Same.new h4)).trans (Same.new hp)
theorem ok_wout (F : Fun K "without_index" "without_index" sWout f fd) : FnOk P w K mg base CX0 1 f fd ["items", "index"] spWout := by
  refine F.ok scWout (fun vs H Q E h => ?_) (fun cdv A outer s H vs Q E hr h => ?_)
  · obtain ⟨l, xs, i, rfl, _⟩ := h
    rfl
  · obtain ⟨l, xs, i, rfl, hl, hi, h1, q⟩ := h
    refine ⟨_, pss_one (ps_ret (pe_lst (StX.pa_star (pe_slice (r := rSlL K) sl_list (pv 0) po_none (po_some (pv 1))) (StX.pa_star (pe_slice (r := rSlL K) sl_list (pv 0) (po_some (pe_op op_add (pv 1) pe_int)) po_none) pa_nil)))), ?_⟩
    refine ⟨_, rfl, _, rfl, _, rfl, l, xs, rfl, .of hl, fun m1 h3 => ⟨m1, _, rfl, .inr (.of upd_same), _, rfl, _, rfl, _, _, rfl, rfl, _, rfl, l, xs, rfl, .of (Same.new h3 _ _ hl), fun m2 h4 => ⟨m2, _, rfl, .inr (.of upd_same), ?_⟩⟩⟩
    rw [cutV_to xs i (by omega)] at h4
    rw [cutV_to xs i (by omega), show ((i : Int) + 1) = ((i + 1 : Nat) : Int) by omega, cutV_from xs (i + 1) (by omega)]
    unfold tNil
    dsimp only
    rw [List.append_nil]
    refine ⟨?_, fun p hp => q p _ ?_ ?_ upd_same⟩
    · have := delP_len hi
      unfold delP at this
      rw [this]
      exact Nat.le_of_lt (small1000 (by omega))
    · exact ((Same.new h3).trans (Same.new h4)).free hp
    · exact ((Same.new h3).trans (Same.new h4)).trans (Same.new hp)
end
structure WiWo (P : Program) (w : World) (K : PySem.W.Frag) (mg : Str → Option Value) (base : Heap) (fW fO : Addr) (fdW fdO : FuncData) : Prop where
  gW : mg "with_item" = some (.ref fW)
  kW : PySem.W.keepIn K (.ref fW) = true
  bW : Binds K fdW ["items", "index", "item"] []
  GW : FnOk P w K mg base CX0 1 fW fdW ["items", "index", "item"] spWith
  gO : mg "without_index" = some (.ref fO)
  kO : PySem.W.keepIn K (.ref fO) = true
  bO : Binds K fdO ["items", "index"] []
  GO : FnOk P w K mg base CX0 1 fO fdO ["items", "index"] spWout
end G
set_option Elab.async false
set_option linter.all false
set_option maxRecDepth 100000
set_option maxHeartbeats 4000000
/-! Y2: drawn names. -/
namespace G
open PySem PySem.Spec PyProof.Rows L2
abbrev sNames : Stmt := topS 43
abbrev nNames : List Str := ["_law_box_here", "_law_many", "_law_letters", "_law_found", "_law_k", "_law_stem", "_law_at", "_law_size", "_law_first", "_law_step", "_law_more", "_law_unlike"]
theorem scNames : FnScope nNames ["_law_box_here", "_law_many"] (defScope sNames) := ⟨rfl, rfl, rfl, by decide +kernel, rfl, by decide +kernel, by decide +kernel⟩
/-- x * 0 -/
theorem op_mulZ {X : Cx} : OpR X (binaryOp .Mult) (fun x y H Q => ∃ z : Str, x = .str z ∧ y = .int 0 ∧ Q (.str Str.empty) H) := by
  intro pins s σ H x y v u Q I rx ry h
  obtain ⟨z, rfl, rfl, q⟩ := h
  obtain ⟨t, rfl⟩ := rx
  obtain ⟨t', rfl⟩ := ry
  exact PySem.P.mul_str_none (by decide) (by decide) ⟨.str Str.empty, H, I.tok _, ⟨_, rfl⟩, q⟩
theorem cs_join0 : ∀ ys : List Str, cs (Txt.join "" ys) = (ys.map cs).flatten := fun ys => by
  rw [TL.join_eq]
  refine (TL.tl_join "" ys).trans ?_
  have e : TL.tl ("" : Str) = [] := by decide
  rw [e]
  induction ys with
  | nil => rfl
  | cons y ys ih =>
    cases ys with
    | nil => simp [TL.joinL, cs, TL.tl]
    | cons x xs =>
      have h : TL.joinL [] ((y :: x :: xs).map TL.tl) = TL.tl y ++ ([] ++ TL.joinL [] ((x :: xs).map TL.tl)) := by simp [TL.joinL]
      rw [h, ih]
      rfl
theorem join_one {ys : List Str} (h1 : ∀ y ∈ ys, y.length = 1) (hl : ∀ y ∈ ys, LowZ y) : LowZ (Txt.join "" ys) ∧ (Txt.join "" ys).length = ys.length := by
  constructor
  · intro c hc
    rw [cs_join0] at hc
    obtain ⟨l, hl1, hm⟩ := List.mem_flatten.mp hc
    obtain ⟨y, hy, rfl⟩ := List.mem_map.mp hl1
    exact hl y hy c hm
  · rw [← cs_len, cs_join0]
    clear hl
    induction ys with
    | nil => rfl
    | cons y ys ih =>
      rw [List.map_cons, List.flatten_cons, List.length_append, ih fun z hz => h1 z (List.mem_cons_of_mem _ hz), cs_len, h1 y List.mem_cons_self, List.length_cons]
      omega
theorem sum_one {ys : List Str} (h1 : ∀ y ∈ ys, y.length = 1) : (ys.map (·.length)).sum = ys.length := by
  induction ys with
  | nil => rfl
  | cons y ys ih =>
    rw [List.map_cons, List.sum_cons, ih fun z hz => h1 z (List.mem_cons_of_mem _ hz), h1 y List.mem_cons_self, List.length_cons]
    omega
theorem cut_mid (z : Str) (a b : Nat) : cs (cutS z (some (a : Int)) (some (b : Int))) = ((cs z).drop a).take (b - a) := by
  show ((cs z).drop (HT.sIx z.length 0 (some (a : Int)))).take (HT.sIx z.length z.length (some (b : Int)) - HT.sIx z.length 0 (some (a : Int))) = _
  rw [HT.sIx_nat z.length 0 a, HT.sIx_nat z.length z.length b, ← cs_len]
  by_cases h : a ≤ (cs z).length
  · rw [Nat.min_eq_left h]
    by_cases h2 : b ≤ (cs z).length
    · rw [Nat.min_eq_left h2]
    · rw [Nat.min_eq_right (by omega), List.take_of_length_le (by rw [List.length_drop]; omega), List.take_of_length_le (by rw [List.length_drop]; omega)]
  · rw [Nat.min_eq_right (show (cs z).length ≤ a by omega), List.drop_length, List.drop_eq_nil_of_le (by omega)]
    rw [List.take_nil, List.take_nil]
/-- how the i-th name is written -/
def FormY (P R : List Nat) (bg st i : Nat) (y : Str) : Prop := cs y = P ++ (97 + (bg + st * i) % 26) :: R
theorem formY_inj {P R : List Nat} {bg st i j : Nat} {y : Str} (hc : Cop st) (hi : i < 26) (hj : j < 26) (h1 : FormY P R bg st i y) (h2 : FormY P R bg st j y) : i = j := by
  unfold FormY at h1 h2
  rw [h1] at h2
  have e2 := List.append_cancel_left h2
  injection e2 with e3 _
  have := cop_inj (i := i) (j := j) hc (by omega : (bg + st * i) % 26 = (bg + st * j) % 26)
  omega
def spNamesD : Sp := fun vs H Q _ => ∃ (b : Addr) (m n : Nat), vs = [.ref b, .int (m : Int)] ∧ BoxAt H b n ∧ n ≤ 50000 ∧ m ≤ 26 ∧
  ∀ (p : Addr) (H' : Hp) (zs : List Str), zs.length = m → (∀ z ∈ zs, NameZ z) → zs.Nodup → H p = none → H' p = some (.lst (zs.map V.str)) → BoxAt H' b (n + 11) → But b H H' → Q (.ref p) H'
section
variable {P : Program} {w : World} {K : PySem.W.Frag} {mg : Str → Option Value} {base : Heap}
theorem ok_namesD {f fT : Addr} {fd fdT : FuncData} (F : Fun K "_law_names" "_law_names" sNames f fd) (GT : FnOk P w K mg base CX0 1 fT fdT ["_law_box_here", "_law_many"] spTake) (kT : PySem.W.keepIn K (.ref fT) = true) (bT : Binds K fdT ["_law_box_here", "_law_many"] []) (gT : mg "_law_take" = some (.ref fT))
    (mr : mg "range" = none) (mm : mg "min" = none) : FnOk P w K mg base CX0 2 f fd ["_law_box_here", "_law_many"] spNamesD := by
  refine F.ok scNames (fun vs H Q E h => ?_) (fun cdv A outer s H vs Q E hr h => ?_)
  · obtain ⟨b, m, n, rfl, _⟩ := h
    rfl
  · obtain ⟨b, m, n, rfl, B, hn, hm, q⟩ := h
    have hr1 := hr.mono (show 1 ≤ 1 by decide)
    refine ⟨_, pss_cons (ps_asg (pe_tup (pa_cons pe_str (pa_cons (pe_lst pa_nil) pa_nil)))
        (pg_tup (by rfl) (pgs_cons (pg_name (i := 2) scNames.nd rfl (.inr rfl)) (pgs_cons (pg_name (i := 3) scNames.nd rfl (.inl rfl)) pgs_nil))))
      (pss_cons (ps_set (i := 5) scNames.nd rfl (.inl rfl) (pe_m1 PySem.F.slot_str_join PySem.F.type_str_join mt_join pe_str (pe_lc (own := [("_law_k", 4)]) (g := gName 4) (tt := tYes) (by rfl) scNames.nd (pi_range1 rfl mr (pa_cons pe_int pa_nil))
          (blkOk_by (own := [("_law_k", 4)]) (N := nNames) (sc := defScope sNames) (by decide +kernel)) (fun _ _ _ _ _ => pg_name (i := 4) scNames.nd rfl (.inl rfl)) (fun _ _ _ _ _ => pts_nil)
          (fun _ _ _ _ _ => pe_item_str (pv 2) (pe_call GT hr1 rfl gT kT bT .nil pass0 (pa_cons (pv 0) (pa_cons pe_int pa_nil))) (fun _ _ => rfl)))))
      (pss_cons (ps_par3 (i := 6) (j := 7) (l := 8) (by rfl) scNames.nd rfl rfl rfl (by decide) (by decide) (by decide) rfl rfl rfl (pa_cons (pe_call GT hr1 rfl gT kT bT .nil pass0 (pa_cons (pv 0) (pa_cons pe_int pa_nil))) (pa_cons (pe_op op_add pe_int (pe_call GT hr1 rfl gT kT bT .nil pass0 (pa_cons (pv 0) (pa_cons pe_int pa_nil)))) (pa_cons (pe_call GT hr1 rfl gT kT bT .nil pass0 (pa_cons (pv 0) (pa_cons pe_int pa_nil))) pa_nil))) (by rfl))
      (pss_cons (ps_set (i := 9) scNames.nd rfl (.inl rfl) (pe_ix ix_list (pe_lst (pa_cons pe_int (pa_cons pe_int (pa_cons pe_int (pa_cons pe_int (pa_cons pe_int (pa_cons pe_int (pa_cons pe_int (pa_cons pe_int pa_nil)))))))))
          (pe_call GT hr1 rfl gT kT bT .nil pass0 (pa_cons (pv 0) (pa_cons pe_int pa_nil))) (fun _ _ => rfl)))
      (pss_cons (ps_for PassesOwn.never rfl (pi_range1 rfl mr (pa_cons (pv 1) pa_nil)) (pg_name (i := 4) scNames.nd rfl (.inl rfl))
        (pss_cons (ps_set (i := 10) scNames.nd rfl (.inl rfl) (pe_op op_mulZ (pe_item_str (pv 2) (pe_op op_mod (pe_op op_add (pv 8) (pe_op op_fdiv (pv 4) pe_int)) pe_int) (fun _ _ => rfl)) (pe_op op_fdiv (pv 4) pe_int)))
        (pss_cons (ps_set (i := 11) scNames.nd rfl (.inl rfl) (pe_op op_add_str (pe_item_str (pv 2) (pe_op op_mod (pe_op op_add (pv 8) (pe_op op_mul (pv 9) (pv 4))) pe_int) (fun _ _ => rfl)) (pv 10)))
        (pss_one (ps_expr (pe_bm PySem.F.plainAttrs_list PySem.F.slot_list_append PySem.F.type_list_append mt_append (pv 3) (pa_cons
          (pe_op op_add_str (pe_op op_add_str (pe_slice sl_str (pv 5) po_none (po_some (pe_callB (call_min2 rfl) (by rfl) mm (by decide +kernel) (pa_cons (pv 6) (pa_cons (pv 7) pa_nil))))) (pv 11)) (pe_slice sl_str (pv 5) (po_some (pv 6)) (po_some (pv 7)))) pa_nil)))))))
      (pss_one (ps_ret (pv 3))))))), ?_⟩
    refine ⟨(by decide), fun D hD => ⟨(by show 2 ≤ sizeLine; decide), fun p hp => ?_⟩⟩
    have nD := box_ne B hD
    have np := box_ne (box_new B hD) hp
    have nDp : D ≠ p := ne_of_none upd_same hp
    have fp : H p = none := (upd_ne nDp.symm).symm.trans hp
    refine ⟨p, _, rfl, .of upd_same, rfl, _, _, rfl, _, _, rfl, rfl, ?_⟩
    have B1 : BoxAt (upd (upd H D (.lst [])) p (.tup [.str "abcdefghijklmnopqrstuvwxyz", .ref D])) b n := box_new (box_new B hD) hp
    have k1 : But b H (upd (upd H D (.lst [])) p (.tup [.str "abcdefghijklmnopqrstuvwxyz", .ref D])) := (But.new hD).trans (But.new hp)
    have e1 : (upd (upd H D (.lst [])) p (.tup [.str "abcdefghijklmnopqrstuvwxyz", .ref D])) D = some (.lst []) := (upd_ne nDp).trans upd_same
    generalize upd (upd H D (.lst [])) p (.tup [.str "abcdefghijklmnopqrstuvwxyz", .ref D]) = H1 at B1 k1 e1 ⊢
    refine ⟨⟨_, rfl⟩, _, rfl, by decide, by decide, fun L hL => ?_⟩
    have nL := box_ne B1 hL
    have nDL : D ≠ L := ne_of_none e1 hL
    refine lc_range (lo := 0) (n := 7) (fun i H3 => ∃ ys : List Str, H3 L = some (.lst (ys.map V.str)) ∧ ys.length = i ∧ (∀ y ∈ ys, y.length = 1) ∧ (∀ y ∈ ys, LowZ y) ∧ BoxAt H3 b (n + i) ∧ But b H1 H3) ?_ ?_ ?_
    · exact ⟨[], upd_same, rfl, (fun y h => nomatch h), (fun y h => nomatch h), box_new B1 hL, But.new hL⟩
    · rintro i H3 hi ⟨ys, e3, l3, o3, z3, B3, k3⟩
      refine ⟨rfl, ?_⟩
      unfold tYes
      dsimp only
      rw [if_pos rfl]
      refine ⟨_, rfl, _, rfl, b, 26, n + i, rfl, B3, by omega, by decide, by decide, fun r H4 r0 r1 B4 k4 => ?_⟩
      obtain ⟨j, rfl, hj⟩ := draw_at (n := 26) r0 r1 rfl
      obtain ⟨c, hc, c97⟩ := abc_at hj
      refine ⟨_, _, c, rfl, rfl, by omega, by omega, (show ((j : Nat) : Int) < ((26 : Nat) : Int) by omega), hc, ?_⟩
      refine ⟨_, k4 _ _ nL e3, ?_, ys ++ [⟨#[c]⟩], ?_, ?_, ?_, ?_, ?_, ?_⟩
      · rw [List.length_map]
        exact small1000 (by omega)
      · rw [upd_same, List.map_append]
        rfl
      · rw [List.length_append, l3]
        rfl
      · intro y hy
        rcases List.mem_append.mp hy with hy | hy
        · exact o3 y hy
        · rw [List.mem_singleton.mp hy]
          rfl
      · intro y hy
        rcases List.mem_append.mp hy with hy | hy
        · exact z3 y hy
        · rw [List.mem_singleton.mp hy]
          exact low_one c97
      · exact box_upd B4 nL
      · exact but_upd (k3.trans k4) hL
    rintro H3 ⟨ys, e3, l3, o3, z3, B3, k3⟩
    refine ⟨_, L, ys, rfl, rfl, .inl (.of e3), ?_, ?_⟩
    · rw [sum_one o3, l3]
      decide
    obtain ⟨zl, zn⟩ := join_one o3 z3
    rw [l3] at zn
    generalize Txt.join "" ys = z at zl zn
    have e3D := k3 _ _ nD e1
    have k03 := k1.trans k3
    refine ⟨_, rfl, b, 7, n + 7, rfl, B3, by omega, by decide, by decide, fun ra H4 a0 a1 B4 k4 => ?_⟩
    obtain ⟨a, rfl, ha⟩ := draw_at (n := 7) a0 a1 rfl
    refine ⟨_, rfl, b, 6, n + 7 + 1, rfl, B4, by omega, by decide, by decide, fun rb H5 b0 b1 B5 k5 => ?_⟩
    obtain ⟨sz, rfl, hsz⟩ := draw_at (n := 6) b0 b1 rfl
    refine ⟨_, _, rfl, rfl, ?_⟩
    refine ⟨_, rfl, b, 26, n + 7 + 1 + 1, rfl, B5, by omega, by decide, by decide, fun rc H6 c0 c1 B6 k6 => ?_⟩
    obtain ⟨bg, rfl, hbg⟩ := draw_at (n := 26) c0 c1 rfl
    refine ⟨_, _, _, rfl, ?_⟩
    have B7 : BoxAt H6 b (n + 10) := B6
    have k7 : But b H3 H6 := (k4.trans k5).trans k6
    generalize H6 = H7 at B7 k7 ⊢
    refine ⟨(by show 8 ≤ sizeLine; decide), fun p3 hp3 => ?_⟩
    have np3 := box_ne B7 hp3
    refine ⟨_, rfl, b, 8, n + 10, rfl, box_new B7 hp3, by omega, by decide, by decide, fun rd H8 d0 d1 B8 k8 => ?_⟩
    obtain ⟨j, rfl, hj⟩ := draw_at (n := 8) d0 d1 rfl
    have e8 := k8 _ _ np3 upd_same
    obtain ⟨st, hst, cop⟩ : ∃ st : Nat, ([.int 1, .int 3, .int 5, .int 7, .int 9, .int 11, .int 15, .int 17] : List V)[j]? = some (.int (st : Int)) ∧ Cop st := by
      match j, hj with
      | 0, _ => exact ⟨1, rfl, by unfold Cop; decide⟩
      | 1, _ => exact ⟨3, rfl, by unfold Cop; decide⟩
      | 2, _ => exact ⟨5, rfl, by unfold Cop; decide⟩
      | 3, _ => exact ⟨7, rfl, by unfold Cop; decide⟩
      | 4, _ => exact ⟨9, rfl, by unfold Cop; decide⟩
      | 5, _ => exact ⟨11, rfl, by unfold Cop; decide⟩
      | 6, _ => exact ⟨15, rfl, by unfold Cop; decide⟩
      | 7, _ => exact ⟨17, rfl, by unfold Cop; decide⟩
    have hst17 := cop_le cop
    refine ⟨p3, _, _, .int (st : Int), rfl, rfl, .of e8, atI_nat hst, ?_⟩
    have k38 : But b H3 H8 := (k7.trans (But.new hp3)).trans k8
    have e8D := k38 _ _ nD e3D
    have k08 := k03.trans k38
    have fD : H D = none := hD
    refine ⟨_, rfl, _, rfl, by omega, by omega, ?_⟩
    rw [Int.toNat_natCast m]
    refine for_range (lo := 0) (n := m) (fun i σ H9 => ∃ (zs : List Str) (x4 x10 x11 : Option V), σ = [some (.ref b), some (.int (m : Int)), some (.str abc), some (.ref D), x4, some (.str z), some (.int (a : Int)), some (.int (1 + (sz : Int))), some (.int (bg : Int)), some (.int (st : Int)), x10, x11] ∧
      H9 D = some (.lst (zs.map V.str)) ∧ zs.length = i ∧ (∀ y ∈ zs, NameZ y) ∧ (∀ (k : Nat) (y : Str), zs[k]? = some y → FormY ((cs z).take (min a (1 + sz))) (((cs z).drop a).take (1 + sz - a)) bg st k y) ∧ BoxAt H9 b (n + 11) ∧ But b H H9) ?_ ?_ ?_
    · exact ⟨[], none, none, none, rfl, e8D, rfl, (fun y h => nomatch h), (fun k y h => nomatch h), B8, k08⟩
    · rintro i σ H9 hi ⟨zs, x4, x10, x11, rfl, e9, hlz, hy, hf, B9, k9⟩
      have i0 : (0 + (i : Int)) / 26 = 0 := by omega
      have r1 := emod_in ((bg : Int) + (0 + (i : Int)) / 26) 26 (by decide)
      obtain ⟨j1, ej1, hj1⟩ := draw_at r1.1 r1.2 (n := 26) rfl
      obtain ⟨c1, hc1, _⟩ := abc_at hj1
      have r2 := emod_in ((bg : Int) + (st : Int) * (0 + (i : Int))) 26 (by decide)
      obtain ⟨j2, ej2, hj2⟩ := draw_at r2.1 r2.2 (n := 26) rfl
      obtain ⟨c2, hc2, c97⟩ := abc_at hj2
      have code := abc_code hj2 hc2 (n := (bg + st * i) % 26) (by
        have e : ((bg : Int) + (st : Int) * (0 + (i : Int))) = ((bg + st * i : Nat) : Int) := by
          rw [Int.zero_add]
          push_cast
          rfl
        rw [e] at ej2
        omega)
      have lo := low_one c97
      have m1 : (min a (1 + sz)) ≤ 7 := by omega
      have cm : (if (1 + (sz : Int)) < (a : Int) then (1 + (sz : Int)) else (a : Int)) = ((min a (1 + sz) : Nat) : Int) := by
        split <;> omega
      have cl := cut_len z (min a (1 + sz))
      have c1z : cs (cutS z none (some ((min a (1 + sz) : Nat) : Int))) = (cs z).take (min a (1 + sz)) := cut_first z _
      have c2z : cs (cutS z (some (a : Int)) (some ((1 + sz : Nat) : Int))) = ((cs z).drop a).take (1 + sz - a) := cut_mid z a (1 + sz)
      have l2 : (cutS z (some (a : Int)) (some ((1 + sz : Nat) : Int))).length ≤ 7 := by
        rw [← cs_len, c2z, List.length_take, List.length_drop, cs_len]
        omega
      have l2b : (cutS z none (some ((min a (1 + sz) : Nat) : Int))).length + (cutS z (some (a : Int)) (some ((1 + sz : Nat) : Int))).length ≤ 7 := by
        rw [cl, ← cs_len (cutS z (some (a : Int)) _), c2z, List.length_take, List.length_drop, cs_len]
        omega
      have low1 := zl.cut none (some ((min a (1 + sz) : Nat) : Int))
      have low2 := zl.cut (some (a : Int)) (some ((1 + sz : Nat) : Int))
      refine ⟨_, rfl, _, rfl, _, rfl, _, _, rfl, rfl, ⟨by decide, by decide⟩, _, _, rfl, rfl, ?_⟩
      refine ⟨_, _, rfl, rfl, (by show (0 : Int) < 26; decide), ?_⟩
      refine ⟨_, _, c1, rfl, rfl, r1.1, by omega, (show _ < ((26 : Nat) : Int) by omega), (by rw [ej1]; exact hc1), ?_⟩
      refine ⟨_, rfl, _, _, rfl, rfl, ⟨by decide, by decide⟩, _, rfl, congrArg V.int i0, ?_⟩
      refine ⟨_, rfl, _, rfl, _, rfl, _, rfl, _, _, rfl, rfl, .inl ⟨by omega, by omega⟩, _, _, rfl, rfl, _, _, rfl, rfl, (by show (0 : Int) < 26; decide), ?_⟩
      refine ⟨_, _, c2, rfl, rfl, r2.1, by omega, (show _ < ((26 : Nat) : Int) by omega), (by rw [ej2]; exact hc2), ?_⟩
      refine ⟨_, rfl, _, _, rfl, rfl, (by show 1 + 0 ≤ sizeLine; decide), ?_⟩
      rw [show (⟨#[c2]⟩ : Str) ++ Str.empty = ⟨#[c2]⟩ from TL.ext_tl ((cs_app _ _).trans (List.append_nil _))]
      have len1 : (⟨#[c2]⟩ : Str).length = 1 := rfl
      generalize (⟨#[c2]⟩ : Str) = lt at lo len1 code ⊢
      refine ⟨_, rfl, .inl ⟨rfl, _, .of e9⟩, ?_⟩
      refine ⟨_, rfl, _, rfl, _, rfl, _, _, rfl, ?_⟩
      rw [cm]
      refine ⟨_, rfl, z, rfl, small_size (by omega), _, rfl, _, _, rfl, rfl, small_size (by omega), ?_⟩
      refine ⟨_, rfl, _, rfl, _, rfl, _, rfl, ?_⟩
      rw [show (1 + (sz : Int)) = ((1 + sz : Nat) : Int) by omega]
      refine ⟨_, rfl, z, rfl, small_size (by omega), _, _, rfl, rfl, ?_, ?_⟩
      · rw [app_len]
        exact small_size (by omega)
      refine ⟨D, _, _, rfl, rfl, e9, ?_, ?_⟩
      · rw [List.length_map]
        exact small1000 (by omega)
      have ny : NameZ (cutS z none (some ((min a (1 + sz) : Nat) : Int)) ++ lt ++ cutS z (some (a : Int)) (some ((1 + sz : Nat) : Int))) := by
        refine ⟨(low1.app lo).app low2, ?_, ?_⟩
        · rw [app_len, app_len]
          omega
        · rw [app_len, app_len]
          omega
      have fy : FormY ((cs z).take (min a (1 + sz))) (((cs z).drop a).take (1 + sz - a)) bg st i (cutS z none (some ((min a (1 + sz) : Nat) : Int)) ++ lt ++ cutS z (some (a : Int)) (some ((1 + sz : Nat) : Int))) := by
        unfold FormY
        rw [cs_app, cs_app, c1z, c2z, code, List.append_assoc]
        rfl
      revert ny fy
      generalize (cutS z none (some ((min a (1 + sz) : Nat) : Int)) ++ lt ++ cutS z (some (a : Int)) (some ((1 + sz : Nat) : Int))) = y
      intro ny fy
      refine ⟨zs ++ [y], _, _, _, rfl, ?_, ?_, fun v hv => ?_, form_app hlz hf fy, box_upd B9 nD, but_upd k9 fD⟩
      · rw [upd_same, List.map_append]
        rfl
      · rw [List.length_append, hlz]
        rfl
      · rcases List.mem_append.mp hv with hv | hv
        · exact hy v hv
        · rw [List.mem_singleton.mp hv]
          exact ny
    · rintro σ H9 ⟨zs, x4, x10, x11, rfl, e9, hlz, hy, hf, B9, k9⟩
      refine ⟨_, rfl, q D H9 zs hlz hy ?_ fD e9 B9 k9⟩
      refine nodup_at fun i j y h1 h2 => ?_
      have i1 := (List.getElem?_eq_some_iff.mp h1).1
      have j1 := (List.getElem?_eq_some_iff.mp h2).1
      exact formY_inj cop (by omega) (by omega) (hf i y h1) (hf j y h2)
end
end G
set_option Elab.async false
set_option linter.all false
set_option maxRecDepth 100000
set_option maxHeartbeats 4000000
/-! Y3: items of a change as data; drawn rows. -/
namespace G
open PySem PySem.Spec PyProof.Rows L2
/-- a row: a name, or a header -/
abbrev Rw := Sum Str (List Int)
/-- an item: an old index, or a row that comes -/
abbrev Tm := Sum Int Rw
def encR : Rw → PyData
  | .inl z => .str z
  | .inr js => .tuple [.str "group", .tuple (js.map .int)]
def encT : Tm → PyData
  | .inl i => .int i
  | .inr r => encR r
theorem lay_intsT (k : List Int) : PyData.canLayAll0 (k.map PyData.int) = true := by
  induction k with
  | nil => simp [PyData.canLayAll0]
  | cons a k ih => simp [PyData.canLayAll0, PyData.canLay0, ih]
theorem eqv_ints : ∀ ns ms : List Int, PyData.eqvAll (ns.map PyData.int) (ms.map PyData.int) = decide (ns = ms) := fun ns => by
  induction ns with
  | nil =>
    intro ms
    cases ms with
    | nil => simp [PyData.eqvAll]
    | cons m ms => simp [PyData.eqvAll]
  | cons n ns ih =>
    intro ms
    cases ms with
    | nil => simp [PyData.eqvAll]
    | cons m ms =>
      simp only [List.map_cons, PyData.eqvAll, PyData.eqv, ih]
      by_cases h : n = m
      · subst h
        simp
      · simp [h]
theorem encR_eqv : ∀ a b : Rw, PyData.eqv (encR a) (encR b) = decide (a = b)
  | .inl y, .inl z => by
    simp only [encR, PyData.eqv]
    rw [str_beq]
    simp
  | .inl y, .inr k => by simp [encR, PyData.eqv]
  | .inr j, .inl z => by simp [encR, PyData.eqv]
  | .inr j, .inr k => by
    simp only [encR, PyData.eqv, PyData.eqvAll, eqv_ints]
    simp
theorem encT_eqv : ∀ a b : Tm, PyData.eqv (encT a) (encT b) = decide (a = b)
  | .inl i, .inl j => by
    simp only [encT, PyData.eqv]
    by_cases h : i = j
    · subst h
      simp
    · simp [h]
  | .inl i, .inr r => by
    cases r <;> simp [encT, encR, PyData.eqv]
  | .inr r, .inl i => by
    cases r <;> simp [encT, encR, PyData.eqv]
  | .inr a, .inr b => by
    simp only [encT, encR_eqv]
    simp
theorem encT_in {x : Tm} : ∀ {xs : List Tm}, x ∈ xs → ((xs.map encT).any fun z => PyData.eqv z (encT x)) = true
  | y :: ys, h => by
    rw [List.map_cons, List.any_cons, encT_eqv, Bool.or_eq_true]
    rcases List.mem_cons.mp h with rfl | h
    · exact .inl (decide_eq_true rfl)
    · exact .inr (encT_in h)
theorem encT_out {x : Tm} : ∀ {xs : List Tm}, x ∉ xs → ((xs.map encT).any fun z => PyData.eqv z (encT x)) = false
  | [], _ => rfl
  | y :: ys, h => by
    rw [List.map_cons, List.any_cons, encT_eqv, encT_out fun z => h (List.mem_cons_of_mem _ z), decide_eq_false fun z => h (by rw [z]; exact List.mem_cons_self)]
    rfl
theorem depth_intsT (k : List Int) : PyData.depthAll (k.map PyData.int) = 0 := by
  induction k with
  | nil => rfl
  | cons a k ih => simp [PyData.depthAll, PyData.depth, ih]
theorem grp_lay : PyData.strOk "group" = true := by decide +kernel
/-- what a row of a change may be -/
def RwOk : Rw → Prop
  | .inl z => NameZ z
  | .inr js => 1 ≤ js.length ∧ js.length ≤ 3 ∧ ∀ j ∈ js, -9999 ≤ j ∧ j ≤ 9999
def TmOk (x : Tm) : Prop := ∀ r, x = .inr r → RwOk r
theorem encT_lay : ∀ {x : Tm}, TmOk x → lay (encT x)
  | .inl i, _ => ⟨rfl, rfl, Nat.zero_le _⟩
  | .inr (.inl z), h => (h _ rfl).1.lay
  | .inr (.inr js), h => by
    refine ⟨?_, ?_, ?_⟩
    · have e : ∀ js : List Int, PyData.hasDictAll (js.map PyData.int) = false := fun js => by
        induction js with
        | nil => rfl
        | cons a js ih => simp [PyData.hasDictAll, PyData.hasDict, ih]
      simp [encT, encR, PyData.hasDict, PyData.hasDictAll, e]
    · simp [encT, encR, PyData.canLay0, PyData.canLayAll0, lay_intsT]
      exact grp_lay
    · simp [encT, encR, PyData.depth, PyData.depthAll, depth_intsT]
theorem encT_shaped {x : Tm} (h : TmOk x) : SeqAt.shaped (encT x) = true := lay_shaped (encT_lay h)
theorem encTs_shaped {xs : List Tm} (h : ∀ x ∈ xs, TmOk x) : SeqAt.shaped (.list (xs.map encT)) = true := lay_list fun d hd => by
  obtain ⟨x, hx, rfl⟩ := List.mem_map.mp hd
  exact encT_lay (h x hx)
/-- v stands for the item -/
def TmAt (H : Hp) (v : V) : Tm → Prop
  | .inl i => v = .int i
  | .inr (.inl z) => v = .str z
  | .inr (.inr js) => ∃ t u, v = .ref t ∧ H t = some (.tup [.str "group", .ref u]) ∧ H u = some (.tup (js.map V.int))
theorem TmAt.same {H H' : Hp} (s : Same H H') {v : V} : ∀ {x : Tm}, TmAt H v x → TmAt H' v x
  | .inl _, h => h
  | .inr (.inl _), h => h
  | .inr (.inr _), ⟨t, u, e, a, b⟩ => ⟨t, u, e, s _ _ a, s _ _ b⟩
theorem box_tup {H : Hp} {b t : Addr} {n : Nat} {xs : List V} (B : BoxAt H b n) (e : H t = some (.tup xs)) : t ≠ b := fun z => by
  obtain ⟨_, _, _, eb, _⟩ := B
  rw [z, eb] at e
  cases e
theorem TmAt.but {H H' : Hp} {b : Addr} {n : Nat} (B : BoxAt H b n) (k : But b H H') {v : V} : ∀ {x : Tm}, TmAt H v x → TmAt H' v x
  | .inl _, h => h
  | .inr (.inl _), h => h
  | .inr (.inr _), ⟨t, u, e, a, c⟩ => ⟨t, u, e, k _ _ (box_tup B a) a, k _ _ (box_tup B c) c⟩
theorem TmAt.rp {K : PySem.W.Frag} {H : Hp} {v : V} : ∀ {x : Tm}, TmAt H v x → Rp K H v (encT x)
  | .inl i, h => by
    cases h
    exact .int i
  | .inr (.inl z), h => by
    cases h
    exact .str z
  | .inr (.inr js), ⟨t, u, e, a, c⟩ => by
    cases e
    exact .tup a (.cons (.str _) (.cons (.tup c (rp_ints js)) .nil))
theorem TmAt.dp {K : PySem.W.Frag} {H : Hp} {v : V} {x : Tm} (h : TmAt H v x) (ok : TmOk x) : Dp K H v (encT x) := rp_dp _ _ (encT_lay ok).1 h.rp
/-- values and the items that they stand for -/
abbrev Pm := V × Tm
def PsAt (H : Hp) (ps : List Pm) : Prop := ∀ p ∈ ps, TmAt H p.1 p.2
abbrev vls (ps : List Pm) : List V := ps.map (·.1)
abbrev kys (ps : List Pm) : List Tm := ps.map (·.2)
theorem PsAt.same {H H' : Hp} (s : Same H H') {ps : List Pm} (h : PsAt H ps) : PsAt H' ps := fun p hp => (h p hp).same s
theorem PsAt.but {H H' : Hp} {b : Addr} {n : Nat} (B : BoxAt H b n) (k : But b H H') {ps : List Pm} (h : PsAt H ps) : PsAt H' ps := fun p hp => (h p hp).but B k
theorem PsAt.sub {H : Hp} {ps qs : List Pm} (h : PsAt H ps) (s : ∀ q ∈ qs, q ∈ ps) : PsAt H qs := fun q hq => h q (s q hq)
theorem PsAt.app {H : Hp} {ps qs : List Pm} (h : PsAt H ps) (g : PsAt H qs) : PsAt H (ps ++ qs) := fun q hq => (List.mem_append.mp hq).elim (h q) (g q)
theorem kys_ok {ps : List Pm} (ok : ∀ x ∈ kys ps, TmOk x) : ∀ p ∈ ps, TmOk p.2 := fun p hp => ok _ (List.mem_map_of_mem hp)
theorem PsAt.dps {K : PySem.W.Frag} {H : Hp} : ∀ {ps : List Pm}, PsAt H ps → (∀ x ∈ kys ps, TmOk x) → DpAll K H (vls ps) ((kys ps).map encT)
  | [], _, _ => .nil
  | p :: ps, h, ok => .cons ((h p List.mem_cons_self).dp (ok p.2 List.mem_cons_self)) (PsAt.dps (fun q hq => h q (List.mem_cons_of_mem _ hq)) fun x hx => ok x (List.mem_cons_of_mem _ hx))
theorem PsAt.rps {K : PySem.W.Frag} {H : Hp} : ∀ {ps : List Pm}, PsAt H ps → RpAll K H (vls ps) ((kys ps).map encT)
  | [], _ => .nil
  | p :: ps, h => .cons (h p List.mem_cons_self).rp (PsAt.rps fun q hq => h q (List.mem_cons_of_mem _ hq))
/-! ### rows drawn -/
abbrev sRows : Stmt := topS 44
abbrev nRows : List Str := ["_law_box_here", "_law_many", "_law_found", "_law_at", "_law_k"]
theorem scRows : FnScope nRows ["_law_box_here", "_law_many"] (defScope sRows) := ⟨rfl, rfl, rfl, by decide +kernel, rfl, by decide +kernel, by decide +kernel⟩
/-- the i-th drawn row, of the i-th name -/
def RowN (zs : List Str) (i : Nat) (x : Tm) : Prop := (∃ z, zs[i]? = some z ∧ x = .inr (.inl z)) ∨ ∃ js : List Int, x = .inr (.inr (((i : Int) - 9999) :: js)) ∧ js.length ≤ 2 ∧ ∀ j ∈ js, 0 ≤ j ∧ j < 5
theorem RowN.inj {zs : List Str} (nd : zs.Nodup) {i j : Nat} {x : Tm} (h1 : RowN zs i x) (h2 : RowN zs j x) : i = j := by
  rcases h1 with ⟨z, e1, rfl⟩ | ⟨js, rfl, _⟩
  · rcases h2 with ⟨z2, e2, e⟩ | ⟨js, e, _⟩
    · cases e
      obtain ⟨hi, e1⟩ := List.getElem?_eq_some_iff.mp e1
      obtain ⟨hj, e2⟩ := List.getElem?_eq_some_iff.mp e2
      exact (List.getElem_inj nd).mp (e1.trans e2.symm)
    · cases e
  · rcases h2 with ⟨z2, e2, e⟩ | ⟨ks, e, _⟩
    · cases e
    · have e' := Sum.inr.inj (Sum.inr.inj e)
      injection e' with e3 _
      omega
theorem RowN.ok {zs : List Str} (nm : ∀ z ∈ zs, NameZ z) {i : Nat} (hi : i ≤ 26) {x : Tm} (h : RowN zs i x) : TmOk x := by
  rintro r rfl
  rcases h with ⟨z, e1, e⟩ | ⟨js, e, l, b⟩
  · cases e
    exact nm z (List.mem_of_getElem? e1)
  · cases e
    refine ⟨Nat.succ_le_succ (Nat.zero_le _), Nat.succ_le_succ l, fun j hj => ?_⟩
    rcases List.mem_cons.mp hj with rfl | hj
    · omega
    · have := b j hj
      omega
theorem rows_nd {zs : List Str} (nd : zs.Nodup) {ps : List Pm} (h : ∀ (i : Nat) (p : Pm), ps[i]? = some p → RowN zs i p.2) : (kys ps).Nodup := by
  unfold kys
  rw [List.nodup_iff_pairwise_ne, List.pairwise_map, List.pairwise_iff_getElem]
  intro i j hi hj hij e
  have h1 := h i _ (List.getElem?_eq_getElem hi)
  have h2 := h j _ (List.getElem?_eq_getElem hj)
  rw [← e] at h2
  have := RowN.inj nd h1 h2
  omega
def isRw (x : Tm) : Prop := ∃ r, x = .inr r
theorem RowN.row {zs : List Str} {i : Nat} {x : Tm} (h : RowN zs i x) : isRw x := by
  rcases h with ⟨z, _, rfl⟩ | ⟨js, rfl, _⟩
  · exact ⟨_, rfl⟩
  · exact ⟨_, rfl⟩
/-- rows of a change: all differ -/
structure Rws (ps : List Pm) : Prop where
  nd : (kys ps).Nodup
  ok : ∀ x ∈ kys ps, TmOk x
  rw : ∀ x ∈ kys ps, isRw x
def spRows : Sp := fun vs H Q _ => ∃ (b : Addr) (m n : Nat), vs = [.ref b, .int (m : Int)] ∧ BoxAt H b n ∧ n ≤ 40000 ∧ m ≤ 26 ∧
  ∀ (p : Addr) (H' : Hp) (ps : List Pm), ps.length = m → Rws ps → PsAt H' ps → H p = none → H' p = some (.lst (vls ps)) → BoxAt H' b (n + 200) → But b H H' → Q (.ref p) H'
section
variable {P : Program} {w : World} {K : PySem.W.Frag} {mg : Str → Option Value} {base : Heap}
theorem ok_rows {f fT fN : Addr} {fd fdT fdN : FuncData} (F : Fun K "_law_rows" "_law_rows" sRows f fd) (GT : FnOk P w K mg base CX0 1 fT fdT ["_law_box_here", "_law_many"] spTake) (kT : PySem.W.keepIn K (.ref fT) = true) (bT : Binds K fdT ["_law_box_here", "_law_many"] []) (gT : mg "_law_take" = some (.ref fT))
    (GN : FnOk P w K mg base CX0 2 fN fdN ["_law_box_here", "_law_many"] spNamesD) (kN : PySem.W.keepIn K (.ref fN) = true) (bN : Binds K fdN ["_law_box_here", "_law_many"] []) (gN : mg "_law_names" = some (.ref fN))
    (mr : mg "range" = none) (mt : mg "tuple" = none) : FnOk P w K mg base CX0 3 f fd ["_law_box_here", "_law_many"] spRows := by
  refine F.ok scRows (fun vs H Q E h => ?_) (fun cdv A outer s H vs Q E hr h => ?_)
  · obtain ⟨b, m, n, rfl, _⟩ := h
    rfl
  · obtain ⟨b, m, n, rfl, B, hn, hm, q⟩ := h
    have hr1 := hr.mono (show 1 ≤ 2 by decide)
    refine ⟨_, pss_cons (ps_set (i := 2) scRows.nd rfl (.inl rfl) (pe_call GN hr rfl gN kN bN .nil pass0 (pa_cons (pv 0) (pa_cons (pv 1) pa_nil))))
      (pss_cons (ps_for PassesOwn.never rfl (pi_range1 rfl mr (pa_cons (pv 1) pa_nil)) (pg_name (i := 3) scRows.nd rfl (.inl rfl))
        (pss_one (ps_if (pt_cmpR op_eq (pe_call GT hr1 rfl gT kT bT .nil pass0 (pa_cons (pv 0) (pa_cons pe_int pa_nil))) pe_int (nomark _))
          (pss_one (ps_asg (pe_tup (pa_cons pe_str (pa_cons (pe_callTy call_tuple_of (by rfl) mt (by decide +kernel) (pa_cons (pe_op op_cat (pe_lst (pa_cons (pe_op op_sub (pv 3) pe_int) pa_nil))
            (pe_lc (own := [("_law_k", 4)]) (g := gName 4) (tt := tYes) (by rfl) scRows.nd (pi_range1 rfl mr (pa_cons (pe_call GT hr1 rfl gT kT bT .nil pass0 (pa_cons (pv 0) (pa_cons pe_int pa_nil))) pa_nil))
              (blkOk_by (own := [("_law_k", 4)]) (N := nRows) (sc := defScope sRows) (by decide +kernel)) (fun _ _ _ _ _ => pg_name (i := 4) scRows.nd rfl (.inl rfl)) (fun _ _ _ _ _ => pts_nil)
              (fun _ _ _ _ _ => pe_call GT hr1 rfl gT kT bT .nil pass0 (pa_cons (pv 0) (pa_cons pe_int pa_nil))))) pa_nil)) pa_nil))) (pg_sub (pv 2) (pv 3) set_list))) pss_nil)))
      (pss_one (ps_ret (pv 2)))), ?_⟩
    refine ⟨_, rfl, _, rfl, b, m, n, rfl, B, by omega, hm, fun D H1 zs lz nm nd fD e1 B1 k1 => ?_⟩
    have nD := box_ne B fD
    refine ⟨_, rfl, _, rfl, by omega, by omega, ?_⟩
    rw [Int.toNat_natCast m]
    refine for_range (lo := 0) (n := m) (fun i σ H2 => ∃ (ps : List Pm) (x3 : Option V), σ = [some (.ref b), some (.int (m : Int)), some (.ref D), x3, none] ∧ H2 D = some (.lst (vls ps)) ∧ ps.length = m ∧ (∀ (i : Nat) (p : Pm), ps[i]? = some p → RowN zs i p.2) ∧ PsAt H2 ps ∧ BoxAt H2 b (n + 11 + 5 * i) ∧ But b H H2) ?_ ?_ ?_
    · refine ⟨zs.map fun z => (V.str z, Sum.inr (Sum.inl z)), none, rfl, ?_, ?_, ?_, ?_, B1, k1⟩
      · rw [e1]
        unfold vls
        rw [List.map_map]
        rfl
      · rw [List.length_map, lz]
      · intro i p hp
        rw [List.getElem?_map] at hp
        obtain ⟨z, hz, rfl⟩ := Option.map_eq_some_iff.mp hp
        exact .inl ⟨z, hz, rfl⟩
      · intro p hp
        obtain ⟨z, hz, rfl⟩ := List.mem_map.mp hp
        rfl
    · rintro i σ H2 hi ⟨ps, x3, rfl, e2, lp, rn, at2, B2, k2⟩
      refine ⟨_, rfl, b, 4, n + 11 + 5 * i, rfl, B2, by omega, by decide, by decide, fun r H3 r0 r1 B3 k3 => ⟨rfl, ?_⟩⟩
      have e3 := k3 _ _ nD e2
      have at3 := at2.but B2 k3
      refine ⟨_, rfl, ite2 (fun _ => ?_) (fun _ => ?_)⟩
      · refine ⟨_, rfl, _, _, rfl, rfl, (by show 1 ≤ sizeLine; decide), fun p hp => ?_⟩
        have B4 := box_new (o := .lst [.int (0 + (i : Int) - 9999)]) B3 hp
        have k4 : But b H3 (upd H3 p (.lst [.int (0 + (i : Int) - 9999)])) := But.new hp
        have np := box_ne B3 hp
        have ep : (upd H3 p (.lst [.int (0 + (i : Int) - 9999)])) p = some (.lst [.int (0 + (i : Int) - 9999)]) := upd_same
        generalize upd H3 p (.lst [.int (0 + (i : Int) - 9999)]) = H4 at B4 k4 ep ⊢
        refine ⟨_, rfl, b, 3, n + 11 + 5 * i + 1, rfl, B4, by omega, by decide, by decide, fun r H5 r0 r1 B5 k5 => ?_⟩
        obtain ⟨c, rfl, hc⟩ := draw_at (n := 3) r0 r1 rfl
        refine ⟨_, rfl, by omega, by omega, fun L hL => ?_⟩
        have nL := box_ne B5 hL
        refine lc_range (lo := 0) (n := c) (fun k H6 => ∃ js : List Int, H6 L = some (.lst (js.map V.int)) ∧ js.length = k ∧ (∀ j ∈ js, 0 ≤ j ∧ j < 5) ∧ BoxAt H6 b (n + 11 + 5 * i + 2 + k) ∧ But b H5 H6) ?_ ?_ ?_
        · exact ⟨[], upd_same, rfl, (fun _ h => nomatch h), box_new B5 hL, But.new hL⟩
        · rintro k H6 hk ⟨js, e6, l6, j6, B6, k6⟩
          refine ⟨rfl, ?_⟩
          unfold tYes
          dsimp only
          rw [if_pos rfl]
          refine ⟨_, rfl, b, 5, n + 11 + 5 * i + 2 + k, rfl, B6, by omega, by decide, by decide, fun r H7 r0 r1 B7 k7 => ?_⟩
          refine ⟨_, k7 _ _ nL e6, ?_, js ++ [r], ?_, ?_, fun j hj => ?_, box_upd B7 nL, but_upd (k6.trans k7) hL⟩
          · rw [List.length_map]
            exact small1000 (by omega)
          · rw [upd_same, List.map_append]
            rfl
          · rw [List.length_append, l6]
            rfl
          · rcases List.mem_append.mp hj with hj | hj
            · exact j6 j hj
            · rw [List.mem_singleton.mp hj]
              exact ⟨r0, r1⟩
        rintro H6 ⟨js, e6, l6, j6, B6, k6⟩
        have k36 : But b H3 H6 := (k4.trans k5).trans k6
        have ep6 := (k5.trans k6) _ _ np ep
        refine ⟨p, L, _, _, rfl, rfl, ep6, e6, ?_, fun C hC => ?_⟩
        · rw [List.length_map]
          exact Nat.le_of_lt (small1000 (by show 1 + js.length ≤ 1000; omega))
        refine ⟨C, _, rfl, .inl ⟨.of upd_same, fun T hT => ?_⟩⟩
        refine ⟨(by show 2 ≤ sizeLine; decide), fun U hU => ?_⟩
        have e6D := k36 _ _ nD e3
        have kAll : But b H3 (upd (upd (upd H6 C (.lst ([.int (0 + (i : Int) - 9999)] ++ js.map V.int))) T (.tup ([.int (0 + (i : Int) - 9999)] ++ js.map V.int))) U (.tup [.str "group", .ref T])) := ((k36.trans (But.new hC)).trans (But.new hT)).trans (But.new hU)
        have B9 := box_new (o := .tup [.str "group", .ref T]) (box_new (o := .tup ([.int (0 + (i : Int) - 9999)] ++ js.map V.int)) (box_new (o := .lst ([.int (0 + (i : Int) - 9999)] ++ js.map V.int)) B6 hC) hT) hU
        have eT : (upd (upd (upd H6 C (.lst ([.int (0 + (i : Int) - 9999)] ++ js.map V.int))) T (.tup ([.int (0 + (i : Int) - 9999)] ++ js.map V.int))) U (.tup [.str "group", .ref T])) T = some (.tup ([.int (0 + (i : Int) - 9999)] ++ js.map V.int)) := Same.new hU _ _ upd_same
        have eU : (upd (upd (upd H6 C (.lst ([.int (0 + (i : Int) - 9999)] ++ js.map V.int))) T (.tup ([.int (0 + (i : Int) - 9999)] ++ js.map V.int))) U (.tup [.str "group", .ref T])) U = some (.tup [.str "group", .ref T]) := upd_same
        have eD9 := kAll _ _ nD e3
        have at9 := at3.but B3 kAll
        generalize (upd (upd (upd H6 C (.lst ([.int (0 + (i : Int) - 9999)] ++ js.map V.int))) T (.tup ([.int (0 + (i : Int) - 9999)] ++ js.map V.int))) U (.tup [.str "group", .ref T])) = H9 at kAll B9 eT eU eD9 at9 ⊢
        refine ⟨_, rfl, _, rfl, D, _, _, i, rfl, rfl, eD9, ?_, ?_⟩
        · show ixN ((vls ps).length) (0 + (i : Int)) = some i
          unfold vls
          rw [List.length_map, lp]
          unfold ixN
          rw [if_pos (by omega), if_pos (by omega)]
          congr 1
          omega
        have sk : ∀ a xs, H9 a = some (.tup xs) → (upd H9 D (.lst ((vls ps).set i (.ref U)))) a = some (.tup xs) := fun a xs e => (upd_ne (fun z => by rw [z, eD9] at e; cases e)).trans e
        have nx : TmAt (upd H9 D (.lst ((vls ps).set i (.ref U)))) (.ref U) (.inr (.inr (((i : Int) - 9999) :: js))) := by
          refine ⟨U, T, rfl, sk _ _ eU, ?_⟩
          rw [sk _ _ eT, show (0 + (i : Int) - 9999) = (i : Int) - 9999 by omega]
          rfl
        refine ⟨ps.set i (.ref U, .inr (.inr (((i : Int) - 9999) :: js))), _, rfl, ?_, ?_, ?_, ?_, box_upd (B9.mono (by omega)) nD, but_upd ((k2.trans k3).trans kAll) fD⟩
        · rw [upd_same]
          unfold vls
          rw [List.map_set]
        · rw [List.length_set, lp]
        · intro k p hp
          by_cases ek : i = k
          · subst ek
            rw [List.getElem?_set_self (by omega)] at hp
            cases hp
            exact .inr ⟨js, rfl, by omega, j6⟩
          · rw [List.getElem?_set_ne ek] at hp
            exact rn k p hp
        · intro p hp
          rcases List.mem_or_eq_of_mem_set hp with hp | rfl
          · have h := at9 p hp
            revert h
            generalize p.1 = v
            generalize p.2 = x
            intro h
            match x, h with
            | .inl _, h => exact h
            | .inr (.inl _), h => exact h
            | .inr (.inr _), ⟨t, u, e, a, c⟩ => exact ⟨t, u, e, sk _ _ a, sk _ _ c⟩
          · exact nx
      · exact ⟨ps, _, rfl, e3, lp, rn, at3, B3.mono (by omega), k2.trans k3⟩
    · rintro σ H2 ⟨ps, x3, rfl, e2, lp, rn, at2, B2, k2⟩
      refine ⟨_, rfl, q D H2 ps lp ⟨rows_nd nd rn, fun x hx => ?_, fun x hx => ?_⟩ at2 fD e2 (B2.mono (by omega)) k2⟩
      · obtain ⟨p, hp, rfl⟩ := List.mem_map.mp hx
        obtain ⟨i, hi, e⟩ := List.mem_iff_getElem.mp hp
        exact (rn i p (by rw [List.getElem?_eq_getElem hi, e])).ok nm (by omega)
      · obtain ⟨p, hp, rfl⟩ := List.mem_map.mp hx
        obtain ⟨i, hi, e⟩ := List.mem_iff_getElem.mp hp
        exact (rn i p (by rw [List.getElem?_eq_getElem hi, e])).row
end
end G
set_option Elab.async false
set_option linter.all false
set_option maxRecDepth 100000
set_option maxHeartbeats 8000000
/-! Y4: the items of a drawn change. -/
namespace G
open PySem PySem.Spec PyProof.Rows L2
abbrev sAfter : Stmt := topS 46
abbrev nAfter : List Str := ["_law_box_here", "_law_before", "_law_rows_here", "_law_index", "_law_way", "_law_found", "_law_turn", "_law_at", "_law_row"]
theorem scAfter : FnScope nAfter ["_law_box_here", "_law_before", "_law_rows_here"] (defScope sAfter) := ⟨rfl, rfl, rfl, by decide +kernel, rfl, by decide +kernel, by decide +kernel⟩
theorem perm_pull {α β : Type} (f : α → β) : ∀ {ns : List α} {qs : List β}, qs.Perm (ns.map f) → ∃ ms : List α, qs = ms.map f ∧ ms.Perm ns
  | [], qs, h => ⟨[], List.Perm.eq_nil h, .refl _⟩
  | a :: ns, qs, h => by
    have hm : f a ∈ qs := h.mem_iff.mpr List.mem_cons_self
    obtain ⟨l1, l2, rfl⟩ := List.append_of_mem hm
    have h2 : (l1 ++ l2).Perm (ns.map f) := (List.perm_middle.symm.trans h).cons_inv
    obtain ⟨ms, e, pm⟩ := perm_pull f h2
    obtain ⟨m1, m2, rfl, e1, e2⟩ := List.append_eq_map_iff.mp e
    refine ⟨m1 ++ a :: m2, ?_, List.perm_middle.trans (pm.cons a)⟩
    rw [List.map_append, List.map_cons, e1, e2]
/-- what a change states of n rows -/
structure ChOk (n : Nat) (ks : List Tm) : Prop where
  n80 : n ≤ 80
  few : ks.length ≤ 80
  nd : ks.Nodup
  lo : ∀ i : Int, Sum.inl i ∈ ks → 0 ≤ i ∧ i < n
  ok : ∀ x ∈ ks, TmOk x
/-- different indices below n -/
structure Ixs (n : Nat) (ns : List Int) : Prop where
  nd : ns.Nodup
  lo : ∀ i ∈ ns, 0 ≤ i ∧ i < n
theorem Ixs.len {n : Nat} {ns : List Int} (h : Ixs n ns) : ns.length ≤ n := by
  have s : ns ⊆ (List.range n).map Int.ofNat := fun i hi => by
    obtain ⟨h0, h1⟩ := h.lo i hi
    exact List.mem_map.mpr ⟨i.toNat, List.mem_range.mpr (by omega), by show ((i.toNat : Nat) : Int) = i; omega⟩
  have := h.nd.length_le_of_subset s
  rwa [List.length_map, List.length_range] at this
theorem Ixs.perm {n : Nat} {ns ms : List Int} (h : Ixs n ns) (p : ms.Perm ns) : Ixs n ms := ⟨p.nodup_iff.mpr h.nd, fun i hi => h.lo i (p.mem_iff.mp hi)⟩
theorem ins_perm {α : Type} (l : List α) (k : Nat) (x : α) : (l.take k ++ [x] ++ l.drop k).Perm (x :: l) := by
  rw [List.append_assoc]
  have h : (l.take k ++ x :: l.drop k).Perm (x :: (l.take k ++ l.drop k)) := List.perm_middle
  rw [List.take_append_drop] at h
  exact h
theorem cutV_ta (xs : List V) (k : Nat) : cutV xs none (some (k : Int)) = xs.take k := cutV_take xs k
def spAfter : Sp := fun vs H Q _ => ∃ (b l : Addr) (m n : Nat) (ps : List Pm), vs = [.ref b, .int (m : Int), .ref l] ∧ BoxAt H b n ∧ n ≤ 40000 ∧ m ≤ 80 ∧ H l = some (.lst (vls ps)) ∧ PsAt H ps ∧ Rws ps ∧ ps.length ≤ 26 ∧ l ≠ b ∧
  ∀ (p : Addr) (H' : Hp) (qs : List Pm), ChOk m (kys qs) → PsAt H' qs → qs.length ≤ m + ps.length → H p = none → H' p = some (.lst (vls qs)) → BoxAt H' b (n + 300) → But b H H' → Q (.ref p) H'
abbrev xAf (P : Program) (w : World) (K : PySem.W.Frag) (mg : Str → Option Value) (base : Heap) (f : Addr) (cdv : Value) (A : Around) (outer : List Env) (s : Shared) (H : Hp) (E : XK) : Cx := (cxOf CX0 P w K mg base nAfter "_law_after" (defScope sAfter) f cdv A outer s H E).nox
abbrev rmAf (f : Addr) (cdv : Value) (A : Around) (s : Shared) : Prop := Room 2 (A.deeper (envOfC "_law_after" (defScope sAfter) s.heap.objs.size f cdv))
/-- what _law_after asks -/
structure AfK (P : Program) (w : World) (K : PySem.W.Frag) (mg : Str → Option Value) (base : Heap) : Prop where
  T : ∃ fT fdT, FnOk P w K mg base CX0 1 fT fdT ["_law_box_here", "_law_many"] spTake ∧ PySem.W.keepIn K (.ref fT) = true ∧ Binds K fdT ["_law_box_here", "_law_many"] [] ∧ mg "_law_take" = some (.ref fT)
  M : ∃ fM fdM, FnOk P w K mg base CX0 2 fM fdM ["_law_box_here", "_law_some"] (spMixR K) ∧ PySem.W.keepIn K (.ref fM) = true ∧ Binds K fdM ["_law_box_here", "_law_some"] [] ∧ mg "_law_mixed" = some (.ref fM)
  mr : mg "range" = none
  ml : mg "len" = none
  mi : mg "int" = none
section
variable {P : Program} {w : World} {K : PySem.W.Frag} {mg : Str → Option Value} {base : Heap} {f : Addr} {fd : FuncData}
theorem af_four {cdv : Value} {A : Around} {outer : List Env} {s : Shared} {H : Hp} {E : XK} (R : AfK P w K mg base) (hr : rmAf f cdv A s) :
    ∃ t, PSs (xAf P w K mg base f cdv A outer s H E) ((defBody sAfter).drop 4) t ∧
      ∀ (De : Ends) (x3 x4 x6 x7 x8 : Option V) (b l D : Addr) (m k : Nat) (ns : List Int) (ps : List Pm) (H1 : Hp), BoxAt H1 b k → k ≤ 50000 → m ≤ 80 → Ixs m ns → H1 l = some (.lst (vls ps)) → l ≠ b → PsAt H1 ps → Rws ps → ps.length ≤ 26 → D ≠ b → H1 D = some (.lst (ns.map V.int)) →
        (∀ (p : Addr) (H' : Hp) (qs : List Pm), ChOk m (kys qs) → PsAt H' qs → qs.length ≤ m + ps.length → H1 p = none → H' p = some (.lst (vls qs)) → BoxAt H' b (k + 26) → But b H1 H' → De.rt (.ref p) H') →
        t De [some (.ref b), some (.int (m : Int)), some (.ref l), x3, x4, some (.ref D), x6, x7, x8] H1 := by
  obtain ⟨fT, fdT, GT, kT, bT, gT⟩ := R.T
  have hr1 := hr.mono (show 1 ≤ 2 by decide)
  refine ⟨_, pss_cons (ps_for PassesOwn.never rfl (pi_list (pv 2)) (pg_name (i := 8) scAfter.nd rfl (.inl rfl))
      (pss_cons (ps_set (i := 7) scAfter.nd rfl (.inl rfl) (pe_call GT hr1 rfl gT kT bT .nil pass0 (pa_cons (pv 0) (pa_cons (pe_op op_add (pe_callB call_len_seq (by rfl) R.ml PySem.boot_len (pa_cons (pv 5) pa_nil)) pe_int) pa_nil))))
      (pss_one (ps_set (i := 5) scAfter.nd rfl (.inl rfl) (pe_op op_cat (pe_op op_cat (pe_slice (r := rSlL K) sl_list (pv 5) po_none (po_some (pv 7))) (pe_lst (pa_cons (pv 8) pa_nil))) (pe_slice (r := rSlL K) sl_list (pv 5) (po_some (pv 7)) po_none))))))
    (pss_one (ps_ret (pe_slice (r := rSlL K) sl_list (pv 5) po_none (po_some pe_int)))), ?_⟩
  intro De x3 x4 x6 x7 x8 b l D m k ns ps H1 B hk hm ix hl nlb hp rws few nDb eD q
  refine ⟨_, rfl, l, rfl, ⟨_, .of hl⟩, ?_⟩
  have lv : (vls ps).length = ps.length := List.length_map ..
  refine for_list (xs := vls ps) (fun i σ H2 => ∃ (D2 : Addr) (qs : List Pm) (x7 x8 : Option V), σ = [some (.ref b), some (.int (m : Int)), some (.ref l), x3, x4, some (.ref D2), x6, x7, x8] ∧ D2 ≠ b ∧ H2 D2 = some (.lst (vls qs)) ∧ PsAt H2 qs ∧ (kys qs).Perm ((kys (ps.take i)).reverse ++ ns.map Sum.inl) ∧ BoxAt H2 b (k + i) ∧ But b H1 H2) ?_ ?_ ?_ ?_
  · refine ⟨D, ns.map fun i => (V.int i, Sum.inl i), x7, x8, rfl, nDb, ?_, ?_, ?_, B, But.refl _ _⟩
    · rw [eD]
      unfold vls
      rw [List.map_map]
      rfl
    · intro p hp
      obtain ⟨i, hi, rfl⟩ := List.mem_map.mp hp
      rfl
    · rw [List.take_zero]
      unfold kys
      rw [List.map_map]
      exact .refl _
  · rintro i σ H2 _ ⟨D2, qs, x7, x8, rfl, nD2, e2, hq, pm, B2, k2⟩
    exact .of (k2 _ _ nlb hl)
  · rintro i x σ H2 hx ⟨D2, qs, x7, x8, rfl, nD2, e2, hq, pm, B2, k2⟩
    have hx' := hx
    unfold vls at hx'
    rw [List.getElem?_map] at hx'
    obtain ⟨p, hpi, rfl⟩ := Option.map_eq_some_iff.mp hx'
    have ip := (List.getElem?_eq_some_iff.mp hpi).1
    have lq : qs.length = i + ns.length := by
      have := pm.length_eq
      unfold kys at this
      rw [List.length_map, List.length_append, List.length_reverse, List.length_map, List.length_map, List.length_take] at this
      omega
    have nl := ix.len
    have lvq : (vls qs).length = qs.length := List.length_map ..
    refine ⟨_, rfl, _, rfl, D2, _, rfl, .inl (.of e2), _, _, rfl, rfl, b, _, k + i, rfl, B2, by omega, ?_, ?_, fun r H3 r0 r1 B3 k3 => ?_⟩
    · omega
    · have : (((vls qs).length : Nat) : Int) + 1 ≤ 200 := by omega
      exact Int.lt_of_le_of_lt this (by decide)
    obtain ⟨j, rfl, hj⟩ := draw_at (n := (vls qs).length + 1) r0 r1 (by omega)
    have e3 := k3 _ _ nD2 e2
    have hq3 := hq.but B2 k3
    have hpp3 : TmAt H3 p.1 p.2 := ((hp.but B k2).but B2 k3) p (List.mem_of_getElem? hpi)
    refine ⟨_, rfl, _, rfl, _, rfl, D2, _, rfl, .of e3, fun a1 h1 => ?_⟩
    rw [cutV_take]
    have s1 := Same.new (o := .lst ((vls qs).take j)) h1
    have f1 : (upd H3 a1 (.lst ((vls qs).take j))) a1 = some (.lst ((vls qs).take j)) := upd_same
    generalize upd H3 a1 (.lst ((vls qs).take j)) = H4 at s1 f1 ⊢
    refine ⟨_, rfl, (by show 1 ≤ sizeLine; decide), fun a2 h2 => ?_⟩
    have s2 := Same.new (o := .lst [p.1]) h2
    have f2 : (upd H4 a2 (.lst [p.1])) a2 = some (.lst [p.1]) := upd_same
    generalize upd H4 a2 (.lst [p.1]) = H5 at s2 f2 ⊢
    refine ⟨a1, a2, _, _, rfl, rfl, s2 _ _ f1, f2, ?_, fun a3 h3 => ?_⟩
    · rw [List.length_take]
      exact Nat.le_of_lt (small1000 (by show min j (vls qs).length + 1 ≤ 1000; omega))
    have s3 := Same.new (o := .lst ((vls qs).take j ++ [p.1])) h3
    have f3 : (upd H5 a3 (.lst ((vls qs).take j ++ [p.1]))) a3 = some (.lst ((vls qs).take j ++ [p.1])) := upd_same
    generalize upd H5 a3 (.lst ((vls qs).take j ++ [p.1])) = H6 at s3 f3 ⊢
    have s36 : Same H3 H6 := (Same.trans (show Same H3 H4 from s1) s2).trans s3
    refine ⟨_, rfl, _, rfl, _, rfl, D2, _, rfl, .of (s36 _ _ e3), fun a4 h4 => ?_⟩
    rw [cutV_fr]
    have s4 := Same.new (o := .lst ((vls qs).drop j)) h4
    have f4 : (upd H6 a4 (.lst ((vls qs).drop j))) a4 = some (.lst ((vls qs).drop j)) := upd_same
    generalize upd H6 a4 (.lst ((vls qs).drop j)) = H7 at s4 f4 ⊢
    refine ⟨a3, a4, _, _, rfl, rfl, s4 _ _ f3, f4, ?_, fun a5 h5 => ?_⟩
    · rw [List.length_append, List.length_take, List.length_drop]
      exact Nat.le_of_lt (small1000 (by show min j (vls qs).length + 1 + ((vls qs).length - j) ≤ 1000; omega))
    have s37 : Same H3 H7 := s36.trans s4
    have s38 := s37.trans (Same.new (o := .lst ((vls qs).take j ++ [p.1] ++ (vls qs).drop j)) h5)
    have B7 : BoxAt H7 b (k + (i + 1)) := B3.keep fun o e => s37 _ _ e
    refine ⟨a5, qs.take j ++ [p] ++ qs.drop j, _, _, rfl, box_ne B7 h5, ?_, ?_, ?_, box_new B7 h5, (k2.trans k3).trans (.same s38)⟩
    · rw [upd_same]
      unfold vls
      rw [List.map_append, List.map_append, List.map_take, List.map_drop]
      rfl
    · refine PsAt.app (PsAt.app (hq3.same s38 |>.sub fun q hq => List.mem_of_mem_take hq) fun q hq => ?_) (hq3.same s38 |>.sub fun q hq => List.mem_of_mem_drop hq)
      rw [List.mem_singleton.mp hq]
      exact hpp3.same s38
    · have e : kys (ps.take (i + 1)) = kys (ps.take i) ++ [p.2] := by
        unfold kys
        rw [List.take_add_one, hpi, List.map_append]
        rfl
      rw [e, List.reverse_append]
      have h := (ins_perm qs j p).map (·.2)
      refine h.trans ?_
      exact pm.cons p.2
  · rintro σ H2 ⟨D2, qs, x7, x8, rfl, nD2, e2, hq, pm, B2, k2⟩
    rw [lv, List.take_length] at pm
    refine ⟨_, rfl, _, rfl, D2, _, rfl, .of e2, fun a1 h1 => ?_⟩
    rw [show cutV (vls qs) none (some 80) = (vls qs).take 80 from cutV_take _ 80]
    have s1 := Same.new (o := .lst ((vls qs).take 80)) h1
    have nd1 : (kys qs).Nodup := by
      refine pm.nodup_iff.mpr (List.nodup_append.mpr ⟨(List.reverse_perm _).nodup_iff.mpr rws.nd, ?_, ?_⟩)
      · unfold List.Nodup
        exact List.pairwise_map.mpr (ix.nd.imp fun a e => a (Sum.inl.inj e))
      · intro x hx y hy e
        obtain ⟨r, rfl⟩ := rws.rw x (List.mem_reverse.mp hx)
        obtain ⟨i, _, rfl⟩ := List.mem_map.mp hy
        cases e
    have kt : kys (qs.take 80) = (kys qs).take 80 := by
      unfold kys
      rw [List.map_take]
    have mem : ∀ x ∈ kys (qs.take 80), x ∈ kys ps ∨ ∃ i ∈ ns, x = Sum.inl i := fun x hx => by
      rw [kt] at hx
      rcases List.mem_append.mp (pm.mem_iff.mp (List.mem_of_mem_take hx)) with h | h
      · exact .inl (List.mem_reverse.mp h)
      · obtain ⟨i, hi, rfl⟩ := List.mem_map.mp h
        exact .inr ⟨i, hi, rfl⟩
    refine q a1 _ (qs.take 80) ⟨hm, ?_, ?_, fun i hi => ?_, fun x hx => ?_⟩ ((hq.sub fun q hq => List.mem_of_mem_take hq).same s1) ?_ ?_ ?_ (box_new (B2.mono (by omega)) h1) (k2.trans (.new h1))
    · rw [kt, List.length_take]
      omega
    · rw [kt]
      exact nd1.sublist (List.take_sublist _ _)
    · rcases mem _ hi with h | ⟨j, hj, e⟩
      · obtain ⟨r, e⟩ := rws.rw _ h
        cases e
      · cases e
        exact ix.lo _ hj
    · rcases mem _ hx with h | ⟨j, hj, rfl⟩
      · exact rws.ok _ h
      · rintro r e
        cases e
    · have := pm.length_eq
      have nl := ix.len
      unfold kys at this
      rw [List.length_map, List.length_append, List.length_reverse, List.length_map, List.length_map] at this
      rw [List.length_take]
      omega
    · exact free_of k2 (box_ne B2 h1) h1
    · rw [upd_same]
      unfold vls
      rw [List.map_take]
end
end G
set_option Elab.async false
set_option linter.all false
set_option maxRecDepth 100000
set_option maxHeartbeats 8000000
/-! Y5: the items of a drawn change, the head. -/
namespace G
open PySem PySem.Spec PyProof.Rows L2
/-- what comes of it, told from H0 on -/
abbrev AfQ (H0 : Hp) (b : Addr) (m k : Nat) (ps : List Pm) (De : Ends) : Prop :=
  ∀ (p : Addr) (H' : Hp) (qs : List Pm), ChOk m (kys qs) → PsAt H' qs → qs.length ≤ m + ps.length → H0 p = none → H' p = some (.lst (vls qs)) → BoxAt H' b k → But b H0 H' → De.rt (.ref p) H'
/-- what stands at H0 -/
structure AfH (H0 : Hp) (b l : Addr) (m n0 : Nat) (ps : List Pm) : Prop where
  B : BoxAt H0 b n0
  m80 : m ≤ 80
  hl : H0 l = some (.lst (vls ps))
  nlb : l ≠ b
  hp : PsAt H0 ps
  rws : Rws ps
  few : ps.length ≤ 26
section
variable {P : Program} {w : World} {K : PySem.W.Frag} {mg : Str → Option Value} {base : Heap} {f : Addr} {fd : FuncData}
theorem af_three {cdv : Value} {A : Around} {outer : List Env} {s : Shared} {H : Hp} {E : XK} (R : AfK P w K mg base) (hr : rmAf f cdv A s) :
    ∃ t, PSs (xAf P w K mg base f cdv A outer s H E) ((defBody sAfter).drop 3) t ∧
      ∀ (De : Ends) (x3 x6 x7 x8 : Option V) (b l D : Addr) (m way k n0 : Nat) (ns : List Int) (ps : List Pm) (H0 H1 : Hp), AfH H0 b l m n0 ps → But b H0 H1 → BoxAt H1 b k → k ≤ 50000 → Ixs m ns → D ≠ b → H1 D = some (.lst (ns.map V.int)) → AfQ H0 b m (k + 26) ps De →
        t De [some (.ref b), some (.int (m : Int)), some (.ref l), x3, some (.int (way : Int)), some (.ref D), x6, x7, x8] H1 := by
  obtain ⟨tl, pl, ql⟩ := af_four (outer := outer) (H := H) (E := E) R hr
  refine ⟨_, pss_cons (ps_if (pt_cmpR op_eq (pv 4) pe_int (nomark _)) (pss_one (ps_set (i := 5) scAfter.nd rfl (.inl rfl) (pe_backL (pv 5) (po_some (pe_un un_neg pe_int))))) pss_nil) pl, ?_⟩
  intro De x3 x6 x7 x8 b l D m way k n0 ns ps H0 H1 h0 k0 B hk ix nD eD q
  refine ⟨_, rfl, rfl, _, rfl, ite2 (fun _ => ?_) (fun _ => ?_)⟩
  · refine ⟨_, rfl, _, rfl, _, rfl, D, _, rfl, .of eD, rfl, fun p hp => ?_⟩
    have k1 : But b H0 (upd H1 p (.lst (ns.map V.int).reverse)) := k0.trans (But.new hp)
    refine ql De x3 _ x6 x7 x8 b l p m k ns.reverse ps _ (box_new B hp) hk h0.m80 (ix.perm (List.reverse_perm _)) (k1 _ _ h0.nlb h0.hl) h0.nlb (h0.hp.but h0.B k1) h0.rws h0.few (box_ne B hp) (by rw [upd_same, List.map_reverse]) fun p2 H' qs ok hq lq hp2 e2 B2 k2 => ?_
    exact q p2 H' qs ok hq lq (free_of k1 (fun z => by
      obtain ⟨_, _, _, eb, _⟩ := box_new (o := .lst (ns.map V.int).reverse) B hp
      rw [z, eb] at hp2
      cases hp2) hp2) e2 B2 (k1.trans k2)
  · refine ql De x3 _ x6 x7 x8 b l D m k ns ps _ B hk h0.m80 ix (k0 _ _ h0.nlb h0.hl) h0.nlb (h0.hp.but h0.B k0) h0.rws h0.few nD eD fun p2 H' qs ok hq lq hp2 e2 B2 k2 => ?_
    exact q p2 H' qs ok hq lq (free_of k0 (fun z => by
      obtain ⟨_, _, _, eb, _⟩ := B
      rw [z, eb] at hp2
      cases hp2) hp2) e2 B2 (k0.trans k2)
theorem af_two {cdv : Value} {A : Around} {outer : List Env} {s : Shared} {H : Hp} {E : XK} (R : AfK P w K mg base) (hr : rmAf f cdv A s) :
    ∃ t, PSs (xAf P w K mg base f cdv A outer s H E) ((defBody sAfter).drop 2) t ∧
      ∀ (De : Ends) (x3 x6 x7 x8 : Option V) (b l D : Addr) (m way k n0 : Nat) (ns : List Int) (ps : List Pm) (H0 H1 : Hp), AfH H0 b l m n0 ps → But b H0 H1 → BoxAt H1 b k → k ≤ 49000 → Ixs m ns → H0 D = none → D ≠ b → H1 D = some (.lst (ns.map V.int)) → AfQ H0 b m (k + 40) ps De →
        t De [some (.ref b), some (.int (m : Int)), some (.ref l), x3, some (.int (way : Int)), some (.ref D), x6, x7, x8] H1 := by
  obtain ⟨fT, fdT, GT, kT, bT, gT⟩ := R.T
  have hr1 := hr.mono (show 1 ≤ 2 by decide)
  have hu : (A.deeper (envOfC "_law_after" (defScope sAfter) s.heap.objs.size f cdv)).units < cLine := by have := hr.units; omega
  obtain ⟨tl, pl, ql⟩ := af_three (outer := outer) (H := H) (E := E) R hr
  refine ⟨_, pss_cons (ps_for PassesOwn.never rfl (pi_range1 rfl R.mr (pa_cons (pe_op op_mul (pe_call GT hr1 rfl gT kT bT .nil pass0 (pa_cons (pv 0) (pa_cons pe_int pa_nil))) (pe_callTy call_int1 (by rfl) R.mi (by decide +kernel) (pa_cons (pe_cmpR op_eq (pv 4) pe_int (nomark _)) pa_nil))) pa_nil)) (pg_name (i := 6) scAfter.nd rfl (.inl rfl))
      (pss_one (ps_if (pt_cmpR (op_neNil (by exact hu)) (pv 5) (pe_lst pa_nil) (nomark _))
        (pss_cons (ps_set (i := 3) scAfter.nd rfl (.inl rfl) (pe_bm PySem.F.plainAttrs_list PySem.F.slot_list_pop PySem.F.type_list_pop mt_popAt (pv 5) (pa_cons (pe_call GT hr1 rfl gT kT bT .nil pass0 (pa_cons (pv 0) (pa_cons (pe_callB call_len_seq (by rfl) R.ml PySem.boot_len (pa_cons (pv 5) pa_nil)) pa_nil))) pa_nil)))
        (pss_cons (ps_set (i := 7) scAfter.nd rfl (.inl rfl) (pe_call GT hr1 rfl gT kT bT .nil pass0 (pa_cons (pv 0) (pa_cons (pe_op op_add (pe_callB call_len_seq (by rfl) R.ml PySem.boot_len (pa_cons (pv 5) pa_nil)) pe_int) pa_nil))))
        (pss_one (ps_set (i := 5) scAfter.nd rfl (.inl rfl) (pe_op op_cat (pe_op op_cat (pe_slice (r := rSlL K) sl_list (pv 5) po_none (po_some (pv 7))) (pe_lst (pa_cons (pv 3) pa_nil))) (pe_slice (r := rSlL K) sl_list (pv 5) (po_some (pv 7)) po_none)))))) pss_nil))) pl, ?_⟩
  intro De x3 x6 x7 x8 b l D m way k n0 ns ps H0 H1 h0 k0 B hk ix fD nD eD q
  refine ⟨_, rfl, b, 4, k, rfl, B, by omega, by decide, by decide, fun r H2 r0 r1 B2 k2 => ?_⟩
  obtain ⟨j, rfl, hj⟩ := draw_at (n := 4) r0 r1 rfl
  refine ⟨_, rfl, rfl, .inr ⟨_, rfl, _, _, rfl, rfl, .inl ⟨by omega, by omega⟩, ?_⟩⟩
  obtain ⟨c, hc, c4⟩ : ∃ c : Nat, ((j : Nat) : Int) * (if decide (V.int (way : Int) = V.int 1) = true then 1 else 0) = (c : Nat) ∧ c < 4 := by
    split
    · exact ⟨j, by omega, hj⟩
    · exact ⟨0, by omega, by omega⟩
  refine ⟨((c : Nat) : Int), ?_, by omega, by omega, ?_⟩
  · exact congrArg (fun z : Int => [V.int z]) hc
  rw [show ((c : Nat) : Int).toNat = c from rfl]
  have k02 := k0.trans k2
  refine for_range (lo := 0) (n := c) (fun i σ H3 => ∃ (D2 : Addr) (ms : List Int) (x3 x6 x7 : Option V), σ = [some (.ref b), some (.int (m : Int)), some (.ref l), x3, some (.int (way : Int)), some (.ref D2), x6, x7, x8] ∧ H0 D2 = none ∧ D2 ≠ b ∧ H3 D2 = some (.lst (ms.map V.int)) ∧ Ixs m ms ∧ BoxAt H3 b (k + 1 + 2 * i) ∧ But b H0 H3) ?_ ?_ ?_
  · exact ⟨D, ns, x3, x6, x7, rfl, fD, nD, k2 _ _ nD eD, ix, B2, k02⟩
  · rintro i σ H3 hi ⟨D2, ms, x3, x6, x7, rfl, fD2, nD2, e3, ix3, B3, k3⟩
    have lm := ix3.len
    have m80 := h0.m80
    refine ⟨_, rfl, (by decide), fun t ht => ?_⟩
    have e3' := Same.new (o := .lst []) ht _ _ e3
    have B3' := box_new (o := .lst []) B3 ht
    have k3' : But b H0 (upd H3 t (.lst [])) := k3.trans (But.new ht)
    have et : (upd H3 t (.lst [])) t = some (.lst []) := upd_same
    generalize upd H3 t (.lst []) = H4 at e3' B3' k3' et ⊢
    refine ⟨D2, t, _, rfl, rfl, .of e3', .of et, _, rfl, ?_⟩
    cases ms with
    | nil => exact iteF ⟨D2, [], x3, _, x7, rfl, fD2, nD2, e3', ix3, B3'.mono (by omega), k3'⟩
    | cons y ys =>
      have lyy : ((y :: ys).map V.int).length = (y :: ys).length := List.length_map ..
      have ly1 : (y :: ys).length = ys.length + 1 := rfl
      refine iteT ⟨_, rfl, .inl ⟨rfl, _, .of e3'⟩, _, rfl, _, rfl, D2, _, rfl, .inl (.of e3'), b, _, k + 1 + 2 * i, rfl, B3', by omega, ?_, ?_, fun r H5 r0 r1 B5 k5 => ?_⟩
      · omega
      · have : ((((y :: ys).map V.int).length : Nat) : Int) ≤ 200 := by omega
        exact Int.lt_of_le_of_lt this (by decide)
      obtain ⟨j2, rfl, hj2⟩ := draw_at (n := (y :: ys).length) r0 r1 (by omega)
      have e5 := k5 _ _ nD2 e3'
      refine ⟨D2, _, (j2 : Int), j2, .int ((y :: ys)[j2]), rfl, rfl, e5, by omega, by omega, ?_, ?_, ?_⟩
      · have := PySem.seqIndex_of (k := (j2 : Int)) (n := ((y :: ys).map V.int).length) (by omega) (by omega)
        rw [this]
        rfl
      · rw [List.getElem?_map, List.getElem?_eq_getElem hj2]
        rfl
      have pe := erase_perm hj2
      rw [erase_map]
      generalize (y :: ys)[j2] = v at pe ⊢
      have ix6 : Ixs m ((y :: ys).eraseIdx j2) := ⟨ix3.nd.sublist (List.eraseIdx_sublist ..), fun i hi => ix3.lo i (List.mem_of_mem_eraseIdx hi)⟩
      generalize (y :: ys).eraseIdx j2 = us at pe ix6 ⊢
      have lu : us.length + 1 = (y :: ys).length := by
        have := pe.length_eq
        rw [List.length_append, List.length_singleton] at this
        omega
      have k6 : But b H0 (upd H5 D2 (.lst (us.map V.int))) := but_upd (k3'.trans k5) fD2
      have B6 : BoxAt (upd H5 D2 (.lst (us.map V.int))) b (k + 1 + 2 * i + 1) := box_upd B5 nD2
      have e6 : (upd H5 D2 (.lst (us.map V.int))) D2 = some (.lst (us.map V.int)) := upd_same
      generalize upd H5 D2 (.lst (us.map V.int)) = H6 at k6 B6 e6 ⊢
      have lum : (us.map V.int).length = us.length := List.length_map ..
      refine ⟨_, rfl, _, rfl, D2, _, rfl, .inl (.of e6), _, _, rfl, rfl, b, _, k + 1 + 2 * i + 1, rfl, B6, by omega, ?_, ?_, fun r H7 r0 r1 B7 k7 => ?_⟩
      · omega
      · have : (((us.map V.int).length : Nat) : Int) + 1 ≤ 200 := by omega
        exact Int.lt_of_le_of_lt this (by decide)
      obtain ⟨j3, rfl, hj3⟩ := draw_at (n := (us.map V.int).length + 1) r0 r1 (by omega)
      have e7 := k7 _ _ nD2 e6
      have k07 := k6.trans k7
      refine ⟨_, rfl, _, rfl, _, rfl, D2, _, rfl, .of e7, fun a1 h1 => ?_⟩
      rw [cutV_take]
      have s1 := Same.new (o := .lst ((us.map V.int).take j3)) h1
      have f1 : (upd H7 a1 (.lst ((us.map V.int).take j3))) a1 = some (.lst ((us.map V.int).take j3)) := upd_same
      generalize upd H7 a1 (.lst ((us.map V.int).take j3)) = H8 at s1 f1 ⊢
      refine ⟨_, rfl, (by show 1 ≤ sizeLine; decide), fun a2 h2 => ?_⟩
      have s2 := Same.new (o := .lst [.int v]) h2
      have f2 : (upd H8 a2 (.lst [.int v])) a2 = some (.lst [.int v]) := upd_same
      generalize upd H8 a2 (.lst [.int v]) = H9 at s2 f2 ⊢
      refine ⟨a1, a2, _, _, rfl, rfl, s2 _ _ f1, f2, ?_, fun a3 h3 => ?_⟩
      · rw [List.length_take]
        exact Nat.le_of_lt (small1000 (by show min j3 (us.map V.int).length + 1 ≤ 1000; omega))
      have s3 := Same.new (o := .lst ((us.map V.int).take j3 ++ [.int v])) h3
      have f3 : (upd H9 a3 (.lst ((us.map V.int).take j3 ++ [.int v]))) a3 = some (.lst ((us.map V.int).take j3 ++ [.int v])) := upd_same
      generalize upd H9 a3 (.lst ((us.map V.int).take j3 ++ [.int v])) = HA at s3 f3 ⊢
      have s7A : Same H7 HA := (Same.trans (show Same H7 H8 from s1) s2).trans s3
      refine ⟨_, rfl, _, rfl, _, rfl, D2, _, rfl, .of (s7A _ _ e7), fun a4 h4 => ?_⟩
      rw [cutV_fr]
      have s4 := Same.new (o := .lst ((us.map V.int).drop j3)) h4
      have f4 : (upd HA a4 (.lst ((us.map V.int).drop j3))) a4 = some (.lst ((us.map V.int).drop j3)) := upd_same
      generalize upd HA a4 (.lst ((us.map V.int).drop j3)) = HB at s4 f4 ⊢
      refine ⟨a3, a4, _, _, rfl, rfl, s4 _ _ f3, f4, ?_, fun a5 h5 => ?_⟩
      · rw [List.length_append, List.length_take, List.length_drop]
        exact Nat.le_of_lt (small1000 (by show min j3 (us.map V.int).length + 1 + ((us.map V.int).length - j3) ≤ 1000; omega))
      have s7B : Same H7 HB := s7A.trans s4
      have BB : BoxAt HB b (k + 1 + 2 * (i + 1)) := (B7.keep fun o e => s7B _ _ e).mono (by omega)
      have kB : But b H0 HB := k07.trans (.same s7B)
      refine ⟨a5, us.take j3 ++ [v] ++ us.drop j3, _, _, _, rfl, free_of kB (box_ne BB h5) h5, box_ne BB h5, ?_, ?_, box_new BB h5, kB.trans (But.new h5)⟩
      · rw [upd_same, List.map_append, List.map_append, List.map_take, List.map_drop]
        rfl
      · exact ix3.perm ((ins_perm us j3 v).trans pe)
  · rintro σ H3 ⟨D2, ms, x3, x6, x7, rfl, fD2, nD2, e3, ix3, B3, k3⟩
    exact ql De x3 x6 x7 x8 b l D2 m way _ n0 ms ps H0 H3 h0 k3 B3 (by omega) ix3 nD2 e3 fun p H' qs ok hq lq hp e B' k' => q p H' qs ok hq lq hp e (B'.mono (by omega)) k'
theorem ok_after (F : Fun K "_law_after" "_law_after" sAfter f fd) (R : AfK P w K mg base) : FnOk P w K mg base CX0 3 f fd ["_law_box_here", "_law_before", "_law_rows_here"] spAfter := by
  refine F.ok scAfter (fun vs H Q E h => ?_) (fun cdv A outer s H vs Q E hr h => ?_)
  · obtain ⟨b, l, m, n, ps, rfl, _⟩ := h
    rfl
  · obtain ⟨b, l, m, n, ps, rfl, B, hn, hm, hl, hp, rws, few, nlb, q⟩ := h
    obtain ⟨fT, fdT, GT, kT, bT, gT⟩ := R.T
    obtain ⟨fM, fdM, GM, kM, bM, gM⟩ := R.M
    have hr1 := hr.mono (show 1 ≤ 2 by decide)
    obtain ⟨tl, pl, ql⟩ := af_two (outer := outer) (H := H) (E := E) R hr
    refine ⟨_, pss_cons (ps_par (i := 4) (j := 5) (by rfl) scAfter.nd rfl rfl (by decide) rfl rfl (pa_cons (pe_call GT hr1 rfl gT kT bT .nil pass0 (pa_cons (pv 0) (pa_cons pe_int pa_nil)))
        (pa_cons (pe_lc (own := [("_law_index", 3)]) (g := gName 3) (tt := tTest (tOp (rI0 fun i j => V.bl (decide (i > j))) (tCall spTake [] E0 (tCons (tVar 0) (tCons (tC (.int 4)) tNil))) (tC (.int 0)))) (by rfl) scAfter.nd (pi_range1 rfl R.mr (pa_cons (pv 1) pa_nil))
          (blkOk_by (own := [("_law_index", 3)]) (N := nAfter) (sc := defScope sAfter) (by decide +kernel)) (fun _ _ _ _ _ => pg_name (i := 3) scAfter.nd rfl (.inl rfl))
          (fun _ _ _ _ _ => pts_one (by exact pt_cmpR op_gt (pe_call GT hr1 rfl gT kT bT .nil pass0 (pa_cons (pv 0) (pa_cons pe_int pa_nil))) pe_int (nomark _))) (fun _ _ _ _ _ => pv 3)) pa_nil)) (by rfl))
      (pss_cons (ps_if (pt_cmpR op_eq (pv 4) pe_int (nomark _)) (pss_one (ps_set (i := 5) scAfter.nd rfl (.inl rfl) (pe_call GM hr rfl gM kM bM .nil pass0 (pa_cons (pv 0) (pa_cons (pv 5) pa_nil))))) pss_nil) pl), ?_⟩
    have h0 : AfH H b l m n ps := ⟨B, hm, hl, nlb, hp, rws, few⟩
    refine ⟨_, rfl, b, 4, n, rfl, B, by omega, by decide, by decide, fun r H1 r0 r1 B1 k1 => ?_⟩
    obtain ⟨way, rfl, hw⟩ := draw_at (n := 4) r0 r1 rfl
    refine ⟨_, rfl, _, rfl, by omega, by omega, fun D hD => ?_⟩
    have nD := box_ne B1 hD
    have fD := free_of k1 nD hD
    rw [Int.toNat_natCast m]
    refine lc_range (lo := 0) (n := m) (fun i H2 => ∃ ns : List Int, H2 D = some (.lst (ns.map V.int)) ∧ Ixs i ns ∧ BoxAt H2 b (n + 1 + i) ∧ But b H H2) ?_ ?_ ?_
    · exact ⟨[], upd_same, ⟨List.nodup_nil, fun _ h => nomatch h⟩, box_new B1 hD, but_upd k1 fD⟩
    · rintro i H2 hi ⟨ns, e2, ix, B2, k2⟩
      have nl := ix.len
      refine ⟨rfl, ?_⟩
      refine ⟨_, rfl, b, 4, n + 1 + i, rfl, B2, by omega, by decide, by decide, fun r H3 r0 r1 B3 k3 => ?_⟩
      refine ⟨_, _, rfl, rfl, _, rfl, ?_⟩
      have e3 := k3 _ _ nD e2
      have up : Ixs (i + 1) ns := ⟨ix.nd, fun j hj => by have := ix.lo j hj; omega⟩
      refine ite2 (fun _ => ?_) (fun _ => ?_)
      · refine ⟨_, rfl, _, e3, ?_, ns ++ [(0 + (i : Int))], ?_, ⟨?_, ?_⟩, box_upd B3 nD, but_upd (k2.trans k3) fD⟩
        · rw [List.length_map]
          exact small1000 (by omega)
        · rw [upd_same, List.map_append]
          rfl
        · refine List.nodup_append.mpr ⟨ix.nd, List.nodup_cons.mpr ⟨List.not_mem_nil, List.nodup_nil⟩, fun x hx y hy e => ?_⟩
          rw [List.mem_singleton.mp hy] at e
          have := ix.lo x hx
          omega
        · intro j hj
          rcases List.mem_append.mp hj with hj | hj
          · exact up.lo j hj
          · rw [List.mem_singleton.mp hj]
            omega
      · exact ⟨ns, e3, up, B3, k2.trans k3⟩
    rintro H2 ⟨ns, e2, ix, B2, k2⟩
    have nl := ix.len
    refine ⟨_, _, rfl, ?_⟩
    refine ⟨_, rfl, rfl, _, rfl, ite2 (fun _ => ?_) (fun _ => ?_)⟩
    · refine ⟨_, rfl, _, rfl, b, D, n + 1 + m, _, rfl, B2, ?_, .of e2, fun p H3 ys pm hp e3 B3 k3 => ?_⟩
      · rw [List.length_map]
        omega
      obtain ⟨ms, rfl, pm2⟩ := perm_pull V.int pm
      rw [List.length_map] at B3
      refine ql _ none none none none b l p m way (n + 1 + m + ns.length) n ms ps H H3 h0 (k2.trans k3) B3 (by omega) (ix.perm pm2) (free_of k2 (box_ne B2 hp) hp) (box_ne B2 hp) e3 fun p H' qs ok hq lq hp e B' k' => ?_
      exact q p H' qs ok hq lq hp e (B'.mono (by omega)) k'
    · refine ql _ none none none none b l D m way (n + 1 + m) n ns ps H H2 h0 k2 B2 (by omega) ix fD nD e2 fun p H' qs ok hq lq hp e B' k' => ?_
      exact q p H' qs ok hq lq hp e (B'.mono (by omega)) k'
end
end G
set_option Elab.async false
set_option linter.all false
set_option maxRecDepth 100000
set_option maxHeartbeats 2000000
/-! LI: the longest ascent, found by ranks: the mathematics. -/
namespace Lis
/-- a number, its rank -/
abbrev NR := Int × Nat
def rankIn (least : List Int) (n : Int) : Nat := (least.filter fun m => decide (m < n)).length
/-- the ranks of what was met, the least number of each rank -/
structure St (P : List NR) (least : List Int) : Prop where
  asc : least.Pairwise (· < ·)
  is : ∀ k m, least[k]? = some m → (m, k) ∈ P ∧ ∀ m', (m', k) ∈ P → m ≤ m'
  lt : ∀ p ∈ P, p.2 < least.length
  up : P.Pairwise fun p q => p.1 < q.1 → p.2 < q.2
  dn : ∀ pre m k post, P = pre ++ (m, k + 1) :: post → ∃ m', (m', k) ∈ pre ∧ m' < m
theorem st_nil : St [] [] := ⟨.nil, (fun k m h => by simp at h), (fun p h => nomatch h), .nil, fun pre m k post h => by simp at h⟩
theorem filter_asc : ∀ {l : List Int} {n : Int}, l.Pairwise (· < ·) → ∃ r, r ≤ l.length ∧ (l.filter fun m => decide (m < n)).length = r ∧ (∀ k m, k < r → l[k]? = some m → m < n) ∧ ∀ k m, r ≤ k → l[k]? = some m → n ≤ m
  | [], n, _ => ⟨0, Nat.le_refl _, rfl, (fun k m h => absurd h (Nat.not_lt_zero _)), fun k m _ h => by simp at h⟩
  | a :: l, n, h => by
    rw [List.pairwise_cons] at h
    obtain ⟨h1, h2⟩ := h
    obtain ⟨r, r1, r2, r3, r4⟩ := filter_asc (n := n) h2
    by_cases c : a < n
    · refine ⟨r + 1, Nat.succ_le_succ r1, ?_, fun k m hk e => ?_, fun k m hk e => ?_⟩
      · rw [List.filter_cons_of_pos (by exact decide_eq_true c), List.length_cons, r2]
      · cases k with
        | zero => cases e; exact c
        | succ k => exact r3 k m (Nat.lt_of_succ_lt_succ hk) e
      · cases k with
        | zero => exact absurd hk (Nat.not_succ_le_zero _)
        | succ k => exact r4 k m (Nat.le_of_succ_le_succ hk) e
    · have none_ : ∀ m ∈ l, ¬ m < n := fun m hm z => by
        have := h1 m hm
        omega
      refine ⟨0, Nat.zero_le _, ?_, fun k m hk => absurd hk (Nat.not_lt_zero _), fun k m _ e => ?_⟩
      · rw [List.filter_cons_of_neg (by simpa using c), List.filter_eq_nil_iff.mpr fun m hm => by simpa using none_ m hm]
        rfl
      · cases k with
        | zero => cases e; omega
        | succ k =>
          have := none_ m (List.mem_of_getElem? e)
          omega
theorem mem_last {P : List NR} {p q : NR} (h : P.Pairwise fun p q => p.1 < q.1 → p.2 < q.2) (hp : p ∈ P) : P.Pairwise fun p q => p.1 < q.1 → p.2 < q.2 := h
/-- the state behind one number more -/
theorem st_step {P : List NR} {least : List Int} {n : Int} (h : St P least) (nw : ∀ p ∈ P, p.1 ≠ n) :
    St (P ++ [(n, rankIn least n)]) (least.take (rankIn least n) ++ n :: least.drop (rankIn least n + 1)) ∧ rankIn least n ≤ least.length := by
  obtain ⟨r, r1, r2, r3, r4⟩ := filter_asc (n := n) h.asc
  have er : rankIn least n = r := r2
  rw [er]
  have r4' : ∀ k m, r ≤ k → least[k]? = some m → n < m := fun k m hk e => by
    have h1 := r4 k m hk e
    have h2 := nw _ (h.is k m e).1
    dsimp only at h2
    omega
  have len' : (least.take r ++ n :: least.drop (r + 1)).length = max least.length (r + 1) := by
    rw [List.length_append, List.length_cons, List.length_take, List.length_drop]
    omega
  have at' : ∀ k m, (least.take r ++ n :: least.drop (r + 1))[k]? = some m → (k = r ∧ m = n) ∨ (k ≠ r ∧ least[k]? = some m) := fun k m e => by
    by_cases c : k < r
    · rw [List.getElem?_append_left (by rw [List.length_take]; omega), List.getElem?_take, if_pos c] at e
      exact .inr ⟨by omega, e⟩
    · rw [List.getElem?_append_right (by rw [List.length_take]; omega), List.length_take, Nat.min_eq_left r1] at e
      by_cases c2 : k = r
      · rw [c2, Nat.sub_self] at e
        cases e
        exact .inl ⟨c2, rfl⟩
      · obtain ⟨j, rfl⟩ : ∃ j, k = r + 1 + j := ⟨k - (r + 1), by omega⟩
        rw [show r + 1 + j - r = j + 1 by omega, List.getElem?_cons_succ, List.getElem?_drop] at e
        exact .inr ⟨c2, e⟩
  refine ⟨⟨?_, ?_, ?_, ?_, ?_⟩, r1⟩
  · rw [List.pairwise_iff_getElem]
    intro i j hi hj hij
    have ei := List.getElem?_eq_getElem hi
    have ej := List.getElem?_eq_getElem hj
    have asc := List.pairwise_iff_getElem.mp h.asc
    rcases at' i _ ei with ⟨a1, a2⟩ | ⟨a1, a2⟩ <;> rcases at' j _ ej with ⟨b1, b2⟩ | ⟨b1, b2⟩
    · omega
    · rw [a2]
      exact r4' j _ (by omega) b2
    · rw [b2]
      exact r3 i _ (by omega) a2
    · obtain ⟨u1, u2⟩ := List.getElem?_eq_some_iff.mp a2
      obtain ⟨v1, v2⟩ := List.getElem?_eq_some_iff.mp b2
      rw [← u2, ← v2]
      exact asc i j u1 v1 hij
  · intro k m e
    rcases at' k m e with ⟨a1, a2⟩ | ⟨a1, a2⟩
    · subst a1 a2
      refine ⟨List.mem_append_right _ List.mem_cons_self, fun m' hm' => ?_⟩
      rcases List.mem_append.mp hm' with hm' | hm'
      · have hk := h.lt _ hm'
        have e2 : least[k]? = some least[k] := List.getElem?_eq_getElem hk
        have h1 := (h.is k _ e2).2 m' hm'
        have h2 := r4' k _ (Nat.le_refl _) e2
        omega
      · have := List.mem_singleton.mp hm'
        injection this with e1 _
        rw [e1]
        exact Int.le_refl _
    · obtain ⟨g1, g2⟩ := h.is k m a2
      refine ⟨List.mem_append_left _ g1, fun m' hm' => ?_⟩
      rcases List.mem_append.mp hm' with hm' | hm'
      · exact g2 m' hm'
      · have := List.mem_singleton.mp hm'
        injection this with _ e2
        exact absurd e2 a1
  · intro p hp
    rw [len']
    rcases List.mem_append.mp hp with hp | hp
    · have := h.lt p hp
      omega
    · rw [List.mem_singleton.mp hp]
      show r < _
      omega
  · refine List.pairwise_append.mpr ⟨h.up, .cons (fun _ z => nomatch z) .nil, fun p hp q hq c => ?_⟩
    rw [List.mem_singleton.mp hq] at c ⊢
    show p.2 < r
    have hk := h.lt p hp
    have e2 : least[p.2]? = some least[p.2] := List.getElem?_eq_getElem hk
    have h1 := (h.is p.2 _ e2).2 p.1 hp
    by_cases z : p.2 < r
    · exact z
    · have h2 := r4' p.2 _ (by omega) e2
      have c' : p.1 < n := c
      omega
  · intro pre m k post e
    rcases List.eq_nil_or_concat post with z | ⟨post', y, z⟩
    · rw [z] at e
      have e' : P ++ [(n, r)] = pre ++ [(m, k + 1)] := e
      obtain ⟨e1, e2⟩ := List.append_inj' e' rfl
      injection e2 with e2 _
      injection e2 with e2 e3
      subst e1 e2
      have hk : k < least.length := by omega
      have e4 : least[k]? = some least[k] := List.getElem?_eq_getElem hk
      exact ⟨_, (h.is k _ e4).1, r3 k _ (by omega) e4⟩
    · rw [z, List.concat_eq_append, ← List.cons_append, ← List.append_assoc] at e
      obtain ⟨e1, _⟩ := List.append_inj' e rfl
      exact h.dn pre m k post' e1
/-! ### what is picked from behind -/
def pick : List NR → Int → List Int
  | [], _ => []
  | p :: t, w => if (p.2 : Int) = w then p.1 :: pick t (w - 1) else pick t w
theorem pick_neg : ∀ {t : List NR} {w : Int}, w < 0 → pick t w = []
  | [], _, _ => rfl
  | p :: t, w, h => by
    unfold pick
    rw [if_neg (by omega), pick_neg h]
structure Pk (P : List NR) (w : Nat) : Prop where
  len : (pick P.reverse (w : Int)).length = w + 1
  desc : (pick P.reverse (w : Int)).Pairwise (· > ·)
  hd : ∃ a t, pick P.reverse (w : Int) = a :: t ∧ ∀ m, (m, w) ∈ P → a ≤ m
theorem pick_ok : ∀ (P : List NR), (P.Pairwise fun p q => p.1 < q.1 → p.2 < q.2) → (∀ pre m k post, P = pre ++ (m, k + 1) :: post → ∃ m', (m', k) ∈ pre ∧ m' < m) → ∀ w : Nat, (∃ m, (m, w) ∈ P) → Pk P w := by
  have gen : ∀ (n : Nat) (P : List NR), P.length = n → (P.Pairwise fun p q => p.1 < q.1 → p.2 < q.2) → (∀ pre m k post, P = pre ++ (m, k + 1) :: post → ∃ m', (m', k) ∈ pre ∧ m' < m) → ∀ w : Nat, (∃ m, (m, w) ∈ P) → Pk P w := by
    intro n
    induction n with
    | zero =>
      intro P hl _ _ w ⟨m, hm⟩
      rw [List.length_eq_zero_iff.mp hl] at hm
      exact nomatch hm
    | succ n ih =>
      intro P hl up dn w ⟨m, hm⟩
      rcases List.eq_nil_or_concat P with z | ⟨P', p, z⟩
      · rw [z] at hl
        cases hl
      rw [List.concat_eq_append] at z
      subst z
      rw [List.length_append, List.length_singleton] at hl
      have up' := (List.pairwise_append.mp up).1
      have upx := (List.pairwise_append.mp up).2.2
      have dn' : ∀ pre m k post, P' = pre ++ (m, k + 1) :: post → ∃ m', (m', k) ∈ pre ∧ m' < m := fun pre m k post e => dn pre m k (post ++ [p]) (by rw [e, List.append_assoc]; rfl)
      have ih' := ih P' (by omega) up' dn'
      have erev : (P' ++ [p]).reverse = p :: P'.reverse := by rw [List.reverse_append]; rfl
      by_cases c : p.2 = w
      · have e1 : pick (P' ++ [p]).reverse (w : Int) = p.1 :: pick P'.reverse ((w : Int) - 1) := by
          rw [erev]
          show (if (p.2 : Int) = w then _ else _) = _
          rw [if_pos (by rw [c])]
        have hd : ∀ m, (m, w) ∈ P' ++ [p] → p.1 ≤ m := fun m hm => by
          rcases List.mem_append.mp hm with hm | hm
          · have := upx _ hm p List.mem_cons_self
            by_cases q : m < p.1
            · have := this q
              dsimp only at this
              omega
            · omega
          · have := List.mem_singleton.mp hm
            rw [← this]
            exact Int.le_refl _
        cases w with
        | zero =>
          have e2 : pick P'.reverse (((0 : Nat) : Int) - 1) = [] := pick_neg (by decide)
          rw [e2] at e1
          exact ⟨by rw [e1]; rfl, by rw [e1]; exact .cons (fun _ h => nomatch h) .nil, p.1, [], e1, hd⟩
        | succ w =>
          have e2 : ((w + 1 : Nat) : Int) - 1 = (w : Int) := by omega
          rw [e2] at e1
          obtain ⟨m', hm', lm⟩ := dn P' p.1 w [] (by rw [← c])
          obtain ⟨k1, k2, a, t, ea, ha⟩ := ih' w ⟨m', hm'⟩
          refine ⟨by rw [e1, List.length_cons, k1], ?_, p.1, _, e1, hd⟩
          rw [e1, List.pairwise_cons]
          refine ⟨fun b hb => ?_, k2⟩
          have h1 := ha m' hm'
          rw [ea] at hb k2
          rcases List.mem_cons.mp hb with rfl | hb
          · omega
          · have := (List.pairwise_cons.mp k2).1 b hb
            omega
      · have e1 : pick (P' ++ [p]).reverse (w : Int) = pick P'.reverse (w : Int) := by
          rw [erev]
          show (if (p.2 : Int) = w then _ else _) = _
          rw [if_neg (by omega)]
        have hm2 : (m, w) ∈ P' := by
          rcases List.mem_append.mp hm with hm | hm
          · exact hm
          · have := List.mem_singleton.mp hm
            exact absurd (by rw [← this]) c
        obtain ⟨k1, k2, a, t, ea, ha⟩ := ih' w ⟨m, hm2⟩
        refine ⟨by rw [e1]; exact k1, by rw [e1]; exact k2, a, t, e1.trans ea, fun m' hm' => ?_⟩
        rcases List.mem_append.mp hm' with hm' | hm'
        · exact ha m' hm'
        · have := List.mem_singleton.mp hm'
          exact absurd (by rw [← this]) c
  exact fun P => gen P.length P rfl
theorem pick_sub : ∀ (t : List NR) (w : Int), (pick t w).Sublist (t.map (·.1))
  | [], _ => .slnil
  | p :: t, w => by
    unfold pick
    split
    · exact .cons₂ _ (pick_sub t _)
    · exact .cons _ (pick_sub t _)
/-- the greatest rank, -1 of none -/
def topR (P : List NR) : Int := (P.map (·.2)).foldl (fun (a : Int) (r : Nat) => if (r : Int) > a then (r : Int) else a) (-1)
theorem top_fold : ∀ (l : List Nat) (a : Int), (∀ r ∈ l, (r : Int) ≤ l.foldl (fun (a : Int) (r : Nat) => if (r : Int) > a then (r : Int) else a) a) ∧ a ≤ l.foldl (fun (a : Int) (r : Nat) => if (r : Int) > a then (r : Int) else a) a ∧
    (l.foldl (fun (a : Int) (r : Nat) => if (r : Int) > a then (r : Int) else a) a = a ∨ ∃ r ∈ l, l.foldl (fun (a : Int) (r : Nat) => if (r : Int) > a then (r : Int) else a) a = (r : Int))
  | [], a => ⟨(fun _ h => nomatch h), Int.le_refl _, .inl rfl⟩
  | r :: l, a => by
    rw [List.foldl_cons]
    obtain ⟨h1, h2, h3⟩ := top_fold l (if (r : Int) > a then (r : Int) else a)
    refine ⟨fun s hs => ?_, ?_, ?_⟩
    · rcases List.mem_cons.mp hs with rfl | hs
      · refine Int.le_trans ?_ h2
        split <;> omega
      · exact h1 s hs
    · refine Int.le_trans ?_ h2
      split <;> omega
    · rcases h3 with h3 | ⟨s, hs, h3⟩
      · by_cases c : (r : Int) > a
        · rw [if_pos c] at h3 ⊢
          exact .inr ⟨r, List.mem_cons_self, h3⟩
        · rw [if_neg c] at h3 ⊢
          exact .inl h3
      · exact .inr ⟨s, List.mem_cons_of_mem _ hs, h3⟩
/-- the longest ascent of numbers with their ranks -/
def asc (P : List NR) : List Int := (pick P.reverse (topR P)).reverse
theorem nats_len : ∀ {l : List Nat} {w : Nat}, l.Pairwise (· < ·) → (∀ r ∈ l, r ≤ w) → l.length ≤ w + 1 := by
  have gen : ∀ (l : List Nat) (a w : Nat), l.Pairwise (· < ·) → (∀ r ∈ l, a ≤ r ∧ r ≤ w) → l.length ≤ w + 1 - a := by
    intro l
    induction l with
    | nil => exact fun _ _ _ _ => Nat.zero_le _
    | cons r l ih =>
      intro a w h hr
      rw [List.pairwise_cons] at h
      have h1 := hr r List.mem_cons_self
      have := ih (r + 1) w h.2 fun s hs => ⟨h.1 s hs, (hr s (List.mem_cons_of_mem _ hs)).2⟩
      rw [List.length_cons]
      omega
  intro l w h hr
  exact gen l 0 w h fun r hr' => ⟨Nat.zero_le _, hr r hr'⟩
structure Best (ns A : List Int) : Prop where
  sub : A.Sublist ns
  asc : A.Pairwise (· < ·)
  top : ∀ B : List Int, B.Sublist ns → B.Pairwise (· < ·) → B.length ≤ A.length
theorem sub_lift : ∀ {P : List NR} {B : List Int}, B.Sublist (P.map (·.1)) → ∃ Q : List NR, Q.Sublist P ∧ Q.map (·.1) = B
  | [], B, h => by
    cases h
    exact ⟨[], .slnil, rfl⟩
  | p :: P, B, h => by
    rw [List.map_cons] at h
    cases h with
    | cons _ h =>
      obtain ⟨Q, h1, h2⟩ := sub_lift h
      exact ⟨Q, .cons _ h1, h2⟩
    | cons_cons _ h =>
      obtain ⟨Q, h1, h2⟩ := sub_lift h
      exact ⟨p :: Q, .cons₂ _ h1, by rw [List.map_cons, h2]⟩
theorem asc_best {P : List NR} {least : List Int} (h : St P least) : Best (P.map (·.1)) (asc P) := by
  obtain ⟨t1, t2, t3⟩ := top_fold (P.map (·.2)) (-1)
  have bnd : ∀ p ∈ P, (p.2 : Int) ≤ topR P := fun p hp => t1 p.2 (List.mem_map_of_mem hp)
  have sub : (asc P).Sublist (P.map (·.1)) := by
    have := (pick_sub P.reverse (topR P)).reverse
    rw [List.map_reverse, List.reverse_reverse] at this
    exact this
  have cnt : ∀ B : List Int, B.Sublist (P.map (·.1)) → B.Pairwise (· < ·) → ∀ w : Nat, topR P = (w : Int) → B.length ≤ w + 1 := fun B hB hp w hw => by
    obtain ⟨Q, q1, q2⟩ := sub_lift hB
    have up := h.up.sublist q1
    rw [← q2, List.pairwise_map] at hp
    have pw : (Q.map (·.2)).Pairwise (· < ·) := by
      rw [List.pairwise_map]
      exact List.Pairwise.imp₂ (fun a b f g => f g) up hp
    have := nats_len (w := w) pw fun r hr => by
      obtain ⟨q, hq, rfl⟩ := List.mem_map.mp hr
      have := bnd q (q1.subset hq)
      omega
    rw [← q2, List.length_map]
    rw [List.length_map] at this
    exact this
  rcases t3 with t3 | ⟨r, hr, t3⟩
  · have e : P = [] := by
      cases P with
      | nil => rfl
      | cons p P =>
        have := bnd p List.mem_cons_self
        have e2 : topR (p :: P) = -1 := t3
        omega
    subst e
    refine ⟨sub, ?_, fun B hB _ => ?_⟩
    · exact .nil
    · cases hB
      exact Nat.le_refl _
  · have e2 : topR P = (r : Int) := t3
    obtain ⟨p, hp, rfl⟩ := List.mem_map.mp hr
    obtain ⟨k1, k2, _⟩ := pick_ok P h.up h.dn p.2 ⟨p.1, hp⟩
    refine ⟨sub, ?_, fun B hB hb => ?_⟩
    · unfold asc
      rw [e2, List.pairwise_reverse]
      exact k2
    · have := cnt B hB hb p.2 e2
      unfold asc
      rw [e2, List.length_reverse, k1]
      exact this
/-! ### how long it is -/
theorem best_all {ns A : List Int} (h : Best ns A) (a : ns.Pairwise (· < ·)) : A.length = ns.length := Nat.le_antisymm h.sub.length_le (h.top ns (.refl _) a)
theorem best_one {ns A B : List Int} (h : Best ns A) (hB : B.Sublist ns) (b : B.Pairwise (· < ·)) (l : B.length + 1 = ns.length) (n : ¬ ns.Pairwise (· < ·)) : A.length + 1 = ns.length := by
  have h1 := h.top B hB b
  have h2 := h.sub.length_le
  by_cases e : A.length = ns.length
  · exact absurd (by rw [← h.sub.eq_of_length e]; exact h.asc) n
  · omega
end Lis
set_option Elab.async false
set_option linter.all false
set_option maxRecDepth 100000
set_option maxHeartbeats 2000000
/-! ZL: list(zip(a, b)) of two lists. -/
namespace ZlL
open PySem PySem.Spec PyProof.Rows L2 L2.DX
theorem zip_no_len : typeLookup (.type "zip") "__len__" = pure none := by rw [typeLookup_type, builtinLookup_eq_fast]; kernel_rfl
theorem zip_no_hint : typeLookup (.type "zip") "__length_hint__" = pure none := by rw [typeLookup_type, builtinLookup_eq_fast]; kernel_rfl
/-- pairs at ts, of xs and ys -/
def PairsUp (h : Heap) (xs ys : Array Value) (ts : List Addr) : Prop := ∀ (j : Nat) T, ts[j]? = some T → ∃ x y, xs[j]? = some x ∧ ys[j]? = some y ∧ IsPair h T x y
section
variable {prog : Program} {w : World} {A : Around} {R : Result → Shared → Prop} {z TI TO i1 i2 l1 l2 S : Addr} {xs ys : Array Value} {n : Nat} {h0 : Heap}
/-- where the loop stands behind i turns -/
structure At (h0 h : Heap) (z TI TO i1 i2 l1 l2 S : Addr) (xs ys : Array Value) (i : Nat) (ts : List Addr) (acc : Array Value) (c : Nat) : Prop where
  zip : (IsZip h z TI TO .none ∧ ∃ a b, IsPair h TO a b) ∨ ∃ T f oT, IsZipHeld h z TI TO T f ∧ h.get? T = some oT ∧ T ≠ z ∧ T ≠ i1 ∧ T ≠ i2 ∧ T ≠ S
  ti : IsPair h TI (.ref i1) (.ref i2)
  a1 : h.IsListIter i1 l1 i
  a2 : h.IsListIter i2 l2 i
  b1 : h.IsList l1 xs
  b2 : h.IsList l2 ys
  s : h.get? S = some { cls := .type "list", dict := none, data := .seq acc c, slots := #[] }
  acc : acc.toList = ts.map Value.ref
  len : ts.length = i
  up : ∀ T ∈ ts, h0.objs.size ≤ T ∧ T < h.objs.size ∧ T ≠ S ∧ T ≠ z ∧ T ≠ TO ∧ T ≠ i1 ∧ T ≠ i2
  rise : ts.Pairwise (· < ·)
  pr : PairsUp h xs ys ts
  keep : ∀ b o, b ≠ z → b ≠ TO → b ≠ i1 → b ≠ i2 → b ≠ S → h0.get? b = some o → h.get? b = some o
  big : h0.objs.size ≤ h.objs.size
/-- behind the loop -/
structure Done (h0 h : Heap) (z TO i1 i2 S : Addr) (xs ys : Array Value) (n : Nat) (ts : List Addr) (acc : Array Value) (c : Nat) : Prop where
  s : h.get? S = some { cls := .type "list", dict := none, data := .seq acc c, slots := #[] }
  acc : acc.toList = ts.map Value.ref
  len : ts.length = n
  up : ∀ T ∈ ts, h0.objs.size ≤ T ∧ T ≠ S
  rise : ts.Pairwise (· < ·)
  pr : PairsUp h xs ys ts
  keep : ∀ b o, b ≠ z → b ≠ TO → b ≠ i1 → b ≠ i2 → b ≠ S → h0.get? b = some o → h.get? b = some o
theorem At.done {h h' : Heap} {i : Nat} {ts : List Addr} {acc : Array Value} {c : Nat} (st : At h0 h z TI TO i1 i2 l1 l2 S xs ys i ts acc c) (zS : z ≠ S) (i1S : i1 ≠ S) (i2S : i2 ≠ S) (TOS : TO ≠ S)
    (k : ∀ b o, b ≠ z → b ≠ TO → b ≠ i1 → b ≠ i2 → h.get? b = some o → h'.get? b = some o) : Done h0 h' z TO i1 i2 S xs ys i ts acc c := by
  refine ⟨k _ _ zS.symm TOS.symm i1S.symm i2S.symm st.s, st.acc, st.len, fun T hT => ⟨(st.up T hT).1, (st.up T hT).2.2.1⟩, st.rise, fun j U hU => ?_, fun b o e1 e2 e3 e4 e5 e6 => k b o e1 e2 e3 e4 (st.keep b o e1 e2 e3 e4 e5 e6)⟩
  obtain ⟨x', y', q1, q2, q3⟩ := st.pr j U hU
  obtain ⟨_, _, r1, r2, r3, r4, r5⟩ := st.up U (List.mem_of_getElem? hU)
  exact ⟨x', y', q1, q2, k _ _ r2 r3 r4 r5 q3⟩
theorem At.wrote {h h' : Heap} {i : Nat} {ts : List Addr} {acc acc' : Array Value} {c c' : Nat} {T : Addr} {x y : Value} (D : ZipApart z TI TO i1 i2 l1 l2) (st : At h0 h z TI TO i1 i2 l1 l2 S xs ys i ts acc c) (l1S : l1 ≠ S) (l2S : l2 ≠ S) (zS : z ≠ S) (TIS : TI ≠ S) (i1S : i1 ≠ S) (i2S : i2 ≠ S) (TOS : TO ≠ S)
    (k : ∀ b o, b ≠ z → b ≠ TO → b ≠ i1 → b ≠ i2 → b ≠ S → h.get? b = some o → h'.get? b = some o) (hz : ∃ T f oT, IsZipHeld h' z TI TO T f ∧ h'.get? T = some oT ∧ T ≠ z ∧ T ≠ i1 ∧ T ≠ i2 ∧ T ≠ S) (a1 : h'.IsListIter i1 l1 (i + 1)) (a2 : h'.IsListIter i2 l2 (i + 1))
    (hs : h'.get? S = some { cls := .type "list", dict := none, data := .seq acc' c', slots := #[] }) (ha : acc' = acc.push (.ref T)) (hT : T = h.objs.size) (hp : IsPair h' T x y) (hx : xs[i]? = some x) (hy : ys[i]? = some y) (zl : h.get? z ≠ none) (TOl : ∃ o, h.get? TO = some o) (sz : h'.objs.size = h.objs.size + 1) :
    At h0 h' z TI TO i1 i2 l1 l2 S xs ys (i + 1) (ts ++ [T]) acc' c' := by
  have lt : ∀ {b o}, h.get? b = some o → T ≠ b := fun e => by
    rw [hT]
    exact Nat.ne_of_gt (Heap.lt_size e)
  obtain ⟨oz, ez⟩ := Option.ne_none_iff_exists'.mp zl
  obtain ⟨oTO, eTO⟩ := TOl
  have n1 : T ≠ i1 := let ⟨_, e, _⟩ := st.a1; lt e
  have n2 : T ≠ i2 := let ⟨_, e, _⟩ := st.a2; lt e
  refine ⟨.inr hz, k _ _ D.TIz D.TITO D.TIi1 D.TIi2 TIS st.ti, a1, a2, st.b1.at fun o e => k _ o D.l1z D.l1TO D.l1i1 D.l1i2 l1S e, st.b2.at fun o e => k _ o D.l2z D.l2TO D.l2i1 D.l2i2 l2S e, hs, ?_, ?_, fun U hU => ?_, ?_, fun j U hU => ?_, fun b o e1 e2 e3 e4 e5 e6 => k b o e1 e2 e3 e4 e5 (st.keep b o e1 e2 e3 e4 e5 e6), by rw [sz]; exact Nat.le_succ_of_le st.big⟩
  · rw [ha, Array.toList_push, st.acc, List.map_append]
    rfl
  · rw [List.length_append, st.len]
    rfl
  · rcases List.mem_append.mp hU with h | h
    · obtain ⟨q1, q2, q3⟩ := st.up U h
      exact ⟨q1, by rw [sz]; exact Nat.lt_succ_of_lt q2, q3⟩
    · rw [List.mem_singleton.mp h]
      exact ⟨by rw [hT]; exact st.big, by rw [sz, hT]; exact Nat.lt_succ_self _, lt st.s, lt ez, lt eTO, n1, n2⟩
  · refine List.pairwise_append.mpr ⟨st.rise, List.pairwise_singleton _ _, fun a ha' b hb => ?_⟩
    rw [List.mem_singleton.mp hb, hT]
    exact (st.up a ha').2.1
  · rcases Nat.lt_or_ge j ts.length with h | h
    · rw [List.getElem?_append_left h] at hU
      obtain ⟨x', y', q1, q2, q3⟩ := st.pr j U hU
      obtain ⟨_, _, r1, r2, r3, r4, r5⟩ := st.up U (List.mem_of_getElem? hU)
      exact ⟨x', y', q1, q2, k _ _ r2 r3 r4 r5 r1 q3⟩
    · rw [List.getElem?_append_right h] at hU
      have hj : j - ts.length = 0 := by
        have := (List.getElem?_eq_some_iff.mp hU).1
        rw [List.length_singleton] at this
        omega
      rw [hj] at hU
      have eU : T = U := Option.some.inj hU
      have ej : j = i := by rw [← st.len]; omega
      rw [← eU, ej]
      exact ⟨x, y, hx, hy, hp⟩
theorem loop (hh : A.handled = none) (D : ZipApart z TI TO i1 i2 l1 l2) (l1S : l1 ≠ S) (l2S : l2 ≠ S) (zS : z ≠ S) (TIS : TI ≠ S) (i1S : i1 ≠ S) (i2S : i2 ≠ S) (TOS : TO ≠ S) (hx : xs.size = n) (hy : ys.size = n) (hn : n ≤ 100000) (res : Value) :
    ∀ (k i : Nat) (s : Shared) (ts : List Addr) (acc : Array Value) (c : Nat), n - i = k → i ≤ n → (∃ o, s.heap.get? TO = some o) → At h0 s.heap z TI TO i1 i2 l1 l2 S xs ys i ts acc c →
    (∀ (h' : Heap) (ts' : List Addr) (acc' : Array Value) (c' : Nat), Done h0 h' z TO i1 i2 S xs ys n ts' acc' c' → R (.ok (.ret res)) { s with heap := h' }) →
    codeAny (model prog w) A (.builtin "list.extend.loop" ⟨[.ref S, .ref z, res], []⟩) R s := by
  intro k
  induction k with
  | zero =>
    intro i s ts acc c hk hi TOl st hR
    have hin : i = n := by omega
    subst hin
    refine codeAny_builtin PySem.F.entry_extend_loop ?_
    rw [Around.under_plainId PySem.F.plain_extend_loop _]
    show wpAny _ A.in1 (pyNext (.ref z) >>= _) _ _ s
    have hend : xs[i]? = none ∨ ys[i]? = none := .inl (Array.getElem?_eq_none (by omega))
    rcases st.zip with ⟨hz, a, b, hTO⟩ | ⟨T, f, oT, hz, hT, r1, r2, r3, r4⟩
    · refine wpAny_bind (wpAny_pyNext_zip_end hh D hz st.ti hTO st.a1 st.a2 st.b1 st.b2 hend fun h' hk => ?_)
      exact wpAny_pure (hR h' ts acc c (st.done zS i1S i2S TOS hk))
    · refine wpAny_bind (wpAny_pyNext_zip_end_held hh D hz hT st.ti st.a1 st.a2 st.b1 st.b2 hend fun h' hk => ?_)
      exact wpAny_pure (hR h' ts acc c (st.done zS i1S i2S TOS fun b o e1 _ e3 e4 e => hk b o e1 e3 e4 e))
  | succ k ih =>
    intro i s ts acc c hk hi TOl st hR
    have hlt : i < n := by omega
    refine codeAny_builtin PySem.F.entry_extend_loop ?_
    rw [Around.under_plainId PySem.F.plain_extend_loop _]
    show wpAny _ A.in1 (pyNext (.ref z) >>= _) _ _ s
    have ex : xs[i]? = some xs[i] := Array.getElem?_eq_getElem (by omega)
    have ey : ys[i]? = some ys[i] := Array.getElem?_eq_getElem (by omega)
    obtain ⟨oTO, eTO⟩ := TOl
    have lz : ∃ oz, s.heap.get? z = some oz := by
      rcases st.zip with ⟨hz, _⟩ | ⟨_, _, _, hz, _⟩
      · exact ⟨_, hz⟩
      · exact ⟨_, hz⟩
    obtain ⟨oz, ez⟩ := lz
    have lt : ∀ {b o}, s.heap.get? b = some o → s.heap.objs.size ≠ b := fun e => Nat.ne_of_gt (Heap.lt_size e)
    have m1 : s.heap.objs.size ≠ i1 := let ⟨_, e, _⟩ := st.a1; lt e
    have m2 : s.heap.objs.size ≠ i2 := let ⟨_, e, _⟩ := st.a2; lt e
    have la : acc.size = i := by rw [← Array.length_toList, st.acc, List.length_map, st.len]
    -- the list is written
    have go : ∀ (f : Bool) (U : Addr) (oU : Obj) (h' : Heap), IsZipHeld h' z TI TO U f → h'.get? U = some oU → U ≠ z → U ≠ i1 → U ≠ i2 → U ≠ S → h'.IsListIter i1 l1 (i + 1) → h'.IsListIter i2 l2 (i + 1) → IsPair h' s.heap.objs.size xs[i] ys[i] → h'.objs.size = s.heap.objs.size + 1 → (∃ o, h'.get? TO = some o) →
        (∀ b o, b ≠ z → b ≠ TO → b ≠ i1 → b ≠ i2 → s.heap.get? b = some o → h'.get? b = some o) →
        wpAny (model prog w) A.in1 (updateSeq S (·.push (.ref s.heap.objs.size)) >>= fun _ => again (.builtin "list.extend.loop" ⟨[.ref S, .ref z, res], []⟩))
          (fun fin s' => match fin with | .done f => R (.ok f) s' | .again c' => c'.quiet = true ∧ codeAny (model prog w) A c' R s') (fun e s' => R (.error e) s') { s with heap := h' } := by
      intro f U oU h' q1 q2 q3 q4 q5 qS q6 q7 q8 q9 qT q10
      have hS' := q10 _ _ zS.symm TOS.symm i1S.symm i2S.symm st.s
      refine wpAny_bind (wpAny_updateSeq hS' rfl (wpAny_pure ⟨plainId_quiet PySem.F.plain_extend_loop _, ?_⟩) (by rw [la]; rw [sizeLine_eq]; omega) (by show (acc.push _).size ≤ sizeLine + 1; rw [Array.size_push, la, sizeLine_eq]; omega))
      have oth : ∀ b o, b ≠ S → h'.get? b = some o → (h'.update S (Obj.mapSeq (·.push (.ref s.heap.objs.size)))).get? b = some o := fun b o hb e => (Heap.get?_update_other _ _ (Ne.symm hb)).trans e
      obtain ⟨oTO', eTO'⟩ := qT
      refine ih (i + 1) { s with heap := h'.update S (Obj.mapSeq (·.push (.ref s.heap.objs.size))) } (ts ++ [s.heap.objs.size]) (acc.push (.ref s.heap.objs.size)) _ (by omega) hlt ⟨oTO', oth _ _ TOS eTO'⟩ (st.wrote D l1S l2S zS TIS i1S i2S TOS (fun b o e1 e2 e3 e4 e5 e => oth b o e5 (q10 b o e1 e2 e3 e4 e)) ⟨U, f, oU, oth _ _ zS q1, oth _ _ qS q2, q3, q4, q5, qS⟩ (q6.at fun o e => oth _ o i1S e) (q7.at fun o e => oth _ o i2S e)
        (Heap.get?_update_self _ hS' rfl) rfl rfl (oth _ _ (lt st.s) q8) ex ey (by rw [ez]; exact fun z => nomatch z) ⟨_, eTO⟩ ?_) hR
      show (h'.update S _).objs.size = _
      rw [Heap.size_update]
      exact q9
    rcases st.zip with ⟨hz, a, b, hTO⟩ | ⟨T, f, oT, hz, hT, r1, r2, r3, r4⟩
    · refine wpAny_bind (wpAny_pyNext_zip_item D hz st.ti hTO st.a1 st.a2 st.b1 st.b2 ex ey fun h' a1 a2 a3 a4 a5 a6 hk => ?_)
      exact go false s.heap.objs.size _ h' a1 a5 (lt ez) m1 m2 (lt st.s) a3 a4 a5 a6 ⟨_, a2⟩ hk
    · refine wpAny_bind (wpAny_pyNext_zip_item_held D hz hT st.ti st.a1 st.a2 st.b1 st.b2 ex ey fun h' a1 a3 a4 a5 a6 hk => ?_)
      exact go true T oT h' a1 (hk _ _ r1 r2 r3 hT) r1 r2 r3 r4 a3 a4 a5 a6 ⟨_, hk _ _ D.TOz D.TOi1 D.TOi2 eTO⟩ fun b o e1 _ e3 e4 e => hk b o e1 e3 e4 e
end
section
variable {prog : Program} {w : World} {A : Around} {E : Value → Shared → Prop} {s : Shared} {z TI TO i1 i2 l1 l2 : Addr} {xs ys : Array Value} {n : Nat}
/-- list(z), z a zip of two lists of one length -/
theorem call_list_zip {a b : Value} {Q : Value → Shared → Prop} (hh : A.handled = none) (D : ZipApart z TI TO i1 i2 l1 l2) (hz : IsZip s.heap z TI TO .none) (hTI : IsPair s.heap TI (.ref i1) (.ref i2)) (hTO : IsPair s.heap TO a b) (h1 : s.heap.IsListIter i1 l1 0) (h2 : s.heap.IsListIter i2 l2 0) (hl1 : s.heap.IsList l1 xs) (hl2 : s.heap.IsList l2 ys)
    (hx : xs.size = n) (hy : ys.size = n) (hn : n ≤ 100000) (hQ : ∀ (h' : Heap) (ts : List Addr) (acc : Array Value) (c : Nat), Done (s.heap.push { cls := .type "list", data := .seq #[] }) h' z TO i1 i2 s.heap.objs.size xs ys n ts acc c → Q (.ref s.heap.objs.size) { s with heap := h' }) :
    wpAny (model prog w) A (call (.type "list") [.ref z]) Q E s := by
  have up : ∀ {b o}, s.heap.get? b = some o → (s.heap.push { cls := .type "list", data := .seq #[] }).get? b = some o := fun e => Heap.get?_push_of_some _ e
  have ne : ∀ {b o}, s.heap.get? b = some o → b ≠ s.heap.objs.size := fun e => Nat.ne_of_lt (Heap.lt_size e)
  have nz := ne hz
  have nTI := ne hTI
  have nTO := ne hTO
  have n1 : i1 ≠ s.heap.objs.size := let ⟨_, e, _⟩ := h1; ne e
  have n2 : i2 ≠ s.heap.objs.size := let ⟨_, e, _⟩ := h2; ne e
  have nl1 : l1 ≠ s.heap.objs.size := let ⟨_, e, _⟩ := hl1; ne e
  have nl2 : l2 ≠ s.heap.objs.size := let ⟨_, e, _⟩ := hl2; ne e
  refine callType_codes (Q₁ := fun obj s₁ => obj = .ref s.heap.objs.size ∧ s₁ = { s with heap := s.heap.push { cls := .type "list", data := .seq #[] } }) PySem.F.called_list (PySem.F.typeCall_list_1 _) PySem.F.entry_list_init
    (code_list_new _ ⟨rfl, rfl⟩) fun obj s₁ hobj => ?_
  obtain ⟨rfl, rfl⟩ := hobj
  have hS : (s.heap.push { cls := .type "list", data := .seq #[] }).get? s.heap.objs.size = some { cls := .type "list", data := .seq #[] } := Heap.get?_push_size _ rfl
  have hTy : ∀ {h' : Heap}, IsZip h' z TI TO .none → (({ s with heap := h' } : Shared)).TypeIs (.ref z) "zip" := fun e => ⟨_, e, rfl⟩
  refine ⟨⟨_, hS, rfl⟩, PySem.F.args_list_init_2 _ _, ?_⟩
  show wpAny _ A.in1.in1 (do let old ← Builtin.List.listItems (.ref s.heap.objs.size); Builtin.List.listUpdate (.ref s.heap.objs.size) (fun _ => #[]); letGo old.toList.reverse; Builtin.List.listExtendWith (.ref s.heap.objs.size) (.ref z) .none) _ _ _
  refine wpAny_bind ?_
  unfold Builtin.List.listItems
  refine wpAny_bind (wpAny_seqItems hS rfl (wpAny_pure ?_))
  show wpAny _ A.in1.in1 (updateSeq s.heap.objs.size (fun _ => #[]) >>= fun _ => letGo (#[] : Array Value).toList.reverse >>= fun _ => Builtin.List.listExtendWith (.ref s.heap.objs.size) (.ref z) .none) _ _ _
  refine wpAny_bind (wpAny_updateSeq hS rfl ?_)
  have hS₂ := Heap.get?_update_self (Obj.mapSeq (fun _ => (#[] : Array Value))) hS rfl
  have sz₂ : ((s.heap.push { cls := .type "list", data := .seq #[] }).update s.heap.objs.size (Obj.mapSeq (fun _ => (#[] : Array Value)))).objs.size = s.heap.objs.size + 1 := by
    rw [Heap.size_update, Heap.size_push]
  have oth₂ : ∀ b o, b ≠ s.heap.objs.size → (s.heap.push { cls := .type "list", data := .seq #[] }).get? b = some o → ((s.heap.push { cls := .type "list", data := .seq #[] }).update s.heap.objs.size (Obj.mapSeq (fun _ => (#[] : Array Value)))).get? b = some o := fun b o hb e => (Heap.get?_update_other _ _ (Ne.symm hb)).trans e
  generalize (s.heap.push { cls := .type "list", data := .seq #[] }).update s.heap.objs.size (Obj.mapSeq (fun _ => (#[] : Array Value))) = h₂ at hS₂ sz₂ oth₂ ⊢
  refine wpAny_bind (wpAny_letGo ?_)
  have hz₂ := oth₂ _ _ nz (up hz)
  unfold Builtin.List.listExtendWith
  refine wpAny_bind (wpAny_typeOf (T := "zip") (hTy hz₂) ?_)
  have c1 : Builtin.List.listSameRef (.ref s.heap.objs.size) (.ref z) = false := by simp [Builtin.List.listSameRef, Ne.symm nz]
  have c2 : (Value.type "zip" == Value.type "list") = false := by decide
  have c3 : (Value.type "zip" == Value.type "tuple") = false := by decide
  simp only [c1, c2, c3, Bool.or_false, Bool.false_eq_true, if_false]
  refine wpAny_bind (wpAny_pyIter_zip hz₂ (wpAny_bind (wpAny_holding ?_)))
  unfold Builtin.List.listLengthHint
  refine wpAny_bind (wpAny_specialOf (hTy hz₂) zip_no_len ?_)
  show wpAny _ A.in1.in1 (specialOf (Value.ref z) (Str.ofString "__length_hint__") >>= _) _ _ _
  refine wpAny_bind (wpAny_specialOf (hTy hz₂) zip_no_hint (wpAny_pure ?_))
  show wpAny _ A.in1.in1 (rule "list.extend.makes-room" >>= fun _ => Builtin.List.listTouch (.ref s.heap.objs.size) >>= fun _ => again (.builtin "list.extend.loop" ⟨[.ref s.heap.objs.size, .ref z, .none], []⟩)) _ _ _
  refine wpAny_bind (wpAny_rule (wpAny_bind ?_))
  show wpAny _ A.in1.in1 (updateSeq s.heap.objs.size (·.push .none) >>= fun _ => updateSeq s.heap.objs.size (·.pop)) _ _ _
  refine wpAny_bind (wpAny_updateSeq hS₂ rfl ?_)
  have hS₃ := Heap.get?_update_self (Obj.mapSeq (·.push Value.none)) hS₂ rfl
  refine wpAny_updateSeq (hz := by seq_fits) hS₃ rfl ?_
  have hS₄ := Heap.get?_update_self (Obj.mapSeq (·.pop)) hS₃ rfl
  obtain ⟨c4, hS₅⟩ : ∃ c4, ((h₂.update s.heap.objs.size (Obj.mapSeq (·.push Value.none))).update s.heap.objs.size (Obj.mapSeq (·.pop))).get? s.heap.objs.size = some { cls := .type "list", dict := none, data := .seq #[] c4, slots := #[] } := ⟨_, hS₄⟩
  have oth : ∀ b o, b ≠ s.heap.objs.size → (s.heap.push { cls := .type "list", data := .seq #[] }).get? b = some o → ((h₂.update s.heap.objs.size (Obj.mapSeq (·.push Value.none))).update s.heap.objs.size (Obj.mapSeq (·.pop))).get? b = some o :=
    fun b o hb e => (Heap.get?_update_other _ _ (Ne.symm hb)).trans ((Heap.get?_update_other _ _ (Ne.symm hb)).trans (oth₂ b o hb e))
  have sz₄ : ((h₂.update s.heap.objs.size (Obj.mapSeq (·.push Value.none))).update s.heap.objs.size (Obj.mapSeq (·.pop))).objs.size = s.heap.objs.size + 1 := by
    rw [Heap.size_update, Heap.size_update, sz₂]
  refine wpAny_pure ⟨plainId_quiet PySem.F.plain_extend_loop _, loop (A := A.in1) (n := n) (h0 := s.heap.push { cls := .type "list", data := .seq #[] }) hh D nl1 nl2 nz nTI n1 n2 nTO hx hy hn .none n 0 _ [] #[] c4 rfl (Nat.zero_le _) ⟨_, oth _ _ nTO (up hTO)⟩ ?_ fun h' ts acc c d => ⟨rfl, hQ h' ts acc c d⟩⟩
  refine ⟨.inl ⟨oth _ _ nz (up hz), a, b, oth _ _ nTO (up hTO)⟩, oth _ _ nTI (up hTI), h1.at fun o e => oth _ o n1 (up e), h2.at fun o e => oth _ o n2 (up e), hl1.at fun o e => oth _ o nl1 (up e), hl2.at fun o e => oth _ o nl2 (up e), hS₅, rfl, rfl, (fun T hT => nomatch hT), .nil, (fun j T hj => by simp at hj), fun b o _ _ _ _ e5 e6 => oth b o e5 e6, ?_⟩
  show _ ≤ ((h₂.update s.heap.objs.size (Obj.mapSeq (·.push Value.none))).update s.heap.objs.size (Obj.mapSeq (·.pop))).objs.size
  rw [sz₄, Heap.size_push]
  exact Nat.le_refl _
end
/-- list(zip(a, b)) -/
def tListZip (K : PySem.W.Frag) (ta : TA) : TE := fun σ H Q => ta σ H fun vs H1 => ∃ (a b : Addr) (xs ys : List V), vs = [.ref a, .ref b] ∧ SqL K H1 a xs ∧ SqL K H1 b ys ∧ xs.length = ys.length ∧ xs.length ≤ 100000 ∧
  ∀ (p : Addr) (ts : List Addr) (H' : Hp), H1 p = none → (∀ c o, H1 c = some o → H' c = some o) → H' p = some (.lst (ts.map V.ref)) → ts.length = xs.length → (∀ t ∈ ts, H1 t = none) → ts.Nodup → (∀ (j : Nat) T x y, ts[j]? = some T → xs[j]? = some x → ys[j]? = some y → H' T = some (.tup [x, y])) → Q (.ref p) H'
section
variable {X : Cx} {e e2 : Expr} {ta : TA} {p q pos pos2 : Pos}
theorem zip_laid {pins : List (Addr × Obj)} {σ : L2.St} {H : Hp} {s : Shared} {h' : Heap} {xs ys : List V} {us ws : List Value} {ts : List Addr} {acc : Array Value} {c S n : Nat} (I : Inv X pins σ H s) (hS : s.heap.objs.size ≤ S) (rx : Vals xs us) (ry : Vals ys ws) (lx : xs.length = n) (ly : ys.length = n) (hn : n ≤ 100000)
    (k : ∀ b o, s.heap.get? b = some o → h'.get? b = some o) (eS : h'.get? S = some { cls := .type "list", dict := none, data := .seq acc c, slots := #[] }) (ea : acc.toList = ts.map Value.ref) (lt : ts.length = n) (up : ∀ T ∈ ts, s.heap.objs.size ≤ T ∧ T ≠ S) (nd : ts.Nodup) (pr : PairsUp h' us.toArray ws.toArray ts) :
    ∃ H' : Hp, (∀ b o, H b = some o → H' b = some o) ∧ H S = none ∧ H' S = some (.lst (ts.map V.ref)) ∧ (∀ t ∈ ts, H t = none) ∧ (∀ (j : Nat) T x y, ts[j]? = some T → xs[j]? = some x → ys[j]? = some y → H' T = some (.tup [x, y])) ∧ Inv X pins σ H' { s with heap := h' } := by
  have nS : H S = none := I.hok.fresh hS
  have nT : ∀ t ∈ ts, H t = none := fun t ht => I.hok.fresh (up t ht).1
  have small : n ≤ sizeLine := by rw [sizeLine_eq]; omega
  have I1 : Inv X pins σ (upd H S (.lst (ts.map V.ref))) { s with heap := h' } := by
    refine I.laid (t' := s.toks) k hS ⟨by rw [List.length_map, lt]; exact small, acc.toList, c, ?_, by rw [Array.toArray_toList]; exact eS⟩
    rw [ea]
    exact L2.vals_refs ts
  obtain ⟨H', I2, kp, at_⟩ := takeT (h' := h') (tk := s.toks) (P := fun a vs => ∃ j x y, ts[j]? = some a ∧ xs[j]? = some x ∧ ys[j]? = some y ∧ vs = [x, y]) I ts _ I1 nd fun a ha => by
    refine ⟨(up a ha).1, (upd_ne (up a ha).2).trans (nT a ha), ?_⟩
    obtain ⟨j, hj⟩ := List.mem_iff_getElem?.mp ha
    have hjl := (List.getElem?_eq_some_iff.mp hj).1
    obtain ⟨u, v, hu, hv, hp⟩ := pr j a hj
    have ex : xs[j]? = some xs[j] := List.getElem?_eq_getElem (by omega)
    have ey : ys[j]? = some ys[j] := List.getElem?_eq_getElem (by omega)
    obtain ⟨u', eu, ru⟩ := rx.get ex
    obtain ⟨v', ev, rv⟩ := ry.get ey
    have hu' : us[j]? = some u := by simpa using hu
    have hv' : ws[j]? = some v := by simpa using hv
    rw [hu'] at eu
    rw [hv'] at ev
    cases eu
    cases ev
    exact ⟨[xs[j], ys[j]], ⟨j, _, _, hj, ex, ey, rfl⟩, fun H2 => ⟨by show 2 ≤ sizeLine; decide, [u, v], .cons ru (.cons rv .nil), ⟨_, hp, rfl, _, rfl⟩⟩⟩
  refine ⟨H', fun b o eb => kp b o ((upd_ne fun z => by rw [z, nS] at eb; cases eb).trans eb), nS, kp _ _ upd_same, nT, fun j T x y hj hx hy => ?_, I2⟩
  obtain ⟨vs, ⟨j', x', y', e1, e2, e3, rfl⟩, e4⟩ := at_ T (List.mem_of_getElem? hj)
  obtain ⟨l1, g1⟩ := List.getElem?_eq_some_iff.mp hj
  obtain ⟨l2, g2⟩ := List.getElem?_eq_some_iff.mp e1
  have ej : j = j' := (List.getElem_inj nd).mp (g1.trans g2.symm)
  rw [← ej, hx] at e2
  rw [← ej, hy] at e3
  rw [e4, Option.some.inj e2, Option.some.inj e3]
theorem pe_listZip (hc : X.calm = true) (ha : PA X [e, e2] ta) (hg : Gl X "list") (hm : X.mg "list" = none) (hg2 : Gl X "zip") (hm2 : X.mg "zip" = none)
    (hs : starEach [.Call (.Name "zip" q) [e, e2] [] pos2] X.env = (false, eval (.Call (.Name "zip" q) [e, e2] [] pos2) X.env) :: starEach [] X.env := by rfl)
    (hs2 : starEach [e, e2] X.env = (false, eval e X.env) :: starEach [e2] X.env := by rfl) (hpl : (backTo pos2 (starEach [e2] X.env)).any (·.1) = false := by rfl) :
    PE X (.Call (.Name "list" p) [.Call (.Name "zip" q) [e, e2] [] pos2] [] pos) (tListZip X.K ta) := by
  refine ⟨fun pins s σ H Q I h => ?_⟩
  refine wpAny_Call_Name_kw (ld_blt I hg hm boot_list (PyProof.Rows.callWith_type1 ?_ hs rfl))
  rw [hs]
  show wpAny _ _ (spliced ((false, eval (.Call (.Name "zip" q) [e, e2] [] pos2) X.env) :: backTo pos (starEach [] X.env))) _ _ s
  refine Calls.spliced_cons (Call_ (ld_blt I hg2 hm2 PyProof.Rows.boot_zip (PyProof.Rows.callWith_type1 (thn (ha.run pos2 pins s σ H _ I h) fun us s1 ⟨vs, H1, I1, r1, q1⟩ => ?_) hs2 hpl)))
  obtain ⟨a, b, xs, ys, ex, hqx, hqy, hlen, hn, q⟩ := q1
  subst ex
  cases r1 with
  | cons r rr =>
    cases rr with
    | cons r' rr =>
      cases rr
      cases r
      cases r'
      obtain ⟨its, rv, p1, _⟩ := I1.list hqx
      obtain ⟨its2, rv2, p2, _⟩ := I1.list hqy
      have la : a < s1.heap.objs.size := p1.lt
      have lb : b < s1.heap.objs.size := p2.lt
      refine call_zip_2 p1.isList p2.isList fun h' hz hTI hTO h1 h2 hsz hk => Calls.spliced_nil ?_
      have r1 := rv.length
      have r2 := rv2.length
      refine call_list_zip (s := { s1 with heap := h' }) (n := xs.length) (I1.ok.hd hc) (PySem.W.ktu_apart s1.heap.objs.size a b la lb) hz hTI hTO h1 h2 (p1.isList.at fun o e => hk _ o e) (p2.isList.at fun o e => hk _ o e) (by rw [List.size_toArray, r1]) (by rw [List.size_toArray, ← r2, hlen]) hn fun h2' ts acc c d => ?_
      have kk : ∀ b o, s1.heap.get? b = some o → h2'.get? b = some o := fun b o e => by
        have lt := Heap.lt_size e
        refine d.keep b o (Nat.ne_of_lt (Nat.lt_add_right 4 lt)) (Nat.ne_of_lt (Nat.lt_add_right 3 lt)) (Nat.ne_of_lt lt) (Nat.ne_of_lt (Nat.lt_add_right 1 lt)) (by show b ≠ h'.objs.size; rw [hsz]; exact Nat.ne_of_lt (Nat.lt_add_right 5 lt)) (Heap.get?_push_of_some _ (hk b o e))
      obtain ⟨H', k1, k2, k3, k4, k5, I2⟩ := zip_laid (n := xs.length) I1 (by show s1.heap.objs.size ≤ h'.objs.size; omega) rv rv2 rfl hlen.symm hn kk d.s d.acc d.len (fun T hT => by
        obtain ⟨u1, u2⟩ := d.up T hT
        rw [Heap.size_push] at u1
        have u3 : h'.objs.size + 1 ≤ T := u1
        exact ⟨by omega, u2⟩) (d.rise.imp fun h => Nat.ne_of_lt h) d.pr
      exact ⟨.ref _, H', I2, rfl, q _ ts H' k2 k1 k3 d.len k4 (d.rise.imp fun h => Nat.ne_of_lt h) k5⟩
end
end ZlL
set_option Elab.async false
set_option linter.all false
set_option maxRecDepth 100000
set_option maxHeartbeats 4000000
/-! CC: the longest ascent. -/
namespace G
open PySem PySem.Spec PyProof.Rows L2 NdefX StX PySem.W
abbrev sRanks : Stmt := topS 30
abbrev sAscent : Stmt := topS 31
abbrev nRanks : List Str := ["numbers", "ranks", "least", "number", "rank", "one"]
abbrev nAscent : List Str := ["numbers", "ranks", "ascent", "wanted", "number", "rank"]
theorem scRanks : FnScope nRanks ["numbers"] (defScope sRanks) := ⟨rfl, rfl, rfl, by decide +kernel, rfl, by decide +kernel, by decide +kernel⟩
theorem scAscent : FnScope nAscent ["numbers"] (defScope sAscent) := ⟨rfl, rfl, rfl, by decide +kernel, rfl, by decide +kernel, by decide +kernel⟩
theorem readsI {h : Heap} : ∀ {ns : List Int} {us : List Value}, Vals (ns.map V.int) us → ReadsAll h us (ns.map .int) []
  | [], _, .nil => .nil
  | n :: ns, _, .cons r rr => by
    obtain ⟨t, rfl⟩ := r
    exact ReadsAll.cons (.int n t) (readsI rr)
theorem depthAll_I : ∀ ns : List Int, PyData.depthAll (ns.map .int) = 0
  | [] => by simp [PyData.depthAll]
  | n :: ns => by
    have := depthAll_I ns
    simp only [List.map_cons, PyData.depthAll, PyData.depth]
    omega
def MaxQ (Q : VK) (d : V) (ns : List Int) (H : Hp) : Prop := (ns = [] → Q d H) ∧ ∀ n m, ns = n :: m → Q (.int (m.foldl max n)) H
/-- max(xs, default=d) of a list of ints -/
def tMaxD (K : PySem.W.Frag) (ta : TA) (td : TE) : TE := fun σ H Q => ta σ H fun vs H1 => td σ H1 fun d H2 => ∃ (a : Addr) (ns : List Int), vs = [.ref a] ∧ SqL K H2 a (ns.map V.int) ∧ MaxQ Q d ns H2
theorem pe_maxD {X : Cx} {e e2 : Expr} {ta : TA} {td : TE} {p pos kp : Pos} (hc : X.calm = true) (hu : X.A.units + 8 < cLine) (ha : PA X [e] ta) (hd : PE X e2 td) (hg : Gl X "max") (hm : X.mg "max" = none)
    (he1 : backTo pos (starEach [e] X.env) = (false, eval e X.env) :: backTo pos (starEach [] X.env) := by rfl) (hpl : (backTo pos (starEach [e] X.env)).any (·.1) = false := by rfl) :
    PE X (.Call (.Name "max" p) [e] [⟨some "default", e2, kp⟩] pos) (tMaxD X.K ta td) := by
  refine ⟨fun pins s σ H Q I h => ?_⟩
  refine wpAny_Call_Name_kw (ld_blt I hg hm (u := .builtin "max") (by decide +kernel) ?_)
  refine PyProof.Rows.callWith_kw (thn (ha.run pos pins s σ H _ I h) fun us s1 ⟨vs, H1, I1, r1, q1⟩ => ?_) he1 hpl (by rfl) (by rfl)
  show wpAny _ _ (evalAll [do let v ← eval e2 X.env; standAt pos; pure v]) _ _ s1
  refine wpAny_evalAll_cons (wpAny_bind (thn (hd.run pins s1 σ H1 _ I1 q1) fun u s2 ⟨d, H2, I2, r2, q2⟩ => wpAny_bind (wpAny_standAt (wpAny_pure (wpAny_evalAll_nil ?_)))))
  obtain ⟨a, ns, rfl, hs, q0, q⟩ := q2
  obtain rfl := Vals.ref1 r1
  show wpAny _ _ (call (.builtin "max") [.ref a] [(Str.ofString "default", u)]) _ _ s2
  obtain ⟨its, rv, hl, hz⟩ := I2.list hs
  have rs := readsI (h := s2.heap) rv
  refine max_list_default (as := []) (I2.ok.hd hc) hl.isList (by simpa using rs) ⟨fun d hd d' hd' => ?_, fun d hd => ?_⟩ ?_ (fun e0 h' tk hk => ?_) fun y ys i v h' tk bs e0 hi rd hk => ?_
  · obtain ⟨n, _, rfl⟩ := List.mem_map.mp hd
    obtain ⟨m, _, rfl⟩ := List.mem_map.mp hd'
    rfl
  · obtain ⟨n, _, rfl⟩ := List.mem_map.mp hd
    exact fun z => nomatch z
  · rw [depthAll_I]
    show X.A.units + 1 + 0 < cLine
    omega
  · exact ⟨d, H2, I2.kept hk, r2, q0 (List.map_eq_nil_iff.mp e0)⟩
  · cases ns with
    | nil => cases e0
    | cons n m =>
      rw [List.map_cons] at e0
      injection e0 with e1 e2
      subst e1 e2
      rw [maxD_ints] at rd
      obtain ⟨t, rfl⟩ : ∃ t, v = Value.int (m.foldl max n) t := by
        cases rd
        exact ⟨_, rfl⟩
      exact ⟨.int (m.foldl max n), H2, I2.kept hk, ⟨_, rfl⟩, q n m rfl⟩
end G
set_option Elab.async false
set_option linter.all false
set_option maxRecDepth 100000
set_option maxHeartbeats 8000000
/-! CD: ranks_of. -/
namespace G
open PySem PySem.Spec PyProof.Rows L2 NdefX StX PySem.W
def ixV (rk : List Nat) : List V := rk.map fun r => V.int (r : Nat)
theorem take_snocA {α : Type} {xs : List α} {i : Nat} {x : α} (h : xs[i]? = some x) : xs.take (i + 1) = xs.take i ++ [x] := by
  rw [List.take_add_one, h]
  rfl
theorem filt_snoc {α : Type} {p : α → Bool} {xs : List α} {x : α} : (xs ++ [x]).filter p = if p x = true then xs.filter p ++ [x] else xs.filter p := by
  rw [List.filter_append]
  by_cases h : p x = true
  · rw [if_pos h, List.filter_cons_of_pos h, List.filter_nil]
  · rw [if_neg h, List.filter_cons_of_neg h, List.filter_nil, List.append_nil]
theorem cutV_drop (xs : List V) (k : Nat) : cutV xs (some ((k : Int) + 1)) none = xs.drop (k + 1) := by
  rw [show ((k : Int) + 1) = ((k + 1 : Nat) : Int) by omega]
  unfold cutV
  rw [HT.sIx_none, HT.sIx_nat]
  by_cases h : k + 1 ≤ xs.length
  · rw [Nat.min_eq_left h, List.take_of_length_le (by rw [List.length_drop]; omega)]
  · rw [Nat.min_eq_right (by omega), Nat.sub_self, List.take_zero, List.drop_eq_nil_of_le (by omega)]
def spRanks (K : PySem.W.Frag) : Sp := fun vs H Q _ => ∃ (l : Addr) (ns : List Int), vs = [.ref l] ∧ SqL K H l (ns.map V.int) ∧ ns.Nodup ∧ ns.length ≤ 80 ∧
  ∀ (p : Addr) (rk : List Nat) (least : List Int) (H' : Hp), H p = none → Same H H' → H' p = some (.lst (ixV rk)) → rk.length = ns.length → Lis.St (ns.zip rk) least → Q (.ref p) H'
theorem zip_take {ns : List Int} {rk : List Nat} {i : Nat} {n : Int} {r : Nat} (hi : ns[i]? = some n) (hr : rk.length = i) : (ns.take (i + 1)).zip (rk ++ [r]) = (ns.take i).zip rk ++ [(n, r)] := by
  rw [take_snocA hi, List.zip_append]
  · rfl
  · have := (List.getElem?_eq_some_iff.mp hi).1
    rw [List.length_take, hr]
    omega
section
variable {P : Program} {w : World} {K : PySem.W.Frag} {mg : Str → Option Value} {base : Heap} {f : Addr} {fd : FuncData}
theorem ok_ranks (F : Fun K "ranks_of" "ranks_of" sRanks f fd) (ml : mg "len" = none) : FnOk P w K mg base CX0 1 f fd ["numbers"] (spRanks K) := by
  refine F.ok scRanks (fun vs H Q E h => ?_) (fun cdv A outer s H vs Q E hr h => ?_)
  · obtain ⟨l, ns, rfl, _⟩ := h
    rfl
  · obtain ⟨l, ns, rfl, hl, nd, few, q⟩ := h
    refine ⟨_, pss_cons (ps_set (i := 1) scRanks.nd rfl (.inl rfl) (pe_lst pa_nil))
      (pss_cons (ps_set (i := 2) scRanks.nd rfl (.inl rfl) (pe_lst pa_nil))
      (pss_cons (ps_for PassesOwn.never rfl (pi_list (pv 0)) (pg_name (i := 3) scRanks.nd rfl (.inr rfl))
        (pss_cons (ps_set (i := 4) scRanks.nd rfl (.inl rfl) (pe_callB call_len_seq (by rfl) ml PySem.boot_len (pa_cons (pe_lc (own := [("one", 5)]) (g := gName 5) (by rfl) scRanks.nd (pi_list (pv 2))
            (blkOk_by (own := [("one", 5)]) (N := nRanks) (sc := defScope sRanks) (by decide +kernel)) (fun _ _ _ _ _ => pg_name (i := 5) scRanks.nd rfl (.inl rfl)) (fun _ _ _ _ _ => pts_one (pt_cmpR op_lt (pv 5) (pv 3) (nomark _))) (fun _ _ _ _ _ => pv 5)) pa_nil)))
        (pss_cons (ps_expr (pe_bm PySem.F.plainAttrs_list PySem.F.slot_list_append PySem.F.type_list_append mt_append (pv 1) (pa_cons (pv 4) pa_nil)))
        (pss_one (ps_set (i := 2) scRanks.nd rfl (.inl rfl) (pe_lst (StX.pa_star (pe_slice (r := rSlL K) sl_list (pv 2) po_none (po_some (pv 4))) (pa_cons (pv 3) (StX.pa_star (pe_slice (r := rSlL K) sl_list (pv 2) (po_some (pe_op op_add (pv 4) pe_int)) po_none) pa_nil)))))))))
      (pss_one (ps_ret (pv 1))))), ?_⟩
    refine ⟨(by show 0 ≤ sizeLine; decide), fun R hR => ⟨(by show 0 ≤ sizeLine; decide), fun L0 hL0 => ?_⟩⟩
    have s1 := Same.new (o := .lst []) hR
    have s2 := Same.new (o := .lst []) hL0
    have nRL : R ≠ L0 := fun z => by
      rw [← z, upd_same] at hL0
      cases hL0
    have eR : (upd (upd H R (.lst [])) L0 (.lst [])) R = some (.lst []) := (upd_ne nRL).trans upd_same
    have eL : (upd (upd H R (.lst [])) L0 (.lst [])) L0 = some (.lst []) := upd_same
    have sHH := s1.trans s2
    generalize upd (upd H R (.lst [])) L0 (.lst []) = H1 at eR eL sHH ⊢
    refine ⟨_, rfl, l, rfl, ⟨_, sqL_keep sHH hl⟩, ?_⟩
    have lz : (ns.map V.int).length = ns.length := List.length_map ..
    refine for_list (xs := ns.map V.int) (fun i σ H2 => ∃ (L : Addr) (rk : List Nat) (least : List Int) (x3 x4 : Option V), σ = [some (.ref l), some (.ref R), some (.ref L), x3, x4, none] ∧ Same H H2 ∧ H2 R = some (.lst (ixV rk)) ∧ H2 L = some (.lst (least.map V.int)) ∧ L ≠ R ∧ rk.length = i ∧ least.length ≤ i ∧ Lis.St ((ns.take i).zip rk) least) ?_ ?_ ?_ ?_
    · exact ⟨L0, [], [], none, none, rfl, sHH, eR, eL, nRL.symm, rfl, Nat.le_refl _, Lis.st_nil⟩
    · rintro i σ H2 _ ⟨L, rk, least, x3, x4, rfl, s2, _⟩
      exact sqL_keep s2 hl
    · rintro i x σ H2 hx ⟨L, rk, least, x3, x4, rfl, s2, e2, eL2, nL, lr, ll, st⟩
      rw [List.getElem?_map] at hx
      obtain ⟨n, hn, rfl⟩ := Option.map_eq_some_iff.mp hx
      have hi : i < ns.length := (List.getElem?_eq_some_iff.mp hn).1
      have nw : ∀ p ∈ (ns.take i).zip rk, p.1 ≠ n := fun p hp z => by
        have h1 := (List.of_mem_zip hp).1
        rw [z] at h1
        obtain ⟨j, hj, e⟩ := List.mem_iff_getElem.mp h1
        rw [List.length_take] at hj
        rw [List.getElem_take] at e
        have e2 := (List.getElem?_eq_some_iff.mp hn).2
        have := (List.getElem_inj nd).mp (e.trans e2.symm)
        omega
      obtain ⟨st2, rle⟩ := Lis.st_step st nw
      refine ⟨_, rfl, L, rfl, ⟨_, .of eL2⟩, fun D hD => ?_⟩
      refine lc_list (xs := least.map V.int) (fun j H3 => Same H2 H3 ∧ H3 D = some (.lst (((least.take j).filter fun m => decide (m < n)).map V.int))) ?_ ?_ ?_ ?_
      · exact ⟨Same.new hD, upd_same⟩
      · exact fun _ _ _ z => .of (z.1 _ _ eL2)
      · rintro j y H3 hy ⟨s3, e3⟩
        rw [List.getElem?_map] at hy
        obtain ⟨m, hm, rfl⟩ := Option.map_eq_some_iff.mp hy
        refine ⟨rfl, ?_⟩
        refine ⟨_, rfl, _, rfl, _, _, rfl, rfl, _, rfl, ?_⟩
        rw [take_snocA hm, filt_snoc]
        by_cases c : m < n
        · rw [decide_eq_true c, if_pos rfl]
          refine iteT ⟨_, rfl, _, e3, ?_, fun c o e => (upd_ne (ne_of_none e hD)).trans (s3 _ _ e), ?_⟩
          · have h1 := List.length_filter_le (fun m => decide (m < n)) (least.take j)
            rw [List.length_take] at h1
            rw [List.length_map]
            exact small1000 (by omega)
          · rw [upd_same, List.map_append]
            rfl
        · rw [decide_eq_false c, if_neg (by decide)]
          exact iteF ⟨s3, e3⟩
      · rintro H3 ⟨s3, e3⟩
        rw [List.length_map, List.take_length] at e3
        have eR3 := s3 _ _ e2
        refine ⟨D, _, rfl, .inl (.of e3), ?_⟩
        rw [List.length_map]
        generalize er : (least.filter fun m => decide (m < n)).length = r
        have er' : Lis.rankIn least n = r := er
        rw [er'] at st2 rle
        refine ⟨_, rfl, .inl ⟨rfl, _, .of eR3⟩, _, rfl, R, _, _, rfl, rfl, eR3, ?_, ?_⟩
        · unfold ixV
          rw [List.length_map]
          exact small1000 (by omega)
        have nDR : D ≠ R := fun z => by
          rw [z, e2] at hD
          cases hD
        have kp : ∀ c o, c ≠ R → H3 c = some o → (upd H3 R (.lst (ixV rk ++ [V.int (r : Nat)]))) c = some o := fun c o ne e => (upd_ne ne).trans e
        have eL3 := kp _ _ nL (s3 _ _ eL2)
        have eR4 : (upd H3 R (.lst (ixV rk ++ [V.int (r : Nat)]))) R = some (.lst (ixV rk ++ [V.int (r : Nat)])) := upd_same
        have sH4 : Same H (upd H3 R (.lst (ixV rk ++ [V.int (r : Nat)]))) := fun c o e => kp c o (fun z => by rw [z, hR] at e; cases e) ((s2.trans s3) _ _ e)
        generalize upd H3 R (.lst (ixV rk ++ [V.int (r : Nat)])) = H4 at eL3 eR4 sH4 ⊢
        refine ⟨_, rfl, _, rfl, _, rfl, L, _, rfl, .of eL3, fun m1 h1 => ⟨m1, _, rfl, .inr (.of upd_same), _, rfl, _, rfl, _, rfl, _, _, rfl, rfl, _, rfl, L, _, rfl, .of (Same.new h1 _ _ eL3), fun m2 h2 => ⟨m2, _, rfl, .inr (.of upd_same), ?_⟩⟩⟩
        have lt : (least.map V.int).length = least.length := List.length_map ..
        rw [cutV_take] at h2
        rw [cutV_take, cutV_drop]
        unfold tNil
        dsimp only
        rw [List.append_nil]
        have ee : (least.map V.int).take r ++ V.int n :: (least.map V.int).drop (r + 1) = (least.take r ++ n :: least.drop (r + 1)).map V.int := by
          rw [List.map_append, List.map_cons, List.map_take, List.map_drop]
        rw [ee]
        have ln : (least.take r ++ n :: least.drop (r + 1)).length ≤ i + 1 := by
          rw [List.length_append, List.length_cons, List.length_take, List.length_drop]
          omega
        refine ⟨?_, fun p hp => ?_⟩
        · rw [List.length_map]
          exact Nat.le_of_lt (small1000 (by omega))
        have sn0 := (Same.new (o := .lst ((least.map V.int).take r)) h1).trans (Same.new (o := .lst ((least.map V.int).drop (r + 1))) h2)
        have sn := sn0.trans (Same.new (o := .lst ((least.take r ++ n :: least.drop (r + 1)).map V.int)) hp)
        refine ⟨p, rk ++ [r], _, _, _, rfl, sH4.trans sn, ?_, upd_same, fun z => ?_, ?_, ln, ?_⟩
        · rw [sn _ _ eR4]
          unfold ixV
          rw [List.map_append]
          rfl
        · have := sn0.free hp
          rw [z, eR4] at this
          cases this
        · rw [List.length_append, lr]
          rfl
        · rw [zip_take hn lr]
          exact st2
    · rintro σ H2 ⟨L, rk, least, x3, x4, rfl, s2, e2, eL2, nL, lr, ll, st⟩
      rw [lz] at lr st
      rw [List.take_length] at st
      exact ⟨_, rfl, q R rk least H2 hR s2 e2 lr st⟩
end
end G
set_option Elab.async false
set_option linter.all false
set_option maxRecDepth 100000
set_option maxHeartbeats 8000000
/-! CE: longest_ascent. -/
namespace G
open PySem PySem.Spec PyProof.Rows L2 NdefX StX PySem.W
def spAscent (K : PySem.W.Frag) : Sp := fun vs H Q _ => ∃ (l : Addr) (ns : List Int), vs = [.ref l] ∧ SqL K H l (ns.map V.int) ∧ ns.Nodup ∧ ns.length ≤ 80 ∧
  ∀ (p : Addr) (A : List Int) (H' : Hp), H p = none → Same H H' → H' p = some (.lst (A.map V.int)) → Lis.Best ns A → Q (.ref p) H'
def natI (rk : List Nat) : List Int := rk.map Int.ofNat
def topOf (rk : List Nat) : Int := rk.foldl (fun (a : Int) (r : Nat) => if (r : Int) > a then (r : Int) else a) (-1)
theorem top_max (r : Nat) (rs : List Nat) : topOf (r :: rs) = (natI rs).foldl max (Int.ofNat r) := by
  unfold topOf natI
  rw [List.foldl_cons, List.foldl_map, if_pos (by omega)]
  show List.foldl _ (Int.ofNat r) rs = _
  congr 1
  funext a x
  show (if (x : Int) > a then (x : Int) else a) = max a (x : Int)
  rw [Int.max_def]
  split <;> split <;> omega
theorem ixV_I (rk : List Nat) : ixV rk = (natI rk).map V.int := by
  unfold ixV natI
  rw [List.map_map]
  rfl
theorem maxD_top {Q : VK} {H : Hp} {rk : List Nat} {d : V} (ed : d = .int (-1)) (q : Q (.int (topOf rk)) H) : MaxQ Q d (natI rk) H := by
  subst ed
  refine ⟨fun e => ?_, fun n m e => ?_⟩
  · rw [List.map_eq_nil_iff.mp e] at q
    exact q
  · cases rk with
    | nil => cases e
    | cons r rs =>
      unfold natI at e
      rw [List.map_cons] at e
      injection e with e1 e2
      rw [top_max, e1] at q
      unfold natI at q
      rw [e2] at q
      exact q
theorem rev_drop {α : Type} {P : List α} {i : Nat} {p : α} (h : P[P.length - 1 - i]? = some p) (hi : i < P.length) : P.reverse.drop i = p :: P.reverse.drop (i + 1) := by
  have e : P.reverse[i]? = some p := by rw [List.getElem?_reverse hi]; exact h
  obtain ⟨h1, h2⟩ := List.getElem?_eq_some_iff.mp e
  rw [List.drop_eq_getElem_cons h1, h2]
theorem pick_cons (n : Int) (r : Nat) (t : List Lis.NR) (w : Int) : Lis.pick ((n, r) :: t) w = if (r : Int) = w then n :: Lis.pick t (w - 1) else Lis.pick t w := rfl
section
variable {P : Program} {w : World} {K : PySem.W.Frag} {mg : Str → Option Value} {base : Heap} {f : Addr} {fd : FuncData}
theorem ok_ascent {fR : Addr} {fdR : FuncData} (F : Fun K "longest_ascent" "longest_ascent" sAscent f fd) (GR : FnOk P w K mg base CX0 1 fR fdR ["numbers"] (spRanks K)) (gR : mg "ranks_of" = some (.ref fR)) (kR : PySem.W.keepIn K (.ref fR) = true) (bR : Binds K fdR ["numbers"] [])
    (mx : mg "max" = none) (mrv : mg "reversed" = none) (mL : mg "list" = none) (mz : mg "zip" = none) : FnOk P w K mg base CX0 2 f fd ["numbers"] (spAscent K) := by
  refine F.ok scAscent (fun vs H Q E h => ?_) (fun cdv A outer s H vs Q E hr h => ?_)
  · obtain ⟨l, ns, rfl, _⟩ := h
    rfl
  · obtain ⟨l, ns, rfl, hl, nd, few, q⟩ := h
    have hu8 : (A.deeper (envOfC "longest_ascent" (defScope sAscent) s.heap.objs.size f cdv)).units + 8 < cLine := by have := hr.units; omega
    refine ⟨_, pss_cons (ps_set (i := 1) scAscent.nd rfl (.inl rfl) (pe_call GR hr rfl gR kR bR .nil pass0 (pa_cons (pv 0) pa_nil)))
      (pss_cons (ps_set (i := 2) scAscent.nd rfl (.inl rfl) (pe_lst pa_nil))
      (pss_cons (ps_set (i := 3) scAscent.nd rfl (.inl rfl) (pe_maxD rfl hu8 (pa_cons (pv 1) pa_nil) (pe_un un_neg pe_int) (by rfl) mx))
      (pss_cons (ps_for PassesOwn.never rfl (pi_reversed (by rfl) mrv (pa_cons (ZlL.pe_listZip rfl (pa_cons (pv 0) (pa_cons (pv 1) pa_nil)) (by rfl) mL (by rfl) mz) pa_nil))
        (pg_tup rfl (pgs_cons (pg_name (i := 4) scAscent.nd rfl (.inl rfl)) (pgs_cons (pg_name (i := 5) scAscent.nd rfl (.inl rfl)) pgs_nil)))
        (pss_one (ps_if (pt_cmpR op_eq (pv 5) (pv 3) (nomark _))
          (pss_cons (ps_expr (pe_bm PySem.F.plainAttrs_list PySem.F.slot_list_append PySem.F.type_list_append mt_append (pv 2) (pa_cons (pv 4) pa_nil)))
          (pss_one (ps_set (i := 3) scAscent.nd rfl (.inl rfl) (pe_op op_sub (pv 3) pe_int)))) pss_nil)))
      (pss_one (ps_ret (pe_backL (pv 2) (po_some (pe_un un_neg pe_int)))))))), ?_⟩
    refine ⟨_, rfl, l, ns, rfl, hl, nd, few, fun R rk least H1 hR s1 e1 lr st => ?_⟩
    refine ⟨(by show 0 ≤ sizeLine; decide), fun As hA => ?_⟩
    have s2 := Same.new (o := .lst []) hA
    have eR2 := s2 _ _ e1
    have eA2 : (upd H1 As (.lst [])) As = some (.lst []) := upd_same
    have s12 := s1.trans s2
    have hAn : H As = none := s1.free hA
    generalize upd H1 As (.lst []) = H2 at eR2 eA2 s12 ⊢
    have lz : (ns.zip rk).length = ns.length := by rw [List.length_zip, lr, Nat.min_self]
    have e1' : (ns.zip rk).map (·.1) = ns := List.map_fst_zip (by omega)
    have e2' : (ns.zip rk).map (·.2) = rk := List.map_snd_zip (by omega)
    refine ⟨_, rfl, _, rfl, R, natI rk, rfl, .of (by rw [← ixV_I]; exact eR2), maxD_top rfl ?_⟩
    have etop : Lis.topR (ns.zip rk) = topOf rk := by
      unfold Lis.topR topOf
      rw [e2']
    rw [← etop]
    generalize htp : Lis.topR (ns.zip rk) = tp
    have hb := Lis.asc_best st
    rw [e1'] at hb
    unfold Lis.asc at hb
    rw [htp] at hb
    refine ⟨_, rfl, _, rfl, l, R, _, _, rfl, sqL_keep s12 hl, .of eR2, ?_, ?_, fun zp ts H3 nz s3 ez lts nts ndt az => ?_⟩
    · rw [List.length_map]
      unfold ixV
      rw [List.length_map, lr]
    · rw [List.length_map]
      omega
    rw [List.length_map] at lts
    have s3' : Same H2 H3 := s3
    have eA3 := s3' _ _ eA2
    have nzA : zp ≠ As := fun z => by
      rw [z, eA2] at nz
      cases nz
    refine ⟨zp, _, rfl, .of ez, ?_⟩
    have lt : (ts.map V.ref).length = ns.length := by rw [List.length_map, lts]
    rw [lt]
    have at_ : ∀ i n r, ns[i]? = some n → rk[i]? = some r → ∃ t, ts[i]? = some t ∧ H3 t = some (.tup [.int n, .int (r : Nat)]) := fun i n r h1 h2 => by
      have := (List.getElem?_eq_some_iff.mp h1).1
      have et : ts[i]? = some ts[i] := List.getElem?_eq_getElem (by omega)
      exact ⟨_, et, az i _ _ _ et (by rw [List.getElem?_map, h1] <;> rfl) (by unfold ixV; rw [List.getElem?_map, h2] <;> rfl)⟩
    refine for_it (lt ▸ walk_rev) (fun i σ H4 => ∃ (acc : List Int) (w : Int) (x4 x5 : Option V), σ = [some (.ref l), some (.ref R), some (.ref As), some (.int w), x4, x5] ∧ (∀ c o, c ≠ As → H3 c = some o → H4 c = some o) ∧ H4 As = some (.lst (acc.map V.int)) ∧ acc.length ≤ i ∧ Lis.pick (ns.zip rk).reverse tp = acc ++ Lis.pick ((ns.zip rk).reverse.drop i) w) ?_ ?_ ?_ ?_
    · exact ⟨[], tp, none, none, rfl, fun _ _ _ e => e, eA3, Nat.le_refl _, rfl⟩
    · rintro i σ H4 _ ⟨acc, w, x4, x5, rfl, k4, _⟩
      exact .of (k4 _ _ nzA ez)
    · rintro i x σ H4 H5 hi ⟨acc, w, x4, x5, rfl, k4, e4, la, hp⟩ ⟨rfl, hx⟩
      rw [List.getElem?_map] at hx
      obtain ⟨t, hti, rfl⟩ := Option.map_eq_some_iff.mp hx
      have hil : i < ns.length := hi
      have hj : ns.length - 1 - i < ns.length := by omega
      have h1 : ns[ns.length - 1 - i]? = some ns[ns.length - 1 - i] := List.getElem?_eq_getElem hj
      have h2 : rk[ns.length - 1 - i]? = some rk[ns.length - 1 - i] := List.getElem?_eq_getElem (by omega)
      generalize ns[ns.length - 1 - i] = n at h1
      generalize rk[ns.length - 1 - i] = r at h2
      obtain ⟨t', et', eT⟩ := at_ _ n r h1 h2
      have hti2 : ts[ns.length - 1 - i]? = some t := hti
      obtain rfl : t' = t := Option.some.inj (et'.symm.trans hti2)
      have nt : t' ≠ As := fun z => by
        rw [z, eA3] at eT
        cases eT
      have hz : (ns.zip rk)[(ns.zip rk).length - 1 - i]? = some (n, r) := by
        rw [lz, List.getElem?_zip_eq_some]
        exact ⟨h1, h2⟩
      rw [rev_drop hz (by omega)] at hp
      rw [pick_cons] at hp
      refine ⟨t', _, rfl, .of (k4 _ _ nt eT), rfl, _, _, rfl, _, _, rfl, rfl, ?_⟩
      refine ⟨_, rfl, _, rfl, rfl, _, rfl, ?_⟩
      by_cases c : (r : Int) = w
      · rw [if_pos c] at hp
        refine eq_ifT (congrArg V.int c) ?_
        refine ⟨_, rfl, .inl ⟨rfl, _, .of e4⟩, _, rfl, As, _, _, rfl, rfl, e4, ?_, ?_⟩
        · rw [List.length_map]
          exact small1000 (by omega)
        refine ⟨_, rfl, _, _, rfl, rfl, ?_⟩
        refine ⟨acc ++ [n], w - 1, _, _, rfl, fun c o ne e => (upd_ne ne).trans (k4 _ _ ne e), ?_, ?_, ?_⟩
        · rw [upd_same, List.map_append]
          rfl
        · rw [List.length_append]
          show acc.length + 1 ≤ _
          omega
        · rw [hp, List.append_assoc]
          rfl
      · rw [if_neg c] at hp
        refine eq_ifN (fun z => c (V.int.inj z)) ?_
        exact ⟨acc, w, _, _, rfl, k4, e4, by omega, hp⟩
    · rintro σ H4 ⟨acc, w, x4, x5, rfl, k4, e4, la, hp⟩
      have lrev : (ns.zip rk).reverse.length = ns.length := by rw [List.length_reverse, lz]
      rw [← lrev, List.drop_length] at hp
      have hp2 : Lis.pick (ns.zip rk).reverse tp = acc := by
        rw [hp]
        exact List.append_nil _
      rw [hp2] at hb
      refine ⟨_, rfl, _, rfl, _, rfl, As, _, rfl, .of e4, rfl, fun p hp => ?_⟩
      have s4 : Same H H4 := fun c o e => k4 c o (fun z => by rw [z, hAn] at e; cases e) (s3' _ _ (s12 _ _ e))
      have sp := Same.new (o := .lst (acc.map V.int).reverse) hp
      refine q p acc.reverse _ (s4.free hp) (s4.trans sp) ?_ hb
      rw [upd_same, List.map_reverse]
end
end G
set_option Elab.async false
set_option linter.all false
set_option maxRecDepth 100000
set_option maxHeartbeats 8000000
/-! CF: moves_to. -/
namespace G
open PySem PySem.Spec PyProof.Rows L2 NdefX StX PySem.W
abbrev sMoves : Stmt := topS 32
abbrev nMoves : List Str := ["numbers", "untouched", "now", "moves", "at", "number", "index", "others", "target"]
theorem scMoves : FnScope nMoves ["numbers"] (defScope sMoves) := ⟨rfl, rfl, rfl, by decide +kernel, rfl, by decide +kernel, by decide +kernel⟩
theorem eqV_K (a b : Key) : eqV (kV a) (kV b) = decide (a = b) := by
  cases a with
  | inl a => cases b with
    | inl b =>
      show (a == b) = _
      by_cases h : a = b
      · subst h
        rw [decide_eq_true rfl]
        exact beq_self_eq_true _
      · rw [decide_eq_false fun z => h (Sum.inl.inj z)]
        exact beq_false_of_ne h
    | inr b => rfl
  | inr a => cases b with
    | inl b => rfl
    | inr b =>
      show (a == b) = _
      rw [str_beq]
      by_cases h : a = b
      · subst h
        rw [decide_eq_true rfl, decide_eq_true rfl]
      · rw [decide_eq_false h, decide_eq_false fun z => h (Sum.inr.inj z)]
theorem inV_iff (k : Key) : ∀ ks : List Key, inV (kV k) (ks.map kV) = true ↔ k ∈ ks
  | [] => ⟨(fun h => nomatch h), fun h => nomatch h⟩
  | z :: zs => by
    show (eqV (kV z) (kV k) || inV (kV k) (zs.map kV)) = true ↔ k ∈ z :: zs
    rw [Bool.or_eq_true, inV_iff k zs, eqV_K, List.mem_cons, decide_eq_true_iff]
    exact ⟨fun h => h.imp Eq.symm id, fun h => h.imp Eq.symm id⟩
theorem inV_out {k : Key} {ks : List Key} (h : k ∉ ks) : inV (kV k) (ks.map kV) = false := Bool.eq_false_iff.mpr fun z => h ((inV_iff k ks).mp z)
theorem flat_K (ks : List Key) : (ks.map kV).all flatV = true := List.all_eq_true.mpr fun x hx => by
  obtain ⟨k, _, rfl⟩ := List.mem_map.mp hx
  cases k <;> rfl
theorem mapI_K (ns : List Int) : ns.map V.int = (ns.map Sum.inl : List Key).map kV := by
  rw [List.map_map]
  rfl
theorem inV_I (n : Int) (ns : List Int) : inV (.int n) (ns.map V.int) = decide (n ∈ ns) := by
  rw [mapI_K]
  by_cases c : n ∈ ns
  · rw [decide_eq_true c]
    exact (inV_iff (.inl n) _).mpr (List.mem_map_of_mem c)
  · rw [decide_eq_false c]
    refine inV_out (k := .inl n) fun z => c ?_
    obtain ⟨m, hm, e⟩ := List.mem_map.mp z
    cases e
    exact hm
theorem flat_I (ns : List Int) : (ns.map V.int).all flatV = true := by
  rw [mapI_K]
  exact flat_K _
theorem first_at {α : Type} {n : α} : ∀ {ns : List α}, n ∈ ns → ∃ j : Nat, ns[j]? = some n ∧ ∀ m z, m < j → ns[m]? = some z → z ≠ n
  | a :: ns, h => by
    by_cases c : a = n
    · exact ⟨0, by rw [c] <;> rfl, fun m z hm => absurd hm (Nat.not_lt_zero _)⟩
    · obtain ⟨j, h1, h2⟩ := first_at (ns := ns) ((List.mem_cons.mp h).resolve_left fun e => c e.symm)
      refine ⟨j + 1, h1, fun m z hm e => ?_⟩
      cases m with
      | zero =>
        cases e
        exact c
      | succ m => exact h2 m z (Nat.lt_of_succ_lt_succ hm) e
theorem rIndex_I {K : PySem.W.Frag} {H : Hp} {l : Addr} {ns : List Int} {n : Int} {Q : VK} (hl : SqL K H l (ns.map V.int)) (hn : n ∈ ns) (q : ∀ j : Nat, ns[j]? = some n → Q (.int (j : Nat)) H) : rIndex K (.ref l) [.int n] H Q := by
  obtain ⟨j, h1, h2⟩ := first_at hn
  refine ⟨l, _, _, j, .int n, rfl, rfl, hl, rfl, flat_I _, ?_, beq_self_eq_true _, ?_, q j h1⟩
  · rw [List.getElem?_map, h1]
    rfl
  · intro m z' hm e
    rw [List.getElem?_map] at e
    obtain ⟨y, ey, rfl⟩ := Option.map_eq_some_iff.mp e
    show (y == n) = false
    exact beq_false_of_ne (h2 m y hm ey)
theorem filt_best {ns A : List Int} (nd : ns.Nodup) (h : A.Sublist ns) : (ns.filter fun n => !decide (n ∈ A)).length + A.length = ns.length := by
  have hA : A.Nodup := nd.sublist h
  have e : (ns.filter fun n => decide (n ∈ A)).Perm A := by
    refine (List.perm_ext_iff_of_nodup (nd.sublist (List.filter_sublist)) hA).mpr fun n => ?_
    rw [List.mem_filter]
    exact ⟨fun z => of_decide_eq_true z.2, fun z => ⟨h.subset z, decide_eq_true z⟩⟩
  rw [← e.length_eq]
  have := List.length_eq_countP_add_countP (fun n => decide (n ∈ A)) (l := ns)
  rw [List.countP_eq_length_filter, List.countP_eq_length_filter] at this
  have e2 : (ns.filter fun n => !decide (n ∈ A)) = ns.filter fun a => decide ¬ (decide (a ∈ A) = true) := by
    congr 1
    funext n
    by_cases c : n ∈ A
    · rw [decide_eq_true c]
      rfl
    · rw [decide_eq_false c]
      rfl
  rw [e2]
  omega
def spMoves (K : PySem.W.Frag) : Sp := fun vs H Q _ => ∃ (l : Addr) (ns : List Int), vs = [.ref l] ∧ SqL K H l (ns.map V.int) ∧ ns.Nodup ∧ ns.length ≤ 80 ∧
  ∀ (p : Addr) (A : List Int) (ts : List Addr) (H' : Hp), H p = none → Same H H' → H' p = some (.lst (ts.map V.ref)) → Lis.Best ns A → ts.length + A.length = ns.length → Q (.ref p) H'
section
variable {P : Program} {w : World} {K : PySem.W.Frag} {mg : Str → Option Value} {base : Heap} {f : Addr} {fd : FuncData}
theorem ok_moves {fA fW fO : Addr} {fdA fdW fdO : FuncData} (F : Fun K "moves_to" "moves_to" sMoves f fd) (GA : FnOk P w K mg base CX0 2 fA fdA ["numbers"] (spAscent K)) (gA : mg "longest_ascent" = some (.ref fA)) (kA : PySem.W.keepIn K (.ref fA) = true) (bA : Binds K fdA ["numbers"] [])
    (Wi : WiWo P w K mg base fW fO fdW fdO) (mS : mg "sorted" = none) (me : mg "enumerate" = none) : FnOk P w K mg base CX0 3 f fd ["numbers"] (spMoves K) := by
  refine F.ok scMoves (fun vs H Q E h => ?_) (fun cdv A outer s H vs Q E hr h => ?_)
  · obtain ⟨l, ns, rfl, _⟩ := h
    rfl
  · obtain ⟨l, ns, rfl, hl, nd, few, q⟩ := h
    have hr1 := hr.mono (show 1 ≤ 2 by decide)
    refine ⟨_, pss_cons (ps_set (i := 1) scMoves.nd rfl (.inl rfl) (pe_call GA hr rfl gA kA bA .nil pass0 (pa_cons (pv 0) pa_nil)))
      (pss_cons (ps_set (i := 2) scMoves.nd rfl (.inl rfl) (pe_callB cr_sortedI (by rfl) mS (by decide +kernel) (pa_cons (pv 0) pa_nil)))
      (pss_cons (ps_set (i := 3) scMoves.nd rfl (.inl rfl) (pe_lst pa_nil))
      (pss_cons (ps_for PassesOwn.never rfl (pi_enum (by rfl) me (pa_cons (pv 0) pa_nil)) (pg_tup rfl (pgs_cons (pg_name (i := 4) scMoves.nd rfl (.inl rfl)) (pgs_cons (pg_name (i := 5) scMoves.nd rfl (.inl rfl)) pgs_nil)))
        (pss_one (ps_if (pt_cmpR op_notIn_seq (pv 5) (pv 1) (by rfl))
          (pss_cons (ps_set (i := 6) scMoves.nd rfl (.inl rfl) (pe_bm PySem.F.plainAttrs_list PySem.F.slot_list_index PySem.F.type_list_index mt_index (pv 2) (pa_cons (pv 5) pa_nil)))
          (pss_cons (ps_set (i := 7) scMoves.nd rfl (.inl rfl) (pe_call Wi.GO hr1 rfl Wi.gO Wi.kO Wi.bO .nil pass0 (pa_cons (pv 2) (pa_cons (pv 6) pa_nil))))
          (pss_cons (ps_set (i := 8) scMoves.nd rfl (.inl rfl) (pe_ifExp (pt_cmpR op_gt (pv 4) pe_int (nomark _)) (pe_op op_add (pe_bm PySem.F.plainAttrs_list PySem.F.slot_list_index PySem.F.type_list_index mt_index (pv 7) (pa_cons (pe_ix ix_list (pv 0) (pe_op op_sub (pv 4) pe_int) (fun _ _ => rfl)) pa_nil)) pe_int) pe_int))
          (pss_cons (ps_set (i := 2) scMoves.nd rfl (.inl rfl) (pe_call Wi.GW hr1 rfl Wi.gW Wi.kW Wi.bW .nil pass0 (pa_cons (pv 7) (pa_cons (pv 8) (pa_cons (pv 5) pa_nil)))))
          (pss_one (ps_expr (pe_bm PySem.F.plainAttrs_list PySem.F.slot_list_append PySem.F.type_list_append mt_append (pv 3) (pa_cons (pe_tup (pa_cons pe_str (pa_cons (pv 6) (pa_cons (pv 8) pa_nil)))) pa_nil)))))))) pss_nil)))
      (pss_one (ps_ret (pv 3)))))), ?_⟩
    refine ⟨_, rfl, l, ns, rfl, hl, nd, few, fun U A0 H1 hU s1 eU best => ?_⟩
    refine ⟨_, rfl, l, ns, rfl, sqL_keep s1 hl, fun xs0 N0 pm0 _ hN0 => ?_⟩
    have s2 := Same.new (o := .lst (xs0.map V.int)) hN0
    refine ⟨(by show 0 ≤ sizeLine; decide), fun M hM => ?_⟩
    have s3 := Same.new (o := .lst []) hM
    have eU3 := s3 _ _ (s2 _ _ eU)
    have eN3 := s3 _ _ (upd_same (H := H1) (a := N0) (o := .lst (xs0.map V.int)))
    have eM3 : (upd (upd H1 N0 (.lst (xs0.map V.int))) M (.lst [])) M = some (.lst []) := upd_same
    have nNM : N0 ≠ M := fun z => by
      rw [← z, upd_same] at hM
      cases hM
    have s123 := s1.trans (s2.trans s3)
    have s23 := s2.trans s3
    have hM1 : H1 M = none := s2.free hM
    have hMn : H M = none := s1.free hM1
    generalize upd (upd H1 N0 (.lst (xs0.map V.int))) M (.lst []) = H3 at eU3 eN3 eM3 s123 s23 ⊢
    refine ⟨_, rfl, l, ns.map V.int, rfl, sqL_keep s123 hl, ?_⟩
    have lz : (ns.map V.int).length = ns.length := List.length_map ..
    refine for_it (walk_enum (xs := ns.map V.int)) (fun i σ H4 => ∃ (N : Addr) (xs : List Int) (ts : List Addr) (x4 x5 x6 x7 x8 : Option V), σ = [some (.ref l), some (.ref U), some (.ref N), some (.ref M), x4, x5, x6, x7, x8] ∧ Same H1 H4 ∧ H4 N = some (.lst (xs.map V.int)) ∧ N ≠ M ∧ H4 M = some (.lst (ts.map V.ref)) ∧ xs.Perm ns ∧ ts.length = ((ns.take i).filter fun n => !decide (n ∈ A0)).length) ?_ ?_ ?_ ?_
    · exact ⟨N0, xs0, [], none, none, none, none, none, rfl, s23, eN3, nNM, eM3, pm0, rfl⟩
    · rintro i σ H4 _ ⟨N, xs, ts, x4, x5, x6, x7, x8, rfl, s4, _⟩
      exact sqL_keep (s1.trans s4) hl
    · rintro i x σ H4 H5 hi ⟨N, xs, ts, x4, x5, x6, x7, x8, rfl, s4, eN, nN, eM, pm, lt⟩ ⟨T, x, y, rfl, hT, rfl, hx, hy⟩
      cases hx
      replace hy : (ns.map V.int)[i]? = some y := hy
      rw [List.getElem?_map] at hy
      obtain ⟨n, hn, rfl⟩ := Option.map_eq_some_iff.mp hy
      have mn := List.mem_of_getElem? hn
      have hin : i < ns.length := (List.getElem?_eq_some_iff.mp hn).1
      have tT := Same.new (o := .tup [.int (i : Nat), .int n]) hT
      have eN5 := tT _ _ eN
      have eM5 := tT _ _ eM
      have eT5 : (upd H4 T (.tup [.int (i : Nat), .int n])) T = some (.tup [.int (i : Nat), .int n]) := upd_same
      have s5 := s4.trans tT
      generalize upd H4 T (.tup [.int (i : Nat), .int n]) = H5 at eN5 eM5 eT5 s5 ⊢
      refine ⟨T, _, rfl, .of eT5, rfl, _, _, rfl, _, _, rfl, rfl, ?_⟩
      refine ⟨_, rfl, _, rfl, U, _, rfl, .inl (.of (s5 _ _ eU)), rfl, flat_I _, _, rfl, ?_⟩
      rw [show (if true = true then !inV (V.int n) (A0.map V.int) else inV (V.int n) (A0.map V.int)) = !decide (n ∈ A0) by rw [if_pos rfl, inV_I]]
      rw [take_snocA hn, filt_snoc]
      have lti : ts.length ≤ i := by
        rw [lt]
        refine Nat.le_trans (List.length_filter_le _ _) ?_
        rw [List.length_take]
        omega
      by_cases c : n ∈ A0
      · have cb : (!decide (n ∈ A0)) = false := by rw [decide_eq_true c]; rfl
        rw [cb]
        refine iteF ⟨N, xs, ts, _, _, _, _, _, rfl, s5, eN5, nN, eM5, pm, ?_⟩
        rw [if_neg (by decide)]
        exact lt
      have cb : (!decide (n ∈ A0)) = true := by rw [decide_eq_false c]; rfl
      rw [show (!decide (n ∈ A0)) = true from cb]
      refine iteT ?_
      refine ⟨_, rfl, .inl ⟨rfl, _, .of eN5⟩, _, rfl, ?_⟩
      dsimp only [tNil]
      refine rIndex_I (.of eN5) (pm.symm.subset mn) fun j hj => ?_
      have ljx : j < xs.length := (List.getElem?_eq_some_iff.mp hj).1
      have lx := pm.length_eq
      refine ⟨_, rfl, _, rfl, N, _, j, rfl, eN5, by rw [List.length_map]; exact ljx, by rw [List.length_map]; omega, fun O H6 nO s6 eO => ?_⟩
      rw [← delP_map] at eO
      have ld := delP_len ljx
      refine ⟨_, rfl, _, _, rfl, rfl, _, rfl, ?_⟩
      by_cases ci : i = 0
      · subst ci
        refine iteF ?_
        refine ⟨_, rfl, _, rfl, _, rfl, O, _, 0, .int n, rfl, eO, ?_, ?_, fun N2 H7 nN2 s7 eN2 => ?_⟩
        · rw [List.length_map]
          omega
        · rw [List.length_map]
          omega
        rw [← insP_map] at eN2
        have eM7 := s7 _ _ (s6 _ _ eM5)
        refine ⟨_, rfl, .inl ⟨rfl, _, .of eM7⟩, _, rfl, _, rfl, (by show 3 ≤ sizeLine; decide), fun T2 hT2 => ?_⟩
        have s8 := Same.new (o := .tup [.str "move", .int (j : Nat), .int (0 : Nat)]) hT2
        refine ⟨M, _, _, rfl, rfl, s8 _ _ eM7, ?_, ?_⟩
        · rw [List.length_map]
          exact small1000 (by omega)
        have nN2M : N2 ≠ M := fun z => by
          rw [z, s6 _ _ eM5] at nN2
          cases nN2
        refine ⟨N2, insP (delP xs j) 0 n, ts ++ [T2], _, _, _, _, _, rfl, ?_, ?_, nN2M, ?_, ?_, ?_⟩
        · exact fun c o e => (upd_ne (ne_of_none e hM1)).trans (s8 _ _ (s7 _ _ (s6 _ _ (s5 _ _ e))))
        · exact (upd_ne nN2M).trans (s8 _ _ eN2)
        · rw [upd_same, List.map_append]
          rfl
        · exact ((insP_perm _ _ _).trans (delP_perm hj)).trans pm
        · rw [List.length_append, if_pos rfl, List.length_append, lt]
          rfl
      · rw [show decide ((i : Int) > 0) = true from decide_eq_true (by omega)]
        refine iteT ?_
        have hprev : ns[i - 1]? = some ns[i - 1] := List.getElem?_eq_getElem (by omega)
        have mprev : ns[i - 1] ∈ delP xs j := by
          have h1 : ns[i - 1] ∈ n :: delP xs j := ((delP_perm hj).trans pm).symm.subset (List.mem_of_getElem? hprev)
          refine (List.mem_cons.mp h1).resolve_left fun z => ?_
          have := (List.getElem_inj nd (h₀ := by omega) (h₁ := hin)).mp (z.trans ((List.getElem?_eq_some_iff.mp hn).2).symm)
          omega
        refine ⟨_, rfl, .inl ⟨rfl, _, .of eO⟩, _, rfl, _, rfl, _, _, rfl, rfl, l, _, _, V.int ns[i - 1], rfl, rfl, sqL_keep (s1.trans (s5.trans s6)) hl, ?_, ?_⟩
        · rw [show ((i : Int) - 1) = ((i - 1 : Nat) : Int) by omega]
          exact atI_nat (j := i - 1) (by rw [List.getElem?_map, hprev] <;> rfl)
        dsimp only [tNil]
        refine rIndex_I (.of eO) mprev fun k hk => ?_
        have lk : k < (delP xs j).length := (List.getElem?_eq_some_iff.mp hk).1
        refine ⟨_, _, rfl, rfl, ?_⟩
        refine ⟨_, rfl, _, rfl, _, rfl, O, _, (k + 1), .int n, rfl, eO, ?_, ?_, fun N2 H7 nN2 s7 eN2 => ?_⟩
        · rw [List.length_map]
          omega
        · rw [List.length_map]
          omega
        rw [← insP_map] at eN2
        have eM7 := s7 _ _ (s6 _ _ eM5)
        refine ⟨_, rfl, .inl ⟨rfl, _, .of eM7⟩, _, rfl, _, rfl, (by show 3 ≤ sizeLine; decide), fun T2 hT2 => ?_⟩
        have s8 := Same.new (o := .tup [.str "move", .int (j : Nat), .int ((k + 1) : Nat)]) hT2
        refine ⟨M, _, _, rfl, rfl, s8 _ _ eM7, ?_, ?_⟩
        · rw [List.length_map]
          exact small1000 (by omega)
        have nN2M : N2 ≠ M := fun z => by
          rw [z, s6 _ _ eM5] at nN2
          cases nN2
        refine ⟨N2, insP (delP xs j) (k + 1) n, ts ++ [T2], _, _, _, _, _, rfl, ?_, ?_, nN2M, ?_, ?_, ?_⟩
        · exact fun c o e => (upd_ne (ne_of_none e hM1)).trans (s8 _ _ (s7 _ _ (s6 _ _ (s5 _ _ e))))
        · exact (upd_ne nN2M).trans (s8 _ _ eN2)
        · rw [upd_same, List.map_append]
          rfl
        · exact ((insP_perm _ _ _).trans (delP_perm hj)).trans pm
        · rw [List.length_append, if_pos rfl, List.length_append, lt]
          rfl
    · rintro σ H4 ⟨N, xs, ts, x4, x5, x6, x7, x8, rfl, s4, eN, nN, eM, pm, lt⟩
      rw [lz, List.take_length] at lt
      have hb := filt_best nd best.sub
      exact ⟨_, rfl, q M A0 ts H4 hMn (s1.trans s4) eM best (by rw [lt]; exact hb)⟩
end
end G
set_option Elab.async false
set_option linter.all false
set_option maxRecDepth 100000
set_option maxHeartbeats 8000000
/-! CG: steps_to, of items with headers. -/
namespace G
open PySem PySem.Spec PyProof.Rows L2 NdefX StX PySem.W
abbrev sSteps : Stmt := topS 33
abbrev nSteps : List Str := ["before", "after", "kept", "removals", "insertions", "item", "index", "at"]
theorem scSteps : FnScope nSteps ["before", "after"] (defScope sSteps) := ⟨rfl, rfl, rfl, by decide +kernel, rfl, by decide +kernel, by decide +kernel⟩
def intsT (ks : List Tm) : List Int := ks.filterMap Sum.getLeft?
def rwsT (ks : List Tm) : List Rw := ks.filterMap Sum.getRight?
def news (ps : List Pm) : List Pm := ps.filter fun p => p.2.isRight
theorem mem_ints {ks : List Tm} {i : Int} : i ∈ intsT ks ↔ Sum.inl i ∈ ks := by
  unfold intsT
  rw [List.mem_filterMap]
  constructor
  · rintro ⟨k, hk, e⟩
    cases k with
    | inl j => cases e; exact hk
    | inr z => cases e
  · exact fun h => ⟨_, h, rfl⟩
theorem mem_rws {ks : List Tm} {z : Rw} : z ∈ rwsT ks ↔ Sum.inr z ∈ ks := by
  unfold rwsT
  rw [List.mem_filterMap]
  constructor
  · rintro ⟨k, hk, e⟩
    cases k with
    | inr j => cases e; exact hk
    | inl z => cases e
  · exact fun h => ⟨_, h, rfl⟩
theorem ints_nd {ks : List Tm} (h : ks.Nodup) : (intsT ks).Nodup := by
  unfold intsT
  refine List.Pairwise.filterMap _ (fun a a' hne b hb b' hb' e => ?_) h
  cases a with
  | inl i => cases a' with
    | inl j =>
      cases hb
      cases hb'
      exact hne (by rw [e])
    | inr z => cases hb'
  | inr z => cases hb
theorem ints_len (ks : List Tm) : (intsT ks).length ≤ ks.length := List.length_filterMap_le _ _
theorem ints_rws : ∀ ks : List Tm, (intsT ks).length + (rwsT ks).length = ks.length
  | [] => rfl
  | .inl i :: ks => by
    have := ints_rws ks
    show (intsT ks).length + 1 + (rwsT ks).length = ks.length + 1
    omega
  | .inr i :: ks => by
    have := ints_rws ks
    show (intsT ks).length + ((rwsT ks).length + 1) = ks.length + 1
    omega
theorem ints_snoc (ks : List Tm) (x : Tm) : intsT (ks ++ [x]) = intsT ks ++ intsT [x] := List.filterMap_append
theorem rws_snoc (ks : List Tm) (x : Tm) : rwsT (ks ++ [x]) = rwsT ks ++ rwsT [x] := List.filterMap_append
theorem kys_snoc {ps : List Pm} {i : Nat} {p : Pm} (h : ps[i]? = some p) : kys (ps.take (i + 1)) = kys (ps.take i) ++ [p.2] := by
  unfold kys
  rw [List.take_add_one, h, List.map_append]
  rfl
theorem news_snoc {ps : List Pm} {i : Nat} {p : Pm} (h : ps[i]? = some p) : news (ps.take (i + 1)) = if p.2.isRight = true then news (ps.take i) ++ [p] else news (ps.take i) := by
  unfold news
  rw [take_snocA h, filt_snoc]
theorem vls_at {ps : List Pm} {i : Nat} {v : V} (h : (vls ps)[i]? = some v) : ∃ p, ps[i]? = some p ∧ p.1 = v ∧ p ∈ ps := by
  unfold vls at h
  rw [List.getElem?_map] at h
  obtain ⟨p, hp, e⟩ := Option.map_eq_some_iff.mp h
  exact ⟨p, hp, e, List.mem_of_getElem? hp⟩
theorem filt_two {ns A : List Int} (nd : ns.Nodup) (hA : A.Nodup) (h : A ⊆ ns) : (ns.filter fun n => !decide (n ∈ A)).length + A.length = ns.length := by
  have e : (ns.filter fun n => decide (n ∈ A)).Perm A := by
    refine (List.perm_ext_iff_of_nodup (nd.sublist (List.filter_sublist)) hA).mpr fun n => ?_
    rw [List.mem_filter]
    exact ⟨fun z => of_decide_eq_true z.2, fun z => ⟨h z, decide_eq_true z⟩⟩
  rw [← e.length_eq]
  have := List.length_eq_countP_add_countP (fun n => decide (n ∈ A)) (l := ns)
  rw [List.countP_eq_length_filter, List.countP_eq_length_filter] at this
  have e2 : (ns.filter fun n => !decide (n ∈ A)) = ns.filter fun a => decide ¬ (decide (a ∈ A) = true) := by
    congr 1
    funext n
    by_cases c : n ∈ A
    · rw [decide_eq_true c]
      rfl
    · rw [decide_eq_false c]
      rfl
  rw [e2]
  omega
/-- n - 1 .. 0 -/
def revI (n : Nat) : List Int := (List.range n).reverse.map Int.ofNat
theorem revI_len (n : Nat) : (revI n).length = n := by
  unfold revI
  rw [List.length_map, List.length_reverse, List.length_range]
theorem revI_nd (n : Nat) : (revI n).Nodup := by
  unfold revI List.Nodup
  rw [List.pairwise_map, List.pairwise_reverse]
  exact List.nodup_range.imp fun h e => h (Int.ofNat.inj e).symm
theorem revI_at {n i : Nat} (h : i < n) : (revI n)[i]? = some ((n : Int) - 1 - (i : Nat)) := by
  unfold revI
  rw [List.getElem?_map, List.getElem?_reverse (by rw [List.length_range]; exact h), List.length_range, List.getElem?_range (by omega)]
  show some (Int.ofNat (n - 1 - i)) = _
  congr 1
  show ((n - 1 - i : Nat) : Int) = _
  omega
theorem revI_mem {n : Nat} {i : Int} (h0 : 0 ≤ i) (h1 : i < n) : i ∈ revI n := by
  unfold revI
  refine List.mem_map.mpr ⟨i.toNat, ?_, ?_⟩
  · rw [List.mem_reverse, List.mem_range]
    omega
  · show ((i.toNat : Nat) : Int) = i
    omega
def spSteps (K : PySem.W.Frag) : Sp := fun vs H Q _ => ∃ (n : Nat) (l : Addr) (ps : List Pm), vs = [.int (n : Nat), .ref l] ∧ H l = some (.lst (vls ps)) ∧ PsAt H ps ∧ ChOk n (kys ps) ∧
  ∀ (p : Addr) (A : List Int) (ts : List Addr) (H' : Hp), H p = none → Same H H' → H' p = some (.lst (ts.map V.ref)) → Lis.Best (intsT (kys ps)) A → ts.length + A.length = n + (rwsT (kys ps)).length → ts.length ≤ 320 → Q (.ref p) H'
section
variable {P : Program} {w : World} {K : PySem.W.Frag} {mg : Str → Option Value} {base : Heap} {f : Addr} {fd : FuncData}
theorem ok_steps {fM : Addr} {fdM : FuncData} (F : Fun K "steps_to" "steps_to" sSteps f fd) (GM : FnOk P w K mg base CX0 3 fM fdM ["numbers"] (spMoves K)) (gM : mg "moves_to" = some (.ref fM)) (kM : PySem.W.keepIn K (.ref fM) = true) (bM : Binds K fdM ["numbers"] [])
    (mi : mg "isinstance" = none) (mn : mg "int" = none) (mrv : mg "reversed" = none) (mr : mg "range" = none) (me : mg "enumerate" = none) : FnOk P w K mg base CX0 4 f fd ["before", "after"] (spSteps K) := by
  refine F.ok scSteps (fun vs H Q E h => ?_) (fun cdv A outer s H vs Q E hr h => ?_)
  · obtain ⟨n, l, ps, rfl, _⟩ := h
    rfl
  · obtain ⟨n, l, ps, rfl, hl, hp, ok, q⟩ := h
    refine ⟨_, pss_cons (ps_set (i := 2) scSteps.nd rfl (.inr rfl) (pe_lc (own := [("item", 5)]) (g := gName 5) (tt := tB (tCB (rIsi K) (tCons (tVar 5) (tCons (tC (.ty "int")) tNil)))) (by rfl) scSteps.nd (pi_list (pv 1))
        (blkOk_by (own := [("item", 5)]) (N := nSteps) (sc := defScope sSteps) (by decide +kernel)) (fun _ _ _ _ _ => pg_name (i := 5) scSteps.nd rfl (.inl rfl)) (fun _ _ _ _ _ => pts_one (by exact pt_val (pt_isi "int" (pv 5) (hm := mi) (mn := mn)))) (fun _ _ _ _ _ => pv 5)))
      (pss_cons (ps_setLc (i := 3) (own := [("index", 6)]) (g := gName 6) (by rfl) scSteps.nd rfl rfl (sw_true rfl rfl rfl (by decide +kernel)) (pi_revR (by rfl) mrv (prg_1 (by rfl) mr (pv 0)))
        (blkOk_by (own := [("index", 6)]) (N := nSteps) (sc := defScope sSteps) (by decide +kernel)) (fun _ _ _ _ _ => pg_name (i := 6) scSteps.nd rfl (.inl rfl)) (fun _ _ _ _ _ => pts_one (pt_cmpR (r := rIn K true) op_notIn_seq (pv 6) (pv 2) (by rfl))) (fun _ _ _ _ _ => pe_tup (pa_cons pe_str (pa_cons (pv 6) pa_nil))))
      (pss_cons (ps_setLc (i := 4) (own := [("at", 7), ("item", 5)]) (g := gTup K 2 (gCons (gName 7) (gCons (gName 5) gNil))) (tt := tNot (tB (tCB (rIsi K) (tCons (tVar 5) (tCons (tC (.ty "int")) tNil))))) (by rfl) scSteps.nd rfl rfl (sw_true rfl rfl rfl (by decide +kernel)) (pi_enum (by rfl) me (pa_cons (pv 1) pa_nil))
        (blkOk_by (own := [("at", 7), ("item", 5)]) (N := nSteps) (sc := defScope sSteps) (by decide +kernel)) (fun _ _ _ _ _ => pg_tup (by rfl) (pgs_cons (pg_name (i := 7) scSteps.nd rfl (.inl rfl)) (pgs_cons (pg_name (i := 5) scSteps.nd rfl (.inl rfl)) pgs_nil)))
        (fun _ _ _ _ _ => pts_one (by exact pt_not (pt_val (pt_isi "int" (pv 5) (hm := mi) (mn := mn))))) (fun _ _ _ _ _ => pe_tup (pa_cons pe_str (pa_cons (pv 7) (pa_cons (pv 5) pa_nil)))))
      (pss_one (ps_ret (pe_op op_cat (pe_op op_cat (pv 3) (pe_call GM hr rfl gM kM bM .nil pass0 (pa_cons (pv 2) pa_nil))) (pv 4)))))), ?_⟩
    have few : ps.length ≤ 80 := by
      have := ok.few
      unfold kys at this
      rwa [List.length_map] at this
    have n80 := ok.n80
    have lz : (vls ps).length = ps.length := List.length_map ..
    have lk : ∀ i, (kys (ps.take i)).length ≤ i := fun i => by
      unfold kys
      rw [List.length_map, List.length_take]
      omega
    refine ⟨_, rfl, l, rfl, ⟨_, .of hl⟩, fun D hD => ?_⟩
    refine lc_list (xs := vls ps) (fun i H3 => Same H H3 ∧ H3 D = some (.lst ((intsT (kys (ps.take i))).map V.int))) ?_ ?_ ?_ ?_
    · exact ⟨Same.new hD, upd_same⟩
    · exact fun _ _ _ z => .of (z.1 _ _ hl)
    · rintro i x H3 hx ⟨s3, e3⟩
      obtain ⟨p, hpi, rfl, mp⟩ := vls_at hx
      have ip := (List.getElem?_eq_some_iff.mp hpi).1
      have ha := (hp p mp).same s3
      refine ⟨rfl, ?_⟩
      rw [kys_snoc hpi, ints_snoc]
      have small : ((intsT (kys (ps.take i))).map V.int).length < sizeLine := by
        rw [List.length_map]
        have h1 := ints_len (kys (ps.take i))
        have h2 := lk i
        exact small1000 (by omega)
      obtain ⟨v, x⟩ := p
      refine ⟨_, rfl, _, _, _, _, _, rfl, .ty _, rp_ty ha.rp, kit_i (encT x), _, rfl, ?_⟩
      cases x with
      | inl j =>
        obtain rfl : v = .int j := ha
        refine iteT ⟨_, rfl, _, e3, small, fun c o e => (upd_ne (ne_of_none e hD)).trans (s3 _ _ e), ?_⟩
        rw [upd_same, List.map_append]
        rfl
      | inr r =>
        rw [show isI (encT (.inr r)) = false by cases r <;> rfl]
        refine iteF ⟨s3, ?_⟩
        rw [show intsT [Sum.inr r] = [] from rfl, List.append_nil]
        exact e3
    rintro H1 ⟨s1, e1⟩
    rw [lz, List.take_length] at e1
    have nI := ints_nd ok.nd
    have lI : (intsT (kys ps)).length ≤ ps.length := by
      have := ints_len (kys ps)
      unfold kys at this ⊢
      rwa [List.length_map] at this
    refine ⟨_, rfl, _, rfl, by decide, by decide, by omega, by omega, fun R hR => ?_⟩
    have hR0 : H R = none := s1.free hR
    rw [show ((n : Int) - 0).toNat = n by omega]
    refine lc_it (walk_rangeC (n := n)) (fun i H3 => Same H1 H3 ∧ ∃ ts : List Addr, H3 R = some (.lst (ts.map V.ref)) ∧ ts.length = (((revI n).take i).filter fun m => !decide (m ∈ intsT (kys ps))).length) ?_ ?_ ?_ ?_
    · exact ⟨Same.new hR, [], upd_same, rfl⟩
    · exact fun _ _ _ _ => trivial
    · rintro i x H3 H4 hi ⟨s3, ts, e3, lt⟩ ⟨rfl, ex⟩
      replace ex : x = V.int (0 + (n : Int) - 1 + (i : Nat) * -1) := ex
      rw [show (0 + (n : Int) - 1 + (i : Nat) * -1) = (n : Int) - 1 - (i : Nat) by omega] at ex
      subst ex
      have hx := revI_at hi
      have lti : ts.length ≤ i := by
        rw [lt]
        refine Nat.le_trans (List.length_filter_le _ _) ?_
        rw [List.length_take]
        omega
      refine ⟨rfl, ?_⟩
      generalize (n : Int) - 1 - (i : Nat) = m at hx
      rw [take_snocA hx, filt_snoc]
      refine ⟨_, rfl, _, rfl, D, _, rfl, .inl (.of (s3 _ _ e1)), rfl, flat_I _, _, rfl, ?_⟩
      rw [show (if true = true then !inV (V.int m) ((intsT (kys ps)).map V.int) else inV (V.int m) ((intsT (kys ps)).map V.int)) = !decide (m ∈ intsT (kys ps)) by rw [if_pos rfl, inV_I]]
      by_cases c : m ∈ intsT (kys ps)
      · rw [show (!decide (m ∈ intsT (kys ps))) = false by rw [decide_eq_true c]; rfl]
        refine iteF ⟨s3, ts, e3, ?_⟩
        rw [if_neg (by decide)]
        exact lt
      · rw [show (!decide (m ∈ intsT (kys ps))) = true by rw [decide_eq_false c]; rfl]
        refine iteT ⟨_, rfl, (by show 2 ≤ sizeLine; decide), fun T hT => ⟨_, Same.new hT _ _ e3, ?_, ?_, ts ++ [T], ?_, ?_⟩⟩
        · rw [List.length_map]
          exact small1000 (by omega)
        · exact fun c o e => (upd_ne (ne_of_none e hR)).trans (Same.new hT _ _ (s3 _ _ e))
        · rw [upd_same, List.map_append]
          rfl
        · rw [if_pos rfl, List.length_append, List.length_append, lt]
          rfl
    rintro H2 ⟨s2, tsR, eR, lR⟩
    rw [List.take_of_length_le (by rw [revI_len]; exact Nat.le_refl _)] at lR
    have lRn := filt_two (revI_nd n) nI fun i hi => let ⟨h1, h2⟩ := ok.lo i (mem_ints.mp hi); revI_mem h1 h2
    rw [← lR, revI_len] at lRn
    have eD2 := s2 _ _ e1
    have s12 := s1.trans s2
    refine ⟨_, rfl, l, _, rfl, .of (s12 _ _ hl), fun I hI => ?_⟩
    have hI0 : H I = none := s12.free hI
    refine lc_it (walk_enum (xs := vls ps)) (fun i H3 => Same H2 H3 ∧ ∃ ts : List Addr, H3 I = some (.lst (ts.map V.ref)) ∧ ts.length = (rwsT (kys (ps.take i))).length) ?_ ?_ ?_ ?_
    · exact ⟨Same.new hI, [], upd_same, rfl⟩
    · exact fun _ _ _ z => .of ((s12.trans z.1) _ _ hl)
    · rintro i x H3 H4 hi ⟨s3, ts, e3, lt⟩ ⟨T, x, y, rfl, hT, rfl, hx, hy⟩
      cases hx
      obtain ⟨p, hpi, rfl, mp⟩ := vls_at hy
      have ip := (List.getElem?_eq_some_iff.mp hpi).1
      have lti : ts.length ≤ i := by
        rw [lt]
        have h1 := ints_rws (kys (ps.take i))
        have h2 := lk i
        omega
      have sT := Same.new (o := .tup [.int (i : Nat), p.1]) hT
      have e4 := sT _ _ e3
      have eT : (upd H3 T (.tup [.int (i : Nat), p.1])) T = some (.tup [.int (i : Nat), p.1]) := upd_same
      have s4 := s3.trans sT
      generalize upd H3 T (.tup [.int (i : Nat), p.1]) = H4 at e4 eT s4 ⊢
      have ha := (hp p mp).same (s12.trans s4)
      refine ⟨T, _, rfl, .of eT, rfl, _, _, rfl, _, _, rfl, rfl, rfl, ?_⟩
      rw [kys_snoc hpi, rws_snoc]
      obtain ⟨v, x⟩ := p
      refine ⟨_, rfl, _, _, _, _, _, rfl, .ty _, rp_ty ha.rp, kit_i (encT x), _, rfl, ?_⟩
      cases x with
      | inl j =>
        refine iteF ⟨s4, ts, e4, ?_⟩
        rw [lt, show rwsT [Sum.inl j] = [] from rfl, List.append_nil]
      | inr r =>
        rw [show isI (encT (.inr r)) = false by cases r <;> rfl]
        refine iteT ?_
        refine ⟨_, rfl, _, rfl, (by show 3 ≤ sizeLine; decide), fun T2 hT2 => ⟨_, Same.new hT2 _ _ e4, ?_, ?_, ts ++ [T2], ?_, ?_⟩⟩
        · rw [List.length_map]
          exact small1000 (by omega)
        · exact fun c o e => (upd_ne (ne_of_none e hI)).trans (Same.new hT2 _ _ (s4 _ _ e))
        · rw [upd_same, List.map_append]
          rfl
        · rw [List.length_append, List.length_append, lt]
          rfl
    rintro H3 ⟨s3, tsI, eI, lI2⟩
    rw [lz, List.take_length] at lI2
    refine ⟨_, rfl, _, rfl, D, intsT (kys ps), rfl, .of (s3 _ _ eD2), nI, by omega, fun M A0 tsM H4 nM s4 eM best lM => ?_⟩
    have h1 := ints_rws (kys ps)
    have h2 : (kys ps).length = ps.length := List.length_map ..
    refine ⟨R, M, _, _, rfl, rfl, s4 _ _ (s3 _ _ eR), eM, ?_, fun c1 hc1 => ?_⟩
    · rw [List.length_map, List.length_map]
      exact Nat.le_of_lt (small1000 (by omega))
    have sc1 := Same.new (o := .lst (tsR.map V.ref ++ tsM.map V.ref)) hc1
    refine ⟨_, rfl, c1, I, _, _, rfl, rfl, upd_same, sc1 _ _ (s4 _ _ eI), ?_, fun c2 hc2 => ?_⟩
    · rw [List.length_append, List.length_map, List.length_map, List.length_map]
      exact Nat.le_of_lt (small1000 (by omega))
    have sAll := (s12.trans s3).trans (Same.trans (show Same H3 H4 from s4) sc1)
    refine q c2 A0 ((tsR ++ tsM) ++ tsI) _ (sAll.free hc2) (sAll.trans (Same.new hc2)) ?_ best ?_ ?_
    · rw [upd_same, List.map_append, List.map_append]
    · rw [List.length_append, List.length_append]
      omega
    · rw [List.length_append, List.length_append]
      omega
end
end G
set_option Elab.async false
set_option linter.all false
set_option maxRecDepth 100000
set_option maxHeartbeats 8000000
/-! CH: rows and items of a change checked. -/
namespace G
open PySem PySem.Spec PyProof.Rows L2 NdefX StX PySem.W
abbrev sFullA : Stmt := topS 21
abbrev sItemA : Stmt := topS 22
abbrev sIsRow : Stmt := topS 18
abbrev sNeedAft : Stmt := topS 37
theorem scFullA : FnScope ["value", "item"] ["value"] (defScope sFullA) := ⟨rfl, rfl, rfl, by decide +kernel, rfl, by decide +kernel, by decide +kernel⟩
theorem scItemA : FnScope ["value"] ["value"] (defScope sItemA) := ⟨rfl, rfl, rfl, by decide +kernel, rfl, by decide +kernel, by decide +kernel⟩
theorem scIsRow : FnScope ["value"] ["value"] (defScope sIsRow) := ⟨rfl, rfl, rfl, by decide +kernel, rfl, by decide +kernel, by decide +kernel⟩
abbrev nNeedAft : List Str := ["before", "after", "at", "item", "is_possible"]
theorem scNeedAft : FnScope nNeedAft ["before", "after"] (defScope sNeedAft) := ⟨rfl, rfl, rfl, by decide +kernel, rfl, by decide +kernel, by decide +kernel⟩
def OkI (n : Int) : Prop := -9999 ≤ n ∧ n ≤ 9999
def spItemA : Sp := fun vs H Q _ => ∃ i : Int, vs = [.int i] ∧ OkI i ∧ Q (.bl true) H
def spFullA : Sp := fun vs H Q _ => (∃ i : Int, vs = [.int i] ∧ Q (.bl false) H) ∨ ∃ (a : Addr) (ns : List Int), vs = [.ref a] ∧ H a = some (.tup (ns.map V.int)) ∧ 1 ≤ ns.length ∧ ns.length ≤ 3 ∧ (∀ n ∈ ns, OkI n) ∧ ∀ H', Same H H' → Q (.bl true) H'
theorem rpAll_ints {K : PySem.W.Frag} {H : Hp} : ∀ ns : List Int, RpAll K H (ns.map V.int) (ns.map PyData.int)
  | [] => .nil
  | n :: ns => .cons (.int n) (rpAll_ints ns)
/-- either promise -/
def spOr (a b : Sp) : Sp := fun vs H Q E => a vs H Q E ∨ b vs H Q E
theorem fnok_or {P : Program} {w : World} {K : PySem.W.Frag} {mg : Str → Option Value} {base : Heap} {CX : CXT} {k : Nat} {f : Addr} {fd : FuncData} {ps : List Str} {a b : Sp} (F : FnOk P w K mg base CX k f fd ps a) (G : FnOk P w K mg base CX k f fd ps b) :
    FnOk P w K mg base CX k f fd ps (spOr a b) :=
  ⟨fun vs H Q E h => h.elim (F.len vs H Q E) (G.len vs H Q E), fun A outer s H args us vs Q E hr he hb hv hs => hs.elim (F.run A outer s H args us vs Q E hr he hb hv) (G.run A outer s H args us vs Q E hr he hb hv)⟩
def spIsIntT : Sp := fun vs H Q _ => ∃ (v lo hi : V) (r : Rw), vs = [v, lo, hi] ∧ TmAt H v (.inr r) ∧ Q (.bl false) H
def spIsRowT : Sp := fun vs H Q _ => ∃ (v : V) (r : Rw), vs = [v] ∧ TmAt H v (.inr r) ∧ RwOk r ∧ ∀ H', Same H H' → Q (.bl true) H'
def spNeedAft : Sp := fun vs H Q _ => ∃ (n : Nat) (l : Addr) (ps : List Pm), vs = [.int (n : Nat), .ref l] ∧ H l = some (.lst (vls ps)) ∧ PsAt H ps ∧ ChOk n (kys ps) ∧ ∀ H', Same H H' → Q .non H'
theorem nd_take {α : Type} {ks : List α} (nd : ks.Nodup) {i : Nat} {k : α} (h : ks[i]? = some k) : k ∉ ks.take i := fun z => by
  obtain ⟨j, hj, e⟩ := List.mem_iff_getElem.mp z
  rw [List.length_take] at hj
  rw [List.getElem_take] at e
  have := (List.getElem_inj nd).mp (e.trans (List.getElem?_eq_some_iff.mp h).2.symm)
  omega
section
variable {P : Program} {w : World} {K : PySem.W.Frag} {mg : Str → Option Value} {base : Heap} {f : Addr} {fd : FuncData}
theorem ok_itemA {f fI : Addr} {fd fdI : FuncData} {t : Tok} (F : Fun K "is_answer_item" "is_answer_item" sItemA f fd) (GI : FnOk P w K mg base CX0 1 fI fdI ["value", "low", "high"] spIsInt) (gI : mg "is_integer" = some (.ref fI)) (kI : PySem.W.keepIn K (.ref fI) = true) (bI : Binds K fdI ["value", "low", "high"] [])
    (gG : mg "GREATEST_IN_ANSWER" = some (.int 9999 t)) : FnOk P w K mg base CX0 2 f fd ["value"] spItemA := by
  refine F.ok scItemA (fun vs H Q E h => ?_) (fun cdv A outer s H vs Q E hr h => ?_)
  · obtain ⟨i, rfl, _⟩ := h
    rfl
  · obtain ⟨i, rfl, ⟨h1, h2⟩, q⟩ := h
    refine ⟨_, pss_one (ps_ret (pe_call GI hr rfl gI kI bI .nil pass0 (pa_cons (pv 0) (pa_cons (pe_un un_neg (pe_glob (v := .int 9999) rfl gG ⟨_, rfl⟩)) (pa_cons (pe_glob (v := .int 9999) rfl gG ⟨_, rfl⟩) pa_nil))))), ?_⟩
    refine ⟨_, rfl, _, rfl, i, -9999, 9999, rfl, ?_⟩
    rw [decide_eq_true h1, decide_eq_true h2]
    exact q
theorem ok_fullA {f fI : Addr} {fd fdI : FuncData} {t : Tok} (F : Fun K "is_full_answer" "is_full_answer" sFullA f fd) (GI : FnOk P w K mg base CX0 2 fI fdI ["value"] spItemA) (gI : mg "is_answer_item" = some (.ref fI)) (kI : PySem.W.keepIn K (.ref fI) = true) (bI : Binds K fdI ["value"] [])
    (gM : mg "MOST_IN_ANSWER" = some (.int 3 t)) (mi : mg "isinstance" = none) (mt : mg "tuple" = none) (ml : mg "len" = none) (ma : mg "all" = none) : FnOk P w K mg base CX0 3 f fd ["value"] spFullA := by
  refine F.ok scFullA (fun vs H Q E h => ?_) (fun cdv A outer s H vs Q E hr h => ?_)
  · rcases h with ⟨i, rfl, _⟩ | ⟨a, ns, rfl, _⟩ <;> rfl
  · refine ⟨_, pss_cons (ps_if (PW.pt (pw_or (pt_not (pt_val (pt_isi "tuple" (pv 0) (hm := mi) (mn := mt)))) (pw_or1 (pt_not (pt_chain op_le op_le pe_int (pe_callB call_len_seq (by rfl) ml PySem.boot_len (pa_cons (pv 0) pa_nil)) (pe_glob (v := .int 3) rfl gM ⟨_, rfl⟩))))))
        (pss_one (ps_ret pe_bl)) pss_nil)
      (pss_one (ps_ret (pe_callB (cr_all rfl) (by rfl) ma (by decide +kernel) (pa_cons (pe_lc (own := [("item", 1)]) (g := gName 1) (tt := tYes) (by rfl) scFullA.nd (pi_tup (pv 0))
        (blkOk_by (own := [("item", 1)]) (N := ["value", "item"]) (sc := defScope sFullA) (by decide +kernel)) (fun _ _ _ _ _ => pg_name (i := 1) scFullA.nd rfl (.inl rfl)) (fun _ _ _ _ _ => pts_nil)
        (fun _ _ _ _ _ => pe_call GI hr rfl gI kI bI .nil pass0 (pa_cons (pv 1) pa_nil))) pa_nil)))), ?_⟩
    rcases h with ⟨i, rfl, q⟩ | ⟨a, ns, rfl, ha, l1, l3, ok, q⟩
    · have hR : Rp K H (.int i) (.int i) := .int i
      exact ⟨_, rfl, _, _, _, _, _, rfl, .ty _, rp_ty hR, kit_t (.int i), _, rfl, iteT (iteT q)⟩
    · have hR : Rp K H (.ref a) (.tuple (ns.map PyData.int)) := .tup ha (rpAll_ints ns)
      have ll : (ns.map V.int).length = ns.length := List.length_map ..
      refine ⟨_, rfl, _, _, _, _, _, rfl, .ty _, rp_ty hR, kit_t (.tuple (ns.map PyData.int)), _, rfl, iteF ?_⟩
      refine ⟨_, rfl, a, _, rfl, .inr (.of ha), _, _, rfl, rfl, _, rfl, ?_⟩
      rw [decide_eq_true (show (1 : Int) ≤ ((ns.map V.int).length : Int) by omega)]
      refine iteT ⟨_, _, rfl, rfl, _, rfl, ?_⟩
      rw [decide_eq_true (show ((ns.map V.int).length : Int) ≤ 3 by omega)]
      refine iteF ?_
      refine ⟨_, rfl, a, rfl, ⟨_, .of ha⟩, fun D hD => ?_⟩
      refine lc_tup (a := a) (xs := ns.map V.int) (fun i H2 => Same H H2 ∧ H2 D = some (.lst ((List.replicate i true).map V.bl))) ?_ ?_ ?_ ?_
      · exact ⟨Same.new hD, upd_same⟩
      · exact fun i H2 _ h2 => .of (h2.1 _ _ ha)
      · rintro i x H2 hx ⟨s2, e2⟩
        rw [List.getElem?_map] at hx
        obtain ⟨n, hn, rfl⟩ := Option.map_eq_some_iff.mp hx
        have hi : i < ns.length := (List.getElem?_eq_some_iff.mp hn).1
        refine ⟨rfl, ?_⟩
        unfold tYes
        dsimp only
        rw [if_pos rfl]
        refine ⟨_, rfl, n, rfl, ok n (List.mem_of_getElem? hn), _, e2, ?_, fun c o e => (upd_ne (ne_of_none e hD)).trans (s2 _ _ e), ?_⟩
        · rw [List.length_map, List.length_replicate]
          exact small1000 (by omega)
        · rw [upd_same, List.replicate_succ', List.map_append]
          rfl
      · rintro H2 ⟨s2, e2⟩
        refine ⟨D, _, rfl, .of e2, ?_⟩
        rw [show (List.replicate (ns.map V.int).length true).all id = true from List.all_eq_true.mpr fun x hx => by
          rw [(List.mem_replicate.mp hx).2]
          rfl]
        exact q H2 s2
theorem ok_isintT (F : Fun K "is_integer" "is_integer" sIsInt f fd) (mi : mg "isinstance" = none) (mn : mg "int" = none) (mb : mg "bool" = none) : FnOk P w K mg base CX0 1 f fd ["value", "low", "high"] spIsIntT := by
  refine F.ok scIsInt (fun vs H Q E h => ?_) (fun cdv A outer s H vs Q E hr h => ?_)
  · obtain ⟨v, lo, hi, r, rfl, _⟩ := h
    rfl
  · obtain ⟨v, lo, hi, r, rfl, ha, q⟩ := h
    refine ⟨_, pss_cons (ps_if (PW.pt (pw_or (pt_not (pt_val (pt_isi "int" (pv 0) (hm := mi) (mn := mn)))) (pw_or1 (pt_val (pt_isi "bool" (pv 0) (hm := mi) (mn := mb)))))) (pss_one (ps_ret pe_bl)) pss_nil)
      (pss_one (ps_ret (pe_chain op_le op_le (pv 1) (pv 0) (pv 2)))), ?_⟩
    refine ⟨_, rfl, _, _, _, _, _, rfl, .ty _, rp_ty ha.rp, kit_i (encT (.inr r)), _, rfl, ?_⟩
    rw [show isI (encT (.inr r)) = false by cases r <;> rfl]
    exact iteT q
theorem ok_isrow {fN fA : Addr} {fdN fdA : FuncData} (F : Fun K "is_row" "is_row" sIsRow f fd) (GN : FnOk P w K mg base CX0 1 fN fdN ["value"] spIsName) (gN : mg "is_name" = some (.ref fN)) (kN : PySem.W.keepIn K (.ref fN) = true) (bN : Binds K fdN ["value"] [])
    (GA : FnOk P w K mg base CX0 3 fA fdA ["value"] spFullA) (gA : mg "is_full_answer" = some (.ref fA)) (kA : PySem.W.keepIn K (.ref fA) = true) (bA : Binds K fdA ["value"] []) (mi : mg "isinstance" = none) (mt : mg "tuple" = none) (ml : mg "len" = none) :
    FnOk P w K mg base CX0 4 f fd ["value"] spIsRowT := by
  refine F.ok scIsRow (fun vs H Q E h => ?_) (fun cdv A outer s H vs Q E hr h => ?_)
  · obtain ⟨v, r, rfl, _⟩ := h
    rfl
  · obtain ⟨v, r, rfl, ha, ok, q⟩ := h
    have hr1 := hr.mono (show 1 ≤ 3 by decide)
    refine ⟨_, pss_cons (ps_if (pt_val (pt_isi "tuple" (pv 0) (hm := mi) (mn := mt))) (pss_one (ps_ret (pe_and (pe_cmpR op_eq (pe_callB call_len_seq (by rfl) ml PySem.boot_len (pa_cons (pv 0) pa_nil)) pe_int (nomark _))
        (pe_and (pe_cmpR op_eq (pe_ix (r := rIx K) ix_seq (pv 0) pe_int (fun _ _ => rfl)) pe_str (nomark _)) (pe_one (pe_call GA hr rfl gA kA bA .nil pass0 (pa_cons (pe_ix (r := rIx K) ix_seq (pv 0) pe_int (fun _ _ => rfl)) pa_nil))))))) pss_nil)
      (pss_one (ps_ret (pe_call GN hr1 rfl gN kN bN .nil pass0 (pa_cons (pv 0) pa_nil)))), ?_⟩
    refine ⟨_, rfl, _, _, _, _, _, rfl, .ty _, rp_ty ha.rp, kit_t (encT (.inr r)), _, rfl, ?_⟩
    cases r with
    | inl z =>
      obtain rfl : v = .str z := ha
      exact iteF ⟨_, rfl, z, rfl, ok, q⟩
    | inr js =>
      obtain ⟨t, u, rfl, et, eu⟩ := ha
      refine iteT ?_
      refine ⟨_, rfl, t, _, rfl, .inr (.of et), rfl, _, rfl, iteT ?_⟩
      refine ⟨_, rfl, .inr (.inl ⟨t, _, _, _, rfl, rfl, .of et, atI_nat (j := 0) rfl, ?_⟩)⟩
      refine ⟨rfl, _, rfl, ?_⟩
      rw [show decide (V.str "group" = V.str "group") = true from decide_eq_true rfl]
      refine iteT ?_
      refine ⟨_, rfl, .inr (.inl ⟨t, _, _, _, rfl, rfl, .of et, atI_nat (j := 1) rfl, ?_⟩)⟩
      exact .inr ⟨u, js, rfl, eu, ok.1, ok.2.1, ok.2.2, q⟩
theorem ok_needaft {fL fI fR : Addr} {fdL fdI fdR : FuncData} {t1 : Tok} (F : Fun K "need_after" "need_after" sNeedAft f fd) (GL : FnOk P w K mg base CX0 1 fL fdL ["value", "most"] (spIsList K)) (gL : mg "is_list" = some (.ref fL)) (kL : PySem.W.keepIn K (.ref fL) = true) (bL : Binds K fdL ["value", "most"] [])
    (GI : FnOk P w K mg base CX0 1 fI fdI ["value", "low", "high"] (spOr spIsInt spIsIntT)) (gI : mg "is_integer" = some (.ref fI)) (kI : PySem.W.keepIn K (.ref fI) = true) (bI : Binds K fdI ["value", "low", "high"] [])
    (GR : FnOk P w K mg base CX0 4 fR fdR ["value"] spIsRowT) (gR : mg "is_row" = some (.ref fR)) (kR : PySem.W.keepIn K (.ref fR) = true) (bR : Binds K fdR ["value"] []) (gM : mg "MOST_ROWS" = some (.int 80 t1)) (me : mg "enumerate" = none) :
    FnOk P w K mg base CX0 5 f fd ["before", "after"] spNeedAft := by
  refine F.ok scNeedAft (fun vs H Q E h => ?_) (fun cdv A outer s H vs Q E hr h => ?_)
  · obtain ⟨n, l, ps, rfl, _⟩ := h
    rfl
  · obtain ⟨n, l, ps, rfl, hl, hp, ok, q⟩ := h
    have hr1 := hr.mono (show 1 ≤ 4 by decide)
    have hu65 : (A.deeper (envOfC "need_after" (defScope sNeedAft) s.heap.objs.size f cdv)).units + 65 < cLine := by have := hr.un; omega
    refine ⟨_, pss_cons (ps_if (pt_not (pt_val (pe_call GL hr1 rfl gL kL bL .nil pass0 (pa_cons (pv 1) (pa_cons (pe_glob (v := .int 80) rfl gM ⟨_, rfl⟩) pa_nil))))) (pss_one ps_never) pss_nil)
      (pss_one (ps_for PassesOwn.never rfl (pi_enum (by rfl) me (pa_cons (pv 1) pa_nil)) (pg_tup rfl (pgs_cons (pg_name (i := 2) scNeedAft.nd rfl (.inl rfl)) (pgs_cons (pg_name (i := 3) scNeedAft.nd rfl (.inl rfl)) pgs_nil)))
        (pss_cons (ps_set (i := 4) scNeedAft.nd rfl (.inl rfl) (pe_or (pe_call GI hr1 rfl gI kI bI .nil pass0 (pa_cons (pv 3) (pa_cons pe_int (pa_cons (pe_op op_sub (pv 0) pe_int) pa_nil)))) (pe_one (pe_call GR hr rfl gR kR bR .nil pass0 (pa_cons (pv 3) pa_nil)))))
        (pss_one (ps_if (PW.pt (pw_or (pt_not (pt_val (pv 4))) (pw_or1 (pt_cmpR (op_inD (by exact hu65)) (pv 3) (pe_slice (r := rSlL K) sl_list (pv 1) po_none (po_some (pv 2))) (by rfl))))) (pss_one ps_never) pss_nil))))), ?_⟩
    have few : ps.length ≤ 80 := by
      have := ok.few
      unfold kys at this
      rwa [List.length_map] at this
    have n80 := ok.n80
    have lz : (vls ps).length = ps.length := List.length_map ..
    refine ⟨_, rfl, l, 80, _, rfl, .inl (.of hl), by rw [lz]; exact few, fun H1 s1 => ⟨_, rfl, iteF ?_⟩⟩
    refine ⟨_, rfl, l, _, rfl, .of (s1 _ _ hl), ?_⟩
    refine for_it (walk_enum (xs := vls ps)) (fun i σ H2 => Same H H2 ∧ ∃ x2 x3 x4 : Option V, σ = [some (.int (n : Nat)), some (.ref l), x2, x3, x4]) ?_ ?_ ?_ ?_
    · exact ⟨s1, none, none, none, rfl⟩
    · rintro i σ H2 _ ⟨s2, _⟩
      exact .of (s2 _ _ hl)
    · rintro i x σ H2 H3 hi ⟨s2, x2, x3, x4, rfl⟩ ⟨T, x, y, rfl, hT, rfl, hx, hy⟩
      cases hx
      obtain ⟨p, hpi, rfl, mp⟩ := vls_at hy
      have sT := s2.trans (Same.new (o := .tup [.int (i : Nat), p.1]) hT)
      have eT : (upd H2 T (.tup [.int (i : Nat), p.1])) T = some (.tup [.int (i : Nat), p.1]) := upd_same
      generalize upd H2 T (.tup [.int (i : Nat), p.1]) = H3 at eT sT ⊢
      refine ⟨T, _, rfl, .of eT, rfl, _, _, rfl, _, _, rfl, rfl, ?_⟩
      have hk : (kys ps)[i]? = some p.2 := by
        unfold kys
        rw [List.getElem?_map, hpi]
        rfl
      have no : p.2 ∉ kys (ps.take i) := by
        have := nd_take ok.nd hk
        unfold kys at this ⊢
        rwa [← List.map_take] at this
      have okp := ok.ok p.2 (List.mem_of_getElem? hk)
      have okt : ∀ x ∈ kys (ps.take i), TmOk x := fun x hx => by
        unfold kys at hx
        rw [List.map_take] at hx
        exact ok.ok x (List.mem_of_mem_take hx)
      -- the second test
      have fin : ∀ (H4 : Hp), Same H H4 → ∀ (a1 : Addr), H4 a1 = none → ∃ d ds, Dp K (upd H4 a1 (.lst (cutV (vls ps) none (some (i : Int))))) p.1 d ∧ Dp K (upd H4 a1 (.lst (cutV (vls ps) none (some (i : Int))))) (.ref a1) (.list ds) ∧ SeqAt.shaped d = true ∧ SeqAt.shaped (.list ds) = true ∧ (ds.any fun z => PyData.eqv z d) = false ∧ Same H (upd H4 a1 (.lst (cutV (vls ps) none (some (i : Int))))) := by
        intro H4 s4 a1 h1
        have s5 := s4.trans (Same.new (o := .lst (cutV (vls ps) none (some (i : Int)))) h1)
        refine ⟨encT p.2, (kys (ps.take i)).map encT, ((hp p mp).same s5).dp okp, .lst (xs := vls (ps.take i)) (.of ?_) (PsAt.dps ((hp.same s5).sub fun q hq => List.mem_of_mem_take hq) okt), encT_shaped okp, encTs_shaped okt, encT_out no, s5⟩
        rw [upd_same, cutV_take]
        unfold vls
        rw [List.map_take]
      obtain ⟨v, x⟩ := p
      cases x with
      | inl j =>
        obtain rfl : v = .int j := hp _ mp
        obtain ⟨h0, h1⟩ := ok.lo j (List.mem_of_getElem? hk)
        refine ⟨_, rfl, _, rfl, _, _, rfl, rfl, .inl ⟨j, 0, _, rfl, _, rfl, ?_⟩⟩
        rw [show (decide (0 ≤ j) && decide (j ≤ (n : Int) - 1)) = true by rw [decide_eq_true h0, decide_eq_true (by omega)]; rfl]
        refine iteT ?_
        refine ⟨_, rfl, _, rfl, iteF ?_⟩
        refine ⟨_, rfl, _, rfl, _, rfl, _, rfl, l, _, rfl, .of (sT _ _ hl), fun a1 h1 => ?_⟩
        obtain ⟨d, ds, d1, d2, d3, d4, d5, d6⟩ := fin _ sT a1 h1
        refine ⟨d, ds, d1, d2, d3, d4, _, rfl, ?_⟩
        rw [d5]
        exact iteF ⟨d6, _, _, _, rfl⟩
      | inr r =>
        have ha := (hp _ mp).same sT
        refine ⟨_, rfl, _, rfl, _, _, rfl, rfl, .inr ⟨v, _, _, r, rfl, ha, _, rfl, iteF ?_⟩⟩
        refine ⟨_, rfl, v, r, rfl, ha, okp r rfl, fun H4 s4 => ?_⟩
        have s5 := sT.trans s4
        refine ⟨_, rfl, _, rfl, iteF ?_⟩
        refine ⟨_, rfl, _, rfl, _, rfl, _, rfl, l, _, rfl, .of (s5 _ _ hl), fun a1 h1 => ?_⟩
        obtain ⟨d, ds, d1, d2, d3, d4, d5, d6⟩ := fin _ s5 a1 h1
        refine ⟨d, ds, d1, d2, d3, d4, _, rfl, ?_⟩
        rw [d5]
        exact iteF ⟨d6, _, _, _, rfl⟩
    · rintro σ H2 ⟨s2, x2, x3, x4, rfl⟩
      exact q H2 s2
end
end G
set_option Elab.async false
set_option linter.all false
set_option maxRecDepth 100000
set_option maxHeartbeats 8000000
/-! CI: a change made, of items with headers. -/
namespace G
open PySem PySem.Spec PyProof.Rows L2 NdefX StX PySem.W
abbrev sCh (j : Nat) : Stmt := inClass (topS 35) j
abbrev nChI : List Str := ["self", "before", "after", "item"]
theorem scChI : FnScope nChI ["self", "before", "after"] (defScope (sCh 0)) := ⟨rfl, rfl, rfl, by decide +kernel, rfl, by decide +kernel, by decide +kernel⟩
/-- the class -/
structure ChC (K : PySem.W.Frag) (C : Addr) : Prop where
  cl : Cls K C
  n1 : NoAttr K C "old_count"
  n2 : NoAttr K C "new_items"
  n3 : NoAttr K C "kept_indices"
  n4 : NoAttr K C "new_rows"
  n5 : NoAttr K C "fewest_steps"
/-- what a heap keeps of tuples -/
theorem TmAt.at {H H' : Hp} (k : ∀ t xs, H t = some (.tup xs) → H' t = some (.tup xs)) {v : V} : ∀ {x : Tm}, TmAt H v x → TmAt H' v x
  | .inl _, h => h
  | .inr (.inl _), h => h
  | .inr (.inr _), ⟨t, u, e, a, b⟩ => ⟨t, u, e, k _ _ a, k _ _ b⟩
theorem PsAt.at {H H' : Hp} (k : ∀ t xs, H t = some (.tup xs) → H' t = some (.tup xs)) {ps : List Pm} (h : PsAt H ps) : PsAt H' ps := fun p hp => (h p hp).at k
theorem PsAt.ins {H H' : Hp} {a C dx : Addr} {fs : List (Str × V)} (ha : H a = some (.ins C dx fs)) (k : But a H H') {ps : List Pm} (h : PsAt H ps) : PsAt H' ps := h.at fun t xs e => k _ _ (fun z => by rw [z, ha] at e; cases e) e
/-- at a stands Change(n, ps), whose steps are k -/
def ChN (C : Addr) (N : Addr → Prop) (H : Hp) (a : Addr) (n : Nat) (ps : List Pm) (k : Nat) : Prop := ∃ (dx T l r st : Addr) (ts : List Addr), H a = some (.ins C dx [("old_count", .int (n : Nat)), ("new_items", .ref T), ("kept_indices", .ref l), ("new_rows", .ref r), ("fewest_steps", .ref st)]) ∧
  H T = some (.tup (vls ps)) ∧ H l = some (.lst ((intsT (kys ps)).map V.int)) ∧ H r = some (.lst (vls (news ps))) ∧ H st = some (.lst (ts.map V.ref)) ∧ ts.length = k ∧ k ≤ 320 ∧ PsAt H ps ∧ N T ∧ N l ∧ N r ∧ N st
abbrev ChAt (C : Addr) : Hp → Addr → Nat → List Pm → Nat → Prop := ChN C fun _ => True
theorem ChN.imp {C : Addr} {N N' : Addr → Prop} {H : Hp} {a : Addr} {n : Nat} {ps : List Pm} {k : Nat} (h : ChN C N H a n ps k) (f : ∀ x, N x → N' x) : ChN C N' H a n ps k :=
  let ⟨dx, T, l, r, st, ts, e1, e2, e3, e4, e5, e6, e7, e8, n1, n2, n3, n4⟩ := h
  ⟨dx, T, l, r, st, ts, e1, e2, e3, e4, e5, e6, e7, e8, f _ n1, f _ n2, f _ n3, f _ n4⟩
theorem ChN.same {C : Addr} {N : Addr → Prop} {H H' : Hp} {a : Addr} {n : Nat} {ps : List Pm} {k : Nat} (h : ChN C N H a n ps k) (s : Same H H') : ChN C N H' a n ps k :=
  let ⟨dx, T, l, r, st, ts, e1, e2, e3, e4, e5, e6, e7, e8, n_⟩ := h
  ⟨dx, T, l, r, st, ts, s _ _ e1, s _ _ e2, s _ _ e3, s _ _ e4, s _ _ e5, e6, e7, e8.same s, n_⟩
theorem ChN.at {C : Addr} {N : Addr → Prop} {H : Hp} {a : Addr} {n : Nat} {ps : List Pm} {k : Nat} (h : ChN C N H a n ps k) : ChAt C H a n ps k := h.imp fun _ _ => trivial
/-- all but lists that are the law's own -/
theorem ChN.but {C b : Addr} {H H' : Hp} {a : Addr} {n m : Nat} {ps : List Pm} {k : Nat} (h : ChN C (fun x => x ≠ b) H a n ps k) (B : BoxAt H b m) (s : But b H H') : ChN C (fun x => x ≠ b) H' a n ps k := by
  obtain ⟨dx, T, l, r, st, ts, e1, e2, e3, e4, e5, e6, e7, e8, n1, n2, n3, n4⟩ := h
  obtain ⟨_, _, _, eb, _⟩ := id B
  exact ⟨dx, T, l, r, st, ts, s _ _ (fun z => by rw [z, eb] at e1; cases e1) e1, s _ _ n1 e2, s _ _ n2 e3, s _ _ n3 e4, s _ _ n4 e5, e6, e7, e8.but B s, n1, n2, n3, n4⟩
def spChI (C : Addr) : Sp := fun vs H Q _ => ∃ (a dx l : Addr) (n : Nat) (ps : List Pm), vs = [.ref a, .int (n : Nat), .ref l] ∧ H a = some (.ins C dx []) ∧ H l = some (.lst (vls ps)) ∧ PsAt H ps ∧ ChOk n (kys ps) ∧
  ∀ (H' : Hp) (A : List Int) (k : Nat), But a H H' → ChN C (fun x => H x = none) H' a n ps k → Lis.Best (intsT (kys ps)) A → k + A.length = n + (rwsT (kys ps)).length → Q .non H'
theorem free_but {a p : Addr} {H H' : Hp} (k : But a H H') (n : p ≠ a) (h : H' p = none) : H p = none := free_of k n h
theorem ne_of {H : Hp} {a b : Addr} {o u : HO} (ha : H a = some o) (hb : H b = some u) (n : o = u → False) : a ≠ b := fun z => by
  rw [z, hb] at ha
  exact n (Option.some.inj ha).symm
section
variable {P : Program} {w : World} {K : PySem.W.Frag} {mg : Str → Option Value} {base : Heap} {f C : Addr} {fd : FuncData}
theorem ok_chinit {fN fA fS : Addr} {fdN fdA fdS : FuncData} {t1 : Tok} (F : Fun K "__init__" "Change.__init__" (sCh 0) f fd) (c : ChC K C) (GN : FnOk P w K mg base CX0 2 fN fdN ["value", "low", "high"] spNeedInt) (gN : mg "need_integer" = some (.ref fN)) (kN : PySem.W.keepIn K (.ref fN) = true) (bN : Binds K fdN ["value", "low", "high"] [])
    (GA : FnOk P w K mg base CX0 5 fA fdA ["before", "after"] spNeedAft) (gA : mg "need_after" = some (.ref fA)) (kA : PySem.W.keepIn K (.ref fA) = true) (bA : Binds K fdA ["before", "after"] [])
    (GS : FnOk P w K mg base CX0 4 fS fdS ["before", "after"] (spSteps K)) (gS : mg "steps_to" = some (.ref fS)) (kS : PySem.W.keepIn K (.ref fS) = true) (bS : Binds K fdS ["before", "after"] []) (gM : mg "MOST_ROWS" = some (.int 80 t1))
    (mt : mg "tuple" = none) (mi : mg "isinstance" = none) (mn : mg "int" = none) : FnOk P w K mg base CX0 6 f fd ["self", "before", "after"] (spChI C) := by
  refine F.ok scChI (fun vs H Q E h => ?_) (fun cdv A outer s H vs Q E hr h => ?_)
  · obtain ⟨a, dx, l, n, ps, rfl, _⟩ := h
    rfl
  · obtain ⟨a, dx, l, n, ps, rfl, ha, hl, hp, ok, q⟩ := h
    have hr2 := hr.mono (show 2 ≤ 5 by decide)
    have hr4 := hr.mono (show 4 ≤ 5 by decide)
    refine ⟨_, pss_cons (ps_expr (pe_call GN hr2 rfl gN kN bN .nil pass0 (pa_cons (pv 1) (pa_cons pe_int (pa_cons (pe_glob (v := .int 80) rfl gM ⟨_, rfl⟩) pa_nil)))))
      (pss_cons (ps_expr (pe_call GA hr rfl gA kA bA .nil pass0 (pa_cons (pv 1) (pa_cons (pv 2) pa_nil))))
      (pss_cons (ps_fld (pv 0) (pv 1) rfl)
      (pss_cons (ps_fld (pv 0) (pe_callTy call_tuple_of (by rfl) mt (by decide +kernel) (pa_cons (pv 2) pa_nil)) rfl)
      (pss_cons (ps_fld (pv 0) (pe_lc (own := [("item", 3)]) (g := gName 3) (tt := tB (tCB (rIsi K) (tCons (tVar 3) (tCons (tC (.ty "int")) tNil)))) (by rfl) scChI.nd (pi_list (pv 2))
        (blkOk_by (own := [("item", 3)]) (N := nChI) (sc := defScope (sCh 0)) (by decide +kernel)) (fun _ _ _ _ _ => pg_name (i := 3) scChI.nd rfl (.inl rfl)) (fun _ _ _ _ _ => pts_one (by exact pt_val (pt_isi "int" (pv 3) (hm := mi) (mn := mn)))) (fun _ _ _ _ _ => pv 3)) rfl)
      (pss_cons (ps_fld (pv 0) (pe_lc (own := [("item", 3)]) (g := gName 3) (tt := tNot (tB (tCB (rIsi K) (tCons (tVar 3) (tCons (tC (.ty "int")) tNil))))) (by rfl) scChI.nd (pi_list (pv 2))
        (blkOk_by (own := [("item", 3)]) (N := nChI) (sc := defScope (sCh 0)) (by decide +kernel)) (fun _ _ _ _ _ => pg_name (i := 3) scChI.nd rfl (.inl rfl)) (fun _ _ _ _ _ => pts_one (by exact pt_not (pt_val (pt_isi "int" (pv 3) (hm := mi) (mn := mn))))) (fun _ _ _ _ _ => pv 3)) rfl)
      (pss_one (ps_fld (pv 0) (pe_call GS hr4 rfl gS kS bS .nil pass0 (pa_cons (pv 1) (pa_cons (pv 2) pa_nil))) rfl))))))), ?_⟩
    have few : ps.length ≤ 80 := by
      have := ok.few
      unfold kys at this
      rwa [List.length_map] at this
    have n80 := ok.n80
    have lz : (vls ps).length = ps.length := List.length_map ..
    have lk : ∀ i, (kys (ps.take i)).length ≤ i := fun i => by
      unfold kys
      rw [List.length_map, List.length_take]
      omega
    have nla : l ≠ a := ne_of hl ha (fun z => nomatch z)
    refine ⟨_, rfl, (n : Int), 0, 80, rfl, by omega, by omega, ?_⟩
    refine ⟨_, rfl, _, rfl, n, l, ps, rfl, hl, hp, ok, fun H1 s1 => ?_⟩
    have ea1 := s1 _ _ ha
    have el1 := s1 _ _ hl
    refine ⟨_, rfl, _, rfl, a, C, dx, _, rfl, ea1, c.cl, c.n1, (by show 0 < 1000; decide), ?_⟩
    have ea2 : (upd H1 a (.ins C dx [("old_count", .int (n : Nat))])) a = some (.ins C dx [("old_count", .int (n : Nat))]) := upd_same
    have el2 : (upd H1 a (.ins C dx [("old_count", .int (n : Nat))])) l = some (.lst (vls ps)) := (upd_ne nla).trans el1
    have kk2 : But a H (upd H1 a (.ins C dx [("old_count", .int (n : Nat))])) := (But.same s1).trans But.upd
    rw [show putF (Str.ofString "old_count") (V.int (n : Nat)) [] = ([(Str.ofString "old_count", V.int (n : Nat))] : List (Str × V)) from rfl]
    generalize upd H1 a (.ins C dx [("old_count", .int (n : Nat))]) = H2 at ea2 el2 kk2 ⊢
    refine ⟨_, rfl, l, _, rfl, .inl ⟨.of el2, fun T hT => ?_⟩⟩
    have sT := Same.new (o := .tup (vls ps)) hT
    have nTa : T ≠ a := (ne_of_none ea2 hT).symm
    have fT0 : H T = none := free_but kk2 nTa hT
    refine ⟨_, rfl, a, C, dx, _, rfl, sT _ _ ea2, c.cl, c.n2, (by show 1 < 1000; decide), ?_⟩
    rw [show putF (Str.ofString "new_items") (V.ref T) [(Str.ofString "old_count", V.int (n : Nat))] = ([(Str.ofString "old_count", V.int (n : Nat)), (Str.ofString "new_items", V.ref T)] : List (Str × V)) from rfl]
    have ea4 : (upd (upd H2 T (.tup (vls ps))) a (.ins C dx [("old_count", .int (n : Nat)), ("new_items", .ref T)])) a = some (.ins C dx [("old_count", .int (n : Nat)), ("new_items", .ref T)]) := upd_same
    have el4 : (upd (upd H2 T (.tup (vls ps))) a (.ins C dx [("old_count", .int (n : Nat)), ("new_items", .ref T)])) l = some (.lst (vls ps)) := (upd_ne nla).trans (sT _ _ el2)
    have eT4 : (upd (upd H2 T (.tup (vls ps))) a (.ins C dx [("old_count", .int (n : Nat)), ("new_items", .ref T)])) T = some (.tup (vls ps)) := (upd_ne nTa).trans upd_same
    have kk4 : But a H (upd (upd H2 T (.tup (vls ps))) a (.ins C dx [("old_count", .int (n : Nat)), ("new_items", .ref T)])) := (kk2.trans (.same sT)).trans But.upd
    generalize upd (upd H2 T (.tup (vls ps))) a (.ins C dx [("old_count", .int (n : Nat)), ("new_items", .ref T)]) = H4 at ea4 el4 eT4 kk4 ⊢
    refine ⟨_, rfl, l, rfl, ⟨_, .of el4⟩, fun D1 hD1 => ?_⟩
    have nD1 : D1 ≠ a := (ne_of_none ea4 hD1).symm
    refine lc_list (xs := vls ps) (fun i H' => Same H4 H' ∧ H' D1 = some (.lst ((intsT (kys (ps.take i))).map V.int))) ?_ ?_ ?_ ?_
    · exact ⟨Same.new hD1, upd_same⟩
    · exact fun _ _ _ z => .of (z.1 _ _ el4)
    · rintro i x H' hx ⟨s3, e3⟩
      obtain ⟨p, hpi, rfl, mp⟩ := vls_at hx
      have ip := (List.getElem?_eq_some_iff.mp hpi).1
      have ha3 := ((hp.ins ha kk4) p mp).same s3
      refine ⟨rfl, ?_⟩
      rw [kys_snoc hpi, ints_snoc]
      have small : ((intsT (kys (ps.take i))).map V.int).length < sizeLine := by
        rw [List.length_map]
        have h1 := ints_len (kys (ps.take i))
        have h2 := lk i
        exact small1000 (by omega)
      obtain ⟨v, x⟩ := p
      refine ⟨_, rfl, _, _, _, _, _, rfl, .ty _, rp_ty ha3.rp, kit_i (encT x), _, rfl, ?_⟩
      cases x with
      | inl j =>
        obtain rfl : v = .int j := ha3
        refine iteT ⟨_, rfl, _, e3, small, fun c o e => (upd_ne (ne_of_none e hD1)).trans (s3 _ _ e), ?_⟩
        rw [upd_same, List.map_append]
        rfl
      | inr r =>
        rw [show isI (encT (.inr r)) = false by cases r <;> rfl]
        refine iteF ⟨s3, ?_⟩
        rw [show intsT [Sum.inr r] = [] from rfl, List.append_nil]
        exact e3
    rintro H5 ⟨s5, e5⟩
    rw [lz, List.take_length] at e5
    refine ⟨_, rfl, a, C, dx, _, rfl, s5 _ _ ea4, c.cl, c.n3, (by show 2 < 1000; decide), ?_⟩
    rw [show putF (Str.ofString "kept_indices") (V.ref D1) [(Str.ofString "old_count", V.int (n : Nat)), (Str.ofString "new_items", V.ref T)] = ([(Str.ofString "old_count", V.int (n : Nat)), (Str.ofString "new_items", V.ref T), (Str.ofString "kept_indices", V.ref D1)] : List (Str × V)) from rfl]
    have ea6 : (upd H5 a (.ins C dx [("old_count", .int (n : Nat)), ("new_items", .ref T), ("kept_indices", .ref D1)])) a = some (.ins C dx [("old_count", .int (n : Nat)), ("new_items", .ref T), ("kept_indices", .ref D1)]) := upd_same
    have old6 : ∀ p o, p ≠ a → H5 p = some o → (upd H5 a (.ins C dx [("old_count", .int (n : Nat)), ("new_items", .ref T), ("kept_indices", .ref D1)])) p = some o := fun p o ne e => (upd_ne ne).trans e
    have kk6 : But a H (upd H5 a (.ins C dx [("old_count", .int (n : Nat)), ("new_items", .ref T), ("kept_indices", .ref D1)])) := (kk4.trans (.same s5)).trans But.upd
    generalize upd H5 a (.ins C dx [("old_count", .int (n : Nat)), ("new_items", .ref T), ("kept_indices", .ref D1)]) = H6 at ea6 old6 kk6 ⊢
    have el6 := old6 _ _ nla (s5 _ _ el4)
    have eT6 := old6 _ _ nTa (s5 _ _ eT4)
    have eD6 := old6 _ _ nD1 e5
    refine ⟨_, rfl, l, rfl, ⟨_, .of el6⟩, fun D2 hD2 => ?_⟩
    have nD2 : D2 ≠ a := (ne_of_none ea6 hD2).symm
    refine lc_list (xs := vls ps) (fun i H' => Same H6 H' ∧ H' D2 = some (.lst (vls (news (ps.take i))))) ?_ ?_ ?_ ?_
    · exact ⟨Same.new hD2, upd_same⟩
    · exact fun _ _ _ z => .of (z.1 _ _ el6)
    · rintro i x H' hx ⟨s3, e3⟩
      obtain ⟨p, hpi, rfl, mp⟩ := vls_at hx
      have ip := (List.getElem?_eq_some_iff.mp hpi).1
      have ha3 := ((hp.ins ha kk6) p mp).same s3
      refine ⟨rfl, ?_⟩
      rw [news_snoc hpi]
      have small : (vls (news (ps.take i))).length < sizeLine := by
        unfold vls news
        rw [List.length_map]
        have h1 := List.length_filter_le (fun p : Pm => p.2.isRight) (ps.take i)
        rw [List.length_take] at h1
        exact small1000 (by omega)
      obtain ⟨v, x⟩ := p
      refine ⟨_, rfl, _, _, _, _, _, rfl, .ty _, rp_ty ha3.rp, kit_i (encT x), _, rfl, ?_⟩
      cases x with
      | inl j => exact iteF ⟨s3, e3⟩
      | inr r =>
        rw [show isI (encT (.inr r)) = false by cases r <;> rfl]
        refine iteT ⟨_, rfl, _, e3, small, fun c o e => (upd_ne (ne_of_none e hD2)).trans (s3 _ _ e), ?_⟩
        rw [upd_same, if_pos (show (v, (Sum.inr r : Tm)).2.isRight = true from rfl)]
        unfold vls
        rw [List.map_append]
        rfl
    rintro H7 ⟨s7, e7⟩
    rw [lz, List.take_length] at e7
    refine ⟨_, rfl, a, C, dx, _, rfl, s7 _ _ ea6, c.cl, c.n4, (by show 3 < 1000; decide), ?_⟩
    rw [show putF (Str.ofString "new_rows") (V.ref D2) [(Str.ofString "old_count", V.int (n : Nat)), (Str.ofString "new_items", V.ref T), (Str.ofString "kept_indices", V.ref D1)] = ([(Str.ofString "old_count", V.int (n : Nat)), (Str.ofString "new_items", V.ref T), (Str.ofString "kept_indices", V.ref D1), (Str.ofString "new_rows", V.ref D2)] : List (Str × V)) from rfl]
    have ea8 : (upd H7 a (.ins C dx [("old_count", .int (n : Nat)), ("new_items", .ref T), ("kept_indices", .ref D1), ("new_rows", .ref D2)])) a = some (.ins C dx [("old_count", .int (n : Nat)), ("new_items", .ref T), ("kept_indices", .ref D1), ("new_rows", .ref D2)]) := upd_same
    have old8 : ∀ p o, p ≠ a → H7 p = some o → (upd H7 a (.ins C dx [("old_count", .int (n : Nat)), ("new_items", .ref T), ("kept_indices", .ref D1), ("new_rows", .ref D2)])) p = some o := fun p o ne e => (upd_ne ne).trans e
    have kk8 : But a H (upd H7 a (.ins C dx [("old_count", .int (n : Nat)), ("new_items", .ref T), ("kept_indices", .ref D1), ("new_rows", .ref D2)])) := (kk6.trans (.same s7)).trans But.upd
    generalize upd H7 a (.ins C dx [("old_count", .int (n : Nat)), ("new_items", .ref T), ("kept_indices", .ref D1), ("new_rows", .ref D2)]) = H8 at ea8 old8 kk8 ⊢
    have el8 := old8 _ _ nla (s7 _ _ el6)
    have eT8 := old8 _ _ nTa (s7 _ _ eT6)
    have eD8 := old8 _ _ nD1 (s7 _ _ eD6)
    have eE8 := old8 _ _ nD2 e7
    refine ⟨_, rfl, _, rfl, n, l, ps, rfl, el8, hp.ins ha kk8, ok, fun S A0 ts H9 hS s9 eS best lS few2 => ?_⟩
    have s9' : Same H8 H9 := s9
    have nSa : S ≠ a := (ne_of_none ea8 hS).symm
    refine ⟨_, rfl, a, C, dx, _, rfl, s9 _ _ ea8, c.cl, c.n5, (by show 4 < 1000; decide), ?_⟩
    refine q _ A0 ts.length ((kk8.trans (.same s9')).trans But.upd) ?_ best lS
    exact ⟨dx, T, D1, D2, S, ts, upd_same, (upd_ne nTa).trans (s9 _ _ eT8), (upd_ne nD1).trans (s9 _ _ eD8), (upd_ne nD2).trans (s9 _ _ eE8), (upd_ne nSa).trans eS, rfl, few2, hp.ins ha ((kk8.trans (.same s9')).trans But.upd), fT0, free_but kk4 nD1 hD1, free_but kk6 nD2 hD2, free_but kk8 nSa hS⟩
end
end G
set_option Elab.async false
set_option linter.all false
set_option maxRecDepth 100000
set_option maxHeartbeats 4000000
/-! KX1: own exceptions over KeyError and LookupError (both are made by LookupError's __new__) are made and get their first field. -/
namespace GX
open PySem
namespace KX
open PySem.W PySem.Calls PyProof.Rows PySem.HandSPX
abbrev tlKey : List Value := [.type "KeyError", .type "LookupError", .type "Exception", .type "BaseException", .type "object"]
abbrev tlLook : List Value := [.type "LookupError", .type "Exception", .type "BaseException", .type "object"]
/-- own classes, then the built-in ones -/
structure Over (l : List Value) : Prop where
  ex : ∃ cs : List Addr, l = cs.map Value.ref ++ tlKey ∨ l = cs.map Value.ref ++ tlLook
theorem has_of {tl : List Value} (X : String) : ∀ cs : List Addr, (cs.map Value.ref ++ tl).contains (.type X) = tl.contains (.type X)
  | [] => rfl
  | c :: cs => by
    rw [List.map_cons, List.cons_append, List.contains_cons, has_of X cs]
    rfl
theorem pass_of {tl : List Value} (self : Value) (h : refuseLoop self "__setattr__" tl = pure ()) : ∀ cs : List Addr, refuseLoop self "__setattr__" (cs.map Value.ref ++ tl) = pure ()
  | [] => h
  | c :: cs => by
    rw [List.map_cons, List.cons_append, refuseLoop_ref]
    exact pass_of self h cs
theorem pass_key (self : Value) : refuseLoop self "__setattr__" tlKey = pure () := by kernel_rfl
theorem pass_look (self : Value) : refuseLoop self "__setattr__" tlLook = pure () := by kernel_rfl
theorem Over.pass {l : List Value} (o : Over l) (self : Value) : refuseLoop self "__setattr__" l = pure () := by
  obtain ⟨cs, e | e⟩ := o.ex
  · rw [e]
    exact pass_of self (pass_key self) cs
  · rw [e]
    exact pass_of self (pass_look self) cs
theorem Over.same {l : List Value} (o : Over l) {X : String} {b : Bool} (h1 : tlKey.contains (.type X) = b) (h2 : tlLook.contains (.type X) = b) : l.contains (.type X) = b := by
  obtain ⟨cs, e | e⟩ := o.ex
  · rw [e, has_of X cs, h1]
  · rw [e, has_of X cs, h2]
theorem Over.look {l : List Value} (o : Over l) : l.contains (.type "LookupError") = true := o.same (by decide +kernel) (by decide +kernel)
theorem Over.obj {l : List Value} (o : Over l) : l.contains (.type "object") = true := o.same (by decide +kernel) (by decide +kernel)
theorem Over.noA {l : List Value} (o : Over l) : l.contains (.type "AttributeError") = false := o.same (by decide +kernel) (by decide +kernel)
theorem Over.noN {l : List Value} (o : Over l) : l.contains (.type "NameError") = false := o.same (by decide +kernel) (by decide +kernel)
theorem Over.some {l : List Value} (o : Over l) : l.isEmpty = false := by
  obtain ⟨cs, e | e⟩ := o.ex <;> rw [e] <;> cases cs <;> rfl
theorem Over.own {l : List Value} (o : Over l) (C : Addr) : Over (.ref C :: l) := by
  obtain ⟨cs, e | e⟩ := o.ex
  · exact ⟨C :: cs, .inl (by rw [e]; rfl)⟩
  · exact ⟨C :: cs, .inr (by rw [e]; rfl)⟩
section
variable {prog : Program} {w : World} {A : Around} {E : Value → Shared → Prop} {R : Result → Shared → Prop} {h : Heap} {g : Array GenState} {d : Drawn} {t : Nat} {os : OsState}
variable {nm q : Str} {C N : Addr} {bs bm : List Value} {hdct : Bool} {sn : List Str} {sub : List Value} {ab : Bool} {col : Option Bool} {dd : Option Addr} {k0 k1 k2 k3 k5 : Option Value}
abbrev FL := PySem.F.excBase_LookupError
/-- __new__'s argument is looked at -/
theorem look_new {M : Model} (o : Over bm) {rest : List Value} {Q : Unit → Shared → Prop} (hC : h.get? C = some (excClassObj nm q C N bs bm hdct sn sub ab col dd k0 k1 k2 k3 k5 "LookupError.__new__")) (hq : Q () ⟨h, g, d, t, os⟩) :
    wpAny M A (checkBuiltinCall "LookupError.__new__" ⟨.ref C :: rest, []⟩) Q E ⟨h, g, d, t, os⟩ := by
  have inB : (Value.ref C :: bm).contains (.type "LookupError") = true := (o.own C).look
  have star := FL.noStar
  simp only [checkBuiltinCall, FL.newKind, FL.newSplit, FL.newRow]
  repeat (first | refine wpAny_loadPart_at hC ?_ | (refine wpAny_isSubtype_exc hC ?_; rw [inB]) | refine wpAny_staticBase_exc hC ?_ | refine wpAny_madeBy_exc hC ?_ | wp_step | simp only [bne_self_eq_false, Bool.false_eq_true, if_false])
  exact hq
theorem make_new (o : Over bm) {rest : List Value} (hC : h.get? C = some (excClassObj nm q C N bs bm hdct sn sub ab col dd k0 k1 k2 k3 k5 "LookupError.__new__")) (hz : rest.length ≤ sizeLine)
    (hq : R (.ok (.ret (.ref (h.objs.size + 1)))) ⟨(h.push (PySem.W.kdv_tup rest)).push (excO C h.objs.size), g, d, t, os⟩) : codeAny (model prog w) A (.builtin "LookupError.__new__" ⟨.ref C :: rest, []⟩) R ⟨h, g, d, t, os⟩ := by
  have ends := FL.ends
  have inB : (Value.ref C :: bm).contains (.type "LookupError") = true := (o.own C).look
  have noA : (Value.ref C :: bm).contains (.type "AttributeError") = false := (o.own C).noA
  have noN : (Value.ref C :: bm).contains (.type "NameError") = false := (o.own C).noN
  refine codeAny_builtinAt FL.entry ?_
  unfold Builtin.«BaseException.__new__»
  refine _root_.PySem.wpAt_bind ?_
  show _root_.PySem.wpAt _ _ _ (stack >>= _) _ _ _
  refine _root_.PySem.wpAt_bind (_root_.PySem.wpAt_stack fun p below => _root_.PySem.wpAt_of_wpAny ?_)
  wp_walk
  refine _root_.PySem.wpAt_of_wpAny ?_
  rw [FL.owner]
  repeat (first | with_reducible refine wpAny_madeHere_exc FL.canon hC ?_ | with_reducible refine wpAny_loadPart_at hC ?_ | (with_reducible refine wpAny_isSubtype_exc hC ?_; first | rw [inB] | rw [noA] | rw [noN]) | wp_step)
  show R _ _
  rw [Heap.size_push]
  exact hq
theorem made_call (o : Over bm) {rest : List Value} {fI : Addr} {Q : PySem.Fin → Shared → Prop} (hC : h.get? C = some (excClassObj nm q C N bs bm hdct sn sub ab col dd k0 k1 k2 k3 k5 "LookupError.__new__"))
    (hi : Looks (model prog w) h (typeLookup (.ref C) "__init__") (some (.ref fI))) (hb : ∀ self, Looks (model prog w) h (bindSpecial (.ref fI) self) (.ref fI, [self])) (hz : rest.length ≤ sizeLine)
    (hq : codeAny (model prog w) A (.call (.ref fI) ⟨.ref (h.objs.size + 1) :: rest, []⟩) (fun r s' => match r with | .ok (.ret v) => v = .none ∧ Q (.done (.ret (.ref (h.objs.size + 1)))) s' | .ok _ => False | .error e => E e s')
      ⟨(h.push (PySem.W.kdv_tup rest)).push (excO C h.objs.size), g, d, t, os⟩) : wpAny (model prog w) A (Builtin.«type.__call__» ⟨.ref C :: rest, []⟩) Q E ⟨h, g, d, t, os⟩ := by
  repeat (first | with_reducible refine wpAny_loadPart_at hC ?_ | with_reducible refine wpAny_madeBy_exc hC ?_ | wp_step)
  refine codeAny_call_builtin_code (Code.quiet_builtin _ FL.quiet) (look_new o hC (make_new o hC hz ?_))
  show wpAny _ _ _ _ _ _
  have stays : ∀ b ob, h.get? b = some ob → ((h.push (PySem.W.kdv_tup rest)).push (excO C h.objs.size)).get? b = some ob := fun b ob e => Heap.get?_push_of_some _ (Heap.get?_push_of_some _ e)
  have hC1 := stays _ _ hC
  have there : ((h.push (PySem.W.kdv_tup rest)).push (excO C h.objs.size)).get? (h.objs.size + 1) = some (excO C h.objs.size) := by heap_get
  have self_in : (Value.ref C :: bm).contains (.ref C) = true := by simp
  have i1 := hi.keeps stays
  have b1 := (hb (.ref (h.objs.size + 1))).keeps stays
  unfold isInstance
  repeat (first | with_reducible refine wpAny_loadPart_at there ?_ | (with_reducible refine wpAny_isSubtype_exc hC1 ?_; rw [self_in]) | wp_step)
  show wpAny _ _ (typeLookup (.ref C) _) _ _ _
  refine i1.at (wpAny_holding (wpAny_bind (b1.at (wpAny_bind (wpAny_call (codeAny_mono hq fun r s' z => ?_))))))
  rcases r with e | (v | _ | _ | _) <;> first | exact z | exact z.elim | skip
  obtain ⟨rfl, z⟩ := z
  first
  | exact wpAny_pure (wpAny_pure z)
  | (wp_walk; exact z)
/-- C(..): a new exception, then the own __init__ -/
theorem call_exc (o : Over bm) {rest : List Value} {fI : Addr} (hC : h.get? C = some (excClassObj nm q C N bs bm hdct sn sub ab col dd k0 k1 k2 k3 k5 "LookupError.__new__"))
    (hi : Looks (model prog w) h (typeLookup (.ref C) "__init__") (some (.ref fI))) (hb : ∀ self, Looks (model prog w) h (bindSpecial (.ref fI) self) (.ref fI, [self])) (hz : rest.length ≤ sizeLine)
    (hq : codeAny (model prog w) (A.under (.builtin "type.__call__" ⟨.ref C :: rest, []⟩)) (.call (.ref fI) ⟨.ref (h.objs.size + 1) :: rest, []⟩) (PySem.W.InitBack (h.objs.size + 1) R) ⟨(h.push (PySem.W.kdv_tup rest)).push (excO C h.objs.size), g, d, t, os⟩) :
    codeAny (model prog w) A (.call (.ref C) ⟨rest, []⟩) R ⟨h, g, d, t, os⟩ := by
  have f1 := tc_lookup
  have f2 := tc_bind (.ref C)
  have ty : (⟨h, g, d, t, os⟩ : Shared).TypeIs (.ref C) "type" := ⟨_, hC, rfl⟩
  refine codeAny_of_tree ?_
  show wpAny _ _ (callAny (.ref C) _) _ _ _
  repeat (any_goals (first | assumption | with_reducible refine wpAny_loadPart_at hC ?_ | wp_step))
  refine ⟨rfl, codeAny_call_builtin_at (Code.quiet_builtin _ (by decide +kernel)) entry_typeCall (wpAny_check_type_call_sub hC (made_call o hC hi hb hz (codeAny_mono hq fun r s' z => ?_)))⟩
  rcases r with e | (v | _ | _ | _) <;> exact z
end
section
open Builtin Builtin.ObjectAttr
variable {prog : Program} {w : World} {A : Around} {R : Result → Shared → Prop} {hp : Heap} {g : Array GenState} {d : Drawn} {t : Nat} {os : OsState}
/-- the first field of an exception that has no dict yet -/
theorem field_new {K : Frag} {name : Str} {tk : Tok} {v : Value} {x C : Addr} {fv : Array Value} {cd : ClassData} (X : K.In hp) (hx : hp.get? x = some { cls := .ref C, data := .fields fv }) (hcd : clsIn K C = some cd) (o : Over cd.mro) (hh : cd.hasDict = true)
    (ha : findIn K (.ref C) name = some none) (hq : ∀ h' tk' dx, (∀ b ob, b ≠ x → hp.get? b = some ob → h'.get? b = some ob) → hp.objs.size ≤ dx → dx ≠ x → h'.get? x = some { cls := .ref C, dict := some dx, data := .fields fv } →
      h'.Ns1 dx (fun y => if y = name then some v else none) → R (.ok (.ret .none)) ⟨h', g, d, tk', os⟩) : codeAny (model prog w) A (.call (.builtin "object.__setattr__") ⟨[.ref x, .str name tk, v], []⟩) R ⟨hp, g, d, t, os⟩ := by
  have I : InstAt hp x { cls := .ref C, data := .fields fv } C none := ⟨hx, rfl, rfl, trivial⟩
  have S := PySem.F.store_object
  have far : x ≠ hp.objs.size := Nat.ne_of_lt (Heap.lt_size hx)
  have isO : Looks (model prog w) hp (isInstance (.ref x) (.type "object")) true := I.type.andThen (looks_mroIn X (by unfold mroIn; rw [hcd, Option.bind_some, if_neg (by rw [o.some]; decide), o.obj]))
  refine codeAny_call_builtin S.slot.plain S.entry (@check_slot (model prog w) _ _ ⟨hp, g, d, t, os⟩ "object.__setattr__" "object" "__setattr__" (.ref x) [.str name tk, v] [] _ S.kind S.split isO (S.args (.ref x) (.str name tk) v) ?_)
  have mr : Looks (model prog w) hp (mroOf (.ref C)) cd.mro := (looks_clsIn X hcd).andThen .now
  have taker : Looks (model prog w) hp (storeTaker? none) none := .now
  have cl : Looks (model prog w) hp (classData C) cd := looks_clsIn X hcd
  rw [osa_eq, refuse_eq]
  refine wpAny_bind (wpAny_bind (I.type.at (wpAny_bind (mr.at ?_))))
  rw [o.pass]
  refine wpAny_pure (wpAny_bind (I.type.at (wpAny_bind ((looks_findIn X ha).at (wpAny_bind (taker.at ?_))))))
  show wpAny _ _ (storeInOwnDict (.ref x) (.ref C) (.str name tk) name v false) _ _ _
  obtain ⟨nm, bs, mro, ns, qn, hd, sn, sb, ab, col, del⟩ := cd
  dsimp only at hh
  subst hh
  unfold storeInOwnDict ownDictForStores
  repeat (first | with_reducible refine store_in_new ?_ ?_ | with_reducible refine wpAny_loadPart_at hx ?_ | with_reducible refine cl.at ?_ | wp_step)
  · exact ⟨_, #[], _, (Heap.get?_update_ne _ _ _ _ far.symm).trans (Heap.get?_push_at rfl rfl), rfl, fun e he => absurd he (by simp), fun _ => rfl⟩
  · intro h' tk' hn hs
    have hx1 : (hp.push { cls := .type "dict", data := .dict #[] }).get? x = some { cls := .ref C, data := .fields fv } := Heap.get?_push_of_some _ hx
    exact hq h' tk' hp.objs.size (fun b ob hb ho => (hs.2 b (Nat.ne_of_lt (Heap.lt_size ho))).trans ((Heap.get?_update_ne _ _ _ _ hb).trans (Heap.get?_push_of_some _ ho))) (Nat.le_refl _) far.symm ((hs.2 x far).trans (Heap.get?_update_self _ hx1 rfl)) hn
end
end KX
end GX
set_option Elab.async false
set_option linter.all false
set_option maxRecDepth 100000
set_option maxHeartbeats 4000000
/-! KX2: raising an own exception over KeyError or LookupError; methods and o[i] that raise. -/
namespace G
open PySem PySem.Spec PyProof.Rows L2
structure XParts where
  nm : Str
  q : Str
  N : Addr
  bs : List Value
  bm : List Value
  sn : List Str
  sub : List Value
  ab : Bool
  col : Option Bool
  dd : Option Addr
  k0 : Option Value
  k1 : Option Value
  k2 : Option Value
  k3 : Option Value
  k5 : Option Value
def XParts.obj (p : XParts) (C : Addr) : Obj := excClassObj p.nm p.q C p.N p.bs p.bm true p.sn p.sub p.ab p.col p.dd p.k0 p.k1 p.k2 p.k3 p.k5 "LookupError.__new__"
/-- an own class over KeyError or LookupError -/
structure OwnX (K : PySem.W.Frag) (C : Addr) : Prop where
  lk : ∃ p : XParts, K.lookup C = some (p.obj C) ∧ GX.KX.Over p.bm
  st : PySem.W.findIn K (.ref C) "__setattr__" = some (some (.builtin "object.__setattr__"))
  ex : PySem.W.subIn K (.ref C) (.type "BaseException") = some true
  ty : PySem.W.typeIn K (.ref C) = some (.type "type")
  kp : PySem.W.keepIn K (.ref C) = true
section
variable {X : Cx} {pl : List (Addr × Obj)} {ρ : L2.St} {H : Hp} {s : Shared} {a C : Addr} {f : Str} {y : V} {u : Value} {Z : Unit → Shared → Prop} {Y : Value → Shared → Prop} {A : Around}
/-- self.f = y of an exception that has no field yet -/
theorem put_first (T : OwnX X.K C) (J : Inv X pl ρ H s) (e : H a = some (exo a C none)) (no : PySem.W.findIn X.K (.ref C) f = some none) (ry : RelV y u)
    (go : ∀ z s', H z = none → z ≠ a → Inv X pl ρ (upd (upd H z (exd z [(f, y)])) a (exo a C (some z))) s' → Z () s') : wpAny (model X.prog X.w) A (setAttr (.ref a) f u) Z Y s := by
  obtain ⟨p, hC, ov⟩ := T.lk
  have cl : PySem.W.clsIn X.K C = some { name := p.nm, bases := p.bs, mro := .ref C :: p.bm, ns := p.N, qualname := p.q, hasDict := true, slotNames := p.sn, subclasses := p.sub, abstract := p.ab, collection := p.col, hasDel := false } := by
    unfold PySem.W.clsIn
    rw [hC] <;> rfl
  obtain ⟨t0, e0⟩ := exo_at J.hok e
  obtain ⟨h0, gs, dr, tk, oS⟩ := s
  refine PySem.W.set_plain J.kIn (ox := { cls := .ref C, dict := none, data := .fields #[.ref t0, .none, .none, .none, .bool false, .none] }) (od := none) ⟨e0, rfl, rfl, trivial⟩ T.st ?_
  refine GX.KX.field_new J.kIn e0 cl (ov.own C) rfl no (fun h1 tk1 z k zn za e1 en => ?_)
  have hz : H z = none := J.hok.fresh zn
  have away : ∀ {b : Addr} {o : Obj}, h0.get? b = some o → b ≠ z := fun {b o} w => Nat.ne_of_lt (Nat.lt_of_lt_of_le (Heap.lt_size w) zn)
  have nota : ∀ {b : Addr}, H b = none → b ≠ a := fun {b} n w => by
    rw [w, e] at n
    cases n
  have chg : Un X.fs [] H (upd (upd H z (exd z [(f, y)])) a (exo a C (some z))) h0 h1 := {
    keep := fun b o w n _ _ => k b o (nota n) w
    slot := fun b o w n _ _ => ⟨o.slots, k b o (nota n) w⟩
    free := fun b o w n _ => (upd_ne (nota n)).trans ((upd_ne (away w)).trans n)
    there := fun b o w _ => by
      by_cases hb : b = a
      · exact ⟨_, by rw [hb]; exact e1⟩
      · exact ⟨o, k b o hb w⟩
    tups := fun b xs w => (upd_ne (at_ne e w exo_tup)).trans ((upd_ne (ne_of_none w hz)).trans w)
    frzs := fun b o v w => (upd_ne (at_ne e w exo_frz)).trans ((upd_ne (ne_of_none w hz)).trans w)
    tbls := fun b ps w => ⟨#[], by rw [upd_ne (at_ne e w exo_tbl), upd_ne (ne_of_none w hz), w]; simp⟩ }
  refine go z _ hz za (J.un (t' := tk1) chg fun b o w => ?_)
  by_cases hb : b = a
  · rw [hb] at w ⊢
    rw [upd_same] at w
    cases w
    exact exo_ok e1
  · rw [upd_ne hb] at w
    by_cases hd : b = z
    · rw [hd] at w ⊢
      rw [upd_same] at w
      cases w
      exact exd_ok en (relO_put (fs := []) ry fun g => True.intro)
    · rw [upd_ne hd] at w
      refine (J.hok b o w).stay (fun c v hc l => k c v ?_ l) (fun c hc => (upd_ne (at_ne e hc exo_own)).trans ((upd_ne (ne_of_none hc hz)).trans hc)) (fun c xs hc => (upd_ne (at_ne e hc exo_tup)).trans ((upd_ne (ne_of_none hc hz)).trans hc))
      rcases hc with hc | hc
      · rw [hc]
        exact hb
      · exact at_ne e hc exo_own
end
/-- self.f = e, the first field -/
def tOs1 (K : PySem.W.Frag) (f : Str) (to te : TE) : TS := fun D ρ H => te ρ H fun y H1 => to ρ H1 fun x H2 => ∃ a C : Addr, x = .ref a ∧ OwnX K C ∧ PySem.W.findIn K (.ref C) f = some none ∧
  H2 a = some (exo a C none) ∧ ∀ z, H2 z = none → z ≠ a → D.nx ρ (upd (upd H2 z (exd z [(f, y)])) a (exo a C (some z)))
/-- o.m(e, ..) that may raise -/
def tMethX (C : Addr) (m : Str) (sp : Sp) (W : L2.St → XK) (ta : TE) (t : TA) : TE := fun ρ H Q => ta ρ H fun x H1 => ∃ a dx fs, x = .ref a ∧ H1 a = some (.ins C dx fs) ∧ fs.lookup m = none ∧ t ρ H1 fun vs H2 => sp (x :: vs) H2 Q (W ρ)
/-- o[i] that may raise -/
def tGetX (C : Addr) (sp : Sp) (W : L2.St → XK) (ta ti : TE) : TE := fun ρ H Q => ta ρ H fun x H1 => ti ρ H1 fun y H2 => ∃ a dx fs, x = .ref a ∧ H2 a = some (.ins C dx fs) ∧ sp [x, y] H2 Q (W ρ)
section
variable {X : Cx} {o e i : Expr} {es : List Expr} {to te ta ti : TE} {t : TA} {f m : Str} {p p' p1 p2 pos apos : Pos} {CX : CXT} {C g : Addr} {fd : FuncData} {ps : List Str} {n : Nat} {sp : Sp} {W : L2.St → XK}
theorem ps_os1 (ho : PE X o to) (he : PE X e te) (hs : swapsWith e (some (.Attribute o f p')) pos.line X.env = pure false := by rfl) : PS X (.Assign [.Attribute o f p'] e pos) (tOs1 X.K f to te) := by
  refine ⟨fun pl s ρ H D J h => ?_⟩
  refine plainObj_wpAny_Assign_Attribute (thn (he.run pl s ρ H _ J h) fun v s1 ⟨y, H1, J1, r1, q1⟩ => thn (ho.run pl s1 ρ H1 _ J1 q1) fun u s2 ⟨x, H2, J2, r2, a, C, ex, T, no, ea, q⟩ => ?_) hs
  subst ex
  obtain rfl : u = Value.ref a := r2
  exact put_first T J2 ea no r1 fun z s' n ne J' => ⟨ρ, _, J', q z n ne⟩
theorem pe_methX {pl : Sem Bool} (he : PE X o ta) (c : Cls X.K C) (hm : Meth X.K C m g) (F : FnOk X.prog X.w X.K X.mg X.base CX n g fd ps sp) (hr : Room n X.A) (hb : Binds X.K fd ps []) (hx : ∀ ρ, PassesAt CX X ρ (W ρ)) (ha : PA X (e :: es) t)
    (hst : starEach (e :: es) X.env = (false, eval e X.env) :: starEach es X.env := by rfl) (hpl : (backTo pos (starEach es X.env)).any (·.1) = false := by rfl)
    (ht : eval (.Call (.Attribute o m apos) (e :: es) [] pos) X.env = (do
      let ov ← eval o X.env
      standAt apos.atName
      let (f, first) ← holding [ov] (getMethod ov m pl)
      callWith pos f first (backTo pos (starEach (e :: es) X.env)) (backToKw pos (keywordEach [] X.env))) := by rfl) :
    PE X (.Call (.Attribute o m apos) (e :: es) [] pos) (tMethX C m sp W ta t) := by
  refine ⟨fun pins s ρ H Q J h => ?_⟩
  refine PySem.W.methodCall_KW (pl := pl) (thn (he.run pins s ρ H _ J h) fun u s1 ⟨x, H1, J1, rx, a, dx, fs, ex, ea, l, q⟩ => ?_) ht
  subst ex
  obtain rfl : u = Value.ref a := rx
  refine getmeth_ok J1 ea c hm l ?_
  exact PySem.W.callWith_K (first := [.ref a]) (h₀ := X.base) J1.ok.mod.kin hm.kp (thn (ha.run pos pins s1 ρ H1 _ J1 q) fun us s2 ⟨vs, H2, J2, r, q2⟩ => ⟨J2.kIn, run_fnS (us := .ref a :: us) (vs := .ref a :: vs) F hr hb (hx ρ) J2 (.cons rfl r) q2⟩) hst hpl
theorem pe_getX (m : OwnM X.K C "__getitem__" g) (hf : PySem.W.fnIn X.K g = true) (hb : Binds X.K fd ps []) (F : FnOk X.prog X.w X.K X.mg X.base CX n g fd ps sp) (hr : Room (n + 1) X.A) (hx : ∀ ρ, PassesAt CX X ρ (W ρ)) (he : PE X e ta) (hi : PE X i ti)
    (hsl : ∀ (a : Addr) (v : Value), subscripted i true (.ref a) v = runValue (.builtin "lifetime.subscript" ⟨[.ref a, v], []⟩) := by intro _ _; with_unfolding_all rfl) : PE X (.Subscript e i pos) (tGetX C sp W ta ti) := by
  refine ⟨fun pins s ρ H Q J h => ?_⟩
  refine Subscript_ (thn (he.run pins s ρ H _ J h) fun v s1 ⟨x, H1, J1, r1, q1⟩ => thn (hi.run pins s1 ρ H1 _ J1 q1) fun u s2 ⟨y, H2, J2, r2, a, dx, fs, ex, ha, q⟩ => ?_)
  subst ex
  obtain rfl : v = Value.ref a := r1
  obtain ⟨ox, od, I0⟩ := insX_at J2 ha
  obtain ⟨mm, hF⟩ := J2.fr
  refine PySem.W.sub_K hF J2.ok.mod.kin I0 m.at_ hf m.fn ?_ (hsl a u)
  have hl : ([Value.ref a, u] ++ []).length = ps.length := by
    have := F.len _ _ _ _ q
    exact this
  refine wpAny_call (codeAny_mono (F.run X.A.in1 X.stack s2 H2 ⟨[Value.ref a, u], []⟩ ([Value.ref a, u] ++ []) [.ref a, y] _ _ hr.in1 J2.env0.in1 (hb s2 [Value.ref a, u] J2.kIn hl) (.cons rfl (.cons r2 .nil)) q) fun r s' hq => ?_)
  cases r with
  | error e => exact hx ρ pins H2 s2 e s' J2 hq
  | ok fl =>
    cases fl with
    | ret u => exact J2.after hq
    | next => exact False.elim hq
    | brk => exact False.elim hq
    | cont => exact False.elim hq
theorem pmk_own {x : Str} {fI : Addr} {dvs : List V} {ds : List Value} (T : OwnX X.K C) (iC : PySem.W.findIn X.K (.ref C) "__init__" = some (some (.ref fI))) (tI : PySem.W.typeIn X.K (.ref fI) = some (.type "function"))
    (F1 : FnOk X.prog X.w X.K X.mg X.base CX n fI fd ps sp) (hr : Room (n + 1) X.A) (hb : Binds X.K fd ps ds) (hd : Vals dvs ds) (hx : Passes CX X (fun _ _ _ => False)) (hg : Gl X x) (hm : X.mg x = some (.ref C)) (ha : PA X (e :: es) t)
    (hdb : (x == ("__debug__" : Str)) = false := by decide) (he : starEach (e :: es) X.env = (false, eval e X.env) :: starEach es X.env := by rfl) (hpl : (backTo pos (starEach es X.env)).any (·.1) = false := by rfl) :
    PMk X (.Call (.Name x p) (e :: es) [] pos) (tMkO C sp dvs t) := by
  intro pins s ρ H Q J h
  obtain ⟨pt, hC, ov⟩ := T.lk
  refine wpAny_Call_Name_kw (ld_glob J hg hm ?_ hdb)
  refine PySem.W.callWith_K (h₀ := X.base) J.ok.mod.kin T.kp (thn (ha.run pos pins s ρ H _ J h) fun us s1 ⟨vs, H1, J1, r1, hz, q1⟩ => ⟨J1.kIn, ?_⟩) he hpl
  show wpAny _ _ (call (.ref C) us) _ _ _
  obtain ⟨h0, gs, dr, tk, oS⟩ := s1
  have up1 : h0.objs.size ≤ h0.objs.size + 1 := Nat.le_succ _
  have nw : H1 (h0.objs.size + 1) = none := J1.hok.fresh up1
  have go := q1 (h0.objs.size + 1) nw
  have kk : ∀ b w, h0.get? b = some w → ((h0.push (PySem.W.kdv_tup us)).push (PySem.HandSPX.excO C h0.objs.size)).get? b = some w := fun b w e => Heap.get?_push_of_some _ (Heap.get?_push_of_some _ e)
  have at1 : ((h0.push (PySem.W.kdv_tup us)).push (PySem.HandSPX.excO C h0.objs.size)).get? (h0.objs.size + 1) = some (PySem.HandSPX.excO C h0.objs.size) := by heap_get
  have J2 : Inv X pins ρ (upd H1 (h0.objs.size + 1) (exo (h0.objs.size + 1) C none)) ⟨(h0.push (PySem.W.kdv_tup us)).push (PySem.HandSPX.excO C h0.objs.size), gs, dr, tk, oS⟩ :=
    J1.laid (t' := tk) (a := h0.objs.size + 1) (o := exo (h0.objs.size + 1) C none) (h' := (h0.push (PySem.W.kdv_tup us)).push (PySem.HandSPX.excO C h0.objs.size)) kk up1 (exo_ok at1)
  have r2 : Vals (V.ref (h0.objs.size + 1) :: (vs ++ dvs)) (Value.ref (h0.objs.size + 1) :: (us ++ ds)) := .cons rfl (r1.append hd)
  have hl : (Value.ref (h0.objs.size + 1) :: us ++ ds).length = ps.length := by
    have e := r2.length
    rw [F1.len _ _ _ _ go] at e
    exact e.symm
  have few : us.length ≤ sizeLine := by
    have := Paired.length r1
    rw [sizeLine_eq]
    omega
  refine wpAny_call (GX.KX.call_exc ov (J1.kIn _ _ hC) (PySem.W.looks_findIn J1.kIn iC) (fun self => PySem.W.bind_fn J1.kIn self tI) few
    (codeAny_mono (F1.run _ X.stack _ _ ⟨Value.ref (h0.objs.size + 1) :: us, []⟩ (Value.ref (h0.objs.size + 1) :: (us ++ ds)) _ _ (fun _ _ _ => False) (hr.make C us []) (J2.env0.make C us []) (hb _ (Value.ref (h0.objs.size + 1) :: us) J2.kIn hl) r2 go) fun r s' z => ?_))
  cases r with
  | error er => exact hx pins ρ _ _ er s' J2 z
  | ok fl =>
    cases fl with
    | ret w =>
      obtain ⟨v, H2, os2, b2, un2, ok2, rv, ev, d, fs, ea, ed, hd1, q2⟩ := z
      subst ev
      obtain ⟨h2, g2, d2, t2, os'⟩ := s'
      exact ⟨rv, mk_end (raises_own T.ex T.ty) J1 up1 kk un2 ok2 os2 b2 ea ed hd1 q2⟩
    | next => exact False.elim z
    | brk => exact False.elim z
    | cont => exact False.elim z
end
end G
set_option Elab.async false
set_option linter.all false
set_option maxRecDepth 100000
set_option maxHeartbeats 4000000
/-! RX: static methods; own classes whose __init__ raises; own exceptions, context none. -/
namespace G
open PySem PySem.Spec PyProof.Rows L2 StX
/-- m of the class at C is a staticmethod (its record at p, its def at g) -/
structure SMet (K : PySem.W.Frag) (C : Addr) (m : Str) (p g : Addr) : Prop where
  cr : ClX.CRead K C (.type "type")
  here : PySem.W.findCls K (.ref C) (.type "type") m = some (.get (.builtin "staticmethod.__get__") (.ref p) .none (.ref C))
  inner : ∃ more, PySem.W.recIn K p "staticmethod" = some (.ref g :: more)
  kp : PySem.W.keepIn K (.ref g) = true
def tSMeth (C : Addr) (sp : Sp) (E : L2.St → XK) (ta : TE) (t : TA) : TE := fun σ H Q => ta σ H fun x H1 => x = .ref C ∧ t σ H1 fun vs H2 => sp vs H2 Q (E σ)
section
variable {X : Cx} {CX : CXT} {k : Nat} {f C p g : Addr} {fd : FuncData} {ps : List Str} {sp : Sp} {x m : Str} {o e : Expr} {es : List Expr} {pos apos q : Pos} {te ta : TE} {t : TA}
theorem pe_smeth {E : L2.St → XK} {pl : Sem Bool} (he : PE X o ta) (c : SMet X.K C m p g) (F : FnOk X.prog X.w X.K X.mg X.base CX k g fd ps sp) (hr : Room k X.A) (hb : Binds X.K fd ps []) (hx : ∀ σ, PassesAt CX X σ (E σ)) (ha : PA X (e :: es) t)
    (s1 : starEach (e :: es) X.env = (false, eval e X.env) :: starEach es X.env := by rfl) (s2 : (backTo pos (starEach es X.env)).any (·.1) = false := by rfl)
    (s3 : eval (.Call (.Attribute o m apos) (e :: es) [] pos) X.env = (do
      let thing ← eval o X.env
      standAt apos.atName
      let (fn, ahead) ← holding [thing] (getMethod thing m pl)
      callWith pos fn ahead (backTo pos (starEach (e :: es) X.env)) (backToKw pos (keywordEach [] X.env))) := by rfl) :
    PE X (.Call (.Attribute o m apos) (e :: es) [] pos) (tSMeth C sp E ta t) := by
  constructor
  intro pins s σ H Q I h
  obtain ⟨more, hrec⟩ := c.inner
  refine PySem.W.methodCall_KW (pl := pl) (thn (he.run pins s σ H _ I h) ?_) s3
  rintro u s' ⟨y, H1, I1, ry, rfl, h2⟩
  obtain rfl : u = Value.ref C := ry
  refine PySem.W.method_cls I1.kIn c.cr.ga (PySem.W.cls_bind I1.kIn c.cr.rd c.here (wpAny_call (PySem.W.sm_get (s := { s' with toks := s'.toks + 1 }) I1.kIn hrec (PySem.W.handed_on rfl ?_))))
  refine PySem.W.callWith_K (first := []) (h₀ := X.base) I.ok.mod.kin c.kp (thn (ha.run pos pins _ σ H1 _ (I1.tok _) h2) ?_) s1 s2
  rintro us s'' ⟨vs, H2, I2, r, h3⟩
  exact ⟨I2.kIn, run_fnS F hr hb (hx σ) I2 r h3⟩
/-! ### an instance made, its __init__ may raise -/
def outOf (C : Addr) (H : Hp) (vs : List V) (sp : Sp) (Q : VK) (E : XK) : Prop := ∀ a d, H a = none → H d = none → d ≠ a → sp (V.ref a :: vs) (upd (upd H d (.own a)) a (.ins C d [])) (fun v H2 => v = .non ∧ Q (.ref a) H2) E
theorem made_at {E : XK} {pins : List (Addr × Obj)} {σ : L2.St} {H : Hp} {s : Shared} {Q : VK} {us : List Value} {vs : List V} (M : Mk X.K C f) (F : FnR X.prog X.w X.K X.mg X.base CX k f sp) (hr : Room (k + 1) X.A) (hx : PassesAt CX X σ E)
    (I : Inv X pins σ H s) (r : Vals vs us) (h : outOf C H vs sp Q E) : wpAny (model X.prog X.w) X.A (call (.ref C) us) (EP X pins σ Q) X.xe s := by
  let a : Addr := s.heap.objs.size + 1
  have J := Inv.made (C := C) I
  have now := h a s.heap.objs.size (I.hok.fresh (Nat.le_succ _)) (I.hok.fresh (Nat.le_refl _)) (Nat.ne_of_lt (Nat.lt_succ_self _))
  have vv : Vals (V.ref a :: vs) (Value.ref a :: us) := .cons rfl r
  have ran := F _ X.stack _ _ (Value.ref a :: us) _ _ E (hr.make C us []) (J.env0.make C us []) vv now
  refine wpAny_call (make_map (f := f) I.kIn M.makes M.init (beq_iff_eq.mp M.fn) (codeAny_mono ran ?_))
  intro r s' hq
  match r, hq with
  | .error e, hq => exact hx pins _ _ e s' J hq
  | .ok (.ret u), hq =>
    obtain ⟨v, H', J3, rv, ev, done⟩ := J.after hq
    subst ev
    exact ⟨rv, V.ref a, H', J3, rfl, done⟩
  | .ok .next, hq => exact hq.elim
  | .ok .brk, hq => exact hq.elim
  | .ok .cont, hq => exact hq.elim
/-- C(e, ..) -/
theorem pe_makeX {E : L2.St → XK} (M : Mk X.K C f) (F : FnR X.prog X.w X.K X.mg X.base CX k f sp) (hr : Room (k + 1) X.A) (hg : Gl X x) (hm : X.mg x = some (.ref C)) (hx : ∀ σ, PassesAt CX X σ (E σ)) (ha : PA X (e :: es) t)
    (nd : (x == ("__debug__" : Str)) = false := by decide) (s1 : starEach (e :: es) X.env = (false, eval e X.env) :: starEach es X.env := by rfl) (s2 : (backTo pos (starEach es X.env)).any (·.1) = false := by rfl) :
    PE X (.Call (.Name x q) (e :: es) [] pos) (fun σ H Q => t σ H fun vs H1 => outOf C H1 vs sp Q (E σ)) := by
  constructor
  intro pins s σ H Q I h
  refine wpAny_Call_Name_kw (ld_glob I hg hm ?_ nd)
  refine PySem.W.callWith_K (h₀ := X.base) I.ok.mod.kin M.kp (thn (ha.run pos pins s σ H _ I h) ?_) s1 s2
  rintro us s' ⟨vs, H1, I1, r, h2⟩
  exact ⟨I1.kIn, made_at M F hr (hx σ) I1 r h2⟩
/-- C(*y) -/
theorem pe_makeSX {E : L2.St → XK} {sp_ : Pos} (M : Mk X.K C f) (F : FnR X.prog X.w X.K X.mg X.base CX k f sp) (hr : Room (k + 1) X.A) (hg : Gl X x) (hm : X.mg x = some (.ref C)) (hx : ∀ σ, PassesAt CX X σ (E σ)) (he : PE X e te)
    (nd : (x == ("__debug__" : Str)) = false := by decide) (s1 : starEach [.Starred e sp_] X.env = [(true, eval e X.env)] := by rfl) :
    PE X (.Call (.Name x q) [.Starred e sp_] [] pos) (fun σ H Q => te σ H fun y H1 => ∃ a xs, y = V.ref a ∧ (SqT X.K H1 a xs ∨ SqL X.K H1 a xs) ∧ outOf C H1 xs sp Q (E σ)) := by
  constructor
  intro pins s σ H Q I h
  refine wpAny_Call_Name_kw (ld_glob I hg hm ?_ nd)
  refine PySem.W.callWith_S (h₀ := X.base) I.ok.mod.kin M.kp (thn (he.run pins s σ H _ I h) ?_) s1
  rintro v s' ⟨y, H1, I1, ry, a, xs, rfl, hxs, h2⟩
  obtain rfl : v = Value.ref a := ry
  exact star_any I1 hxs fun us s2 I2 rv => ⟨I2.kIn, made_at M F hr (hx σ) I2 rv h2⟩
/-- a def of so many parameters, by position -/
theorem fnR_ok (F : FnOk X.prog X.w X.K X.mg X.base CX k f fd ps sp) (hb : Binds X.K fd ps []) : FnR X.prog X.w X.K X.mg X.base CX k f sp := by
  intro A outer s H us vs Q E hr e0 r h
  have hl : (us ++ []).length = ps.length := by
    rw [List.append_nil, ← r.length]
    exact F.len _ _ _ _ h
  have b := hb s us (e0.mod.kin.keeps fun b o e => (e0.bs b o e).1) hl
  rw [List.append_nil] at b
  exact F.run A outer s H ⟨us, []⟩ us vs Q E hr e0 b r h
/-- an own exception made where nothing is handled: its context is none -/
theorem pmkN_oex (T : OexC X.K C) (iC : PySem.W.findIn X.K (.ref C) "__init__" = some (some (.ref f))) (tI : PySem.W.typeIn X.K (.ref f) = some (.type "function"))
    (F : FnOk X.prog X.w X.K X.mg X.base CX k f fd ps sp) (hr : Room (k + 1) X.A) (hb : Binds X.K fd ps []) (hx : Passes CX X (fun _ _ _ => False)) (hg : Gl X x) (hm : X.mg x = some (.ref C)) (ha : PA X (e :: es) t)
    (nd : (x == ("__debug__" : Str)) = false := by decide) (s1 : starEach (e :: es) X.env = (false, eval e X.env) :: starEach es X.env := by rfl) (s2 : (backTo pos (starEach es X.env)).any (·.1) = false := by rfl) :
    L2N.PMk X (.Call (.Name x q) (e :: es) [] pos) (tMkO C sp [] t) := by
  intro pins s σ H Q I h
  obtain ⟨nm, qq, N, bs, bm, sn, sub, ab, col, dd, k0, k1, k2, k3, k5, hC, hbm⟩ := T.cls
  refine wpAny_Call_Name_kw (ld_glob I hg hm ?_ nd)
  refine PySem.W.callWith_K (h₀ := X.base) I.ok.mod.kin T.kC (thn (ha.run pos pins s σ H _ I h) ?_) s1 s2
  rintro us sA ⟨vs, H1, I1, r1, hz, q1⟩
  refine ⟨I1.kIn, ?_⟩
  show wpAny _ _ (call (.ref C) us) _ _ _
  obtain ⟨hp, gg, dr, tk, os⟩ := sA
  let a : Addr := hp.objs.size + 1
  let hq : Heap := (hp.push (PySem.W.kdv_tup us)).push (PySem.HandSPX.excO C hp.objs.size)
  have up1 : hp.objs.size ≤ a := Nat.le_succ _
  have hn : H1 a = none := I1.hok.fresh up1
  have now := q1 a hn
  rw [List.append_nil] at now
  have kk : ∀ b o, hp.get? b = some o → hq.get? b = some o := fun b o e => Heap.get?_push_of_some _ (Heap.get?_push_of_some _ e)
  have got : hq.get? a = some (PySem.HandSPX.excO C hp.objs.size) := by
    show ((hp.push (PySem.W.kdv_tup us)).push (PySem.HandSPX.excO C hp.objs.size)).get? (hp.objs.size + 1) = _
    heap_get
  have J : Inv X pins σ (upd H1 a (exo a C none)) ⟨hq, gg, dr, tk, os⟩ := I1.laid (t' := tk) (a := a) (o := exo a C none) (h' := hq) kk up1 (exo_ok got)
  have vv : Vals (V.ref a :: vs) (Value.ref a :: us) := .cons rfl r1
  have len : (Value.ref a :: us ++ []).length = ps.length := by
    rw [List.append_nil, ← vv.length]
    exact F.len _ _ _ _ now
  have few : us.length ≤ sizeLine := by
    rw [sizeLine_eq, ← Paired.length r1]
    omega
  have bb := hb _ (Value.ref a :: us) J.kIn len
  rw [List.append_nil] at bb
  have ran := F.run _ X.stack _ _ ⟨Value.ref a :: us, []⟩ (Value.ref a :: us) _ _ (fun _ _ _ => False) (hr.make C us []) (J.env0.make C us []) bb vv now
  refine wpAny_call (PySem.HandSPX.call_own PySem.F.excBase_ValueError (fun Y => PySem.HandSPX.refsVE_contains Y bm hbm) (I1.kIn _ _ hC) (PySem.W.looks_findIn I1.kIn iC) (fun self => PySem.W.bind_fn I1.kIn self tI) few (codeAny_mono ran ?_))
  intro r s' hq'
  match r, hq' with
  | .error er, hq' => exact hx pins σ _ _ er s' J hq'
  | .ok (.ret u), hq' =>
    obtain ⟨v, H2, os2, bare2, un2, hok2, rv, ev, d, fs, ea, ed, hd1, q2⟩ := hq'
    subst ev
    obtain ⟨h2, g2, d2, t2, os'⟩ := s'
    obtain ⟨t0, B, J2, kB, ge, hoe, na⟩ := mk_end0 (d2 := d2) (t2 := t2) I1 up1 kk un2 hok2 os2 bare2 ea ed hd1
    refine ⟨rv, a, _, _, ⟨B, g2, d2, t2, os'⟩, _, .ref C, some d, rfl, J2, kB, ge, hoe, ⟨rfl, rfl, ?_⟩, rfl, rfl, na, rfl, bare2, raises_own T.exC T.tyC, q2⟩
    intro ws hw
    cases hw
    rfl
  | .ok .next, hq' => exact hq'.elim
  | .ok .brk, hq' => exact hq'.elim
  | .ok .cont, hq' => exact hq'.elim
end
end G
set_option Elab.async false
set_option linter.all false
set_option maxRecDepth 100000
set_option maxHeartbeats 4000000
/-! KXN: own exceptions over LookupError made, context none. -/
namespace G
open PySem PySem.Spec PyProof.Rows L2 StX
section
variable {X : Cx} {o e i : Expr} {es : List Expr} {to te ta ti : TE} {t : TA} {f m : Str} {p p' p1 p2 pos apos : Pos} {CX : CXT} {C g : Addr} {fd : FuncData} {ps : List Str} {n : Nat} {sp : Sp} {W : L2.St → XK}
theorem pmkN_own {x : Str} {fI : Addr} {dvs : List V} {ds : List Value} (T : OwnX X.K C) (iC : PySem.W.findIn X.K (.ref C) "__init__" = some (some (.ref fI))) (tI : PySem.W.typeIn X.K (.ref fI) = some (.type "function"))
    (F1 : FnOk X.prog X.w X.K X.mg X.base CX n fI fd ps sp) (hr : Room (n + 1) X.A) (hb : Binds X.K fd ps ds) (hd : Vals dvs ds) (hx : Passes CX X (fun _ _ _ => False)) (hg : Gl X x) (hm : X.mg x = some (.ref C)) (ha : PA X (e :: es) t)
    (hdb : (x == ("__debug__" : Str)) = false := by decide) (he : starEach (e :: es) X.env = (false, eval e X.env) :: starEach es X.env := by rfl) (hpl : (backTo pos (starEach es X.env)).any (·.1) = false := by rfl) :
    L2N.PMk X (.Call (.Name x p) (e :: es) [] pos) (tMkO C sp dvs t) := by
  intro pins s ρ H Q J h
  obtain ⟨pt, hC, ov⟩ := T.lk
  refine wpAny_Call_Name_kw (ld_glob J hg hm ?_ hdb)
  refine PySem.W.callWith_K (h₀ := X.base) J.ok.mod.kin T.kp (thn (ha.run pos pins s ρ H _ J h) fun us s1 ⟨vs, H1, J1, r1, hz, q1⟩ => ⟨J1.kIn, ?_⟩) he hpl
  show wpAny _ _ (call (.ref C) us) _ _ _
  obtain ⟨h0, gs, dr, tk, oS⟩ := s1
  have up1 : h0.objs.size ≤ h0.objs.size + 1 := Nat.le_succ _
  have nw : H1 (h0.objs.size + 1) = none := J1.hok.fresh up1
  have go := q1 (h0.objs.size + 1) nw
  have kk : ∀ b w, h0.get? b = some w → ((h0.push (PySem.W.kdv_tup us)).push (PySem.HandSPX.excO C h0.objs.size)).get? b = some w := fun b w e => Heap.get?_push_of_some _ (Heap.get?_push_of_some _ e)
  have at1 : ((h0.push (PySem.W.kdv_tup us)).push (PySem.HandSPX.excO C h0.objs.size)).get? (h0.objs.size + 1) = some (PySem.HandSPX.excO C h0.objs.size) := by heap_get
  have J2 : Inv X pins ρ (upd H1 (h0.objs.size + 1) (exo (h0.objs.size + 1) C none)) ⟨(h0.push (PySem.W.kdv_tup us)).push (PySem.HandSPX.excO C h0.objs.size), gs, dr, tk, oS⟩ :=
    J1.laid (t' := tk) (a := h0.objs.size + 1) (o := exo (h0.objs.size + 1) C none) (h' := (h0.push (PySem.W.kdv_tup us)).push (PySem.HandSPX.excO C h0.objs.size)) kk up1 (exo_ok at1)
  have r2 : Vals (V.ref (h0.objs.size + 1) :: (vs ++ dvs)) (Value.ref (h0.objs.size + 1) :: (us ++ ds)) := .cons rfl (r1.append hd)
  have hl : (Value.ref (h0.objs.size + 1) :: us ++ ds).length = ps.length := by
    have e := r2.length
    rw [F1.len _ _ _ _ go] at e
    exact e.symm
  have few : us.length ≤ sizeLine := by
    have := Paired.length r1
    rw [sizeLine_eq]
    omega
  refine wpAny_call (GX.KX.call_exc ov (J1.kIn _ _ hC) (PySem.W.looks_findIn J1.kIn iC) (fun self => PySem.W.bind_fn J1.kIn self tI) few
    (codeAny_mono (F1.run _ X.stack _ _ ⟨Value.ref (h0.objs.size + 1) :: us, []⟩ (Value.ref (h0.objs.size + 1) :: (us ++ ds)) _ _ (fun _ _ _ => False) (hr.make C us []) (J2.env0.make C us []) (hb _ (Value.ref (h0.objs.size + 1) :: us) J2.kIn hl) r2 go) fun r s' z => ?_))
  cases r with
  | error er => exact hx pins ρ _ _ er s' J2 z
  | ok fl =>
    cases fl with
    | ret w =>
      obtain ⟨v, H2, os2, b2, un2, ok2, rv, ev, d, fs, ea, ed, hd1, q2⟩ := z
      subst ev
      obtain ⟨h2, g2, d2, t2, os'⟩ := s'
      obtain ⟨t0, B, J3, kB, ge, hoe, na⟩ := mk_end0 (d2 := d2) (t2 := t2) J1 up1 kk un2 ok2 os2 b2 ea ed hd1
      refine ⟨rv, h0.objs.size + 1, _, _, ⟨B, g2, d2, t2, os'⟩, _, .ref C, some d, rfl, J3, kB, ge, hoe, ⟨rfl, rfl, ?_⟩, rfl, rfl, na, rfl, b2, raises_own T.ex T.ty, q2⟩
      intro ws hw
      cases hw
      rfl
    | next => exact False.elim z
    | brk => exact False.elim z
    | cont => exact False.elim z
end
theorem passN {X : Cx} {W : WX} (tk : L2N.Takes X W) (σ : L2.St) : PassesAt (L2N.CX X.prog X.w) X σ (WE W σ) := fun pins H s e s' I c => tk e s' (L2N.XE.of_call I (fun _ _ _ h => h) c)
end G
set_option Elab.async false
set_option linter.all false
set_option maxRecDepth 100000
set_option maxHeartbeats 8000000
/-! CJ: taken_over, of items with headers; KeyTaken. -/
namespace G
open PySem PySem.Spec PyProof.Rows L2 NdefX StX PySem.W
abbrev sTaken : Stmt := topS 38
abbrev sKT : Stmt := inClass (topS 9) 0
theorem scKT : FnScope ["self", "key"] ["self", "key"] (defScope sKT) := ⟨rfl, rfl, rfl, by decide +kernel, rfl, by decide +kernel, by decide +kernel⟩
abbrev nTaken : List Str := ["items", "change", "staying", "row", "index", "item"]
theorem scTaken : FnScope nTaken ["items", "change"] (defScope sTaken) := ⟨rfl, rfl, rfl, by decide +kernel, rfl, by decide +kernel, by decide +kernel⟩
def atP (qs : List Pm) (i : Int) : Pm := qs.getD i.toNat (.int 0, .inl 0)
/-- what becomes of an item -/
def viaP (qs : List Pm) (p : Pm) : Pm := match p.2 with
  | .inl i => atP qs i
  | .inr _ => p
def applP (qs ps : List Pm) : List Pm := ps.map (viaP qs)
def stP (qs ps : List Pm) : List Pm := (intsT (kys ps)).map (atP qs)
theorem atP_at {qs : List Pm} {i : Int} (h0 : 0 ≤ i) (h1 : i < qs.length) : qs[i.toNat]? = some (atP qs i) := by
  unfold atP
  rw [List.getD_eq_getElem?_getD, List.getElem?_eq_getElem (by omega)]
  rfl
theorem ixP_at {K : PySem.W.Frag} {H : Hp} {it : Addr} {qs : List Pm} {i : Int} {Q : VK} (h : H it = some (.tup (vls qs))) (h0 : 0 ≤ i) (h1 : i < qs.length) (q : Q (atP qs i).1 H) : rIx K (.ref it) (.int i) H Q := by
  have e : (vls qs)[i.toNat]? = some (atP qs i).1 := by
    unfold vls
    rw [List.getElem?_map, atP_at h0 h1]
    rfl
  have ea := atI_nat (j := i.toNat) e
  rw [show ((i.toNat : Nat) : Int) = i by omega] at ea
  exact .inr (.inl ⟨it, _, _, _, rfl, rfl, .of h, ea, q⟩)
/-- a change's parts keep so many rows, and no row comes twice -/
def NoTwice (qs ps : List Pm) : Prop := ∀ p ∈ news ps, p.2 ∉ kys (stP qs ps)
def spInitK (CX : Addr) : Sp := fun vs H Q _ => ∃ (a : Addr) (v : V), vs = [.ref a, v] ∧ H a = some (exo a CX none) ∧ ∀ dx, H dx = none → dx ≠ a → Q .non (upd (upd H dx (exd dx [("key", v)])) a (exo a CX (some dx)))
def spTaken (C CX : Addr) : Sp := fun vs H Q E => ∃ (it c : Addr) (qs ps : List Pm) (k : Nat), vs = [.ref it, .ref c] ∧ H it = some (.tup (vls qs)) ∧ PsAt H qs ∧ (∀ x ∈ kys qs, TmOk x) ∧ ChAt C H c qs.length ps k ∧ ChOk qs.length (kys ps) ∧
  (NoTwice qs ps → ∀ (p : Addr) (H' : Hp), H p = none → Same H H' → H' p = some (.lst (vls (applP qs ps))) → Q (.ref p) H') ∧
  (∀ (i : Nat) (p : Pm), (news ps)[i]? = some p → p.2 ∈ kys (stP qs ps) → (∀ (j : Nat) (p' : Pm), j < i → (news ps)[j]? = some p' → p'.2 ∉ kys (stP qs ps)) → ∀ (dd : Addr) (H' : Hp), Same H H' → H' dd = some (.xd [("key", p.1)]) → E (.ref CX) (some dd) H')
theorem mem_news {ps : List Pm} {p : Pm} (h : p ∈ news ps) : p ∈ ps ∧ p.2.isRight = true := by
  unfold news at h
  exact List.mem_filter.mp h
/-- an exception of this class, made over one thing: the heap behind -/
theorem xk_made {C : Addr} {fl : Str} {v : V} {H : Hp} {E : XK} {b : Addr} (hb : H b = none) {sp : Addr → Prop} (q : ∀ (dd : Addr) (H' : Hp), Same H H' → H' dd = some (.xd [(fl, v)]) → E (.ref C) (some dd) H') :
    ∀ dz, upd H b (exo b C none) dz = none → dz ≠ b → (V.non = V.non) ∧ ∃ (d : Addr) (fs : List (Str × V)), (upd (upd (upd H b (exo b C none)) dz (exd dz [(fl, v)])) b (exo b C (some dz))) b = some (exo b C (some d)) ∧ (upd (upd (upd H b (exo b C none)) dz (exd dz [(fl, v)])) b (exo b C (some dz))) d = some (exd d fs) ∧ H d = none ∧ E (.ref C) (some d) (upd (del (upd (upd (upd H b (exo b C none)) dz (exd dz [(fl, v)])) b (exo b C (some dz))) b) d (.xd fs)) := by
  intro dz h1 h2
  refine ⟨rfl, dz, [(fl, v)], upd_same, ?_, ?_, ?_⟩
  · rw [upd_ne h2, upd_same]
  · rw [upd_ne h2] at h1
    exact h1
  · rw [upd_ne h2] at h1
    refine q dz _ (fun c o e' => ?_) upd_same
    rw [upd_ne (ne_of_none e' h1), del_ne (ne_of_none e' hb), upd_ne (ne_of_none e' hb), upd_ne (ne_of_none e' h1), upd_ne (ne_of_none e' hb)]
    exact e'
section
variable {P : Program} {w : World} {K : PySem.W.Frag} {mg : Str → Option Value} {base : Heap} {f C CX : Addr} {fd : FuncData}
theorem ok_kt (F : Fun K "__init__" "KeyTaken.__init__" sKT f fd) (T : OwnX K CX) (nk : PySem.W.findIn K (.ref CX) "key" = some none) : FnOk P w K mg base CX0 1 f fd ["self", "key"] (spInitK CX) := by
  refine F.ok scKT (fun vs H Q E h => ?_) (fun cdv A outer s H vs Q E hr h => ?_)
  · obtain ⟨a, v, rfl, _⟩ := h
    rfl
  · obtain ⟨a, v, rfl, ha, q⟩ := h
    exact ⟨_, pss_one (ps_os1 (pv 0) (pv 1)), _, rfl, _, rfl, a, CX, rfl, T, nk, ha, fun dx h1 h2 => q dx h1 h2⟩
theorem ok_taken {fX : Addr} {fdX : FuncData} (F : Fun K "taken_over" "taken_over" sTaken f fd) (c : ChC K C) (T : OwnX K CX) (gX : mg "KeyTaken" = some (.ref CX)) (iX : PySem.W.findIn K (.ref CX) "__init__" = some (some (.ref fX))) (tX : PySem.W.typeIn K (.ref fX) = some (.type "function")) (bX : Binds K fdX ["self", "key"] [])
    (GX : FnOk P w K mg base CX0 1 fX fdX ["self", "key"] (spInitK CX)) (mi : mg "isinstance" = none) (mn : mg "int" = none) : FnOk P w K mg base (L2N.CX P w) 3 f fd ["items", "change"] (spTaken C CX) := by
  obtain ⟨oc, od, kV, doc, pm, an, cdv, ct, osl, rfl, lk, hcd⟩ := F.ex
  refine fn_of lk hcd scTaken (fun vs H Q E h => ?_) (fun A outer s H vs Q E hr h => ?_)
  · obtain ⟨it, c, qs, ps, k, rfl, _⟩ := h
    rfl
  · obtain ⟨it, a, qs, ps, k, rfl, hit, hq, okq, hc, ok, qq, qe⟩ := h
    obtain ⟨dx, TT, l, r, st, tst, ea, eT, el, er, es, ls, l3, hp, _⟩ := id hc
    have few := ok.few
    have n80 := ok.n80
    have hu65 : (A.deeper (envOfC "taken_over" (defScope sTaken) s.heap.objs.size f cdv)).units + 65 < cLine := by have := hr.un; omega
    refine ⟨_, pss_cons (ps_setLc (i := 2) (own := [("index", 4)]) (g := gName 4) (tt := tYes) (by rfl) scTaken.nd rfl rfl (sw_true rfl rfl rfl (by decide +kernel)) (pi_list (pe_fld (pv 1) rfl))
        (blkOk_by (own := [("index", 4)]) (N := nTaken) (sc := defScope sTaken) (by decide +kernel)) (fun _ _ _ _ _ => pg_name (i := 4) scTaken.nd rfl (.inl rfl)) (fun _ _ _ _ _ => pts_nil) (fun _ _ _ _ _ => pe_ix (r := rIx K) ix_seq (pv 0) (pv 4) (fun _ _ => rfl)))
      (pss_cons (ps_for PassesOwn.leaving rfl (pi_list (pe_fld (pv 1) rfl)) (pg_name (i := 3) scTaken.nd rfl (.inl rfl))
        (pss_one (ps_if (pt_cmpR (op_inD (by exact hu65)) (pv 3) (pv 2) (by rfl)) (pss_one (L2N.ps_raise rfl (L2N.takes_of rfl rfl rfl rfl) (pmkN_own T iX tX GX hr bX .nil pass0 rfl gX (pa_cons (pv 3) pa_nil)))) pss_nil)))
      (pss_one (ps_ret (pe_lc (own := [("item", 5)]) (g := gName 5) (tt := tYes) (te := tIf (tB (tCB (rIsi K) (tCons (tVar 5) (tCons (tC (.ty "int")) tNil)))) (tOp (rIx K) (tVar 0) (tVar 5)) (tVar 5)) (by rfl) scTaken.nd (pi_tup (pe_fld (pv 1) rfl))
        (blkOk_by (own := [("item", 5)]) (N := nTaken) (sc := defScope sTaken) (by decide +kernel)) (fun _ _ _ _ _ => pg_name (i := 5) scTaken.nd rfl (.inl rfl)) (fun _ _ _ _ _ => pts_nil)
        (fun _ _ _ _ _ => by exact pe_ifExp (pt_val (pt_isi "int" (pv 5) (hm := mi) (mn := mn))) (pe_ix ix_seq (pv 0) (pv 5) (fun _ _ => rfl)) (pv 5)))))), ?_⟩
    have lkp : (kys ps).length = ps.length := List.length_map ..
    refine ⟨_, rfl, a, C, dx, _, _, rfl, ea, c.cl, c.n3, rfl, l, rfl, ⟨_, .of el⟩, fun D hD => ?_⟩
    refine lc_list (xs := (intsT (kys ps)).map V.int) (fun i H3 => Same H H3 ∧ H3 D = some (.lst (vls (((intsT (kys ps)).take i).map (atP qs))))) ?_ ?_ ?_ ?_
    · exact ⟨Same.new hD, upd_same⟩
    · exact fun _ _ _ z => .of (z.1 _ _ el)
    · rintro i x H3 hx ⟨s3, e3⟩
      rw [List.getElem?_map] at hx
      obtain ⟨j, hj, rfl⟩ := Option.map_eq_some_iff.mp hx
      obtain ⟨h0, h1⟩ := ok.lo j (mem_ints.mp (List.mem_of_getElem? hj))
      refine ⟨rfl, ?_⟩
      unfold tYes
      dsimp only
      rw [if_pos rfl]
      refine ⟨_, rfl, _, rfl, ixP_at (s3 _ _ hit) h0 (by omega) ⟨_, e3, ?_, ?_, ?_⟩⟩
      · have := ints_len (kys ps)
        unfold vls
        rw [List.length_map, List.length_map, List.length_take]
        exact small1000 (by omega)
      · exact fun c o e => (upd_ne (ne_of_none e hD)).trans (s3 _ _ e)
      · rw [upd_same, take_snocA hj]
        unfold vls
        rw [List.map_append, List.map_append]
        rfl
    rintro H1 ⟨s1, e1⟩
    rw [List.length_map, List.take_length] at e1
    replace e1 : H1 D = some (.lst (vls (stP qs ps))) := e1
    have hst : PsAt H1 (stP qs ps) := fun p hp' => by
      obtain ⟨j, hj, rfl⟩ := List.mem_map.mp hp'
      obtain ⟨h0, h1⟩ := ok.lo j (mem_ints.mp hj)
      exact (hq _ (List.mem_of_getElem? (atP_at h0 h1))).same s1
    have oks : ∀ x ∈ kys (stP qs ps), TmOk x := fun x hx => by
      obtain ⟨p, hp', rfl⟩ := List.mem_map.mp hx
      obtain ⟨j, hj, rfl⟩ := List.mem_map.mp hp'
      obtain ⟨h0, h1⟩ := ok.lo j (mem_ints.mp hj)
      exact okq _ (List.mem_map_of_mem (List.mem_of_getElem? (atP_at h0 h1)))
    refine ⟨_, rfl, a, C, dx, _, _, rfl, s1 _ _ ea, c.cl, c.n4, rfl, r, rfl, ⟨_, .of (s1 _ _ er)⟩, ?_⟩
    refine for_list (xs := vls (news ps)) (fun i σ H2 => H2 = H1 ∧ (∀ (j : Nat) (p' : Pm), j < i → (news ps)[j]? = some p' → p'.2 ∉ kys (stP qs ps)) ∧ ∃ x3 : Option V, σ = [some (.ref it), some (.ref a), some (.ref D), x3, none, none]) ?_ ?_ ?_ ?_
    · exact ⟨rfl, (fun j _ h => absurd h (Nat.not_lt_zero _)), none, rfl⟩
    · rintro i σ H2 _ ⟨rfl, _⟩
      exact .of (s1 _ _ er)
    · rintro i x σ H2 hx ⟨rfl, no, x3, rfl⟩
      obtain ⟨p, hpi, rfl, mp⟩ := vls_at hx
      obtain ⟨mps, _⟩ := mem_news mp
      have okp := ok.ok p.2 (List.mem_map_of_mem mps)
      refine ⟨_, rfl, _, rfl, encT p.2, (kys (stP qs ps)).map encT, ((hp p mps).same s1).dp okp, .lst (.of e1) (hst.dps oks), encT_shaped okp, encTs_shaped oks, _, rfl, ?_⟩
      by_cases tk : p.2 ∈ kys (stP qs ps)
      · rw [encT_in tk]
        refine iteT ⟨_, rfl, (by show 1 ≤ 1000; decide), fun b hb => ?_⟩
        exact ⟨b, p.1, rfl, upd_same, xk_made (sp := fun _ => True) hb fun dd H' s' e' => qe i p hpi tk no dd H' (s1.trans s') e'⟩
      · rw [encT_out tk]
        refine iteF ⟨rfl, fun j p' hj hp' => ?_, _, rfl⟩
        rcases Nat.lt_or_ge j i with h | h
        · exact no j p' h hp'
        · have : j = i := by omega
          subst this
          rw [hpi] at hp'
          cases hp'
          exact tk
    rintro σ H2 ⟨rfl, no, x3, rfl⟩
    have nt : NoTwice qs ps := fun p hp' => by
      obtain ⟨j, hj, e⟩ := List.mem_iff_getElem.mp hp'
      exact no j p (by unfold vls; rw [List.length_map]; exact hj) (by rw [List.getElem?_eq_getElem hj, e])
    refine ⟨_, rfl, a, C, dx, _, _, rfl, s1 _ _ ea, c.cl, c.n2, rfl, TT, rfl, ⟨_, .of (s1 _ _ eT)⟩, fun B hB => ?_⟩
    have lz : (vls ps).length = ps.length := List.length_map ..
    refine lc_it (walk_tup (xs := vls ps)) (fun i H3 => Same H2 H3 ∧ H3 B = some (.lst (vls (applP qs (ps.take i))))) ?_ ?_ ?_ ?_
    · exact ⟨Same.new hB, upd_same⟩
    · exact fun _ _ _ z => .of (z.1 _ _ (s1 _ _ eT))
    · rintro i x H3 H4 hi ⟨s3, e3⟩ ⟨rfl, hx⟩
      obtain ⟨p, hpi, rfl, mp⟩ := vls_at hx
      have ap : applP qs (ps.take (i + 1)) = applP qs (ps.take i) ++ [viaP qs p] := by
        unfold applP
        rw [take_snocA hpi, List.map_append]
        rfl
      rw [ap]
      have small : (vls (applP qs (ps.take i))).length < sizeLine := by
        unfold applP vls
        rw [List.length_map, List.length_map, List.length_take]
        exact small1000 (by omega)
      have fin : ∃ acc, H4 B = some (.lst acc) ∧ acc.length < sizeLine ∧ (Same H2 (upd H4 B (.lst (acc ++ [(viaP qs p).1]))) ∧ (upd H4 B (.lst (acc ++ [(viaP qs p).1]))) B = some (.lst (vls (applP qs (ps.take i) ++ [viaP qs p])))) :=
        ⟨_, e3, small, fun c o e => (upd_ne (ne_of_none e hB)).trans (s3 _ _ e), by rw [upd_same]; unfold vls; rw [List.map_append]; rfl⟩
      have ha := (hp p mp).same (s1.trans s3)
      refine ⟨rfl, ?_⟩
      unfold tYes
      dsimp only
      rw [if_pos rfl]
      obtain ⟨v, x⟩ := p
      refine ⟨_, rfl, _, _, _, _, _, rfl, .ty _, rp_ty ha.rp, kit_i (encT x), _, rfl, ?_⟩
      cases x with
      | inl j =>
        obtain rfl : v = .int j := ha
        obtain ⟨h0, h1⟩ := ok.lo j (List.mem_map_of_mem (f := (·.2)) mp)
        refine iteT ?_
        exact ⟨_, rfl, _, rfl, ixP_at ((s1.trans s3) _ _ hit) h0 (by omega) fin⟩
      | inr r =>
        rw [show isI (encT (.inr r)) = false by cases r <;> rfl]
        exact iteF ⟨_, rfl, fin⟩
    · rintro H3 ⟨s3, e3⟩
      rw [lz, List.take_length] at e3
      exact qq nt B H3 (s1.free hB) (s1.trans s3) e3
end
end G
set_option Elab.async false
set_option linter.all false
set_option maxRecDepth 100000
set_option maxHeartbeats 8000000
/-! CK: a change asked and joined; InvalidChange, Mismatch. -/
namespace G
open PySem PySem.Spec PyProof.Rows L2 NdefX StX PySem.W
abbrev sNeedCh : Stmt := topS 36
abbrev sIC : Stmt := inClass (topS 6) 0
abbrev sMM : Stmt := inClass (topS 8) 0
theorem scNeedCh : FnScope ["value"] ["value"] (defScope sNeedCh) := ⟨rfl, rfl, rfl, by decide +kernel, rfl, by decide +kernel, by decide +kernel⟩
theorem scIC : FnScope ["self", "value"] ["self", "value"] (defScope sIC) := ⟨rfl, rfl, rfl, by decide +kernel, rfl, by decide +kernel, by decide +kernel⟩
theorem scMM : FnScope ["self", "value"] ["self", "value"] (defScope sMM) := ⟨rfl, rfl, rfl, by decide +kernel, rfl, by decide +kernel, by decide +kernel⟩
theorem scChB : FnScope ["self"] ["self"] (defScope (sCh 1)) := ⟨rfl, rfl, rfl, by decide +kernel, rfl, by decide +kernel, by decide +kernel⟩
theorem scChT : FnScope ["self"] ["self"] (defScope (sCh 2)) := ⟨rfl, rfl, rfl, by decide +kernel, rfl, by decide +kernel, by decide +kernel⟩
theorem scChF : FnScope ["self"] ["self"] (defScope (sCh 3)) := ⟨rfl, rfl, rfl, by decide +kernel, rfl, by decide +kernel, by decide +kernel⟩
theorem scChM : FnScope ["self"] ["self"] (defScope (sCh 6)) := ⟨rfl, rfl, rfl, by decide +kernel, rfl, by decide +kernel, by decide +kernel⟩
theorem scChA : FnScope ["self", "other"] ["self", "other"] (defScope (sCh 10)) := ⟨rfl, rfl, rfl, by decide +kernel, rfl, by decide +kernel, by decide +kernel⟩
theorem scChE : FnScope ["self", "other"] ["self", "other"] (defScope (sCh 11)) := ⟨rfl, rfl, rfl, by decide +kernel, rfl, by decide +kernel, by decide +kernel⟩
/-- what isinstance asks of the class -/
structure IsK (K : PySem.W.Frag) (C : Addr) : Prop where
  ha : PySem.W.findIn K (.ref C) "__class__" = some (some (.builtin "object.__class__"))
  hn : PySem.W.specialIn K (.builtin "object.__class__") "__get__" = some (some (.builtin "getset_descriptor.__get__"))
  htk : PySem.W.takesIn K (.builtin "object.__class__") = some true
  hm : PySem.W.mroIn K C (.type "object") = some true
  kit : PySem.W.kitOne K (.ref C) (.ref C) = some true
  no : ∀ d : PyData, PySem.W.kitOne K (.type (tyN d)) (.ref C) = some false
def spInitV (C : Addr) : Sp := fun vs H Q _ => ∃ (a : Addr) (v : V), vs = [.ref a, v] ∧ H a = some (exo a C none) ∧ ∀ dx, H dx = none → dx ≠ a → Q .non (upd (upd H dx (exd dx [("value", v)])) a (exo a C (some dx)))
/-- an own exception's class over ValueError, which stores one thing -/
structure ErrV (P : Program) (w : World) (K : PySem.W.Frag) (mg : Str → Option Value) (base : Heap) (C f : Addr) (fd : FuncData) : Prop where
  T : OexC K C
  it : PySem.W.findIn K (.ref C) "__init__" = some (some (.ref f))
  ty : PySem.W.typeIn K (.ref f) = some (.type "function")
  b : Binds K fd ["self", "value"] []
  F : FnOk P w K mg base CX0 1 f fd ["self", "value"] (spInitV C)
/-- where changes are made -/
structure MkC (P : Program) (w : World) (K : PySem.W.Frag) (mg : Str → Option Value) (base : Heap) (C fI : Addr) (fdI : FuncData) : Prop where
  M : Mk K C fI
  b : Binds K fdI ["self", "before", "after"] []
  G : FnOk P w K mg base CX0 6 fI fdI ["self", "before", "after"] (spChI C)
  g : mg "Change" = some (.ref C)
theorem ch_made {C : Addr} {H1 : Hp} {R : Addr → Hp → Prop} {E : XK} {l : Addr} {n : Nat} {ps : List Pm} (hl : H1 l = some (.lst (vls ps))) (hp : PsAt H1 ps) (ok : ChOk n (kys ps)) (q : ∀ (a : Addr) (H' : Hp) (A : List Int) (k : Nat), H1 a = none → Same H1 H' → ChN C (fun x => H1 x = none) H' a n ps k → Lis.Best (intsT (kys ps)) A → k + A.length = n + (rwsT (kys ps)).length → R a H') :
    ∀ x dx, H1 x = Option.none → H1 dx = Option.none → dx ≠ x → spChI C [.ref x, .int (n : Nat), .ref l] (upd (upd H1 dx (.own x)) x (.ins C dx [])) (fun v H2 => v = .non ∧ R x H2) E := by
  intro x dx hx hdx hne
  have s1 : Same H1 (upd (upd H1 dx (.own x)) x (.ins C dx [])) := fun c o e => (upd_ne (ne_of_none e hx)).trans ((upd_ne (ne_of_none e hdx)).trans e)
  exact ⟨x, dx, l, n, ps, rfl, upd_same, s1 _ _ hl, hp.same s1, ok, fun H' A k kk ca best e => ⟨rfl, q x H' A k hx (fun c o e => kk c o (ne_of_none e hx) (s1 _ _ e)) (ca.imp fun x hx => s1.free hx) best e⟩⟩
def spNeedCh (K : PySem.W.Frag) (C CI : Addr) : Sp := fun vs H Q E => ∃ v, vs = [v] ∧ ((∃ a dx fs, v = .ref a ∧ H a = some (.ins C dx fs) ∧ Q .non H) ∨ (∃ d, Rp K H v d ∧ ∀ (dd : Addr) (H' : Hp), Same H H' → H' dd = some (.xd [("value", v)]) → E (.ref CI) (some dd) H'))
def spChB (C : Addr) : Sp := fun vs H Q _ => ∃ (a : Addr) (n : Nat) (ps : List Pm) (k : Nat), vs = [.ref a] ∧ ChAt C H a n ps k ∧ Q (.int (n : Nat)) H
def spChT (C : Addr) : Sp := fun vs H Q _ => ∃ (a : Addr) (n : Nat) (ps : List Pm) (k : Nat), vs = [.ref a] ∧ ChAt C H a n ps k ∧ Q (.int (ps.length : Nat)) H
def spChF (C : Addr) : Sp := fun vs H Q _ => ∃ (a : Addr) (n : Nat) (ps : List Pm) (k : Nat), vs = [.ref a] ∧ ChAt C H a n ps k ∧ ∀ p, H p = none → Q (.ref p) (upd H p (.lst (vls ps)))
def spChM (C : Addr) : Sp := fun vs H Q _ => ∃ (a : Addr) (n : Nat) (ps : List Pm) (k : Nat), vs = [.ref a] ∧ ChAt C H a n ps k ∧ ∀ p, H p = none → Q (.ref p) (upd H p (.lst (vls (news ps))))
/-- joined: what comes of it -/
def spChA (K : PySem.W.Frag) (C CI CM CX : Addr) : Sp := fun vs H Q E => ∃ (a : Addr) (v : V) (n : Nat) (qs : List Pm) (j : Nat), vs = [.ref a, v] ∧ ChAt C H a n qs j ∧ (∀ x ∈ kys qs, TmOk x) ∧
  ((∃ d, Rp K H v d ∧ ∀ (dd : Addr) (H' : Hp), Same H H' → H' dd = some (.xd [("value", v)]) → E (.ref CI) (some dd) H') ∨
   (∃ (b : Addr) (m : Nat) (ps : List Pm) (k : Nat), v = .ref b ∧ ChAt C H b m ps k ∧ m ≠ qs.length ∧ ∀ (dd : Addr) (H' : Hp), Same H H' → H' dd = some (.xd [("value", v)]) → E (.ref CM) (some dd) H') ∨
   (∃ (b : Addr) (ps : List Pm) (k : Nat), v = .ref b ∧ ChAt C H b qs.length ps k ∧ ChOk qs.length (kys ps) ∧
     (NoTwice qs ps → ChOk n (kys (applP qs ps)) ∧ ∀ (p : Addr) (H' : Hp) (i : Nat), H p = none → Same H H' → ChN C (fun x => H x = none) H' p n (applP qs ps) i → Q (.ref p) H') ∧
     (∀ (i : Nat) (p : Pm), (news ps)[i]? = some p → p.2 ∈ kys (stP qs ps) → (∀ (j : Nat) (p' : Pm), j < i → (news ps)[j]? = some p' → p'.2 ∉ kys (stP qs ps)) → ∀ (dd : Addr) (H' : Hp), Same H H' → H' dd = some (.xd [("key", p.1)]) → E (.ref CX) (some dd) H')))
theorem appl_at {H : Hp} {qs ps : List Pm} (hq : PsAt H qs) (hp : PsAt H ps) (ok : ChOk qs.length (kys ps)) : PsAt H (applP qs ps) := fun p hp' => by
  obtain ⟨q, hq', rfl⟩ := List.mem_map.mp hp'
  obtain ⟨v, x⟩ := q
  cases x with
  | inl j =>
    obtain ⟨h0, h1⟩ := ok.lo j (List.mem_map_of_mem (f := (·.2)) hq')
    exact hq _ (List.mem_of_getElem? (atP_at h0 h1))
  | inr r => exact hp _ hq'
section
variable {P : Program} {w : World} {K : PySem.W.Frag} {mg : Str → Option Value} {base : Heap} {f C CI CM CX : Addr} {fd : FuncData}
theorem ok_ic (F : Fun K "__init__" "InvalidChange.__init__" sIC f fd) (T : OexC K CX) (nv : PySem.W.findIn K (.ref CX) "value" = some none) : FnOk P w K mg base CX0 1 f fd ["self", "value"] (spInitV CX) := by
  refine F.ok scIC (fun vs H Q E h => ?_) (fun cdv A outer s H vs Q E hr h => ?_)
  · obtain ⟨a, v, rfl, _⟩ := h
    rfl
  · obtain ⟨a, v, rfl, ha, q⟩ := h
    refine ⟨_, pss_one (ps_ost (pv 0) (pv 1)), ?_⟩
    exact ⟨_, rfl, _, rfl, a, CX, rfl, T, nv, .inl ⟨ha, fun dx h1 h2 => q dx h1 h2⟩⟩
theorem ok_mm (F : Fun K "__init__" "Mismatch.__init__" sMM f fd) (T : OexC K CX) (nv : PySem.W.findIn K (.ref CX) "value" = some none) : FnOk P w K mg base CX0 1 f fd ["self", "value"] (spInitV CX) := by
  refine F.ok scMM (fun vs H Q E h => ?_) (fun cdv A outer s H vs Q E hr h => ?_)
  · obtain ⟨a, v, rfl, _⟩ := h
    rfl
  · obtain ⟨a, v, rfl, ha, q⟩ := h
    refine ⟨_, pss_one (ps_ost (pv 0) (pv 1)), ?_⟩
    exact ⟨_, rfl, _, rfl, a, CX, rfl, T, nv, .inl ⟨ha, fun dx h1 h2 => q dx h1 h2⟩⟩
theorem ok_needch {fX : Addr} {fdX : FuncData} (F : Fun K "need_change" "need_change" sNeedCh f fd) (cl : Cls K C) (k : IsK K C) (gC : mg "Change" = some (.ref C)) (mi : mg "isinstance" = none) (X : ErrV P w K mg base CI fX fdX) (gX : mg "InvalidChange" = some (.ref CI)) :
    FnOk P w K mg base (L2N.CX P w) 3 f fd ["value"] (spNeedCh K C CI) := by
  obtain ⟨oc, od, kV, doc, pm, an, cdv, ct, osl, rfl, lk, hcd⟩ := F.ex
  refine fn_of lk hcd scNeedCh (fun vs H Q E h => ?_) (fun A outer s H vs Q E hr h => ?_)
  · obtain ⟨v, rfl, _⟩ := h
    rfl
  · obtain ⟨v, rfl, h⟩ := h
    refine ⟨_, pss_one (ps_if (pt_not (pt_val (pe_callB call_isi (by rfl) mi (by decide +kernel) (pa_cons (pv 0) (pa_cons (pe_glob (v := .ref C) rfl gC rfl) pa_nil)))))
      (pss_one (L2N.ps_raise rfl (L2N.takes_of rfl rfl rfl rfl) (pmkN_oex X.T X.it X.ty X.F hr X.b pass0 rfl gX (pa_cons (pv 0) pa_nil)))) pss_nil), ?_⟩
    rcases h with ⟨a, dx, fs, rfl, ha, q⟩ | ⟨d, hR, q⟩
    · exact ⟨_, rfl, _, _, _, _, _, rfl, .own C, .base (.ins ha cl k.ha k.hn k.htk k.hm), k.kit, _, rfl, iteF q⟩
    · refine ⟨_, rfl, _, _, _, _, _, rfl, .own C, rp_ty hR, k.no d, _, rfl, iteT ?_⟩
      refine ⟨_, rfl, (by show 1 ≤ 1000; decide), fun b hb => ?_⟩
      exact ⟨b, v, rfl, upd_same, xk_made (sp := fun _ => True) hb fun dd H' s' e' => q dd H' s' e'⟩
theorem ok_chb (F : Fun K "before" "Change.before" (sCh 1) f fd) (c : ChC K C) : FnOk P w K mg base CX0 1 f fd ["self"] (spChB C) := by
  refine F.ok scChB (fun vs H Q E h => ?_) (fun cdv A outer s H vs Q E hr h => ?_)
  · obtain ⟨a, n, ps, k, rfl, _⟩ := h
    rfl
  · obtain ⟨a, n, ps, k, rfl, ⟨dx, T, l, r, st, tst, ea, _⟩, q⟩ := h
    exact ⟨_, pss_one (ps_ret (pe_fld (pv 0) rfl)), _, rfl, a, C, dx, _, _, rfl, ea, c.cl, c.n1, rfl, q⟩
theorem ok_cht (F : Fun K "total" "Change.total" (sCh 2) f fd) (c : ChC K C) (ml : mg "len" = none) : FnOk P w K mg base CX0 1 f fd ["self"] (spChT C) := by
  refine F.ok scChT (fun vs H Q E h => ?_) (fun cdv A outer s H vs Q E hr h => ?_)
  · obtain ⟨a, n, ps, k, rfl, _⟩ := h
    rfl
  · obtain ⟨a, n, ps, k, rfl, ⟨dx, T, l, r, st, tst, ea, eT, _⟩, q⟩ := h
    refine ⟨_, pss_one (ps_ret (pe_callB call_len_seq (by rfl) ml PySem.boot_len (pa_cons (pe_fld (pv 0) rfl) pa_nil))), ?_⟩
    refine ⟨_, rfl, a, C, dx, _, _, rfl, ea, c.cl, c.n2, rfl, T, _, rfl, .inr (.of eT), ?_⟩
    rw [show (vls ps).length = ps.length from List.length_map ..]
    exact q
theorem ok_chf (F : Fun K "after" "Change.after" (sCh 3) f fd) (c : ChC K C) (mL : mg "list" = none) : FnOk P w K mg base CX0 1 f fd ["self"] (spChF C) := by
  refine F.ok scChF (fun vs H Q E h => ?_) (fun cdv A outer s H vs Q E hr h => ?_)
  · obtain ⟨a, n, ps, k, rfl, _⟩ := h
    rfl
  · obtain ⟨a, n, ps, k, rfl, ⟨dx, T, l, r, st, tst, ea, eT, _⟩, q⟩ := h
    refine ⟨_, pss_one (ps_ret (pe_callTy call_list_of (by rfl) mL (by decide +kernel) (pa_cons (pe_fld (pv 0) rfl) pa_nil))), ?_⟩
    exact ⟨_, rfl, a, C, dx, _, _, rfl, ea, c.cl, c.n2, rfl, T, _, rfl, .inr (.of eT), fun p hp => q p hp⟩
theorem ok_chm (F : Fun K "came" "Change.came" (sCh 6) f fd) (c : ChC K C) (mL : mg "list" = none) : FnOk P w K mg base CX0 1 f fd ["self"] (spChM C) := by
  refine F.ok scChM (fun vs H Q E h => ?_) (fun cdv A outer s H vs Q E hr h => ?_)
  · obtain ⟨a, n, ps, k, rfl, _⟩ := h
    rfl
  · obtain ⟨a, n, ps, k, rfl, ⟨dx, T, l, r, st, tst, ea, eT, el, er, _⟩, q⟩ := h
    refine ⟨_, pss_one (ps_ret (pe_callTy call_list_of (by rfl) mL (by decide +kernel) (pa_cons (pe_fld (pv 0) rfl) pa_nil))), ?_⟩
    exact ⟨_, rfl, a, C, dx, _, _, rfl, ea, c.cl, c.n4, rfl, r, _, rfl, .inl (.of er), fun p hp => q p hp⟩
theorem ok_cha {fN fT fI fX : Addr} {fdN fdT fdI fdX : FuncData} (F : Fun K "__add__" "Change.__add__" (sCh 10) f fd) (c : ChC K C) (R : MkC P w K mg base C fI fdI) (GN : FnOk P w K mg base (L2N.CX P w) 3 fN fdN ["value"] (spNeedCh K C CI)) (gN : mg "need_change" = some (.ref fN)) (kN : PySem.W.keepIn K (.ref fN) = true) (bN : Binds K fdN ["value"] [])
    (GT : FnOk P w K mg base (L2N.CX P w) 3 fT fdT ["items", "change"] (spTaken C CX)) (gT : mg "taken_over" = some (.ref fT)) (kT : PySem.W.keepIn K (.ref fT) = true) (bT : Binds K fdT ["items", "change"] []) (X : ErrV P w K mg base CM fX fdX) (gX : mg "Mismatch" = some (.ref CM)) (ml : mg "len" = none) :
    FnOk P w K mg base (L2N.CX P w) 8 f fd ["self", "other"] (spChA K C CI CM CX) := by
  obtain ⟨oc, od, kV, doc, pm, an, cdv, ct, osl, rfl, lk, hcd⟩ := F.ex
  refine fn_of lk hcd scChA (fun vs H Q E h => ?_) (fun A outer s H vs Q E hr h => ?_)
  · obtain ⟨a, v, n, qs, j, rfl, _⟩ := h
    rfl
  · obtain ⟨a, v, n, qs, j, rfl, ha, okq, h⟩ := h
    have hr3 := hr.mono (show 3 ≤ 7 by decide)
    have hr2 := hr.mono (show 1 + 1 ≤ 7 by decide)
    obtain ⟨dx, T, l2, r, st, tst, ea, eT, _, _, _, _, _, hq, _⟩ := id ha
    refine ⟨_, pss_cons (ps_expr (pe_callS GN hr3 rfl gN kN bN (fun σ => passN (L2N.takes_of rfl rfl rfl rfl) σ) (pa_cons (pv 1) pa_nil)))
      (pss_cons (ps_if (pt_cmpR op_ne (pe_fld (pv 1) rfl) (pe_callB call_len_seq (by rfl) ml PySem.boot_len (pa_cons (pe_fld (pv 0) rfl) pa_nil)) (nomark _)) (pss_one (L2N.ps_raise rfl (L2N.takes_of rfl rfl rfl rfl) (pmkN_oex X.T X.it X.ty X.F hr2 X.b pass0 rfl gX (pa_cons (pv 1) pa_nil)))) pss_nil)
      (pss_one (ps_ret (pe_make R.M R.G hr rfl R.g R.b .nil pass0 (pa_cons (pe_fld (pv 0) rfl) (pa_cons (pe_callS GT hr3 rfl gT kT bT (fun σ => passN (L2N.takes_of rfl rfl rfl rfl) σ) (pa_cons (pe_fld (pv 0) rfl) (pa_cons (pv 1) pa_nil))) pa_nil)))))), ?_⟩
    have lv : (vls qs).length = qs.length := List.length_map ..
    rcases h with ⟨d, hR, q⟩ | ⟨b, m, ps, k, rfl, hb, ne, q⟩ | ⟨b, ps, k, rfl, hb, ok, q1, q2⟩
    · exact ⟨_, rfl, v, rfl, .inr ⟨d, hR, q⟩⟩
    · obtain ⟨dy, T2, l3, r2, st2, tst2, eb, _⟩ := id hb
      refine ⟨_, rfl, _, rfl, .inl ⟨b, dy, _, rfl, eb, ?_⟩⟩
      refine ⟨_, rfl, b, C, dy, _, _, rfl, eb, c.cl, c.n1, rfl, _, rfl, a, C, dx, _, _, rfl, ea, c.cl, c.n2, rfl, T, _, rfl, .inr (.of eT), rfl, _, rfl, ?_⟩
      refine ne_ifT (fun z => ne (by have := V.int.inj z; omega)) ?_
      refine ⟨_, rfl, (by show 1 ≤ 1000; decide), fun x hx => ?_⟩
      exact ⟨x, _, rfl, upd_same, xk_made (sp := fun _ => True) hx fun dd H' s' e' => q dd H' s' e'⟩
    · obtain ⟨dy, T2, l3, r2, st2, tst2, eb, _, _, _, _, _, _, hp, _⟩ := id hb
      refine ⟨_, rfl, _, rfl, .inl ⟨b, dy, _, rfl, eb, ?_⟩⟩
      refine ⟨_, rfl, b, C, dy, _, _, rfl, eb, c.cl, c.n1, rfl, _, rfl, a, C, dx, _, _, rfl, ea, c.cl, c.n2, rfl, T, _, rfl, .inr (.of eT), rfl, _, rfl, ?_⟩
      refine ne_ifL (by rw [lv]) ?_
      refine ⟨_, rfl, a, C, dx, _, _, rfl, ea, c.cl, c.n1, rfl, _, rfl, a, C, dx, _, _, rfl, ea, c.cl, c.n2, rfl, _, rfl, T, b, qs, ps, k, rfl, eT, hq, okq, hb, ok, fun nt p H1 hp1 s1 e1 => ?_, q2⟩
      obtain ⟨ok2, q⟩ := q1 nt
      exact ch_made (R := fun x H' => Q (.ref x) H') e1 ((appl_at hq hp ok).same s1) ok2 fun x H2 A i hx s2 cx _ _ => q x H2 i (s1.free hx) (s1.trans s2) (cx.imp fun x hx => s1.free hx)
end
end G
set_option Elab.async false
set_option linter.all false
set_option maxRecDepth 100000
set_option maxHeartbeats 4000000
/-! CO: an own + that may raise, whatever stands on its right; +=. -/
namespace G
open PySem PySem.Spec PyProof.Rows L2 NdefX StX
/-- the type T under the sign, on the right of the class at C -/
structure OpB (K : PySem.W.Frag) (C : Addr) (op : Operator) (T : String) : Prop where
  f : ∃ fo, PySem.W.findIn K (.type T) (PySem.dunder op.info.2) = some fo
  r : ∃ ro, PySem.W.findIn K (.type T) (dunderR op.info.2) = some ro
  sub : PySem.W.subIn K (.type T) (.ref C) = some false
open PySem.W in
theorem own_typ {prog : Program} {w : World} {A : Around} {E Q : Value → Shared → Prop} {s : Shared} {K : PySem.W.Frag} {x C f : Addr} {y : Value} {T : String} {ox : Obj} {od : Option Obj} {op : Operator} (X : K.In s.heap)
    (I : PySem.W.InstAt s.heap x ox C od) (o : OpO K C op f) (b : OpB K C op T) (LT : PySem.W.Looks (model prog w) s.heap (typeOf y) (.type T))
    (h : wpAny (model prog w) A (call (.ref f) [.ref x, y]) (PySem.W.CmpBack Q) E s) : wpAny (model prog w) A (binaryOp op (.ref x) y) Q E s := by
  obtain ⟨cd, rest, hcd, hm⟩ := PySem.W.ksp_first o.first
  obtain ⟨fo, h1⟩ := b.f
  obtain ⟨ro, h2⟩ := b.r
  have at_ := o.at_
  have ref_ := o.ref_
  rcases hi : op.info with ⟨sym, nm⟩
  rw [hi] at at_ ref_ h1 h2
  dsimp only at at_ ref_ h1 h2
  have go := PySem.W.ksp_try X I at_ o.fn h
  obtain ⟨hh, g, d, tt, os⟩ := s
  have L1 : Looks (model prog w) hh (typeOf (.ref x)) (.ref C) := I.type
  have L3 : Looks (model prog w) hh (fillsNumberSlot (.ref C) nm) true := PySem.W.fills_K X hcd hm at_
  have L4 := PySem.W.ksp_fillsT (M := model prog w) X h1 h2
  have L5 : Looks (model prog w) hh (isSubtype (.type T) (.ref C)) false := PySem.W.looks_subIn X b.sub
  have L6 : Looks (model prog w) hh (numberSlotInPython (.ref C) nm) true := PySem.W.ksp_inPy X at_ ref_ (.inl rfl)
  have L7 : Looks (model prog w) hh (numberSlotInPython (.type T) nm) false := Looks.of_pure rfl
  have L8 : Looks (model prog w) hh (typeLookup (.type T) (dunderR nm)) ro := PySem.W.looks_findIn X h2
  generalize ((fo.isSome && !isSeqSlot fo) || (ro.isSome && !isSeqSlot ro)) = right at L4
  have hne : (Value.ref C == Value.type T) = false := rfl
  simp only [binaryOp, hi]
  refine wpAny_holding (wpAny_bind ?_)
  unfold binaryOp1
  refine wpAny_bind (L1.at (wpAny_bind (LT.at (wpAny_bind (L3.at ?_)))))
  simp only [hne, Bool.false_eq_true, if_false]
  cases right <;>
  · ksp_lk
    refine wpAny_mono go (fun r s' hr' => ?_) fun _ _ e => e
    obtain ⟨v, rfl, hq⟩ := hr'
    ksp_lk
    exact hq
/-- the sign's method of the class at C -/
structure SgnO (P : Program) (w : World) (K : PySem.W.Frag) (mg : Str → Option Value) (base : Heap) (CX : CXT) (k : Nat) (C : Addr) (op : Operator) (sp : Sp) : Prop where
  ex : ∃ (f : Addr) (fd : FuncData) (ps : List Str), OpO K C op f ∧ Binds K fd ps [] ∧ FnOk P w K mg base CX k f fd ps sp
/-- what stands on the right: an instance of a class with the same sign, or data -/
def RightO (K : PySem.W.Frag) (C : Addr) (op : Operator) (H : Hp) (y : V) : Prop :=
  (∃ (b C2 dy g : Addr) (gs : List (Str × V)), y = .ref b ∧ H b = some (.ins C2 dy gs) ∧ OpO K C2 op g ∧ (C = C2 ∨ PySem.W.subIn K (.ref C2) (.ref C) = some false)) ∨ ∃ d, Rp K H y d ∧ OpB K C op (tyN d)
def rOwnA (X : Cx) (CX : CXT) (k : Nat) (op : Operator) (sp : Sp) (E : XK) : R2 := fun x y H Q => ∃ (a C dx : Addr) (fs : List (Str × V)), x = .ref a ∧ H a = some (.ins C dx fs) ∧ SgnO X.prog X.w X.K X.mg X.base CX k C op sp ∧ RightO X.K C op H y ∧
  sp [.ref a, y] H (fun v H' => (∃ r, v = .ref r) ∧ Q v H') E
theorem op_ownA {X : Cx} {CX : CXT} {k : Nat} {sp : Sp} {E : XK} (op : Operator) (hr : Room k X.A) (hx : Passes CX X E) : OpR X (binaryOp op) (rOwnA X CX k op sp E) := by
  intro pins s σ H x y v u Q I rx ry h
  obtain ⟨a, C, dx, fs, rfl, ha, so, ro, q⟩ := h
  obtain rfl : v = Value.ref a := rx
  obtain ⟨f, fd, ps, o1, hbd, F⟩ := so.ex
  obtain ⟨ox, od, J1, _⟩ := insO_at I ha
  have ran : wpAny (model X.prog X.w) X.A (call (.ref f) [.ref a, u]) (PySem.W.CmpBack fun v s' => ∃ v', ∃ H', Inv X pins σ H' s' ∧ RelV v' v ∧ Q v' H') X.xe s :=
    thn (run_fn (us := [.ref a, u]) (vs := [.ref a, y]) F hr hbd .nil hx I (.cons rfl (.cons ry .nil)) q) fun r s' z => by
      obtain ⟨v, H', I', rv, ⟨p, rfl⟩, q'⟩ := z
      obtain rfl : r = Value.ref p := rv
      exact ⟨V.ref p, H', I', rfl, q'⟩
  rcases ro with ⟨b, C2, dy, g, gs, rfl, hb, o2, hs⟩ | ⟨d, hR, ob⟩
  · obtain rfl : u = Value.ref b := ry
    obtain ⟨oy, od2, J2, _⟩ := insO_at I hb
    exact bin_own I.kIn J1 J2 o1 o2 hs ran
  · obtain ⟨P, KX, hp, _⟩ := kit_of I ry (rp_ty hR)
    exact own_typ I.kIn J1 o1 ob (KX.ty _ _ I.kIn hp) ran

theorem pass00 {X : Cx} : Passes (L2N.CX X.prog X.w) X E0 := fun _ _ _ _ _ _ _ h => by
  obtain ⟨_, _, _, _, _, _, _, _, _, _, _, _, z⟩ := h
  exact z.elim
/-- x + y by the class's own method, which may raise -/
def tAddS (K : PySem.W.Frag) (C : Addr) (sp : Sp) (W : L2.St → XK) (ta tb : TE) : TE := fun ρ H Q => ta ρ H fun x H1 => tb ρ H1 fun y H2 => ∃ (a dx : Addr) (fs : List (Str × V)), x = .ref a ∧ H2 a = some (.ins C dx fs) ∧ RightO K C .Add H2 y ∧ sp [.ref a, y] H2 (fun v H' => (∃ r, v = .ref r) ∧ Q v H') (W ρ)
theorem pe_addS {X : Cx} {CX : CXT} {C f : Addr} {fd : FuncData} {ps : List Str} {k : Nat} {sp : Sp} {W : L2.St → XK} {e i : Expr} {ta tb : TE} {pos : Pos} (o : OpO X.K C .Add f) (hb : Binds X.K fd ps []) (F : FnOk X.prog X.w X.K X.mg X.base CX k f fd ps sp) (hr : Room k X.A) (hx : ∀ ρ, PassesAt CX X ρ (W ρ)) (he : PE X e ta) (hi : PE X i tb) :
    PE X (.BinOp e .Add i pos) (tAddS X.K C sp W ta tb) := by
  refine ⟨fun pins s ρ H Q J h => ?_⟩
  refine wpAny_BinOp (binT he hi J h fun v u s2 x y H2 I rx ry q => ?_)
  obtain ⟨a, dx, fs, rfl, ha, ro, q⟩ := q
  obtain rfl : v = Value.ref a := rx
  obtain ⟨ox, od, J1, _⟩ := insO_at I ha
  have ran : wpAny (model X.prog X.w) X.A (call (.ref f) [.ref a, u]) (PySem.W.CmpBack fun v s' => ∃ v', ∃ H', Inv X pins ρ H' s' ∧ RelV v' v ∧ Q v' H') X.xe s2 :=
    thn (run_fnS (us := [.ref a, u]) (vs := [.ref a, y]) F hr hb (hx ρ) I (.cons rfl (.cons ry .nil)) q) fun r s' z => by
      obtain ⟨v, H', I', rv, ⟨p, rfl⟩, q'⟩ := z
      obtain rfl : r = Value.ref p := rv
      exact ⟨V.ref p, H', I', rfl, q'⟩
  rcases ro with ⟨b, C2, dy, g, gs, rfl, hb, o2, hs⟩ | ⟨d, hR, ob⟩
  · obtain rfl : u = Value.ref b := ry
    obtain ⟨oy, od2, J2, _⟩ := insO_at I hb
    exact bin_own I.kIn J1 J2 o o2 hs ran
  · obtain ⟨P, KX, hp, _⟩ := kit_of I ry (rp_ty hR)
    exact own_typ I.kIn J1 o ob (KX.ty _ _ I.kIn hp) ran
/-! ### += -/
def NoI (K : PySem.W.Frag) (C : Addr) : Prop := ∃ cd, PySem.W.clsIn K C = some cd ∧ ∀ c ∈ cd.mro, PySem.W.findIn K c (dunderI "add") = some none
theorem noI_looks {K : PySem.W.Frag} {C : Addr} {M : Model} {h : Heap} {add : Bool} (X : K.In h) (o : NoI K C) : PySem.W.Looks M h (fillsInplaceSlot (.ref C) "add" add) false := by
  obtain ⟨cd, hc, hall⟩ := o
  intro A Q E s k q
  unfold fillsInplaceSlot
  refine wpAny_bind ((PySem.W.looks_clsIn X hc).andThen (f := fun cd => pure cd.mro) .now A _ E s k ?_)
  generalize cd.mro = l at hall
  induction l with
  | nil => exact wpAny_pure q
  | cons c l ih =>
    rw [List.anyM_cons]
    refine wpAny_bind (wpAny_bind (PySem.W.looks_findIn X (hall c List.mem_cons_self) A _ E s k ?_))
    refine wpAny_pure ?_
    exact ih fun c' h' => hall c' (List.mem_cons_of_mem _ h')
theorem iop_own {prog : Program} {w : World} {A : Around} {E Q : Value → Shared → Prop} {s : Shared} {K : PySem.W.Frag} {x y C f : Addr} {ox oy : Obj} {od od2 : Option Obj} (X : K.In s.heap) (I : PySem.W.InstAt s.heap x ox C od) (J : PySem.W.InstAt s.heap y oy C od2) (o : OpO K C .Add f) (ni : NoI K C)
    (h : wpAny (model prog w) A (call (.ref f) [.ref x, .ref y]) (PySem.W.CmpBack Q) E s) : wpAny (model prog w) A (inplaceOp .Add (.ref x) (.ref y)) Q E s := by
  obtain ⟨cd1, rest1, hc1, hm1⟩ := PySem.W.ksp_first o.first
  have at_ : PySem.W.findIn K (.ref C) (PySem.dunder "add") = some (some (.ref f)) := o.at_
  have one := PySem.W.ksp_try X I at_ o.fn h
  have L0 := noI_looks (M := model prog w) (add := true) X ni
  obtain ⟨hh, gs, d, tt, os⟩ := s
  have L1 : PySem.W.Looks (model prog w) hh (typeOf (.ref x)) (.ref C) := I.type
  have L2 : PySem.W.Looks (model prog w) hh (typeOf (.ref y)) (.ref C) := J.type
  have L3 : PySem.W.Looks (model prog w) hh (fillsNumberSlot (.ref C) "add") true := PySem.W.fills_K X hc1 hm1 at_
  have hne : (Value.ref C == Value.ref C) = true := beq_self_eq_true _
  unfold inplaceOp
  refine wpAny_holding (wpAny_bind (L1.here (wpAny_bind (L0.here (wpAny_bind ?_)))))
  show wpAny _ _ (binaryOp1 "add" (.ref x) (.ref y)) _ _ _
  unfold binaryOp1
  refine wpAny_bind (L1.at (wpAny_bind (L2.at (wpAny_bind (L3.at ?_)))))
  simp only [hne, if_true]
  ksp_lk
  refine wpAny_mono one (fun r s' hr' => ?_) fun _ _ z => z
  obtain ⟨v, rfl, hq⟩ := hr'
  ksp_lk
  exact hq
def rIop (C : Addr) (sp : Sp) : R2 := fun x y H Q => ∃ (a b dx dy : Addr) (fs gs : List (Str × V)), x = .ref a ∧ y = .ref b ∧ H a = some (.ins C dx fs) ∧ H b = some (.ins C dy gs) ∧ sp [.ref a, .ref b] H (fun v H' => (∃ r, v = .ref r) ∧ Q v H') E0
theorem ip_own {X : Cx} {CX : CXT} {C f : Addr} {fd : FuncData} {ps : List Str} {k : Nat} {sp : Sp} (o : OpO X.K C .Add f) (ni : NoI X.K C) (hb : Binds X.K fd ps []) (F : FnOk X.prog X.w X.K X.mg X.base CX k f fd ps sp) (hr : Room k X.A) (hx : Passes CX X E0) : PIp X .Add (rIop C sp) := by
  intro pins s σ H x y v u Q I rx ry h
  obtain ⟨a, b, dx, dy, fs, gs, rfl, rfl, ha, hb2, q⟩ := h
  obtain rfl : v = Value.ref a := rx
  obtain rfl : u = Value.ref b := ry
  obtain ⟨ox, od, J1, _⟩ := insO_at I ha
  obtain ⟨oy, od2, J2, _⟩ := insO_at I hb2
  refine iop_own I.kIn J1 J2 o ni ?_
  exact thn (run_fn (us := [.ref a, .ref b]) (vs := [.ref a, .ref b]) F hr hb .nil hx I (.cons rfl (.cons rfl .nil)) q) fun r s' z => by
    obtain ⟨v, H', I', rv, ⟨p, rfl⟩, q'⟩ := z
    obtain rfl : r = Value.ref p := rv
    exact ⟨V.ref p, H', I', rfl, q'⟩
/-! ### while an exception is handled -/
theorem pe_meth0H {X : Cx} {CX : CXT} {C f : Addr} {fd : FuncData} {ps : List Str} {k : Nat} {sp : Sp} {E : L2.St → XK} {o : Expr} {m : Str} {apos pos : Pos} {ta : TE} {pl : Sem Bool} (he : PE X o ta) (c : Cls X.K C) (hm : Meth X.K C m f) (F : L2H.FnH X.prog X.w X.K X.mg X.base CX k f fd ps sp) (hr : L2H.RoomH k X.A) (hc : L2H.HotC X) (hb : Binds X.K fd ps []) (hx : ∀ σ, PassesAt CX X σ (E σ))
    (ht : eval (.Call (.Attribute o m apos) [] [] pos) X.env = (do
      let ov ← eval o X.env
      standAt apos.atName
      let (f, first) ← holding [ov] (getMethod ov m pl)
      callWith pos f first (backTo pos (starEach [] X.env)) (backToKw pos (keywordEach [] X.env))) := by rfl) :
    PE X (.Call (.Attribute o m apos) [] [] pos) (L2H.tMethH C m sp E ta tNil) := by
  refine ⟨fun pins s σ H Q I h => ?_⟩
  refine PySem.W.methodCall_KW (pl := pl) (thn (he.run pins s σ H _ I h) fun u s1 ⟨x, H1, I1, rx, a, dx, fs, ex, ea, l, q⟩ => ?_) ht
  subst ex
  obtain rfl : u = Value.ref a := rx
  refine getmeth_ok I1 ea c hm l ?_
  exact PySem.W.callWith_K0 (first := [.ref a]) I1.kIn hm.kp (L2H.run_fnH (us := [.ref a]) (vs := [.ref a]) F hr hc hb (hx σ) I1 (.cons rfl .nil) q)
theorem ok_chfH {P : Program} {w : World} {K : PySem.W.Frag} {mg : Str → Option Value} {base : Heap} {f C : Addr} {fd : FuncData} (F : Fun K "after" "Change.after" (sCh 3) f fd) (c : ChC K C) (mL : mg "list" = none) : L2H.FnH P w K mg base CX0 1 f fd ["self"] (spChF C) := by
  obtain ⟨oc, od, kV, doc, pm, an, cdv, ct, osl, rfl, lk, hcd⟩ := F.ex
  refine L2H.fn_ofH lk hcd scChF (fun vs H Q E h => ?_) (fun A outer s H vs Q E p hot hr h => ?_)
  · obtain ⟨a, n, ps, k, rfl, _⟩ := h
    rfl
  · obtain ⟨a, n, ps, k, rfl, ⟨dx, T, l, r, st, tst, ea, eT, _⟩, q⟩ := h
    refine ⟨_, pss_one (ps_ret (pe_callTy call_list_of (by rfl) mL (by decide +kernel) (pa_cons (pe_fld (pv 0) rfl) pa_nil))), ?_⟩
    exact ⟨_, rfl, a, C, dx, _, _, rfl, ea, c.cl, c.n2, rfl, T, _, rfl, .inr (.of eT), fun p hp => q p hp⟩
end G
set_option Elab.async false
set_option linter.all false
set_option maxRecDepth 100000
set_option maxHeartbeats 4000000
/-! TMN (exceptions whose context is none; the clauses may call): several except clauses with one name, one of which takes what is raised; others behind them. -/
namespace G
open PySem PySem.Spec PyProof.Rows L2
/-! ### several except clauses, each with the name n -/
def endsHs (i : Nat) (D : Ends) : Ends := { nx := fun σ' H' => D.nx (σ'.set i none) H', rt := D.rt, bk := fun σ' H' => D.bk (σ'.set i none) H', ct := fun σ' H' => D.ct (σ'.set i none) H' }
def wManyHs (K : PySem.W.Frag) (i : Nat) (D : Ends) : List (Value × (Addr → Value → Option Addr → TS)) → WX
  | [] => fun _ _ _ _ => False
  | (c, ts) :: r => fun cls d σ H => ∃ b, PySem.W.exmOne K cls c = some b ∧ (b = true → ∀ a, H a = none → ts a cls d (endsHs i D) (σ.set i (some (.ref a))) H) ∧ (b = false → wManyHs K i D r cls d σ H)
inductive HdsHs (X : Cx) (n : Str) : List ExceptHandler → List (Value × (Addr → Value → Option Addr → TS)) → Prop
  | nil {hds : List ExceptHandler} : HdsHs X n hds []
  | cons {x : Str} {c : Value} {ts : Addr → Value → Option Addr → TS} {b₀ : Stmt} {suite : List Stmt} {np pos' : Pos} {hds : List ExceptHandler} {l : List (Value × (Addr → Value → Option Addr → TS))} (hc : Names X x c)
      (hsu : ∀ (a : Addr) (oe : Obj) (cls : Value) (d : Option Addr) (pn : List (Addr × Obj)), L2N.Zn cls d oe → (∃ vs, oe.data = .fields vs) → L2H.HotC (X.suite a ((a, oe) :: pn)) → PSs (X.suite a ((a, oe) :: pn)) (b₀ :: suite) (ts a cls d)) (r : HdsHs X n hds l) :
      HdsHs X n (.ExceptHandler (some (.Name x np)) (some n) (b₀ :: suite) pos' :: hds) ((c, ts) :: l)
section
variable {X : Cx} {body : List Stmt} {h₀ : ExceptHandler} {hds : List ExceptHandler} {l : List (Value × (Addr → Value → Option Addr → TS))} {pos : Pos} {tb : WX → TS} {n : Str} {i : Nat}
theorem ps_try_manyHs (hs : X.stack = X.env :: X.outer) (hf : X.env.frame = some X.env.locals) (hN : X.N.Nodup) (hi : X.N[i]? = some n) (hln : X.env.kindOf n = some .local)
    (hb : ∀ (W : WX) (pn : List (Addr × Obj)) (xe : Value → Shared → Prop), L2N.Takes (X.tr pn xe) W → PassesOwn (model X.prog X.w) X.A X.env xe → PSs (X.tr pn xe) body (tb W))
    (hh : HdsHs X n (h₀ :: hds) l) : PS X (.Try body (h₀ :: hds) [] [] pos) (fun D σ H => tb (wManyHs X.K i D l) D σ H) := by
  refine ⟨fun pins s σ H D I h => ?_⟩
  have ok := I.ok
  have hfr : X.A.frames = some (X.env :: X.outer) := by rw [ok.frames, hs]
  have hloc : Loc X.env.scope n := .inl hln
  refine wpAny_Try_except ?_
  refine wpAny_mono ((hb (wManyHs X.K i D l) (X.pn ++ pins) (fun e s₁ => wpAny (model X.prog X.w) X.A (noteFrame e X.env) (fun _ s₂ => wpAny (model X.prog X.w) X.A (setFlight e none) (fun _ s₃ =>
    wpAny (model X.prog X.w) X.A (handleBy e X.env (h₀ :: hds)) (SP X pins D) X.xe s₃) X.xe s₂) X.xe s₁) (fun u s' xx => ?_) PassesOwn.looking).run [] s σ H D (I.toTry _) h) (fun f s1 hsp => ?_) (fun e s1 he => he)
  · obtain ⟨a, B, sI, pins', σ', H', cls, d, rfl, J', nb, up, sky, na, os, ag, w⟩ := xx
    have J : Inv X pins σ' H' sI := J'.ofTry ok
    have sky' : Sky B (X.env :: X.outer) a (L2N.Zn cls d) X.env.locals s'.heap := by rw [← hs]; exact sky
    show wpAny (model X.prog X.w) X.A (noteFrame (.ref a) X.env) _ _ _
    refine L2N.Sky.land L2N.Zn.steady hfr hf sky' fun h3 fl3 up3 => ?_
    have J3 : Inv X pins σ' H' { s' with heap := h3 } := J.landed nb fl3.1 (up.trans up3) os ag
    obtain ⟨oe3, vs3, he3, hz3, hd3⟩ := fl3.there
    have notFr : ∀ {h : Heap} {o : Obj} {vs : Array Value}, h.FunFrames B (X.env :: X.outer) → h.get? a = some o → o.data = .fields vs → a ∉ frs (X.env :: X.outer) := fun {h o vs} ff e dd hm => by
      obtain ⟨_, o', e', hnf⟩ := ff.mem hm
      rw [e] at e'; cases e'
      exact hnf _ dd
    have nfr := notFr fl3.2.2.1 he3 hd3
    have nL : a ≠ X.env.locals := fun z => nfr (List.mem_filterMap.mpr ⟨X.env, List.mem_cons_self, by rw [hf, z]⟩)
    have nF : a ∉ X.fs := fun hm => by
      obtain ⟨e, he, q⟩ := List.mem_filterMap.mp hm
      exact nfr (List.mem_filterMap.mpr ⟨e, List.mem_cons_of_mem _ he, q⟩)
    have S3 := J3.suite he3 hd3 na nL nF
    have go : ∀ {hds' : List ExceptHandler} {l' : List (Value × (Addr → Value → Option Addr → TS))}, HdsHs X n hds' l' → wManyHs X.K i D l' cls d σ' H' →
        wpAny (model X.prog X.w) X.A (handleBy (.ref a) X.env hds') (SP X pins D) X.xe { s' with heap := h3 } := by
      intro hds' l' hk
      induction hk with
      | nil =>
        intro w
        exact w.elim
      | @cons x c ts b₀ suite np pos' hds2 l2 hc hsu r ih =>
        intro w
        obtain ⟨b, hb1, hyes, hno⟩ := w
        refine wpAny_handleBy_cons (codeAny_handlers_test ?_) (by intro q; cases q)
        have LT : PySem.W.Looks (model X.prog X.w) h3 (typeOf (.ref a)) cls := fun A Q E s k q => wpAny_typeOf_ref (k _ _ he3) (by rw [hz3.1]; exact q)
        have LM := PySem.W.exm_one (M := model X.prog X.w) (J3.kIn) LT hb1
        have test : ∀ {Q : Value → Shared → Prop} {E : Value → Shared → Prop}, Q c { s' with heap := h3 } → wpAny (model X.prog X.w) (X.A.mark (some (.ref a))) (eval (.Name x np) X.env) Q E { s' with heap := h3 } := fun {Q E} q => by
          obtain ⟨hg, hdbg, hm | ⟨hm, hv, hnn⟩⟩ := hc
          · exact ld_glob (X := X.suite a ((a, oe3) :: (X.pn ++ pins))) S3 hg hm q hdbg
          · exact ld_blt (X := X.suite a ((a, oe3) :: (X.pn ++ pins))) S3 hg hm hv q hnn hdbg
        refine test (LM.here ?_)
        cases b with
        | true =>
          refine codeAny_handlers_suite_as ?_
          refine HandSPX.lands_againZ fl3 fun h4 fl4 up4 => ?_
          have J4 : Inv X pins σ' H' { s' with heap := h4 } := J.landed nb fl4.1 ((up.trans up3).trans up4) os ag
          obtain ⟨oe4, vs4, he4, hz4, hd4⟩ := fl4.there
          have S4 := J4.suite he4 hd4 na nL nF
          refine store_ok (X := X.suite a ((a, oe4) :: (X.pn ++ pins))) (v := .ref a) S4 hN hi hloc rfl (fun s5 S5 => ?_) (.inr hln)
          refine wpAny_mono ((hsu a oe4 cls d (X.pn ++ pins) hz4 ⟨_, hd4⟩ ⟨(a, oe4), ⟨rfl, vs4, hd4, hz4.2.2 vs4 hd4⟩, List.mem_cons_self⟩).run [] s5 _ H' _ S5 (hyes rfl a na)) (fun f s6 hsp => ?_) (fun _ _ z => False.elim z)
          have end_ : ∀ {σ6 : L2.St} {H6 : Hp} {Q : Shared → Prop}, Inv (X.suite a ((a, oe4) :: (X.pn ++ pins))) [] σ6 H6 s6 → (∀ s7, Inv X pins (σ6.set i none) H6 s7 → Q s7) →
              wpAny (model X.prog X.w) X.A (do bindName X.env n .none; unbindBehindTheSuite X.env n pos') (fun _ s7 => Q s7) X.xe s6 := fun {σ6 H6 Q} S6 hq => gone_ok (S6.unsuite ok) hN hi hln hq
          cases f with
          | next =>
            obtain ⟨σ6, H6, S6, q6⟩ := hsp
            exact end_ S6 fun s7 J7 => ⟨_, _, J7, q6⟩
          | brk =>
            obtain ⟨σ6, H6, S6, q6⟩ := hsp
            exact end_ S6 fun s7 J7 => ⟨_, _, J7, q6⟩
          | cont =>
            obtain ⟨σ6, H6, S6, q6⟩ := hsp
            exact end_ S6 fun s7 J7 => ⟨_, _, J7, q6⟩
          | ret u =>
            obtain ⟨v6, σ6, H6, S6, r6, q6⟩ := hsp
            exact end_ S6 fun s7 J7 => ⟨_, _, _, J7, r6, q6⟩
        | false =>
          show wpAny _ X.A (handleBy (.ref a) X.env hds2) _ _ _
          exact ih (hno rfl)
    exact go hh w
  · cases f with
    | next =>
      obtain ⟨σ', H', J', q⟩ := hsp
      exact wpAny_execs_nil ⟨σ', H', J'.ofTry ok, q⟩
    | brk =>
      obtain ⟨σ', H', J', q⟩ := hsp
      exact ⟨σ', H', J'.ofTry ok, q⟩
    | cont =>
      obtain ⟨σ', H', J', q⟩ := hsp
      exact ⟨σ', H', J'.ofTry ok, q⟩
    | ret u =>
      obtain ⟨v, σ', H', J', r, q⟩ := hsp
      exact ⟨v, σ', H', J'.ofTry ok, r, q⟩
end
end G
set_option Elab.async false
set_option linter.all false
set_option maxRecDepth 100000
set_option maxHeartbeats 8000000
/-! YJ: _law_joined. -/
namespace G
open PySem PySem.Spec PyProof.Rows L2 NdefX StX PySem.W
abbrev sJoined : Stmt := topS 47
abbrev nJoined : List Str := ["_law_one", "_law_other", "_law_found", "_law_come", "_law_twice", "_law_item"]
theorem scJoined : FnScope nJoined ["_law_one", "_law_other"] (defScope sJoined) := ⟨rfl, rfl, rfl, by decide +kernel, rfl, by decide +kernel, by decide +kernel⟩
def rCountD (K : PySem.W.Frag) : V → List V → Hp → VK → Prop := fun x xs H Q => ∃ (a : Addr) (y : V) (d : PyData) (ds : List PyData), x = V.ref a ∧ xs = [y] ∧ Dp K H (V.ref a) (.list ds) ∧ Dp K H y d ∧ SeqAt.shaped (.list ds) = true ∧ SeqAt.shaped d = true ∧ Q (.int (ds.countP fun z => PyData.eqv z d : Nat)) H
section
variable {X : Cx}
theorem mt_countD (hu : X.A.units + 65 < cLine) : MtR X "list.count" (rCountD X.K) := by
  intro pins s σ H x xs v us Q I rx rxs h
  obtain ⟨a, y, d, ds, rfl, rfl, hl, hy, sl, sd, q⟩ := h
  cases rx
  obtain ⟨uy, rfl, ry⟩ := rxs.one
  obtain ⟨bs, r1⟩ := Dp.reads I d y uy hy ry
  have hxs : PyData.canLayAll0 ds = true := SeqAt.canLay_of_shaped sl
  have hroom : X.A.units + 1 + min (PyData.depthAll ds) d.depth < cLine := room_in_shaped sd hu
  cases hl with
  | lst hs ha =>
    obtain ⟨its, rv, ⟨⟨cls, dd, data, sls⟩, n, ho, hc, hdn, hdt⟩, hlen⟩ := I.list hs
    simp only at hc hdt
    subst hc hdt
    obtain ⟨as, h4⟩ := Dp.readsAll I ds _ its ha rv
    have hmap : its.map (SeqAt.readOf s.heap) = ds := SeqAt.readsAll_map ds its as hxs h4
    refine call_meets PySem.F.slot_list_count ⟨_, ho, rfl⟩ PySem.F.entry_list_count (PySem.F.args_list_count_2 _ _)
      (SeqAt.list_countAt a its.toArray n dd sls uy (fun u => PyData.eqv (SeqAt.readOf s.heap u) d)) ⟨ho, SeqAt.items_eqAt (vs := its.toArray) (show ReadsAll s.heap its.toArray.toList ds as from h4) r1 hxs (SeqAt.canLay_of_shaped sd) hroom, ?_⟩
    refine ⟨.int (ds.countP fun z => PyData.eqv z d : Nat), H, I.tok _, ⟨s.toks, ?_⟩, q⟩
    have e : its.toArray.toList.countP (fun u => PyData.eqv (SeqAt.readOf s.heap u) d) = ds.countP fun z => PyData.eqv z d := by
      rw [← hmap, List.countP_map]
      rfl
    rw [e]
end
/-! ### how often an item stands there -/
def cntT (x : Tm) (l : List Tm) : Nat := l.countP fun y => decide (y = x)
theorem cnt_enc (x : Tm) : ∀ l : List Tm, (l.map encT).countP (fun z => PyData.eqv z (encT x)) = cntT x l
  | [] => rfl
  | y :: ys => by
    unfold cntT
    rw [List.map_cons, List.countP_cons, List.countP_cons, cnt_enc x ys, encT_eqv]
    rfl
theorem cntT_cons (x y : Tm) (l : List Tm) : cntT x (y :: l) = cntT x l + if y = x then 1 else 0 := by
  unfold cntT
  rw [List.countP_cons]
  by_cases h : y = x
  · rw [if_pos h, if_pos (decide_eq_true h)]
  · rw [if_neg h, if_neg (by rw [decide_eq_false h]; decide)]
theorem cnt_zero {x : Tm} : ∀ {l : List Tm}, x ∉ l → cntT x l = 0
  | [], _ => rfl
  | y :: ys, h => by
    rw [cntT_cons, cnt_zero fun z => h (List.mem_cons_of_mem _ z), if_neg fun z => h (by rw [z]; exact List.mem_cons_self)]
theorem cnt_pos {x : Tm} : ∀ {l : List Tm}, x ∈ l → 0 < cntT x l
  | y :: ys, h => by
    rw [cntT_cons]
    rcases List.mem_cons.mp h with rfl | h
    · rw [if_pos rfl]
      omega
    · have := cnt_pos h
      omega
theorem cnt_one {x : Tm} : ∀ {l : List Tm}, l.Nodup → x ∈ l → cntT x l = 1
  | y :: ys, nd, h => by
    obtain ⟨n1, n2⟩ := List.nodup_cons.mp nd
    rw [cntT_cons]
    rcases List.mem_cons.mp h with rfl | h
    · rw [cnt_zero n1, if_pos rfl]
    · rw [cnt_one n2 h, if_neg fun z => n1 (by rw [z]; exact h)]
theorem cnt_news (r : Rw) : ∀ l : List Pm, cntT (.inr r) (kys (news l)) = cntT (.inr r) (kys l)
  | [] => rfl
  | (v, .inl i) :: l => by
    have h := cnt_news r l
    show cntT (.inr r) (kys (news l)) = cntT (.inr r) (.inl i :: kys l)
    rw [cntT_cons, h, if_neg (by intro z; cases z)]
    rfl
  | (v, .inr r') :: l => by
    have h := cnt_news r l
    show cntT (.inr r) (.inr r' :: kys (news l)) = cntT (.inr r) (.inr r' :: kys l)
    rw [cntT_cons, cntT_cons, h]
theorem cnt_appl (qs : List Pm) (r : Rw) : ∀ l : List Pm, cntT (.inr r) (kys (applP qs l)) = cntT (.inr r) (kys l) + cntT (.inr r) (kys (stP qs l))
  | [] => rfl
  | (v, .inl i) :: l => by
    have h := cnt_appl qs r l
    show cntT (.inr r) ((atP qs i).2 :: kys (applP qs l)) = cntT (.inr r) (.inl i :: kys l) + cntT (.inr r) ((atP qs i).2 :: kys (stP qs l))
    rw [cntT_cons, cntT_cons, cntT_cons, h, if_neg (show ¬ (Sum.inl i : Tm) = .inr r by intro z; cases z)]
    omega
  | (v, .inr r') :: l => by
    have h := cnt_appl qs r l
    show cntT (.inr r) (.inr r' :: kys (applP qs l)) = cntT (.inr r) (.inr r' :: kys l) + cntT (.inr r) (kys (stP qs l))
    rw [cntT_cons, cntT_cons, h]
    omega
/-- the rows that would come twice -/
def twB (qs ps : List Pm) (p : Pm) : Bool := decide (0 < cntT p.2 (kys (stP qs ps)))
def twP (qs ps : List Pm) : List Pm := (news ps).filter (twB qs ps)
def twP' (qs ps l : List Pm) : List Pm := l.filter fun p => p.2.isRight && twB qs ps p
theorem twP_eq {qs ps : List Pm} : twP' qs ps ps = twP qs ps := by
  unfold twP' twP news
  rw [List.filter_filter]
  congr 1
  funext p
  exact Bool.and_comm _ _
theorem twB_iff {qs ps : List Pm} {p : Pm} : twB qs ps p = true ↔ p.2 ∈ kys (stP qs ps) := by
  unfold twB
  rw [decide_eq_true_iff]
  constructor
  · intro h
    refine Classical.byContradiction fun n => ?_
    rw [cnt_zero n] at h
    omega
  · exact cnt_pos
theorem first_filter {α : Type} {f : α → Bool} : ∀ {l : List α} {i : Nat} {p : α}, l[i]? = some p → f p = true → (∀ (j : Nat) (q : α), j < i → l[j]? = some q → f q = false) → ∃ t, l.filter f = p :: t
  | x :: l, 0, p, h, hp, _ => by
    cases h
    exact ⟨_, List.filter_cons_of_pos hp⟩
  | x :: l, i + 1, p, h, hp, no => by
    have h0 : f x = false := no 0 x (Nat.succ_pos _) rfl
    obtain ⟨t, e⟩ := first_filter (l := l) (i := i) h hp fun j q hj hq => no (j + 1) q (Nat.succ_lt_succ hj) hq
    exact ⟨t, by rw [List.filter_cons_of_neg (by rw [h0]; decide)]; exact e⟩
theorem tw_nil {qs ps : List Pm} (h : twP qs ps = []) : NoTwice qs ps := fun p hp m => by
  have : p ∈ twP qs ps := List.mem_filter.mpr ⟨hp, twB_iff.mpr m⟩
  rw [h] at this
  cases this
theorem tw_cons {qs ps : List Pm} {p0 : Pm} {t : List Pm} (h : twP qs ps = p0 :: t) : ¬ NoTwice qs ps ∧ ∀ (i : Nat) (p : Pm), (news ps)[i]? = some p → p.2 ∈ kys (stP qs ps) → (∀ (j : Nat) (p' : Pm), j < i → (news ps)[j]? = some p' → p'.2 ∉ kys (stP qs ps)) → p = p0 := by
  constructor
  · intro n
    have : p0 ∈ twP qs ps := by rw [h]; exact List.mem_cons_self
    obtain ⟨h1, h2⟩ := List.mem_filter.mp this
    exact n p0 h1 (twB_iff.mp h2)
  · intro i p hi hp no
    obtain ⟨t', e⟩ := first_filter (f := twB qs ps) hi (twB_iff.mpr hp) fun j q hj hq => Bool.eq_false_iff.mpr fun z => no j q hj hq (twB_iff.mp z)
    have e2 := e.symm.trans h
    injection e2
/-- what the law's own joining tells -/
def JnAt (H : Hp) (R : Addr) (qs ps : List Pm) : Prop := (twP qs ps = [] ∧ ∃ D, H R = some (.lst [.str "told", .ref D]) ∧ H D = some (.lst (vls (applP qs ps)))) ∨ ∃ p0 t, twP qs ps = p0 :: t ∧ H R = some (.lst [.str "taken", p0.1])
def spJoined : Sp := fun vs H Q _ => ∃ (l1 l2 : Addr) (qs ps : List Pm), vs = [.ref l1, .ref l2] ∧ H l1 = some (.lst (vls qs)) ∧ H l2 = some (.lst (vls ps)) ∧ PsAt H qs ∧ PsAt H ps ∧ (∀ x ∈ kys qs, TmOk x) ∧ ChOk qs.length (kys ps) ∧
  ∀ (R : Addr) (H' : Hp), H R = none → Same H H' → JnAt H' R qs ps → Q (.ref R) H'
theorem ixL_at {K : PySem.W.Frag} {H : Hp} {it : Addr} {qs : List Pm} {i : Int} {Q : VK} (h : H it = some (.lst (vls qs))) (h0 : 0 ≤ i) (h1 : i < qs.length) (q : Q (atP qs i).1 H) : rIx K (.ref it) (.int i) H Q := by
  have e : (vls qs)[i.toNat]? = some (atP qs i).1 := by
    unfold vls
    rw [List.getElem?_map, atP_at h0 h1]
    rfl
  have ea := atI_nat (j := i.toNat) e
  rw [show ((i.toNat : Nat) : Int) = i by omega] at ea
  exact .inl ⟨it, _, _, _, rfl, rfl, .of h, ea, q⟩
theorem appl_ok {qs ps : List Pm} (okq : ∀ x ∈ kys qs, TmOk x) (ok : ChOk qs.length (kys ps)) : ∀ x ∈ kys (applP qs ps), TmOk x := fun x hx => by
  obtain ⟨p, hp, rfl⟩ := List.mem_map.mp hx
  obtain ⟨q, hq, rfl⟩ := List.mem_map.mp hp
  obtain ⟨v, y⟩ := q
  cases y with
  | inl j =>
    obtain ⟨h0, h1⟩ := ok.lo j (List.mem_map_of_mem (f := (·.2)) hq)
    exact okq _ (List.mem_map_of_mem (List.mem_of_getElem? (atP_at h0 h1)))
  | inr r => exact ok.ok _ (List.mem_map_of_mem (f := (·.2)) hq)
section
variable {P : Program} {w : World} {K : PySem.W.Frag} {mg : Str → Option Value} {base : Heap} {f : Addr} {fd : FuncData}
theorem ok_joined (F : Fun K "_law_joined" "_law_joined" sJoined f fd) (mi : mg "isinstance" = none) (mn : mg "int" = none) : FnOk P w K mg base CX0 1 f fd ["_law_one", "_law_other"] spJoined := by
  refine F.ok scJoined (fun vs H Q E h => ?_) (fun cdv A outer s H vs Q E hr h => ?_)
  · obtain ⟨l1, l2, qs, ps, rfl, _⟩ := h
    rfl
  · obtain ⟨l1, l2, qs, ps, rfl, h1, h2, hq, hp, okq, ok, q⟩ := h
    have hu65 : (A.deeper (envOfC "_law_joined" (defScope sJoined) s.heap.objs.size f cdv)).units + 65 < cLine := by have := hr.un; omega
    have hu : (A.deeper (envOfC "_law_joined" (defScope sJoined) s.heap.objs.size f cdv)).units < cLine := by omega
    refine ⟨_, pss_cons (ps_setLc (i := 2) (own := [("_law_item", 5)]) (g := gName 5) (tt := tYes) (te := tIf (tB (tCB (rIsi K) (tCons (tVar 5) (tCons (tC (.ty "int")) tNil)))) (tOp (rIx K) (tVar 0) (tVar 5)) (tVar 5)) (by rfl) scJoined.nd rfl rfl (sw_true rfl rfl rfl (by decide +kernel)) (pi_list (pv 1))
        (blkOk_by (own := [("_law_item", 5)]) (N := nJoined) (sc := defScope sJoined) (by decide +kernel)) (fun _ _ _ _ _ => pg_name (i := 5) scJoined.nd rfl (.inl rfl)) (fun _ _ _ _ _ => pts_nil)
        (fun _ _ _ _ _ => by exact pe_ifExp (pt_val (pt_isi "int" (pv 5) (hm := mi) (mn := mn))) (pe_ix ix_seq (pv 0) (pv 5) (fun _ _ => rfl)) (pv 5)))
      (pss_cons (ps_set (i := 3) scJoined.nd rfl (.inr rfl) (by exact pe_lc (own := [("_law_item", 5)]) (g := gName 5) (tt := tNot (tB (tCB (rIsi K) (tCons (tVar 5) (tCons (tC (.ty "int")) tNil))))) (by rfl) scJoined.nd (pi_list (pv 2)) (blkOk_by (own := [("_law_item", 5)]) (N := nJoined) (sc := defScope sJoined) (by decide +kernel)) (fun _ _ _ _ _ => pg_name (i := 5) scJoined.nd rfl (.inl rfl)) (fun _ _ _ _ _ => pts_one (by exact pt_not (pt_val (pt_isi "int" (pv 5) (hm := mi) (mn := mn))))) (fun _ _ _ _ _ => pv 5)))
      (pss_cons (ps_setLc (i := 4) (own := [("_law_item", 5)]) (g := gName 5) (tt := tAnd (tNot (tB (tCB (rIsi K) (tCons (tVar 5) (tCons (tC (.ty "int")) tNil))))) (tTest (tOp (rI0 fun i j => V.bl (decide (i > j))) (tBM K "list" (rCountD K) (tVar 3) (tCons (tVar 5) tNil)) (tC (.int 1))))) (by rfl) scJoined.nd rfl rfl (sw_true rfl rfl rfl (by decide +kernel)) (pi_list (pv 1))
        (blkOk_by (own := [("_law_item", 5)]) (N := nJoined) (sc := defScope sJoined) (by decide +kernel)) (fun _ _ _ _ _ => pg_name (i := 5) scJoined.nd rfl (.inl rfl))
        (fun _ _ _ _ _ => pts_one (by exact PW.pt (pw_and (pt_not (pt_val (pt_isi "int" (pv 5) (hm := mi) (mn := mn)))) (pw_and1 (pt_cmpR op_gt (pe_bm PySem.F.plainAttrs_list PySem.F.slot_list_count PySem.F.type_list_count (mt_countD (by exact hu65)) (pv 3) (pa_cons (pv 5) pa_nil)) pe_int (nomark _)))))) (fun _ _ _ _ _ => pv 5))
      (pss_one (ps_ret (pe_ifExp (pt_cmpR (op_neNil (by exact hu)) (pv 4) (pe_lst pa_nil) (nomark _)) (pe_lst (pa_cons pe_str (pa_cons (pe_ix (r := rIx K) ix_seq (pv 4) pe_int (fun _ _ => rfl)) pa_nil))) (pe_lst (pa_cons pe_str (pa_cons (pv 2) pa_nil)))))))), ?_⟩
    have lp : (vls ps).length = ps.length := List.length_map ..
    have few : ps.length ≤ 80 := by
      have := ok.few
      unfold kys at this
      rwa [List.length_map] at this
    refine ⟨_, rfl, l2, rfl, ⟨_, .of h2⟩, fun D hD => ?_⟩
    refine lc_list (xs := vls ps) (fun i H3 => Same H H3 ∧ H3 D = some (.lst (vls (applP qs (ps.take i))))) ?_ ?_ ?_ ?_
    · exact ⟨Same.new hD, upd_same⟩
    · exact fun _ _ _ z => .of (z.1 _ _ h2)
    · rintro i x H3 hx ⟨s3, e3⟩
      obtain ⟨p, hpi, rfl, mp⟩ := vls_at hx
      have ap : applP qs (ps.take (i + 1)) = applP qs (ps.take i) ++ [viaP qs p] := by
        unfold applP
        rw [take_snocA hpi, List.map_append]
        rfl
      rw [ap]
      have small : (vls (applP qs (ps.take i))).length < sizeLine := by
        unfold applP vls
        rw [List.length_map, List.length_map, List.length_take]
        exact small1000 (by omega)
      have fin : ∃ acc, H3 D = some (.lst acc) ∧ acc.length < sizeLine ∧ (Same H (upd H3 D (.lst (acc ++ [(viaP qs p).1]))) ∧ (upd H3 D (.lst (acc ++ [(viaP qs p).1]))) D = some (.lst (vls (applP qs (ps.take i) ++ [viaP qs p])))) :=
        ⟨_, e3, small, fun c o e => (upd_ne (ne_of_none e hD)).trans (s3 _ _ e), by rw [upd_same]; unfold vls; rw [List.map_append]; rfl⟩
      have ha := (hp p mp).same s3
      refine ⟨rfl, ?_⟩
      unfold tYes
      dsimp only
      rw [if_pos rfl]
      obtain ⟨v, x⟩ := p
      refine ⟨_, rfl, _, _, _, _, _, rfl, .ty _, rp_ty ha.rp, kit_i (encT x), _, rfl, ?_⟩
      cases x with
      | inl j =>
        obtain rfl : v = .int j := ha
        obtain ⟨h0, h1'⟩ := ok.lo j (List.mem_map_of_mem (f := (·.2)) mp)
        refine iteT ?_
        exact ⟨_, rfl, _, rfl, ixL_at (s3 _ _ h1) h0 (by omega) fin⟩
      | inr r =>
        rw [show isI (encT (.inr r)) = false by cases r <;> rfl]
        exact iteF ⟨_, rfl, fin⟩
    rintro H1 ⟨s1, e1⟩
    rw [lp, List.take_length] at e1
    have la : (vls (applP qs ps)).length = ps.length := by
      unfold vls applP
      rw [List.length_map, List.length_map]
    have haa := (appl_at hq hp ok).same s1
    refine ⟨_, rfl, D, rfl, ⟨_, .of e1⟩, fun D2 hD2 => ?_⟩
    refine lc_list (xs := vls (applP qs ps)) (fun i H3 => Same H1 H3 ∧ H3 D2 = some (.lst (vls (news ((applP qs ps).take i))))) ?_ ?_ ?_ ?_
    · exact ⟨Same.new hD2, upd_same⟩
    · exact fun _ _ _ z => .of (z.1 _ _ e1)
    · rintro i x H3 hx ⟨s3, e3⟩
      obtain ⟨p, hpi, rfl, mp⟩ := vls_at hx
      have ip := (List.getElem?_eq_some_iff.mp hx).1
      have ha := (haa p mp).same s3
      refine ⟨rfl, ?_⟩
      rw [news_snoc hpi]
      have small : (vls (news ((applP qs ps).take i))).length < sizeLine := by
        unfold vls news
        rw [List.length_map]
        have h1 := List.length_filter_le (fun p : Pm => p.2.isRight) ((applP qs ps).take i)
        rw [List.length_take] at h1
        exact small1000 (by omega)
      obtain ⟨v, x⟩ := p
      refine ⟨_, rfl, _, _, _, _, _, rfl, .ty _, rp_ty ha.rp, kit_i (encT x), _, rfl, ?_⟩
      cases x with
      | inl j => exact iteF ⟨s3, e3⟩
      | inr r =>
        rw [show isI (encT (.inr r)) = false by cases r <;> rfl]
        refine iteT ⟨_, rfl, _, e3, small, fun c o e => (upd_ne (ne_of_none e hD2)).trans (s3 _ _ e), ?_⟩
        rw [upd_same, if_pos (show (v, (Sum.inr r : Tm)).2.isRight = true from rfl)]
        unfold vls
        rw [List.map_append]
        rfl
    rintro H2 ⟨s2, e2⟩
    rw [la, show ps.length = (applP qs ps).length by unfold applP; rw [List.length_map], List.take_length] at e2
    have s12 := s1.trans s2
    have han : PsAt H2 (news (applP qs ps)) := (haa.same s2).sub fun p hp' => (mem_news hp').1
    have okn : ∀ x ∈ kys (news (applP qs ps)), TmOk x := fun x hx => by
      obtain ⟨p, hp', rfl⟩ := List.mem_map.mp hx
      exact appl_ok okq ok _ (List.mem_map_of_mem (mem_news hp').1)
    refine ⟨_, rfl, l2, rfl, ⟨_, .of (s12 _ _ h2)⟩, fun D3 hD3 => ?_⟩
    refine lc_list (xs := vls ps) (fun i H3 => Same H2 H3 ∧ H3 D3 = some (.lst (vls (twP' qs ps (ps.take i))))) ?_ ?_ ?_ ?_
    · exact ⟨Same.new hD3, upd_same⟩
    · exact fun _ _ _ z => .of ((s12.trans z.1) _ _ h2)
    · rintro i x H3 hx ⟨s3, e3⟩
      obtain ⟨p, hpi, rfl, mp⟩ := vls_at hx
      have ip := (List.getElem?_eq_some_iff.mp hx).1
      have ha := (hp p mp).same (s12.trans s3)
      refine ⟨rfl, ?_⟩
      have tw : twP' qs ps (ps.take (i + 1)) = if (p.2.isRight && twB qs ps p) = true then twP' qs ps (ps.take i) ++ [p] else twP' qs ps (ps.take i) := by
        unfold twP'
        rw [take_snocA hpi, filt_snoc]
      rw [tw]
      have small : (vls (twP' qs ps (ps.take i))).length < sizeLine := by
        unfold vls twP'
        rw [List.length_map]
        have h1 := List.length_filter_le (fun p : Pm => p.2.isRight && twB qs ps p) (ps.take i)
        rw [List.length_take] at h1
        exact small1000 (by omega)
      obtain ⟨v, x⟩ := p
      refine ⟨_, rfl, _, _, _, _, _, rfl, .ty _, rp_ty ha.rp, kit_i (encT x), _, rfl, ?_⟩
      cases x with
      | inl j => exact iteF ⟨s3, e3⟩
      | inr r =>
        rw [show isI (encT (.inr r)) = false by cases r <;> rfl]
        have okp := ok.ok _ (List.mem_map_of_mem (f := (·.2)) mp)
        refine iteT ⟨_, rfl, .inl ⟨rfl, _, .of (s3 _ _ e2)⟩, _, rfl, D2, v, encT (.inr r), (kys (news (applP qs ps))).map encT, rfl, rfl, .lst (.of (s3 _ _ e2)) ((han.same s3).dps okn), ha.dp okp, encTs_shaped okn, encT_shaped okp, _, _, rfl, rfl, _, rfl, ?_⟩
        rw [cnt_enc, cnt_news, cnt_appl, cnt_one ok.nd (List.mem_map_of_mem (f := (·.2)) mp)]
        have eb : decide (((1 + cntT (.inr r) (kys (stP qs ps)) : Nat) : Int) > 1) = twB qs ps (v, .inr r) := by
          unfold twB
          by_cases h : 0 < cntT (.inr r) (kys (stP qs ps))
          · rw [decide_eq_true h, decide_eq_true (by omega)]
          · rw [decide_eq_false h, decide_eq_false (by omega)]
        show if decide (((1 + cntT (.inr r) (kys (stP qs ps)) : Nat) : Int) > 1) = true then _ else _
        rw [eb, show ((v, (Sum.inr r : Tm)).2.isRight && twB qs ps (v, .inr r)) = twB qs ps (v, .inr r) from rfl]
        cases twB qs ps (v, .inr r) with
        | true =>
          refine iteT ⟨_, rfl, _, e3, small, fun c o e => (upd_ne (ne_of_none e hD3)).trans (s3 _ _ e), ?_⟩
          rw [upd_same, if_pos rfl]
          unfold vls
          rw [List.map_append]
          rfl
        | false => exact iteF ⟨s3, e3⟩
    rintro H3 ⟨s3, e3⟩
    rw [lp, List.take_length, twP_eq] at e3
    have s13 := s12.trans s3
    refine ⟨_, rfl, (by decide), fun t ht => ?_⟩
    have st := Same.new (o := .lst []) ht
    have e4 := st _ _ e3
    have et : (upd H3 t (.lst [])) t = some (.lst []) := upd_same
    have s14 := s13.trans st
    have e4D := st _ _ (s3 _ _ (s2 _ _ e1))
    generalize upd H3 t (.lst []) = H4 at e4 et s14 e4D ⊢
    refine ⟨D3, t, _, rfl, rfl, .of e4, .of et, _, rfl, ?_⟩
    cases ew : twP qs ps with
    | nil =>
      rw [ew] at e4
      refine iteF ⟨_, rfl, (by show 2 ≤ sizeLine; decide), fun R hR => ?_⟩
      exact q R _ (s14.free hR) (s14.trans (Same.new hR)) (.inl ⟨ew, D, upd_same, Same.new hR _ _ e4D⟩)
    | cons p0 t0 =>
      rw [ew] at e4
      refine iteT ⟨_, rfl, .inl ⟨D3, _, _, _, rfl, rfl, .of e4, atI_nat (j := 0) rfl, ?_⟩⟩
      refine ⟨(by show 2 ≤ sizeLine; decide), fun R hR => ?_⟩
      exact q R _ (s14.free hR) (s14.trans (Same.new hR)) (.inr ⟨p0, t0, ew, upd_same⟩)
end
end G
set_option Elab.async false
set_option linter.all false
set_option maxRecDepth 100000
set_option maxHeartbeats 8000000
/-! YC: _law_caught. -/
namespace G
open PySem PySem.Spec PyProof.Rows L2 NdefX StX PySem.W
abbrev sCaught : Stmt := topS 48
abbrev nCaught : List Str := ["_law_change", "_law_value", "_law_found", "e"]
theorem scCaught : FnScope nCaught ["_law_change", "_law_value"] (defScope sCaught) := ⟨rfl, rfl, rfl, by decide +kernel, rfl, by decide +kernel, by decide +kernel⟩
def tLstN (t : TA) : TE := fun σ H Q => t σ H fun xs H1 => xs.length ≤ sizeLine ∧ ∀ p, H1 p = none → p ≠ sysModules → Q (.ref p) (upd H1 p (.lst xs))
theorem pe_lstN {X : Cx} {es : List Expr} {t : TA} {pos : Pos} (h : PA X es t) : PE X (.List es pos) (tLstN t) := by
  refine ⟨fun pins s σ H Q I hq => ?_⟩
  refine wpAny_List_spliced (thn (h.run pos pins s σ H _ I hq) fun us s1 ⟨xs, H1, I1, r, z, q⟩ => ⟨r.length ▸ z, ?_⟩)
  have fr : H1 s1.heap.objs.size = none := I1.hok.fresh (Nat.le_refl _)
  exact ⟨.ref s1.heap.objs.size, upd H1 s1.heap.objs.size (.lst xs), I1.laid (t' := s1.toks) (fun b u e => Heap.get?_push_of_some _ e) (Nat.le_refl _) ⟨z, us, 0, r, Heap.get?_push_size _ rfl⟩, rfl, q _ fr (Nat.ne_of_gt I1.big)⟩
/-- three classes of exceptions -/
structure Thr (K : PySem.W.Frag) (mg : Str → Option Value) (CI CM CX : Addr) : Prop where
  ii : PySem.W.exmOne K (.ref CI) (.ref CI) = some true
  mi : PySem.W.exmOne K (.ref CM) (.ref CI) = some false
  mm : PySem.W.exmOne K (.ref CM) (.ref CM) = some true
  xi : PySem.W.exmOne K (.ref CX) (.ref CI) = some false
  xm : PySem.W.exmOne K (.ref CX) (.ref CM) = some false
  xx : PySem.W.exmOne K (.ref CX) (.ref CX) = some true
  fI : XfC K CI
  fM : XfC K CM
  fX : XfC K CX
  nI : PySem.W.findIn K (.ref CI) "value" = some none
  nM : PySem.W.findIn K (.ref CM) "value" = some none
  nX : PySem.W.findIn K (.ref CX) "key" = some none
  gI : mg "InvalidChange" = some (.ref CI)
  gM : mg "Mismatch" = some (.ref CM)
  gX : mg "KeyTaken" = some (.ref CX)
/-- what a change is asked: after() and before -/
structure AskC (P : Program) (w : World) (K : PySem.W.Frag) (mg : Str → Option Value) (base : Heap) (C : Addr) : Prop where
  c : ChC K C
  F : ∃ f fd, Meth K C "after" f ∧ Binds K fd ["self"] [] ∧ FnOk P w K mg base CX0 1 f fd ["self"] (spChF C) ∧ L2H.FnH P w K mg base CX0 1 f fd ["self"] (spChF C)
  B : ∃ p f fd, PropOf K C "before" p f ∧ Binds K fd ["self"] [] ∧ FnOk P w K mg base CX0 1 f fd ["self"] (spChB C)
/-- how changes are joined -/
structure AddC (P : Program) (w : World) (K : PySem.W.Frag) (mg : Str → Option Value) (base : Heap) (C CI CM CX : Addr) : Prop where
  o : ∃ f fd, OpO K C .Add f ∧ Binds K fd ["self", "other"] [] ∧ FnOk P w K mg base (L2N.CX P w) 8 f fd ["self", "other"] (spChA K C CI CM CX)
  d : ∀ d : PyData, OpB K C .Add (tyN d)
  i : NoI K C
def tsI (CI : Addr) (a : Addr) (cls : Value) (d : Option Addr) : TS := tRet (tLstN (tCons (tC (.str "change")) (tCons (tXf a cls d CI "value" (tVar 3)) tNil)))
def tsM (C CM : Addr) (a : Addr) (cls : Value) (d : Option Addr) : TS := tRet (tLstN (tCons (tC (.str "mismatch")) (tCons (L2H.tMethH C "after" (spChF C) (fun _ => E0) (tXf a cls d CM "value" (tVar 3)) tNil) tNil)))
def tsX (CX : Addr) (a : Addr) (cls : Value) (d : Option Addr) : TS := tRet (tLstN (tCons (tC (.str "taken")) (tCons (tXf a cls d CX "key" (tVar 3)) tNil)))
def hds3 (C CI CM CX : Addr) : List (Value × (Addr → Value → Option Addr → TS)) := [(.ref CI, tsI CI), (.ref CM, tsM C CM), (.ref CX, tsX CX)]
def tbC (K : PySem.W.Frag) (C CI CM CX : Addr) (W : WX) : TS := tSeq (tAsg (tAddS K C (spChA K C CI CM CX) (WE W) (tVar 0) (tVar 1)) (gName 2))
  (tRet (tLstN (tCons (tC (.str "told")) (tCons (tMeth C "after" (spChF C) [] E0 (tVar 2) tNil) (tCons (tProp C (spChB C) [] E0 (tVar 2)) tNil)))))
/-- what is told of a change and what stands on its right -/
def spCaught (K : PySem.W.Frag) (C : Addr) : Sp := fun vs H Q _ => ∃ (a : Addr) (v : V) (n : Nat) (qs : List Pm) (j : Nat), vs = [.ref a, v] ∧ ChAt C H a n qs j ∧ (∀ x ∈ kys qs, TmOk x) ∧
  ((∃ d, Rp K H v d ∧ ∀ (R : Addr) (H' : Hp), H R = none → R ≠ sysModules → Same H H' → H' R = some (.lst [.str "change", v]) → Q (.ref R) H') ∨
   (∃ (b : Addr) (m : Nat) (ps : List Pm) (k : Nat), v = .ref b ∧ ChAt C H b m ps k ∧ m ≠ qs.length ∧ ∀ (R D : Addr) (H' : Hp), H R = none → Same H H' → H' R = some (.lst [.str "mismatch", .ref D]) → H' D = some (.lst (vls ps)) → Q (.ref R) H') ∨
   (∃ (b : Addr) (ps : List Pm) (k : Nat), v = .ref b ∧ ChAt C H b qs.length ps k ∧ ChOk qs.length (kys ps) ∧
     (twP qs ps = [] → ChOk n (kys (applP qs ps)) ∧ ∀ (R D : Addr) (H' : Hp), H R = none → Same H H' → H' R = some (.lst [.str "told", .ref D, .int (n : Nat)]) → H' D = some (.lst (vls (applP qs ps))) → Q (.ref R) H') ∧
     (∀ p0 t, twP qs ps = p0 :: t → ∀ (R : Addr) (H' : Hp), H R = none → Same H H' → H' R = some (.lst [.str "taken", p0.1]) → Q (.ref R) H')))
section
variable {P : Program} {w : World} {K : PySem.W.Frag} {mg : Str → Option Value} {base : Heap} {f C CI CM CX : Addr} {fd : FuncData}
theorem ok_caught (F : Fun K "_law_caught" "_law_caught" sCaught f fd) (S : Thr K mg CI CM CX) (R : AskC P w K mg base C) (O : AddC P w K mg base C CI CM CX) : FnOk P w K mg base CX0 9 f fd ["_law_change", "_law_value"] (spCaught K C) := by
  refine F.ok scCaught (fun vs H Q E h => ?_) (fun cdv A outer s H vs Q E hr h => ?_)
  · obtain ⟨a, v, n, qs, j, rfl, _⟩ := h
    rfl
  · obtain ⟨a, v, n, qs, j, rfl, ha, okq, h⟩ := h
    obtain ⟨fF, fdF, mF, bF, GF, GH⟩ := R.F
    obtain ⟨pB, fB, fdB, mB, bB, GB⟩ := R.B
    obtain ⟨fO, fdO, oO, bO, GO⟩ := O.o
    have c := R.c
    have hr1 := hr.mono (show 1 ≤ 8 by decide)
    have hr2 := hr.mono (show 1 + 1 ≤ 8 by decide)
    refine ⟨_, pss_one (ps_try_manyHs (i := 3) (l := hds3 C CI CM CX) (tb := tbC K C CI CM CX) rfl rfl scCaught.nd rfl rfl
        (fun W pn xe tk _ => pss_cons (ps_set (i := 2) scCaught.nd rfl (.inl rfl) (pe_addS oO bO GO hr (fun σ => passN tk σ) (by exact pv 0) (by exact pv 1)))
          (pss_one (ps_ret (pe_lstN (pa_cons pe_str (pa_cons (pe_meth0 (by exact pv 2) c.cl mF GF hr1 bF .nil pass0) (pa_cons (pe_prop (by exact pv 2) c.cl mB GB hr2 bB .nil pass0 rfl) pa_nil)))))))
        (.cons ⟨rfl, by decide, .inl S.gI⟩ (fun a oe cls d pn hz hf hot => pss_one (ps_ret (pe_lstN (pa_cons pe_str (pa_cons (pe_xf S.fI S.nI hz.zc hf (pv 3)) pa_nil)))))
        (.cons ⟨rfl, by decide, .inl S.gM⟩ (fun a oe cls d pn hz hf hot => pss_one (ps_ret (pe_lstN (pa_cons pe_str (pa_cons (pe_meth0H (E := fun _ => E0) (pe_xf S.fM S.nM hz.zc hf (pv 3)) c.cl mF GH (L2H.roomH_mark hr1 _) hot bF (fun _ _ _ _ _ _ _ h => h.elim)) pa_nil)))))
        (.cons ⟨rfl, by decide, .inl S.gX⟩ (fun a oe cls d pn hz hf hot => pss_one (ps_ret (pe_lstN (pa_cons pe_str (pa_cons (pe_xf S.fX S.nX hz.zc hf (pv 3)) pa_nil))))) .nil)))), ?_⟩
    obtain ⟨dx, T, l2, r, st, tst, ea, eT, _, _, _, _, _, hq, _⟩ := id ha
    refine ⟨_, rfl, _, rfl, a, dx, _, rfl, ea, ?_⟩
    rcases h with ⟨d, hR, q⟩ | ⟨b, m, ps, k, rfl, hb, ne, q⟩ | ⟨b, ps, k, rfl, hb, ok, q1, q2⟩
    · refine ⟨.inr ⟨d, hR, O.d d⟩, a, v, n, qs, j, rfl, ha, okq, .inl ⟨d, hR, fun dd H' s' e' => ?_⟩⟩
      refine ⟨true, S.ii, fun _ x hx => ?_, fun z => nomatch z⟩
      refine ⟨_, rfl, rfl, rfl, dd, _, v, rfl, e', by simp [List.lookup], (by show 2 ≤ sizeLine; decide), fun R hR np => ?_⟩
      exact q R _ (s'.free hR) np (s'.trans (Same.new hR)) upd_same
    · obtain ⟨dy, T2, l3, r2, st2, tst2, eb, eT2, _⟩ := id hb
      refine ⟨.inl ⟨b, C, dy, fO, _, rfl, eb, oO, .inl rfl⟩, a, _, n, qs, j, rfl, ha, okq, .inr (.inl ⟨b, m, ps, k, rfl, hb, ne, fun dd H' s' e' => ?_⟩)⟩
      refine ⟨false, S.mi, (fun z => nomatch z), fun _ => ⟨true, S.mm, fun _ x hx => ?_, fun z => nomatch z⟩⟩
      refine ⟨_, rfl, rfl, rfl, dd, _, .ref b, rfl, e', by simp [List.lookup], b, dy, _, rfl, s' _ _ eb, rfl, b, m, ps, k, rfl, hb.same s', fun D hD => ?_⟩
      refine ⟨(by show 2 ≤ sizeLine; decide), fun R hR np => ?_⟩
      have sD := Same.new (o := .lst (vls ps)) hD
      exact q R D _ (s'.free (sD.free hR)) (s'.trans (sD.trans (Same.new hR))) upd_same (Same.new hR _ _ upd_same)
    · obtain ⟨dy, T2, l3, r2, st2, tst2, eb, eT2, _⟩ := id hb
      refine ⟨.inl ⟨b, C, dy, fO, _, rfl, eb, oO, .inl rfl⟩, a, _, n, qs, j, rfl, ha, okq, .inr (.inr ⟨b, ps, k, rfl, hb, ok, fun nt => ?_, fun i p hi hp no dd H' s' e' => ?_⟩)⟩
      · cases ew : twP qs ps with
        | cons p0 t => exact absurd nt (tw_cons ew).1
        | nil =>
          obtain ⟨ok2, q⟩ := q1 ew
          refine ⟨ok2, fun p H' i hp s' ca => ⟨⟨_, rfl⟩, ?_⟩⟩
          have cb := ca.at
          obtain ⟨dz, T3, l4, r3, st3, tst3, ep, eT3, _⟩ := id cb
          refine ⟨_, rfl, p, dz, _, rfl, ep, rfl, p, n, _, i, rfl, cb, fun D hD => ?_⟩
          have sD := Same.new (o := .lst (vls (applP qs ps))) hD
          refine ⟨_, rfl, p, dz, _, rfl, sD _ _ ep, p, n, _, i, rfl, cb.same sD, ?_⟩
          refine ⟨(by show 3 ≤ sizeLine; decide), fun R hR np => ?_⟩
          exact q R D _ (s'.free (sD.free hR)) (s'.trans (sD.trans (Same.new hR))) upd_same (Same.new hR _ _ upd_same)
      · cases ew : twP qs ps with
        | nil => exact absurd hp (tw_nil ew p (List.mem_of_getElem? hi))
        | cons p0 t =>
          have epp := (tw_cons ew).2 i p hi hp no
          subst epp
          refine ⟨false, S.xi, (fun z => nomatch z), fun _ => ⟨false, S.xm, (fun z => nomatch z), fun _ => ⟨true, S.xx, fun _ x hx => ?_, fun z => nomatch z⟩⟩⟩
          refine ⟨_, rfl, rfl, rfl, dd, _, p.1, rfl, e', by simp [List.lookup], (by show 2 ≤ sizeLine; decide), fun R hR np => ?_⟩
          exact q2 p t ew R _ (s'.free hR) (s'.trans (Same.new hR)) upd_same
end
end G
set_option Elab.async false
set_option linter.all false
set_option maxRecDepth 100000
set_option maxHeartbeats 8000000
/-! YE: repr of data; == of changes; joined and joined again. -/
namespace G
open PySem PySem.Spec PyProof.Rows L2 NdefX StX
/-- all but lists stand for themselves; the list at the top is not counted -/
def okT : PyData → Bool
  | .list ds => okSAll ds
  | d => okS d
/-- what repr asks -/
structure Shw (d : PyData) : Prop where
  sh : d.showable = true
  dc : d.hasDict = true → okT d = true
  dp : d.depth ≤ 10
  ms : mass d ≤ 2000000
def rReprA (K : PySem.W.Frag) : List V → Hp → VK → Prop := fun vs H Q => ∃ (v : V) (d : PyData), vs = [v] ∧ Rp K H v d ∧ Shw d ∧ Q (.str d.shown) H
theorem call_reprA {X : Cx} (hg : X.A.guards = some []) (hu : X.A.units + 64 < cLine) : CallR X (.builtin "repr") (rReprA X.K) := by
  intro pins s σ H xs us Q I r h
  obtain ⟨v, d, rfl, hr, k, q⟩ := h
  have hz : mass d ≤ sizeLine := Nat.le_trans k.ms (by rw [sizeLine_eq]; omega)
  cases hr with
  | non =>
    obtain ⟨u, rfl, ru⟩ := vals1 r
    obtain rfl : u = Value.none := ru
    exact PySem.P.repr_of_none ⟨.str _, H, I.tok _, ⟨_, rfl⟩, q⟩
  | bl b =>
    obtain ⟨u, rfl, ru⟩ := vals1 r
    obtain rfl : u = Value.bool b := ru
    exact PySem.P.repr_of_bool ⟨.str _, H, I.tok _, ⟨_, rfl⟩, q⟩
  | int i =>
    obtain ⟨u, rfl, t, rfl⟩ := vals1 r
    have hi : i.natAbs.log2 < 1920 := of_decide_eq_true k.sh
    exact PySem.P.repr_of_int hi ⟨.str _, H, I.tok _, ⟨_, rfl⟩, q⟩
  | str z =>
    obtain ⟨u, rfl, t, rfl⟩ := vals1 r
    exact PySem.P.repr_of_str ⟨.str _, H, I.tok _, ⟨_, rfl⟩, q⟩ hz
  | @lst a ys ds ha hs =>
    obtain rfl := Vals.ref1 r
    obtain ⟨its, rv, ⟨o, n, ho, hc, _, hdt⟩, _⟩ := I.list (.of ha)
    obtain ⟨as, q1, z1⟩ := rp_readsAll I ds _ its hs rv
    have hd := k.dp
    have hsh : PyData.showableAll ds = true := k.sh
    have hm : 3 + massAll ds ≤ sizeLine := hz
    have hz2 := Nat.le_trans (list_text_le _) (Nat.le_trans (Nat.add_le_add_left (shown_all_le ds hsh) 3) hm)
    exact repr_top ho hc hdt q1 hsh (fun z => z1 (k.dc z)) hg (by omega) hz2 fun h' u tk k => ⟨.str _, H, I.kept k, ⟨u, rfl⟩, q⟩
  | @tup a ys ds ha hs =>
    obtain rfl := Vals.ref1 r
    obtain ⟨as, q1, z1⟩ := rp_reads I _ _ _ (Rp.tup ha hs) (show RelV (.ref a) (.ref a) from rfl)
    have hd := k.dp
    exact repr_of_reads' q1 k.sh (fun z => z1 (k.dc z)) hg (by omega) (fun _ _ e => e) (fun h' u tk k => ⟨.str _, H, I.kept k, ⟨u, rfl⟩, q⟩) (Nat.le_trans (shown_le _ k.sh) hz)
  | @dic a kvs ds ha hk hv =>
    obtain rfl := Vals.ref1 r
    obtain ⟨as, q1, z1⟩ := rp_reads I _ _ _ (Rp.dic ha hk hv) (show RelV (.ref a) (.ref a) from rfl)
    have hd := k.dp
    exact repr_of_reads' q1 k.sh (fun z => z1 (k.dc z)) hg (by omega) (fun _ _ e => e) (fun h' u tk k => ⟨.str _, H, I.kept k, ⟨u, rfl⟩, q⟩) (Nat.le_trans (shown_le _ k.sh) hz)

theorem eqv_refl : ∀ xs : List Tm, PyData.eqvAll (xs.map encT) (xs.map encT) = true
  | [] => by simp [PyData.eqvAll]
  | x :: xs => by
    rw [List.map_cons, PyData.eqvAll, encT_eqv, eqv_refl xs, decide_eq_true rfl]
    rfl
theorem tup_shaped {xs : List Tm} (h : ∀ x ∈ xs, TmOk x) : SeqAt.shaped (.tuple (xs.map encT)) = true := by
  obtain ⟨_, b2, b3⟩ := lay_all (ds := xs.map encT) fun d hd => by
    obtain ⟨x, hx, rfl⟩ := List.mem_map.mp hd
    exact encT_lay (h x hx)
  unfold SeqAt.shaped
  rw [PyData.canLay0, b2, decide_eq_true (show (PyData.tuple (xs.map encT)).depth ≤ 64 by rw [PyData.depth]; omega)]
  rfl
def spChE (C : Addr) : Sp := fun vs H Q _ => ∃ (a b : Addr) (n : Nat) (ps : List Pm) (j k : Nat), vs = [.ref a, .ref b] ∧ ChAt C H a n ps j ∧ ChAt C H b n ps k ∧ (∀ x ∈ kys ps, TmOk x) ∧ Q (.bl true) H
theorem ok_che {P : Program} {w : World} {K : PySem.W.Frag} {mg : Str → Option Value} {base : Heap} {f C : Addr} {fd : FuncData} (F : Fun K "__eq__" "Change.__eq__" (sCh 11) f fd) (c : ChC K C) (k : IsK K C) (gC : mg "Change" = some (.ref C)) (mi : mg "isinstance" = none) : FnOk P w K mg base CX0 1 f fd ["self", "other"] (spChE C) := by
  refine F.ok scChE (fun vs H Q E h => ?_) (fun cdv A outer s H vs Q E hr h => ?_)
  · obtain ⟨a, b, n, ps, j, k, rfl, _⟩ := h
    rfl
  · obtain ⟨a, b, n, ps, j, k2, rfl, ha, hb, okp, q⟩ := h
    obtain ⟨dx, T, l, r, st, tst, ea, eT, _, _, _, _, _, hp, _⟩ := id ha
    obtain ⟨dy, T2, l2, r2, st2, tst2, eb, eT2, _, _, _, _, _, hp2, _⟩ := id hb
    refine ⟨_, pss_one (ps_ret (pe_and (pe_callB call_isi (by rfl) mi (by decide +kernel) (pa_cons (pv 1) (pa_cons (pe_glob (v := .ref C) rfl gC rfl) pa_nil)))
      (pe_and (pe_cmpR op_eq (pe_fld (pv 0) rfl) (pe_fld (pv 1) rfl) (nomark _)) (pe_one (pe_cmpR (op_eqD hr.units) (pe_fld (pv 0) rfl) (pe_fld (pv 1) rfl) (nomark _)))))), ?_⟩
    refine ⟨_, rfl, _, _, _, _, _, rfl, .own C, .base (.ins eb c.cl k.ha k.hn k.htk k.hm), k.kit, _, rfl, iteT ?_⟩
    refine ⟨_, rfl, a, C, dx, _, _, rfl, ea, c.cl, c.n1, rfl, _, rfl, b, C, dy, _, _, rfl, eb, c.cl, c.n1, rfl, rfl, _, rfl, ?_⟩
    rw [show decide (V.int (n : Nat) = V.int (n : Nat)) = true from decide_eq_true rfl]
    refine iteT ⟨_, rfl, a, C, dx, _, _, rfl, ea, c.cl, c.n2, rfl, _, rfl, b, C, dy, _, _, rfl, eb, c.cl, c.n2, rfl, ?_⟩
    refine ⟨.tuple ((kys ps).map encT), .tuple ((kys ps).map encT), .tup (.of eT) (hp.dps okp), .tup (.of eT2) (hp2.dps okp), tup_shaped okp, tup_shaped okp, ?_⟩
    rw [show PyData.eqv (.tuple ((kys ps).map encT)) (.tuple ((kys ps).map encT)) = true by simp only [PyData.eqv]; exact eqv_refl _]
    exact q
/-! ### joined, and joined again -/
theorem atP_mem {qs : List Pm} {i : Int} (h0 : 0 ≤ i) (h1 : i < qs.length) : atP qs i ∈ qs := List.mem_of_getElem? (atP_at h0 h1)
theorem atP_appl {x y : List Pm} {i : Int} (h0 : 0 ≤ i) (h1 : i < y.length) : atP (applP x y) i = viaP x (atP y i) := by
  have e : (applP x y)[i.toNat]? = some (viaP x (atP y i)) := by
    unfold applP
    rw [List.getElem?_map, atP_at h0 h1]
    rfl
  have e2 := atP_at (qs := applP x y) h0 (by unfold applP; rw [List.length_map]; exact h1)
  exact Option.some.inj (e2.symm.trans e)
theorem appl_len (x y : List Pm) : (applP x y).length = y.length := List.length_map ..
theorem lo_of {n : Nat} {ps : List Pm} (ok : ChOk n (kys ps)) {p : Pm} (hp : p ∈ ps) {i : Int} (e : p.2 = .inl i) : 0 ≤ i ∧ i < n := ok.lo i (by rw [← e]; exact List.mem_map_of_mem hp)
theorem appl_assoc {x y z : List Pm} (ok : ChOk y.length (kys z)) : applP (applP x y) z = applP x (applP y z) := by
  show z.map (viaP (applP x y)) = (z.map (viaP y)).map (viaP x)
  rw [List.map_map]
  refine List.map_congr_left fun p hp => ?_
  obtain ⟨v, t⟩ := p
  cases t with
  | inl i =>
    obtain ⟨h0, h1⟩ := lo_of ok hp rfl
    exact atP_appl h0 h1
  | inr r => rfl
theorem mem_st {x y : List Pm} {j : Int} (h : Sum.inl j ∈ kys y) : (atP x j).2 ∈ kys (stP x y) := List.mem_map_of_mem (List.mem_map_of_mem (mem_ints.mpr h))
theorem appl_chok {n : Nat} {qs ps : List Pm} (okq : ChOk n (kys qs)) (ok : ChOk qs.length (kys ps)) (nt : NoTwice qs ps) : ChOk n (kys (applP qs ps)) := by
  refine ⟨okq.n80, ?_, ?_, fun i hi => ?_, appl_ok okq.ok ok⟩
  · have := ok.few
    unfold kys at this ⊢
    rw [List.length_map] at this
    rw [List.length_map, appl_len]
    exact this
  · have nd := ok.nd
    unfold kys applP List.Nodup at *
    rw [List.map_map, List.pairwise_map]
    rw [List.pairwise_map] at nd
    refine List.Pairwise.imp_of_mem (fun {p q} hp hq hne => ?_) nd
    obtain ⟨v, t⟩ := p
    obtain ⟨u, t2⟩ := q
    cases t with
    | inl i =>
      obtain ⟨i0, i1⟩ := lo_of ok hp rfl
      cases t2 with
      | inl j =>
        obtain ⟨j0, j1⟩ := lo_of ok hq rfl
        intro e
        have e' : (atP qs i).2 = (atP qs j).2 := e
        have a1 := atP_at i0 i1
        have a2 := atP_at j0 j1
        have ndq := okq.nd
        unfold kys at ndq
        have k1 : (qs.map (·.2))[i.toNat]? = some (atP qs i).2 := by rw [List.getElem?_map, a1]; rfl
        have k2 : (qs.map (·.2))[j.toNat]? = some (atP qs i).2 := by rw [List.getElem?_map, a2, e']; rfl
        obtain ⟨l1, g1⟩ := List.getElem?_eq_some_iff.mp k1
        obtain ⟨l2, g2⟩ := List.getElem?_eq_some_iff.mp k2
        have := (List.getElem_inj ndq).mp (g1.trans g2.symm)
        exact hne (by show (Sum.inl i : Tm) = .inl j; congr 1; omega)
      | inr r =>
        intro e
        have e' : (atP qs i).2 = .inr r := e
        refine nt (u, .inr r) (List.mem_filter.mpr ⟨hq, rfl⟩) ?_
        show (Sum.inr r : Tm) ∈ _
        rw [← e']
        exact mem_st (List.mem_map_of_mem (f := (·.2)) hp)
    | inr r =>
      cases t2 with
      | inl j =>
        intro e
        have e' : (Sum.inr r : Tm) = (atP qs j).2 := e
        refine nt (v, .inr r) (List.mem_filter.mpr ⟨hp, rfl⟩) ?_
        show (Sum.inr r : Tm) ∈ _
        rw [e']
        exact mem_st (List.mem_map_of_mem (f := (·.2)) hq)
      | inr r2 => exact hne
  · obtain ⟨p, hp, e⟩ := List.mem_map.mp hi
    obtain ⟨q, hq, rfl⟩ := List.mem_map.mp hp
    obtain ⟨v, t⟩ := q
    cases t with
    | inl j =>
      obtain ⟨h0, h1⟩ := lo_of ok hq rfl
      have e' : (atP qs j).2 = .inl i := e
      exact lo_of okq (atP_mem h0 h1) e'
    | inr r => cases e
theorem notwice_assoc {x y z : List Pm} (oky : ChOk x.length (kys y)) (okz : ChOk y.length (kys z)) (due : NoTwice x y) (last : NoTwice (applP x y) z) : NoTwice x (applP y z) := by
  intro p hp hm
  obtain ⟨hp1, hr⟩ := mem_news hp
  obtain ⟨q, hq, rfl⟩ := List.mem_map.mp hp1
  obtain ⟨s, hs, e⟩ := List.mem_map.mp hm
  obtain ⟨j, hj, rfl⟩ := List.mem_map.mp hs
  obtain ⟨p2, hp2, e2⟩ := List.mem_map.mp (mem_ints.mp hj)
  obtain ⟨q2, hq2, rfl⟩ := List.mem_map.mp hp2
  obtain ⟨v2, t2⟩ := q2
  cases t2 with
  | inr r => cases e2
  | inl i2 =>
    obtain ⟨h0, h1⟩ := lo_of okz hq2 rfl
    have e2' : (atP y i2).2 = .inl j := e2
    have my := atP_mem h0 h1
    have ea : (atP (applP x y) i2).2 = (atP x j).2 := by
      rw [atP_appl h0 h1]
      unfold viaP
      rw [e2']
    obtain ⟨v, t⟩ := q
    cases t with
    | inr r =>
      refine last (v, .inr r) (List.mem_filter.mpr ⟨hq, rfl⟩) ?_
      show (Sum.inr r : Tm) ∈ _
      have e' : (atP x j).2 = .inr r := e
      rw [← e', ← ea]
      exact mem_st (List.mem_map_of_mem (f := (·.2)) hq2)
    | inl i =>
      obtain ⟨g0, g1⟩ := lo_of okz hq rfl
      refine due (atP y i) (List.mem_filter.mpr ⟨atP_mem g0 g1, hr⟩) ?_
      have e' : (atP x j).2 = (atP y i).2 := e
      rw [← e']
      exact mem_st (by rw [← e2']; exact List.mem_map_of_mem my)
end G
set_option Elab.async false
set_option linter.all false
set_option maxRecDepth 100000
set_option maxHeartbeats 8000000
/-! YR: _law_right, from its end on. -/
namespace G
open PySem PySem.Spec PyProof.Rows L2 NdefX StX PySem.W
abbrev sRight : Stmt := topS 50
abbrev nRight : List Str := ["_law_before", "_law_lists", "_law_some", "_law_items", "_law_due", "_law_whole", "_law_both", "_law_more", "_law_last", "_law_far"]
theorem scRight : FnScope nRight ["_law_before", "_law_lists"] (defScope sRight) := ⟨rfl, rfl, rfl, by decide +kernel, rfl, by decide +kernel, by decide +kernel⟩
theorem ix_lst {K : PySem.W.Frag} {H : Hp} {l : Addr} {xs : List V} {j : Nat} {v : V} {Q : VK} (h : H l = some (.lst xs)) (e : xs[j]? = some v) (q : Q v H) : rIx K (.ref l) (.int ((j : Nat) : Int)) H Q := .inl ⟨l, _, _, _, rfl, rfl, .of h, atI_nat e, q⟩
theorem add_in {K : PySem.W.Frag} {C CI CM CX fO a b : Addr} {H : Hp} {n j k : Nat} {qs ps : List Pm} {Q : VK} {E : XK} (ha : ChAt C H a n qs j) (hb : ChAt C H b qs.length ps k) (okq : ChOk n (kys qs)) (ok : ChOk qs.length (kys ps)) (nt : NoTwice qs ps) (oO : OpO K C .Add fO)
    (q : ∀ (p : Addr) (H' : Hp) (i : Nat), H p = none → Same H H' → ChAt C H' p n (applP qs ps) i → Q (.ref p) H') :
    ∃ (a' dx : Addr) (fs : List (Str × V)), V.ref a = .ref a' ∧ H a' = some (.ins C dx fs) ∧ RightO K C .Add H (.ref b) ∧ spChA K C CI CM CX [.ref a', .ref b] H (fun v H' => (∃ r, v = .ref r) ∧ Q v H') E := by
  obtain ⟨dx, T, l2, r, st, tst, ea, _⟩ := id ha
  obtain ⟨dy, T2, l3, r2, st2, tst2, eb, _⟩ := id hb
  exact ⟨a, dx, _, rfl, ea, .inl ⟨b, C, dy, fO, _, rfl, eb, oO, .inl rfl⟩, a, _, n, qs, j, rfl, ha, okq.ok, .inr (.inr ⟨b, ps, k, rfl, hb, ok, fun _ => ⟨appl_chok okq ok nt, fun p H' i hp s' ca => ⟨⟨_, rfl⟩, q p H' i hp s' ca.at⟩⟩,
    fun i p hi hm _ => absurd hm (nt p (List.mem_of_getElem? hi))⟩)⟩
theorem iop_in {K : PySem.W.Frag} {C CI CM CX a b : Addr} {H : Hp} {n j k : Nat} {qs ps : List Pm} {Q : VK} (ha : ChAt C H a n qs j) (hb : ChAt C H b qs.length ps k) (okq : ChOk n (kys qs)) (ok : ChOk qs.length (kys ps)) (nt : NoTwice qs ps)
    (q : ∀ (p : Addr) (H' : Hp) (i : Nat), H p = none → Same H H' → ChAt C H' p n (applP qs ps) i → Q (.ref p) H') : rIop C (spChA K C CI CM CX) (.ref a) (.ref b) H Q := by
  obtain ⟨dx, T, l2, r, st, tst, ea, _⟩ := id ha
  obtain ⟨dy, T2, l3, r2, st2, tst2, eb, _⟩ := id hb
  exact ⟨a, b, dx, dy, _, _, rfl, rfl, ea, eb, a, _, n, qs, j, rfl, ha, okq.ok, .inr (.inr ⟨b, ps, k, rfl, hb, ok, fun _ => ⟨appl_chok okq ok nt, fun p H' i hp s' ca => ⟨⟨_, rfl⟩, q p H' i hp s' ca.at⟩⟩,
    fun i p hi hm _ => absurd hm (nt p (List.mem_of_getElem? hi))⟩)⟩
theorem list_eqv (xs : List Tm) : PyData.eqv (.list (xs.map encT)) (.list (xs.map encT)) = true := by
  simp only [PyData.eqv]
  exact eqv_refl _
/-- what _law_right asks -/
structure RgK (P : Program) (w : World) (K : PySem.W.Frag) (mg : Str → Option Value) (base : Heap) (C CI CM CX : Addr) : Prop where
  A : AskC P w K mg base C
  O : AddC P w K mg base C CI CM CX
  M : ∃ f fd, MkC P w K mg base C f fd
  J : ∃ f fd, FnOk P w K mg base CX0 1 f fd ["_law_one", "_law_other"] spJoined ∧ PySem.W.keepIn K (.ref f) = true ∧ Binds K fd ["_law_one", "_law_other"] [] ∧ mg "_law_joined" = some (.ref f)
  C_ : ∃ f fd, FnOk P w K mg base CX0 9 f fd ["_law_change", "_law_value"] (spCaught K C) ∧ PySem.W.keepIn K (.ref f) = true ∧ Binds K fd ["_law_change", "_law_value"] [] ∧ mg "_law_caught" = some (.ref f)
  E : ∃ f fd, EqO K C f ∧ Binds K fd ["self", "other"] [] ∧ FnOk P w K mg base CX0 1 f fd ["self", "other"] (spChE C)
  nf : PySem.W.notFirst K C (.ref C) = true
  T : ∃ p f fd, PropOf K C "total" p f ∧ Binds K fd ["self"] [] ∧ FnOk P w K mg base CX0 1 f fd ["self"] (spChT C)
  mp : mg "repr" = none
abbrev xRg (P : Program) (w : World) (K : PySem.W.Frag) (mg : Str → Option Value) (base : Heap) (f : Addr) (cdv : Value) (A : Around) (outer : List Env) (s : Shared) (H : Hp) (E : XK) : Cx := (cxOf CX0 P w K mg base nRight "_law_right" (defScope sRight) f cdv A outer s H E).nox
abbrev rmRg (f : Addr) (cdv : Value) (A : Around) (s : Shared) : Prop := Room 9 (A.deeper (envOfC "_law_right" (defScope sRight) s.heap.objs.size f cdv))
/-- the three lists, and the changes that they make -/
structure RgH (C : Addr) (H : Hp) (n : Nat) (L S l0 l1 l2 c0 c1 c2 : Addr) (x y z : List Pm) (k0 k1 k2 : Nat) : Prop where
  eL : H L = some (.lst [.ref l0, .ref l1, .ref l2])
  eS : H S = some (.lst [.ref c0, .ref c1, .ref c2])
  e0 : H l0 = some (.lst (vls x))
  e1 : H l1 = some (.lst (vls y))
  e2 : H l2 = some (.lst (vls z))
  h0 : ChAt C H c0 n x k0
  h1 : ChAt C H c1 x.length y k1
  h2 : ChAt C H c2 y.length z k2
  px : PsAt H x
  py : PsAt H y
  pz : PsAt H z
theorem RgH.same {C : Addr} {H H' : Hp} {n : Nat} {L S l0 l1 l2 c0 c1 c2 : Addr} {x y z : List Pm} {k0 k1 k2 : Nat} (h : RgH C H n L S l0 l1 l2 c0 c1 c2 x y z k0 k1 k2) (s : Same H H') : RgH C H' n L S l0 l1 l2 c0 c1 c2 x y z k0 k1 k2 :=
  ⟨s _ _ h.eL, s _ _ h.eS, s _ _ h.e0, s _ _ h.e1, s _ _ h.e2, h.h0.same s, h.h1.same s, h.h2.same s, h.px.same s, h.py.same s, h.pz.same s⟩
section
variable {P : Program} {w : World} {K : PySem.W.Frag} {mg : Str → Option Value} {base : Heap} {f C CI CM CX : Addr} {fd : FuncData}
theorem rg_seven {cdv : Value} {A : Around} {outer : List Env} {s : Shared} {H : Hp} {E : XK} (R : RgK P w K mg base C CI CM CX) (hr : rmRg f cdv A s) :
    ∃ t, PSs (xRg P w K mg base f cdv A outer s H E) ((defBody sRight).drop 7) t ∧
      ∀ (De : Ends) (x3 x5 x6 x7 x8 x9 : Option V) (n : Nat) (L S l0 l1 l2 c0 c1 c2 U D : Addr) (x y z : List Pm) (k0 k1 k2 : Nat) (H1 : Hp), RgH C H1 n L S l0 l1 l2 c0 c1 c2 x y z k0 k1 k2 → ChOk n (kys x) → ChOk x.length (kys y) → ChOk y.length (kys z) → NoTwice x y →
        H1 U = some (.lst [.str "told", .ref D]) → H1 D = some (.lst (vls (applP x y))) → (∀ H', Same H1 H' → De.rt (.bl true) H') →
        t De [some (.int (n : Nat)), some (.ref L), some (.ref S), x3, some (.ref U), x5, x6, x7, x8, x9] H1 := by
  obtain ⟨fF, fdF, mF, bF, GF, GH⟩ := R.A.F
  obtain ⟨fO, fdO, oO, bO, GO⟩ := R.O.o
  obtain ⟨fJ, fdJ, GJ, kJ, bJ, gJ⟩ := R.J
  obtain ⟨fE, fdE, eE, bE, GE⟩ := R.E
  have c := R.A.c
  have hr1 := hr.mono (show 1 ≤ 9 by decide)
  have hr8 := hr.mono (show 8 ≤ 9 by decide)
  refine ⟨_, pss_cons (ps_par (i := 6) (j := 7) (by rfl) scRight.nd rfl rfl (by decide) rfl rfl (pa_cons (pe_ix (r := rIx K) ix_seq (pv 2) pe_int (fun _ _ => rfl)) (pa_cons (pe_ix (r := rIx K) ix_seq (pv 2) pe_int (fun _ _ => rfl)) pa_nil)) (by rfl))
      (pss_cons (ps_aug (i := 6) scRight.nd rfl (.inl rfl) (pv 7) (ip_own oO R.O.i bO GO hr8 pass00))
      (pss_cons (ps_if (PW.pt (pw_or (pt_cmpR (op_neD hr.units) (pe_meth0 (pv 6) c.cl mF GF hr1 bF .nil pass0) (pe_ix (r := rIx K) ix_seq (pv 4) pe_int (fun _ _ => rfl)) (nomark _)) (pw_or1 (pt_cmpR (op_neD hr.units) (pe_meth0 (pe_ix (r := rIx K) ix_seq (pv 2) pe_int (fun _ _ => rfl)) c.cl mF GF hr1 bF .nil pass0) (pe_ix (r := rIx K) ix_seq (pv 1) pe_int (fun _ _ => rfl)) (nomark _))))) (pss_one (ps_ret pe_bl)) pss_nil)
      (pss_cons (ps_par (i := 8) (j := 9) (by rfl) scRight.nd rfl rfl (by decide) rfl rfl (pa_cons (pe_call GJ hr1 rfl gJ kJ bJ .nil pass0 (pa_cons (pe_ix (r := rIx K) ix_seq (pv 4) pe_int (fun _ _ => rfl)) (pa_cons (pe_ix (r := rIx K) ix_seq (pv 1) pe_int (fun _ _ => rfl)) pa_nil))) (pa_cons (pe_call GJ hr1 rfl gJ kJ bJ .nil pass0 (pa_cons (pe_ix (r := rIx K) ix_seq (pv 1) pe_int (fun _ _ => rfl)) (pa_cons (pe_ix (r := rIx K) ix_seq (pv 1) pe_int (fun _ _ => rfl)) pa_nil))) pa_nil)) (by rfl))
      (pss_cons (ps_if (PW.pt (pw_and (pt_cmpR op_eq (pe_ix (r := rIx K) ix_seq (pv 8) pe_int (fun _ _ => rfl)) pe_str (nomark _)) (pw_and1 (pt_cmpR op_eq (pe_ix (r := rIx K) ix_seq (pv 9) pe_int (fun _ _ => rfl)) pe_str (nomark _)))))
        (pss_one (ps_ret (pe_and (pe_cmpR (op_eqB eE bE GE hr1 pass0) (pe_addS (W := fun _ => E0) oO bO GO hr8 (fun ρ pins H s e s' I c => pass00 pins ρ H s e s' I c) (pv 6) (pe_ix (r := rIx K) ix_seq (pv 2) pe_int (fun _ _ => rfl))) (pe_addS (W := fun _ => E0) oO bO GO hr8 (fun ρ pins H s e s' I c => pass00 pins ρ H s e s' I c) (pe_ix (r := rIx K) ix_seq (pv 2) pe_int (fun _ _ => rfl)) (pe_addS (W := fun _ => E0) oO bO GO hr8 (fun ρ pins H s e s' I c => pass00 pins ρ H s e s' I c) (pe_ix (r := rIx K) ix_seq (pv 2) pe_int (fun _ _ => rfl)) (pe_ix (r := rIx K) ix_seq (pv 2) pe_int (fun _ _ => rfl)))) (nomark _))
          (pe_one (pe_cmpR (op_eqD hr.units) (pe_meth0 (pe_addS (W := fun _ => E0) oO bO GO hr8 (fun ρ pins H s e s' I c => pass00 pins ρ H s e s' I c) (pv 6) (pe_ix (r := rIx K) ix_seq (pv 2) pe_int (fun _ _ => rfl))) c.cl mF GF hr1 bF .nil pass0) (pe_ix (r := rIx K) ix_seq (pv 8) pe_int (fun _ _ => rfl)) (nomark _)))))) pss_nil)
      (pss_one (ps_ret pe_bl)))))), ?_⟩
  intro De x3 x5 x6 x7 x8 x9 n L S l0 l1 l2 c0 c1 c2 U D x y z k0 k1 k2 H1 h okx oky okz nt eU eD q
  have okJ := appl_chok okx oky nt
  refine ⟨_, rfl, ix_lst (j := 0) h.eS rfl ⟨_, rfl, ix_lst (j := 1) h.eS rfl ⟨_, _, rfl, ?_⟩⟩⟩
  refine ⟨_, rfl, _, rfl, iop_in h.h0 h.h1 okx oky nt fun b0 H2 i0 hb0 s2 hb => ?_⟩
  have h2 := h.same s2
  obtain ⟨db, Tb, lb, rb, stb, tsb, eb, _⟩ := id hb
  have pJ := appl_at h2.px h2.py oky
  refine ⟨_, rfl, b0, db, _, rfl, eb, rfl, b0, n, _, i0, rfl, hb, fun p hp => ?_⟩
  have sp := Same.new (o := .lst (vls (applP x y))) hp
  have ep : (upd H2 p (.lst (vls (applP x y)))) p = some (.lst (vls (applP x y))) := upd_same
  have h3 := h2.same sp
  have hb3 := hb.same sp
  have s3 := s2.trans sp
  have pJ3 := pJ.same sp
  have eU3 := s3 _ _ eU
  have eD3 := s3 _ _ eD
  generalize upd H2 p (.lst (vls (applP x y))) = H3 at ep h3 hb3 s3 pJ3 eU3 eD3 ⊢
  refine ⟨_, rfl, ix_lst (j := 1) eU3 rfl ⟨.list ((kys (applP x y)).map encT), .list ((kys (applP x y)).map encT), .lst (.of ep) (pJ3.dps okJ.ok), .lst (.of eD3) (pJ3.dps okJ.ok), encTs_shaped okJ.ok, encTs_shaped okJ.ok, _, rfl, ?_⟩⟩
  rw [list_eqv]
  refine iteF ?_
  obtain ⟨d0, T0, lq, rq, stq, tsq, ec0, _⟩ := id h3.h0
  refine ⟨_, rfl, ix_lst (j := 0) h3.eS rfl ⟨c0, d0, _, rfl, ec0, rfl, c0, n, _, k0, rfl, h3.h0, fun p4 hp4 => ?_⟩⟩
  have s4' := Same.new (o := .lst (vls x)) hp4
  have ep4 : (upd H3 p4 (.lst (vls x))) p4 = some (.lst (vls x)) := upd_same
  have h4 := h3.same s4'
  have hb4 := hb3.same s4'
  have s4 := s3.trans s4'
  have pJ4 := pJ3.same s4'
  have eU4 := s4' _ _ eU3
  have eD4 := s4' _ _ eD3
  generalize upd H3 p4 (.lst (vls x)) = H4 at ep4 h4 hb4 s4 pJ4 eU4 eD4 ⊢
  refine ⟨_, rfl, ix_lst (j := 0) h4.eL rfl ⟨.list ((kys x).map encT), .list ((kys x).map encT), .lst (.of ep4) (h4.px.dps okx.ok), .lst (.of h4.e0) (h4.px.dps okx.ok), encTs_shaped okx.ok, encTs_shaped okx.ok, _, rfl, ?_⟩⟩
  rw [list_eqv]
  refine iteF ?_
  -- last, far
  refine ⟨_, rfl, ix_lst (j := 1) eU4 rfl ⟨_, rfl, ix_lst (j := 2) h4.eL rfl ⟨D, l2, applP x y, z, rfl, eD4, h4.e2, pJ4, h4.pz, okJ.ok, by rw [appl_len]; exact okz, fun R1 H5 hR1 s5' j1 => ?_⟩⟩⟩
  have h5 := h4.same s5'
  refine ⟨_, rfl, ix_lst (j := 1) h5.eL rfl ⟨_, rfl, ix_lst (j := 2) h5.eL rfl ⟨l1, l2, y, z, rfl, h5.e1, h5.e2, h5.py, h5.pz, oky.ok, okz, fun R2 H6 hR2 s6' j2 => ?_⟩⟩⟩
  refine ⟨_, _, rfl, ?_⟩
  have s46 := s5'.trans s6'
  have h6 := h4.same s46
  have s6 := s4.trans s46
  have hb6 := hb4.same s46
  have j1' : JnAt H6 R1 (applP x y) z := by
    rcases j1 with ⟨t1, D1, a1, a2⟩ | ⟨p0, t, t1, a1⟩
    · exact .inl ⟨t1, D1, s6' _ _ a1, s6' _ _ a2⟩
    · exact .inr ⟨p0, t, t1, s6' _ _ a1⟩
  rcases j1'.symm with ⟨p0, t, t1, a1⟩ | ⟨t1, D1, a1, a2⟩
  · refine ⟨_, rfl, ix_lst (j := 0) a1 rfl ⟨rfl, _, rfl, ?_⟩⟩
    rw [show decide (V.str "taken" = V.str "told") = false by decide +kernel]
    exact iteF (iteF (q H6 s6))
  refine ⟨_, rfl, ix_lst (j := 0) a1 rfl ⟨rfl, _, rfl, ?_⟩⟩
  rw [show decide (V.str "told" = V.str "told") = true from decide_eq_true rfl]
  refine iteT ?_
  rcases j2.symm with ⟨p0, t, t2, b1⟩ | ⟨t2, D2, b1, b2⟩
  · refine ⟨_, rfl, ix_lst (j := 0) b1 rfl ⟨rfl, _, rfl, ?_⟩⟩
    rw [show decide (V.str "taken" = V.str "told") = false by decide +kernel]
    exact iteF (q H6 s6)
  refine ⟨_, rfl, ix_lst (j := 0) b1 rfl ⟨rfl, _, rfl, ?_⟩⟩
  rw [show decide (V.str "told" = V.str "told") = true from decide_eq_true rfl]
  refine iteT ?_
  have nt1 := tw_nil t1
  have nt2 := tw_nil t2
  have nt3 := notwice_assoc oky okz nt nt1
  have okW := appl_chok oky okz nt2
  have okJz : ChOk (applP x y).length (kys z) := by rw [appl_len]; exact okz
  have okL := appl_chok okJ okJz nt1
  have h62 : ∀ {H' : Hp}, Same H6 H' → ChAt C H' c2 (applP x y).length z k2 := fun s' => by rw [appl_len]; exact h6.h2.same s'
  refine ⟨_, rfl, _, rfl, ix_lst (j := 2) h6.eS rfl (add_in hb6 (h62 fun _ _ e => e) okJ okJz nt1 oO fun e1 H7 i1 he1 s7 hc1 => ?_)⟩
  have h7 := h6.same s7
  refine ⟨_, rfl, ix_lst (j := 0) h7.eS rfl ⟨_, rfl, ix_lst (j := 1) h7.eS rfl ⟨_, rfl, ix_lst (j := 2) h7.eS rfl (add_in h7.h1 h7.h2 oky okz nt2 oO fun e2 H8 i2 he2 s8 hc2 => ?_)⟩⟩⟩
  have h8 := h7.same s8
  have hc2' : ChAt C H8 e2 x.length (applP y z) i2 := hc2
  refine add_in h8.h0 hc2' okx okW nt3 oO fun e3 H9 i3 he3 s9 hc3 => ?_
  have hc1' := (hc1.same s8).same s9
  rw [← appl_assoc okz] at hc3
  obtain ⟨d1, T1, q1, r1, st1, ts1, ee1, _⟩ := id hc1'
  obtain ⟨d3, T3, q3, r3, st3, ts3, ee3, _⟩ := id hc3
  refine ⟨e1, d1, _, .ref C, rfl, ee1, .ins ee3, R.nf, e1, e3, n, _, i1, i3, rfl, hc1', hc3, okL.ok, true, rfl, ?_⟩
  refine ⟨_, rfl, iteT ?_⟩
  have s69 := (Same.trans (show Same H6 H7 from s7) s8).trans s9
  have h9 := h6.same s69
  refine ⟨_, rfl, _, rfl, ix_lst (j := 2) h9.eS rfl (add_in (hb6.same s69) (h62 s69) okJ okJz nt1 oO fun e4 HA i4 he4 sA hc4 => ?_)⟩
  obtain ⟨d4, T4, q4, r4, st4, ts4, ee4, eT4, _, _, _, _, _, hp4', _⟩ := id hc4
  refine ⟨e4, d4, _, rfl, ee4, rfl, e4, n, _, i4, rfl, hc4, fun p9 hp9 => ?_⟩
  have s9A := Same.new (o := .lst (vls (applP (applP x y) z))) hp9
  have sAll := s69.trans (Same.trans (show Same H9 HA from sA) s9A)
  refine ⟨_, rfl, ix_lst (j := 1) (sAll _ _ a1) rfl ⟨.list ((kys (applP (applP x y) z)).map encT), .list ((kys (applP (applP x y) z)).map encT), .lst (.of upd_same) ((hp4'.same s9A).dps okL.ok), .lst (.of (sAll _ _ a2)) ((hp4'.same s9A).dps okL.ok), encTs_shaped okL.ok, encTs_shaped okL.ok, ?_⟩⟩
  rw [list_eqv]
  exact q _ (s6.trans sAll)
end
end G
set_option Elab.async false
set_option linter.all false
set_option maxRecDepth 100000
set_option maxHeartbeats 8000000
/-! YS: _law_right. -/
namespace G
open PySem PySem.Spec PyProof.Rows L2 NdefX StX PySem.W
theorem small_logI {i : Int} (h1 : -10000 ≤ i) (h2 : i ≤ 10000) : decide (i.natAbs.log2 < 1920) = true := by
  refine decide_eq_true ?_
  have h : i.natAbs < 2 ^ 1920 := Nat.lt_of_lt_of_le (show i.natAbs < 2 ^ 14 by omega) (Nat.pow_le_pow_right (by decide) (by decide))
  by_cases e : i.natAbs = 0
  · rw [e]
    decide
  · exact (Nat.log2_lt e).mpr h
theorem name_reprT {z : Str} (h : NameZ z) : (reprText z).length ≤ 200 := by
  have h1 := StrLaws.reprText_len z fun c hc => Nat.lt_of_le_of_lt (h.1 c hc).2 (by decide)
  have := h.2.2
  omega
/-- an item that is shown shortly -/
structure ShT (d : PyData) : Prop where
  sh : d.showable = true
  nd : d.hasDict = false
  dp : d.depth ≤ 2
  ms : mass d ≤ 6000
theorem shT_of {x : Tm} (ok : TmOk x) (lo : ∀ i : Int, x = .inl i → -10000 ≤ i ∧ i ≤ 10000) : ShT (encT x) := by
  cases x with
  | inl i =>
    obtain ⟨h1, h2⟩ := lo i rfl
    exact ⟨small_logI h1 h2, rfl, Nat.zero_le _, by show 1921 ≤ 6000; decide⟩
  | inr r =>
    cases r with
    | inl z => exact ⟨rfl, rfl, Nat.zero_le _, Nat.le_trans (name_reprT (ok _ rfl)) (by decide)⟩
    | inr js =>
      obtain ⟨l1, l3, b⟩ := ok _ rfl
      have hs : ∀ ks : List Int, (∀ j ∈ ks, -9999 ≤ j ∧ j ≤ 9999) → PyData.showableAll (ks.map PyData.int) = true ∧ PyData.hasDictAll (ks.map PyData.int) = false ∧ massAll (ks.map PyData.int) ≤ 1923 * ks.length := fun ks hb => by
        induction ks with
        | nil => exact ⟨rfl, rfl, Nat.zero_le _⟩
        | cons j ks ih =>
          obtain ⟨i1, i2, i3⟩ := ih fun j hj => hb j (List.mem_cons_of_mem _ hj)
          obtain ⟨j1, j2⟩ := hb j List.mem_cons_self
          refine ⟨?_, ?_, ?_⟩
          · show (decide (j.natAbs.log2 < 1920) && PyData.showableAll (ks.map PyData.int)) = true
            rw [small_logI (by omega) (by omega), i1]
            rfl
          · show (false || PyData.hasDictAll (ks.map PyData.int)) = false
            rw [i2]
            rfl
          · show 1921 + 2 + massAll (ks.map PyData.int) ≤ 1923 * (ks.length + 1)
            omega
      obtain ⟨s1, s2, s3⟩ := hs js b
      have e7 : (reprText "group").length ≤ 20 := by decide +kernel
      refine ⟨?_, ?_, ?_, ?_⟩
      · show (true && (PyData.showableAll (js.map PyData.int) && true)) = true
        rw [s1]
        rfl
      · show (false || (PyData.hasDictAll (js.map PyData.int) || false)) = false
        rw [s2]
        rfl
      · simp [encT, encR, PyData.depth, PyData.depthAll, depth_intsT]
      · show 4 + ((reprText "group").length + 2 + (4 + massAll (js.map PyData.int) + 2 + 0)) ≤ 6000
        omega
theorem shT_all : ∀ {xs : List Tm}, (∀ x ∈ xs, ShT (encT x)) → PyData.showableAll (xs.map encT) = true ∧ PyData.hasDictAll (xs.map encT) = false ∧ PyData.depthAll (xs.map encT) ≤ 2 ∧ massAll (xs.map encT) ≤ 6002 * xs.length
  | [], _ => ⟨rfl, rfl, Nat.zero_le _, Nat.zero_le _⟩
  | x :: xs, h => by
    obtain ⟨i1, i2, i3, i4⟩ := shT_all fun y hy => h y (List.mem_cons_of_mem _ hy)
    have hx := h x List.mem_cons_self
    refine ⟨?_, ?_, ?_, ?_⟩
    · show (PyData.showable (encT x) && PyData.showableAll (xs.map encT)) = true
      rw [hx.sh, i1]
      rfl
    · show (PyData.hasDict (encT x) || PyData.hasDictAll (xs.map encT)) = false
      rw [hx.nd, i2]
      rfl
    · show max (PyData.depth (encT x)) (PyData.depthAll (xs.map encT)) ≤ 2
      exact Nat.max_le.mpr ⟨hx.dp, i3⟩
    · show mass (encT x) + 2 + massAll (xs.map encT) ≤ 6002 * (xs.length + 1)
      have := hx.ms
      omega
theorem ch_sh {n : Nat} {ks : List Tm} (ok : ChOk n ks) : ∀ x ∈ ks, ShT (encT x) := fun x hx => shT_of (ok.ok x hx) fun i e => by
  subst e
  have := ok.lo i hx
  have := ok.n80
  omega
/-- told: shown -/
def toldD (ks : List Tm) (n : Nat) : PyData := .list [.str "told", .list (ks.map encT), .int (n : Nat)]
theorem told_rp {K : PySem.W.Frag} {H : Hp} {R D : Addr} {n : Nat} {ps : List Pm} (e : H R = some (.lst [.str "told", .ref D, .int (n : Nat)])) (e2 : H D = some (.lst (vls ps))) (hp : PsAt H ps) : Rp K H (.ref R) (toldD (kys ps) n) := .lst e (.cons (.str _) (.cons (.lst e2 hp.rps) (.cons (.int _) .nil)))
theorem told_shw {n m : Nat} {ks : List Tm} (ok : ChOk m ks) (hn : n ≤ 80) : Shw (toldD ks n) := by
  obtain ⟨s1, s2, s3, s4⟩ := shT_all (ch_sh ok)
  have few := ok.few
  have e7 : (reprText "told").length ≤ 20 := by decide +kernel
  refine ⟨?_, fun z => ?_, ?_, ?_⟩
  · show (true && (PyData.showableAll (ks.map encT) && (decide (((n : Nat) : Int).natAbs.log2 < 1920) && true))) = true
    rw [s1, small_logI (by omega) (by omega)]
    rfl
  · have : (false || (PyData.hasDictAll (ks.map encT) || (false || false))) = true := z
    rw [s2] at this
    cases this
  · show max 0 (max (PyData.depthAll (ks.map encT) + 1) (max 0 0)) + 1 ≤ 10
    omega
  · show 3 + ((reprText "told").length + 2 + (3 + massAll (ks.map encT) + 2 + (1921 + 2 + 0))) ≤ 2000000
    omega
def takenD (x : Tm) : PyData := .list [.str "taken", encT x]
theorem taken_rp {K : PySem.W.Frag} {H : Hp} {R : Addr} {p : Pm} (e : H R = some (.lst [.str "taken", p.1])) (hp : TmAt H p.1 p.2) : Rp K H (.ref R) (takenD p.2) := .lst e (.cons (.str _) (.cons hp.rp .nil))
theorem taken_shw {x : Tm} (h : ShT (encT x)) : Shw (takenD x) := by
  have e7 : (reprText "taken").length ≤ 20 := by decide +kernel
  have h1 := h.sh
  have h2 := h.nd
  have h3 := h.dp
  have h4 := h.ms
  refine ⟨?_, fun z => ?_, ?_, ?_⟩
  · show (true && (PyData.showable (encT x) && true)) = true
    rw [h1]
    rfl
  · have : (false || (PyData.hasDict (encT x) || false)) = true := z
    rw [h2] at this
    cases this
  · show max 0 (max (PyData.depth (encT x)) 0) + 1 ≤ 10
    omega
  · show 3 + ((reprText "taken").length + 2 + (mass (encT x) + 2 + 0)) ≤ 2000000
    omega
theorem ChN.put {C S : Addr} {H : Hp} {a : Addr} {n : Nat} {ps : List Pm} {k : Nat} {xs ys : List V} (h : ChN C (fun a => a ≠ S) H a n ps k) (e : H S = some (.lst xs)) : ChN C (fun a => a ≠ S) (upd H S (.lst ys)) a n ps k := by
  obtain ⟨dx, T, l, r, st, ts, e1, e2, e3, e4, e5, e6, e7, e8, n1, n2, n3, n4⟩ := h
  have up : ∀ a o, a ≠ S → H a = some o → (upd H S (.lst ys)) a = some o := fun a o ne e => (upd_ne ne).trans e
  exact ⟨dx, T, l, r, st, ts, up _ _ (fun z => by rw [z, e] at e1; cases e1) e1, up _ _ n1 e2, up _ _ n2 e3, up _ _ n3 e4, up _ _ n4 e5, e6, e7, e8.at fun t xs' e' => up _ _ (fun z => by rw [z, e] at e'; cases e') e', n1, n2, n3, n4⟩
def spRight : Sp := fun vs H Q _ => ∃ (n : Nat) (L l0 l1 l2 : Addr) (x y z : List Pm), vs = [.int (n : Nat), .ref L] ∧ H L = some (.lst [.ref l0, .ref l1, .ref l2]) ∧ H l0 = some (.lst (vls x)) ∧ H l1 = some (.lst (vls y)) ∧ H l2 = some (.lst (vls z)) ∧ PsAt H x ∧ PsAt H y ∧ PsAt H z ∧
  ChOk n (kys x) ∧ ChOk x.length (kys y) ∧ ChOk y.length (kys z) ∧ ∀ H', Same H H' → Q (.bl true) H'
section
variable {P : Program} {w : World} {K : PySem.W.Frag} {mg : Str → Option Value} {base : Heap} {f C CI CM CX : Addr} {fd : FuncData}
theorem ok_right (F : Fun K "_law_right" "_law_right" sRight f fd) (R : RgK P w K mg base C CI CM CX) : FnG P w K mg base CX0 10 f fd ["_law_before", "_law_lists"] spRight := by
  refine FnG.of_body F scRight (fun vs H Q E h => ?_) (fun cdv A outer s H vs Q E hg hr h => ?_)
  · obtain ⟨n, L, l0, l1, l2, x, y, z, rfl, _⟩ := h
    rfl
  · obtain ⟨n, L, l0, l1, l2, x, y, z, rfl, eL, e0, e1, e2, px, py, pz, okx, oky, okz, q⟩ := h
    obtain ⟨tl, pl, ql⟩ := rg_seven (outer := outer) (H := H) (E := E) R hr
    obtain ⟨fF, fdF, mF, bF, GF, GH⟩ := R.A.F
    obtain ⟨fM, fdM, MM⟩ := R.M
    obtain ⟨fJ, fdJ, GJ, kJ, bJ, gJ⟩ := R.J
    obtain ⟨fC, fdC, GC, kC, bC, gC⟩ := R.C_
    obtain ⟨pT, fT, fdT, mT, bT, GT⟩ := R.T
    have c := R.A.c
    have hr1 := hr.mono (show 1 ≤ 9 by decide)
    have hr2 := hr.mono (show 1 + 1 ≤ 9 by decide)
    have hr7 := hr.mono (show 6 + 1 ≤ 9 by decide)
    refine ⟨_, pss_cons (ps_set (i := 2) scRight.nd rfl (.inl rfl) (pe_lst (pa_cons (pe_make MM.M MM.G hr7 rfl MM.g MM.b .nil pass0 (pa_cons (pv 0) (pa_cons (pe_ix (r := rIx K) ix_seq (pv 1) pe_int (fun _ _ => rfl)) pa_nil))) pa_nil)))
      (pss_cons (ps_for PassesOwn.never rfl (pi_list (pe_slice (r := rSlL K) sl_list (pv 1) (po_some pe_int) po_none)) (pg_name (i := 3) scRight.nd rfl (.inl rfl)) (pss_one (ps_expr (pe_bm PySem.F.plainAttrs_list PySem.F.slot_list_append PySem.F.type_list_append mt_append (pv 2) (pa_cons
          (pe_make MM.M MM.G hr7 rfl MM.g MM.b .nil pass0 (pa_cons (pe_prop (pe_ix (r := rIx K) ix_seq (pv 2) (pe_un un_neg pe_int) (fun _ _ => rfl)) c.cl mT GT hr2 bT .nil pass0 rfl) (pa_cons (pv 3) pa_nil))) pa_nil)))))
      (pss_cons (ps_set (i := 4) scRight.nd rfl (.inl rfl) (pe_call GJ hr1 rfl gJ kJ bJ .nil pass0 (pa_cons (pe_ix (r := rIx K) ix_seq (pv 1) pe_int (fun _ _ => rfl)) (pa_cons (pe_ix (r := rIx K) ix_seq (pv 1) pe_int (fun _ _ => rfl)) pa_nil))))
      (pss_cons (ps_set (i := 5) scRight.nd rfl (.inl rfl) (pe_ifExp (pt_cmpR op_eq (pe_ix (r := rIx K) ix_seq (pv 4) pe_int (fun _ _ => rfl)) pe_str (nomark _)) (pe_op op_cat (pv 4) (pe_lst (pa_cons (pv 0) pa_nil))) (pv 4)))
      (pss_cons (ps_if (pt_cmpR op_ne (pe_callB (call_reprA hg hr.units) (by rfl) R.mp (by decide +kernel) (pa_cons (pe_call GC hr rfl gC kC bC .nil pass0 (pa_cons (pe_ix (r := rIx K) ix_seq (pv 2) pe_int (fun _ _ => rfl)) (pa_cons (pe_ix (r := rIx K) ix_seq (pv 2) pe_int (fun _ _ => rfl)) pa_nil))) pa_nil)) (pe_callB (call_reprA hg hr.units) (by rfl) R.mp (by decide +kernel) (pa_cons (pv 5) pa_nil)) (nomark _)) (pss_one (ps_ret pe_bl)) pss_nil)
      (pss_cons (ps_if (PW.pt (pw_or (pt_cmpR (op_neD hr.units) (pe_meth0 (pe_ix (r := rIx K) ix_seq (pv 2) pe_int (fun _ _ => rfl)) c.cl mF GF hr1 bF .nil pass0) (pe_ix (r := rIx K) ix_seq (pv 1) pe_int (fun _ _ => rfl)) (nomark _)) (pw_or1 (pt_cmpR (op_neD hr.units) (pe_meth0 (pe_ix (r := rIx K) ix_seq (pv 2) pe_int (fun _ _ => rfl)) c.cl mF GF hr1 bF .nil pass0) (pe_ix (r := rIx K) ix_seq (pv 1) pe_int (fun _ _ => rfl)) (nomark _))))) (pss_one (ps_ret pe_bl)) pss_nil)
      (pss_cons (ps_if (pt_cmpR op_ne (pe_ix (r := rIx K) ix_seq (pv 4) pe_int (fun _ _ => rfl)) pe_str (nomark _)) (pss_one (ps_ret pe_bl)) pss_nil) pl)))))), ?_⟩
    refine ⟨_, rfl, _, rfl, ix_lst (j := 0) eL rfl ?_⟩
    refine ch_made (R := fun a H' => _) e0 px okx fun c0 H1 _ k0 hc0 s1 h0 _ _ => ?_
    have h0 := h0.at
    refine ⟨(by show 1 ≤ sizeLine; decide), fun S hS => ?_⟩
    have fS : H S = none := s1.free hS
    have s1S := Same.new (o := .lst [.ref c0]) hS
    have eS : (upd H1 S (.lst [.ref c0])) S = some (.lst [.ref c0]) := upd_same
    -- the others
    refine ⟨_, rfl, _, rfl, L, _, rfl, .of (s1S _ _ (s1 _ _ eL)), fun p1 hp1 => ?_⟩
    rw [show cutV [V.ref l0, .ref l1, .ref l2] (some 1) none = [V.ref l1, .ref l2] from (cutV_fr _ 1).trans rfl]
    have nSp : S ≠ p1 := ne_of_none eS hp1
    refine ⟨p1, rfl, ⟨_, .of upd_same⟩, ?_⟩
    refine for_list (xs := [V.ref l1, .ref l2]) (fun i σ H2 => Same H1 H2 ∧ H2 p1 = some (.lst [.ref l1, .ref l2]) ∧ ∃ (x3 : Option V), σ = [some (.int (n : Nat)), some (.ref L), some (.ref S), x3, none, none, none, none, none, none] ∧
      (match i with
        | 0 => H2 S = some (.lst [.ref c0])
        | 1 => ∃ c1 k1, H2 S = some (.lst [.ref c0, .ref c1]) ∧ ChN C (fun a => a ≠ S) H2 c1 x.length y k1
        | _ => ∃ c1 k1 c2 k2, H2 S = some (.lst [.ref c0, .ref c1, .ref c2]) ∧ ChN C (fun a => a ≠ S) H2 c1 x.length y k1 ∧ ChN C (fun a => a ≠ S) H2 c2 y.length z k2)) ?_ ?_ ?_ ?_
    · exact ⟨s1S.trans (Same.new hp1), upd_same, none, rfl, (upd_ne nSp).trans eS⟩
    · rintro i σ H2 _ ⟨_, ep, _⟩
      exact .of ep
    · rintro i v σ H2 hv ⟨s2, ep, x3, rfl, hi⟩
      have s02 := s1.trans s2
      match i, hv, hi with
      | 0, hv, hi =>
        obtain rfl : V.ref l1 = v := Option.some.inj hv
        have hi' : H2 S = some (.lst [.ref c0]) := hi
        have hc := h0.same s2
        obtain ⟨d0, T0, lq, rq, stq, tsq, ec0, _⟩ := id hc
        refine ⟨_, rfl, .inl ⟨rfl, _, .of hi'⟩, _, rfl, _, rfl, .inl ⟨S, _, _, _, rfl, rfl, .of hi', atI_last [] _, ?_⟩⟩
        refine ⟨c0, d0, _, rfl, ec0, c0, n, _, k0, rfl, hc, _, rfl, ?_⟩
        refine ch_made (R := fun a H' => _) (s02 _ _ e1) (py.same s02) oky fun c1 H3 _ k1 hc1 s3 h1 _ _ => ?_
        refine ⟨S, _, _, rfl, rfl, s3 _ _ hi', (by show 1 < sizeLine; decide), ?_⟩
        have sS : Same H1 (upd H3 S (.lst [.ref c0, .ref c1])) := fun a o e => (upd_ne (ne_of_none e hS)).trans (s3 _ _ (s2 _ _ e))
        have h1' : ChN C (fun a => a ≠ S) H3 c1 x.length y k1 := h1.imp fun a ha z => by rw [z, hi'] at ha; cases ha
        exact ⟨sS, (upd_ne nSp.symm).trans (s3 _ _ ep), _, rfl, c1, k1, upd_same, h1'.put (s3 _ _ hi')⟩
      | 1, hv, hi =>
        obtain rfl : V.ref l2 = v := Option.some.inj hv
        obtain ⟨c1, k1, hi', hcN⟩ := hi
        have hc := hcN.at
        obtain ⟨d0, T0, lq, rq, stq, tsq, ec0, _⟩ := id hc
        refine ⟨_, rfl, .inl ⟨rfl, _, .of hi'⟩, _, rfl, _, rfl, .inl ⟨S, _, _, _, rfl, rfl, .of hi', atI_last [_] _, ?_⟩⟩
        refine ⟨c1, d0, _, rfl, ec0, c1, _, _, k1, rfl, hc, _, rfl, ?_⟩
        refine ch_made (R := fun a H' => _) (s02 _ _ e2) (pz.same s02) okz fun c2 H3 _ k2 hc2 s3 h2 _ _ => ?_
        refine ⟨S, _, _, rfl, rfl, s3 _ _ hi', (by show 2 < sizeLine; decide), ?_⟩
        have sS : Same H1 (upd H3 S (.lst [.ref c0, .ref c1, .ref c2])) := fun a o e => (upd_ne (ne_of_none e hS)).trans (s3 _ _ (s2 _ _ e))
        have h2' : ChN C (fun a => a ≠ S) H3 c2 y.length z k2 := h2.imp fun a ha z => by rw [z, hi'] at ha; cases ha
        exact ⟨sS, (upd_ne nSp.symm).trans (s3 _ _ ep), _, rfl, c1, k1, c2, k2, upd_same, (hcN.same s3).put (s3 _ _ hi'), h2'.put (s3 _ _ hi')⟩
      | i + 2, hv, hi => cases hv
    rintro σ H2 ⟨s2, ep, x3, rfl, c1, k1, c2, k2, eS2, h1N, h2N⟩
    have s02 := s1.trans s2
    have h : RgH C H2 n L S l0 l1 l2 c0 c1 c2 x y z k0 k1 k2 := ⟨s02 _ _ eL, eS2, s02 _ _ e0, s02 _ _ e1, s02 _ _ e2, h0.same s2, h1N.at, h2N.at, px.same s02, py.same s02, pz.same s02⟩
    refine ⟨_, rfl, ix_lst (j := 0) h.eL rfl ⟨_, rfl, ix_lst (j := 1) h.eL rfl ⟨l0, l1, x, y, rfl, h.e0, h.e1, h.px, h.py, okx.ok, oky, fun U H3 hU s3 jn => ?_⟩⟩⟩
    have h3 := h.same s3
    have s03 := s02.trans s3
    -- five: both lists are as they were
    have five : ∀ (H4 : Hp) (T F : Prop), RgH C H4 n L S l0 l1 l2 c0 c1 c2 x y z k0 k1 k2 → True := fun _ _ _ _ => trivial
    have aft : ∀ {H4 : Hp} {l : Addr} {m : Nat} {us : List Pm}, ChOk m (kys us) → PsAt H4 us → H4 l = some (.lst (vls us)) → ∀ p, H4 p = none →
        ∃ d1 d2, Dp K (upd H4 p (.lst (vls us))) (.ref p) d1 ∧ Dp K (upd H4 p (.lst (vls us))) (.ref l) d2 ∧ SeqAt.shaped d1 = true ∧ SeqAt.shaped d2 = true ∧ PyData.eqv d1 d2 = true ∧ Same H4 (upd H4 p (.lst (vls us))) := fun {H4 l m us} ok hp el p hp4 =>
      ⟨.list ((kys us).map encT), .list ((kys us).map encT), .lst (.of upd_same) ((hp.same (Same.new hp4)).dps ok.ok), .lst (.of (Same.new hp4 _ _ el)) ((hp.same (Same.new hp4)).dps ok.ok), encTs_shaped ok.ok, encTs_shaped ok.ok, list_eqv _, Same.new hp4⟩
    rcases jn.symm with ⟨p0, t, tw, eU⟩ | ⟨tw, D, eU, eD⟩
    · -- taken
      refine ⟨_, rfl, ix_lst (j := 0) eU rfl ⟨rfl, _, rfl, ?_⟩⟩
      rw [show decide (V.str "taken" = V.str "told") = false by decide +kernel]
      refine iteF ⟨_, rfl, ?_⟩
      refine ⟨_, rfl, ix_lst (j := 0) h3.eS rfl ⟨_, rfl, ix_lst (j := 1) h3.eS rfl ⟨c0, _, n, x, k0, rfl, h3.h0, okx.ok, .inr (.inr ⟨c1, y, k1, rfl, h3.h1, oky, (fun z => by rw [tw] at z; cases z), fun p0' t' tw' R4 H4 hR s4 eR => ?_⟩)⟩⟩⟩
      have ep0 : p0' = p0 := by
        rw [tw] at tw'
        injection tw' with a1 _
        exact a1.symm
      subst ep0
      have h4 := h3.same s4
      have m0 : p0' ∈ twP x y := by rw [tw]; exact List.mem_cons_self
      have mn := (mem_news (List.mem_filter.mp m0).1).1
      have ha := h4.py p0' mn
      have sh := taken_shw (ch_sh oky _ (List.mem_map_of_mem (f := (·.2)) mn))
      refine ⟨_, _, rfl, taken_rp eR ha, sh, _, rfl, _, _, rfl, taken_rp (s4 _ _ eU) ha, sh, rfl, _, rfl, ?_⟩
      refine ne_ifL rfl ?_
      obtain ⟨d0, T0, lq, rq, stq, tsq, ec0, _⟩ := id h4.h0
      refine ⟨_, rfl, ix_lst (j := 0) h4.eS rfl ⟨c0, d0, _, rfl, ec0, rfl, c0, n, _, k0, rfl, h4.h0, fun p5 hp5 => ?_⟩⟩
      obtain ⟨d1, d2, q1, q2, q3, q4, q5, s5⟩ := aft okx h4.px h4.e0 p5 hp5
      have h5 := h4.same s5
      refine ⟨_, rfl, ix_lst (j := 0) h5.eL rfl ⟨d1, d2, q1, q2, q3, q4, _, rfl, ?_⟩⟩
      rw [q5]
      refine iteF ?_
      obtain ⟨d0', T0', lq', rq', stq', tsq', ec1, _⟩ := id h5.h1
      refine ⟨_, rfl, ix_lst (j := 1) h5.eS rfl ⟨c1, d0', _, rfl, ec1, rfl, c1, _, _, k1, rfl, h5.h1, fun p6 hp6 => ?_⟩⟩
      obtain ⟨g1, g2, r1, r2, r3, r4, r5, s6⟩ := aft oky h5.py h5.e1 p6 hp6
      have h6 := h5.same s6
      refine ⟨_, rfl, ix_lst (j := 1) h6.eL rfl ⟨g1, g2, r1, r2, r3, r4, _, rfl, ?_⟩⟩
      rw [r5]
      refine iteF ?_
      have s36 := (s4.trans s5).trans s6
      refine ⟨_, rfl, ix_lst (j := 0) (s36 _ _ eU) rfl ⟨rfl, _, rfl, ?_⟩⟩
      refine ne_ifT (by decide +kernel) ?_
      exact q _ (s03.trans s36)
    · -- told
      have nt := tw_nil tw
      have okJ := appl_chok okx oky nt
      refine ⟨_, rfl, ix_lst (j := 0) eU rfl ⟨rfl, _, rfl, ?_⟩⟩
      rw [show decide (V.str "told" = V.str "told") = true from decide_eq_true rfl]
      refine iteT ⟨_, rfl, _, rfl, (by show 1 ≤ sizeLine; decide), fun b1 hb1 => ?_⟩
      have sb1 := Same.new (o := .lst [.int (n : Nat)]) hb1
      refine ⟨U, b1, _, _, rfl, rfl, sb1 _ _ eU, upd_same, (by show 3 ≤ sizeLine; decide), fun b2 hb2 => ?_⟩
      have sb2 := Same.new (o := .lst ([.str "told", .ref D] ++ [.int (n : Nat)])) hb2
      have eb2 : (upd (upd H3 b1 (.lst [.int (n : Nat)])) b2 (.lst ([.str "told", .ref D] ++ [.int (n : Nat)]))) b2 = some (.lst [.str "told", .ref D, .int (n : Nat)]) := upd_same
      have sb := sb1.trans sb2
      have eUb := sb _ _ eU
      have eDb := sb _ _ eD
      have h3b := h3.same sb
      have s03b := s03.trans sb
      generalize upd (upd H3 b1 (.lst [.int (n : Nat)])) b2 (.lst ([.str "told", .ref D] ++ [.int (n : Nat)])) = H3b at eb2 eUb eDb h3b s03b ⊢
      refine ⟨_, rfl, ix_lst (j := 0) h3b.eS rfl ⟨_, rfl, ix_lst (j := 1) h3b.eS rfl ⟨c0, _, n, x, k0, rfl, h3b.h0, okx.ok, .inr (.inr ⟨c1, y, k1, rfl, h3b.h1, oky, fun _ => ⟨okJ, fun R4 D4 H4 hR s4 eR eD4 => ?_⟩, fun p0' t' tw' => by rw [tw] at tw'; cases tw'⟩)⟩⟩⟩
      have h4 := h3b.same s4
      have pJ := appl_at h4.px h4.py oky
      have sh := told_shw (n := n) okJ okx.n80
      refine ⟨_, _, rfl, told_rp eR eD4 pJ, sh, _, rfl, _, _, rfl, told_rp (s4 _ _ eb2) (s4 _ _ eDb) pJ, sh, rfl, _, rfl, ?_⟩
      refine ne_ifL rfl ?_
      obtain ⟨d0, T0, lq, rq, stq, tsq, ec0, _⟩ := id h4.h0
      refine ⟨_, rfl, ix_lst (j := 0) h4.eS rfl ⟨c0, d0, _, rfl, ec0, rfl, c0, n, _, k0, rfl, h4.h0, fun p5 hp5 => ?_⟩⟩
      obtain ⟨d1, d2, q1, q2, q3, q4, q5, s5⟩ := aft okx h4.px h4.e0 p5 hp5
      have h5 := h4.same s5
      refine ⟨_, rfl, ix_lst (j := 0) h5.eL rfl ⟨d1, d2, q1, q2, q3, q4, _, rfl, ?_⟩⟩
      rw [q5]
      refine iteF ?_
      obtain ⟨d0', T0', lq', rq', stq', tsq', ec1, _⟩ := id h5.h1
      refine ⟨_, rfl, ix_lst (j := 1) h5.eS rfl ⟨c1, d0', _, rfl, ec1, rfl, c1, _, _, k1, rfl, h5.h1, fun p6 hp6 => ?_⟩⟩
      obtain ⟨g1, g2, r1, r2, r3, r4, r5, s6⟩ := aft oky h5.py h5.e1 p6 hp6
      have h6 := h5.same s6
      refine ⟨_, rfl, ix_lst (j := 1) h6.eL rfl ⟨g1, g2, r1, r2, r3, r4, _, rfl, ?_⟩⟩
      rw [r5]
      refine iteF ?_
      have s36 := (s4.trans s5).trans s6
      refine ⟨_, rfl, ix_lst (j := 0) (s36 _ _ eUb) rfl ⟨rfl, _, rfl, ?_⟩⟩
      refine ne_ifL rfl ?_
      exact ql _ x3 _ _ _ _ _ n L S l0 l1 l2 c0 c1 c2 U D x y z k0 k1 k2 _ h6 okx oky okz nt (s36 _ _ eUb) (s36 _ _ eDb) fun H' s' => q H' ((s03b.trans s36).trans s')
end
end G
set_option Elab.async false
set_option linter.all false
set_option maxRecDepth 100000
set_option maxHeartbeats 8000000
/-! YO: _law_odd_right, from its end on. -/
namespace G
open PySem PySem.Spec PyProof.Rows L2 NdefX StX PySem.W
abbrev sOddR : Stmt := topS 49
abbrev nOddR : List Str := ["_law_box_here", "_law_change", "_law_odd", "_law_found", "_law_items"]
theorem scOddR : FnScope nOddR ["_law_box_here", "_law_change"] (defScope sOddR) := ⟨rfl, rfl, rfl, by decide +kernel, rfl, by decide +kernel, by decide +kernel⟩
theorem mm_str : PyData.strOk "mismatch" = true := by decide +kernel
def mmD (ks : List Tm) : PyData := .list [.str "mismatch", .list (ks.map encT)]
theorem mm_shaped {ks : List Tm} (h : ∀ x ∈ ks, TmOk x) : SeqAt.shaped (mmD ks) = true := by
  obtain ⟨_, b2, b3⟩ := lay_all (ds := ks.map encT) fun d hd => by
    obtain ⟨x, hx, rfl⟩ := List.mem_map.mp hd
    exact encT_lay (h x hx)
  have e1 : PyData.canLay0 (mmD ks) = true := by
    show (PyData.strOk "mismatch" && (PyData.canLayAll0 (ks.map encT) && true)) = true
    rw [mm_str, b2]
    rfl
  have e2 : (mmD ks).depth ≤ 64 := by
    show max 0 (max (PyData.depthAll (ks.map encT) + 1) 0) + 1 ≤ 64
    omega
  unfold SeqAt.shaped
  rw [e1, decide_eq_true e2]
  rfl
theorem mm_eqv (ks : List Tm) : PyData.eqv (mmD ks) (mmD ks) = true := by
  have h := list_eqv ks
  simp only [PyData.eqv] at h
  simp [mmD, PyData.eqv, PyData.eqvAll, h]
theorem mm_dp {K : PySem.W.Frag} {H : Hp} {R D : Addr} {ps : List Pm} (e : H R = some (.lst [.str "mismatch", .ref D])) (e2 : H D = some (.lst (vls ps))) (hp : PsAt H ps) (ok : ∀ x ∈ kys ps, TmOk x) : Dp K H (.ref R) (mmD (kys ps)) := .lst (.of e) (.cons (.str _) (.cons (.lst (.of e2) (hp.dps ok)) .nil))
theorem news_sub (ps : List Pm) : (kys (news ps)).Sublist (kys ps) := (List.filter_sublist).map _
theorem news_chok {n m : Nat} {ps : List Pm} (ok : ChOk n (kys ps)) (hm : m ≤ 80) : ChOk m (kys (news ps)) := by
  refine ⟨hm, Nat.le_trans (news_sub ps).length_le ok.few, ok.nd.sublist (news_sub ps), fun i hi => ?_, fun x hx => ok.ok x ((news_sub ps).subset hx)⟩
  obtain ⟨p, hp, e⟩ := List.mem_map.mp hi
  have := (mem_news hp).2
  rw [e] at this
  cases this
def zP : Pm := (.int 0, .inl 0)
theorem news_zero {n m : Nat} {ps : List Pm} (ok : ChOk n (kys ps)) (l : ps.length ≤ 79) (h1 : 1 ≤ m) (hm : m ≤ 80) : ChOk m (kys (news ps ++ [zP])) := by
  have h := news_chok ok hm
  have e : kys (news ps ++ [zP]) = kys (news ps) ++ [.inl 0] := by
    unfold kys
    rw [List.map_append]
    rfl
  rw [e]
  refine ⟨hm, ?_, ?_, fun i hi => ?_, fun x hx => ?_⟩
  · have := (news_sub ps).length_le
    have l2 : (kys ps).length = ps.length := List.length_map ..
    rw [List.length_append, List.length_singleton]
    omega
  · refine List.nodup_append.mpr ⟨h.nd, List.nodup_cons.mpr ⟨List.not_mem_nil, List.nodup_nil⟩, fun x hx y hy e => ?_⟩
    rw [List.mem_singleton.mp hy] at e
    subst e
    obtain ⟨p, hp, e⟩ := List.mem_map.mp hx
    have := (mem_news hp).2
    rw [e] at this
    cases this
  · rcases List.mem_append.mp hi with hi | hi
    · exact h.lo i hi
    · cases List.mem_singleton.mp hi
      omega
  · rcases List.mem_append.mp hx with hx | hx
    · exact h.ok x hx
    · rw [List.mem_singleton.mp hx]
      rintro r e
      cases e
theorem zero_chok {m : Nat} (h1 : 1 ≤ m) (hm : m ≤ 80) : ChOk m (kys [zP]) := by
  refine ⟨hm, by decide, List.nodup_cons.mpr ⟨List.not_mem_nil, List.nodup_nil⟩, fun i hi => ?_, fun x hx => ?_⟩
  · cases List.mem_singleton.mp hi
    omega
  · rw [List.mem_singleton.mp hx]
    rintro r e
    cases e
theorem ch_madeI {C : Addr} {H1 : Hp} {R : Addr → Hp → Prop} {E : XK} {l : Addr} {i : Int} {n : Nat} {ps : List Pm} (ei : i = (n : Nat)) (hl : H1 l = some (.lst (vls ps))) (hp : PsAt H1 ps) (ok : ChOk n (kys ps)) (q : ∀ (a : Addr) (H' : Hp) (A : List Int) (k : Nat), H1 a = none → Same H1 H' → ChN C (fun x => H1 x = none) H' a n ps k → Lis.Best (intsT (kys ps)) A → k + A.length = n + (rwsT (kys ps)).length → R a H') :
    ∀ x dx, H1 x = Option.none → H1 dx = Option.none → dx ≠ x → spChI C [.ref x, .int i, .ref l] (upd (upd H1 dx (.own x)) x (.ins C dx [])) (fun v H2 => v = .non ∧ R x H2) E := by
  subst ei
  exact ch_made hl hp ok q
theorem nil_chok {m : Nat} (hm : m ≤ 80) : ChOk m (kys []) := ⟨hm, Nat.zero_le _, List.nodup_nil, fun _ h => (nomatch h), fun _ h => (nomatch h)⟩
/-- what _law_odd_right asks -/
structure OrK (P : Program) (w : World) (K : PySem.W.Frag) (mg : Str → Option Value) (base : Heap) (C : Addr) : Prop where
  c : ChC K C
  M : ∃ f fd, MkC P w K mg base C f fd
  C_ : ∃ f fd, FnOk P w K mg base CX0 9 f fd ["_law_change", "_law_value"] (spCaught K C) ∧ PySem.W.keepIn K (.ref f) = true ∧ Binds K fd ["_law_change", "_law_value"] [] ∧ mg "_law_caught" = some (.ref f)
  T : ∃ p f fd, PropOf K C "total" p f ∧ Binds K fd ["self"] [] ∧ FnOk P w K mg base CX0 1 f fd ["self"] (spChT C)
  F : ∃ f fd, Meth K C "after" f ∧ Binds K fd ["self"] [] ∧ FnOk P w K mg base CX0 1 f fd ["self"] (spChF C)
  G : ∃ f fd, Meth K C "came" f ∧ Binds K fd ["self"] [] ∧ FnOk P w K mg base CX0 1 f fd ["self"] (spChM C)
  D : ∃ f fd, FnOk P w K mg base CX0 1 f fd ["_law_box_here", "_law_many"] spTake ∧ PySem.W.keepIn K (.ref f) = true ∧ Binds K fd ["_law_box_here", "_law_many"] [] ∧ mg "_law_take" = some (.ref f)
  mp : mg "repr" = none
  mi : mg "isinstance" = none
  mL : mg "list" = none
  md : mg "dict" = none
abbrev xOr (P : Program) (w : World) (K : PySem.W.Frag) (mg : Str → Option Value) (base : Heap) (f : Addr) (cdv : Value) (A : Around) (outer : List Env) (s : Shared) (H : Hp) (E : XK) : Cx := (cxOf CX0 P w K mg base nOddR "_law_odd_right" (defScope sOddR) f cdv A outer s H E).nox
abbrev rmOr (f : Addr) (cdv : Value) (A : Around) (s : Shared) : Prop := Room 9 (A.deeper (envOfC "_law_odd_right" (defScope sOddR) s.heap.objs.size f cdv))
section
variable {P : Program} {w : World} {K : PySem.W.Frag} {mg : Str → Option Value} {base : Heap} {f C : Addr} {fd : FuncData}
theorem or_five {cdv : Value} {A : Around} {outer : List Env} {s : Shared} {H : Hp} {E : XK} (R : OrK P w K mg base C) (hr : rmOr f cdv A s) :
    ∃ t, PSs (xOr P w K mg base f cdv A outer s H E) ((defBody sOddR).drop 5) t ∧
      ∀ (De : Ends) (x0 x2 x3 x4 : Option V) (a : Addr) (n j : Nat) (qs : List Pm) (H1 : Hp), ChAt C H1 a n qs j → ChOk n (kys qs) → qs.length ≤ 79 → (∀ H', Same H1 H' → De.rt (.bl true) H') →
        t De [x0, some (.ref a), x2, x3, x4] H1 := by
  obtain ⟨fM, fdM, MM⟩ := R.M
  obtain ⟨fC, fdC, GC, kC, bC, gC⟩ := R.C_
  obtain ⟨pT, fT, fdT, mT, bT, GT⟩ := R.T
  obtain ⟨fG, fdG, mG, bG, GG⟩ := R.G
  have c := R.c
  have hr1 := hr.mono (show 1 ≤ 9 by decide)
  have hr2 := hr.mono (show 1 + 1 ≤ 9 by decide)
  have hr7 := hr.mono (show 6 + 1 ≤ 9 by decide)
  refine ⟨_, pss_cons (ps_for PassesOwn.never rfl (pi_list (pe_lst (pa_cons (pe_lst (pa_cons pe_int pa_nil)) (pa_cons (pe_op op_cat (pe_meth0 (pv 1) c.cl mG GG hr1 bG .nil pass0) (pe_lst (pa_cons pe_int pa_nil))) (pa_cons (pe_meth0 (pv 1) c.cl mG GG hr1 bG .nil pass0) pa_nil))))) (pg_name (i := 4) scOddR.nd rfl (.inl rfl))
        (pss_one (ps_if (pt_cmpR (op_neD hr.units) (pe_call GC hr rfl gC kC bC .nil pass0 (pa_cons (pv 1) (pa_cons (pe_make MM.M MM.G hr7 rfl MM.g MM.b .nil pass0 (pa_cons (pe_op op_add (pe_prop (pv 1) c.cl mT GT hr2 bT .nil pass0 rfl) pe_int) (pa_cons (pv 4) pa_nil))) pa_nil))) (pe_lst (pa_cons pe_str (pa_cons (pv 4) pa_nil))) (nomark _)) (pss_one (ps_ret pe_bl)) pss_nil)))
      (pss_cons (ps_if (PW.pt (pw_and (pt_cmpR op_gt (pe_prop (pv 1) c.cl mT GT hr2 bT .nil pass0 rfl) pe_int (nomark _)) (pw_and1 (pt_cmpR (op_neD hr.units) (pe_call GC hr rfl gC kC bC .nil pass0 (pa_cons (pv 1) (pa_cons (pe_make MM.M MM.G hr7 rfl MM.g MM.b .nil pass0 (pa_cons (pe_op op_sub (pe_prop (pv 1) c.cl mT GT hr2 bT .nil pass0 rfl) pe_int) (pa_cons (pe_lst pa_nil) pa_nil))) pa_nil))) (pe_lst (pa_cons pe_str (pa_cons (pe_lst pa_nil) pa_nil))) (nomark _))))) (pss_one (ps_ret pe_bl)) pss_nil)
      (pss_one (ps_ret pe_bl))), ?_⟩
  intro De x0 x2 x3 x4 a n j qs H1 ha okq l79 q
  have pq : PsAt H1 qs := by
    obtain ⟨_, _, _, _, _, _, _, _, _, _, _, _, _, hp, _⟩ := id ha
    exact hp
  obtain ⟨dx, T, l, r, st, ts, ea, _⟩ := id ha
  -- the three lists
  refine ⟨(by decide), fun p1 hp1 => ?_⟩
  have s1 := Same.new (o := .lst [.int 0]) hp1
  have g1 : (upd H1 p1 (.lst [.int 0])) p1 = some (.lst (vls [zP])) := upd_same
  generalize upd H1 p1 (.lst [.int 0]) = H2 at s1 g1 ⊢
  refine ⟨_, rfl, a, dx, _, rfl, s1 _ _ ea, rfl, a, n, qs, j, rfl, ha.same s1, fun m1 hm1 => ?_⟩
  have s2 := Same.new (o := .lst (vls (news qs))) hm1
  have g2 : (upd H2 m1 (.lst (vls (news qs)))) m1 = some (.lst (vls (news qs))) := upd_same
  generalize upd H2 m1 (.lst (vls (news qs))) = H3 at s2 g2 ⊢
  refine ⟨(by decide), fun p2 hp2 => ?_⟩
  have s3 := Same.new (o := .lst [.int 0]) hp2
  have g3 : (upd H3 p2 (.lst [.int 0])) p2 = some (.lst [.int 0]) := upd_same
  generalize upd H3 p2 (.lst [.int 0]) = H4 at s3 g3 ⊢
  have ln : (vls (news qs)).length ≤ 79 := by
    unfold vls news
    rw [List.length_map]
    exact Nat.le_trans (List.length_filter_le _ _) l79
  refine ⟨m1, p2, _, _, rfl, rfl, s3 _ _ g2, g3, Nat.le_of_lt (small1000 (by show (vls (news qs)).length + 1 ≤ 1000; omega)), fun m2 hm2 => ?_⟩
  have s4 := Same.new (o := .lst (vls (news qs) ++ [.int 0])) hm2
  have g4 : (upd H4 m2 (.lst (vls (news qs) ++ [.int 0]))) m2 = some (.lst (vls (news qs ++ [zP]))) := by
    rw [upd_same]
    unfold vls
    rw [List.map_append]
    rfl
  generalize upd H4 m2 (.lst (vls (news qs) ++ [.int 0])) = H5 at s4 g4 ⊢
  have s15 := (s1.trans s2).trans (s3.trans s4)
  refine ⟨_, rfl, a, dx, _, rfl, s15 _ _ ea, rfl, a, n, qs, j, rfl, ha.same s15, fun m3 hm3 => ?_⟩
  have s5 := Same.new (o := .lst (vls (news qs))) hm3
  have g5 : (upd H5 m3 (.lst (vls (news qs)))) m3 = some (.lst (vls (news qs))) := upd_same
  generalize upd H5 m3 (.lst (vls (news qs))) = H6 at s5 g5 ⊢
  refine ⟨(by show 3 ≤ sizeLine; decide), fun L hL => ?_⟩
  have s6 := Same.new (o := .lst [.ref p1, .ref m2, .ref m3]) hL
  have gL : (upd H6 L (.lst [.ref p1, .ref m2, .ref m3])) L = some (.lst [.ref p1, .ref m2, .ref m3]) := upd_same
  generalize upd H6 L (.lst [.ref p1, .ref m2, .ref m3]) = H7 at s6 gL ⊢
  have s17 : Same H1 H7 := (s15.trans s5).trans s6
  have e1 := s6 _ _ (s5 _ _ (s4 _ _ (s3 _ _ (s2 _ _ g1))))
  have e2 := s6 _ _ (s5 _ _ g4)
  have e3 := s6 _ _ g5
  refine ⟨L, rfl, ⟨_, .of gL⟩, ?_⟩
  have hn : PsAt H7 (news qs) := (pq.same s17).sub fun p hp => (mem_news hp).1
  have hz : PsAt H7 [zP] := fun p hp => by
    rw [List.mem_singleton.mp hp]
    rfl
  -- what each turn does
  have one : ∀ (H8 : Hp) (l : Addr) (us : List Pm) (m : Nat) (Qt Qe : Prop), Same H7 H8 → H8 l = some (.lst (vls us)) → PsAt H8 us → ChOk m (kys us) → m ≠ qs.length → True := fun _ _ _ _ _ _ _ _ _ _ _ => trivial
  refine for_list (xs := [V.ref p1, .ref m2, .ref m3]) (fun i σ H8 => Same H7 H8 ∧ ∃ x4 : Option V, σ = [x0, some (.ref a), x2, x3, x4]) ?_ ?_ ?_ ?_
  · exact ⟨fun _ _ e => e, x4, rfl⟩
  · rintro i σ H8 _ ⟨s8, _⟩
    exact .of (s8 _ _ gL)
  · rintro i v σ H8 hv ⟨s8, x4, rfl⟩
    have s18 := s17.trans s8
    obtain ⟨l, us, rfl, el, pu, oku⟩ : ∃ (l : Addr) (us : List Pm), v = .ref l ∧ H8 l = some (.lst (vls us)) ∧ PsAt H8 us ∧ ChOk (qs.length + 1) (kys us) := by
      match i, hv with
      | 0, hv => exact ⟨p1, _, (Option.some.inj hv).symm, s8 _ _ e1, hz.same s8, zero_chok (by omega) (by omega)⟩
      | 1, hv => exact ⟨m2, _, (Option.some.inj hv).symm, s8 _ _ e2, (hn.app hz).same s8, news_zero okq l79 (by omega) (by omega)⟩
      | 2, hv => exact ⟨m3, _, (Option.some.inj hv).symm, s8 _ _ e3, hn.same s8, news_chok okq (by omega)⟩
      | i + 3, hv => cases hv
    have ha8 := ha.same s18
    refine ⟨_, rfl, _, rfl, a, dx, _, rfl, s18 _ _ ea, a, n, qs, j, rfl, ha8, _, _, rfl, rfl, _, rfl, ?_⟩
    refine ch_madeI (i := ((qs.length : Nat) : Int) + 1) (n := qs.length + 1) (by omega) (R := fun a H' => _) el pu oku fun cN H9 _ kN hcN s9 hN _ _ => ?_
    refine ⟨a, _, n, qs, j, rfl, ha8.same s9, okq.ok, .inr (.inl ⟨cN, _, us, kN, rfl, hN.at, by omega, fun R D HA hR sA eR eD => ?_⟩)⟩
    refine ⟨_, rfl, (by show 2 ≤ sizeLine; decide), fun R2 hR2 => ?_⟩
    have sB := Same.new (o := .lst [.str "mismatch", .ref l]) hR2
    have pB : PsAt (upd HA R2 (.lst [.str "mismatch", .ref l])) us := ((pu.same s9).same sA).same sB
    refine ⟨mmD (kys us), mmD (kys us), mm_dp (sB _ _ eR) (sB _ _ eD) pB oku.ok, mm_dp upd_same (sB _ _ (sA _ _ (s9 _ _ el))) pB oku.ok, mm_shaped oku.ok, mm_shaped oku.ok, _, rfl, ?_⟩
    rw [mm_eqv]
    exact iteF ⟨((s8.trans s9).trans sA).trans sB, _, rfl⟩
  rintro σ H8 ⟨s8, x4', rfl⟩
  have s18 := s17.trans s8
  have ha8 := ha.same s18
  refine ⟨_, rfl, a, dx, _, rfl, s18 _ _ ea, a, n, qs, j, rfl, ha8, _, _, rfl, rfl, _, rfl, ite2 (fun h0 => ?_) (fun _ => iteF (q H8 s18))⟩
  have hpos : ((qs.length : Nat) : Int) > 0 := of_decide_eq_true h0
  refine ⟨_, rfl, _, rfl, a, dx, _, rfl, s18 _ _ ea, a, n, qs, j, rfl, ha8, _, _, rfl, rfl, (by decide), fun p9 hp9 => ?_⟩
  have s9' := Same.new (o := .lst []) hp9
  have e9 : (upd H8 p9 (.lst [])) p9 = some (.lst (vls [])) := upd_same
  generalize upd H8 p9 (.lst []) = H9 at s9' e9 ⊢
  refine ch_madeI (i := ((qs.length : Nat) : Int) - 1) (n := qs.length - 1) (by omega) (R := fun a H' => _) e9 (fun _ h => (nomatch h)) (nil_chok (by omega)) fun cN HA _ kN hcN sA hN _ _ => ?_
  refine ⟨a, _, n, qs, j, rfl, (ha8.same s9').same sA, okq.ok, .inr (.inl ⟨cN, _, [], kN, rfl, hN.at, by omega, fun R D HB hR sB eR eD => ?_⟩)⟩
  refine ⟨(by decide), fun p8 hp8 => ⟨(by show 2 ≤ sizeLine; decide), fun R2 hR2 => ?_⟩⟩
  have sC := Same.new (o := .lst []) hp8
  have sD := Same.new (o := .lst [.str "mismatch", .ref p8]) hR2
  have sCD := sC.trans sD
  refine ⟨mmD (kys []), mmD (kys []), mm_dp (sCD _ _ eR) (sCD _ _ eD) (fun _ h => (nomatch h)) (fun _ h => (nomatch h)), mm_dp (ps := []) upd_same (sD _ _ upd_same) (fun _ h => (nomatch h)) (fun _ h => (nomatch h)), mm_shaped (fun _ h => (nomatch h)), mm_shaped (fun _ h => (nomatch h)), _, rfl, ?_⟩
  rw [mm_eqv]
  exact iteF (q _ (s18.trans ((s9'.trans sA).trans (sB.trans sCD))))
end
end G
set_option Elab.async false
set_option linter.all false
set_option maxRecDepth 100000
set_option maxHeartbeats 1500000
/-! YP: _law_odd_right. -/
namespace G
open PySem PySem.Spec PyProof.Rows L2 NdefX StX PySem.W
/-- what is shown beside a word -/
structure ShO (d : PyData) : Prop where
  sh : d.showable = true
  dc : d.hasDict = true → okS d = true
  dp : d.depth ≤ 6
  ms : mass d ≤ 1000000
theorem chg_shw {d : PyData} (h : ShO d) : Shw (.list [.str "change", d]) := by
  have e7 : (reprText "change").length ≤ 20 := by decide +kernel
  have e8 : okS (.str "change") = true := by decide +kernel
  have h1 := h.sh
  have h3 := h.dp
  have h4 := h.ms
  refine ⟨?_, fun z => ?_, ?_, ?_⟩
  · show (true && (PyData.showable d && true)) = true
    rw [h1]
    rfl
  · have z' : (false || (PyData.hasDict d || false)) = true := z
    rw [Bool.false_or, Bool.or_false] at z'
    have := h.dc z'
    show okSAll [.str "change", d] = true
    simp [okSAll, e8, this]
  · show max 0 (max (PyData.depth d) 0) + 1 ≤ 10
    omega
  · show 3 + ((reprText "change").length + 2 + (mass d + 2 + 0)) ≤ 2000000
    omega
theorem all_more : ∀ {xs : List Tm}, (∀ x ∈ xs, ShT (encT x)) → PyData.showableAll (xs.map encT ++ [.str "more"]) = true ∧ PyData.hasDictAll (xs.map encT ++ [.str "more"]) = false ∧ PyData.depthAll (xs.map encT ++ [.str "more"]) ≤ 2 ∧ massAll (xs.map encT ++ [.str "more"]) ≤ 6002 * xs.length + 30
  | [], _ => by
    have e7 : (reprText "more").length ≤ 20 := by decide +kernel
    refine ⟨rfl, rfl, Nat.zero_le _, ?_⟩
    show (reprText "more").length + 2 + 0 ≤ 6002 * 0 + 30
    omega
  | x :: xs, h => by
    obtain ⟨i1, i2, i3, i4⟩ := all_more fun y hy => h y (List.mem_cons_of_mem _ hy)
    have hx := h x List.mem_cons_self
    refine ⟨?_, ?_, ?_, ?_⟩
    · show (PyData.showable (encT x) && PyData.showableAll (xs.map encT ++ [.str "more"])) = true
      rw [hx.sh, i1]
      rfl
    · show (PyData.hasDict (encT x) || PyData.hasDictAll (xs.map encT ++ [.str "more"])) = false
      rw [hx.nd, i2]
      rfl
    · show max (PyData.depth (encT x)) (PyData.depthAll (xs.map encT ++ [.str "more"])) ≤ 2
      exact Nat.max_le.mpr ⟨hx.dp, i3⟩
    · show mass (encT x) + 2 + massAll (xs.map encT ++ [.str "more"]) ≤ 6002 * (xs.length + 1) + 30
      have := hx.ms
      omega
theorem lst_more {xs : List Tm} (h : ∀ x ∈ xs, ShT (encT x)) (l : xs.length ≤ 80) : ShO (.list (xs.map encT ++ [.str "more"])) := by
  obtain ⟨s1, s2, s3, s4⟩ := all_more h
  refine ⟨s1, fun z => ?_, ?_, ?_⟩
  · have : PyData.hasDictAll (xs.map encT ++ [.str "more"]) = true := z
    rw [s2] at this
    cases this
  · show PyData.depthAll (xs.map encT ++ [.str "more"]) + 1 ≤ 6
    omega
  · show 3 + massAll (xs.map encT ++ [.str "more"]) ≤ 1000000
    omega
theorem rp_more {K : PySem.W.Frag} {H : Hp} {us : List Pm} (h : PsAt H us) : RpAll K H (vls us ++ [.str "more"]) ((kys us).map encT ++ [.str "more"]) := rp_app h.rps (.str _)
def dicD : PyData := .dict [(.str "more", .int 1)]
theorem dic_sho : ShO dicD := by
  have e7 : (reprText "more").length ≤ 20 := by decide +kernel
  refine ⟨by decide +kernel, fun _ => by decide +kernel, by decide +kernel, ?_⟩
  show 3 + ((reprText "more").length + 1921 + 4 + 0) ≤ 1000000
  omega
/-- what stands on the right of + -/
def OddC (K : PySem.W.Frag) (H0 H : Hp) (v : V) : Prop := (∃ d, Rp K H v d ∧ isLst d = false ∧ isDic d = false ∧ ShO d) ∨
  (∃ (p : Addr) (us : List Pm), v = .ref p ∧ H p = some (.lst (vls us)) ∧ PsAt H us ∧ (∀ x ∈ kys us, ShT (encT x)) ∧ us.length ≤ 80 ∧ H0 p = none) ∨
  (∃ p : Addr, v = .ref p ∧ H p = some (.dK []) ∧ H0 p = none)
def spOddR (C : Addr) : Sp := fun vs H Q _ => ∃ (b a : Addr) (k n j : Nat) (qs : List Pm), vs = [.ref b, .ref a] ∧ BoxAt H b k ∧ k ≤ 90000 ∧ ChN C (fun x => x ≠ b) H a n qs j ∧ ChOk n (kys qs) ∧ qs.length ≤ 79 ∧ ∀ H', But b H H' → BoxAt H' b (k + 1) → Q (.bl true) H'
section
variable {P : Program} {w : World} {K : PySem.W.Frag} {mg : Str → Option Value} {base : Heap} {f C : Addr} {fd : FuncData}
theorem ok_oddr (F : Fun K "_law_odd_right" "_law_odd_right" sOddR f fd) (R : OrK P w K mg base C) : FnG P w K mg base CX0 10 f fd ["_law_box_here", "_law_change"] (spOddR C) := by
  refine FnG.of_body F scOddR (fun vs H Q E h => ?_) (fun cdv A outer s H vs Q E hg hr h => ?_)
  · obtain ⟨b, a, k, n, j, qs, rfl, _⟩ := h
    rfl
  · obtain ⟨b, a, k, n, j, qs, rfl, B, hk, ha, okq, l79, q⟩ := h
    obtain ⟨tl, pl, ql⟩ := or_five (outer := outer) (H := H) (E := E) R hr
    obtain ⟨fC, fdC, GC, kC, bC, gC⟩ := R.C_
    obtain ⟨fF, fdF, mF, bF, GF⟩ := R.F
    obtain ⟨fD, fdD, GD, kD, bD, gD⟩ := R.D
    have c := R.c
    have hr1 := hr.mono (show 1 ≤ 9 by decide)
    have hu1 : (A.deeper (envOfC "_law_odd_right" (defScope sOddR) s.heap.objs.size f cdv)).units + 1 < cLine := by have := hr.un; omega
    refine ⟨_, pss_cons (ps_set (i := 2) scOddR.nd rfl (.inl rfl) (pe_ix (r := rIx K) ix_seq (pe_lst (pa_cons pe_non (pa_cons pe_int (pa_cons pe_bl (pa_cons pe_str (pa_cons (pe_lst (pa_cons pe_int pa_nil)) (pa_cons (pe_meth0 (pv 1) c.cl mF GF hr1 bF .nil pass0) (pa_cons (pe_tup (pa_cons pe_int (pa_cons (pe_lst (pa_cons pe_int pa_nil)) pa_nil))) (pa_cons pe_dnewK pa_nil))))))))) (pe_call GD hr1 rfl gD kD bD .nil pass0 (pa_cons (pv 0) (pa_cons pe_int pa_nil))) (fun _ _ => rfl)))
      (pss_cons (ps_set (i := 3) scOddR.nd rfl (.inl rfl) (pe_call GC hr rfl gC kC bC .nil pass0 (pa_cons (pv 1) (pa_cons (pv 2) pa_nil))))
      (pss_cons (ps_if (pt_val (pt_isi "list" (pv 2) (hm := R.mi) (mn := R.mL))) (pss_one (ps_expr (pe_bm PySem.F.plainAttrs_list PySem.F.slot_list_append PySem.F.type_list_append mt_append (pv 2) (pa_cons pe_str pa_nil)))) pss_nil)
      (pss_cons (ps_if (pt_val (pt_isi "dict" (pv 2) (hm := R.mi) (mn := R.md))) (pss_one (ps_asg pe_int (pg_sub (pv 2) pe_str (set_dict (by exact hu1))))) pss_nil)
      (pss_cons (ps_if (pt_cmpR op_ne (pe_callB (call_reprA hg hr.units) (by rfl) R.mp (by decide +kernel) (pa_cons (pv 3) pa_nil)) (pe_callB (call_reprA hg hr.units) (by rfl) R.mp (by decide +kernel) (pa_cons (pe_lst (pa_cons pe_str (pa_cons (pv 2) pa_nil))) pa_nil)) (nomark _)) (pss_one (ps_ret pe_bl)) pss_nil) pl)))), ?_⟩
    have pq : PsAt H qs := by
      obtain ⟨_, _, _, _, _, _, _, _, _, _, _, _, _, hp, _⟩ := id ha
      exact hp
    obtain ⟨dx, T, l, r, st, ts, ea, _⟩ := id ha
    -- what repr and the rest make of it
    have tail : ∀ (H5 : Hp) (v : V) (R5 : Addr) (d : PyData) (De : Ends), But b H H5 → BoxAt H5 b (k + 1) → H5 R5 = some (.lst [.str "change", v]) → Rp K H5 v d → ShO d → De.rt = Q →
        True := fun _ _ _ _ _ _ _ _ _ _ _ => trivial
    refine ⟨(by decide), fun p1 hp1 => ?_⟩
    have s1 := Same.new (o := .lst [.int 0]) hp1
    have g1 : (upd H p1 (.lst [.int 0])) p1 = some (.lst (vls [zP])) := upd_same
    generalize upd H p1 (.lst [.int 0]) = H1 at s1 g1 ⊢
    refine ⟨_, rfl, a, dx, _, rfl, s1 _ _ ea, rfl, a, n, qs, j, rfl, (ha.same s1).at, fun p2 hp2 => ?_⟩
    have s2 := Same.new (o := .lst (vls qs)) hp2
    have g2 : (upd H1 p2 (.lst (vls qs))) p2 = some (.lst (vls qs)) := upd_same
    generalize upd H1 p2 (.lst (vls qs)) = H2 at s2 g2 ⊢
    refine ⟨(by decide), fun p3 hp3 => ⟨(by show 2 ≤ sizeLine; decide), fun p4 hp4 => ?_⟩⟩
    have s3 := Same.new (o := .lst [.int 0]) hp3
    have s4 := Same.new (o := .tup [.int 3, .ref p3]) hp4
    have g3 : (upd (upd H2 p3 (.lst [.int 0])) p4 (.tup [.int 3, .ref p3])) p3 = some (.lst [.int 0]) := s4 _ _ upd_same
    have g4 : (upd (upd H2 p3 (.lst [.int 0])) p4 (.tup [.int 3, .ref p3])) p4 = some (.tup [.int 3, .ref p3]) := upd_same
    have s34 := s3.trans s4
    generalize upd (upd H2 p3 (.lst [.int 0])) p4 (.tup [.int 3, .ref p3]) = H4 at s34 g3 g4 ⊢
    refine fun p5 hp5 => ⟨(by show 8 ≤ sizeLine; decide), fun L hL => ?_⟩
    have s5 := Same.new (o := .dK []) hp5
    have g5 : (upd H4 p5 (.dK [])) p5 = some (.dK []) := upd_same
    have s6 := Same.new (o := .lst [.non, .int 7, .bl true, .str "ab", .ref p1, .ref p2, .ref p4, .ref p5]) hL
    have gL : (upd (upd H4 p5 (.dK [])) L (.lst [.non, .int 7, .bl true, .str "ab", .ref p1, .ref p2, .ref p4, .ref p5])) L = some (.lst [.non, .int 7, .bl true, .str "ab", .ref p1, .ref p2, .ref p4, .ref p5]) := upd_same
    have s56 := s5.trans s6
    have g5' := s6 _ _ g5
    generalize upd (upd H4 p5 (.dK [])) L (.lst [.non, .int 7, .bl true, .str "ab", .ref p1, .ref p2, .ref p4, .ref p5]) = H6 at s56 gL g5' ⊢
    have s12 := s1.trans s2
    have s14 := s12.trans s34
    have s16 := s14.trans s56
    have B6 : BoxAt H6 b k := B.keep fun o e => s16 _ _ e
    have nb : ∀ {p : Addr} {o : HO}, H p = none → H6 p = some o → p ≠ b := fun {p o} h0 _ z => by
      obtain ⟨_, _, _, eb, _⟩ := id B
      rw [z, eb] at h0
      cases h0
    refine ⟨_, rfl, b, 8, k, rfl, B6, by omega, by decide, by decide, fun r7 H7 r0 r1 B7 k7 => ?_⟩
    obtain ⟨jj, rfl, hj⟩ := draw_at (n := 8) r0 r1 rfl
    have f1 : H p1 = none := hp1
    have f2 : H p2 = none := s1.free hp2
    have f3 : H p3 = none := s12.free hp3
    have f4 : H p4 = none := (s12.trans s3).free hp4
    have f5 : H p5 = none := s14.free hp5
    have fL : H L = none := (s14.trans s5).free hL
    have e1 := k7 _ _ (nb f1 (s56 _ _ (s34 _ _ (s2 _ _ g1)))) (s56 _ _ (s34 _ _ (s2 _ _ g1)))
    have e2 := k7 _ _ (nb f2 (s56 _ _ (s34 _ _ g2))) (s56 _ _ (s34 _ _ g2))
    have e3 := k7 _ _ (nb f3 (s56 _ _ g3)) (s56 _ _ g3)
    have e4 := k7 _ _ (nb f4 (s56 _ _ g4)) (s56 _ _ g4)
    have e5 := k7 _ _ (nb f5 g5') g5'
    have eL := k7 _ _ (nb fL gL) gL
    have k07 : But b H H7 := (But.same s16).trans k7
    have ha7 := ha.but B k07
    have pq7 := pq.but B k07
    obtain ⟨v, hv, od⟩ : ∃ v, ([.non, .int 7, .bl true, .str "ab", .ref p1, .ref p2, .ref p4, .ref p5] : List V)[jj]? = some v ∧ OddC K H H7 v := by
      match jj, hj with
      | 0, _ => exact ⟨_, rfl, .inl ⟨.none, .non, rfl, rfl, by decide +kernel, by decide, by decide, by decide⟩⟩
      | 1, _ => exact ⟨_, rfl, .inl ⟨.int 7, .int _, rfl, rfl, by decide +kernel, by decide, by decide, by decide⟩⟩
      | 2, _ => exact ⟨_, rfl, .inl ⟨.bool true, .bl _, rfl, rfl, by decide +kernel, by decide, by decide, by decide⟩⟩
      | 3, _ => exact ⟨_, rfl, .inl ⟨.str "ab", .str _, rfl, rfl, rfl, (fun z => nomatch z), by decide, by decide +kernel⟩⟩
      | 4, _ => exact ⟨_, rfl, .inr (.inl ⟨p1, [zP], rfl, e1, fun p hp => by rw [List.mem_singleton.mp hp]; rfl, ch_sh (zero_chok (m := 80) (by decide) (by decide)), by decide, f1⟩)⟩
      | 5, _ => exact ⟨_, rfl, .inr (.inl ⟨p2, qs, rfl, e2, pq7, ch_sh okq, by omega, f2⟩)⟩
      | 6, _ => exact ⟨_, rfl, .inl ⟨.tuple [.int 3, .list [.int 0]], .tup e4 (.cons (.int _) (.cons (.lst e3 (.cons (.int _) .nil)) .nil)), rfl, rfl, by decide +kernel, (fun z => nomatch z), by decide, by decide⟩⟩
      | 7, _ => exact ⟨_, rfl, .inr (.inr ⟨p5, rfl, e5, f5⟩)⟩
    refine .inl ⟨L, _, _, v, rfl, rfl, .of eL, atI_nat hv, ?_⟩
    have dv : ∃ d, Rp K H7 v d := by
      rcases od with ⟨d, h, _⟩ | ⟨p, us, rfl, e, pu, _⟩ | ⟨p, rfl, e, _⟩
      · exact ⟨d, h⟩
      · exact ⟨.list ((kys us).map encT), .lst e pu.rps⟩
      · exact ⟨.dict [], .dic e .nil .nil⟩
    obtain ⟨dd, hd⟩ := dv
    refine ⟨_, rfl, _, rfl, a, v, n, qs, j, rfl, ha7.at, okq.ok, .inl ⟨dd, hd, fun R8 H8 hR8 _ s8 eR => ?_⟩⟩
    have k08 : But b H H8 := k07.trans (.same s8)
    have B8 : BoxAt H8 b (k + 1) := B7.keep fun o e => s8 _ _ e
    have ha8 := (ha.but B k08).at
    have fin : ∀ (H9 : Hp) (d : PyData), But b H H9 → BoxAt H9 b (k + 1) → H9 R8 = some (.lst [.str "change", v]) → Rp K H9 v d → ShO d → ∀ (G : Prop), ((∀ p, H9 p = none → ∃ (v1 : V) (d1 : PyData), [V.ref R8] = [v1] ∧ Rp K H9 v1 d1 ∧ Shw d1 ∧ Rp K (upd H9 p (.lst [.str "change", v])) (.ref p) d1) → G) → G := fun H9 d _ _ e9 h9 so G g => g fun p hp =>
      ⟨_, .list [.str "change", d], rfl, .lst e9 (.cons (.str _) (.cons h9 .nil)), chg_shw so, .lst upd_same (.cons (.str _) (.cons (rp_same (Same.new hp) _ _ h9) .nil))⟩
    have go : ∀ (H9 : Hp) (d : PyData), But b H H9 → BoxAt H9 b (k + 1) → H9 R8 = some (.lst [.str "change", v]) → Rp K H9 v d → ShO d → ∀ (x4 : Option V) (p : Addr), H9 p = none →
        tl { nx := fun _ H' => Q .non H', rt := Q } [some (.ref b), some (.ref a), some v, some (.ref R8), x4] (upd H9 p (.lst [.str "change", v])) := fun H9 d k9 B9 _ _ _ x4 p hp => by
      have kp : But b H (upd H9 p (.lst [.str "change", v])) := k9.trans (But.new hp)
      refine ql _ _ _ _ _ a n j qs _ (ha.but B kp).at okq l79 fun H' s' => q H' (kp.trans (.same s')) ((box_new B9 hp).keep fun o e => s' _ _ e)
    rcases od with ⟨d, h, hl, hdc, so⟩ | ⟨p, us, rfl, ep, pu, su, lu, fp⟩ | ⟨p, rfl, ep, fp⟩
    · have h8 := rp_same s8 _ _ h
      refine ⟨_, rfl, _, _, _, _, _, rfl, .ty _, rp_ty h8, kit_l d, _, rfl, ?_⟩
      rw [hl]
      refine iteF ⟨_, rfl, _, _, _, _, _, rfl, .ty _, rp_ty h8, kit_d d, _, rfl, ?_⟩
      rw [hdc]
      refine iteF ⟨_, rfl, .ref R8, .list [.str "change", d], rfl, .lst eR (.cons (.str _) (.cons h8 .nil)), chg_shw so, _, rfl, (by show 2 ≤ sizeLine; decide), fun p9 hp9 => ?_⟩
      refine ⟨_, .list [.str "change", d], rfl, .lst upd_same (.cons (.str _) (.cons (rp_same (Same.new hp9) _ _ h8) .nil)), chg_shw so, rfl, _, rfl, ne_ifL rfl ?_⟩
      exact go H8 d k08 B8 eR h8 so none p9 hp9
    · have ep8 := s8 _ _ ep
      have pu8 := pu.same s8
      have nRp : R8 ≠ p := (ne_of_none ep hR8).symm
      have npb : p ≠ b := fun z => by
        obtain ⟨_, _, _, eb, _⟩ := id B
        rw [z, eb] at fp
        cases fp
      refine ⟨_, rfl, _, _, _, _, _, rfl, .ty _, rp_ty (.lst ep8 pu8.rps), kit_l (.list ((kys us).map encT)), _, rfl, iteT ?_⟩
      refine ⟨_, rfl, .inl ⟨rfl, _, .of ep8⟩, p, _, _, rfl, rfl, ep8, ?_, ?_⟩
      · unfold vls
        rw [List.length_map]
        exact small1000 (by omega)
      have up : ∀ t xs, H8 t = some (.tup xs) → (upd H8 p (.lst (vls us ++ [.str "more"]))) t = some (.tup xs) := fun t xs e => (upd_ne (fun z => by rw [z, ep8] at e; cases e)).trans e
      have h9 : Rp K (upd H8 p (.lst (vls us ++ [.str "more"]))) (.ref p) (.list ((kys us).map encT ++ [.str "more"])) := .lst upd_same (rp_more (pu8.at up))
      have k9 : But b H (upd H8 p (.lst (vls us ++ [.str "more"]))) := but_upd k08 fp
      have B9 : BoxAt (upd H8 p (.lst (vls us ++ [.str "more"]))) b (k + 1) := box_upd B8 npb
      have e9 : (upd H8 p (.lst (vls us ++ [.str "more"]))) R8 = some (.lst [.str "change", .ref p]) := (upd_ne nRp).trans eR
      generalize upd H8 p (.lst (vls us ++ [.str "more"])) = H9 at h9 k9 B9 e9 ⊢
      obtain ⟨dM, h9', so, hk⟩ : ∃ d, Rp K H9 (.ref p) d ∧ ShO d ∧ isDic d = false := ⟨_, h9, lst_more su (by unfold kys; rw [List.length_map]; exact lu), rfl⟩
      clear h9
      refine ⟨_, rfl, _, _, _, _, _, rfl, .ty _, rp_ty h9', kit_d dM, _, rfl, ?_⟩
      rw [hk]
      refine iteF ?_
      refine ⟨_, rfl, .ref R8, .list [.str "change", dM], rfl, .lst e9 (.cons (.str _) (.cons h9' .nil)), chg_shw so, _, rfl, (by show 2 ≤ sizeLine; decide), fun p9 hp9 => ?_⟩
      refine ⟨_, .list [.str "change", dM], rfl, .lst upd_same (.cons (.str _) (.cons (rp_same (Same.new hp9) _ _ h9') .nil)), chg_shw so, rfl, _, rfl, ne_ifL rfl ?_⟩
      exact go H9 _ k9 B9 e9 h9' so none p9 hp9
    · have ep8 := s8 _ _ ep
      have nRp : R8 ≠ p := (ne_of_none ep hR8).symm
      have npb : p ≠ b := fun z => by
        obtain ⟨_, _, _, eb, _⟩ := id B
        rw [z, eb] at fp
        cases fp
      refine ⟨_, rfl, _, _, _, _, _, rfl, .ty _, rp_ty (d := .dict []) (.dic ep8 .nil .nil), kit_l (.dict []), _, rfl, iteF ?_⟩
      refine ⟨_, rfl, _, _, _, _, _, rfl, .ty _, rp_ty (d := .dict []) (.dic ep8 .nil .nil), kit_d (.dict []), _, rfl, iteT ?_⟩
      refine ⟨_, rfl, p, _, rfl, .inl ⟨[], Sum.inr "more", ep8, rfl, (by decide), rfl⟩, ?_⟩
      have h9 : Rp K (upd H8 p (.dK (putK [] (Sum.inr "more") (.int 1)))) (.ref p) dicD := .dic upd_same (.cons (.str _) .nil) (.cons (.int _) .nil)
      have k9 : But b H (upd H8 p (.dK (putK [] (Sum.inr "more") (.int 1)))) := but_upd k08 fp
      have B9 : BoxAt (upd H8 p (.dK (putK [] (Sum.inr "more") (.int 1)))) b (k + 1) := box_upd B8 npb
      have e9 : (upd H8 p (.dK (putK [] (Sum.inr "more") (.int 1)))) R8 = some (.lst [.str "change", .ref p]) := (upd_ne nRp).trans eR
      generalize upd H8 p (.dK (putK [] (Sum.inr "more") (.int 1))) = H9 at h9 k9 B9 e9 ⊢
      obtain ⟨dM, h9', so⟩ : ∃ d, Rp K H9 (.ref p) d ∧ ShO d := ⟨_, h9, dic_sho⟩
      clear h9
      refine ⟨_, rfl, .ref R8, .list [.str "change", dM], rfl, .lst e9 (.cons (.str _) (.cons h9' .nil)), chg_shw so, _, rfl, (by show 2 ≤ sizeLine; decide), fun p9 hp9 => ?_⟩
      refine ⟨_, .list [.str "change", dM], rfl, .lst upd_same (.cons (.str _) (.cons (rp_same (Same.new hp9) _ _ h9') .nil)), chg_shw so, rfl, _, rfl, ne_ifL rfl ?_⟩
      exact go H9 _ k9 B9 e9 h9' so none p9 hp9
end
end G
set_option Elab.async false
set_option linter.all false
set_option maxRecDepth 100000
set_option maxHeartbeats 3000000
/-! YZ: a turn of the law. -/
namespace G
open PySem PySem.Spec PyProof.Rows L2 NdefX StX PySem.W
abbrev sLaw : Stmt := topS 51
abbrev nLaw : List Str := ["_law_script", "_law_k", "_law_box_here", "_law_turn", "_law_before", "_law_pool", "_law_lists", "_law_lap"]
theorem scLaw : FnScope nLaw ["_law_script"] (defScope sLaw) := ⟨rfl, rfl, rfl, by decide +kernel, rfl, by decide +kernel, by decide +kernel⟩
/-- what the law asks -/
structure LwK (P : Program) (w : World) (K : PySem.W.Frag) (mg : Str → Option Value) (base : Heap) (C CI CM CX : Addr) : Prop where
  T : ∃ f fd, FnOk P w K mg base CX0 1 f fd ["_law_box_here", "_law_many"] spTake ∧ PySem.W.keepIn K (.ref f) = true ∧ Binds K fd ["_law_box_here", "_law_many"] [] ∧ mg "_law_take" = some (.ref f)
  R : ∃ f fd, FnOk P w K mg base CX0 3 f fd ["_law_box_here", "_law_many"] spRows ∧ PySem.W.keepIn K (.ref f) = true ∧ Binds K fd ["_law_box_here", "_law_many"] [] ∧ mg "_law_rows" = some (.ref f)
  M : ∃ f fd, FnOk P w K mg base CX0 2 f fd ["_law_box_here", "_law_some"] (spMixR K) ∧ PySem.W.keepIn K (.ref f) = true ∧ Binds K fd ["_law_box_here", "_law_some"] [] ∧ mg "_law_mixed" = some (.ref f)
  A : ∃ f fd, FnOk P w K mg base CX0 3 f fd ["_law_box_here", "_law_before", "_law_rows_here"] spAfter ∧ PySem.W.keepIn K (.ref f) = true ∧ Binds K fd ["_law_box_here", "_law_before", "_law_rows_here"] [] ∧ mg "_law_after" = some (.ref f)
  G : ∃ f fd, FnG P w K mg base CX0 10 f fd ["_law_before", "_law_lists"] spRight ∧ PySem.W.keepIn K (.ref f) = true ∧ Binds K fd ["_law_before", "_law_lists"] [] ∧ mg "_law_right" = some (.ref f)
  O : ∃ f fd, FnG P w K mg base CX0 10 f fd ["_law_box_here", "_law_change"] (spOddR C) ∧ PySem.W.keepIn K (.ref f) = true ∧ Binds K fd ["_law_box_here", "_law_change"] [] ∧ mg "_law_odd_right" = some (.ref f)
  C_ : ∃ f fd, MkC P w K mg base C f fd
  mr : mg "range" = none
  ml : mg "len" = none
abbrev xLw (P : Program) (w : World) (K : PySem.W.Frag) (mg : Str → Option Value) (base : Heap) (f : Addr) (cdv : Value) (A : Around) (outer : List Env) (s : Shared) (H : Hp) (E : XK) : Cx := (cxOf CX0 P w K mg base nLaw "law" (defScope sLaw) f cdv A outer s H E).nox
abbrev rmLw (f : Addr) (cdv : Value) (A : Around) (s : Shared) : Prop := Room 10 (A.deeper (envOfC "law" (defScope sLaw) s.heap.objs.size f cdv))
def bodyOf : Stmt → List Stmt
  | .For (body := b) .. => b
  | _ => []
/-- the body of the inner loop -/
abbrev inLaw : List Stmt := bodyOf ((bodyOf ((defBody sLaw).getD 0 (.Pass ⟨0, 0, 0, 0⟩))).getD 1 (.Pass ⟨0, 0, 0, 0⟩))
section
variable {P : Program} {w : World} {K : PySem.W.Frag} {mg : Str → Option Value} {base : Heap} {f C CI CM CX : Addr} {fd : FuncData}
theorem turn24 {cdv : Value} {A : Around} {outer : List Env} {s : Shared} {H : Hp} {E : XK} (R : LwK P w K mg base C CI CM CX) (hg : (A.deeper (envOfC "law" (defScope sLaw) s.heap.objs.size f cdv)).guards = some []) (hr : rmLw f cdv A s) :
    ∃ t, PSs (xLw P w K mg base f cdv A outer s H E) inLaw t ∧
      ∀ (De : Ends) (x0 x1 x3 x4 x5 x6 x7 : Option V) (b : Addr) (n0 : Nat) (H1 : Hp), BoxAt H1 b n0 → n0 ≤ 30000 → (∀ (y4 y5 y6 y7 : Option V) (H' : Hp), BoxAt H' b (n0 + 1800) → But b H1 H' → De.nx [x0, x1, some (.ref b), x3, y4, y5, y6, y7] H') →
        t De [x0, x1, some (.ref b), x3, x4, x5, x6, x7] H1 := by
  obtain ⟨fT, fdT, GT, kT, bT, gT⟩ := R.T
  obtain ⟨fR, fdR, GR, kR, bR, gR⟩ := R.R
  obtain ⟨fM, fdM, GM, kM, bM, gM⟩ := R.M
  obtain ⟨fA, fdA, GA, kA, bA, gA⟩ := R.A
  obtain ⟨fG, fdG, GG, kG, bG, gG⟩ := R.G
  obtain ⟨fO, fdO, GO, kO, bO, gO⟩ := R.O
  obtain ⟨fC, fdC, MM⟩ := R.C_
  have hr1 := hr.mono (show 1 ≤ 10 by decide)
  have hr2 := hr.mono (show 2 ≤ 10 by decide)
  have hr3 := hr.mono (show 3 ≤ 10 by decide)
  have hr7 := hr.mono (show 6 + 1 ≤ 10 by decide)
  refine ⟨_, pss_cons (ps_par (i := 4) (j := 5) (by rfl) scLaw.nd rfl rfl (by decide) rfl rfl (pa_cons (pe_call GT hr1 rfl gT kT bT .nil pass0 (pa_cons (pv 2) (pa_cons pe_int pa_nil))) (pa_cons (pe_call GR hr3 rfl gR kR bR .nil pass0 (pa_cons (pv 2) (pa_cons pe_int pa_nil))) pa_nil)) (by rfl))
      (pss_cons (ps_set (i := 6) scLaw.nd rfl (.inl rfl) (pe_lst (pa_cons (pe_call GA hr3 rfl gA kA bA .nil pass0 (pa_cons (pv 2) (pa_cons (pv 4) (pa_cons (pe_slice (r := rSlL K) sl_list (pe_call GM hr2 rfl gM kM bM .nil pass0 (pa_cons (pv 2) (pa_cons (pv 5) pa_nil))) po_none (po_some (pe_call GT hr1 rfl gT kT bT .nil pass0 (pa_cons (pv 2) (pa_cons pe_int pa_nil))))) pa_nil)))) pa_nil)))
      (pss_cons (ps_for PassesOwn.never rfl (pi_range1 rfl R.mr (pa_cons pe_int pa_nil)) (pg_name (i := 7) scLaw.nd rfl (.inl rfl)) (pss_one (ps_expr (pe_bm PySem.F.plainAttrs_list PySem.F.slot_list_append PySem.F.type_list_append mt_append (pv 6) (pa_cons (pe_call GA hr3 rfl gA kA bA .nil pass0 (pa_cons (pv 2) (pa_cons (pe_callB call_len_seq (by rfl) R.ml PySem.boot_len (pa_cons (pe_ix (r := rIx K) ix_seq (pv 6) (pe_un un_neg pe_int) (fun _ _ => rfl)) pa_nil)) (pa_cons (pe_slice (r := rSlL K) sl_list (pe_call GM hr2 rfl gM kM bM .nil pass0 (pa_cons (pv 2) (pa_cons (pv 5) pa_nil))) po_none (po_some (pe_call GT hr1 rfl gT kT bT .nil pass0 (pa_cons (pv 2) (pa_cons pe_int pa_nil))))) pa_nil)))) pa_nil)))))
      (pss_one (ps_if (PW.pt (pw_or (pt_not (pt_val (pe_callG GG hg hr rfl gG kG bG .nil pass0 (pa_cons (pv 4) (pa_cons (pv 6) pa_nil))))) (pw_or1 (pt_not (pt_val (pe_callG GO hg hr rfl gO kO bO .nil pass0 (pa_cons (pv 2) (pa_cons (pe_make MM.M MM.G hr7 rfl MM.g MM.b .nil pass0 (pa_cons (pv 4) (pa_cons (pe_ix (r := rIx K) ix_seq (pv 6) pe_int (fun _ _ => rfl)) pa_nil))) pa_nil)))))))) (pss_one (ps_ret pe_bl)) pss_nil)))), ?_⟩
  intro De x0 x1 x3 x4 x5 x6 x7 b n0 H1 B hn q
  refine ⟨_, rfl, b, 10, n0, rfl, B, by omega, by decide, by decide, fun r H2 r0 r1 B2 k2 => ?_⟩
  obtain ⟨bf, rfl, hbf⟩ := draw_at (n := 10) r0 r1 rfl
  refine ⟨_, rfl, b, 7, n0 + 1, rfl, B2, by omega, by decide, fun PL H3 ps lp rws pp fP eP B3 k3 => ⟨_, _, rfl, ?_⟩⟩
  have nP := box_ne B2 fP
  -- some of the rows, in any order
  have cutD : ∀ (H5 : Hp) (m5 : Nat) (σ : L2.St) (S : V → Hp → Prop), BoxAt H5 b m5 → m5 ≤ 35000 → But b H3 H5 → σ[2]? = some (some (.ref b)) → σ[5]? = some (some (.ref PL)) →
      (∀ (l : Addr) (us : List Pm) (H6 : Hp), H5 l = none → But b H5 H6 → BoxAt H6 b (m5 + 8) → H6 l = some (.lst (vls us)) → PsAt H6 us → Rws us → us.length ≤ 4 → l ≠ b → S (.ref l) H6) →
      tSl (rSlL K) (tCall (spMixR K) [] E0 (tCons (tVar 2) (tCons (tVar 5) tNil))) tNoPart (tPart (tCall spTake [] E0 (tCons (tVar 2) (tCons (tC (.int 5)) tNil)))) σ H5 S := by
    intro H5 m5 σ S B5 h5 k5 e2 e5 g
    have lv : (vls ps).length = 7 := (List.length_map ..).trans lp
    have eP5 := k5 _ _ nP eP
    refine ⟨_, e2, _, e5, b, PL, m5, vls ps, rfl, B5, by omega, .of eP5, fun p H6 ys pm hp e6 B6 k6 => ?_⟩
    obtain ⟨ms, rfl, pm2⟩ := perm_pull (fun p : Pm => p.1) pm
    have np := box_ne B5 hp
    refine ⟨_, e2, b, 5, _, rfl, B6, by omega, by decide, by decide, fun r H7 r0 r1 B7 k7 => ?_⟩
    obtain ⟨c, rfl, hc⟩ := draw_at (n := 5) r0 r1 rfl
    have e7 := k7 _ _ np e6
    refine ⟨_, rfl, p, _, rfl, .of e7, fun l hl => ?_⟩
    have kk : But b H5 (upd H7 l (.lst (cutV (vls ms) none (some (c : Int))))) := (k6.trans k7).trans (But.new hl)
    have pk : (kys ms).Perm (kys ps) := pm2.map _
    refine g l (ms.take c) _ (free_of (k6.trans k7) (box_ne B7 hl) hl) kk ((box_new B7 hl).mono (by omega)) ?_ ?_ ?_ ?_ (box_ne B7 hl)
    · rw [upd_same, cutV_take]
      unfold vls
      rw [List.map_take]
    · exact ((pp.but B3 (k5.trans kk)).sub fun p hp => pm2.mem_iff.mp (List.mem_of_mem_take hp))
    · have sub : (kys (ms.take c)).Sublist (kys ms) := by
        unfold kys
        rw [List.map_take]
        exact List.take_sublist _ _
      exact ⟨(pk.nodup_iff.mpr rws.nd).sublist sub, fun x hx => rws.ok x (pk.mem_iff.mp (sub.subset hx)), fun x hx => rws.rw x (pk.mem_iff.mp (sub.subset hx))⟩
    · rw [List.length_take]
      omega
  -- the first list
  refine ⟨_, rfl, _, rfl, cutD H3 (n0 + 201) _ _ B3 (by omega) (But.refl _ _) rfl rfl fun l us H4 hl k4 B4 e4 p4 w4 l4 nl => ?_⟩
  refine ⟨b, l, bf, _, us, rfl, B4, by omega, by omega, e4, p4, w4, by omega, nl, fun l0 H5 q0 ok0 p0 len0 f0 e0 B5 k5 => ?_⟩
  refine ⟨(by show 1 ≤ sizeLine; decide), fun Ls hLs => ?_⟩
  have n0b := box_ne B4 f0
  have nLs := box_ne B5 hLs
  have k35 : But b H3 (upd H5 Ls (.lst [.ref l0])) := (k4.trans k5).trans (But.new hLs)
  have B6 := box_new (o := .lst [.ref l0]) B5 hLs
  have n0L : l0 ≠ Ls := ne_of_none e0 hLs
  have e06 := (upd_ne (o := .lst [.ref l0]) n0L).trans e0
  have eL6 : (upd H5 Ls (.lst [.ref l0])) Ls = some (.lst [.ref l0]) := upd_same
  have p06 := p0.same (Same.new (o := .lst [.ref l0]) hLs)
  have fLs : H3 Ls = none := free_of (k4.trans k5) nLs hLs
  generalize upd H5 Ls (.lst [.ref l0]) = H6 at k35 B6 e06 eL6 p06 ⊢
  refine ⟨_, rfl, by decide, by decide, ?_⟩
  refine for_range (lo := 0) (n := 2) (fun i σ H7 => BoxAt H7 b (n0 + 509 + 500 * i) ∧ But b H3 H7 ∧ H7 l0 = some (.lst (vls q0)) ∧ PsAt H7 q0 ∧ ∃ (x7 : Option V), σ = [x0, x1, some (.ref b), x3, some (.int (bf : Nat)), some (.ref PL), some (.ref Ls), x7] ∧
    (match i with
      | 0 => H7 Ls = some (.lst [.ref l0])
      | 1 => ∃ l1 q1, H7 Ls = some (.lst [.ref l0, .ref l1]) ∧ H7 l1 = some (.lst (vls q1)) ∧ PsAt H7 q1 ∧ ChOk q0.length (kys q1) ∧ q1.length ≤ q0.length + 4 ∧ l1 ≠ b ∧ l1 ≠ Ls
      | _ => ∃ l1 q1 l2 q2, H7 Ls = some (.lst [.ref l0, .ref l1, .ref l2]) ∧ H7 l1 = some (.lst (vls q1)) ∧ PsAt H7 q1 ∧ ChOk q0.length (kys q1) ∧ H7 l2 = some (.lst (vls q2)) ∧ PsAt H7 q2 ∧ ChOk q1.length (kys q2))) ?_ ?_ ?_
  · exact ⟨B6.mono (by omega), k35, e06, p06, x7, rfl, eL6⟩
  · rintro i σ H7 hi ⟨B7, k7, e07, p07, x7, rfl, hh⟩
    have fin : ∀ {H8 : Hp} {xs : List V}, H8 Ls = some (.lst xs) → ∀ t zs, H8 t = some (.tup zs) → ∀ ys, (upd H8 Ls (.lst ys)) t = some (.tup zs) := fun {H8 xs} e t zs et ys => (upd_ne (fun z => by rw [z, e] at et; cases et)).trans et
    match i, hi, hh with
    | 0, _, hh =>
      have eL7 : H7 Ls = some (.lst [.ref l0]) := hh
      refine ⟨_, rfl, .inl ⟨rfl, _, .of eL7⟩, _, rfl, _, rfl, _, rfl, .inl ⟨Ls, _, _, _, rfl, rfl, .of eL7, atI_last [] _, l0, _, rfl, .inl (.of e07), ?_⟩⟩
      refine cutD H7 _ _ _ B7 (by omega) k7 rfl rfl fun l us H8 hl k8 B8 e8 p8 w8 l8 nl => ?_
      refine ⟨b, l, q0.length, _, us, ?_, B8, by omega, by omega, e8, p8, w8, by omega, nl, fun l1 H9 q1 ok1 p1 len1 f1 e1 B9 k9 => ?_⟩
      · rw [show (vls q0).length = q0.length from List.length_map ..]
        rfl
      have k79 := k8.trans k9
      have eL9 := k79 _ _ nLs eL7
      have n1L : l1 ≠ Ls := fun z => by
        have := k8 _ _ nLs eL7
        rw [← z, f1] at this
        cases this
      refine ⟨Ls, _, _, rfl, rfl, eL9, (by show 1 < sizeLine; decide), ?_⟩
      refine ⟨(box_upd B9 nLs).mono (by omega), but_upd (k7.trans k79) fLs, (upd_ne n0L).trans (k79 _ _ n0b e07), (p07.but B7 k79).at fun t zs et => fin eL9 t zs et _, _, rfl, l1, q1, upd_same, (upd_ne n1L).trans e1, p1.at fun t zs et => fin eL9 t zs et _, ok1, by omega, box_ne B8 f1, n1L⟩
    | 1, _, hh =>
      obtain ⟨l1, q1, eL7, e17, p17, ok1, len1, n1b, n1L⟩ := hh
      refine ⟨_, rfl, .inl ⟨rfl, _, .of eL7⟩, _, rfl, _, rfl, _, rfl, .inl ⟨Ls, _, _, _, rfl, rfl, .of eL7, atI_last [_] _, l1, _, rfl, .inl (.of e17), ?_⟩⟩
      refine cutD H7 _ _ _ B7 (by omega) k7 rfl rfl fun l us H8 hl k8 B8 e8 p8 w8 l8 nl => ?_
      refine ⟨b, l, q1.length, _, us, ?_, B8, by omega, by omega, e8, p8, w8, by omega, nl, fun l2 H9 q2 ok2 p2 len2 f2 e2 B9 k9 => ?_⟩
      · rw [show (vls q1).length = q1.length from List.length_map ..]
        rfl
      have k79 := k8.trans k9
      have eL9 := k79 _ _ nLs eL7
      have n2L : l2 ≠ Ls := fun z => by
        have := k8 _ _ nLs eL7
        rw [← z, f2] at this
        cases this
      refine ⟨Ls, _, _, rfl, rfl, eL9, (by show 2 < sizeLine; decide), ?_⟩
      refine ⟨(box_upd B9 nLs).mono (by omega), but_upd (k7.trans k79) fLs, (upd_ne n0L).trans (k79 _ _ n0b e07), (p07.but B7 k79).at fun t zs et => fin eL9 t zs et _, _, rfl, l1, q1, l2, q2, upd_same, (upd_ne n1L).trans (k79 _ _ n1b e17), (p17.but B7 k79).at fun t zs et => fin eL9 t zs et _, ok1, (upd_ne n2L).trans e2, p2.at fun t zs et => fin eL9 t zs et _, ok2⟩
    | i + 2, hi, _ => exact absurd hi (by omega)
  · rintro σ H7 ⟨B7, k7, e07, p07, x7, rfl, l1, q1, l2, q2, eL7, e17, p17, ok1, e27, p27, ok2⟩
    have k17 : But b H1 H7 := (k2.trans k3).trans k7
    refine ⟨_, rfl, _, rfl, bf, Ls, l0, l1, l2, q0, q1, q2, rfl, eL7, e07, e17, e27, p07, p17, p27, ok0, ok1, ok2, fun H8 s8 => ⟨_, rfl, iteF ?_⟩⟩
    refine ⟨_, rfl, _, rfl, _, rfl, ix_lst (j := 0) (s8 _ _ eL7) rfl ?_⟩
    have B8 : BoxAt H8 b (n0 + 1509) := B7.keep fun o e => s8 _ _ e
    refine ch_made (R := fun a H' => _) (s8 _ _ e07) (p07.same s8) ok0 fun cN H9 _ kN hcN s9 hN _ _ => ?_
    have B9 : BoxAt H9 b (n0 + 1509) := B8.keep fun o e => s9 _ _ e
    refine ⟨b, cN, _, bf, kN, q0, rfl, B9, by omega, hN.imp (fun x hx z => by
      obtain ⟨_, _, _, eb, _⟩ := id B8
      rw [z, eb] at hx
      cases hx), ok0, by omega, fun HA kA BA => ⟨_, rfl, iteF ?_⟩⟩
    exact q _ _ _ _ HA (BA.mono (by omega)) (k17.trans ((But.same s8).trans ((But.same s9).trans kA)))
end
end G
set_option Elab.async false
set_option linter.all false
set_option maxRecDepth 100000
set_option maxHeartbeats 3000000
/-! YY: the law. -/
namespace G
open PySem PySem.Spec PyProof.Rows L2 NdefX StX PySem.W
def spLaw (K : PySem.W.Frag) : Sp := fun vs H Q _ => ∃ (a : Addr) (ns : List Int), vs = [.ref a] ∧ SqL K H a (ns.map V.int) ∧ ns.length ≤ 63 ∧ ∀ H', Q (.bl true) H'
theorem same_but {b : Addr} {H H1 H2 : Hp} (s : Same H H1) (n : H b = none) (k : But b H1 H2) : Same H H2 := fun c o e => k c o (ne_of_none e n) (s c o e)
section
variable {P : Program} {w : World} {K : PySem.W.Frag} {mg : Str → Option Value} {base : Heap} {f C CI CM CX : Addr} {fd : FuncData}
theorem ok_law {fc fb : Addr} {fdc fdb : FuncData} (F : Fun K "law" "law" sLaw f fd) (R : LwK P w K mg base C CI CM CX)
    (Gc : FnOk P w K mg base CX0 1 fc fdc ["_law_script", "_law_k"] (spCell' K)) (kc : PySem.W.keepIn K (.ref fc) = true) (bc : Binds K fdc ["_law_script", "_law_k"] []) (gc : mg "_law_cell" = some (.ref fc))
    (Gb : FnOk P w K mg base CX0 1 fb fdb ["_law_cell_here"] spBox) (kb : PySem.W.keepIn K (.ref fb) = true) (bb : Binds K fdb ["_law_cell_here"] []) (gb : mg "_law_box" = some (.ref fb))
    (mmx : mg "max" = none) (mmn : mg "min" = none) : FnG P w K mg base CX0 11 f fd ["_law_script"] (spLaw K) := by
  refine FnG.of_body F scLaw (fun vs H Q E h => ?_) (fun cdv A outer s H vs Q E hg hr h => ?_)
  · obtain ⟨a, ns, rfl, _⟩ := h
    rfl
  · obtain ⟨a, ns, rfl, hS, hl, q⟩ := h
    have hr1 := hr.mono (show 1 ≤ 10 by decide)
    obtain ⟨tz, pz, qz⟩ := turn24 (outer := outer) (H := H) (E := E) R hg hr
    refine ⟨_, pss_cons (ps_for PassesOwn.never rfl (pi_range1 rfl R.mr (pa_cons (pe_callB (call_max2 rfl) (by rfl) mmx (by decide +kernel) (pa_cons pe_int (pa_cons (pe_callB (call_min2 rfl) (by rfl) mmn (by decide +kernel)
          (pa_cons pe_int (pa_cons (pe_callB call_len_seq (by rfl) R.ml PySem.boot_len (pa_cons (pv 0) pa_nil)) pa_nil))) pa_nil))) pa_nil)) (pg_name (i := 1) scLaw.nd rfl (.inl rfl))
        (pss_cons (ps_set (i := 2) scLaw.nd rfl (.inl rfl) (pe_call Gb hr1 rfl gb kb bb .nil pass0 (pa_cons (pe_call Gc hr1 rfl gc kc bc .nil pass0 (pa_cons (pv 0) (pa_cons (pv 1) pa_nil))) pa_nil)))
        (pss_one (ps_for PassesOwn.never rfl (pi_range1 rfl R.mr (pa_cons pe_int pa_nil)) (pg_name (i := 3) scLaw.nd rfl (.inl rfl)) pz))))
      (pss_one (ps_ret pe_bl)), ?_⟩
    refine ⟨_, rfl, a, _, rfl, .inl hS, _, _, rfl, _, _, rfl, ?_⟩
    generalize hm : (if (if ((ns.map V.int).length : Int) < (8 : Int) then ((ns.map V.int).length : Int) else (8 : Int)) > 2 then (if ((ns.map V.int).length : Int) < (8 : Int) then ((ns.map V.int).length : Int) else (8 : Int)) else 2) = m
    have hm8 : 0 ≤ m ∧ m ≤ 8 := by
      rw [← hm]
      split <;> split at * <;> omega
    refine ⟨m, rfl, by omega, by omega, ?_⟩
    refine for_range (lo := 0) (n := m.toNat) (fun i σ H' => Same H H' ∧ ∃ x1 x2 x3 x4 x5 x6 x7 : Option V, σ = [some (.ref a), x1, x2, x3, x4, x5, x6, x7]) ?_ ?_ ?_
    · exact ⟨fun _ _ e => e, none, none, none, none, none, none, none, rfl⟩
    · rintro i σ H1 hi ⟨s1, x1, x2, x3, x4, x5, x6, x7, rfl⟩
      refine ⟨_, rfl, _, rfl, a, ns, 0 + i, rfl, sqL_keep s1 hS, by omega, by omega, fun cell => ⟨cell, rfl, fun b H2 nb s2 B2 => ?_⟩⟩
      have s12 : Same H H2 := s1.trans s2
      have nbH : H b = none := s1.free nb
      refine ⟨4, rfl, by decide, by decide, ?_⟩
      refine for_range (lo := 0) (n := 4) (fun j σ H3 => BoxAt H3 b (1800 * j) ∧ But b H2 H3 ∧ ∃ x3 x4 x5 x6 x7 : Option V, σ = [some (.ref a), some (.int (0 + (i : Nat))), some (.ref b), x3, x4, x5, x6, x7]) ?_ ?_ ?_
      · exact ⟨B2, But.refl _ _, x3, x4, x5, x6, x7, rfl⟩
      · rintro j σ H3 hj ⟨B3, k3, y3, y4, y5, y6, y7, rfl⟩
        refine qz _ _ _ _ _ _ _ _ b (1800 * j) H3 B3 (by omega) fun z4 z5 z6 z7 H4 B4 k4 => ?_
        exact ⟨B4.mono (by omega), k3.trans k4, _, z4, z5, z6, z7, rfl⟩
      · rintro σ H3 ⟨B3, k3, y3, y4, y5, y6, y7, rfl⟩
        exact ⟨same_but s12 nbH k3, _, _, y3, y4, y5, y6, y7, rfl⟩
    · rintro σ H1 ⟨s1, x1, x2, x3, x4, x5, x6, x7, rfl⟩
      exact q H1
end
end G
set_option Elab.async false
set_option linter.all false
set_option maxRecDepth 100000
set_option maxHeartbeats 2000000
/-! HK: the head's facts by a Hook of our own: methods that capture __class__, properties, instances that are called; the law's end over it. -/
namespace G
open PySem PySem.Spec PyProof.Rows L2 NdefX StX He

/-! ### defs by where they stand -/
/-- a def of the text: where it stands, its names, its statement, the names that it captures -/
structure Dp where
  at_ : PySem.W.Frag → Addr
  name : Str
  qual : Str
  st : Stmt
  clo : List Str
abbrev FnY : Type := Option (Str × Str × Arguments × FuncBody × Scope × Addr × List Str × Addr)
def fnY (K : PySem.W.Frag) (a : Addr) : FnY := match K.lookup a with
  | some ⟨_, _, .func fd, _⟩ => some (fd.name, fd.qualname, fd.params, fd.body, fd.scope, fd.globals, fd.closure.map (·.1), fd.builtins)
  | _ => none
def Dp.val (d : Dp) : FnY := some (d.name, d.qual, defArgs d.st, .stmts (defBody d.st), defScope d.st, mainGlobals, d.clo, builtinsNs)
def noneB : Value → Bool
  | .none => true
  | _ => false
/-- the def's code, no positional defaults -/
def codB (K : PySem.W.Frag) (a : Addr) (q : Str) : Bool := match K.lookup a with
  | some ⟨_, _, .func fd, _⟩ => PySem.W.codeIn K fd.code q && noneB fd.defaults
  | _ => false
def plainB (K : PySem.W.Frag) (a : Addr) (q : Str) : Bool := PySem.W.keepIn K (.ref a) && codB K a q
theorem fun_of {K : PySem.W.Frag} {a : Addr} {d : Dp} (e : fnY K a = d.val) (hc : d.clo = []) (c : plainB K a d.qual = true) : ∃ fd, Fun K d.name d.qual d.st a fd := by
  obtain ⟨kp, c2⟩ := ba c
  unfold fnY Dp.val at e
  rw [hc] at e
  unfold codB at c2
  cases q : K.lookup a with
  | none =>
    rw [q] at c2
    cases c2
  | some o =>
    obtain ⟨oc, od, dt, osl⟩ := o
    rw [q] at c2 e
    cases dt with
    | func fd =>
      obtain ⟨n1, n2, n3, n4, n5, n6, n7, n8, n9, n10, n11, n12, n13, n14, n15⟩ := fd
      have e2 : (some (n1, n2, n3, n4, n5, n6, n7.map (·.1), n15) : FnY) = some (d.name, d.qual, defArgs d.st, .stmts (defBody d.st), defScope d.st, mainGlobals, [], builtinsNs) := e
      simp only [Option.some.injEq, Prod.mk.injEq] at e2
      obtain ⟨h1, h2, h3, h4, h5, h6, h7, h8⟩ := e2
      have h7' : n7 = [] := List.map_eq_nil_iff.mp h7
      subst h1 h2 h3 h4 h5 h6 h7' h8
      have c3 : (PySem.W.codeIn K n13 d.qual && noneB n8) = true := c2
      obtain ⟨k1, k2⟩ := ba c3
      cases n8 with
      | none => exact ⟨_, ⟨oc, od, n9, n10, n11, n12, n13, n14, osl, rfl, q, k1⟩, kp⟩
      | _ => cases k2
    | _ => cases c2
/-- a def with one positional default, a thing in the heap -/
def dflD (K : PySem.W.Frag) (v : Value) : Bool := match v with
  | .ref T => (match K.lookup T with
    | some ⟨_, _, .seq its _, _⟩ => (match its.toList with
      | [.ref _] => true
      | _ => false)
    | _ => false)
  | _ => false
theorem dflD_ok {K : PySem.W.Frag} {v : Value} (h : dflD K v = true) : ∃ E : Addr, DflV K v [.ref E] := by
  unfold dflD at h
  split at h
  · rename_i T
    split at h
    · rename_i x1 x2 its n x3 ho
      split at h
      · rename_i E hE
        refine ⟨E, .inr ⟨(fun z => nomatch z), T, _, [.ref E], n, rfl, ho, ?_, .cons rfl .nil⟩⟩
        show Data.seq its n = _
        rw [← hE]
      · cases h
    · cases h
  · cases h
def codD (K : PySem.W.Frag) (a : Addr) (q : Str) : Bool := match K.lookup a with
  | some ⟨_, _, .func fd, _⟩ => PySem.W.codeIn K fd.code q && dflD K fd.defaults
  | _ => false
theorem fund_of {K : PySem.W.Frag} {a : Addr} {d : Dp} (e : fnY K a = d.val) (hc : d.clo = []) (c : (PySem.W.keepIn K (.ref a) && codD K a d.qual) = true) :
    ∃ (E : Addr) (fd : FuncData), FunD K d.name d.qual (defArgs d.st) (defBody d.st) (defScope d.st) [.ref E] [] a fd := by
  obtain ⟨kp, c2⟩ := ba c
  unfold fnY Dp.val at e
  rw [hc] at e
  unfold codD at c2
  cases q : K.lookup a with
  | none =>
    rw [q] at c2
    cases c2
  | some o =>
    obtain ⟨oc, od, dt, osl⟩ := o
    rw [q] at c2 e
    cases dt with
    | func fd =>
      obtain ⟨n1, n2, n3, n4, n5, n6, n7, n8, n9, n10, n11, n12, n13, n14, n15⟩ := fd
      have e2 : (some (n1, n2, n3, n4, n5, n6, n7.map (·.1), n15) : FnY) = some (d.name, d.qual, defArgs d.st, .stmts (defBody d.st), defScope d.st, mainGlobals, [], builtinsNs) := e
      simp only [Option.some.injEq, Prod.mk.injEq] at e2
      obtain ⟨h1, h2, h3, h4, h5, h6, h7, h8⟩ := e2
      have h7' : n7 = [] := List.map_eq_nil_iff.mp h7
      subst h1 h2 h3 h4 h5 h6 h7' h8
      have c3 : (PySem.W.codeIn K n13 d.qual && dflD K n8) = true := c2
      obtain ⟨k1, k2⟩ := ba c3
      obtain ⟨E, hE⟩ := dflD_ok k2
      exact ⟨E, _, ⟨oc, od, n8, n9, n10, n11, n12, n13, n14, osl, rfl, q, k1, hE, .inl rfl⟩, kp⟩
    | _ => cases c2
/-- a def with one keyword-only default, None -/
def kwN (K : PySem.W.Frag) (v : Value) (x : Str) : Bool := match v with
  | .ref D => eqO (PySem.W.nsIn K D x) (some (some .none))
  | _ => false
def codK (K : PySem.W.Frag) (a : Addr) (q x : Str) : Bool := match K.lookup a with
  | some ⟨_, _, .func fd, _⟩ => PySem.W.codeIn K fd.code q && (noneB fd.defaults && kwN K fd.kwdefaults x)
  | _ => false
theorem funk_of {K : PySem.W.Frag} {a : Addr} {d : Dp} {x : Str} (e : fnY K a = d.val) (hc : d.clo = []) (c : (PySem.W.keepIn K (.ref a) && codK K a d.qual x) = true) :
    ∃ fd : FuncData, FunD K d.name d.qual (defArgs d.st) (defBody d.st) (defScope d.st) [] [(x, .non)] a fd := by
  obtain ⟨kp, c2⟩ := ba c
  unfold fnY Dp.val at e
  rw [hc] at e
  unfold codK at c2
  cases q : K.lookup a with
  | none =>
    rw [q] at c2
    cases c2
  | some o =>
    obtain ⟨oc, od, dt, osl⟩ := o
    rw [q] at c2 e
    cases dt with
    | func fd =>
      obtain ⟨n1, n2, n3, n4, n5, n6, n7, n8, n9, n10, n11, n12, n13, n14, n15⟩ := fd
      have e2 : (some (n1, n2, n3, n4, n5, n6, n7.map (·.1), n15) : FnY) = some (d.name, d.qual, defArgs d.st, .stmts (defBody d.st), defScope d.st, mainGlobals, [], builtinsNs) := e
      simp only [Option.some.injEq, Prod.mk.injEq] at e2
      obtain ⟨h1, h2, h3, h4, h5, h6, h7, h8⟩ := e2
      have h7' : n7 = [] := List.map_eq_nil_iff.mp h7
      subst h1 h2 h3 h4 h5 h6 h7' h8
      have c3 : (PySem.W.codeIn K n13 d.qual && (noneB n8 && kwN K n9 x)) = true := c2
      obtain ⟨k1, k2⟩ := ba c3
      obtain ⟨k2, k3⟩ := ba k2
      cases n8 with
      | none =>
        cases n9 with
        | ref D =>
          refine ⟨_, ⟨oc, od, .none, .ref D, n10, n11, n12, n13, n14, osl, rfl, q, k1, .inl ⟨rfl, rfl⟩, .inr ⟨D, rfl, fun p hp => ?_⟩⟩, kp⟩
          rw [List.mem_singleton.mp hp]
          exact ⟨.none, eqO_ok k3, rfl⟩
        | _ => cases k3
      | _ => cases k2
    | _ => cases c2
/-- a method that captures __class__ -/
def celC (K : PySem.W.Frag) (cc C : Addr) : Bool := match K.lookup cc with
  | some ⟨_, _, .cell (some (.ref D)), _⟩ => decide (D = C)
  | _ => false
def cloB (K : PySem.W.Frag) (a C : Addr) : Bool := match K.lookup a with
  | some ⟨_, _, .func fd, _⟩ => (match fd.closure with
    | [(_, cc)] => celC K cc C
    | _ => false)
  | _ => false
/-- .. its code object's file -/
def filC (K : PySem.W.Frag) (c : Addr) (file : Str) : Bool := match K.lookup c with
  | some ⟨_, _, .fields vs, _⟩ => (match vs.toList[2]? with
    | some (Value.str fl _) => file == fl
    | _ => false)
  | _ => false
def filV (K : PySem.W.Frag) (v : Value) (file : Str) : Bool := match v with
  | .ref c => filC K c file
  | _ => false
def filB (K : PySem.W.Frag) (a : Addr) (file : Str) : Bool := match K.lookup a with
  | some ⟨_, _, .func fd, _⟩ => filV K fd.code file
  | _ => false
def kwV (K : PySem.W.Frag) (a : Addr) : Value := match K.lookup a with
  | some ⟨_, _, .func fd, _⟩ => fd.kwdefaults
  | _ => .none
/-- what FunX and SupOf want of the def at a, of the class at C -/
structure ClsDef (P : Program) (K : PySem.W.Frag) (d : Dp) (a C : Addr) : Prop where
  ex : ∃ (oc : Value) (od : Option Addr) (doc pm ct : Value) (an : Option Addr) (osl : Array (Option Value)) (cda cc : Addr) (oc3 : Value) (od3 : Option Addr) (sl3 : Array (Option Value)) (oc2 : Value) (od2 : Option Addr) (vs : Array Value) (sl2 : Array (Option Value)) (fl : Str) (tf : Tok),
    K.lookup a = some ⟨oc, od, .func (PySem.W.ksFn d.name d.qual (defArgs d.st) (defBody d.st) (defScope d.st) .none (kwV K a) doc pm an (.ref cda) ct cc), osl⟩ ∧ PySem.W.codeIn K (.ref cda) d.qual = true ∧
    K.lookup cc = some ⟨oc3, od3, .cell (some (.ref C)), sl3⟩ ∧ K.lookup cda = some ⟨oc2, od2, .fields vs, sl2⟩ ∧ vs.toList[2]? = some (Value.str fl tf) ∧ ((P.main.file : Str) == fl) = true
theorem clsdef_of {P : Program} {K : PySem.W.Frag} {a C : Addr} {d : Dp} (e : fnY K a = d.val) (hc : d.clo = [("__class__" : Str)]) (c : (codB K a d.qual && (cloB K a C && filB K a P.main.file)) = true) : ClsDef P K d a C := by
  obtain ⟨c1, c23⟩ := ba c
  obtain ⟨c2, c3⟩ := ba c23
  unfold fnY Dp.val at e
  rw [hc] at e
  unfold codB at c1
  unfold cloB at c2
  unfold filB at c3
  cases q : K.lookup a with
  | none =>
    rw [q] at c1
    cases c1
  | some o =>
    obtain ⟨oc, od, dt, osl⟩ := o
    rw [q] at c1 c2 c3 e
    cases dt with
    | func fd =>
      have ekw : kwV K a = fd.kwdefaults := by
        unfold kwV
        rw [q]
      obtain ⟨n1, n2, n3, n4, n5, n6, n7, n8, n9, n10, n11, n12, n13, n14, n15⟩ := fd
      have e2 : (some (n1, n2, n3, n4, n5, n6, n7.map (·.1), n15) : FnY) = some (d.name, d.qual, defArgs d.st, .stmts (defBody d.st), defScope d.st, mainGlobals, [("__class__" : Str)], builtinsNs) := e
      simp only [Option.some.injEq, Prod.mk.injEq] at e2
      obtain ⟨h1, h2, h3, h4, h5, h6, h7, h8⟩ := e2
      obtain ⟨cc, rfl⟩ : ∃ cc, n7 = [(("__class__" : Str), cc)] := by
        match n7, h7 with
        | [(y, cc)], h7 =>
          have : y = ("__class__" : Str) := by
            have h9 : [y] = [("__class__" : Str)] := h7
            exact List.head_eq_of_cons_eq h9
          exact ⟨cc, by rw [this]⟩
      subst h1 h2 h3 h4 h5 h6 h8
      have c4 : (PySem.W.codeIn K n13 d.qual && noneB n8) = true := c1
      obtain ⟨k1, k2⟩ := ba c4
      have c5 : celC K cc C = true := c2
      unfold celC at c5
      have c6 : filV K n13 P.main.file = true := c3
      obtain ⟨oc3, od3, sl3, hcell⟩ : ∃ oc3 od3 sl3, K.lookup cc = some ⟨oc3, od3, .cell (some (.ref C)), sl3⟩ := by
        split at c5
        · rename_i x1 x2 D x3 ho
          rw [of_decide_eq_true c5] at ho
          exact ⟨_, _, _, ho⟩
        · cases c5
      cases n13 with
      | ref cda =>
        have c7 : filC K cda P.main.file = true := c6
        unfold filC at c7
        obtain ⟨oc2, od2, vs, sl2, fl, tf, w1, w2, w3⟩ : ∃ oc2 od2 vs sl2 fl tf, K.lookup cda = some ⟨oc2, od2, .fields vs, sl2⟩ ∧ vs.toList[2]? = some (Value.str fl tf) ∧ ((P.main.file : Str) == fl) = true := by
          split at c7
          · rename_i x1 x2 vs x3 ho
            split at c7
            · rename_i fl tf hv
              exact ⟨_, _, vs, _, fl, tf, ho, hv, c7⟩
            · cases c7
          · cases c7
        cases n8 with
        | none =>
          refine ⟨oc, od, n10, n11, n14, n12, osl, cda, cc, oc3, od3, sl3, oc2, od2, vs, sl2, fl, tf, ?_, k1, hcell, w1, w2, w3⟩
          rw [ekw]
          exact q
        | _ => cases k2
      | _ => cases c6
    | _ => cases c1
/-- what super() rests on besides -/
def supB (K : PySem.W.Frag) (C f2 : Addr) : Bool := PySem.W.isClsIn K C && (decide (PySem.W.mroIn K C (.ref C) = some true) && (eqO (PySem.W.nsIn K cStatics "thirdparty.any") (some none) && (eqO (PySem.W.ks_superIn K C C "__init__") (some (some (.ref f2))) &&
  (decide (PySem.W.typeIn K (.ref f2) = some (.type "function")) && PySem.W.fnIn K f2))))
/-! ### properties, calls -/
def getr (K : PySem.W.Frag) (p : Addr) : Addr := match PySem.W.recIn K p "property" with
  | some (.ref g :: _) => g
  | _ => 0
def proB (K : PySem.W.Frag) (C : Addr) (f : Str) : Bool := eqO (PySem.W.findIn K (.ref C) f) (some (some (.ref (ma K C f)))) && (eqO (PySem.W.specialIn K (.ref (ma K C f)) "__get__") (some (some (.builtin "property.__get__"))) &&
  (decide (PySem.W.takesIn K (.ref (ma K C f)) = some true) && (match PySem.W.recIn K (ma K C f) "property" with
    | some (.ref _ :: _) => true
    | _ => false)))
theorem pro_ok {K : PySem.W.Frag} {C : Addr} {f : Str} (h : proB K C f = true) : PropOf K C f (ma K C f) (getr K (ma K C f)) := by
  obtain ⟨c1, c⟩ := ba h
  obtain ⟨c2, c⟩ := ba c
  obtain ⟨c3, c4⟩ := ba c
  refine ⟨eqO_ok c1, eqO_ok c2, of_decide_eq_true c3, ?_⟩
  unfold getr
  split at c4
  · rename_i g rest e
    rw [e]
    exact ⟨rest, rfl⟩
  · cases c4
def calB (K : PySem.W.Frag) (C : Addr) : Bool := eqO (PySem.W.findIn K (.ref C) "__call__") (some (some (.ref (ma K C "__call__")))) && (PySem.W.isFn K (.ref (ma K C "__call__")) && PySem.W.fnIn K (ma K C "__call__"))
theorem cal_ok {K : PySem.W.Frag} {C : Addr} (h : calB K C = true) : CallO K C (ma K C "__call__") := by
  obtain ⟨c1, c⟩ := ba h
  obtain ⟨c2, c3⟩ := ba c
  exact ⟨eqO_ok c1, c2, c3⟩
/-! ### the Hook -/
/-- what an object names, as far as the facts ask -/
def refsQ (o : Obj) : List Addr := match o.data with
  | .dict es _ => es.toList.flatMap fun e => refV e.val
  | .func fd => refV fd.code ++ (refV fd.defaults ++ (refV fd.kwdefaults ++ fd.closure.map (·.2)))
  | .cls cd => [cd.ns]
  | .fields vs => (match o.cls with
    | .type n => (match (decide (n = "property") || decide (n = "staticmethod")) with
      | true => vs.toList.flatMap refV
      | false => [])
    | _ => [])
  | _ => []
def frL {α : Type} : List Addr → (List Addr → α) → α
  | [], k => k []
  | a :: r, k => HandSHeadRun.frNat a fun a => frL r fun r => k (a :: r)
theorem frL_eq {α : Type} : ∀ (l : List Addr) (k : List Addr → α), frL l k = k l
  | [], _ => rfl
  | a :: r, k => by
    show (HandSHeadRun.frNat a fun a => frL r fun r => k (a :: r)) = _
    rw [HandSHeadRun.frNat_eq, frL_eq r]
def lvl (g : Addr → Option Obj) (as : List Addr) : List Addr := as.flatMap fun a => match g a with
  | some o => refsQ o
  | none => []
def asQ {α : Type} (g : Addr → Option Obj) : Nat → List Addr → List Addr → (List Addr → α) → α
  | 0, fr, acc, k => k (acc ++ fr)
  | n + 1, fr, acc, k => frL (lvl g fr) fun f2 => asQ g n f2 (acc ++ fr) k
theorem asQ_ex {g : Addr → Option Obj} : ∀ (n : Nat) (fr acc : List Addr), ∃ as : List Addr, ∀ (α : Type) (k : List Addr → α), asQ g n fr acc k = k as
  | 0, fr, acc => ⟨acc ++ fr, fun _ _ => rfl⟩
  | n + 1, fr, acc => by
    obtain ⟨as, h⟩ := asQ_ex (g := g) n (lvl g fr) (acc ++ fr)
    refine ⟨as, fun α k => ?_⟩
    show (frL (lvl g fr) fun f2 => asQ g n f2 (acc ++ fr) k) = _
    rw [frL_eq]
    exact h α k
def frK {α : Type} (g : Addr → Option Obj) : List Addr → (PySem.W.Frag → α) → α
  | [], k => k []
  | a :: r, k => match g a with
    | some o => frK g r fun K => k ((a, o) :: K)
    | none => frK g r k
theorem frK_eq {α : Type} {g : Addr → Option Obj} : ∀ (as : List Addr) (k : PySem.W.Frag → α), frK g as k = k (frG g as)
  | [], _ => rfl
  | a :: r, k => by
    unfold frK frG
    rw [List.filterMap_cons]
    cases g a with
    | some o =>
      show (frK g r fun K => k ((a, o) :: K)) = _
      rw [frK_eq r]
      rfl
    | none =>
      show frK g r k = _
      rw [frK_eq r]
      rfl
abbrev AlP : Type := Bool × List FnY
abbrev Ck : Type := PySem.W.Frag → Bool
def obsP (cs : List Ck) (fn : List Dp) (K : PySem.W.Frag) : AlP := (cs.all fun c => c K, fn.map fun d => fnY K (d.at_ K))
def valP (fn : List Dp) : AlP := (true, fn.map Dp.val)
def SaysP (cs : List Ck) (fn : List Dp) (K : PySem.W.Frag) : Prop := obsP cs fn K = valP fn
def obsPG (n : Nat) (cs : List Ck) (fn : List Dp) (g : Addr → Option Obj) : AlP := asQ g n [mainGlobals, cStatics] [] fun as => frK g as fun K => obsP cs fn K
theorem obsPG_ex (n : Nat) (cs : List Ck) (fn : List Dp) (g : Addr → Option Obj) : ∃ as, obsPG n cs fn g = obsP cs fn (frG g as) := by
  obtain ⟨as, h⟩ := asQ_ex (g := g) n [mainGlobals, cStatics] []
  refine ⟨as, ?_⟩
  unfold obsPG
  rw [h, frK_eq]
def hookP (n : Nat) (cs : List Ck) (fn : List Dp) : PySem.W.Hook where
  α := AlP
  obs := fun s => obsPG n cs fn s.heap.get?
  val := fun _ => valP fn
  says := fun _ h => ∃ K : PySem.W.Frag, K.In h ∧ SaysP cs fn K
  of := fun _ s e => by
    obtain ⟨as, h⟩ := obsPG_ex n cs fn s.heap.get?
    rw [h] at e
    exact ⟨_, frG_in, e⟩
  keeps := fun _ _ _ ⟨K, hK, c⟩ k => ⟨K, PySem.W.Frag.In.keeps hK k, c⟩
theorem obsPG_eq {n : Nat} {cs : List Ck} {fn : List Dp} {g : Addr → Option Obj} {s : Shared} (h : ∀ a, g a = s.heap.get? a) : obsPG n cs fn g = (hookP n cs fn).obs s := by
  have e : g = s.heap.get? := funext h
  rw [e] <;> rfl
section
variable {cs : List Ck} {fn : List Dp} {K : PySem.W.Frag}
theorem SaysP.ck (c : SaysP cs fn K) (i : Nat) {f : Ck} (h : cs[i]? = some f := by rfl) : f K = true :=
  List.all_eq_true.mp (show (cs.all fun c => c K) = true from congrArg (fun z : AlP => z.1) c) f (List.mem_of_getElem? h)
theorem SaysP.at_ (c : SaysP cs fn K) (i : Nat) {d : Dp} (h : fn[i]? = some d := by rfl) : fnY K (d.at_ K) = d.val := by
  have e : fn.map (fun d => fnY K (d.at_ K)) = fn.map Dp.val := congrArg (fun z : AlP => z.2) c
  have e2 : (fn.map fun d => fnY K (d.at_ K))[i]? = (fn.map Dp.val)[i]? := by rw [e]
  rw [List.getElem?_map, List.getElem?_map, h] at e2
  exact Option.some.inj e2
end
/-! ### the law's end -/
theorem walk_goE {l : PySem.W.OpenLaw} {n k : Nat} {q : Program} {loose : List Str} {XP : (Str → Option Value) → Heap → Prop} {YP : World → Heap → Prop} {d : DefRec} {x : Str}
    (most : l.most = some n) (few : n ≤ sizeLine) (nodf : d.params.defaults = []) (hr : Room k callerA)
    (F : ∀ (w : World) (mg : Str → Option Value) (fa : Addr) (h : Heap), YP w h → h.Ns mainGlobals mg → mg d.name = some (.ref fa) →
      ∃ (K : PySem.W.Frag) (fd : FuncData) (sp : Sp), K.In h ∧ (∀ (s : Shared) (u : Value), BindsTo s fd ⟨[u], []⟩ [(x, u)]) ∧
        (∀ (H : Hp) (a : Addr) (ns : List Int), ns.length ≤ n → Only H → SqL K H a (ns.map V.int) → sp [.ref a] H (fun v _ => v = .bl true) fun _ _ _ => False) ∧
        ∀ base : Heap, K.In base → base.Ns mainGlobals mg → FnG l.prog w K mg base CX0 k fa fd [x] sp) :
    PySem.W.WalkO q loose XP YP l.row.toRowW d [] (fun f vs => PySem.call f vs) := by
  refine Att.attach_call most nodf
    fun w _ s₁ mg mb fa _ _ _ _ a vs ns top Y _ _ _ atF obj allInt len noG => ?_
  obtain ⟨K, fd, sp, inK, binds, hsp, keeps⟩ := F w mg fa _ Y top.T.g atF
  exact law_go inK top.T.g top.T.b top.T.builtins top.T.nolimit noG obj allInt (Nat.le_trans len few) hr keeps binds
    fun H hO hS => hsp H a ns len hO hS
end G
set_option Elab.async false
set_option linter.all false
set_option maxRecDepth 100000
set_option maxHeartbeats 8000000
/-! XA: what the top has written. -/
namespace G
open PySem PySem.Spec PyProof.Rows L2 NdefX StX
/-- names of built-in types, in a row -/
def typesB : List Value → List String → Bool
  | [], [] => true
  | .type t :: r, s :: ss => decide (t = s) && typesB r ss
  | _, _ => false
open He in
theorem types_ok : ∀ {l : List Value} {ss : List String}, typesB l ss = true → l = ss.map Value.type
  | [], [], _ => rfl
  | .type t :: r, s :: ss, h => by
    obtain ⟨h1, h2⟩ := ba (show (decide (t = s) && typesB r ss) = true from h)
    rw [of_decide_eq_true h1, types_ok h2]
    rfl
  | [], _ :: _, h => nomatch h
  | .none :: _, _, h => nomatch h
  | .notImplemented :: _, _, h => nomatch h
  | .bool _ :: _, _, h => nomatch h
  | .int _ _ :: _, _, h => nomatch h
  | .str _ _ :: _, _, h => nomatch h
  | .ref _ :: _, _, h => nomatch h
  | .builtin _ :: _, _, h => nomatch h
  | .type _ :: _, [], h => nomatch h
def overB : List Value → Bool
  | .ref _ :: r => overB r
  | l => typesB l ["KeyError", "LookupError", "Exception", "BaseException", "object"] || typesB l ["LookupError", "Exception", "BaseException", "object"]
theorem over_ok : ∀ {l : List Value}, overB l = true → GX.KX.Over l := by
  intro l
  induction l with
  | nil =>
    intro h
    cases h
  | cons v r ih =>
    intro h
    unfold overB at h
    split at h
    · rename_i a r' e
      cases e
      exact (ih h).own a
    · rename_i l' e
      rcases Bool.or_eq_true_iff.mp h with h | h
      · exact ⟨[], .inl (types_ok h)⟩
      · exact ⟨[], .inr (types_ok h)⟩
/-- an own exception class over KeyError or LookupError -/
def oxO (C : Addr) (o : Obj) : Bool := match o with
  | ⟨.type t, _, .cls ⟨_, _, .ref D :: bm, _, _, true, _, _, _, _, false⟩, sl⟩ => decide (t = "type") && (decide (D = C) && (overB bm && (match sl.toList with
    | [_, _, _, _, some (.builtin s), _] => decide (s = "LookupError.__new__")
    | _ => false)))
  | _ => false
open He in
def oxB (K : PySem.W.Frag) (C : Addr) : Bool := (match K.lookup C with
  | some o => oxO C o
  | none => false) && (eqO (PySem.W.findIn K (.ref C) "__setattr__") (some (some (.builtin "object.__setattr__"))) && (decide (PySem.W.subIn K (.ref C) (.type "BaseException") = some true) && (decide (PySem.W.typeIn K (.ref C) = some (.type "type")) && PySem.W.keepIn K (.ref C))))
open He in
theorem ox_ok {K : PySem.W.Frag} {C : Addr} (h : oxB K C = true) : OwnX K C := by
  obtain ⟨c1, h⟩ := ba h
  obtain ⟨c2, h⟩ := ba h
  obtain ⟨c3, h⟩ := ba h
  obtain ⟨c4, c5⟩ := ba h
  refine ⟨?_, eqO_ok c2, of_decide_eq_true c3, of_decide_eq_true c4, c5⟩
  cases q : K.lookup C with
  | none =>
    rw [q] at c1
    cases c1
  | some o =>
    rw [q] at c1
    have c6 : oxO C o = true := c1
    unfold oxO at c6
    split at c6
    · rename_i t od x1 x2 D bm x4 x5 x6 x7 x8 x9 sl
      obtain ⟨d1, c6⟩ := ba c6
      obtain ⟨d2, c6⟩ := ba c6
      obtain ⟨d3, d4⟩ := ba c6
      split at d4
      · rename_i k0 k1 k2 k3 s k5 hs
        have e1 := of_decide_eq_true d1
        have e2 := of_decide_eq_true d2
        have e3 := of_decide_eq_true d4
        subst e1 e2 e3
        refine ⟨⟨x1, x5, x4, x2, bm, x6, x7, x8, x9, od, k0, k1, k2, k3, k5⟩, ?_, over_ok d3⟩
        have e4 : sl = #[k0, k1, k2, k3, some (.builtin "LookupError.__new__"), k5] := by
          rw [← Array.toArray_toList (xs := sl), hs]
        rw [e4]
        rfl
      · cases d4
    · cases c6

/-- an own exception class over ValueError -/
def oexO (C : Addr) (o : Obj) : Bool := match o with
  | ⟨.type t, _, .cls ⟨_, _, .ref D :: bm, _, _, true, _, _, _, _, false⟩, sl⟩ => decide (t = "type") && (decide (D = C) && (PySem.HandSPX.refsVE bm && (match sl.toList with
    | [_, _, _, _, some (.builtin s), _] => decide (s = "ValueError.__new__")
    | _ => false)))
  | _ => false
open He in
def oexB (K : PySem.W.Frag) (C : Addr) : Bool := (match K.lookup C with
  | some o => oexO C o
  | none => false) && (eqO (PySem.W.findIn K (.ref C) "__setattr__") (some (some (.builtin "object.__setattr__"))) && (decide (PySem.W.subIn K (.ref C) (.type "BaseException") = some true) && (decide (PySem.W.typeIn K (.ref C) = some (.type "type")) && PySem.W.keepIn K (.ref C))))
open He in
theorem oex_ok {K : PySem.W.Frag} {C : Addr} (h : oexB K C = true) : OexC K C := by
  obtain ⟨c1, h⟩ := ba h
  obtain ⟨c2, h⟩ := ba h
  obtain ⟨c3, h⟩ := ba h
  obtain ⟨c4, c5⟩ := ba h
  refine ⟨?_, eqO_ok c2, of_decide_eq_true c3, of_decide_eq_true c4, c5⟩
  cases q : K.lookup C with
  | none =>
    rw [q] at c1
    cases c1
  | some o =>
    rw [q] at c1
    have c6 : oexO C o = true := c1
    unfold oexO at c6
    split at c6
    · rename_i t od x1 x2 D bm x4 x5 x6 x7 x8 x9 sl
      obtain ⟨d1, c6⟩ := ba c6
      obtain ⟨d2, c6⟩ := ba c6
      obtain ⟨d3, d4⟩ := ba c6
      split at d4
      · rename_i k0 k1 k2 k3 s k5 hs
        have e1 := of_decide_eq_true d1
        have e2 := of_decide_eq_true d2
        have e3 := of_decide_eq_true d4
        subst e1 e2 e3
        refine ⟨x1, x5, x4, x2, bm, x6, x7, x8, x9, od, k0, k1, k2, k3, k5, ?_, d3⟩
        have e4 : sl = #[k0, k1, k2, k3, some (.builtin "ValueError.__new__"), k5] := by
          rw [← Array.toArray_toList (xs := sl), hs]
        rw [e4]
      · cases d4
    · cases c6

open He in
def eqoB (K : PySem.W.Frag) (C f : Addr) : Bool := eqO (PySem.W.findIn K (.ref C) "__eq__") (some (some (.ref f))) && (PySem.W.isFn K (.ref f) && (eqO (PySem.W.findIn K (.ref C) "__ne__") (some (some (.builtin "object.__ne__"))) && decide (PySem.W.mroIn K C (.type "object") = some true)))
open He in
theorem eqo_ok {K : PySem.W.Frag} {C f : Addr} (h : eqoB K C f = true) : EqO K C f := by
  obtain ⟨c1, h⟩ := ba h
  obtain ⟨c2, h⟩ := ba h
  obtain ⟨c3, c4⟩ := ba h
  exact ⟨eqO_ok c1, c2, eqO_ok c3, of_decide_eq_true c4⟩
open He in
def opB (K : PySem.W.Frag) (C : Addr) (op : Operator) (f : Addr) : Bool := PySem.W.selfFirst K C && (eqO (PySem.W.findIn K (.ref C) (PySem.dunder op.info.2)) (some (some (.ref f))) && (PySem.W.isFn K (.ref f) && eqO (PySem.W.findIn K (.ref C) (dunderR op.info.2)) (some none)))
open He in
theorem op_ok {K : PySem.W.Frag} {C f : Addr} {op : Operator} (h : opB K C op f = true) : OpO K C op f := by
  obtain ⟨c1, h⟩ := ba h
  obtain ⟨c2, h⟩ := ba h
  obtain ⟨c3, c4⟩ := ba h
  exact ⟨c1, eqO_ok c2, c3, eqO_ok c4⟩

def ty7 : List String := ["NoneType", "bool", "int", "str", "list", "tuple", "dict"]
theorem ty7_mem (d : PyData) : tyN d ∈ ty7 := by cases d <;> simp [tyN, ty7]

open He in
def opbB (K : PySem.W.Frag) (C : Addr) (op : Operator) : Bool := ty7.all fun T => (PySem.W.findIn K (.type T) (PySem.dunder op.info.2)).isSome && ((PySem.W.findIn K (.type T) (dunderR op.info.2)).isSome && decide (PySem.W.subIn K (.type T) (.ref C) = some false))
open He in
theorem opb_ok {K : PySem.W.Frag} {C : Addr} {op : Operator} (h : opbB K C op = true) (d : PyData) : OpB K C op (tyN d) := by
  obtain ⟨h1, h⟩ := ba (List.all_eq_true.mp h _ (ty7_mem d))
  obtain ⟨h2, h3⟩ := ba h
  exact ⟨Option.isSome_iff_exists.mp h1, Option.isSome_iff_exists.mp h2, of_decide_eq_true h3⟩

open He in
def iskB (K : PySem.W.Frag) (C : Addr) : Bool := eqO (PySem.W.findIn K (.ref C) "__class__") (some (some (.builtin "object.__class__"))) && (eqO (PySem.W.specialIn K (.builtin "object.__class__") "__get__") (some (some (.builtin "getset_descriptor.__get__"))) &&
  (decide (PySem.W.takesIn K (.builtin "object.__class__") = some true) && (decide (PySem.W.mroIn K C (.type "object") = some true) && (decide (PySem.W.kitOne K (.ref C) (.ref C) = some true) && ty7.all fun T => decide (PySem.W.kitOne K (.type T) (.ref C) = some false)))))
open He in
theorem isk_ok {K : PySem.W.Frag} {C : Addr} (h : iskB K C = true) : IsK K C := by
  obtain ⟨c1, h⟩ := ba h
  obtain ⟨c2, h⟩ := ba h
  obtain ⟨c3, h⟩ := ba h
  obtain ⟨c4, h⟩ := ba h
  obtain ⟨c5, h⟩ := ba h
  exact ⟨eqO_ok c1, eqO_ok c2, of_decide_eq_true c3, of_decide_eq_true c4, of_decide_eq_true c5, fun d => of_decide_eq_true (List.all_eq_true.mp h _ (ty7_mem d))⟩
open He in
def noiB (K : PySem.W.Frag) (C : Addr) : Bool := match PySem.W.clsIn K C with
  | some cd => cd.mro.all fun c => eqO (PySem.W.findIn K c (dunderI "add")) (some none)
  | none => false
open He in
theorem noi_ok {K : PySem.W.Frag} {C : Addr} (h : noiB K C = true) : NoI K C := by
  unfold noiB at h
  cases e : PySem.W.clsIn K C with
  | none =>
    rw [e] at h
    cases h
  | some cd =>
    rw [e] at h
    exact ⟨cd, e, fun c hc => eqO_ok (List.all_eq_true.mp h c hc)⟩
open He in
def iniB (K : PySem.W.Frag) (C f : Addr) (fl : Str) : Bool := eqO (PySem.W.findIn K (.ref C) "__init__") (some (some (.ref f))) && (decide (PySem.W.typeIn K (.ref f) = some (.type "function")) && eqO (PySem.W.findIn K (.ref C) fl) (some none))
open He in
theorem ini_ok {K : PySem.W.Frag} {C f : Addr} {fl : Str} (h : iniB K C f fl = true) : PySem.W.findIn K (.ref C) "__init__" = some (some (.ref f)) ∧ PySem.W.typeIn K (.ref f) = some (.type "function") ∧ PySem.W.findIn K (.ref C) fl = some none := by
  obtain ⟨c1, h⟩ := ba h
  obtain ⟨c2, c3⟩ := ba h
  exact ⟨eqO_ok c1, of_decide_eq_true c2, eqO_ok c3⟩

abbrev PX : Program := PySem.W.OpenLaw.prog PySem.Challenge.rw_listviews_k24_changes_joined
def cks0 : List Ck := [
  fun K => He.Fa.ok K (.free "isinstance"),
  fun K => He.Fa.ok K (.free "int"),
  fun K => He.Fa.ok K (.free "bool"),
  fun K => He.Fa.ok K (.free "str"),
  fun K => He.Fa.ok K (.free "dict"),
  fun K => He.Fa.ok K (.free "len"),
  fun K => He.Fa.ok K (.free "all"),
  fun K => He.Fa.ok K (.free "list"),
  fun K => He.Fa.ok K (.free "range"),
  fun K => He.Fa.ok K (.free "min"),
  fun K => He.Fa.ok K (.free "max"),
  fun K => He.Fa.ok K (.free "tuple"),
  fun K => He.Fa.ok K (.free "sorted"),
  fun K => He.Fa.ok K (.free "enumerate"),
  fun K => He.Fa.ok K (.free "reversed"),
  fun K => He.Fa.ok K (.free "zip"),
  fun K => He.Fa.ok K (.free "repr"),
  fun K => He.Fa.ok K (.str "LETTERS" "abcdefghijklmnopqrstuvwxyz"),
  fun K => He.Fa.ok K (.int "MOST_LETTERS" 8),
  fun K => He.Fa.ok K (.int "MOST_ROWS" 80),
  fun K => He.Fa.ok K (.int "MOST_IN_ANSWER" 3),
  fun K => He.Fa.ok K (.int "GREATEST_IN_ANSWER" 9999),
  fun K => plainB K (He.ga K "is_integer") "is_integer",
  fun K => He.Fa.ok K (.glo "is_integer"),
  fun K => plainB K (He.ga K "is_name") "is_name",
  fun K => He.Fa.ok K (.glo "is_name"),
  fun K => plainB K (He.ga K "is_list") "is_list",
  fun K => He.Fa.ok K (.glo "is_list"),
  fun K => plainB K (He.ga K "is_answer_item") "is_answer_item",
  fun K => He.Fa.ok K (.glo "is_answer_item")]
def cks1 : List Ck := [
  fun K => plainB K (He.ga K "is_full_answer") "is_full_answer",
  fun K => He.Fa.ok K (.glo "is_full_answer"),
  fun K => plainB K (He.ga K "is_row") "is_row",
  fun K => He.Fa.ok K (.glo "is_row"),
  fun K => plainB K (He.ga K "need_integer") "need_integer",
  fun K => He.Fa.ok K (.glo "need_integer"),
  fun K => plainB K (He.ga K "with_item") "with_item",
  fun K => He.Fa.ok K (.glo "with_item"),
  fun K => plainB K (He.ga K "without_index") "without_index",
  fun K => He.Fa.ok K (.glo "without_index"),
  fun K => plainB K (He.ga K "ranks_of") "ranks_of",
  fun K => He.Fa.ok K (.glo "ranks_of"),
  fun K => plainB K (He.ga K "longest_ascent") "longest_ascent",
  fun K => He.Fa.ok K (.glo "longest_ascent"),
  fun K => plainB K (He.ga K "moves_to") "moves_to",
  fun K => He.Fa.ok K (.glo "moves_to"),
  fun K => plainB K (He.ga K "steps_to") "steps_to",
  fun K => He.Fa.ok K (.glo "steps_to"),
  fun K => plainB K (He.ga K "need_change") "need_change",
  fun K => He.Fa.ok K (.glo "need_change"),
  fun K => plainB K (He.ga K "need_after") "need_after",
  fun K => He.Fa.ok K (.glo "need_after"),
  fun K => plainB K (He.ga K "taken_over") "taken_over",
  fun K => He.Fa.ok K (.glo "taken_over"),
  fun K => plainB K (He.ga K "_law_cell") "_law_cell",
  fun K => He.Fa.ok K (.glo "_law_cell"),
  fun K => plainB K (He.ga K "_law_box") "_law_box",
  fun K => He.Fa.ok K (.glo "_law_box"),
  fun K => plainB K (He.ga K "_law_take") "_law_take",
  fun K => He.Fa.ok K (.glo "_law_take")]
def cks2 : List Ck := [
  fun K => plainB K (He.ga K "_law_names") "_law_names",
  fun K => He.Fa.ok K (.glo "_law_names"),
  fun K => plainB K (He.ga K "_law_rows") "_law_rows",
  fun K => He.Fa.ok K (.glo "_law_rows"),
  fun K => plainB K (He.ga K "_law_mixed") "_law_mixed",
  fun K => He.Fa.ok K (.glo "_law_mixed"),
  fun K => plainB K (He.ga K "_law_after") "_law_after",
  fun K => He.Fa.ok K (.glo "_law_after"),
  fun K => plainB K (He.ga K "_law_joined") "_law_joined",
  fun K => He.Fa.ok K (.glo "_law_joined"),
  fun K => plainB K (He.ga K "_law_caught") "_law_caught",
  fun K => He.Fa.ok K (.glo "_law_caught"),
  fun K => plainB K (He.ga K "_law_odd_right") "_law_odd_right",
  fun K => He.Fa.ok K (.glo "_law_odd_right"),
  fun K => plainB K (He.ga K "_law_right") "_law_right",
  fun K => He.Fa.ok K (.glo "_law_right"),
  fun K => plainB K (He.ga K "law") "law",
  fun K => He.Fa.ok K (.glo "law"),
  fun K => He.Fa.ok K (.glo "Change"),
  fun K => He.Fa.ok K (.cls "Change"),
  fun K => He.Fa.ok K (.noat "Change" "old_count"),
  fun K => He.Fa.ok K (.noat "Change" "new_items"),
  fun K => He.Fa.ok K (.noat "Change" "kept_indices"),
  fun K => He.Fa.ok K (.noat "Change" "new_rows"),
  fun K => He.Fa.ok K (.noat "Change" "fewest_steps"),
  fun K => He.Fa.ok K (.mkr "Change"),
  fun K => plainB K (He.ma K (He.ga K "Change") "__init__") "Change.__init__",
  fun K => plainB K (getr K (He.ma K (He.ga K "Change") "before")) "Change.before",
  fun K => proB K (He.ga K "Change") "before",
  fun K => plainB K (getr K (He.ma K (He.ga K "Change") "total")) "Change.total"]
def cks3 : List Ck := [
  fun K => proB K (He.ga K "Change") "total",
  fun K => plainB K (He.ma K (He.ga K "Change") "after") "Change.after",
  fun K => He.Fa.ok K (.meth "Change" "after"),
  fun K => plainB K (He.ma K (He.ga K "Change") "came") "Change.came",
  fun K => He.Fa.ok K (.meth "Change" "came"),
  fun K => plainB K (He.ma K (He.ga K "Change") "__add__") "Change.__add__",
  fun K => opB K (He.ga K "Change") .Add (He.ma K (He.ga K "Change") "__add__"),
  fun K => opbB K (He.ga K "Change") .Add,
  fun K => noiB K (He.ga K "Change"),
  fun K => plainB K (He.ma K (He.ga K "Change") "__eq__") "Change.__eq__",
  fun K => eqoB K (He.ga K "Change") (He.ma K (He.ga K "Change") "__eq__"),
  fun K => PySem.W.notFirst K (He.ga K "Change") (.ref (He.ga K "Change")),
  fun K => iskB K (He.ga K "Change"),
  fun K => He.Fa.ok K (.glo "InvalidChange"),
  fun K => plainB K (He.ma K (He.ga K "InvalidChange") "__init__") "InvalidChange.__init__",
  fun K => oexB K (He.ga K "InvalidChange"),
  fun K => xfB K (He.ga K "InvalidChange"),
  fun K => iniB K (He.ga K "InvalidChange") (He.ma K (He.ga K "InvalidChange") "__init__") "value",
  fun K => He.Fa.ok K (.glo "Mismatch"),
  fun K => plainB K (He.ma K (He.ga K "Mismatch") "__init__") "Mismatch.__init__",
  fun K => oexB K (He.ga K "Mismatch"),
  fun K => xfB K (He.ga K "Mismatch"),
  fun K => iniB K (He.ga K "Mismatch") (He.ma K (He.ga K "Mismatch") "__init__") "value",
  fun K => He.Fa.ok K (.glo "KeyTaken"),
  fun K => plainB K (He.ma K (He.ga K "KeyTaken") "__init__") "KeyTaken.__init__",
  fun K => oxB K (He.ga K "KeyTaken"),
  fun K => xfB K (He.ga K "KeyTaken"),
  fun K => iniB K (He.ga K "KeyTaken") (He.ma K (He.ga K "KeyTaken") "__init__") "key",
  fun K => decide (PySem.W.exmOne K (.ref (He.ga K "InvalidChange")) (.ref (He.ga K "InvalidChange")) = some true),
  fun K => decide (PySem.W.exmOne K (.ref (He.ga K "Mismatch")) (.ref (He.ga K "InvalidChange")) = some false)]
def cks4 : List Ck := [
  fun K => decide (PySem.W.exmOne K (.ref (He.ga K "Mismatch")) (.ref (He.ga K "Mismatch")) = some true),
  fun K => decide (PySem.W.exmOne K (.ref (He.ga K "KeyTaken")) (.ref (He.ga K "InvalidChange")) = some false),
  fun K => decide (PySem.W.exmOne K (.ref (He.ga K "KeyTaken")) (.ref (He.ga K "Mismatch")) = some false),
  fun K => decide (PySem.W.exmOne K (.ref (He.ga K "KeyTaken")) (.ref (He.ga K "KeyTaken")) = some true)]
abbrev cks : List Ck := cks0 ++ cks1 ++ cks2 ++ cks3 ++ cks4
def fns0 : List Dp := [
  ⟨fun K => He.ga K "is_integer", "is_integer", "is_integer", sIsInt, []⟩,
  ⟨fun K => He.ga K "is_name", "is_name", "is_name", sIsName, []⟩,
  ⟨fun K => He.ga K "is_list", "is_list", "is_list", sIsList, []⟩,
  ⟨fun K => He.ga K "is_answer_item", "is_answer_item", "is_answer_item", sItemA, []⟩,
  ⟨fun K => He.ga K "is_full_answer", "is_full_answer", "is_full_answer", sFullA, []⟩,
  ⟨fun K => He.ga K "is_row", "is_row", "is_row", sIsRow, []⟩,
  ⟨fun K => He.ga K "need_integer", "need_integer", "need_integer", sNeedInt, []⟩,
  ⟨fun K => He.ga K "with_item", "with_item", "with_item", sWith, []⟩,
  ⟨fun K => He.ga K "without_index", "without_index", "without_index", sWout, []⟩,
  ⟨fun K => He.ga K "ranks_of", "ranks_of", "ranks_of", sRanks, []⟩,
  ⟨fun K => He.ga K "longest_ascent", "longest_ascent", "longest_ascent", sAscent, []⟩,
  ⟨fun K => He.ga K "moves_to", "moves_to", "moves_to", sMoves, []⟩,
  ⟨fun K => He.ga K "steps_to", "steps_to", "steps_to", sSteps, []⟩,
  ⟨fun K => He.ga K "need_change", "need_change", "need_change", sNeedCh, []⟩,
  ⟨fun K => He.ga K "need_after", "need_after", "need_after", sNeedAft, []⟩,
  ⟨fun K => He.ga K "taken_over", "taken_over", "taken_over", sTaken, []⟩,
  ⟨fun K => He.ga K "_law_cell", "_law_cell", "_law_cell", sCell, []⟩,
  ⟨fun K => He.ga K "_law_box", "_law_box", "_law_box", sBox, []⟩,
  ⟨fun K => He.ga K "_law_take", "_law_take", "_law_take", sTake, []⟩,
  ⟨fun K => He.ga K "_law_names", "_law_names", "_law_names", sNames, []⟩]
def fns1 : List Dp := [
  ⟨fun K => He.ga K "_law_rows", "_law_rows", "_law_rows", sRows, []⟩,
  ⟨fun K => He.ga K "_law_mixed", "_law_mixed", "_law_mixed", sMixed, []⟩,
  ⟨fun K => He.ga K "_law_after", "_law_after", "_law_after", sAfter, []⟩,
  ⟨fun K => He.ga K "_law_joined", "_law_joined", "_law_joined", sJoined, []⟩,
  ⟨fun K => He.ga K "_law_caught", "_law_caught", "_law_caught", sCaught, []⟩,
  ⟨fun K => He.ga K "_law_odd_right", "_law_odd_right", "_law_odd_right", sOddR, []⟩,
  ⟨fun K => He.ga K "_law_right", "_law_right", "_law_right", sRight, []⟩,
  ⟨fun K => He.ga K "law", "law", "law", sLaw, []⟩,
  ⟨fun K => He.ma K (He.ga K "Change") "__init__", "__init__", "Change.__init__", (sCh 0), []⟩,
  ⟨fun K => getr K (He.ma K (He.ga K "Change") "before"), "before", "Change.before", (sCh 1), []⟩,
  ⟨fun K => getr K (He.ma K (He.ga K "Change") "total"), "total", "Change.total", (sCh 2), []⟩,
  ⟨fun K => He.ma K (He.ga K "Change") "after", "after", "Change.after", (sCh 3), []⟩,
  ⟨fun K => He.ma K (He.ga K "Change") "came", "came", "Change.came", (sCh 6), []⟩,
  ⟨fun K => He.ma K (He.ga K "Change") "__add__", "__add__", "Change.__add__", (sCh 10), []⟩,
  ⟨fun K => He.ma K (He.ga K "Change") "__eq__", "__eq__", "Change.__eq__", (sCh 11), []⟩,
  ⟨fun K => He.ma K (He.ga K "InvalidChange") "__init__", "__init__", "InvalidChange.__init__", sIC, []⟩,
  ⟨fun K => He.ma K (He.ga K "Mismatch") "__init__", "__init__", "Mismatch.__init__", sMM, []⟩,
  ⟨fun K => He.ma K (He.ga K "KeyTaken") "__init__", "__init__", "KeyTaken.__init__", sKT, []⟩]
abbrev fns : List Dp := fns0 ++ fns1
theorem facts {w : World} {K : PySem.W.Frag} {h : Heap} {mg : Str → Option Value} {fa : Addr} (X : K.In h) (G : h.Ns mainGlobals mg) (hfa : mg "law" = some (.ref fa)) (c : SaysP cks fns K) :
    ∃ fd : FuncData, (∀ (s : Shared) (u : Value), BindsTo s fd ⟨[u], []⟩ [("_law_script", u)]) ∧ ∀ base : Heap, K.In base → base.Ns mainGlobals mg → FnG PX w K mg base CX0 11 fa fd ["_law_script"] (spLaw K) := by
  have m_isinstance : mg "isinstance" = none := He.free_ok X G (c.ck 0 rfl)
  have m_int : mg "int" = none := He.free_ok X G (c.ck 1 rfl)
  have m_bool : mg "bool" = none := He.free_ok X G (c.ck 2 rfl)
  have m_str : mg "str" = none := He.free_ok X G (c.ck 3 rfl)
  have m_dict : mg "dict" = none := He.free_ok X G (c.ck 4 rfl)
  have m_len : mg "len" = none := He.free_ok X G (c.ck 5 rfl)
  have m_all : mg "all" = none := He.free_ok X G (c.ck 6 rfl)
  have m_list : mg "list" = none := He.free_ok X G (c.ck 7 rfl)
  have m_range : mg "range" = none := He.free_ok X G (c.ck 8 rfl)
  have m_min : mg "min" = none := He.free_ok X G (c.ck 9 rfl)
  have m_max : mg "max" = none := He.free_ok X G (c.ck 10 rfl)
  have m_tuple : mg "tuple" = none := He.free_ok X G (c.ck 11 rfl)
  have m_sorted : mg "sorted" = none := He.free_ok X G (c.ck 12 rfl)
  have m_enumerate : mg "enumerate" = none := He.free_ok X G (c.ck 13 rfl)
  have m_reversed : mg "reversed" = none := He.free_ok X G (c.ck 14 rfl)
  have m_zip : mg "zip" = none := He.free_ok X G (c.ck 15 rfl)
  have m_repr : mg "repr" = none := He.free_ok X G (c.ck 16 rfl)
  obtain ⟨tcLet, gcLet⟩ := He.str_ok X G (x := "LETTERS") (c.ck 17 rfl)
  obtain ⟨tcML, gcML⟩ := He.int_ok X G (x := "MOST_LETTERS") (c.ck 18 rfl)
  obtain ⟨tcM8, gcM8⟩ := He.int_ok X G (x := "MOST_ROWS") (c.ck 19 rfl)
  obtain ⟨tcM3, gcM3⟩ := He.int_ok X G (x := "MOST_IN_ANSWER") (c.ck 20 rfl)
  obtain ⟨tcG9, gcG9⟩ := He.int_ok X G (x := "GREATEST_IN_ANSWER") (c.ck 21 rfl)
  obtain ⟨fd1, F1⟩ : ∃ fd, Fun K "is_integer" "is_integer" sIsInt (He.ga K "is_integer") fd := fun_of (c.at_ 0 rfl) rfl (c.ck 22 rfl)
  have b1 := F1.binds (ps := ["value", "low", "high"]) fun _ _ _ _ _ _ us hl => match us, hl with | [_, _, _], _ => rfl
  have g1 : mg "is_integer" = some (.ref (He.ga K "is_integer")) := He.glo_ok X G (c.ck 23 rfl)
  have k1 := F1.kp
  obtain ⟨fd2, F2⟩ : ∃ fd, Fun K "is_name" "is_name" sIsName (He.ga K "is_name") fd := fun_of (c.at_ 1 rfl) rfl (c.ck 24 rfl)
  have b2 := F2.binds (ps := ["value"]) fun _ _ _ _ _ _ us hl => match us, hl with | [_], _ => rfl
  have g2 : mg "is_name" = some (.ref (He.ga K "is_name")) := He.glo_ok X G (c.ck 25 rfl)
  have k2 := F2.kp
  obtain ⟨fd4, F4⟩ : ∃ fd, Fun K "is_list" "is_list" sIsList (He.ga K "is_list") fd := fun_of (c.at_ 2 rfl) rfl (c.ck 26 rfl)
  have b4 := F4.binds (ps := ["value", "most"]) fun _ _ _ _ _ _ us hl => match us, hl with | [_, _], _ => rfl
  have g4 : mg "is_list" = some (.ref (He.ga K "is_list")) := He.glo_ok X G (c.ck 27 rfl)
  have k4 := F4.kp
  obtain ⟨fdia, Fia⟩ : ∃ fd, Fun K "is_answer_item" "is_answer_item" sItemA (He.ga K "is_answer_item") fd := fun_of (c.at_ 3 rfl) rfl (c.ck 28 rfl)
  have bia := Fia.binds (ps := ["value"]) fun _ _ _ _ _ _ us hl => match us, hl with | [_], _ => rfl
  have gia : mg "is_answer_item" = some (.ref (He.ga K "is_answer_item")) := He.glo_ok X G (c.ck 29 rfl)
  have kia := Fia.kp
  obtain ⟨fdfa, Ffa⟩ : ∃ fd, Fun K "is_full_answer" "is_full_answer" sFullA (He.ga K "is_full_answer") fd := fun_of (c.at_ 4 rfl) rfl (c.ck 30 rfl)
  have bfa := Ffa.binds (ps := ["value"]) fun _ _ _ _ _ _ us hl => match us, hl with | [_], _ => rfl
  have gfa : mg "is_full_answer" = some (.ref (He.ga K "is_full_answer")) := He.glo_ok X G (c.ck 31 rfl)
  have kfa := Ffa.kp
  obtain ⟨fdir, Fir⟩ : ∃ fd, Fun K "is_row" "is_row" sIsRow (He.ga K "is_row") fd := fun_of (c.at_ 5 rfl) rfl (c.ck 32 rfl)
  have bir := Fir.binds (ps := ["value"]) fun _ _ _ _ _ _ us hl => match us, hl with | [_], _ => rfl
  have gir : mg "is_row" = some (.ref (He.ga K "is_row")) := He.glo_ok X G (c.ck 33 rfl)
  have kir := Fir.kp
  obtain ⟨fdni, Fni⟩ : ∃ fd, Fun K "need_integer" "need_integer" sNeedInt (He.ga K "need_integer") fd := fun_of (c.at_ 6 rfl) rfl (c.ck 34 rfl)
  have bni := Fni.binds (ps := ["value", "low", "high"]) fun _ _ _ _ _ _ us hl => match us, hl with | [_, _, _], _ => rfl
  have gni : mg "need_integer" = some (.ref (He.ga K "need_integer")) := He.glo_ok X G (c.ck 35 rfl)
  have kni := Fni.kp
  obtain ⟨fdwi, Fwi⟩ : ∃ fd, Fun K "with_item" "with_item" sWith (He.ga K "with_item") fd := fun_of (c.at_ 7 rfl) rfl (c.ck 36 rfl)
  have bwi := Fwi.binds (ps := ["items", "index", "item"]) fun _ _ _ _ _ _ us hl => match us, hl with | [_, _, _], _ => rfl
  have gwi : mg "with_item" = some (.ref (He.ga K "with_item")) := He.glo_ok X G (c.ck 37 rfl)
  have kwi := Fwi.kp
  obtain ⟨fdwo, Fwo⟩ : ∃ fd, Fun K "without_index" "without_index" sWout (He.ga K "without_index") fd := fun_of (c.at_ 8 rfl) rfl (c.ck 38 rfl)
  have bwo := Fwo.binds (ps := ["items", "index"]) fun _ _ _ _ _ _ us hl => match us, hl with | [_, _], _ => rfl
  have gwo : mg "without_index" = some (.ref (He.ga K "without_index")) := He.glo_ok X G (c.ck 39 rfl)
  have kwo := Fwo.kp
  obtain ⟨fdrk, Frk⟩ : ∃ fd, Fun K "ranks_of" "ranks_of" sRanks (He.ga K "ranks_of") fd := fun_of (c.at_ 9 rfl) rfl (c.ck 40 rfl)
  have brk := Frk.binds (ps := ["numbers"]) fun _ _ _ _ _ _ us hl => match us, hl with | [_], _ => rfl
  have grk : mg "ranks_of" = some (.ref (He.ga K "ranks_of")) := He.glo_ok X G (c.ck 41 rfl)
  have krk := Frk.kp
  obtain ⟨fdla, Fla⟩ : ∃ fd, Fun K "longest_ascent" "longest_ascent" sAscent (He.ga K "longest_ascent") fd := fun_of (c.at_ 10 rfl) rfl (c.ck 42 rfl)
  have bla := Fla.binds (ps := ["numbers"]) fun _ _ _ _ _ _ us hl => match us, hl with | [_], _ => rfl
  have gla : mg "longest_ascent" = some (.ref (He.ga K "longest_ascent")) := He.glo_ok X G (c.ck 43 rfl)
  have kla := Fla.kp
  obtain ⟨fdmv, Fmv⟩ : ∃ fd, Fun K "moves_to" "moves_to" sMoves (He.ga K "moves_to") fd := fun_of (c.at_ 11 rfl) rfl (c.ck 44 rfl)
  have bmv := Fmv.binds (ps := ["numbers"]) fun _ _ _ _ _ _ us hl => match us, hl with | [_], _ => rfl
  have gmv : mg "moves_to" = some (.ref (He.ga K "moves_to")) := He.glo_ok X G (c.ck 45 rfl)
  have kmv := Fmv.kp
  obtain ⟨fdsp, Fsp⟩ : ∃ fd, Fun K "steps_to" "steps_to" sSteps (He.ga K "steps_to") fd := fun_of (c.at_ 12 rfl) rfl (c.ck 46 rfl)
  have bsp := Fsp.binds (ps := ["before", "after"]) fun _ _ _ _ _ _ us hl => match us, hl with | [_, _], _ => rfl
  have gsp : mg "steps_to" = some (.ref (He.ga K "steps_to")) := He.glo_ok X G (c.ck 47 rfl)
  have ksp := Fsp.kp
  obtain ⟨fdnc, Fnc⟩ : ∃ fd, Fun K "need_change" "need_change" sNeedCh (He.ga K "need_change") fd := fun_of (c.at_ 13 rfl) rfl (c.ck 48 rfl)
  have bnc := Fnc.binds (ps := ["value"]) fun _ _ _ _ _ _ us hl => match us, hl with | [_], _ => rfl
  have gnc : mg "need_change" = some (.ref (He.ga K "need_change")) := He.glo_ok X G (c.ck 49 rfl)
  have knc := Fnc.kp
  obtain ⟨fdna, Fna⟩ : ∃ fd, Fun K "need_after" "need_after" sNeedAft (He.ga K "need_after") fd := fun_of (c.at_ 14 rfl) rfl (c.ck 50 rfl)
  have bna := Fna.binds (ps := ["before", "after"]) fun _ _ _ _ _ _ us hl => match us, hl with | [_, _], _ => rfl
  have gna : mg "need_after" = some (.ref (He.ga K "need_after")) := He.glo_ok X G (c.ck 51 rfl)
  have kna := Fna.kp
  obtain ⟨fdtk, Ftk⟩ : ∃ fd, Fun K "taken_over" "taken_over" sTaken (He.ga K "taken_over") fd := fun_of (c.at_ 15 rfl) rfl (c.ck 52 rfl)
  have btk := Ftk.binds (ps := ["items", "change"]) fun _ _ _ _ _ _ us hl => match us, hl with | [_, _], _ => rfl
  have gtk : mg "taken_over" = some (.ref (He.ga K "taken_over")) := He.glo_ok X G (c.ck 53 rfl)
  have ktk := Ftk.kp
  obtain ⟨fd8, F8⟩ : ∃ fd, Fun K "_law_cell" "_law_cell" sCell (He.ga K "_law_cell") fd := fun_of (c.at_ 16 rfl) rfl (c.ck 54 rfl)
  have b8 := F8.binds (ps := ["_law_script", "_law_k"]) fun _ _ _ _ _ _ us hl => match us, hl with | [_, _], _ => rfl
  have g8 : mg "_law_cell" = some (.ref (He.ga K "_law_cell")) := He.glo_ok X G (c.ck 55 rfl)
  have k8 := F8.kp
  obtain ⟨fd9, F9⟩ : ∃ fd, Fun K "_law_box" "_law_box" sBox (He.ga K "_law_box") fd := fun_of (c.at_ 17 rfl) rfl (c.ck 56 rfl)
  have b9 := F9.binds (ps := ["_law_cell_here"]) fun _ _ _ _ _ _ us hl => match us, hl with | [_], _ => rfl
  have g9 : mg "_law_box" = some (.ref (He.ga K "_law_box")) := He.glo_ok X G (c.ck 57 rfl)
  have k9 := F9.kp
  obtain ⟨fdA, FA⟩ : ∃ fd, Fun K "_law_take" "_law_take" sTake (He.ga K "_law_take") fd := fun_of (c.at_ 18 rfl) rfl (c.ck 58 rfl)
  have bA := FA.binds (ps := ["_law_box_here", "_law_many"]) fun _ _ _ _ _ _ us hl => match us, hl with | [_, _], _ => rfl
  have gA : mg "_law_take" = some (.ref (He.ga K "_law_take")) := He.glo_ok X G (c.ck 59 rfl)
  have kA := FA.kp
  obtain ⟨fdC, FC⟩ : ∃ fd, Fun K "_law_names" "_law_names" sNames (He.ga K "_law_names") fd := fun_of (c.at_ 19 rfl) rfl (c.ck 60 rfl)
  have bC := FC.binds (ps := ["_law_box_here", "_law_many"]) fun _ _ _ _ _ _ us hl => match us, hl with | [_, _], _ => rfl
  have gC : mg "_law_names" = some (.ref (He.ga K "_law_names")) := He.glo_ok X G (c.ck 61 rfl)
  have kC := FC.kp
  obtain ⟨fdR, FR⟩ : ∃ fd, Fun K "_law_rows" "_law_rows" sRows (He.ga K "_law_rows") fd := fun_of (c.at_ 20 rfl) rfl (c.ck 62 rfl)
  have bR := FR.binds (ps := ["_law_box_here", "_law_many"]) fun _ _ _ _ _ _ us hl => match us, hl with | [_, _], _ => rfl
  have gR : mg "_law_rows" = some (.ref (He.ga K "_law_rows")) := He.glo_ok X G (c.ck 63 rfl)
  have kR := FR.kp
  obtain ⟨fdB, FB⟩ : ∃ fd, Fun K "_law_mixed" "_law_mixed" sMixed (He.ga K "_law_mixed") fd := fun_of (c.at_ 21 rfl) rfl (c.ck 64 rfl)
  have bB := FB.binds (ps := ["_law_box_here", "_law_some"]) fun _ _ _ _ _ _ us hl => match us, hl with | [_, _], _ => rfl
  have gB : mg "_law_mixed" = some (.ref (He.ga K "_law_mixed")) := He.glo_ok X G (c.ck 65 rfl)
  have kB := FB.kp
  obtain ⟨fdF, FF⟩ : ∃ fd, Fun K "_law_after" "_law_after" sAfter (He.ga K "_law_after") fd := fun_of (c.at_ 22 rfl) rfl (c.ck 66 rfl)
  have bF := FF.binds (ps := ["_law_box_here", "_law_before", "_law_rows_here"]) fun _ _ _ _ _ _ us hl => match us, hl with | [_, _, _], _ => rfl
  have gF : mg "_law_after" = some (.ref (He.ga K "_law_after")) := He.glo_ok X G (c.ck 67 rfl)
  have kF := FF.kp
  obtain ⟨fdJ, FJ⟩ : ∃ fd, Fun K "_law_joined" "_law_joined" sJoined (He.ga K "_law_joined") fd := fun_of (c.at_ 23 rfl) rfl (c.ck 68 rfl)
  have bJ := FJ.binds (ps := ["_law_one", "_law_other"]) fun _ _ _ _ _ _ us hl => match us, hl with | [_, _], _ => rfl
  have gJ : mg "_law_joined" = some (.ref (He.ga K "_law_joined")) := He.glo_ok X G (c.ck 69 rfl)
  have kJ := FJ.kp
  obtain ⟨fdcg, Fcg⟩ : ∃ fd, Fun K "_law_caught" "_law_caught" sCaught (He.ga K "_law_caught") fd := fun_of (c.at_ 24 rfl) rfl (c.ck 70 rfl)
  have bcg := Fcg.binds (ps := ["_law_change", "_law_value"]) fun _ _ _ _ _ _ us hl => match us, hl with | [_, _], _ => rfl
  have gcg : mg "_law_caught" = some (.ref (He.ga K "_law_caught")) := He.glo_ok X G (c.ck 71 rfl)
  have kcg := Fcg.kp
  obtain ⟨fdod, Fod⟩ : ∃ fd, Fun K "_law_odd_right" "_law_odd_right" sOddR (He.ga K "_law_odd_right") fd := fun_of (c.at_ 25 rfl) rfl (c.ck 72 rfl)
  have bod := Fod.binds (ps := ["_law_box_here", "_law_change"]) fun _ _ _ _ _ _ us hl => match us, hl with | [_, _], _ => rfl
  have god : mg "_law_odd_right" = some (.ref (He.ga K "_law_odd_right")) := He.glo_ok X G (c.ck 73 rfl)
  have kod := Fod.kp
  obtain ⟨fdrg, Frg⟩ : ∃ fd, Fun K "_law_right" "_law_right" sRight (He.ga K "_law_right") fd := fun_of (c.at_ 26 rfl) rfl (c.ck 74 rfl)
  have brg := Frg.binds (ps := ["_law_before", "_law_lists"]) fun _ _ _ _ _ _ us hl => match us, hl with | [_, _], _ => rfl
  have grg : mg "_law_right" = some (.ref (He.ga K "_law_right")) := He.glo_ok X G (c.ck 75 rfl)
  have krg := Frg.kp
  obtain ⟨fdL, FL⟩ : ∃ fd, Fun K "law" "law" sLaw (He.ga K "law") fd := fun_of (c.at_ 27 rfl) rfl (c.ck 76 rfl)
  have bL := FL.binds (ps := ["_law_script"]) fun _ _ _ _ _ _ us hl => match us, hl with | [_], _ => rfl
  have gL : mg "law" = some (.ref (He.ga K "law")) := He.glo_ok X G (c.ck 77 rfl)
  have kL := FL.kp
  have gCh : mg "Change" = some (.ref (He.ga K "Change")) := He.glo_ok X G (c.ck 78 rfl)
  have cCh : Cls K (He.ga K "Change") := He.cls_ok (c.ck 79 rfl)
  have nCh_old_count : NoAttr K (He.ga K "Change") "old_count" := He.noat_ok (c.ck 80 rfl)
  have nCh_new_items : NoAttr K (He.ga K "Change") "new_items" := He.noat_ok (c.ck 81 rfl)
  have nCh_kept_indices : NoAttr K (He.ga K "Change") "kept_indices" := He.noat_ok (c.ck 82 rfl)
  have nCh_new_rows : NoAttr K (He.ga K "Change") "new_rows" := He.noat_ok (c.ck 83 rfl)
  have nCh_fewest_steps : NoAttr K (He.ga K "Change") "fewest_steps" := He.noat_ok (c.ck 84 rfl)
  have MCh : Mk K (He.ga K "Change") (He.ma K (He.ga K "Change") "__init__") := He.mkr_ok (c.ck 85 rfl)
  obtain ⟨fdhi, Fhi⟩ : ∃ fd, Fun K "__init__" "Change.__init__" (sCh 0) (He.ma K (He.ga K "Change") "__init__") fd := fun_of (c.at_ 28 rfl) rfl (c.ck 86 rfl)
  have bhi := Fhi.binds (ps := ["self", "before", "after"]) fun _ _ _ _ _ _ us hl => match us, hl with | [_, _, _], _ => rfl
  obtain ⟨fdhb, Fhb⟩ : ∃ fd, Fun K "before" "Change.before" (sCh 1) (getr K (He.ma K (He.ga K "Change") "before")) fd := fun_of (c.at_ 29 rfl) rfl (c.ck 87 rfl)
  have bhb := Fhb.binds (ps := ["self"]) fun _ _ _ _ _ _ us hl => match us, hl with | [_], _ => rfl
  have Phb : PropOf K (He.ga K "Change") "before" (He.ma K (He.ga K "Change") "before") (getr K (He.ma K (He.ga K "Change") "before")) := pro_ok (c.ck 88 rfl)
  obtain ⟨fdht, Fht⟩ : ∃ fd, Fun K "total" "Change.total" (sCh 2) (getr K (He.ma K (He.ga K "Change") "total")) fd := fun_of (c.at_ 30 rfl) rfl (c.ck 89 rfl)
  have bht := Fht.binds (ps := ["self"]) fun _ _ _ _ _ _ us hl => match us, hl with | [_], _ => rfl
  have Pht : PropOf K (He.ga K "Change") "total" (He.ma K (He.ga K "Change") "total") (getr K (He.ma K (He.ga K "Change") "total")) := pro_ok (c.ck 90 rfl)
  obtain ⟨fdhf, Fhf⟩ : ∃ fd, Fun K "after" "Change.after" (sCh 3) (He.ma K (He.ga K "Change") "after") fd := fun_of (c.at_ 31 rfl) rfl (c.ck 91 rfl)
  have bhf := Fhf.binds (ps := ["self"]) fun _ _ _ _ _ _ us hl => match us, hl with | [_], _ => rfl
  have Mhf : Meth K (He.ga K "Change") "after" (He.ma K (He.ga K "Change") "after") := He.meth_ok (c.ck 92 rfl)
  obtain ⟨fdhm, Fhm⟩ : ∃ fd, Fun K "came" "Change.came" (sCh 6) (He.ma K (He.ga K "Change") "came") fd := fun_of (c.at_ 32 rfl) rfl (c.ck 93 rfl)
  have bhm := Fhm.binds (ps := ["self"]) fun _ _ _ _ _ _ us hl => match us, hl with | [_], _ => rfl
  have Mhm : Meth K (He.ga K "Change") "came" (He.ma K (He.ga K "Change") "came") := He.meth_ok (c.ck 94 rfl)
  obtain ⟨fdha, Fha⟩ : ∃ fd, Fun K "__add__" "Change.__add__" (sCh 10) (He.ma K (He.ga K "Change") "__add__") fd := fun_of (c.at_ 33 rfl) rfl (c.ck 95 rfl)
  have bha := Fha.binds (ps := ["self", "other"]) fun _ _ _ _ _ _ us hl => match us, hl with | [_, _], _ => rfl
  have OA : OpO K (He.ga K "Change") .Add (He.ma K (He.ga K "Change") "__add__") := op_ok (c.ck 96 rfl)
  have OD : ∀ d : PyData, OpB K (He.ga K "Change") .Add (tyN d) := fun d => opb_ok (c.ck 97 rfl) d
  have NI : NoI K (He.ga K "Change") := noi_ok (c.ck 98 rfl)
  obtain ⟨fdhe, Fhe⟩ : ∃ fd, Fun K "__eq__" "Change.__eq__" (sCh 11) (He.ma K (He.ga K "Change") "__eq__") fd := fun_of (c.at_ 34 rfl) rfl (c.ck 99 rfl)
  have bhe := Fhe.binds (ps := ["self", "other"]) fun _ _ _ _ _ _ us hl => match us, hl with | [_, _], _ => rfl
  have EO : EqO K (He.ga K "Change") (He.ma K (He.ga K "Change") "__eq__") := eqo_ok (c.ck 100 rfl)
  have nE : PySem.W.notFirst K (He.ga K "Change") (.ref (He.ga K "Change")) = true := c.ck 101 rfl
  have kk : IsK K (He.ga K "Change") := isk_ok (c.ck 102 rfl)
  have gxi : mg "InvalidChange" = some (.ref (He.ga K "InvalidChange")) := He.glo_ok X G (c.ck 103 rfl)
  obtain ⟨fdxi, Fxi⟩ : ∃ fd, Fun K "__init__" "InvalidChange.__init__" sIC (He.ma K (He.ga K "InvalidChange") "__init__") fd := fun_of (c.at_ 35 rfl) rfl (c.ck 104 rfl)
  have bxi := Fxi.binds (ps := ["self", "value"]) fun _ _ _ _ _ _ us hl => match us, hl with | [_, _], _ => rfl
  have Txi : OexC K (He.ga K "InvalidChange") := oex_ok (c.ck 105 rfl)
  have fxi : XfC K (He.ga K "InvalidChange") := xfB_ok (c.ck 106 rfl)
  obtain ⟨ixi, txi, nxi⟩ := ini_ok (c.ck 107 rfl : iniB K (He.ga K "InvalidChange") (He.ma K (He.ga K "InvalidChange") "__init__") "value" = true)
  have gxm : mg "Mismatch" = some (.ref (He.ga K "Mismatch")) := He.glo_ok X G (c.ck 108 rfl)
  obtain ⟨fdxm, Fxm⟩ : ∃ fd, Fun K "__init__" "Mismatch.__init__" sMM (He.ma K (He.ga K "Mismatch") "__init__") fd := fun_of (c.at_ 36 rfl) rfl (c.ck 109 rfl)
  have bxm := Fxm.binds (ps := ["self", "value"]) fun _ _ _ _ _ _ us hl => match us, hl with | [_, _], _ => rfl
  have Txm : OexC K (He.ga K "Mismatch") := oex_ok (c.ck 110 rfl)
  have fxm : XfC K (He.ga K "Mismatch") := xfB_ok (c.ck 111 rfl)
  obtain ⟨ixm, txm, nxm⟩ := ini_ok (c.ck 112 rfl : iniB K (He.ga K "Mismatch") (He.ma K (He.ga K "Mismatch") "__init__") "value" = true)
  have gxk : mg "KeyTaken" = some (.ref (He.ga K "KeyTaken")) := He.glo_ok X G (c.ck 113 rfl)
  obtain ⟨fdxk, Fxk⟩ : ∃ fd, Fun K "__init__" "KeyTaken.__init__" sKT (He.ma K (He.ga K "KeyTaken") "__init__") fd := fun_of (c.at_ 37 rfl) rfl (c.ck 114 rfl)
  have bxk := Fxk.binds (ps := ["self", "key"]) fun _ _ _ _ _ _ us hl => match us, hl with | [_, _], _ => rfl
  have Txk : OwnX K (He.ga K "KeyTaken") := ox_ok (c.ck 115 rfl)
  have fxk : XfC K (He.ga K "KeyTaken") := xfB_ok (c.ck 116 rfl)
  obtain ⟨ixk, txk, nxk⟩ := ini_ok (c.ck 117 rfl : iniB K (He.ga K "KeyTaken") (He.ma K (He.ga K "KeyTaken") "__init__") "key" = true)
  have exixi : PySem.W.exmOne K (.ref (He.ga K "InvalidChange")) (.ref (He.ga K "InvalidChange")) = some true := of_decide_eq_true (c.ck 118 rfl)
  have exmxi : PySem.W.exmOne K (.ref (He.ga K "Mismatch")) (.ref (He.ga K "InvalidChange")) = some false := of_decide_eq_true (c.ck 119 rfl)
  have exmxm : PySem.W.exmOne K (.ref (He.ga K "Mismatch")) (.ref (He.ga K "Mismatch")) = some true := of_decide_eq_true (c.ck 120 rfl)
  have exkxi : PySem.W.exmOne K (.ref (He.ga K "KeyTaken")) (.ref (He.ga K "InvalidChange")) = some false := of_decide_eq_true (c.ck 121 rfl)
  have exkxm : PySem.W.exmOne K (.ref (He.ga K "KeyTaken")) (.ref (He.ga K "Mismatch")) = some false := of_decide_eq_true (c.ck 122 rfl)
  have exkxk : PySem.W.exmOne K (.ref (He.ga K "KeyTaken")) (.ref (He.ga K "KeyTaken")) = some true := of_decide_eq_true (c.ck 123 rfl)
  have e := hfa.symm.trans gL
  cases e
  obtain ⟨_, _, _, _, _, _, _, _, _, hfd, _, _⟩ := FL.ex
  refine ⟨fdL, fun s u => by rw [hfd]; exact .of_eq rfl, fun base _ _ => ?_⟩
  have O1 : FnOk PX w K mg base CX0 1 _ _ ["value", "low", "high"] spIsInt := ok_isint F1 m_isinstance m_int m_bool
  have O1T : FnOk PX w K mg base CX0 1 _ _ ["value", "low", "high"] spIsIntT := ok_isintT F1 m_isinstance m_int m_bool
  have O2 : FnOk PX w K mg base CX0 1 _ _ ["value"] spIsName := ok_isname F2 gcML gcLet m_isinstance m_str m_len m_all
  have O4 : FnOk PX w K mg base CX0 1 _ _ ["value", "most"] (spIsList K) := ok_islist F4 m_isinstance m_len m_list m_tuple
  have Oia : FnOk PX w K mg base CX0 2 _ _ ["value"] spItemA := ok_itemA Fia O1 g1 k1 b1 gcG9
  have Ofa : FnOk PX w K mg base CX0 3 _ _ ["value"] spFullA := ok_fullA Ffa Oia gia kia bia gcM3 m_isinstance m_tuple m_len m_all
  have Oir : FnOk PX w K mg base CX0 4 _ _ ["value"] spIsRowT := ok_isrow Fir O2 g2 k2 b2 Ofa gfa kfa bfa m_isinstance m_tuple m_len
  have Oni : FnOk PX w K mg base CX0 2 _ _ ["value", "low", "high"] spNeedInt := ok_needint Fni g1 k1 b1 O1
  have Owi : FnOk PX w K mg base CX0 1 _ _ ["items", "index", "item"] spWith := ok_with Fwi
  have Owo : FnOk PX w K mg base CX0 1 _ _ ["items", "index"] spWout := ok_wout Fwo
  have Wi : WiWo PX w K mg base _ _ _ _ := ⟨gwi, kwi, bwi, Owi, gwo, kwo, bwo, Owo⟩
  have Ork : FnOk PX w K mg base CX0 1 _ _ ["numbers"] (spRanks K) := ok_ranks Frk m_len
  have Ola : FnOk PX w K mg base CX0 2 _ _ ["numbers"] (spAscent K) := ok_ascent Fla Ork grk krk brk m_max m_reversed m_list m_zip
  have Omv : FnOk PX w K mg base CX0 3 _ _ ["numbers"] (spMoves K) := ok_moves Fmv Ola gla kla bla Wi m_sorted m_enumerate
  have Osp : FnOk PX w K mg base CX0 4 _ _ ["before", "after"] (spSteps K) := ok_steps Fsp Omv gmv kmv bmv m_isinstance m_int m_reversed m_range m_enumerate
  have Ona : FnOk PX w K mg base CX0 5 _ _ ["before", "after"] spNeedAft := ok_needaft Fna O4 g4 k4 b4 (fnok_or O1 O1T) g1 k1 b1 Oir gir kir bir gcM8 m_enumerate
  have hh : ChC K (He.ga K "Change") := ⟨cCh, nCh_old_count, nCh_new_items, nCh_kept_indices, nCh_new_rows, nCh_fewest_steps⟩
  have Ohi : FnOk PX w K mg base CX0 6 _ _ ["self", "before", "after"] (spChI (He.ga K "Change")) := ok_chinit Fhi hh Oni gni kni bni Ona gna kna bna Osp gsp ksp bsp gcM8 m_tuple m_isinstance m_int
  have Rh : MkC PX w K mg base (He.ga K "Change") _ _ := ⟨MCh, bhi, Ohi, gCh⟩
  have Oxi : FnOk PX w K mg base CX0 1 _ _ ["self", "value"] (spInitV (He.ga K "InvalidChange")) := ok_ic Fxi Txi nxi
  have Oxm : FnOk PX w K mg base CX0 1 _ _ ["self", "value"] (spInitV (He.ga K "Mismatch")) := ok_mm Fxm Txm nxm
  have Oxk : FnOk PX w K mg base CX0 1 _ _ ["self", "key"] (spInitK (He.ga K "KeyTaken")) := ok_kt Fxk Txk nxk
  have XI : ErrV PX w K mg base (He.ga K "InvalidChange") _ _ := ⟨Txi, ixi, txi, bxi, Oxi⟩
  have XM : ErrV PX w K mg base (He.ga K "Mismatch") _ _ := ⟨Txm, ixm, txm, bxm, Oxm⟩
  have Otk : FnOk PX w K mg base (L2N.CX PX w) 3 _ _ ["items", "change"] (spTaken (He.ga K "Change") (He.ga K "KeyTaken")) := ok_taken Ftk hh Txk gxk ixk txk bxk Oxk m_isinstance m_int
  have Onc : FnOk PX w K mg base (L2N.CX PX w) 3 _ _ ["value"] (spNeedCh K (He.ga K "Change") (He.ga K "InvalidChange")) := ok_needch Fnc cCh kk gCh m_isinstance XI gxi
  have Ohb : FnOk PX w K mg base CX0 1 _ _ ["self"] (spChB (He.ga K "Change")) := ok_chb Fhb hh
  have Oht : FnOk PX w K mg base CX0 1 _ _ ["self"] (spChT (He.ga K "Change")) := ok_cht Fht hh m_len
  have Ohf : FnOk PX w K mg base CX0 1 _ _ ["self"] (spChF (He.ga K "Change")) := ok_chf Fhf hh m_list
  have OhfH : L2H.FnH PX w K mg base CX0 1 _ _ ["self"] (spChF (He.ga K "Change")) := ok_chfH Fhf hh m_list
  have Ohm : FnOk PX w K mg base CX0 1 _ _ ["self"] (spChM (He.ga K "Change")) := ok_chm Fhm hh m_list
  have Oha : FnOk PX w K mg base (L2N.CX PX w) 8 _ _ ["self", "other"] (spChA K (He.ga K "Change") (He.ga K "InvalidChange") (He.ga K "Mismatch") (He.ga K "KeyTaken")) := ok_cha Fha hh Rh Onc gnc knc bnc Otk gtk ktk btk XM gxm m_len
  have Ohe : FnOk PX w K mg base CX0 1 _ _ ["self", "other"] (spChE (He.ga K "Change")) := ok_che Fhe hh kk gCh m_isinstance
  have TH : Thr K mg (He.ga K "InvalidChange") (He.ga K "Mismatch") (He.ga K "KeyTaken") := ⟨exixi, exmxi, exmxm, exkxi, exkxm, exkxk, fxi, fxm, fxk, nxi, nxm, nxk, gxi, gxm, gxk⟩
  have AK : AskC PX w K mg base (He.ga K "Change") := ⟨hh, ⟨_, _, Mhf, bhf, Ohf, OhfH⟩, ⟨_, _, _, Phb, bhb, Ohb⟩⟩
  have AC : AddC PX w K mg base (He.ga K "Change") (He.ga K "InvalidChange") (He.ga K "Mismatch") (He.ga K "KeyTaken") := ⟨⟨_, _, OA, bha, Oha⟩, OD, NI⟩
  have Ocg : FnOk PX w K mg base CX0 9 _ _ ["_law_change", "_law_value"] (spCaught K (He.ga K "Change")) := ok_caught Fcg TH AK AC
  have OJ : FnOk PX w K mg base CX0 1 _ _ ["_law_one", "_law_other"] spJoined := ok_joined FJ m_isinstance m_int
  have RK : RgK PX w K mg base (He.ga K "Change") (He.ga K "InvalidChange") (He.ga K "Mismatch") (He.ga K "KeyTaken") := ⟨AK, AC, ⟨_, _, Rh⟩, ⟨_, _, OJ, kJ, bJ, gJ⟩, ⟨_, _, Ocg, kcg, bcg, gcg⟩, ⟨_, _, EO, bhe, Ohe⟩, nE, ⟨_, _, _, Pht, bht, Oht⟩, m_repr⟩
  have OA1 : FnOk PX w K mg base CX0 1 _ _ ["_law_box_here", "_law_many"] spTake := ok_take FA
  have ORK : OrK PX w K mg base (He.ga K "Change") := ⟨hh, ⟨_, _, Rh⟩, ⟨_, _, Ocg, kcg, bcg, gcg⟩, ⟨_, _, _, Pht, bht, Oht⟩, ⟨_, _, Mhf, bhf, Ohf⟩, ⟨_, _, Mhm, bhm, Ohm⟩, ⟨_, _, OA1, kA, bA, gA⟩, m_repr, m_isinstance, m_list, m_dict⟩
  have Grg : FnG PX w K mg base CX0 10 _ _ ["_law_before", "_law_lists"] spRight := ok_right Frg RK
  have God : FnG PX w K mg base CX0 10 _ _ ["_law_box_here", "_law_change"] (spOddR (He.ga K "Change")) := ok_oddr Fod ORK
  have OC : FnOk PX w K mg base CX0 2 _ _ ["_law_box_here", "_law_many"] spNamesD := ok_namesD FC OA1 kA bA gA m_range m_min
  have OR : FnOk PX w K mg base CX0 3 _ _ ["_law_box_here", "_law_many"] spRows := ok_rows FR OA1 kA bA gA OC kC bC gC m_range m_tuple
  have OB : FnOk PX w K mg base CX0 2 _ _ ["_law_box_here", "_law_some"] (spMixR K) := ok_mixR FB FA bA gA m_len m_list
  have AF : AfK PX w K mg base := ⟨⟨_, _, OA1, kA, bA, gA⟩, ⟨_, _, OB, kB, bB, gB⟩, m_range, m_len, m_int⟩
  have OF : FnOk PX w K mg base CX0 3 _ _ ["_law_box_here", "_law_before", "_law_rows_here"] spAfter := ok_after FF AF
  have LK : LwK PX w K mg base (He.ga K "Change") (He.ga K "InvalidChange") (He.ga K "Mismatch") (He.ga K "KeyTaken") := ⟨⟨_, _, OA1, kA, bA, gA⟩, ⟨_, _, OR, kR, bR, gR⟩, ⟨_, _, OB, kB, bB, gB⟩, ⟨_, _, OF, kF, bF, gF⟩, ⟨_, _, Grg, krg, brg, grg⟩, ⟨_, _, God, kod, bod, god⟩, ⟨_, _, Rh⟩, m_range, m_len⟩
  have O8 : FnOk PX w K mg base CX0 1 _ _ ["_law_script", "_law_k"] (spCell' K) := ok_cell F8 m_len
  have O9 : FnOk PX w K mg base CX0 1 _ _ ["_law_cell_here"] spBox := ok_box F9 m_max
  exact ok_law FL LK O8 k8 b8 g8 O9 k9 b9 g9 m_max m_min
end G
set_option Elab.async false
set_option linter.all false
set_option maxRecDepth 100000
set_option maxHeartbeats 8000000
/-! XB: the top's run. -/
namespace G
open PySem PySem.Spec PyProof.Rows L2 NdefX StX
abbrev hk : PySem.W.Hook := hookP 5 cks fns
def ob (s : PySem.W.SharedT) : AlP := obsPG 5 cks fns (HandSHeadRun.getT s)
theorem ob_eq (s : PySem.W.SharedT) : ob s = hk.obs s.abs := obsPG_eq (HandSHeadRun.getT_eq s)
def loose0 : List Str := ["_wall", "BoardError", "MissingError", "StateError", "InvalidInteger", "InvalidChange", "InvalidRows", "Mismatch", "KeyTaken", "LETTERS", "MOST_LETTERS", "MOST_ROWS", "MOST_IN_ANSWER", "GREATEST_IN_ANSWER", "is_integer", "is_name", "is_row", "is_rows", "is_list", "is_full_answer", "is_answer_item", "need_integer", "need_rows", "with_item", "without_index", "ranks_of", "longest_ascent", "moves_to", "steps_to", "Change"]
def loose1 : List Str := ["need_change", "need_after", "taken_over", "_law_cell", "_law_box", "_law_take", "_law_names", "_law_rows", "_law_mixed", "_law_after", "_law_joined", "_law_caught", "_law_odd_right", "_law_right"]
abbrev looseX : List Str := loose0 ++ loose1
theorem run (w : World) : HandSHeadRun.RunEq (PySem.W.OpenLaw.row PySem.Challenge.rw_listviews_k24_changes_joined) (PySem.W.view PX [51]) hk ob 20000 looseX w := by
  intro os
  kernel_rfl
end G
set_option Elab.async false
set_option linter.all false
set_option maxRecDepth 100000
set_option maxHeartbeats 8000000
/-! XC: the end. -/
open PySem PySem.W PySem.Calls PyProof.Rows
set_option maxRecDepth 100000 in
set_option maxHeartbeats 0 in
theorem PySem.Challenge.cw_listviews_k24_changes_joined_holds : PySem.Challenge.rw_listviews_k24_changes_joined.Holds := by
  w_on; o_law
  refine HandSHeadRun.head_any (r := OpenLaw.row PySem.Challenge.rw_listviews_k24_changes_joined) (q := view (OpenLaw.row PySem.Challenge.rw_listviews_k24_changes_joined).prog [51]) (H := G.hk) (ob := G.ob) (M := 20000) (loose := G.looseX) (d := HandSHeadRun.topDef (OpenLaw.row PySem.Challenge.rw_listviews_k24_changes_joined).prog 51) (kwd := []) G.ob_eq
    (by kernel_rfl) (fun s => by kernel_rfl) G.run (by kernel_rfl) (by kernel_rfl) (by kernel_rfl) (by rfl) (by first | assumption | decide +kernel) (by decide +kernel) ⟨rfl, rfl, rfl, rfl, rfl, by decide +kernel⟩ ?hw ?hc
  case hw => w_witness2
  case hc =>
    refine G.walk_goE (l := PySem.Challenge.rw_listviews_k24_changes_joined) (n := 63) (k := 11) (x := "_law_script") rfl (by decide) (by kernel_rfl) ⟨rfl, by decide, by decide⟩ ?F
    intro w mg fa h Y GX hmg0
    obtain ⟨K, KX, c⟩ := Y
    have hmg : mg ("law" : PySem.Str) = some (.ref fa) := by
      have e : (HandSHeadRun.topDef (OpenLaw.row PySem.Challenge.rw_listviews_k24_changes_joined).prog 51).name = ("law" : PySem.Str) := by kernel_rfl
      rw [← e]
      exact hmg0
    obtain ⟨fd, hb, hF⟩ := G.facts (w := w) KX GX hmg c
    exact ⟨K, fd, G.spLaw K, KX, hb, fun H a ns hl _ hS => ⟨a, ns, rfl, hS, hl, fun _ => rfl⟩, hF⟩
