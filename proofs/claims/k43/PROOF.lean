import PyProof.Rows.All
import Wide.All
import OpenK.AllK
import Wide.FinOn
import HandS.ForMost
import HandS.ForExc
import HandS.ExcInit
import HandS.ExcField
import HandS.TryMany
import HandS.IsInst
import HandS.Wide
import HandS.Small
import HandS.RaiseMore
import PyProof.ReprRoads
import HandS.StrMore
import HandS.Walk
import KE.KSuper
import HandS.ClsMeth
import HandS.Nested
import HandS.More
import HandS.Defaults
import HandS.MakeKwOnly
import PyProof.InstNe
import HandS.SlotsOwn
import HandS.Words
import HandS.NamedTupSort
import KE.KOpsOwn
import HandS.Star
import HandS.MethStar
import OpenK.KMake
import KE.KOwnIter
import HandS.IterVal
import HandS.List
import HandS.TupSets
import HandS.DeepEq
import PyProof.CallFns
import HandS.SetKeys
import HandS.Strs
import HandS.Conv
import HandS.DictTup
import PyProof.DictMoreH
import HandS.DictComp
import KE.SortKeyHeap
import KE.KLam
import HandS.Base
import HandS.Call
import HandS.Dict
import HandS.Lambda
import HandS.SortKw
import PyProof.TupleOfSeq
import HandS.EndTab
import KE.DataCmp
import HandS.Deep
import HandS.Property
import HandS.Head0
import HandS.Head1
import HandS.Head2
import HandS.HeadHook1
import HandS.HeadHook2
import KE.KNestM
import PySem.Challenge.RW_listviews_k43_rows_filtered_and_ordered
set_option Elab.async false
set_option linter.all false
set_option maxRecDepth 100000
set_option maxHeartbeats 2000000
/-! G1: what a def keeps where no guard is under way; repr of data at any depth, dicts too. -/
namespace G
open PySem PySem.Spec PyProof.Rows L2

/-! ### how long a shown text is -/
mutual
def mass : PyData → Nat
  | .none => 4
  | .bool _ => 5
  | .int _ => 1921
  | .str x => (reprText x).length
  | .list xs => 3 + massAll xs
  | .tuple xs => 4 + massAll xs
  | .dict kvs => 3 + massKv kvs
def massAll : List PyData → Nat
  | [] => 0
  | x :: xs => mass x + 2 + massAll xs
def massKv : List (PyData × PyData) → Nat
  | [] => 0
  | (k, v) :: r => mass k + mass v + 4 + massKv r
end
theorem text_from_le : ∀ (ts : List Str) (k : Nat) (acc : Str), (textFrom k acc ts).length ≤ acc.length + piled ts
  | [], k, acc => by
    show acc.length ≤ acc.length + 0
    omega
  | t :: r, k, acc => by
    have h1 := text_from_le r (k + 1) (acc ++ (if k > 0 then ", " else "" : String) ++ t)
    rw [strLen_append, strLen_append] at h1
    have h2 : (((if k > 0 then ", " else "" : String) : Str)).length ≤ 2 := by
      split <;> decide
    show (textFrom (k + 1) _ r).length ≤ _
    rw [piled_cons]
    omega
theorem list_text_le (ts : List Str) : (listText ts).length ≤ 3 + piled ts := by
  unfold listText
  rw [strLen_append]
  have h1 := text_from_le ts 0 "["
  have e1 : ((("[" : String) : Str)).length = 1 := rfl
  have e2 : ((("]" : String) : Str)).length = 1 := rfl
  rw [e1] at h1
  rw [e2]
  omega
theorem join_le (ts : List Str) : (Str.join ", " ts).length ≤ piled ts := by
  by_cases h : ts = []
  · subst h
    exact Nat.le_refl 0
  · have := join_length_add ts h
    omega
theorem tuple_text_le (ts : List Str) : (tupleText ts).length ≤ 4 + piled ts := by
  unfold tupleText
  rw [strLen_append, strLen_append]
  have h1 := join_le ts
  have e1 : ((("(" : String) : Str)).length = 1 := rfl
  have e3 : (((if ts.length == 1 then ",)" else ")" : String) : Str)).length ≤ 2 := by split <;> decide
  rw [e1]
  omega
theorem dict_text_le (ts : List Str) : (dictText ts).length ≤ 3 + piled ts := by
  unfold dictText
  rw [strLen_append, strLen_append]
  have h1 := join_le ts
  have e1 : ((("{" : String) : Str)).length = 1 := rfl
  have e3 : ((("}" : String) : Str)).length = 1 := rfl
  rw [e1, e3]
  omega
mutual
theorem shown_le : ∀ d : PyData, d.showable = true → d.shown.length ≤ mass d
  | .none, _ => by decide
  | .bool b, _ => by cases b <;> decide
  | .int i, h => by
    have h' : i.natAbs.log2 < 1920 := by simpa [PyData.showable] using h
    have h2 := int_text_length_le (by decide) h'
    show (Str.ofString (toString i)).length ≤ 1921
    rw [PySem.ofString_length]
    exact h2
  | .str x, _ => by
    simp only [PyData.shown, mass]
    exact Nat.le_refl _
  | .list xs, h => by
    have h' : PyData.showableAll xs = true := by simpa [PyData.showable] using h
    have h1 := list_text_le (PyData.shownAll xs)
    have h2 := shown_all_le xs h'
    simp only [PyData.shown, mass]
    omega
  | .tuple xs, h => by
    have h' : PyData.showableAll xs = true := by simpa [PyData.showable] using h
    have h1 := tuple_text_le (PyData.shownAll xs)
    have h2 := shown_all_le xs h'
    simp only [PyData.shown, mass]
    omega
  | .dict kvs, h => by
    have h' : PyData.showableKv kvs = true := by simpa [PyData.showable] using h
    have h1 := dict_text_le (PyData.shownKv kvs)
    have h2 := shown_kv_le kvs h'
    simp only [PyData.shown, mass]
    omega
theorem shown_all_le : ∀ xs : List PyData, PyData.showableAll xs = true → piled (PyData.shownAll xs) ≤ massAll xs
  | [], _ => by
    simp only [PyData.shownAll, massAll, piled_nil]
    exact Nat.le_refl _
  | x :: xs, h => by
    simp only [PyData.showableAll, Bool.and_eq_true] at h
    have h1 := shown_le x h.1
    have h2 := shown_all_le xs h.2
    simp only [PyData.shownAll, massAll, piled_cons]
    omega
theorem shown_kv_le : ∀ xs : List (PyData × PyData), PyData.showableKv xs = true → piled (PyData.shownKv xs) ≤ massKv xs
  | [], _ => by
    simp only [PyData.shownKv, massKv, piled_nil]
    exact Nat.le_refl _
  | (k, v) :: xs, h => by
    simp only [PyData.showableKv, Bool.and_eq_true] at h
    have h1 := shown_le k h.1.1
    have h2 := shown_le v h.1.2
    have h3 := shown_kv_le xs h.2
    have e : (((": " : String) : Str)).length = 2 := rfl
    simp only [PyData.shownKv, massKv, piled_cons, strLen_append, e]
    omega
end

/-! ### data that stands in the heap: lists, tuples, dicts by int and text keys -/
mutual
inductive Rp (K : PySem.W.Frag) (H : Hp) : V → PyData → Prop
  | non : Rp K H .non .none
  | bl (b : Bool) : Rp K H (.bl b) (.bool b)
  | int (i : Int) : Rp K H (.int i) (.int i)
  | str (x : Str) : Rp K H (.str x) (.str x)
  | lst {a : Addr} {xs : List V} {ds : List PyData} : H a = some (.lst xs) → RpAll K H xs ds → Rp K H (.ref a) (.list ds)
  | tup {a : Addr} {xs : List V} {ds : List PyData} : H a = some (.tup xs) → RpAll K H xs ds → Rp K H (.ref a) (.tuple ds)
  | dic {a : Addr} {kvs : List (Key × V)} {ds : List (PyData × PyData)} : H a = some (.dK kvs) → RpAll K H (kvs.map fun p => kV p.1) (ds.map (·.1)) → RpAll K H (kvs.map (·.2)) (ds.map (·.2)) → Rp K H (.ref a) (.dict ds)
inductive RpAll (K : PySem.W.Frag) (H : Hp) : List V → List PyData → Prop
  | nil : RpAll K H [] []
  | cons {v : V} {vs : List V} {d : PyData} {ds : List PyData} : Rp K H v d → RpAll K H vs ds → RpAll K H (v :: vs) (d :: ds)
end

/-! ### .. and how it is read -/
mutual
/-- no list in it: each address that a reading of it counts is a dict's -/
def okS : PyData → Bool
  | .none | .bool _ | .int _ | .str _ => true
  | .list _ => false
  | .tuple xs => okSAll xs
  | .dict kvs => okSKv kvs
def okSAll : List PyData → Bool
  | [] => true
  | x :: xs => okS x && okSAll xs
def okSKv : List (PyData × PyData) → Bool
  | [] => true
  | (k, v) :: r => okS k && okS v && okSKv r
end
theorem okSKv_split : ∀ {kvs : List (PyData × PyData)}, okSKv kvs = true → okSAll (kvs.map (·.1)) = true ∧ okSAll (kvs.map (·.2)) = true
  | [], _ => ⟨rfl, rfl⟩
  | (k, v) :: r, h => by
    simp only [okSKv, Bool.and_eq_true] at h
    obtain ⟨h1, h2⟩ := okSKv_split h.2
    simp only [List.map_cons, okSAll, Bool.and_eq_true]
    exact ⟨⟨h.1.1, h1⟩, h.1.2, h2⟩
theorem pairs_vals {P : Program} {w : World} : ∀ {kvs : List (Key × V)} {vs : List (Key × Value)} {es : List DictEntry}, KV kvs vs → Pairs (mixKind P w) es vs →
    Vals (kvs.map fun p => kV p.1) (es.map (·.key)) ∧ Vals (kvs.map (·.2)) (es.map (·.val))
  | _, _, _, .nil, .nil => ⟨.nil, .nil⟩
  | _, _, _, .cons r t, .cons hk hv p => by
    obtain ⟨h1, h2⟩ := pairs_vals t p
    refine ⟨.cons ?_ h1, .cons ?_ h2⟩
    · dsimp only
      rw [r.1]
      rcases keyIs_shape hk with ⟨i, tk, e1, e2⟩ | ⟨x, tk, e1, e2⟩
      · rw [e1, e2]
        exact ⟨tk, rfl⟩
      · rw [e1, e2]
        exact ⟨tk, rfl⟩
    · dsimp only
      rw [hv]
      exact r.2
section
variable {X : Cx} {pins : List (Addr × Obj)} {σ : L2.St} {H : Hp} {s : Shared}
mutual
theorem rp_reads (I : Inv X pins σ H s) : ∀ (d : PyData) (v : V) (u : Value), Rp X.K H v d → RelV v u → ∃ as, Reads s.heap u d as ∧ (okS d = true → sysModules ∉ as)
  | .none, _, _, h, r => by
    cases h
    cases r
    exact ⟨_, Reads.none, fun _ => by simp⟩
  | .bool b, _, _, h, r => by
    cases h
    cases r
    exact ⟨_, Reads.bool b, fun _ => by simp⟩
  | .int i, _, _, h, r => by
    cases h
    obtain ⟨t, rfl⟩ := r
    exact ⟨_, Reads.int i t, fun _ => by simp⟩
  | .str x, _, _, h, r => by
    cases h
    obtain ⟨t, rfl⟩ := r
    exact ⟨_, Reads.str x t, fun _ => by simp⟩
  | .list ds, _, _, h, r => by
    cases h with
    | lst hs ha =>
      cases r
      obtain ⟨its, rv, ⟨o, n, ho, hc, _, hd⟩, _⟩ := I.list (.of hs)
      obtain ⟨as, hr, _⟩ := rp_readsAll I ds _ its ha rv
      exact ⟨_, Reads.list ho hc hd hr, fun z => by simp [okS] at z⟩
  | .tuple ds, _, _, h, r => by
    cases h with
    | tup hs ha =>
      cases r
      obtain ⟨its, rv, ⟨o, ho, hc, n, hd⟩, _⟩ := I.tuple (.of hs)
      obtain ⟨as, hr, q⟩ := rp_readsAll I ds _ its ha rv
      exact ⟨_, Reads.tuple ho hc hd hr, fun z => q (by simpa [okS] using z)⟩
  | .dict ds, _, _, h, r => by
    cases h with
    | dic hs hk hv =>
      cases r
      obtain ⟨_, hm, vs, rel, o, es, ep, e1, e2, e3, e4, e5, e6⟩ := I.hok _ _ hs
      obtain ⟨r1, r2⟩ := pairs_vals rel e5
      obtain ⟨as, q1, z1⟩ := rp_readsKeys I ds _ _ hk r1
      obtain ⟨bs, q2, z2⟩ := rp_readsVals I ds _ _ hv r2
      refine ⟨_, Reads.dict e1 e2.1 e3 q1 q2, fun z => ?_⟩
      have hz : okSKv ds = true := by simpa [okS] using z
      obtain ⟨k1, k2⟩ := okSKv_split hz
      have hm' := beq_eq_false_iff_ne.mp hm
      intro hin
      rcases List.mem_cons.mp hin with hx | hx
      · exact hm' hx.symm
      · rcases List.mem_append.mp hx with hx | hx
        · exact z1 k1 hx
        · exact z2 k2 hx
theorem rp_readsAll (I : Inv X pins σ H s) : ∀ (ds : List PyData) (vs : List V) (us : List Value), RpAll X.K H vs ds → Vals vs us → ∃ as, ReadsAll s.heap us ds as ∧ (okSAll ds = true → sysModules ∉ as)
  | [], _, _, h, r => by
    cases h
    cases r
    exact ⟨_, ReadsAll.nil, fun _ => by simp⟩
  | d :: ds, _, _, h, r => by
    cases h with
    | cons h1 h2 =>
      cases r with
      | cons r1 r2 =>
        obtain ⟨as, q1, z1⟩ := rp_reads I d _ _ h1 r1
        obtain ⟨bs, q2, z2⟩ := rp_readsAll I ds _ _ h2 r2
        refine ⟨_, ReadsAll.cons q1 q2, fun z => ?_⟩
        simp only [okSAll, Bool.and_eq_true] at z
        intro hin
        rcases List.mem_append.mp hin with hx | hx
        · exact z1 z.1 hx
        · exact z2 z.2 hx
theorem rp_readsKeys (I : Inv X pins σ H s) : ∀ (ds : List (PyData × PyData)) (vs : List V) (us : List Value), RpAll X.K H vs (ds.map (·.1)) → Vals vs us → ∃ as, ReadsAll s.heap us (ds.map (·.1)) as ∧ (okSAll (ds.map (·.1)) = true → sysModules ∉ as)
  | [], _, _, h, r => by
    cases h
    cases r
    exact ⟨_, ReadsAll.nil, fun _ => by simp⟩
  | (d, _) :: ds, _, _, h, r => by
    cases h with
    | cons h1 h2 =>
      cases r with
      | cons r1 r2 =>
        obtain ⟨as, q1, z1⟩ := rp_reads I d _ _ h1 r1
        obtain ⟨bs, q2, z2⟩ := rp_readsKeys I ds _ _ h2 r2
        refine ⟨_, ReadsAll.cons q1 q2, fun z => ?_⟩
        simp only [List.map_cons, okSAll, Bool.and_eq_true] at z
        intro hin
        rcases List.mem_append.mp hin with hx | hx
        · exact z1 z.1 hx
        · exact z2 z.2 hx
theorem rp_readsVals (I : Inv X pins σ H s) : ∀ (ds : List (PyData × PyData)) (vs : List V) (us : List Value), RpAll X.K H vs (ds.map (·.2)) → Vals vs us → ∃ as, ReadsAll s.heap us (ds.map (·.2)) as ∧ (okSAll (ds.map (·.2)) = true → sysModules ∉ as)
  | [], _, _, h, r => by
    cases h
    cases r
    exact ⟨_, ReadsAll.nil, fun _ => by simp⟩
  | (_, d) :: ds, _, _, h, r => by
    cases h with
    | cons h1 h2 =>
      cases r with
      | cons r1 r2 =>
        obtain ⟨as, q1, z1⟩ := rp_reads I d _ _ h1 r1
        obtain ⟨bs, q2, z2⟩ := rp_readsVals I ds _ _ h2 r2
        refine ⟨_, ReadsAll.cons q1 q2, fun z => ?_⟩
        simp only [List.map_cons, okSAll, Bool.and_eq_true] at z
        intro hin
        rcases List.mem_append.mp hin with hx | hx
        · exact z1 z.1 hx
        · exact z2 z.2 hx
end
end

/-! ### repr of a list of such data -/
/-- a list at the top: its own address is not counted -/
theorem repr_top {prog : Program} {w : World} {A : Around} {E : Value → Shared → Prop} {s : Shared} {Q : Value → Shared → Prop} {a : Addr} {o : Obj} {vs : Array Value} {n : Nat} {xs : List PyData} {as : List Addr}
    (h1 : s.heap.get? a = some o) (h2 : o.cls = .type "list") (h3 : o.data = .seq vs n) (h4 : ReadsAll s.heap vs.toList xs as) (hs : PyData.showableAll xs = true) (hsm : PyData.hasDictAll xs = true → sysModules ∉ as)
    (hg : A.guards = some []) (hu : A.units + ((PyData.list xs).depth + 1) < cLine) (hsz : (listText (PyData.shownAll xs)).length ≤ sizeLine)
    (hQ : ∀ h' u tk, (∀ b o, s.heap.get? b = some o → h'.get? b = some o) → Q (.str (listText (PyData.shownAll xs)) u) { s with heap := h', toks := tk }) :
    wpAny (model prog w) A (call (.builtin "repr") [.ref a]) Q E s := by
  obtain ⟨bs, hb, hk⟩ := ReprAllK.of_readsAll (prog := prog) (w := w) h4 hs hsm (fun t ht => Nat.le_trans (listText_mem_le ht) hsz)
  have hna : a ∉ bs :=
    not_mem_of_deeper (.list h1 h2 h3 h4) (by simp only [PyData.depth]; omega) hb
  simp only [PyData.depth] at hu
  refine call_repr_slot (A := A) (by omega) (idr := "list.__repr__") (T := "list") (show s.TypeIs (.ref a) "list" from ⟨o, h1, h2⟩) F.slot_list_repr.toG ?_
  have hu1 : A.in1.units = A.units + 1 := rfl
  obtain ⟨l⟩ := vs
  cases l with
  | nil =>
    have h4' : ReadsAll s.heap [] xs as := h4
    cases h4'
    have ht := hQ s.heap
    rw [show listText (PyData.shownAll []) = ("[]" : Str) by simp only [PyData.shownAll]; exact listText_nil] at ht
    exact call_list_repr_empty ⟨o, h1, h2⟩ h1 h3 ⟨_, _, rfl, ht _ _ fun _ _ e => e⟩
  | cons x l =>
    refine call_list_reprK h1 h2 h3 hna (by simpa using hk.length_eq) (fun i y e => hk.item i y (by simpa using e)) (by exact hg) (fun b _ => Clear.nil b) (by rw [hu1]; omega) (fun _ _ e => e) (fun h' u tk k => ⟨_, _, rfl, hQ h' u tk k⟩) hsz
/-- repr(xs), xs a list of data -/
def rRepr (K : PySem.W.Frag) : List V → Hp → VK → Prop := fun vs H Q => ∃ (a : Addr) (xs : List V) (ds : List PyData), vs = [.ref a] ∧ H a = some (.lst xs) ∧ RpAll K H xs ds ∧ PyData.showableAll ds = true ∧ (PyData.hasDictAll ds = true → okSAll ds = true) ∧
  (PyData.list ds).depth ≤ 20 ∧ 3 + massAll ds ≤ sizeLine ∧ Q (.str (listText (PyData.shownAll ds))) H
theorem call_repr {X : Cx} (hg : X.A.guards = some []) (hu : X.A.units + 64 < cLine) : CallR X (.builtin "repr") (rRepr X.K) := by
  intro pins s σ H xs us Q I r h
  obtain ⟨a, ys, ds, rfl, ha, hr, hs, hd, hp, hm, q⟩ := h
  obtain rfl := Vals.ref1 r
  obtain ⟨its, rv, ⟨o, n, ho, hc, _, hdt⟩, _⟩ := I.list (.of ha)
  obtain ⟨as, q1, z1⟩ := rp_readsAll I ds _ its hr rv
  have hz := Nat.le_trans (list_text_le _) (Nat.le_trans (Nat.add_le_add_left (shown_all_le ds hs) 3) hm)
  exact repr_top ho hc hdt q1 hs (fun z => z1 (hd z)) hg (by omega) hz fun h' u tk k => ⟨.str _, H, I.kept k, ⟨u, rfl⟩, q⟩
end G
set_option Elab.async false
set_option linter.all false
set_option maxRecDepth 100000
set_option maxHeartbeats 2000000
/-! G2: a def that runs where no guard is under way, and the law's own call. -/
namespace G
open PySem PySem.Spec PyProof.Rows L2
/-- as FnOk, of arounds without guards -/
structure FnG (P : Program) (w : World) (K : PySem.W.Frag) (mg : Str → Option Value) (base : Heap) (CX : CXT) (k : Nat) (f : Addr) (fd : FuncData) (ps : List Str) (sp : Sp) : Prop where
  size : ∀ vs H Q E, sp vs H Q E → vs.length = ps.length
  go : ∀ (A : Around) (outer : List Env) (s : Shared) (H : Hp) (args : Args) (us : List Value) (vs : List V) (Q : VK) (E : XK),
    A.guards = some [] → Room k A → Env0 P w K mg base A outer s H → BindsTo s fd args (ps.zip us) → Vals vs us → sp vs H Q E → codeAny (model P w) A (.call (.ref f) args) (CR CX outer P w H s Q E) s
section
variable {P : Program} {w : World} {K : PySem.W.Frag} {mg : Str → Option Value} {base : Heap} {CX : CXT}
theorem FnG.of_body {x qual : Str} {st : Stmt} {f : Addr} {fd : FuncData} {N ps : List Str} {k : Nat} {sp : Sp} (F : Fun K x qual st f fd) (S : FnScope N ps (defScope st))
    (size : ∀ vs H Q E, sp vs H Q E → vs.length = ps.length)
    (body : ∀ (cdv : Value) (A : Around) (outer : List Env) (s : Shared) (H : Hp) (vs : List V) (Q : VK) (E : XK), A.guards = some [] →
      Room k (A.deeper (envOfC qual (defScope st) s.heap.objs.size f cdv)) → sp vs H Q E →
      ∃ t, PSs (cxOf CX P w K mg base N qual (defScope st) f cdv A outer s H E).nox (defBody st) t ∧ t { nx := fun _ H' => Q .non H', rt := Q } (start N vs) H) :
    FnG P w K mg base CX (k + 1) f fd ps sp := by
  obtain ⟨_, _, _, _, _, _, cdv, _, _, rfl, lk, hcd⟩ := F.ex
  refine ⟨size, fun A outer s H args us vs Q E hg hr e0 hb r h => ?_⟩
  have inS : K.In s.heap := e0.mod.kin.keeps fun b o e => (e0.bs b o e).1
  have noL : s.heap.NoLimit := e0.mod.nolimit.keeps fun b o e => (e0.bs b o e).1
  refine codeAny_call_function hr.depth (inS _ _ lk) rfl S.co S.gen rfl
    (PySem.W.codeRec_of inS hcd) (hb _ _ _ _ ?_)
  refine wpAny_newFunctionEnv_cells S.kind
    (fun ⟨n, v⟩ hy => ?_) fun env he s1 x => ?_
  · rcases S.par n (List.of_mem_zip hy).1 with q | q
    · exact Or.inl q
    · exact Or.inr ⟨q, PySem.W.cellsFrom_some _ _ _ (Or.inl q)⟩
  · subst he
    refine ⟨noL.keeps x.toInCall.keep, codeAny_func ?_⟩
    obtain ⟨t, ht, hq⟩ := body cdv A outer s H vs Q E hg (hr.deeper _) h
    have J := inv_start (CX := CX) (P := P) (w := w) (K := K) (mg := mg) (base := base) (E := E) S hr.hd e0 (size _ _ _ _ h) r x
    refine wpAny_mono (ht.nox.run [] s1 (start N vs) H _ J hq) (fun fl s' z => ?_) fun e s' z => z
    cases fl with
    | ret u =>
      obtain ⟨v, σ', H', J', rv, q⟩ := z
      exact ⟨v, H', J'.os, J'.bare, J'.base, J'.hok, rv, q⟩
    | next =>
      obtain ⟨σ', H', J', q⟩ := z
      exact ⟨.non, H', J'.os, J'.bare, J'.base, J'.hok, rfl, q⟩
    | brk =>
      obtain ⟨_, _, _, q⟩ := z
      exact q.elim
    | cont =>
      obtain ⟨_, _, _, q⟩ := z
      exact q.elim
end
section
variable {X : Cx} {CX : CXT} {k : Nat} {f : Addr} {fd : FuncData} {ps : List Str} {sp : Sp} {dvs : List V} {ds : List Value} {E : XK} {x : Str} {p pos : Pos} {e : Expr} {es : List Expr} {t : TA}
theorem FnG.run {pins : List (Addr × Obj)} {σ : L2.St} {H : Hp} {s : Shared} {Q : VK} {us : List Value} {vs : List V} (F : FnG X.prog X.w X.K X.mg X.base CX k f fd ps sp) (hg : X.A.guards = some []) (hr : Room k X.A) (hb : Binds X.K fd ps ds) (hd : Vals dvs ds)
    (hx : Passes CX X E) (I : Inv X pins σ H s) (r : Vals vs us) (h : sp (vs ++ dvs) H Q E) : wpAny (model X.prog X.w) X.A (call (.ref f) us) (EP X pins σ Q) X.xe s := by
  have both := r.append hd
  have size : (us ++ ds).length = ps.length := both.length.symm.trans (F.size _ _ _ _ h)
  refine wpAny_call (codeAny_mono (F.go X.A X.stack s H ⟨us, []⟩ (us ++ ds) (vs ++ dvs) Q E hg hr I.env0 (hb s us I.kIn size) both h) fun q s' z => ?_)
  match q, z with
  | .error er, z => exact hx pins σ H s er s' I z
  | .ok (.ret u), z => exact I.after z
/-- f(e, ..) -/
theorem pe_callG (F : FnG X.prog X.w X.K X.mg X.base CX k f fd ps sp) (hg : X.A.guards = some []) (hr : Room k X.A) (gl : Gl X x) (hm : X.mg x = some (.ref f)) (hk : PySem.W.keepIn X.K (.ref f) = true) (hb : Binds X.K fd ps ds) (hd : Vals dvs ds)
    (hx : Passes CX X E) (ha : PA X (e :: es) t) (hdb : (x == ("__debug__" : Str)) = false := by decide)
    (he : starEach (e :: es) X.env = (false, eval e X.env) :: starEach es X.env := by rfl) (hpl : (backTo pos (starEach es X.env)).any (·.1) = false := by rfl) : PE X (.Call (.Name x p) (e :: es) [] pos) (tCall sp dvs E t) := by
  constructor
  intro pins s σ H Q I h
  refine wpAny_Call_Name_kw (ld_glob I gl hm ?_ hdb)
  exact PySem.W.callWith_K (h₀ := X.base) I.ok.mod.kin hk
    (thn (ha.run pos pins s σ H _ I h) fun us s1 ⟨vs, H1, I1, r, q⟩ => ⟨I1.kIn, F.run hg hr hb hd hx I1 r q⟩) he hpl
end
/-- True comes out, what stood stands, nothing went in or out -/
def Fine (s : Shared) (r : Result) (s' : Shared) : Prop :=
  r = .ok (.ret (.bool true)) ∧ OldK s.heap s'.heap ∧ s'.os = s.os ∧ AllBare s'.gens
/-- the law's call, from the state that the top leaves -/
theorem law_go {P : Program} {w : World} {K : PySem.W.Frag} {mg mb : Str → Option Value} {k : Nat} {fa a : Addr} {fd : FuncData} {x : Str} {sp : Sp} {s₁ : Shared} {vs : List Value} {ns : List Int}
    (inK : K.In s₁.heap) (gl : s₁.heap.Ns mainGlobals mg)
    (bl : s₁.heap.Ns builtinsNs mb) (boot : ∀ y : Str, y ≠ "__name__" → mb y = bootBuiltins y)
    (lim : s₁.heap.NoLimit) (noG : s₁.gens = #[])
    (script : s₁.heap.get? a = some { cls := .type "list", data := .seq vs.toArray })
    (allInt : IntsAre vs ns) (few : ns.length ≤ sizeLine) (hr : Room k callerA)
    (F : ∀ base : Heap, K.In base → base.Ns mainGlobals mg → FnG P w K mg base CX0 k fa fd [x] sp) (hbind : ∀ (s : Shared) (u : Value), BindsTo s fd ⟨[u], []⟩ [(x, u)])
    (hsp : ∀ H : Hp, Only H → SqL K H a (ns.map V.int) → sp [.ref a] H (fun v _ => v = .bl true) fun _ _ _ => False) :
    codeAny (model P w) callerA (.call (.ref fa) ⟨[.ref a], []⟩)
      (Fine s₁) s₁ := by
  -- nothing but the script is tracked; if the written part holds the script, nothing at all
  have main : ∀ H : Hp, Only H → SqL K H a (ns.map V.int) → HOk P w H s₁.heap → (∀ b, H b ≠ none → b = a ∧ K.lookup a = none) →
      codeAny (model P w) callerA (.call (.ref fa) ⟨[.ref a], []⟩)
      (Fine s₁) s₁ := by
    intro H hO hS hok hA
    have nsK : ∀ {b : Addr} {m : Str → Option Value}, s₁.heap.Ns b m → (hidT s₁.heap H).Ns b m := by
      rintro b m ⟨o, es, ep, e, d, r⟩
      refine ⟨o, es, ep, hidT_get e ?_, d, r⟩
      cases q : H b with
      | none => rfl
      | some u =>
        exfalso
        have eb := (hA b (by rw [q]; simp)).1
        rw [eb, script] at e
        rw [← Option.some.inj e] at d
        cases d
    have inB : K.In (hidT s₁.heap H) := fun b o e => hidT_get (inK b o e) (by
      cases q : H b with
      | none => rfl
      | some u =>
        exfalso
        obtain ⟨e1, e2⟩ := hA b (by rw [q]; simp)
        rw [e1, e2] at e
        cases e)
    obtain ⟨mc, l1, l2⟩ := lim
    have hM : Mod K mg (hidT s₁.heap H) := ⟨inB, nsK gl, ⟨mb, nsK bl, boot⟩, ⟨mc, nsK l1, l2⟩⟩
    have e0 : Env0 P w K mg (hidT s₁.heap H) callerA [] s₁ H := ⟨rfl, hM, fun b o e => of_hidT e, Nat.le_of_eq (hidT_size _ _), trivial, fun b z => absurd (show b ∈ ([] : List Addr) from z) (by simp), hok, .of_eq noG⟩
    have run := (F _ inB (nsK gl)).go callerA [] s₁ H ⟨[.ref a], []⟩ [.ref a] [.ref a] _ _ rfl hr e0 (hbind s₁ (.ref a)) (.cons rfl .nil) (hsp H hO hS)
    refine codeAny_mono run fun r s' h => ?_
    match r, h with
    | .ok (.ret u), h =>
      obtain ⟨v, H', os, bare, un, hok', r', q⟩ := h
      obtain rfl : v = .bl true := q
      obtain rfl : u = Value.bool true := r'
      refine ⟨rfl, OldK.of_keep fun b o e => ?_, os, bare⟩
      rcases hO b with z | ⟨ob, xs, z⟩
      · exact un.keep b o e z (fun z => absurd (show b ∈ ([] : List Addr) from z) (by simp)) (by simp)
      · obtain ⟨e1, _⟩ := hok b _ z
        obtain ⟨e2, _⟩ := hok' b _ (un.frzs b ob _ z)
        rw [e] at e1
        cases e1
        exact e2
  cases hk : K.lookup a with
  | some o =>
    have e := inK a o hk
    rw [script] at e
    cases e
    refine main (fun _ => none) (fun _ => .inl rfl) (.inr ⟨_, vs.toArray, _, hk, rfl, rfl, rfl, ?_, ?_⟩) (fun b u z => nomatch z) fun b z => absurd rfl z
    · rw [List.size_toArray, allInt.length]
      exact few
    · simpa using vals_ints allInt
  | none =>
    let o : Obj := { cls := .type "list", data := .seq vs.toArray }
    let T : HO := .frz o (.lst (ns.map V.int))
    have at_a : upd (fun _ => none) a T a = some T := upd_same
    refine main (upd (fun _ => none) a T) (fun b => ?_) (.inl (.inr ⟨o, at_a⟩)) (fun b u z => ?_) fun b z => ?_
    · by_cases h : b = a
      · exact .inr ⟨o, _, by rw [h]; exact at_a⟩
      · exact .inl (upd_ne h)
    · by_cases h : b = a
      · subst h
        rw [at_a] at z
        cases z
        exact ⟨script, by rw [List.length_map]; exact few, vs, _, vals_ints allInt, script⟩
      · rw [upd_ne h] at z
        cases z
    · by_cases h : b = a
      · exact ⟨h, hk⟩
      · exact absurd (upd_ne h) z
/-- what k_head leaves, by the law's promise -/
theorem walk_go {l : PySem.W.OpenLaw} {n k : Nat} {q : Program} {loose : List Str} {XP : (Str → Option Value) → Heap → Prop} {YP : World → Heap → Prop} {d : DefRec} {K : Params → PySem.W.Frag} {sp : PySem.W.Frag → Sp} {x : Str}
    (most : l.most = some n) (few : n ≤ sizeLine)
    (nodf : d.params.defaults = []) (hr : Room k callerA)
    (hY : ∀ (w : World) (h : Heap), YP w h → (K w.params).In h)
    (F : ∀ (w : World) (mg : Str → Option Value) (fa : Addr) (h : Heap),
      (K w.params).In h → h.Ns mainGlobals mg → mg d.name = some (.ref fa) →
      ∃ fd : FuncData, (∀ (s : Shared) (u : Value), BindsTo s fd ⟨[u], []⟩ [(x, u)]) ∧ ∀ base : Heap, (K w.params).In base → base.Ns mainGlobals mg → FnG l.prog w (K w.params) mg base CX0 k fa fd [x] (sp (K w.params)))
    (hsp : ∀ (K : PySem.W.Frag) (H : Hp) (a : Addr) (ns : List Int), ns.length ≤ n → Only H → SqL K H a (ns.map V.int) → sp K [.ref a] H (fun v _ => v = .bl true) fun _ _ _ => False) :
    PySem.W.WalkO q loose XP YP l.row.toRowW d []
      (fun f vs => PySem.call f vs) := by
  refine Att.attach_call most nodf
    fun w _ s₁ mg mb fa _ _ _ _ a vs ns top Y _ _ _ atF obj allInt len noG => ?_
  have inK := hY w _ Y
  obtain ⟨fd, binds, keeps⟩ := F w mg fa _ inK top.T.g atF
  exact law_go inK top.T.g top.T.b top.T.builtins top.T.nolimit noG obj allInt (Nat.le_trans len few) hr keeps binds
    fun H hO hS => hsp _ H a ns len hO hS
end G
set_option Elab.async false
set_option linter.all false
set_option maxRecDepth 100000
set_option maxHeartbeats 2000000
/-! G3: a cell, its box, a draw from it. -/
namespace G
open PySem PySem.Spec PyProof.Rows L2
def topS (i : Nat) : Stmt := PySem.Challenge.pw_listviews_k43_rows_filtered_and_ordered.main.body.getD i (.Pass ⟨0, 0, 0, 0⟩)
abbrev sCell : Stmt := topS 25
abbrev sBox : Stmt := topS 26
abbrev sTake : Stmt := topS 27
theorem scCell : FnScope ["_law_script", "_law_k"] ["_law_script", "_law_k"] (defScope sCell) := ⟨rfl, rfl, rfl, by decide +kernel, rfl, by decide +kernel, by decide +kernel⟩
theorem scBox : FnScope ["_law_cell_here"] ["_law_cell_here"] (defScope sBox) := ⟨rfl, rfl, rfl, by decide +kernel, rfl, by decide +kernel, by decide +kernel⟩
theorem scTake : FnScope ["_law_box_here", "_law_many", "_law_digit", "_law_mixed_here"] ["_law_box_here", "_law_many"] (defScope sTake) := ⟨rfl, rfl, rfl, by decide +kernel, rfl, by decide +kernel, by decide +kernel⟩
/-- all but b stands as it stood -/
def But (b : Addr) (H H' : Hp) : Prop := ∀ c o, c ≠ b → H c = some o → H' c = some o
theorem But.refl (b : Addr) (H : Hp) : But b H H := fun _ _ _ h => h
theorem But.trans {b : Addr} {H H1 H2 : Hp} (x : But b H H1) (y : But b H1 H2) : But b H H2 := fun c o n h => y c o n (x c o n h)
theorem But.upd {b : Addr} {H : Hp} {o : HO} : But b H (upd H b o) := fun c u n h => by
  rw [upd_ne n]
  exact h
theorem But.new {b p : Addr} {H : Hp} {o : HO} (h : H p = none) : But b H (L2.upd H p o) := fun c u n e => by
  rw [upd_ne (ne_of_none e h)]
  exact e
theorem But.same {b : Addr} {H H' : Hp} (h : Same H H') : But b H H' := fun c o _ e => h c o e
theorem Same.new {p : Addr} {H : Hp} {o : HO} (h : H p = none) : Same H (upd H p o) := fun c u e => by
  rw [upd_ne (ne_of_none e h)]
  exact e
/-- a box from which at most n draws were made -/
def BoxAt (H : Hp) (b : Addr) (n : Nat) : Prop := ∃ x y z : Int, H b = some (.lst [.int x, .int y, .int z]) ∧ 0 ≤ x ∧ 0 ≤ y ∧ y < 2147483629 ∧ 0 ≤ z ∧ z ≤ n
theorem BoxAt.mono {H : Hp} {b : Addr} {n m : Nat} (h : BoxAt H b n) (le : n ≤ m) : BoxAt H b m := by
  obtain ⟨x, y, z, e, h1, h2, h3, h4, h5⟩ := h
  exact ⟨x, y, z, e, h1, h2, h3, h4, by omega⟩
theorem BoxAt.keep {H H' : Hp} {b : Addr} {n : Nat} (h : BoxAt H b n) (s : ∀ o, H b = some o → H' b = some o) : BoxAt H' b n := by
  obtain ⟨x, y, z, e, r⟩ := h
  exact ⟨x, y, z, s _ e, r⟩
/-- a draw is one of so many -/
theorem draw_at {r m : Int} {n : Nat} (h0 : 0 ≤ r) (h1 : r < m) (e : m = n) : ∃ j : Nat, r = j ∧ j < n := ⟨r.toNat, by omega, by omega⟩
def spCell' (K : PySem.W.Frag) : Sp := fun vs H Q _ => ∃ (a : Addr) (ns : List Int) (z : Int), vs = [.ref a, .int z] ∧ SqL K H a (ns.map V.int) ∧ 0 ≤ z ∧ z < 1000 ∧ ∀ i : Int, Q (.int i) H
def spBox : Sp := fun vs H Q _ => ∃ i : Int, vs = [.int i] ∧ ∀ (b : Addr) (H' : Hp), H b = none → Same H H' → BoxAt H' b 0 → Q (.ref b) H'
def spTake : Sp := fun vs H Q _ => ∃ (b : Addr) (m : Int) (n : Nat), vs = [.ref b, .int m] ∧ BoxAt H b n ∧ n ≤ 100000 ∧ 0 < m ∧ m < 2 ^ 200 ∧
  ∀ (r : Int) (H' : Hp), 0 ≤ r → r < m → BoxAt H' b (n + 1) → But b H H' → Q (.int r) H'
section
variable {P : Program} {w : World} {K : PySem.W.Frag} {mg : Str → Option Value} {base : Heap}
theorem ok_cell {f : Addr} {fd : FuncData} (F : Fun K "_law_cell" "_law_cell" sCell f fd) (ml : mg "len" = none) : FnOk P w K mg base CX0 1 f fd ["_law_script", "_law_k"] (spCell' K) := by
  refine F.ok scCell (fun vs H Q E h => ?_) (fun cdv A outer s H vs Q E hr h => ?_)
  · obtain ⟨a, ns, j, rfl, _⟩ := h
    rfl
  · obtain ⟨a, ns, z, rfl, hS, z0, z1, q⟩ := h
    obtain ⟨j, rfl, hj⟩ := draw_at (n := 1000) z0 z1 rfl
    refine ⟨_, pss_cons (ps_if (pt_cmpR op_lt (pv 1) (pe_callB call_len_seq (by rfl) ml PySem.boot_len (pa_cons (pv 0) pa_nil)) (nomark _))
        (pss_one (ps_ret (pe_ix ix_list (pv 0) (pv 1) (fun _ _ => rfl)))) pss_nil)
      (pss_one (ps_ret (pe_op op_add (pe_op op_mul pe_int (pv 1)) pe_int))), ?_⟩
    refine ⟨_, rfl, _, rfl, a, _, rfl, .inl hS, _, _, rfl, rfl, _, rfl, ite2 (fun e => ?_) (fun _ => ?_)⟩
    · have e1 : (j : Int) < ((ns.map V.int).length : Nat) := of_decide_eq_true e
      have e2 : j < ns.length := by
        rw [List.length_map] at e1
        omega
      exact ⟨_, rfl, _, rfl, a, _, _, .int ns[j], rfl, rfl, hS, atI_nat (by rw [List.getElem?_map, List.getElem?_eq_getElem e2] <;> rfl), q _⟩
    · exact ⟨_, rfl, _, _, rfl, rfl, .inl ⟨by decide, by decide⟩, _, _, rfl, rfl, q _⟩
theorem ok_box {f : Addr} {fd : FuncData} (F : Fun K "_law_box" "_law_box" sBox f fd) (mm : mg "max" = none) : FnOk P w K mg base CX0 1 f fd ["_law_cell_here"] spBox := by
  refine F.ok scBox (fun vs H Q E h => ?_) (fun cdv A outer s H vs Q E hr h => ?_)
  · obtain ⟨i, rfl, _⟩ := h
    rfl
  · obtain ⟨i, rfl, q⟩ := h
    refine ⟨_, pss_one (ps_ret (pe_lst (pa_cons (pe_callB (call_max2 rfl) (by rfl) mm (by decide +kernel) (pa_cons pe_int (pa_cons (pe_op op_sub (pv 0) (pe_op op_pow pe_int pe_int)) pa_nil)))
      (pa_cons (pe_op op_mod (pv 0) pe_int) (pa_cons pe_int pa_nil))))), ?_⟩
    refine ⟨_, rfl, _, _, rfl, rfl, ⟨by decide, by decide, by decide⟩, _, _, rfl, rfl, _, _, rfl, _, rfl, _, _, rfl, rfl, (by show (0 : Int) < 2147483629; decide), (by show 3 ≤ sizeLine; decide), fun b hb => ?_⟩
    refine q b _ hb (Same.new hb) ⟨_, _, _, upd_same, ?_, Int.emod_nonneg _ (by decide), Int.emod_lt_of_pos _ (by decide), Int.le_refl _, Int.le_refl _⟩
    split <;> omega
theorem emod_in (a m : Int) (h : 0 < m) : 0 ≤ a % m ∧ a % m < m := ⟨Int.emod_nonneg _ (by omega), Int.emod_lt_of_pos _ h⟩
theorem ok_take {f : Addr} {fd : FuncData} (F : Fun K "_law_take" "_law_take" sTake f fd) : FnOk P w K mg base CX0 1 f fd ["_law_box_here", "_law_many"] spTake := by
  refine F.ok scTake (fun vs H Q E h => ?_) (fun cdv A outer s H vs Q E hr h => ?_)
  · obtain ⟨b, m, n, rfl, _⟩ := h
    rfl
  · obtain ⟨b, m, n, rfl, ⟨x, y, z, hb, hx, hy, hy2, hz, hzn⟩, hn, hm, hm2, q⟩ := h
    refine ⟨_, pss_cons (ps_if (pt_cmpR op_gt (pe_ix ix_list (pv 0) pe_int (fun _ _ => rfl)) pe_int (nomark _))
        (pss_cons (ps_set (i := 2) scTake.nd rfl (.inl rfl) (pe_op op_mod (pe_ix ix_list (pv 0) pe_int (fun _ _ => rfl)) (pv 1)))
        (pss_cons (ps_asg (pe_op op_fdivW (pe_ix ix_list (pv 0) pe_int (fun _ _ => rfl)) (pv 1)) (pg_sub (pv 0) pe_int set_list))
        (pss_one (ps_ret (pv 2))))) pss_nil)
      (pss_cons (ps_asg (pe_op op_add (pe_ix ix_list (pv 0) pe_int (fun _ _ => rfl)) pe_int) (pg_sub (pv 0) pe_int set_list))
      (pss_cons (ps_set (i := 3) scTake.nd rfl (.inl rfl) (pe_op op_mod (pe_op op_pow (pe_op op_add (pe_op op_add (pe_ix ix_list (pv 0) pe_int (fun _ _ => rfl)) (pe_op op_mul pe_int (pe_ix ix_list (pv 0) pe_int (fun _ _ => rfl)))) pe_int) pe_int) pe_int))
      (pss_cons (ps_set (i := 3) scTake.nd rfl (.inl rfl) (pe_op op_mod (pe_op op_pow (pe_op op_add (pv 3) (pe_op op_mul pe_int (pe_ix ix_list (pv 0) pe_int (fun _ _ => rfl)))) pe_int) pe_int))
      (pss_one (ps_ret (pe_op op_mod (pe_op op_fdivW (pv 3) pe_int) (pv 1))))))), ?_⟩
    -- if box[0] > 0
    refine ⟨_, rfl, b, _, 0, .int x, rfl, rfl, .of hb, rfl, _, _, rfl, rfl, _, rfl, ite2 (fun e => ?_) (fun _ => ?_)⟩
    · refine ⟨_, rfl, b, _, 0, .int x, rfl, rfl, .of hb, rfl, _, rfl, _, _, rfl, rfl, hm, ?_⟩
      refine ⟨_, rfl, b, _, 0, .int x, rfl, rfl, .of hb, rfl, _, rfl, _, _, rfl, rfl, wide_div hm (b := 200) (by omega) (by decide) (by decide), ?_⟩
      refine ⟨_, rfl, b, _, 0, 0, rfl, rfl, hb, rfl, _, rfl, ?_⟩
      have r := emod_in x m hm
      exact q _ _ r.1 r.2 ⟨_, _, _, upd_same, Int.ediv_nonneg hx (by omega), hy, hy2, hz, by omega⟩ But.upd
    · refine ⟨_, rfl, b, _, 2, .int z, rfl, rfl, .of hb, rfl, _, _, rfl, rfl, ?_⟩
      refine ⟨_, rfl, b, _, 2, 2, rfl, rfl, hb, rfl, ?_⟩
      have hb' : (upd H b (.lst [.int x, .int y, .int (z + 1)])) b = some (.lst [.int x, .int y, .int (z + 1)]) := upd_same
      refine ⟨_, rfl, b, _, 1, .int y, rfl, rfl, .of hb', rfl, _, rfl, b, _, 2, .int (z + 1), rfl, rfl, .of hb', rfl, _, _, rfl, rfl, .inl ⟨by decide, by decide⟩, _, _, rfl, rfl, _, _, rfl, rfl,
        _, _, rfl, rfl, ⟨by decide, by decide, by omega⟩, _, _, rfl, rfl, (by show (0 : Int) < 2147483647; decide), ?_⟩
      generalize h1 : ((y + 7559 * (z + 1) + 211) ^ (5 : Int).toNat : Int) = t1
      have r1 := emod_in t1 2147483647 (by decide)
      refine ⟨_, rfl, _, rfl, b, _, 2, .int (z + 1), rfl, rfl, .of hb', rfl, _, _, rfl, rfl, .inl ⟨by decide, by decide⟩, _, _, rfl, rfl, _, _, rfl, rfl, ⟨by decide, by decide, by omega⟩, _, _, rfl, rfl, (by show (0 : Int) < 2147483587; decide), ?_⟩
      generalize h2 : ((t1 % 2147483647 + 104729 * (z + 1)) ^ (3 : Int).toNat : Int) = t2
      refine ⟨_, rfl, _, _, rfl, rfl, wide_div (by decide) (b := 200) (by decide) (by decide) (by decide), _, rfl, _, _, rfl, rfl, hm, ?_⟩
      have r := emod_in (t2 % 2147483587 / 16) m hm
      exact q _ _ r.1 r.2 ⟨_, _, _, upd_same, hx, hy, hy2, by omega, by omega⟩ But.upd
end
end G
set_option Elab.async false
set_option linter.all false
set_option maxRecDepth 100000
set_option maxHeartbeats 2000000
/-! G5: what data in the heap keeps, its type, == of it. -/
namespace G
open PySem PySem.Spec PyProof.Rows L2
section
variable {K : PySem.W.Frag} {H H' : Hp}
mutual
theorem rp_same (s : Same H H') : ∀ (d : PyData) (v : V), Rp K H v d → Rp K H' v d
  | .none, _, h => by
    cases h
    exact .non
  | .bool b, _, h => by
    cases h
    exact .bl b
  | .int i, _, h => by
    cases h
    exact .int i
  | .str x, _, h => by
    cases h
    exact .str x
  | .list ds, _, h => by
    cases h with
    | lst e r => exact .lst (s _ _ e) (rp_sameAll s ds _ r)
  | .tuple ds, _, h => by
    cases h with
    | tup e r => exact .tup (s _ _ e) (rp_sameAll s ds _ r)
  | .dict ds, _, h => by
    cases h with
    | dic e r q => exact .dic (s _ _ e) (rp_sameK s ds _ r) (rp_sameV s ds _ q)
theorem rp_sameAll (s : Same H H') : ∀ (ds : List PyData) (vs : List V), RpAll K H vs ds → RpAll K H' vs ds
  | [], _, h => by
    cases h
    exact .nil
  | d :: ds, _, h => by
    cases h with
    | cons a b => exact .cons (rp_same s d _ a) (rp_sameAll s ds _ b)
theorem rp_sameK (s : Same H H') : ∀ (ds : List (PyData × PyData)) (vs : List V), RpAll K H vs (ds.map (·.1)) → RpAll K H' vs (ds.map (·.1))
  | [], _, h => by
    cases h
    exact .nil
  | (d, _) :: ds, _, h => by
    cases h with
    | cons a b => exact .cons (rp_same s d _ a) (rp_sameK s ds _ b)
theorem rp_sameV (s : Same H H') : ∀ (ds : List (PyData × PyData)) (vs : List V), RpAll K H vs (ds.map (·.2)) → RpAll K H' vs (ds.map (·.2))
  | [], _, h => by
    cases h
    exact .nil
  | (_, d) :: ds, _, h => by
    cases h with
    | cons a b => exact .cons (rp_same s d _ a) (rp_sameV s ds _ b)
end
theorem rp_len : ∀ {ds : List PyData} {vs : List V}, RpAll K H vs ds → vs.length = ds.length
  | [], _, h => by
    cases h
    rfl
  | _ :: ds, _, h => by
    cases h with
    | cons a b =>
      rw [List.length_cons, List.length_cons, rp_len b]
theorem rp_at : ∀ {ds : List PyData} {vs : List V} {i : Nat} {v : V}, RpAll K H vs ds → vs[i]? = some v → ∃ d, ds[i]? = some d ∧ Rp K H v d
  | [], _, i, v, h, e => by
    cases h
    simp at e
  | d :: ds, _, i, v, h, e => by
    cases h with
    | cons a b =>
      cases i with
      | zero =>
        have e' := Option.some.inj e
        subst e'
        exact ⟨d, rfl, a⟩
      | succ j => exact rp_at (ds := ds) (i := j) b (by simpa using e)
theorem rp_app : ∀ {ds : List PyData} {vs : List V} {v : V} {d : PyData}, RpAll K H vs ds → Rp K H v d → RpAll K H (vs ++ [v]) (ds ++ [d])
  | [], _, _, _, h, r => by
    cases h
    exact .cons r .nil
  | _ :: ds, _, _, _, h, r => by
    cases h with
    | cons a b => exact .cons a (rp_app b r)
theorem rp_set : ∀ {ds : List PyData} {vs : List V} {v : V} {d : PyData} (i : Nat), RpAll K H vs ds → Rp K H v d → RpAll K H (vs.set i v) (ds.set i d)
  | [], _, _, _, _, h, r => by
    cases h
    exact .nil
  | _ :: ds, _, _, _, i, h, r => by
    cases h with
    | cons a b =>
      cases i with
      | zero => exact .cons r b
      | succ j => exact .cons a (rp_set j b r)
theorem rp_ints : ∀ (is : List Int), RpAll K H (is.map V.int) (is.map PyData.int)
  | [] => .nil
  | i :: is => .cons (.int i) (rp_ints is)
mutual
theorem rp_dp : ∀ (d : PyData) (v : V), d.hasDict = false → Rp K H v d → Dp K H v d
  | .none, _, _, h => by
    cases h
    exact .non
  | .bool b, _, _, h => by
    cases h
    exact .bl b
  | .int i, _, _, h => by
    cases h
    exact .int i
  | .str x, _, _, h => by
    cases h
    exact .str x
  | .list ds, _, n, h => by
    cases h with
    | lst e r => exact .lst (.of e) (rp_dpAll ds _ (by simpa [PyData.hasDict] using n) r)
  | .tuple ds, _, n, h => by
    cases h with
    | tup e r => exact .tup (.of e) (rp_dpAll ds _ (by simpa [PyData.hasDict] using n) r)
  | .dict ds, _, n, h => by simp [PyData.hasDict] at n
theorem rp_dpAll : ∀ (ds : List PyData) (vs : List V), PyData.hasDictAll ds = false → RpAll K H vs ds → DpAll K H vs ds
  | [], _, _, h => by
    cases h
    exact .nil
  | d :: ds, _, n, h => by
    simp only [PyData.hasDictAll, Bool.or_eq_false_iff] at n
    cases h with
    | cons a b => exact .cons (rp_dp d _ n.1 a) (rp_dpAll ds _ n.2 b)
end
/-- the name of a thing's type -/
def tyN : PyData → String
  | .none => "NoneType"
  | .bool _ => "bool"
  | .int _ => "int"
  | .str _ => "str"
  | .list _ => "list"
  | .tuple _ => "tuple"
  | .dict _ => "dict"
theorem rp_ty {v : V} {d : PyData} (h : Rp K H v d) : TyX K H v (.type (tyN d)) := by
  cases h with
  | non => exact .base .non
  | bl b => exact .base (.bl b)
  | int i => exact .base (.int i)
  | str x => exact .base (.str x)
  | lst e r => exact .base (.lst e)
  | tup e r => exact .base (.tup e)
  | dic e r q => exact .base (.dK e)
end
/-- H without what stands at b -/
def hide (b : Addr) (H : Hp) : Hp := fun a => if a = b then none else H a
theorem hide_same (b : Addr) (H : Hp) : Same (hide b H) H := fun a o e => by
  by_cases h : a = b
  · rw [show hide b H a = none from if_pos h] at e
    cases e
  · rwa [show hide b H a = H a from if_neg h] at e
theorem hide_ne {b a : Addr} {H : Hp} (h : a ≠ b) : hide b H a = H a := if_neg h
theorem hide_at {b : Addr} {H : Hp} : hide b H b = none := if_pos rfl
theorem hide_but {b : Addr} {H H' : Hp} (h : But b H H') : Same (hide b H) (hide b H') := fun a o e => by
  have n : a ≠ b := fun z => by
    rw [z, hide_at] at e
    cases e
  rw [hide_ne n] at e ⊢
  exact h a o n e
theorem hide_upd {b : Addr} {H : Hp} {o : HO} : hide b (upd H b o) = hide b H := by
  funext a
  by_cases h : a = b
  · rw [h, hide_at, hide_at]
  · rw [hide_ne h, hide_ne h, upd_ne h]
/-- what is new is not in what stood -/
theorem hide_new {b : Addr} {H : Hp} (h : H b = none) : Same H (hide b H) := fun a o e => by
  rw [hide_ne (ne_of_none e h)]
  exact e
theorem hide_mono {b : Addr} {H H' : Hp} (h : Same H H') : Same (hide b H) (hide b H') := hide_but fun c o _ e => h c o e
theorem hide_hide {b c : Addr} {H : Hp} : hide b (hide c H) = hide c (hide b H) := by
  funext a
  unfold hide
  split <;> split <;> rfl
end G
set_option Elab.async false
set_option linter.all false
set_option maxRecDepth 100000
set_option maxHeartbeats 2000000
/-! V3: the items of a list, in a drawn order. -/
namespace G
open PySem PySem.Spec PyProof.Rows L2
abbrev sMixed : Stmt := topS 28
theorem scMixed : FnScope ["_law_box_here", "_law_some", "_law_left", "_law_found"] ["_law_box_here", "_law_some"] (defScope sMixed) := ⟨rfl, rfl, rfl, by decide +kernel, rfl, by decide +kernel, by decide +kernel⟩
/-- data that == takes: no dict, texts that can be compared, not too deep -/
def lay (d : PyData) : Prop := d.hasDict = false ∧ d.canLay0 = true ∧ d.depth ≤ 60
theorem lay_all : ∀ {ds : List PyData}, (∀ d ∈ ds, lay d) → PyData.hasDictAll ds = false ∧ PyData.canLayAll0 ds = true ∧ PyData.depthAll ds ≤ 60
  | [], _ => ⟨rfl, rfl, Nat.zero_le _⟩
  | d :: ds, h => by
    obtain ⟨a1, a2, a3⟩ := h d List.mem_cons_self
    obtain ⟨b1, b2, b3⟩ := lay_all (ds := ds) fun e he => h e (List.mem_cons_of_mem _ he)
    refine ⟨?_, ?_, ?_⟩
    · rw [PyData.hasDictAll, a1, b1]
      rfl
    · rw [PyData.canLayAll0, a2, b2]
      rfl
    · rw [PyData.depthAll]
      exact Nat.max_le.mpr ⟨a3, b3⟩
theorem lay_shaped {d : PyData} (h : lay d) : SeqAt.shaped d = true := by
  unfold SeqAt.shaped
  rw [h.2.1, decide_eq_true (Nat.le_trans h.2.2 (by decide))]
  rfl
theorem lay_list {ds : List PyData} (h : ∀ d ∈ ds, lay d) : SeqAt.shaped (.list ds) = true := by
  obtain ⟨_, b2, b3⟩ := lay_all h
  unfold SeqAt.shaped
  rw [PyData.canLay0, b2, decide_eq_true (show (PyData.list ds).depth ≤ 64 by rw [PyData.depth]; omega)]
  rfl
/-- values and what they show -/
abbrev Vd := V × PyData
theorem rp_pairs {K : PySem.W.Frag} {H : Hp} : ∀ {qs : List Vd}, (∀ p ∈ qs, Rp K H p.1 p.2) → RpAll K H (qs.map (·.1)) (qs.map (·.2))
  | [], _ => .nil
  | p :: qs, h => .cons (h p List.mem_cons_self) (rp_pairs fun q hq => h q (List.mem_cons_of_mem _ hq))
theorem dp_pairs {K : PySem.W.Frag} {H : Hp} {qs : List Vd} (h : ∀ p ∈ qs, Rp K H p.1 p.2) (l : ∀ p ∈ qs, lay p.2) : DpAll K H (qs.map (·.1)) (qs.map (·.2)) :=
  rp_dpAll _ _ (lay_all (ds := qs.map (·.2)) fun d hd => by
    obtain ⟨p, hp, rfl⟩ := List.mem_map.mp hd
    exact l p hp).1 (rp_pairs h)
theorem erase_map {α β : Type} (f : α → β) : ∀ (l : List α) (j : Nat), (l.map f).eraseIdx j = (l.eraseIdx j).map f
  | [], _ => rfl
  | _ :: _, 0 => rfl
  | x :: l, j + 1 => by
    show f x :: (l.map f).eraseIdx j = f x :: (l.eraseIdx j).map f
    rw [erase_map f l j]
theorem erase_perm {α : Type} : ∀ {l : List α} {j : Nat} (h : j < l.length), ([l[j]] ++ l.eraseIdx j).Perm l
  | _ :: _, 0, _ => .refl _
  | x :: l, j + 1, h => by
    have hj : j < l.length := by simpa using h
    have ih := erase_perm hj
    show (l[j] :: x :: l.eraseIdx j).Perm (x :: l)
    exact (List.Perm.swap x _ _).trans (List.Perm.cons x ih)
/-- some: any order of its items, in a new list -/
def spMixed (K : PySem.W.Frag) : Sp := fun vs H Q _ => ∃ (b a : Addr) (n : Nat) (ps : List Vd), vs = [.ref b, .ref a] ∧ BoxAt H b n ∧ n + ps.length ≤ 100000 ∧ (SqL K H a (ps.map (·.1)) ∨ SqT K H a (ps.map (·.1))) ∧
  (∀ p ∈ ps, lay p.2 ∧ ∀ H', But b H H' → Rp K H' p.1 p.2) ∧
  ∀ (p : Addr) (H' : Hp) (qs : List Vd), qs.Perm ps → H p = none → H' p = some (.lst (qs.map (·.1))) → BoxAt H' b (n + ps.length) → But b H H' → Q (.ref p) H'
theorem eqv_nil (ds : List PyData) : PyData.eqv (.list ds) (.list []) = ds.isEmpty := by
  cases ds with
  | nil => rfl
  | cons d ds => rfl
section
variable {P : Program} {w : World} {K : PySem.W.Frag} {mg : Str → Option Value} {base : Heap}
theorem ok_mixed {f fT : Addr} {fd fdT : FuncData} (F : Fun K "_law_mixed" "_law_mixed" sMixed f fd) (T : Fun K "_law_take" "_law_take" sTake fT fdT) (bT : Binds K fdT ["_law_box_here", "_law_many"] []) (gT : mg "_law_take" = some (.ref fT))
    (ml : mg "len" = none) (mL : mg "list" = none) : FnOk P w K mg base CX0 2 f fd ["_law_box_here", "_law_some"] (spMixed K) := by
  refine F.ok scMixed (fun vs H Q E h => ?_) (fun cdv A outer s H vs Q E hr h => ?_)
  · obtain ⟨b, a, n, ps, rfl, _⟩ := h
    rfl
  · obtain ⟨b, a, n, ps, rfl, B, hn, hS, hp, q⟩ := h
    have big : ∀ {k : Nat}, k ≤ 100000 → k < sizeLine := fun {k} h => by
      rw [sizeLine_eq]
      omega
    refine ⟨_, pss_cons (ps_par (i := 2) (j := 3) (by rfl) scMixed.nd rfl rfl (by decide) rfl rfl (pa_cons (pe_callTy call_list_of (by rfl) mL (by decide +kernel) (pa_cons (pv 1) pa_nil)) (pa_cons (pe_lst pa_nil) pa_nil)) (by rfl))
      (pss_cons (ps_while PassesOwn.never (pt_cmpR (op_neD hr.units) (pv 2) (pe_lst pa_nil) (nomark _))
        (pss_one (ps_expr (pe_bm PySem.F.plainAttrs_list PySem.F.slot_list_append PySem.F.type_list_append mt_append (pv 3) (pa_cons
          (pe_bm PySem.F.plainAttrs_list PySem.F.slot_list_pop PySem.F.type_list_pop mt_popAt (pv 2)
            (pa_cons (pe_call (ok_take T) hr rfl gT T.kp bT .nil pass0 (pa_cons (pv 0) (pa_cons (pe_callB call_len_seq (by rfl) ml PySem.boot_len (pa_cons (pv 2) pa_nil)) pa_nil))) pa_nil)) pa_nil)))))
      (pss_one (ps_ret (pv 3)))), ?_⟩
    refine ⟨_, rfl, a, _, rfl, hS, fun l hl => ⟨by decide, fun p hp0 => ⟨_, _, rfl, ?_⟩⟩⟩
    have nlp : l ≠ p := fun z => by
      rw [z, upd_same] at hp0
      cases hp0
    have hpn : H p = none := (upd_ne nlp.symm).symm.trans hp0
    have nbl : b ≠ l := by
      obtain ⟨_, _, _, e, _⟩ := B
      exact ne_of_none e hl
    have nbp : b ≠ p := by
      obtain ⟨_, _, _, e, _⟩ := B
      exact ne_of_none e hpn
    refine ⟨fun m σ H1 => ∃ qs rs : List Vd, m = qs.length ∧ σ = [some (.ref b), some (.ref a), some (.ref l), some (.ref p)] ∧ H1 l = some (.lst (qs.map (·.1))) ∧ H1 p = some (.lst (rs.map (·.1))) ∧
        (rs ++ qs).Perm ps ∧ BoxAt H1 b (n + rs.length) ∧ But b H H1, ⟨ps.length, ps, [], rfl, rfl, ?_, upd_same, .refl _, ?_, ?_⟩, ?_⟩
    · rw [upd_ne nlp, upd_same]
    · exact (B.keep fun o e => by rw [upd_ne nbp, upd_ne nbl]; exact e).mono (Nat.le_add_right _ _)
    · exact (But.new hl).trans (But.new hp0)
    · rintro m σ H1 ⟨qs, rs, rfl, rfl, el, ep, pm, B1, s1⟩
      have hq : ∀ x ∈ qs, x ∈ ps := fun x hx => pm.mem_iff.mp (List.mem_append_right _ hx)
      have hlen : rs.length + qs.length = ps.length := by
        rw [← List.length_append]
        exact pm.length_eq
      refine ⟨_, rfl, by decide, fun t ht => ?_⟩
      have nlt : l ≠ t := ne_of_none el ht
      have s2 : But b H (upd H1 t (.lst [])) := s1.trans (But.new ht)
      refine ⟨.list (qs.map fun x : Vd => x.2), .list [], .lst (xs := qs.map fun x : Vd => x.1) (.of (by rw [upd_ne nlt]; exact el)) (dp_pairs (fun x hx => (hp x (hq x hx)).2 _ s2) fun x hx => (hp x (hq x hx)).1), .lst (.of upd_same) .nil, lay_list (fun d hd => ?_), by rfl, _, rfl, ?_⟩
      · obtain ⟨x, hx, rfl⟩ := List.mem_map.mp hd
        exact (hp x (hq x hx)).1
      · rw [eqv_nil]
        cases qs with
        | nil =>
          refine iteF ?_
          refine ⟨_, rfl, ?_⟩
          rw [List.append_nil] at pm
          refine q p _ rs pm hpn ?_ ?_ s2
          · rw [upd_ne (ne_of_none ep ht)]
            exact ep
          · have e : rs.length = ps.length := pm.length_eq
            rw [← e]
            exact B1.keep fun o e => by rw [upd_ne (ne_of_none e ht)]; exact e
        | cons y ys =>
          refine iteT ?_
          have hlen' : rs.length + (ys.length + 1) = ps.length := hlen
          refine ⟨fun σ' H' => ∃ m', m' < (y :: ys).length ∧ ∃ qs rs : List Vd, m' = qs.length ∧ σ' = [some (.ref b), some (.ref a), some (.ref l), some (.ref p)] ∧ H' l = some (.lst (qs.map (·.1))) ∧ H' p = some (.lst (rs.map (·.1))) ∧
            (rs ++ qs).Perm ps ∧ BoxAt H' b (n + rs.length) ∧ But b H H', fun _ _ h => h, ?_⟩
          have ep2 : upd H1 t (.lst []) p = some (.lst (rs.map (·.1))) := by
            rw [upd_ne (ne_of_none ep ht)]
            exact ep
          have el2 : upd H1 t (.lst []) l = some (.lst ((y :: ys).map (·.1))) := by
            rw [upd_ne nlt]
            exact el
          have B2 : BoxAt (upd H1 t (.lst [])) b (n + rs.length) := B1.keep fun o e => by rw [upd_ne (ne_of_none e ht)]; exact e
          refine ⟨_, rfl, .inl ⟨rfl, _, .of ep2⟩, _, rfl, .inl ⟨rfl, _, .of el2⟩, _, rfl, _, rfl, l, _, rfl, .inl (.of el2), b, _, n + rs.length, rfl, B2, by omega, ?_, ?_, fun r H3 r0 r1 B3 s3 => ?_⟩
          · rw [List.length_map]
            show (0 : Int) < ((ys.length + 1 : Nat) : Int)
            omega
          · rw [List.length_map]
            show ((ys.length + 1 : Nat) : Int) < _
            have : ys.length + 1 ≤ 100000 := by omega
            omega
          · obtain ⟨j, rfl, hj⟩ := draw_at r0 r1 (n := (y :: ys).length) (by rw [List.length_map])
            have el3 : H3 l = some (.lst ((y :: ys).map (·.1))) := s3 _ _ nbl.symm el2
            have ep3 : H3 p = some (.lst (rs.map (·.1))) := s3 _ _ nbp.symm ep2
            have hjm : j < ((y :: ys).map (·.1)).length := by
              rw [List.length_map]
              exact hj
            have hj5 : j < 100000 := by
              have e : (y :: ys).length = ys.length + 1 := rfl
              omega
            refine ⟨l, _, (j : Int), j, ((y :: ys)[j]).1, rfl, rfl, el3, by omega, by omega, ?_, ?_, ?_⟩
            · have := PySem.seqIndex_of (k := (j : Int)) (n := ((y :: ys).map (·.1)).length) (by omega) (by omega)
              rw [this]
              rfl
            · rw [List.getElem?_map, List.getElem?_eq_getElem hj]
              rfl
            · refine ⟨p, _, _, rfl, rfl, by rw [upd_ne nlp.symm]; exact ep3, ?_, ?_⟩
              · rw [List.length_map]
                exact big (by omega)
              · refine ⟨((y :: ys).eraseIdx j).length, ?_, (y :: ys).eraseIdx j, rs ++ [(y :: ys)[j]], rfl, rfl, ?_, ?_, ?_, ?_, ?_⟩
                · rw [List.length_eraseIdx, if_pos hj]
                  show (ys.length + 1) - 1 < ys.length + 1
                  omega
                · rw [upd_ne nlp, upd_same, erase_map]
                · rw [upd_same, List.map_append]
                  rfl
                · rw [List.append_assoc]
                  refine List.Perm.trans (List.Perm.append_left rs ?_) pm
                  exact erase_perm hj
                · rw [List.length_append, List.length_singleton]
                  exact B3.keep fun o e => by rw [upd_ne nbp, upd_ne nbl]; exact e
                · intro c o nc e
                  have e3 := (s2.trans s3) c o nc e
                  rw [upd_ne (ne_of_none e hpn), upd_ne (ne_of_none e hl)]
                  exact e3
end
end G
set_option Elab.async false
set_option linter.all false
set_option maxRecDepth 100000
set_option maxHeartbeats 2000000
/-! V4: drawn names. -/
namespace G
open PySem PySem.Spec PyProof.Rows L2
abbrev sNames : Stmt := topS 29
abbrev nNames : List Str := ["_law_box_here", "_law_many", "_law_letters", "_law_way", "_law_cut", "_law_begin", "_law_step", "_law_stem", "_law_k", "_law_found", "_law_letter", "_law_name"]
theorem scNames : FnScope nNames ["_law_box_here", "_law_many"] (defScope sNames) := ⟨rfl, rfl, rfl, by decide +kernel, rfl, by decide +kernel, by decide +kernel⟩
abbrev cs (z : Str) : List Nat := z.cps.toList
theorem cs_len (z : Str) : (cs z).length = z.length := by simp [cs, Str.length]
theorem cs_app (a b : Str) : cs (a ++ b) = cs a ++ cs b := TL.tl_append a b
theorem app_len (a b : Str) : (a ++ b).length = a.length + b.length := strLen_append a b
theorem small_size {n : Nat} (h : n ≤ 7000) : n ≤ sizeLine := by
  rw [sizeLine_eq]
  omega
theorem box_new {H : Hp} {b p : Addr} {n : Nat} {o : HO} (B : BoxAt H b n) (h : H p = none) : BoxAt (upd H p o) b n := B.keep fun o' e => Same.new h b o' e
theorem box_ne {H : Hp} {b p : Addr} {n : Nat} (B : BoxAt H b n) (h : H p = none) : p ≠ b := fun z => by
  obtain ⟨_, _, _, e, _⟩ := B
  rw [← z, h] at e
  cases e
theorem box_upd {H : Hp} {b p : Addr} {n : Nat} {o : HO} (B : BoxAt H b n) (h : p ≠ b) : BoxAt (upd H p o) b n := by
  obtain ⟨x, y, z, e, r⟩ := B
  exact ⟨x, y, z, (upd_ne h.symm).trans e, r⟩
/-- a store at what was new -/
theorem but_upd {b p : Addr} {H H1 : Hp} {o : HO} (k : But b H H1) (h : H p = none) : But b H (upd H1 p o) := fun c u n e => by
  rw [upd_ne (ne_of_none e h)]
  exact k c u n e
theorem free_of {b p : Addr} {H H' : Hp} (k : But b H H') (n : p ≠ b) (h : H' p = none) : H p = none := by
  cases e : H p with
  | none => rfl
  | some o =>
    rw [k p o n e] at h
    cases h
/-! ### names -/
def LowZ (z : Str) : Prop := ∀ c ∈ cs z, 97 ≤ c ∧ c ≤ 122
def NameZ (z : Str) : Prop := LowZ z ∧ 1 ≤ z.length ∧ z.length ≤ 8
def NameI (y : Str) (i : Nat) : Prop := LowZ y ∧ 1 ≤ y.length ∧ y.length ≤ 8 ∧ (26 ≤ i → y.length ≤ 7)
theorem LowZ.app {a b : Str} (h1 : LowZ a) (h2 : LowZ b) : LowZ (a ++ b) := fun c hc => by
  rw [cs_app] at hc
  rcases List.mem_append.mp hc with h | h
  · exact h1 c h
  · exact h2 c h
theorem LowZ.cut {a : Str} (h : LowZ a) (lo hi : Option Int) : LowZ (cutS a lo hi) := fun c hc => by
  have hc' : c ∈ ((cs a).drop _).take _ := hc
  exact h c (List.mem_of_mem_drop (List.mem_of_mem_take hc'))
theorem low_one {c : Nat} (h : 97 ≤ c ∧ c ≤ 122) : LowZ ⟨#[c]⟩ := fun x hx => by
  have : x ∈ [c] := hx
  rw [List.mem_singleton.mp this]
  exact h
theorem LowZ.lay {z : Str} (h : LowZ z) : lay (.str z) := by
  refine ⟨rfl, ?_, Nat.zero_le _⟩
  show z.cps.all (· < 0x110000) = true
  rw [Array.all_eq_true]
  intro i hi
  have := h z.cps[i] (by simp [cs])
  exact decide_eq_true (by omega)
abbrev abc : Str := "abcdefghijklmnopqrstuvwxyz"
theorem abc_low : LowZ abc := by
  have h : ((cs abc).all fun c => decide (97 ≤ c ∧ c ≤ 122)) = true := by decide +kernel
  exact fun c hc => of_decide_eq_true (List.all_eq_true.mp h c hc)
theorem abc_at {j : Nat} (hj : j < 26) : ∃ c, abc.cps[j]? = some c ∧ 97 ≤ c ∧ c ≤ 122 := by
  have h1 : j < abc.cps.size := hj
  refine ⟨abc.cps[j], by simp [h1], abc_low _ ?_⟩
  simp [cs]
theorem cut_first (z : Str) (k : Nat) : cs (cutS z none (some (k : Int))) = (cs z).take k := by
  show ((cs z).drop (HT.sIx z.length 0 none)).take (HT.sIx z.length z.length (some (k : Int)) - HT.sIx z.length 0 none) = _
  rw [HT.sIx_none, HT.sIx_nat z.length z.length k, List.drop_zero, ← cs_len, Nat.sub_zero]
  by_cases h : k ≤ (cs z).length
  · rw [Nat.min_eq_left h]
  · rw [Nat.min_eq_right (by omega), List.take_length, List.take_of_length_le (by omega)]
theorem cut_len (z : Str) (k : Nat) : (cutS z none (some (k : Int))).length = min k z.length := by
  rw [← cs_len, cut_first, List.length_take, cs_len]
def spNames : Sp := fun vs H Q _ => ∃ (b : Addr) (m n : Nat), vs = [.ref b, .int (m : Int)] ∧ BoxAt H b n ∧ n ≤ 50000 ∧ m ≤ 100 ∧
  ∀ (p : Addr) (H' : Hp) (zs : List Str), zs.length = m → (∀ z ∈ zs, NameZ z) → H p = none → H' p = some (.lst (zs.map V.str)) → BoxAt H' b (n + 11 + m) → But b H H' → Q (.ref p) H'
section
variable {P : Program} {w : World} {K : PySem.W.Frag} {mg : Str → Option Value} {base : Heap}
theorem ok_names {f fT fM : Addr} {fd fdT fdM : FuncData} (F : Fun K "_law_names" "_law_names" sNames f fd) (T : Fun K "_law_take" "_law_take" sTake fT fdT) (bT : Binds K fdT ["_law_box_here", "_law_many"] []) (gT : mg "_law_take" = some (.ref fT))
    (M : Fun K "_law_mixed" "_law_mixed" sMixed fM fdM) (bM : Binds K fdM ["_law_box_here", "_law_some"] []) (gM : mg "_law_mixed" = some (.ref fM)) (ml : mg "len" = none) (mL : mg "list" = none) (mr : mg "range" = none) :
    FnOk P w K mg base CX0 3 f fd ["_law_box_here", "_law_many"] spNames := by
  have GT : FnOk P w K mg base CX0 1 fT fdT ["_law_box_here", "_law_many"] spTake := ok_take T
  have GM : FnOk P w K mg base CX0 2 fM fdM ["_law_box_here", "_law_some"] (spMixed K) := ok_mixed M T bT gT ml mL
  refine F.ok scNames (fun vs H Q E h => ?_) (fun cdv A outer s H vs Q E hr h => ?_)
  · obtain ⟨b, m, n, rfl, _⟩ := h
    rfl
  · obtain ⟨b, m, n, rfl, B, hn, hm, q⟩ := h
    have hr1 := hr.mono (show 1 ≤ 2 by decide)
    obtain ⟨ts, psl, qsl⟩ : ∃ t, PSs (cxOf CX0 P w K mg base nNames "_law_names" (defScope sNames) f cdv A outer s H E).nox ((defBody sNames).drop 5) t ∧
        ∀ (way cut bg st : Nat) (z : Str) (x8 : Option V) (H1 : Hp), cut ≤ 7 → (26 < m → cut ≤ 6) → bg < 26 → st ≤ 17 → LowZ z → z.length = 7 → BoxAt H1 b (n + 11) → But b H H1 → t { nx := fun _ H' => Q .non H', rt := Q } [some (.ref b), some (.int (m : Int)), some (.str abc), some (.int (way : Int)), some (.int (cut : Int)), some (.int (bg : Int)), some (.int (st : Int)), some (.str z), x8, none, none, none] H1 := by
      refine ⟨_, pss_cons (ps_set (i := 9) scNames.nd rfl (.inl rfl) (pe_lst pa_nil))
      (pss_cons (ps_for PassesOwn.never rfl (pi_range1 rfl mr (pa_cons (pv 1) pa_nil)) (pg_name (i := 8) scNames.nd rfl (.inl rfl))
        (pss_cons (ps_set (i := 10) scNames.nd rfl (.inl rfl) (pe_item_str (pv 2) (pe_op op_mod (pe_op op_add (pv 5) (pe_op op_mul (pv 6) (pv 8))) pe_int) (fun _ _ => rfl)))
        (pss_cons (ps_set (i := 11) scNames.nd rfl (.inl rfl) (pe_op op_add_str (pe_slice sl_str (pv 7) po_none (po_some (pv 4))) (pv 10)))
        (pss_cons (ps_if (PW.pt (pw_and (pt_cmpR op_eq (pv 3) pe_int (nomark _)) (pw_and1 (pt_cmpR op_lt (pv 1) pe_int (nomark _)))))
          (pss_one (ps_set (i := 11) scNames.nd rfl (.inl rfl) (pe_op op_add_str (pv 10) (pe_slice sl_str (pv 7) po_none (po_some (pe_op op_mod (pe_op op_add (pv 4) (pe_op op_mul pe_int (pv 8))) pe_int)))))) pss_nil)
        (pss_one (ps_expr (pe_bm PySem.F.plainAttrs_list PySem.F.slot_list_append PySem.F.type_list_append mt_append (pv 9) (pa_cons
          (pe_ifExp (pt_cmpR op_lt (pv 8) pe_int (nomark _)) (pv 11) (pe_op op_add_str (pv 11) (pe_item_str (pv 2) (pe_op op_fdiv (pv 8) pe_int) (fun _ _ => rfl)))) pa_nil))))))))
      (pss_one (ps_ret (pv 9)))), ?_⟩
      intro way cut bg st z x8 H1 hcut hcut2 hbg hst hz hl B1 k1
      refine ⟨Nat.zero_le _, fun D hD => ?_⟩
      have nD := box_ne B1 hD
      have fD := free_of k1 nD hD
      refine ⟨_, rfl, _, rfl, by omega, by omega, ?_⟩
      rw [Int.toNat_natCast m]
      refine for_range (lo := 0) (n := m) (fun i σ H2 => ∃ (zs : List Str) (x8 x10 x11 : Option V), σ = [some (.ref b), some (.int (m : Int)), some (.str abc), some (.int (way : Int)), some (.int (cut : Int)), some (.int (bg : Int)), some (.int (st : Int)), some (.str z), x8, some (.ref D), x10, x11] ∧
        H2 D = some (.lst (zs.map V.str)) ∧ zs.length = i ∧ (∀ y ∈ zs, NameZ y) ∧ BoxAt H2 b (n + 11) ∧ But b H H2) ?_ ?_ ?_
      · exact ⟨[], x8, none, none, rfl, upd_same, rfl, (fun y h => nomatch h), box_new B1 hD, but_upd k1 fD⟩
      · rintro i σ H2 hi ⟨zs, x8, x10, x11, rfl, e2, hlz, hy, B2, k2⟩
        have r := emod_in ((bg : Int) + (st : Int) * (0 + (i : Int))) 26 (by decide)
        obtain ⟨j, ej, hj⟩ := draw_at r.1 r.2 (n := 26) rfl
        obtain ⟨c, hc, c97⟩ := abc_at hj
        refine ⟨_, rfl, _, rfl, _, rfl, _, rfl, _, _, rfl, rfl, .inl ⟨by omega, by omega⟩, _, _, rfl, rfl, _, _, rfl, rfl, (by show (0 : Int) < 26; decide), _, _, c, rfl, rfl, r.1, by omega, (show _ < ((26 : Nat) : Int) by omega), (by rw [ej]; exact hc), ?_⟩
        have lo := low_one c97
        have len1 : (⟨#[c]⟩ : Str).length = 1 := rfl
        generalize (⟨#[c]⟩ : Str) = lt at lo len1
        have cl := cut_len z cut
        refine ⟨_, rfl, _, rfl, _, rfl, z, rfl, small_size (by omega), _, rfl, _, _, rfl, rfl, small_size (by omega), ?_⟩
        have Y0 : LowZ (cutS z none (some (cut : Int)) ++ lt) ∧ 1 ≤ (cutS z none (some (cut : Int)) ++ lt).length ∧ (cutS z none (some (cut : Int)) ++ lt).length ≤ 8 ∧ (26 ≤ i → (cutS z none (some (cut : Int)) ++ lt).length ≤ 7) := by
          rw [app_len]
          exact ⟨(hz.cut _ _).app lo, by omega, by omega, fun _ => by omega⟩
        have r8 := emod_in ((cut : Int) + 3 * (0 + (i : Int))) 8 (by decide)
        refine ⟨_, rfl, rfl, _, rfl, ite2 (fun _ => ?_) (fun _ => ?_)⟩
        · refine ⟨_, rfl, _, _, rfl, rfl, _, rfl, ite2 (fun h27 => ?_) (fun _ => ?_)⟩
          · have hm27 : (m : Int) < 27 := of_decide_eq_true h27
            obtain ⟨j8, ej8, hj8⟩ := draw_at r8.1 r8.2 (n := 8) rfl
            have cl8 := cut_len z j8
            refine ⟨_, rfl, _, rfl, _, rfl, _, rfl, _, _, rfl, rfl, .inl ⟨by decide, by decide⟩, _, _, rfl, rfl, _, _, rfl, rfl, (by show (0 : Int) < 8; decide), _, rfl, z, rfl, small_size (by omega), _, _, rfl, rfl, ?_, ?_⟩
            · rw [ej8, len1]
              exact small_size (by omega)
            have Y : NameI (lt ++ cutS z none (some (((cut : Int) + 3 * (0 + (i : Int))) % 8))) i := by
              unfold NameI
              rw [ej8, app_len]
              exact ⟨lo.app (hz.cut _ _), by omega, by omega, fun h => by omega⟩
            revert Y
            generalize (lt ++ cutS z none (some (((cut : Int) + 3 * (0 + (i : Int))) % 8))) = y
            intro Y
            obtain ⟨y1, y2, y3, y4⟩ := Y
            have done : ∀ (u : Str) (x8 x10 x11 : Option V), NameZ u → ∃ (zs' : List Str) (x8' x10' x11' : Option V), [some (V.ref b), some (.int (m : Int)), some (.str abc), some (.int (way : Int)), some (.int (cut : Int)), some (.int (bg : Int)), some (.int (st : Int)), some (.str z), x8, some (.ref D), x10, x11] = [some (.ref b), some (.int (m : Int)), some (.str abc), some (.int (way : Int)), some (.int (cut : Int)), some (.int (bg : Int)), some (.int (st : Int)), some (.str z), x8', some (.ref D), x10', x11'] ∧
                upd H2 D (.lst (zs.map V.str ++ [.str u])) D = some (.lst (zs'.map V.str)) ∧ zs'.length = i + 1 ∧ (∀ y ∈ zs', NameZ y) ∧ BoxAt (upd H2 D (.lst (zs.map V.str ++ [.str u]))) b (n + 11) ∧ But b H (upd H2 D (.lst (zs.map V.str ++ [.str u]))) := fun u x8 x10 x11 hu => by
              refine ⟨zs ++ [u], x8, x10, x11, rfl, ?_, ?_, fun v hv => ?_, box_upd B2 nD, but_upd k2 fD⟩
              · rw [upd_same, List.map_append]
                rfl
              · rw [List.length_append, hlz]
                rfl
              · rcases List.mem_append.mp hv with hv | hv
                · exact hy v hv
                · rw [List.mem_singleton.mp hv]
                  exact hu
            have room : (zs.map V.str).length < sizeLine := by
              rw [List.length_map]
              exact small1000 (by omega)
            refine ⟨_, rfl, .inl ⟨rfl, _, .of e2⟩, _, rfl, _, _, rfl, rfl, _, rfl, ite2 (fun h26 => ?_) (fun h26 => ?_)⟩
            · exact ⟨_, rfl, D, _, _, rfl, rfl, e2, room, done y _ _ _ ⟨y1, y2, y3⟩⟩
            · have h26' : ¬ ((0 + (i : Int)) < 26) := fun h => h26 (decide_eq_true h)
              have yl := y4 (by omega)
              have hd : (0 + (i : Int)) / 26 = ((i / 26 : Nat) : Int) := by omega
              obtain ⟨c2, hc2, c297⟩ := abc_at (j := i / 26) (by omega)
              refine ⟨_, rfl, _, rfl, _, rfl, _, _, rfl, rfl, ⟨by decide, by decide⟩, _, _, c2, rfl, rfl, by omega, by omega, (show _ < ((26 : Nat) : Int) by omega), (by rw [hd]; exact hc2), _, _, rfl, rfl, ?_, D, _, _, rfl, rfl, e2, room, ?_⟩
              · show y.length + 1 ≤ sizeLine
                exact small_size (by omega)
              · have l2 : (y ++ (⟨#[c2]⟩ : Str)).length = y.length + 1 := app_len y ⟨#[c2]⟩
                exact done (y ++ ⟨#[c2]⟩) _ _ _ ⟨y1.app (low_one c297), by omega, by omega⟩
          · have Y : NameI (cutS z none (some (cut : Int)) ++ lt) i := Y0
            revert Y
            generalize (cutS z none (some (cut : Int)) ++ lt) = y
            intro Y
            obtain ⟨y1, y2, y3, y4⟩ := Y
            have done : ∀ (u : Str) (x8 x10 x11 : Option V), NameZ u → ∃ (zs' : List Str) (x8' x10' x11' : Option V), [some (V.ref b), some (.int (m : Int)), some (.str abc), some (.int (way : Int)), some (.int (cut : Int)), some (.int (bg : Int)), some (.int (st : Int)), some (.str z), x8, some (.ref D), x10, x11] = [some (.ref b), some (.int (m : Int)), some (.str abc), some (.int (way : Int)), some (.int (cut : Int)), some (.int (bg : Int)), some (.int (st : Int)), some (.str z), x8', some (.ref D), x10', x11'] ∧
                upd H2 D (.lst (zs.map V.str ++ [.str u])) D = some (.lst (zs'.map V.str)) ∧ zs'.length = i + 1 ∧ (∀ y ∈ zs', NameZ y) ∧ BoxAt (upd H2 D (.lst (zs.map V.str ++ [.str u]))) b (n + 11) ∧ But b H (upd H2 D (.lst (zs.map V.str ++ [.str u]))) := fun u x8 x10 x11 hu => by
              refine ⟨zs ++ [u], x8, x10, x11, rfl, ?_, ?_, fun v hv => ?_, box_upd B2 nD, but_upd k2 fD⟩
              · rw [upd_same, List.map_append]
                rfl
              · rw [List.length_append, hlz]
                rfl
              · rcases List.mem_append.mp hv with hv | hv
                · exact hy v hv
                · rw [List.mem_singleton.mp hv]
                  exact hu
            have room : (zs.map V.str).length < sizeLine := by
              rw [List.length_map]
              exact small1000 (by omega)
            refine ⟨_, rfl, .inl ⟨rfl, _, .of e2⟩, _, rfl, _, _, rfl, rfl, _, rfl, ite2 (fun h26 => ?_) (fun h26 => ?_)⟩
            · exact ⟨_, rfl, D, _, _, rfl, rfl, e2, room, done y _ _ _ ⟨y1, y2, y3⟩⟩
            · have h26' : ¬ ((0 + (i : Int)) < 26) := fun h => h26 (decide_eq_true h)
              have yl := y4 (by omega)
              have hd : (0 + (i : Int)) / 26 = ((i / 26 : Nat) : Int) := by omega
              obtain ⟨c2, hc2, c297⟩ := abc_at (j := i / 26) (by omega)
              refine ⟨_, rfl, _, rfl, _, rfl, _, _, rfl, rfl, ⟨by decide, by decide⟩, _, _, c2, rfl, rfl, by omega, by omega, (show _ < ((26 : Nat) : Int) by omega), (by rw [hd]; exact hc2), _, _, rfl, rfl, ?_, D, _, _, rfl, rfl, e2, room, ?_⟩
              · show y.length + 1 ≤ sizeLine
                exact small_size (by omega)
              · have l2 : (y ++ (⟨#[c2]⟩ : Str)).length = y.length + 1 := app_len y ⟨#[c2]⟩
                exact done (y ++ ⟨#[c2]⟩) _ _ _ ⟨y1.app (low_one c297), by omega, by omega⟩
        · have Y : NameI (cutS z none (some (cut : Int)) ++ lt) i := Y0
          revert Y
          generalize (cutS z none (some (cut : Int)) ++ lt) = y
          intro Y
          obtain ⟨y1, y2, y3, y4⟩ := Y
          have done : ∀ (u : Str) (x8 x10 x11 : Option V), NameZ u → ∃ (zs' : List Str) (x8' x10' x11' : Option V), [some (V.ref b), some (.int (m : Int)), some (.str abc), some (.int (way : Int)), some (.int (cut : Int)), some (.int (bg : Int)), some (.int (st : Int)), some (.str z), x8, some (.ref D), x10, x11] = [some (.ref b), some (.int (m : Int)), some (.str abc), some (.int (way : Int)), some (.int (cut : Int)), some (.int (bg : Int)), some (.int (st : Int)), some (.str z), x8', some (.ref D), x10', x11'] ∧
              upd H2 D (.lst (zs.map V.str ++ [.str u])) D = some (.lst (zs'.map V.str)) ∧ zs'.length = i + 1 ∧ (∀ y ∈ zs', NameZ y) ∧ BoxAt (upd H2 D (.lst (zs.map V.str ++ [.str u]))) b (n + 11) ∧ But b H (upd H2 D (.lst (zs.map V.str ++ [.str u]))) := fun u x8 x10 x11 hu => by
            refine ⟨zs ++ [u], x8, x10, x11, rfl, ?_, ?_, fun v hv => ?_, box_upd B2 nD, but_upd k2 fD⟩
            · rw [upd_same, List.map_append]
              rfl
            · rw [List.length_append, hlz]
              rfl
            · rcases List.mem_append.mp hv with hv | hv
              · exact hy v hv
              · rw [List.mem_singleton.mp hv]
                exact hu
          have room : (zs.map V.str).length < sizeLine := by
            rw [List.length_map]
            exact small1000 (by omega)
          refine ⟨_, rfl, .inl ⟨rfl, _, .of e2⟩, _, rfl, _, _, rfl, rfl, _, rfl, ite2 (fun h26 => ?_) (fun h26 => ?_)⟩
          · exact ⟨_, rfl, D, _, _, rfl, rfl, e2, room, done y _ _ _ ⟨y1, y2, y3⟩⟩
          · have h26' : ¬ ((0 + (i : Int)) < 26) := fun h => h26 (decide_eq_true h)
            have yl := y4 (by omega)
            have hd : (0 + (i : Int)) / 26 = ((i / 26 : Nat) : Int) := by omega
            obtain ⟨c2, hc2, c297⟩ := abc_at (j := i / 26) (by omega)
            refine ⟨_, rfl, _, rfl, _, rfl, _, _, rfl, rfl, ⟨by decide, by decide⟩, _, _, c2, rfl, rfl, by omega, by omega, (show _ < ((26 : Nat) : Int) by omega), (by rw [hd]; exact hc2), _, _, rfl, rfl, ?_, D, _, _, rfl, rfl, e2, room, ?_⟩
            · show y.length + 1 ≤ sizeLine
              exact small_size (by omega)
            · have l2 : (y ++ (⟨#[c2]⟩ : Str)).length = y.length + 1 := app_len y ⟨#[c2]⟩
              exact done (y ++ ⟨#[c2]⟩) _ _ _ ⟨y1.app (low_one c297), by omega, by omega⟩
      · rintro σ H2 ⟨zs, x8, x10, x11, rfl, e2, hlz, hy, B2, k2⟩
        exact ⟨_, rfl, q D H2 zs hlz hy fD e2 (B2.mono (by omega)) k2⟩
    obtain ⟨tl, pl, ql⟩ : ∃ t, PSs (cxOf CX0 P w K mg base nNames "_law_names" (defScope sNames) f cdv A outer s H E).nox ((defBody sNames).drop 2) t ∧
        ∀ (way cut bg : Nat) (H1 : Hp), cut ≤ 7 → (26 < m → cut ≤ 6) → bg < 26 → BoxAt H1 b (n + 3) → But b H H1 → t { nx := fun _ H' => Q .non H', rt := Q } [some (.ref b), some (.int (m : Int)), some (.str abc), some (.int (way : Int)), some (.int (cut : Int)), some (.int (bg : Int)), none, none, none, none, none, none] H1 := by
      refine ⟨_, pss_cons (ps_asg (pe_tup (pa_cons (pe_ix ix_list (pe_lst (pa_cons pe_int (pa_cons pe_int (pa_cons pe_int (pa_cons pe_int (pa_cons pe_int (pa_cons pe_int (pa_cons pe_int (pa_cons pe_int pa_nil)))))))))
          (pe_call GT hr1 rfl gT T.kp bT .nil pass0 (pa_cons (pv 0) (pa_cons pe_int pa_nil))) (fun _ _ => rfl)) (pa_cons pe_str pa_nil)))
        (pg_tup (by rfl) (pgs_cons (pg_name (i := 6) scNames.nd rfl (.inl rfl)) (pgs_cons (pg_name (i := 7) scNames.nd rfl (.inr rfl)) pgs_nil))))
      (pss_cons (ps_for PassesOwn.never rfl (pi_range1 rfl mr (pa_cons pe_int pa_nil)) (pg_name (i := 8) scNames.nd rfl (.inl rfl))
        (pss_one (ps_set (i := 7) scNames.nd rfl (.inr rfl) (pe_op op_add_str (pv 7) (pe_item_str (pv 2) (pe_call GT hr1 rfl gT T.kp bT .nil pass0 (pa_cons (pv 0) (pa_cons pe_int pa_nil))) (fun _ _ => rfl))))))
      (pss_cons (ps_if (PW.pt (pw_and (pt_cmpR op_eq (pv 3) pe_int (nomark _)) (pw_and1 (pt_cmpR op_lt (pv 1) pe_int (nomark _)))))
        (pss_one (ps_ret (pe_call GM hr rfl gM M.kp bM .nil pass0 (pa_cons (pv 0) (pa_cons (pe_lc (own := [("_law_k", 8)]) (g := gName 8) (tt := tYes) (by rfl) scNames.nd (pi_range1 rfl mr (pa_cons (pv 1) pa_nil))
          (blkOk_by (own := [("_law_k", 8)]) (N := nNames) (sc := defScope sNames) (by decide +kernel)) (fun _ _ _ _ _ => pg_name (i := 8) scNames.nd rfl (.inl rfl)) (fun _ _ _ _ _ => pts_nil)
          (fun _ _ _ _ _ => pe_slice sl_str (pe_op op_add_str (pv 7) (pe_item_str (pv 2) (pv 5) (fun _ _ => rfl))) po_none (po_some (pe_op op_add (pv 8) pe_int)))) pa_nil))))) pss_nil)
      psl)), ?_⟩
      intro way cut bg H1 hcut hcut2 hbg B1 k1
      refine ⟨(by show 8 ≤ sizeLine; decide), fun p1 hp1 => ?_⟩
      have np1 := box_ne B1 hp1
      refine ⟨_, rfl, b, 8, n + 3, rfl, box_new B1 hp1, by omega, by decide, by decide, fun r H2 r0 r1 B2 k2 => ?_⟩
      obtain ⟨j, rfl, hj⟩ := draw_at (n := 8) r0 r1 rfl
      have e2 := k2 _ _ np1 upd_same
      have kk2 : But b H H2 := (k1.trans (But.new hp1)).trans k2
      obtain ⟨st, hst, hst17⟩ : ∃ st : Nat, ([.int 1, .int 3, .int 5, .int 7, .int 9, .int 11, .int 15, .int 17] : List V)[j]? = some (.int (st : Int)) ∧ st ≤ 17 := by
        match j, hj with
        | 0, _ => exact ⟨1, rfl, by decide⟩
        | 1, _ => exact ⟨3, rfl, by decide⟩
        | 2, _ => exact ⟨5, rfl, by decide⟩
        | 3, _ => exact ⟨7, rfl, by decide⟩
        | 4, _ => exact ⟨9, rfl, by decide⟩
        | 5, _ => exact ⟨11, rfl, by decide⟩
        | 6, _ => exact ⟨15, rfl, by decide⟩
        | 7, _ => exact ⟨17, rfl, by decide⟩
      refine ⟨p1, _, _, .int (st : Int), rfl, rfl, .of e2, atI_nat hst, (by show 2 ≤ sizeLine; decide), fun p2 hp2 => ?_⟩
      have np2 := box_ne B2 hp2
      refine ⟨p2, _, rfl, .of upd_same, rfl, _, _, rfl, _, _, rfl, rfl, ?_⟩
      have B3 : BoxAt (upd H2 p2 (.tup [.int (st : Int), .str ""])) b (n + 4) := box_new B2 hp2
      have k3 : But b H (upd H2 p2 (.tup [.int (st : Int), .str ""])) := kk2.trans (But.new hp2)
      generalize upd H2 p2 (.tup [.int (st : Int), .str ""]) = H3 at B3 k3
      -- the stem
      refine ⟨_, rfl, by decide, by decide, ?_⟩
      refine for_range (lo := 0) (n := 7) (fun i σ H4 => ∃ (z : Str) (x8 : Option V), σ = [some (.ref b), some (.int (m : Int)), some (.str abc), some (.int (way : Int)), some (.int (cut : Int)), some (.int (bg : Int)), some (.int (st : Int)), some (.str z), x8, none, none, none] ∧ LowZ z ∧ z.length = i ∧ BoxAt H4 b (n + 4 + i) ∧ But b H H4) ?_ ?_ ?_
      · exact ⟨"", none, rfl, (fun c h => nomatch h), rfl, B3, k3⟩
      · rintro i σ H4 hi ⟨z, x8, rfl, hz, hl, B4, k4⟩
        refine ⟨_, rfl, _, rfl, _, rfl, b, 26, n + 4 + i, rfl, B4, by omega, by decide, by decide, fun r H5 r0 r1 B5 k5 => ?_⟩
        obtain ⟨j, rfl, hj⟩ := draw_at (n := 26) r0 r1 rfl
        obtain ⟨c, hc, c97⟩ := abc_at hj
        refine ⟨_, _, c, rfl, rfl, by omega, by omega, (show ((j : Nat) : Int) < ((26 : Nat) : Int) by omega), hc, ?_⟩
        refine ⟨_, _, rfl, rfl, ?_, ?_⟩
        · show z.length + 1 ≤ sizeLine
          rw [sizeLine_eq]
          omega
        · refine ⟨z ++ ⟨#[c]⟩, _, rfl, hz.app (low_one c97), ?_, B5, k4.trans k5⟩
          rw [app_len, hl]
          rfl
      · rintro σ H4 ⟨z, x8, rfl, hz, hl, B4, k4⟩
        -- from here on two ways
        have namesOf : ∀ (zs : List Str) (qs : List Vd), qs.Perm (zs.map fun z => (V.str z, PyData.str z)) → (∀ z ∈ zs, NameZ z) →
            ∃ ys : List Str, qs.map (·.1) = ys.map V.str ∧ ys.length = zs.length ∧ ∀ y ∈ ys, NameZ y := fun zs qs pm hz => by
          have each : ∀ x ∈ qs, ∃ y, x = (V.str y, PyData.str y) ∧ NameZ y := fun x hx => by
            obtain ⟨y, hy, e⟩ := List.mem_map.mp (pm.mem_iff.mp hx)
            exact ⟨y, e.symm, hz y hy⟩
          have hlen : qs.length = zs.length := by
            rw [pm.length_eq, List.length_map]
          rw [← hlen]
          clear pm hlen
          induction qs with
          | nil => exact ⟨[], rfl, rfl, fun y hy => nomatch hy⟩
          | cons x qs ih =>
            obtain ⟨y, rfl, hy⟩ := each x List.mem_cons_self
            obtain ⟨ys, e1, e2, e3⟩ := ih fun x hx => each x (List.mem_cons_of_mem _ hx)
            refine ⟨y :: ys, ?_, congrArg (· + 1) e2, fun u hu => ?_⟩
            · rw [List.map_cons, e1]
              rfl
            · rcases List.mem_cons.mp hu with rfl | hu
              · exact hy
              · exact e3 u hu
        have mInt : (m : Int).toNat = m := Int.toNat_natCast m
        refine ⟨_, rfl, rfl, _, rfl, ite2 (fun _ => ?_) (fun _ => ?_)⟩
        · refine ⟨_, rfl, _, _, rfl, rfl, _, rfl, ite2 (fun h9 => ?_) (fun _ => ?_)⟩
          · have hm9 : (m : Int) < 9 := of_decide_eq_true h9
            refine ⟨_, rfl, _, rfl, _, rfl, by omega, by omega, fun D hD => ?_⟩
            have nD := box_ne B4 hD
            have fD := free_of k4 nD hD
            rw [mInt]
            refine lc_range (lo := 0) (n := m) (fun i H5 => ∃ ys : List Str, H5 D = some (.lst (ys.map V.str)) ∧ ys.length = i ∧ (∀ y ∈ ys, NameZ y) ∧ BoxAt H5 b (n + 11) ∧ But b H H5) ?_ ?_ ?_
            · exact ⟨[], upd_same, rfl, (fun y h => nomatch h), box_new B4 hD, but_upd k4 fD⟩
            · rintro i H5 hi ⟨ys, e5, hl5, hy, B5, k5⟩
              refine ⟨rfl, ?_⟩
              unfold tYes
              dsimp only
              rw [if_pos rfl]
              obtain ⟨c, hc, c97⟩ := abc_at hbg
              refine ⟨_, rfl, _, rfl, _, rfl, _, _, c, rfl, rfl, by omega, by omega, (show ((bg : Nat) : Int) < ((26 : Nat) : Int) by omega), hc, _, _, rfl, rfl, ?_, ?_⟩
              · show z.length + 1 ≤ sizeLine
                rw [sizeLine_eq]
                omega
              have lz : (z ++ ⟨#[c]⟩).length = 8 := by
                rw [app_len, hl]
                rfl
              refine ⟨_, rfl, _, _, rfl, rfl, _, rfl, _, rfl, small_size (by omega), ?_⟩
              have e0 : (0 + (i : Int) + 1 : Int) = ((i + 1 : Nat) : Int) := by omega
              rw [e0]
              have cl := cut_len (z ++ ⟨#[c]⟩) (i + 1)
              refine ⟨_, e5, ?_, ys ++ [cutS (z ++ ⟨#[c]⟩) none (some ((i + 1 : Nat) : Int))], ?_, ?_, ?_, ?_, ?_⟩
              · rw [List.length_map]
                exact small1000 (by omega)
              · rw [upd_same, List.map_append]
                rfl
              · rw [List.length_append, hl5]
                rfl
              · intro y h
                rcases List.mem_append.mp h with h | h
                · exact hy y h
                · rw [List.mem_singleton.mp h]
                  exact ⟨(hz.app (low_one c97)).cut _ _, by omega, by omega⟩
              · exact box_upd B5 nD
              · exact but_upd k5 fD
            · rintro H5 ⟨ys, e5, hl5, hy, B5, k5⟩
              refine ⟨b, D, n + 11, ys.map fun z => (V.str z, PyData.str z), rfl, B5, ?_, .inl (.of ?_), ?_, fun p H6 qs pm np e6 B6 k6 => ?_⟩
              · rw [List.length_map]
                omega
              · rw [e5, List.map_map]
                rfl
              · intro x hx
                obtain ⟨y, hyy, rfl⟩ := List.mem_map.mp hx
                exact ⟨(hy y hyy).1.lay, fun H' _ => .str y⟩
              · obtain ⟨us, u1, u2, u3⟩ := namesOf ys qs pm hy
                rw [u1] at e6
                rw [List.length_map, hl5] at B6
                exact q p H6 us (u2.trans hl5) u3 (free_of k5 (box_ne B5 np) np) e6 B6 (k5.trans k6)
          · exact qsl way cut bg st z x8 H4 hcut hcut2 hbg hst17 hz hl B4 k4
        · exact qsl way cut bg st z x8 H4 hcut hcut2 hbg hst17 hz hl B4 k4
    refine ⟨_, pss_cons (ps_set (i := 2) scNames.nd rfl (.inr rfl) pe_str)
      (pss_cons (ps_asg (pe_tup (pa_cons (pe_call GT hr1 rfl gT T.kp bT .nil pass0 (pa_cons (pv 0) (pa_cons pe_int pa_nil)))
          (pa_cons (pe_call GT hr1 rfl gT T.kp bT .nil pass0 (pa_cons (pv 0) (pa_cons (pe_ifExp (pt_cmpR op_lt (pv 1) pe_int (nomark _)) pe_int pe_int) pa_nil)))
          (pa_cons (pe_call GT hr1 rfl gT T.kp bT .nil pass0 (pa_cons (pv 0) (pa_cons pe_int pa_nil))) pa_nil))))
        (pg_tup (by rfl) (pgs_cons (pg_name (i := 3) scNames.nd rfl (.inl rfl)) (pgs_cons (pg_name (i := 4) scNames.nd rfl (.inl rfl)) (pgs_cons (pg_name (i := 5) scNames.nd rfl (.inr rfl)) pgs_nil))))) pl), ?_⟩
    refine ⟨_, rfl, b, 4, n, rfl, B, by omega, by decide, by decide, fun way H1 w0 w1 B1 k1 => ?_⟩
    obtain ⟨way, rfl, _⟩ := draw_at (n := 4) w0 w1 rfl
    refine ⟨_, rfl, _, rfl, _, _, rfl, rfl, _, rfl, ite2 (fun hm27 => ?_) (fun hm27 => ?_)⟩
    · refine ⟨b, 8, n + 1, rfl, B1, by omega, by decide, by decide, fun cut H2 c0 c1 B2 k2 => ?_⟩
      obtain ⟨cut, rfl, hcut⟩ := draw_at (n := 8) c0 c1 rfl
      refine ⟨_, rfl, b, 26, n + 2, rfl, B2, by omega, by decide, by decide, fun bg H3 g0 g1 B3 k3 => ?_⟩
      obtain ⟨bg, rfl, hbg⟩ := draw_at (n := 26) g0 g1 rfl
      refine ⟨(by show 3 ≤ sizeLine; decide), fun p hp => ⟨p, _, rfl, .of upd_same, rfl, _, _, rfl, _, _, rfl, _, _, rfl, rfl, ?_⟩⟩
      have hm' : (m : Int) < 27 := of_decide_eq_true hm27
      exact ql way cut bg _ (by omega) (by omega) hbg (box_new B3 hp) (((k1.trans k2).trans k3).trans (But.new hp))
    · refine ⟨b, 7, n + 1, rfl, B1, by omega, by decide, by decide, fun cut H2 c0 c1 B2 k2 => ?_⟩
      obtain ⟨cut, rfl, hcut⟩ := draw_at (n := 7) c0 c1 rfl
      refine ⟨_, rfl, b, 26, n + 2, rfl, B2, by omega, by decide, by decide, fun bg H3 g0 g1 B3 k3 => ?_⟩
      obtain ⟨bg, rfl, hbg⟩ := draw_at (n := 26) g0 g1 rfl
      refine ⟨(by show 3 ≤ sizeLine; decide), fun p hp => ⟨p, _, rfl, .of upd_same, rfl, _, _, rfl, _, _, rfl, _, _, rfl, rfl, ?_⟩⟩
      exact ql way cut bg _ (by omega) (by omega) hbg (box_new B3 hp) (((k1.trans k2).trans k3).trans (But.new hp))
end
end G
set_option Elab.async false
set_option linter.all false
set_option maxRecDepth 100000
set_option maxHeartbeats 2000000
/-! U1: a method that says super().__init__(..): its own activation is known while it runs. -/
namespace G
open PySem PySem.Spec PyProof.Rows L2 NdefX

/-- one statement, of a body whose activation is on top -/
structure PSa (X : Cx) (body : List Stmt) (st : Stmt) (t : TS) : Prop where
  run : ∀ (pins : List (Addr × Obj)) (s : Shared) (σ : L2.St) (H : Hp) (D : Ends), Inv X pins σ H s → t D σ H → _root_.PySem.wpAt (model X.prog X.w) X.A (.func body X.env) (exec st X.env) (SP X pins D) X.xe s
/-- .. several -/
structure PSsa (X : Cx) (body : List Stmt) (st : List Stmt) (t : TS) : Prop where
  run : ∀ (pins : List (Addr × Obj)) (s : Shared) (σ : L2.St) (H : Hp) (D : Ends), Inv X pins σ H s → t D σ H → _root_.PySem.wpAt (model X.prog X.w) X.A (.func body X.env) (execs st X.env) (SP X pins D) X.xe s
section
variable {X : Cx} {body rest : List Stmt} {st : Stmt} {t u : TS}
theorem psa (h : PS X st t) : PSa X body st t := ⟨fun pins s σ H D I q => wpAt_of_wpAny (h.run pins s σ H D I q)⟩
theorem pssa {sts : List Stmt} (h : PSs X sts t) : PSsa X body sts t := ⟨fun pins s σ H D I q => wpAt_of_wpAny (h.run pins s σ H D I q)⟩
theorem pssa_cons (h1 : PSa X body st t) (h2 : PSsa X body rest u) : PSsa X body (st :: rest) (tSeq t u) := by
  refine ⟨fun pins s σ H D I h => ks_wpAt_execs_cons (ks_wpAt_mono (h1.run pins s σ H { D with nx := u D } I h) (fun f s1 q => ?_) fun _ _ z => z)⟩
  cases f with
  | next =>
    obtain ⟨σ', H', I', q⟩ := q
    exact h2.run pins s1 σ' H' D I' q
  | ret v => exact q
  | brk => exact q
  | cont => exact q
end

/-- what of the text the words super().__init__ rest on, said in the def at f, of the class at D, to an instance of the class at C; f2: the __init__ found -/
structure SupOf (P : Program) (K : PySem.W.Frag) (f cda cc D C f2 : Addr) (x : Str) : Prop where
  fn : ∃ oc od fd sl ar, K.lookup f = some ⟨oc, od, .func fd, sl⟩ ∧ (fd.params.posonlyargs ++ fd.params.args).head? = some ar ∧ ar.arg = x
  code : ∃ oc od vs sl file tf, K.lookup cda = some ⟨oc, od, .fields vs, sl⟩ ∧ vs[2]? = some (.str file tf) ∧ ((P.main.file : Str) == file) = true
  cell : ∃ oc od sl, K.lookup cc = some ⟨oc, od, .cell (some (.ref D)), sl⟩
  isc : ∃ cd, PySem.W.clsIn K D = some cd
  isC : ∃ cd, PySem.W.clsIn K C = some cd
  sub : PySem.W.mroIn K C (.ref D) = some true
  thd : PySem.W.nsIn K cStatics "thirdparty.any" = some none
  sup : PySem.W.ks_superIn K C D "__init__" = some (some (.ref f2))
  ty : PySem.W.typeIn K (.ref f2) = some (.type "function")
  fi : PySem.W.fnIn K f2 = true
  top : (P.main.scope.names.lookup ("super" : Str)).isSome = false

/-- super().__init__(..), the instance in the slot i -/
def tSup (i : Nat) (C : Addr) (sp : Sp) (E : XK) (t : TA) : TS := fun D σ H => ∃ a dx fs, σ[i]? = some (some (.ref a)) ∧ H a = some (.ins C dx fs) ∧
  t σ H fun vs H1 => sp (.ref a :: vs) H1 (fun _ H2 => D.nx σ H2) E

section
variable {X : Cx} {CX : CXT} {k i : Nat} {f cda cc D C f2 : Addr} {x : Str} {sp : Sp} {E : XK} {body : List Stmt} {e : Expr} {es : List Expr} {t : TA} {p0 p1 apos pos spos : Pos} {pl : Sem Bool}
theorem cls_at {h : Heap} {K : PySem.W.Frag} {D : Addr} {cd : ClassData} (I : K.In h) (hD : PySem.W.clsIn K D = some cd) : ∃ o, h.get? D = some o ∧ o.data = .cls cd := by
  unfold PySem.W.clsIn at hD
  split at hD
  · rename_i c d cd' sl ho
    cases hD
    exact ⟨_, I _ _ ho, rfl⟩
  · cases hD
/-- the object super() -/
theorem super_base {pins : List (Addr × Obj)} {s : Shared} {σ : L2.St} {H : Hp} {whole : Sem Value} {a dx : Addr} {fs : List (Str × V)} {Q : Value → Shared → Prop}
    (I : Inv X pins σ H s) (S : SupOf X.prog X.K f cda cc D C f2 x) (hfu : X.env.func = some f) (hco : X.env.code = .ref cda) (hcl : X.env.cells.lookup ("__class__" : Str) = some cc)
    (hks : X.env.kindOf "super" = some .globalImplicit) (hkc : X.env.kindOf "__class__" = some .free) (hkx : X.env.kindOf x = some .local) (hm : X.mg "super" = none) (hN : X.N[i]? = some x)
    (hs : σ[i]? = some (some (.ref a))) (ha : H a = some (.ins C dx fs))
    (h : ∀ s', Inv X pins σ H s' → s'.heap.get? s.heap.objs.size = some { cls := .type "super", dict := none, data := .fields #[.ref D, .ref a, .ref C], slots := #[] } → Q (.ref s.heap.objs.size) s') :
    _root_.PySem.wpAt (model X.prog X.w) X.A (.func body X.env) (attributeBase (.Call (.Name "super" p0) [] [] p1) "__init__" X.env whole) Q X.xe s := by
  obtain ⟨oc, od, fd, sl, ar, lk, hp, hx⟩ := S.fn
  obtain ⟨oc2, od2, vs, sl2, file, tf, lk2, hv, hfile⟩ := S.code
  obtain ⟨oc3, od3, sl3, lk3⟩ := S.cell
  obtain ⟨cdD, hD⟩ := S.isc
  have inK := I.kIn
  obtain ⟨oD, hD1, hD2⟩ := cls_at inK hD
  obtain ⟨mb, b1, b2⟩ := I.mod.blt
  obtain ⟨m, hn, hl⟩ := I.loc
  obtain ⟨u, ru, hlook⟩ := hl i x _ hN hs (.inl hkx)
  obtain rfl : u = Value.ref a := ru
  have hmx : m x = some (.ref a) := by
    rcases hlook with ⟨_, z⟩ | ⟨z, _⟩
    · exact z
    · rw [hkx] at z
      rcases z with z | z <;> cases z
  have hob : s.heap.get? a = some (PySem.W.instObj C dx) := (show ObjOk X.prog X.w H s.heap a (.ins C dx fs) from I.hok a _ ha).2.2.2.1
  refine ks_wpAt_super_base hks hkc (by decide) hfu (inK _ _ lk) rfl hp hco (inK _ _ lk2) rfl hv hfile S.top ?_
  refine PySem.W.ks_loadName_global I.ok.kind hks (Calls.loadGlobal_builtin (by rw [I.ok.glob]; exact I.mod.glob.keeps I.bk) hm (by rw [I.ok.blt]; exact b1.keeps I.bk) ((b2 "super" (by decide)).trans (by first | rfl | decide +kernel)) ⟨rfl, ?_⟩)
  refine wpAny_loadName_free I.ok.kind hkc hcl ⟨_, inK _ _ lk3, rfl⟩ ?_
  rw [hx]
  refine wpAny_loadName_local I.ok.kind hkx hn hmx ?_
  obtain ⟨hh, g, d, tk, os⟩ := s
  refine ks_wpAny_isType_cls hD1 hD2 ⟨rfl, ?_⟩
  refine ks_wpAny_call_super hD1 hD2 hob rfl (fun c z => nomatch z) (PySem.W.looks_mroIn inK S.sub) fun h' e1 kp => ?_
  exact h _ (I.kept (t' := tk) kp) e1
/-- super().__init__(e, ..) -/
theorem psa_super (S : SupOf X.prog X.K f cda cc D C f2 x) (F : FnR X.prog X.w X.K X.mg X.base CX k f2 sp) (hr : Room k X.A) (hx : Passes CX X E) (hfu : X.env.func = some f) (hco : X.env.code = .ref cda) (hcl : X.env.cells.lookup ("__class__" : Str) = some cc)
    (hks : X.env.kindOf "super" = some .globalImplicit) (hkc : X.env.kindOf "__class__" = some .free) (hkx : X.env.kindOf x = some .local) (hm : X.mg "super" = none) (hN : X.N[i]? = some x) (ha : PA X (e :: es) t)
    (hst : starEach (e :: es) X.env = (false, eval e X.env) :: starEach es X.env := by rfl) (hpl : (backTo pos (starEach es X.env)).any (·.1) = false := by rfl)
    (ht : eval (.Call (.Attribute (.Call (.Name "super" p0) [] [] p1) "__init__" apos) (e :: es) [] pos) X.env = (do
      let ov ← attributeBase (.Call (.Name "super" p0) [] [] p1) "__init__" X.env (eval (.Call (.Name "super" p0) [] [] p1) X.env)
      standAt apos.atName
      let (f, first) ← holding [ov] (getMethod ov "__init__" pl)
      callWith pos f first (backTo pos (starEach (e :: es) X.env)) []) := by rfl)
    (hw : swapsWith (.Call (.Attribute (.Call (.Name "super" p0) [] [] p1) "__init__" apos) (e :: es) [] pos) none spos.line X.env = pure false := by rfl) :
    PSa X body (.Expr (.Call (.Attribute (.Call (.Name "super" p0) [] [] p1) "__init__" apos) (e :: es) [] pos) spos) (tSup i C sp E t) := by
  refine ⟨fun pins s σ H Dn I h => ?_⟩
  obtain ⟨a, dx, fs, h1, h2, q⟩ := h
  refine ks_wpAt_Expr_any (ks_wpAt_MethodCall (pl := pl) (super_base I S hfu hco hcl hks hkc hkx hm hN h1 h2 fun s1 I1 hso => ?_) ht) I.quiet hw
  obtain ⟨cdC, hC⟩ := S.isC
  have inK := I1.kIn
  have hob : s1.heap.get? a = some (PySem.W.instObj C dx) := (show ObjOk X.prog X.w H s1.heap a (.ins C dx fs) from I1.hok a _ h2).2.2.2.1
  obtain ⟨oC, hC1, hC2⟩ := cls_at inK hC
  have hne : a ≠ C := fun z => by
    rw [z, hC1] at hob
    rw [Option.some.inj hob] at hC2
    cases hC2
  obtain ⟨of, hof, hofc⟩ : ∃ of, s1.heap.get? f2 = some of ∧ of.cls = .type "function" := by
    have ht' : (X.K.lookup f2).map (·.cls) = some (.type "function") := S.ty
    cases z : X.K.lookup f2 with
    | none =>
      rw [z] at ht'
      cases ht'
    | some of =>
      rw [z] at ht'
      exact ⟨of, inK _ _ z, Option.some.inj ht'⟩
  have hsup := S.sup
  unfold PySem.W.ks_superIn at hsup
  rw [hC] at hsup
  obtain ⟨hh, g, d, tk, os⟩ := s1
  refine ks_wpAny_getMethod_super hso (PySem.W.looks_opaque inK S.thd) (l₀ := cdC.mro) ((PySem.W.looks_clsIn inK hC).andThen .now) rfl inK hsup hof hofc hne (by decide) ?_
  have I2 := ClX.met_new (g := f2) (C := a) I1
  refine ClX.callwith_cm I2 (ClX.base_none I1 (Nat.le_refl _)) S.fi (thn (ha.run pos _ _ σ H _ I2 q) fun us s3 ⟨vs, H3, I3, r3, q3⟩ => ⟨⟨ClX.pin_at I3, I3.kIn⟩, ?_⟩) hst hpl
  refine thn (ClX.run_cm F hr hx I3 r3 q3) fun _ _ y => ?_
  obtain ⟨v, H4, I4, _, q4⟩ := y
  exact ⟨σ, H4, I4, q4⟩
end

/-! ### the method -/
/-- THE RULE: a method that captures __class__ (it says super()), by its body -/
theorem fnx_of {CX : CXT} {P : Program} {w : World} {K : PySem.W.Frag} {mg : Str → Option Value} {base : Heap} {k : Nat} {f cda cc : Addr} {name qual : Str} {params : Arguments} {body : List Stmt} {scope : Scope} {dV kV doc pm ct oc : Value} {an od : Option Addr}
    {osl : Array (Option Value)} {N ps : List Str} {sp : Sp} (lk : K.lookup f = some ⟨oc, od, .func (PySem.W.ksFn name qual params body scope dV kV doc pm an (.ref cda) ct cc), osl⟩) (hcd : PySem.W.codeIn K (.ref cda) qual = true)
    (hcell : ∃ oc od sl v, K.lookup cc = some ⟨oc, od, .cell v, sl⟩) (S : NScope N ps ["__class__"] scope) (len : ∀ vs H Q E, sp vs H Q E → vs.length = ps.length)
    (hbody : ∀ (A : Around) (outer : List Env) (s : Shared) (H : Hp) (vs : List V) (Q : VK) (E : XK), Room k (A.deeper (envF ⟨name, qual, params, body, scope, [("__class__", cc)], cda⟩ f s.heap.objs.size)) → sp vs H Q E →
      ∃ t, PSsa (ncx CX P w K mg base N ⟨name, qual, params, body, scope, [("__class__", cc)], cda⟩ f A outer s H E) body body t ∧ t { nx := fun _ H' => Q .non H', rt := Q } (startF N vs [none]) H) :
    FnOk P w K mg base CX (k + 1) f (PySem.W.ksFn name qual params body scope dV kV doc pm an (.ref cda) ct cc) ps sp := by
  refine ⟨len, fun A outer s H args us vs Q E hr e0 hb r hsp => ?_⟩
  have hl := len _ _ _ _ hsp
  have inK : K.In s.heap := e0.mod.kin.keeps fun b o e => (e0.bs b o e).1
  have lim : s.heap.NoLimit := e0.mod.nolimit.keeps fun b o e => (e0.bs b o e).1
  obtain ⟨oc3, od3, sl3, v3, lk3⟩ := hcell
  have C : CellsAt [(("__class__" : Str), cc)] ["__class__"] [none] s.heap H := by
    have one : ∀ {y : Str} {c : Addr}, List.lookup y [(("__class__" : Str), cc)] = some c → y = "__class__" ∧ c = cc := fun {y c} z => by
      have z2 := PySem.mem_of_lookup z
      rw [List.mem_singleton] at z2
      exact ⟨congrArg Prod.fst z2, congrArg Prod.snd z2⟩
    refine ⟨rfl, fun y c z => ?_, fun y y' c z z' => (one z).1.trans (one z').1.symm, fun i y z => ?_⟩
    · obtain ⟨_, rfl⟩ := one z
      exact ⟨(e0.bs _ _ (e0.mod.kin _ _ lk3)).2, v3, _, inK _ _ lk3, rfl⟩
    · have hy : y = "__class__" := by
        have z2 := List.mem_of_getElem? z
        rw [List.mem_singleton] at z2
        exact z2
      subst hy
      refine ⟨cc, by simp [List.lookup], fun v z => ?_⟩
      cases i with
      | zero => cases z
      | succ j => cases z
  refine codeAny_call_function hr.depth (inK _ _ lk) rfl S.co S.gen rfl (PySem.W.codeRec_of inK hcd) (hb _ _ _ _ ?_)
  refine wpAny_newFunctionEnv S.nocell (fun ⟨n, _⟩ hy => S.par n (List.of_mem_zip hy).1) (fun h₁ hns hsb => ⟨lim.fresh _ hsb, ?_⟩) S.kind
  show codeAny _ _ (.func body (envF ⟨name, qual, params, body, scope, [("__class__", cc)], cda⟩ f s.heap.objs.size)) _ _
  refine ks_codeAny_funcAt ?_
  have kp : ∀ b o, s.heap.get? b = some o → h₁.get? b = some o := fun b o e => hsb.extBut b o (Nat.ne_of_lt (Heap.lt_size e)) (Heap.get?_push_of_some _ e)
  obtain ⟨t, ht, hq⟩ := hbody A outer s H vs Q E (hr.deeper _) hsp
  have I : Inv (ncx CX P w K mg base N ⟨name, qual, params, body, scope, [("__class__", cc)], cda⟩ f A outer s H E) [] (startF N vs [none]) H { s with heap := h₁, toks := s.toks + (ps.zip us).length } := inv_startN S hr.hd e0 hl r C hns kp
  refine ks_wpAt_mono (ht.run [] _ (startF N vs [none]) H _ I hq) (fun fl s' hs => ?_) fun e s' hs => hs
  have fin : ∀ {σ' : L2.St} {H' : Hp} {v : V} {u : Value}, Inv (ncx CX P w K mg base N ⟨name, qual, params, body, scope, [("__class__", cc)], cda⟩ f A outer s H E) [] σ' H' s' → L2.RelV v u → Q v H' → CE outer P w H s Q u s' :=
    fun {σ' H' v u} J rv q => ⟨v, H', J.os, J.bare, J.base, J.hok, rv, q⟩
  cases fl with
  | ret u =>
    obtain ⟨v, σ', H', J, rv, q⟩ := hs
    exact fin J rv q
  | next =>
    obtain ⟨σ', H', J, q⟩ := hs
    exact fin (v := V.non) (u := Value.none) J rfl q
  | brk =>
    obtain ⟨_, _, _, q⟩ := hs
    exact False.elim q
  | cont =>
    obtain ⟨_, _, _, q⟩ := hs
    exact False.elim q
end G
set_option Elab.async false
set_option linter.all false
set_option maxRecDepth 100000
set_option maxHeartbeats 2000000
/-! P0: isinstance by the kind of a thing. -/
namespace G
open PySem PySem.Spec PyProof.Rows L2
def isI : PyData → Bool
  | .int _ => true
  | .bool _ => true
  | _ => false
def isB : PyData → Bool
  | .bool _ => true
  | _ => false
def isTup : PyData → Bool
  | .tuple _ => true
  | _ => false
def isLst : PyData → Bool
  | .list _ => true
  | _ => false
def isDic : PyData → Bool
  | .dict _ => true
  | _ => false
theorem kit_i {K : PySem.W.Frag} : ∀ d : PyData, PySem.W.kitOne K (.type (tyN d)) (.type "int") = some (isI d)
  | .none => kit_ty (a := "NoneType") (b := "int") (r := false) (by decide +kernel)
  | .bool _ => kit_ty (a := "bool") (b := "int") (r := true) (by decide +kernel)
  | .int _ => kit_ty (a := "int") (b := "int") (r := true) (by decide +kernel)
  | .str _ => kit_ty (a := "str") (b := "int") (r := false) (by decide +kernel)
  | .list _ => kit_ty (a := "list") (b := "int") (r := false) (by decide +kernel)
  | .tuple _ => kit_ty (a := "tuple") (b := "int") (r := false) (by decide +kernel)
  | .dict _ => kit_ty (a := "dict") (b := "int") (r := false) (by decide +kernel)
theorem kit_b {K : PySem.W.Frag} : ∀ d : PyData, PySem.W.kitOne K (.type (tyN d)) (.type "bool") = some (isB d)
  | .none => kit_ty (a := "NoneType") (b := "bool") (r := false) (by decide +kernel)
  | .bool _ => kit_ty (a := "bool") (b := "bool") (r := true) (by decide +kernel)
  | .int _ => kit_ty (a := "int") (b := "bool") (r := false) (by decide +kernel)
  | .str _ => kit_ty (a := "str") (b := "bool") (r := false) (by decide +kernel)
  | .list _ => kit_ty (a := "list") (b := "bool") (r := false) (by decide +kernel)
  | .tuple _ => kit_ty (a := "tuple") (b := "bool") (r := false) (by decide +kernel)
  | .dict _ => kit_ty (a := "dict") (b := "bool") (r := false) (by decide +kernel)
theorem kit_t {K : PySem.W.Frag} : ∀ d : PyData, PySem.W.kitOne K (.type (tyN d)) (.type "tuple") = some (isTup d)
  | .none => kit_ty (a := "NoneType") (b := "tuple") (r := false) (by decide +kernel)
  | .bool _ => kit_ty (a := "bool") (b := "tuple") (r := false) (by decide +kernel)
  | .int _ => kit_ty (a := "int") (b := "tuple") (r := false) (by decide +kernel)
  | .str _ => kit_ty (a := "str") (b := "tuple") (r := false) (by decide +kernel)
  | .list _ => kit_ty (a := "list") (b := "tuple") (r := false) (by decide +kernel)
  | .tuple _ => kit_ty (a := "tuple") (b := "tuple") (r := true) (by decide +kernel)
  | .dict _ => kit_ty (a := "dict") (b := "tuple") (r := false) (by decide +kernel)
theorem kit_l {K : PySem.W.Frag} : ∀ d : PyData, PySem.W.kitOne K (.type (tyN d)) (.type "list") = some (isLst d)
  | .none => kit_ty (a := "NoneType") (b := "list") (r := false) (by decide +kernel)
  | .bool _ => kit_ty (a := "bool") (b := "list") (r := false) (by decide +kernel)
  | .int _ => kit_ty (a := "int") (b := "list") (r := false) (by decide +kernel)
  | .str _ => kit_ty (a := "str") (b := "list") (r := false) (by decide +kernel)
  | .list _ => kit_ty (a := "list") (b := "list") (r := true) (by decide +kernel)
  | .tuple _ => kit_ty (a := "tuple") (b := "list") (r := false) (by decide +kernel)
  | .dict _ => kit_ty (a := "dict") (b := "list") (r := false) (by decide +kernel)
theorem kit_d {K : PySem.W.Frag} : ∀ d : PyData, PySem.W.kitOne K (.type (tyN d)) (.type "dict") = some (isDic d)
  | .none => kit_ty (a := "NoneType") (b := "dict") (r := false) (by decide +kernel)
  | .bool _ => kit_ty (a := "bool") (b := "dict") (r := false) (by decide +kernel)
  | .int _ => kit_ty (a := "int") (b := "dict") (r := false) (by decide +kernel)
  | .str _ => kit_ty (a := "str") (b := "dict") (r := false) (by decide +kernel)
  | .list _ => kit_ty (a := "list") (b := "dict") (r := false) (by decide +kernel)
  | .tuple _ => kit_ty (a := "tuple") (b := "dict") (r := false) (by decide +kernel)
  | .dict _ => kit_ty (a := "dict") (b := "dict") (r := true) (by decide +kernel)
def isS : PyData → Bool
  | .str _ => true
  | _ => false
theorem kit_s {K : PySem.W.Frag} : ∀ d : PyData, PySem.W.kitOne K (.type (tyN d)) (.type "str") = some (isS d)
  | .none => kit_ty (a := "NoneType") (b := "str") (r := false) (by decide +kernel)
  | .bool _ => kit_ty (a := "bool") (b := "str") (r := false) (by decide +kernel)
  | .int _ => kit_ty (a := "int") (b := "str") (r := false) (by decide +kernel)
  | .str _ => kit_ty (a := "str") (b := "str") (r := true) (by decide +kernel)
  | .list _ => kit_ty (a := "list") (b := "str") (r := false) (by decide +kernel)
  | .tuple _ => kit_ty (a := "tuple") (b := "str") (r := false) (by decide +kernel)
  | .dict _ => kit_ty (a := "dict") (b := "str") (r := false) (by decide +kernel)
/-- isinstance(x, int), by name -/
theorem pt_isi {X : Cx} {y : Str} {py : Pos} {te : TE} {n : Str} {p q pos : Pos} (T : String) (he : PE X (.Name y py) te) (hg : Gl X "isinstance" := by rfl) (hm : X.mg "isinstance" = none) (gn : Gl X n := by rfl) (mn : X.mg n = none) (hv : bootBuiltins n = some (.type T) := by decide +kernel)
    (hn : n ≠ "__name__" := by decide) (hd : (n == ("__debug__" : Str)) = false := by decide) :
    PE X (.Call (.Name "isinstance" p) [.Name y py, .Name n q] [] pos) (tCB (rIsi X.K) (tCons te (tCons (tC (.ty T)) tNil))) :=
  pe_callB call_isi hg hm (by decide +kernel) (pa_cons he (pa_cons (pe_bltn gn mn hv rfl hn hd) pa_nil))

end G
set_option Elab.async false
set_option linter.all false
set_option maxRecDepth 100000
set_option maxHeartbeats 2000000
/-! W1: checks that pass. -/
namespace G
open PySem PySem.Spec PyProof.Rows L2 NdefX
abbrev sIsInt : Stmt := topS 11
abbrev sIsName : Stmt := topS 12
theorem scIsInt : FnScope ["value", "low", "high"] ["value", "low", "high"] (defScope sIsInt) := ⟨rfl, rfl, rfl, by decide +kernel, rfl, by decide +kernel, by decide +kernel⟩
theorem scIsName : FnScope ["value", "letter"] ["value"] (defScope sIsName) := ⟨rfl, rfl, rfl, by decide +kernel, rfl, by decide +kernel, by decide +kernel⟩
def spIsInt : Sp := fun vs H Q _ => ∃ v lo hi : Int, vs = [.int v, .int lo, .int hi] ∧ Q (.bl (decide (lo ≤ v) && decide (v ≤ hi))) H
def spIsName : Sp := fun vs H Q _ => ∃ z : Str, vs = [.str z] ∧ NameZ z ∧ ∀ H', Same H H' → Q (.bl true) H'
section
variable {P : Program} {w : World} {K : PySem.W.Frag} {mg : Str → Option Value} {base : Heap}
theorem ok_isint {f : Addr} {fd : FuncData} (F : Fun K "is_integer" "is_integer" sIsInt f fd) (mi : mg "isinstance" = none) (mn : mg "int" = none) (mb : mg "bool" = none) : FnOk P w K mg base CX0 1 f fd ["value", "low", "high"] spIsInt := by
  refine F.ok scIsInt (fun vs H Q E h => ?_) (fun cdv A outer s H vs Q E hr h => ?_)
  · obtain ⟨v, lo, hi, rfl, _⟩ := h
    rfl
  · obtain ⟨v, lo, hi, rfl, q⟩ := h
    refine ⟨_, pss_cons (ps_if (PW.pt (pw_or (pt_not (pt_val (pt_isi "int" (pv 0) (hm := mi) (mn := mn)))) (pw_or1 (pt_val (pt_isi "bool" (pv 0) (hm := mi) (mn := mb)))))) (pss_one (ps_ret pe_bl)) pss_nil)
      (pss_one (ps_ret (pe_chain op_le op_le (pv 1) (pv 0) (pv 2)))), ?_⟩
    have hR : Rp K H (.int v) (.int v) := .int v
    refine ⟨_, rfl, _, _, _, _, _, rfl, .ty _, rp_ty hR, kit_i (.int v), _, rfl, iteF ?_⟩
    refine ⟨_, rfl, _, _, _, _, _, rfl, .ty _, rp_ty hR, kit_b (.int v), _, rfl, iteF ?_⟩
    refine ⟨_, rfl, _, rfl, _, _, rfl, rfl, _, rfl, ?_⟩
    cases e : decide (lo ≤ v) with
    | false =>
      refine iteF ?_
      rw [e] at q
      exact q
    | true =>
      refine iteT ?_
      rw [e] at q
      exact ⟨_, rfl, _, _, rfl, rfl, q⟩
theorem ok_isname {f : Addr} {fd : FuncData} {t1 t2 : Tok} (F : Fun K "is_name" "is_name" sIsName f fd) (gM : mg "MOST_LETTERS" = some (.int 8 t1)) (gL : mg "LETTERS" = some (.str abc t2)) (mi : mg "isinstance" = none) (ms : mg "str" = none) (ml : mg "len" = none) (ma : mg "all" = none) :
    FnOk P w K mg base CX0 1 f fd ["value"] spIsName := by
  refine F.ok scIsName (fun vs H Q E h => ?_) (fun cdv A outer s H vs Q E hr h => ?_)
  · obtain ⟨z, rfl, _⟩ := h
    rfl
  · obtain ⟨z, rfl, ⟨hz, h1, h8⟩, q⟩ := h
    refine ⟨_, pss_cons (ps_if (PW.pt (pw_or (pt_not (pt_val (pt_isi "str" (pv 0) (hm := mi) (mn := ms)))) (pw_or1 (pt_not (pt_chain op_le op_le pe_int (pe_callB call_len_str (by rfl) ml PySem.boot_len (pa_cons (pv 0) pa_nil)) (pe_glob (v := .int 8) rfl gM ⟨_, rfl⟩))))))
        (pss_one (ps_ret pe_bl)) pss_nil)
      (pss_one (ps_ret (pe_callB (cr_all rfl) (by rfl) ma (by decide +kernel) (pa_cons (pe_lc (own := [("letter", 1)]) (g := gName 1) (tt := tYes) (by rfl) scIsName.nd (pi_str (pv 0))
        (blkOk_by (own := [("letter", 1)]) (N := ["value", "letter"]) (sc := defScope sIsName) (by decide +kernel)) (fun _ _ _ _ _ => pg_name (i := 1) scIsName.nd rfl (.inl rfl)) (fun _ _ _ _ _ => pts_nil)
        (fun _ _ _ _ _ => pe_cmpR op_in_sign (pv 1) (pe_glob (v := .str abc) rfl gL ⟨_, rfl⟩) (by rfl))) pa_nil)))), ?_⟩
    have hR : Rp K H (.str z) (.str z) := .str z
    refine ⟨_, rfl, _, _, _, _, _, rfl, .ty _, rp_ty hR, kit_s (.str z), _, rfl, iteF ?_⟩
    refine ⟨_, rfl, z, rfl, small_size (by omega), _, _, rfl, rfl, _, rfl, ?_⟩
    rw [decide_eq_true (show (1 : Int) ≤ (z.length : Int) by omega)]
    refine iteT ⟨_, _, rfl, rfl, _, rfl, ?_⟩
    rw [decide_eq_true (show (z.length : Int) ≤ 8 by omega)]
    refine iteF ?_
    refine ⟨_, rfl, z, rfl, fun D hD => ?_⟩
    refine lc_it walk_str (fun i H2 => Same H H2 ∧ H2 D = some (.lst ((List.replicate i true).map V.bl))) ?_ ?_ ?_ ?_
    · exact ⟨Same.new hD, upd_same⟩
    · exact fun _ _ _ _ => trivial
    · rintro i x H2 H3 hi ⟨s2, e2⟩ ⟨rfl, c, hc, rfl⟩
      have hc2 : (cs z)[i]? = some c := by
        rw [← hc, ← Array.getElem?_toList]
      have hzs : z.cps.size = z.length := rfl
      have c97 := hz c (List.mem_of_getElem? hc2)
      refine ⟨rfl, ?_⟩
      unfold tYes
      dsimp only
      rw [if_pos rfl]
      refine ⟨_, rfl, c, _, rfl, rfl, _, e2, ?_, fun a o e => ?_, ?_⟩
      · rw [List.length_map, List.length_replicate]
        exact Nat.lt_of_lt_of_le hi (small_size (by omega))
      · rw [upd_ne (ne_of_none e hD)]
        exact s2 _ _ e
      · have hin : decide (c ∈ abc.cps.toList) = true := decide_eq_true (by
          have e : abc.cps.toList = (List.range 26).map (97 + ·) := by decide +kernel
          rw [e]
          exact List.mem_map.mpr ⟨c - 97, List.mem_range.mpr (by omega), by omega⟩)
        rw [upd_same, hin, List.replicate_succ', List.map_append]
        rfl
    · rintro H2 ⟨s2, e2⟩
      refine ⟨D, _, rfl, .of e2, ?_⟩
      have ha : (List.replicate z.cps.size true).all id = true := by
        rw [List.all_eq_true]
        intro x hx
        rw [(List.mem_replicate.mp hx).2]
        rfl
      rw [ha]
      exact q H2 s2
end
end G
set_option Elab.async false
set_option linter.all false
set_option maxRecDepth 100000
set_option maxHeartbeats 2000000
/-! Q1: == and != by an own __eq__ with both answers, the right side of any kind. -/
namespace G
open PySem PySem.Spec PyProof.Rows L2
open Builtin in
theorem entry_ne {prog : Program} {w : World} {A : Around} {E : Value → Shared → Prop} {s : Shared} {K : PySem.W.Frag} {x C f : Addr} {ox : Obj} {od : Option Obj} {b : Value} {Q : Fin → Shared → Prop}
    (X : K.In s.heap) (I : PySem.W.InstAt s.heap x ox C od) (hu : A.units < cLine) (hs : PySem.W.findIn K (.ref C) "__eq__" = some (some (.ref f))) (hf : PySem.W.isFn K (.ref f) = true)
    (hcall : wpAny (model prog w) A (call (.ref f) [.ref x, b]) (fun v s' => ∃ k, v = .bool k ∧ Q (.done (.ret (.bool (!k)))) s') E s) :
    wpAny (model prog w) A (Builtin.«object.__ne__» ⟨[.ref x, b], []⟩) Q E s := by
  unfold Builtin.«object.__ne__»
  repeat (first
    | with_reducible refine wpAny_cRoomFor hu ?_
    | (refine wpAny_bind (m := callSpecialIfBound? (.ref x) (Str.ofString "__eq__") [b])
        (PySem.W.ifBound_K X I hs hf (wpAny_mono hcall (fun r s' hr => by
          obtain ⟨k, rfl, hq⟩ := hr
          repeat (first | exact hq | exact wpAny_pure hq | exact wpAny_truthy_bool hq | (refine wpAny_bind (m := truthy (.bool _)) (wpAny_truthy_bool ?_)) | wp_step)) fun _ _ e => e)))
    | wp_step)
/-- what == and != ask of the class at C -/
structure EqO (K : PySem.W.Frag) (C f : Addr) : Prop where
  eq : PySem.W.findIn K (.ref C) "__eq__" = some (some (.ref f))
  fn : PySem.W.isFn K (.ref f) = true
  ne : PySem.W.findIn K (.ref C) "__ne__" = some (some (.builtin "object.__ne__"))
  ob : PySem.W.mroIn K C (.type "object") = some true
theorem ne_K {prog : Program} {w : World} {A : Around} {E : Value → Shared → Prop} {s : Shared} {K : PySem.W.Frag} {x C L f : Addr} {h₀ : Heap} {m : Str → Option Value} {ox : Obj} {od : Option Obj} {b tb : Value} {Q : Value → Shared → Prop} (hu : A.units + 1 < cLine) (hFr : Fr h₀ L s.heap m) (X₀ : K.In h₀)
    (I : PySem.W.InstAt s.heap x ox C od) (hb : PySem.W.Looks (model prog w) s.heap (typeOf b) tb) (hn : PySem.W.notFirst K C tb = true) (e : EqO K C f)
    (h : wpAny (model prog w) A.in1 (call (.ref f) [.ref x, b]) (fun v s' => ∃ k, v = .bool k ∧ Q (.bool (!k)) s') E s) : wpAny (model prog w) A (richCompare .NotEq (.ref x) b) Q E s := by
  have X := X₀.keeps hFr.keep
  have sp : PySem.W.Looks (model prog w) s.heap (specialOf (.ref x) "__ne__") (some (.builtin "object.__ne__")) := I.type.andThen (PySem.W.looks_findIn X e.ne)
  have iv : PySem.W.Looks (model prog w) s.heap (isInstance (.ref x) (.type "object")) true := I.type.andThen (PySem.W.looks_mroIn X e.ob)
  have one : wpAny (model prog w) A (tryCompare (.ref x) "__ne__" b) (fun r s' => ∃ v, r = some v ∧ Q v s') E s := by
    unfold tryCompare
    refine wpAny_bind (NtL.csib sp (F.cmp_object.ne.bind _) (wpAny_call (codeAny_call_builtin F.cmp_object.ne.plain F.cmpEntry_ne
      (PySem.W.check_slot F.cmpKind_ne F.cmpSplit_ne iv (F.cmpArgs_ne _ _) (entry_ne (A := A.in1) X I hu e.eq e.fn (wpAny_mono h (fun v s' hv => ?_) fun _ _ z => z))))))
    obtain ⟨k, rfl, hq⟩ := hv
    first | exact ⟨k, rfl, wpAny_pure ⟨_, rfl, hq⟩⟩ | exact ⟨k, rfl, _, rfl, hq⟩
  unfold richCompare
  simp only [oneThing_ref]
  refine wpAny_holding (wpAny_bind (wpAny_cRoomFor (Nat.lt_of_succ_lt hu) ?_))
  rw [cmpInfo_NotEq]
  dsimp only
  refine wpAny_bind (I.type.here (wpAny_bind (hb.here ?_)))
  split
  · rename_i q
    have e : PySem.W.subIn K tb (.ref C) = some false := by
      rcases Bool.or_eq_true_iff.mp hn with e | e
      · rw [beq_iff_eq.mp e] at q; simp at q
      · exact beq_iff_eq.mp e
    refine wpAny_bind ((PySem.W.looks_subIn X e).here ?_)
    simp only [Bool.false_eq_true, if_false]
    refine wpAny_bind (wpAny_mono one (fun r s' z => ?_) fun _ _ e => e)
    obtain ⟨v, rfl, hq⟩ := z
    exact wpAny_pure hq
  · refine wpAny_bind (wpAny_pure ?_)
    simp only [Bool.false_eq_true, if_false]
    refine wpAny_bind (wpAny_mono one (fun r s' z => ?_) fun _ _ e => e)
    obtain ⟨v, rfl, hq⟩ := z
    exact wpAny_pure hq
/-- the kinds of things on the right -/
inductive Oth (H : Hp) : V → Value → Prop where
  | non : Oth H .non (.type "NoneType")
  | int (i : Int) : Oth H (.int i) (.type "int")
  | str (z : Str) : Oth H (.str z) (.type "str")
  | lst {a : Addr} {xs : List V} (e : H a = some (.lst xs)) : Oth H (.ref a) (.type "list")
  | tup {a : Addr} {xs : List V} (e : H a = some (.tup xs)) : Oth H (.ref a) (.type "tuple")
  | ins {a C dx : Addr} {fs : List (Str × V)} (e : H a = some (.ins C dx fs)) : Oth H (.ref a) (.ref C)
  | dic {a : Addr} {ks : List (Key × V)} (e : H a = some (.dK ks)) : Oth H (.ref a) (.type "dict")
theorem insX_at {X : Cx} {pins : List (Addr × Obj)} {σ : L2.St} {H : Hp} {s : Shared} {a C dx : Addr} {fs : List (Str × V)} (I : Inv X pins σ H s) (h : H a = some (.ins C dx fs)) : ∃ ox od, PySem.W.InstAt s.heap a ox C od := by
  obtain ⟨mA, O, _⟩ := ins_get I.hok h
  obtain ⟨od, J, _⟩ := O.look
  exact ⟨_, _, J⟩
theorem oth_looks {X : Cx} {pins : List (Addr × Obj)} {σ : L2.St} {H : Hp} {s : Shared} {x : V} {u t : Value} (I : Inv X pins σ H s) (rx : RelV x u) (o : Oth H x t) (M : Model) : PySem.W.Looks M s.heap (typeOf u) t := by
  cases o with
  | non => cases (show u = Value.none from rx); exact .of_pure rfl
  | int i => obtain ⟨t, q⟩ := (show ∃ t, u = Value.int i t from rx); cases q; exact .of_pure rfl
  | str y => obtain ⟨t, q⟩ := (show ∃ t, u = Value.str y t from rx); cases q; exact .of_pure rfl
  | @lst a xs ea =>
    cases (show u = Value.ref a from rx)
    obtain ⟨_, _, n, _, h1⟩ := (show ObjOk X.prog X.w H s.heap a (.lst xs) from I.hok a _ ea)
    exact (PySem.W.Looks.ld h1).andThen .now
  | @tup a xs ea =>
    cases (show u = Value.ref a from rx)
    obtain ⟨_, _, _, o, h1, h2, _⟩ := (show ObjOk X.prog X.w H s.heap a (.tup xs) from I.hok a _ ea)
    rw [← h2]
    exact (PySem.W.Looks.ld h1).andThen .now
  | @ins a C dx fs ea =>
    cases (show u = Value.ref a from rx)
    obtain ⟨ox, od, J⟩ := insX_at I ea
    exact J.type
  | @dic a ks ea =>
    cases (show u = Value.ref a from rx)
    obtain ⟨_, _, _, _, o, _, _, h1, h2, _⟩ := (show ObjOk X.prog X.w H s.heap a (.dK ks) from I.hok a _ ea)
    rw [← h2.1]
    exact (PySem.W.Looks.ld h1).andThen .now
section
variable {X : Cx} {C g : Addr} {fd : FuncData} {ps : List Str} {n : Nat} {sp : Sp} {E : XK}
def rEqB (K : PySem.W.Frag) (C : Addr) (sp : Sp) (E : XK) (pos : Bool) : R2 := fun x y H Q => ∃ a dx fs t, x = .ref a ∧ H a = some (.ins C dx fs) ∧ Oth H y t ∧ PySem.W.notFirst K C t = true ∧ sp [x, y] H (fun v H' => ∃ k : Bool, v = .bl k ∧ Q (.bl (cond pos k (!k))) H') E
theorem op_eqB (e : EqO X.K C g) (hb : Binds X.K fd ps []) (F : FnOk X.prog X.w X.K X.mg X.base CX0 n g fd ps sp) (hr : Room n X.A) (hx : Passes CX0 X E) : OpR X (compareOp .Eq) (rEqB X.K C sp E true) := by
  intro pins s σ H x y v u Q I rx ry h
  obtain ⟨a, dx, fs, t, rfl, ha, ho, hn, q⟩ := h
  cases (show v = Value.ref a from rx)
  obtain ⟨ox, od, J⟩ := insX_at I ha
  obtain ⟨m, hF⟩ := I.fr
  refine PySem.W.cmp_K (op := .Eq) hr.units0 hF I.ok.mod.kin J (oth_looks I ry ho _) hn e.eq e.fn ?_
  refine wpAny_mono (run_fn (us := [.ref a, u]) (vs := [.ref a, y]) F hr hb .nil hx I (.cons rfl (.cons ry .nil)) q) (fun w s' z => ?_) fun _ _ x => x
  obtain ⟨z', H', I', rz, k, rfl, qz⟩ := z
  exact SlX.cmpback rz ⟨.bl k, H', I', rz, qz⟩
theorem op_neB (e : EqO X.K C g) (hb : Binds X.K fd ps []) (F : FnOk X.prog X.w X.K X.mg X.base CX0 n g fd ps sp) (hr : Room (n + 1) X.A) : OpR X (compareOp .NotEq) (rEqB X.K C sp E false) := by
  intro pins s σ H x y v u Q I rx ry h
  obtain ⟨a, dx, fs, t, rfl, ha, ho, hn, q⟩ := h
  cases (show v = Value.ref a from rx)
  obtain ⟨ox, od, J⟩ := insX_at I ha
  obtain ⟨m, hF⟩ := I.fr
  refine ne_K (by have := hr.units; omega) hF I.ok.mod.kin J (oth_looks I ry ho _) hn e ?_
  have hl : ([Value.ref a, u] ++ []).length = ps.length := by
    have := F.len _ _ _ _ q
    exact this
  refine wpAny_call (codeAny_mono (F.run X.A.in1 X.stack s H ⟨[.ref a, u], []⟩ ([.ref a, u] ++ []) [.ref a, y] _ E hr.in1 I.env0.in1 (hb s [.ref a, u] I.kIn hl) (.cons rfl (.cons ry .nil)) q) fun r s' hq => ?_)
  cases r with
  | error e => exact False.elim hq
  | ok fl =>
    cases fl with
    | ret u =>
      obtain ⟨v, H', I2, rv, k, rfl, q⟩ := I.after hq
      obtain rfl : u = Value.bool k := rv
      exact ⟨k, rfl, .bl (!k), H', I2, rfl, q⟩
    | next => exact False.elim hq
    | brk => exact False.elim hq
    | cont => exact False.elim hq
end
end G
set_option Elab.async false
set_option linter.all false
set_option maxRecDepth 100000
set_option maxHeartbeats 2000000
/-! R1: methods, calls and operators of an instance whose class is not known ahead; super().__init__(*xs). -/
namespace G
open PySem PySem.Spec PyProof.Rows L2 NdefX StX

/-- the class at C keeps the promise sp for its method m -/
structure PolyM (P : Program) (w : World) (K : PySem.W.Frag) (mg : Str → Option Value) (base : Heap) (k : Nat) (C : Addr) (m : Str) (sp : Sp) : Prop where
  cl : Cls K C
  ex : ∃ (f : Addr) (fd : FuncData) (ps : List Str), Meth K C m f ∧ Binds K fd ps [] ∧ FnOk P w K mg base CX0 k f fd ps sp
/-- .. for the calls of its instances -/
structure PolyC (P : Program) (w : World) (K : PySem.W.Frag) (mg : Str → Option Value) (base : Heap) (k : Nat) (C : Addr) (sp : Sp) : Prop where
  ex : ∃ (f : Addr) (fd : FuncData) (ps : List Str), CallO K C f ∧ Binds K fd ps [] ∧ FnOk P w K mg base CX0 k f fd ps sp

/-- o.m(e, ..), o an instance of some class that keeps sp -/
def tMethV (X : Cx) (k : Nat) (m : Str) (E : XK) (ta : TE) (t : TA) : TE := fun σ H Q => ta σ H fun x H1 => ∃ (a C dx : Addr) (fs : List (Str × V)) (sp : Sp), x = .ref a ∧ H1 a = some (.ins C dx fs) ∧ PolyM X.prog X.w X.K X.mg X.base k C m sp ∧ fs.lookup m = none ∧ t σ H1 fun vs H2 => sp (.ref a :: vs) H2 Q E
/-- o(e, ..) -/
def tCallV (X : Cx) (k : Nat) (E : XK) (ta : TE) (t : TA) : TE := fun σ H Q => ta σ H fun x H1 => ∃ (a C : Addr) (sp : Sp), x = .ref a ∧ PolyC X.prog X.w X.K X.mg X.base k C sp ∧ t σ H1 fun vs H2 => InsC X H2 a C ∧ sp (.ref a :: vs) H2 Q E
section
variable {X : Cx} {k : Nat} {E : XK} {m : Str} {pos apos : Pos} {e o fe : Expr} {es : List Expr} {ta : TE} {t : TA}
theorem pe_methV {pl : Sem Bool} (he : PE X o ta) (hr : Room k X.A) (hx : Passes CX0 X E) (ha : PA X (e :: es) t)
    (hst : starEach (e :: es) X.env = (false, eval e X.env) :: starEach es X.env := by rfl) (hpl : (backTo pos (starEach es X.env)).any (·.1) = false := by rfl)
    (ht : eval (.Call (.Attribute o m apos) (e :: es) [] pos) X.env = (eval o X.env >>= fun ov => standAt apos.atName >>= fun _ => holding [ov] (getMethod ov m pl) >>= fun q => callWith pos q.1 q.2 (backTo pos (starEach (e :: es) X.env)) (backToKw pos (keywordEach [] X.env))) := by rfl) :
    PE X (.Call (.Attribute o m apos) (e :: es) [] pos) (tMethV X k m E ta t) := by
  refine ⟨fun pins s σ H Q I h => ?_⟩
  refine PySem.W.methodCall_KW (pl := pl) (thn (he.run pins s σ H _ I h) fun u s1 ⟨x, H1, I1, rx, a, C, dx, fs, sp, ex, ea, pm, l, q⟩ => ?_) ht
  subst ex
  obtain rfl : u = Value.ref a := rx
  obtain ⟨f, fd, ps, hm, hb, F⟩ := pm.ex
  refine getmeth_ok I1 ea pm.cl hm l ?_
  refine PySem.W.callWith_K (h₀ := X.base) (first := [.ref a]) I.ok.mod.kin hm.kp (thn (ha.run pos pins s1 σ H1 _ I1 q) fun us s2 ⟨vs, H2, I2, r, q2⟩ => ⟨I2.kIn, ?_⟩) hst hpl
  exact run_fn (us := .ref a :: us) (vs := .ref a :: vs) F hr hb .nil hx I2 (.cons rfl r) (by rw [List.append_nil]; exact q2)
theorem pe_methV0 {pl : Sem Bool} (he : PE X o ta) (hr : Room k X.A) (hx : Passes CX0 X E)
    (ht : eval (.Call (.Attribute o m apos) [] [] pos) X.env = (eval o X.env >>= fun ov => standAt apos.atName >>= fun _ => holding [ov] (getMethod ov m pl) >>= fun q => callWith pos q.1 q.2 (backTo pos (starEach [] X.env)) (backToKw pos (keywordEach [] X.env))) := by rfl) :
    PE X (.Call (.Attribute o m apos) [] [] pos) (tMethV X k m E ta tNil) := by
  refine ⟨fun pins s σ H Q I h => ?_⟩
  refine PySem.W.methodCall_KW (pl := pl) (thn (he.run pins s σ H _ I h) fun u s1 ⟨x, H1, I1, rx, a, C, dx, fs, sp, ex, ea, pm, l, q⟩ => ?_) ht
  subst ex
  obtain rfl : u = Value.ref a := rx
  obtain ⟨f, fd, ps, hm, hb, F⟩ := pm.ex
  refine getmeth_ok I1 ea pm.cl hm l ?_
  exact PySem.W.callWith_K0 (first := [.ref a]) I1.kIn hm.kp (run_fn (us := [.ref a]) (vs := [.ref a]) F hr hb .nil hx I1 (.cons rfl .nil) q)
theorem pe_callV (hf : PE X fe ta) (hr : Room k X.A) (hx : Passes CX0 X E) (ha : PA X (e :: es) t)
    (ht : eval (.Call fe (e :: es) [] pos) X.env = (eval fe X.env >>= fun g => callWith pos g [] (backTo pos (starEach (e :: es) X.env)) (backToKw pos (keywordEach [] X.env))) := by rfl)
    (he : starEach (e :: es) X.env = (false, eval e X.env) :: starEach es X.env := by rfl) (hpl : (backTo pos (starEach es X.env)).any (·.1) = false := by rfl) : PE X (.Call fe (e :: es) [] pos) (tCallV X k E ta t) := by
  refine ⟨fun pins s σ H Q I h => ?_⟩
  refine Call_ (thn (hf.run pins s σ H _ I h) fun u s1 ⟨y, H1, I1, ry, a, C, sp, ey, pc, q⟩ => ?_) ht
  subst ey
  obtain rfl : u = Value.ref a := ry
  obtain ⟨f, fd, ps, c, hb, F⟩ := pc.ex
  refine callO_with (thn (ha.run pos pins s1 σ H1 _ I1 q) fun us s2 ⟨vs, H2, I2, r, hi, q2⟩ => ?_) he hpl
  obtain ⟨ox, od, J, hd⟩ := insC_at I2 hi
  exact ⟨⟨C, ox, od, J, hd⟩, run_callO c (F.raw hb .nil) hr hx I2 hi r (by simpa using q2)⟩
end

/-! ### a sign between two instances of own classes -/
/-- the class at C has the sign's method (and no reflected one) -/
structure OpO (K : PySem.W.Frag) (C : Addr) (op : Operator) (f : Addr) : Prop where
  first : PySem.W.selfFirst K C = true
  at_ : PySem.W.findIn K (.ref C) (PySem.dunder op.info.2) = some (some (.ref f))
  fn : PySem.W.isFn K (.ref f) = true
  ref_ : PySem.W.findIn K (.ref C) (dunderR op.info.2) = some none
theorem bin_own {prog : Program} {w : World} {A : Around} {E : Value → Shared → Prop} {s : Shared} {K : PySem.W.Frag} {x y C C2 f g : Addr} {ox oy : Obj} {od od2 : Option Obj} {op : Operator} {Q : Value → Shared → Prop} (X : K.In s.heap)
    (I : PySem.W.InstAt s.heap x ox C od) (J : PySem.W.InstAt s.heap y oy C2 od2) (o1 : OpO K C op f) (o2 : OpO K C2 op g) (hs : C = C2 ∨ PySem.W.subIn K (.ref C2) (.ref C) = some false)
    (h : wpAny (model prog w) A (call (.ref f) [.ref x, .ref y]) (PySem.W.CmpBack Q) E s) : wpAny (model prog w) A (binaryOp op (.ref x) (.ref y)) Q E s := by
  obtain ⟨cd1, rest1, hc1, hm1⟩ := PySem.W.ksp_first o1.first
  obtain ⟨cd2, rest2, hc2, hm2⟩ := PySem.W.ksp_first o2.first
  have a1 := o1.at_
  have a2 := o2.at_
  have r1 := o1.ref_
  have r2 := o2.ref_
  rcases hi : op.info with ⟨sym, nm⟩
  rw [hi] at a1 a2 r1 r2
  dsimp only at a1 a2 r1 r2
  have one := PySem.W.ksp_try X I a1 o1.fn h
  obtain ⟨hh, gs, d, tt, os⟩ := s
  have L1 : PySem.W.Looks (model prog w) hh (typeOf (.ref x)) (.ref C) := I.type
  have L2 : PySem.W.Looks (model prog w) hh (typeOf (.ref y)) (.ref C2) := J.type
  have L3 : PySem.W.Looks (model prog w) hh (fillsNumberSlot (.ref C) nm) true := PySem.W.fills_K X hc1 hm1 a1
  have L4 : PySem.W.Looks (model prog w) hh (fillsNumberSlot (.ref C2) nm) true := PySem.W.fills_K X hc2 hm2 a2
  have L6 : PySem.W.Looks (model prog w) hh (numberSlotInPython (.ref C) nm) true := PySem.W.ksp_inPy X a1 r1 (.inl rfl)
  have L7 : PySem.W.Looks (model prog w) hh (numberSlotInPython (.ref C2) nm) true := PySem.W.ksp_inPy X a2 r2 (.inl rfl)
  simp only [binaryOp, hi]
  refine wpAny_holding (wpAny_bind ?_)
  unfold binaryOp1
  refine wpAny_bind (L1.at (wpAny_bind (L2.at (wpAny_bind (L3.at ?_)))))
  by_cases e : C = C2
  · have hne : (Value.ref C == Value.ref C2) = true := by
      rw [e]
      exact beq_self_eq_true _
    simp only [hne, if_true]
    ksp_lk
    refine wpAny_mono one (fun r s' hr' => ?_) fun _ _ z => z
    obtain ⟨v, rfl, hq⟩ := hr'
    ksp_lk
    exact hq
  · have hne : (Value.ref C == Value.ref C2) = false := Bool.eq_false_iff.mpr fun q => e (by
      have := beq_iff_eq.mp q
      injection this)
    have hs2 : PySem.W.subIn K (.ref C2) (.ref C) = some false := hs.resolve_left e
    have L5 : PySem.W.Looks (model prog w) hh (isSubtype (.ref C2) (.ref C)) false := PySem.W.looks_subIn X hs2
    simp only [hne, Bool.false_eq_true, if_false]
    ksp_lk
    refine wpAny_mono one (fun r s' hr' => ?_) fun _ _ z => z
    obtain ⟨v, rfl, hq⟩ := hr'
    ksp_lk
    exact hq
theorem insO_at {X : Cx} {pins : List (Addr × Obj)} {σ : L2.St} {H : Hp} {s : Shared} {a C dx : Addr} {fs : List (Str × V)} (I : Inv X pins σ H s) (h : H a = some (.ins C dx fs)) : ∃ ox od, PySem.W.InstAt s.heap a ox C od ∧ ox.data = .plain :=
  insC_at I (.inr ⟨dx, fs, h⟩)
/-- two classes under one sign: what the class at C does with one of the class at C2 -/
structure PolyO (P : Program) (w : World) (K : PySem.W.Frag) (mg : Str → Option Value) (base : Heap) (k : Nat) (C C2 : Addr) (op : Operator) (sp : Sp) : Prop where
  ex : ∃ (f g : Addr) (fd : FuncData) (ps : List Str), OpO K C op f ∧ OpO K C2 op g ∧ (C = C2 ∨ PySem.W.subIn K (.ref C2) (.ref C) = some false) ∧ Binds K fd ps [] ∧ FnOk P w K mg base CX0 k f fd ps sp
def rOwn (X : Cx) (k : Nat) (op : Operator) (sp : Sp) (E : XK) : R2 := fun x y H Q => ∃ a b C C2 dx dy fs gs, x = .ref a ∧ y = .ref b ∧ H a = some (.ins C dx fs) ∧ H b = some (.ins C2 dy gs) ∧ PolyO X.prog X.w X.K X.mg X.base k C C2 op sp ∧
  sp [.ref a, .ref b] H (fun v H' => (∃ r, v = .ref r) ∧ Q v H') E
theorem op_own {X : Cx} {k : Nat} {sp : Sp} {E : XK} (op : Operator) (hr : Room k X.A) (hx : Passes CX0 X E) : OpR X (binaryOp op) (rOwn X k op sp E) := by
  intro pins s σ H x y v u Q I rx ry h
  obtain ⟨a, b, C, C2, dx, dy, fs, gs, rfl, rfl, ha, hb, po, q⟩ := h
  obtain rfl : v = Value.ref a := rx
  obtain rfl : u = Value.ref b := ry
  obtain ⟨f, g, fd, ps, o1, o2, hs, hbd, F⟩ := po.ex
  obtain ⟨ox, od, J1, _⟩ := insO_at I ha
  obtain ⟨oy, od2, J2, _⟩ := insO_at I hb
  refine bin_own I.kIn J1 J2 o1 o2 hs (thn (run_fn (us := [.ref a, .ref b]) (vs := [.ref a, .ref b]) F hr hbd .nil hx I (.cons rfl (.cons rfl .nil)) q) fun r s' z => ?_)
  obtain ⟨v, H', I', rv, ⟨p, rfl⟩, q'⟩ := z
  obtain rfl : r = Value.ref p := rv
  exact ⟨V.ref p, H', I', rfl, q'⟩
/-! ### ~x -/
structure PolyU (P : Program) (w : World) (K : PySem.W.Frag) (mg : Str → Option Value) (base : Heap) (k : Nat) (C : Addr) (sp : Sp) : Prop where
  ex : ∃ (f : Addr) (fd : FuncData) (ps : List Str), PySem.W.findIn K (.ref C) "__invert__" = some (some (.ref f)) ∧ PySem.W.isFn K (.ref f) = true ∧ Binds K fd ps [] ∧ FnOk P w K mg base CX0 k f fd ps sp
def rInv (X : Cx) (k : Nat) (sp : Sp) (E : XK) : V → Hp → VK → Prop := fun x H Q => ∃ a C dx fs, x = .ref a ∧ H a = some (.ins C dx fs) ∧ PolyU X.prog X.w X.K X.mg X.base k C sp ∧ sp [.ref a] H Q E
theorem inv_own {M : Model} {A : Around} {E : Value → Shared → Prop} {s : Shared} {K : PySem.W.Frag} {x C f : Addr} {ox : Obj} {od : Option Obj} {Q : Value → Shared → Prop} (X : K.In s.heap) (I : PySem.W.InstAt s.heap x ox C od)
    (hs : PySem.W.findIn K (.ref C) "__invert__" = some (some (.ref f))) (hf : PySem.W.isFn K (.ref f) = true) (h : wpAny M A (call (.ref f) [.ref x]) Q E s) : wpAny M A (unaryOp .Invert (.ref x)) Q E s := by
  unfold unaryOp
  refine wpAny_holding (wpAny_bind (PySem.W.special_fn X I hs (beq_iff_eq.mp hf) (thn h fun _ _ z => ?_)))
  exact wpAny_pure z
theorem un_own {X : Cx} {k : Nat} {sp : Sp} {E : XK} (hr : Room k X.A) (hx : Passes CX0 X E) : UnR X (unaryOp .Invert) (rInv X k sp E) := by
  intro pins s σ H x v Q I rx h
  obtain ⟨a, C, dx, fs, rfl, ha, pu, q⟩ := h
  obtain rfl : v = Value.ref a := rx
  obtain ⟨f, fd, ps, h1, h2, hb, F⟩ := pu.ex
  obtain ⟨ox, od, J, _⟩ := insO_at I ha
  exact inv_own I.kIn J h1 h2 (run_fn (us := [.ref a]) (vs := [.ref a]) F hr hb .nil hx I (.cons rfl .nil) q)
end G
set_option Elab.async false
set_option linter.all false
set_option maxRecDepth 100000
set_option maxHeartbeats 2000000
/-! O1: x in o, o[i], for x in o, len(o) by a class's own methods. -/
namespace G
open PySem PySem.Spec PyProof.Rows L2
/-- the class at C has its own m, the def at f -/
structure OwnM (K : PySem.W.Frag) (C : Addr) (m : Str) (f : Addr) : Prop where
  at_ : PySem.W.findIn K (.ref C) m = some (some (.ref f))
  fn : PySem.W.isFn K (.ref f) = true
section
variable {prog : Program} {w : World} {A : Around} {E : Value → Shared → Prop} {s : Shared} {K : PySem.W.Frag} {x C f : Addr} {ox : Obj} {od : Option Obj} {y : Value}
theorem in_own {Q : Bool → Shared → Prop} (X : K.In s.heap) (I : PySem.W.InstAt s.heap x ox C od) (e : OwnM K C "__contains__" f) (h : wpAny (model prog w) A (call (.ref f) [.ref x, y]) (fun v s' => ∃ b, v = .bool b ∧ Q b s') E s) :
    wpAny (model prog w) A (contains (.ref x) y) Q E s := by
  have sp : PySem.W.Looks (model prog w) s.heap (specialOf (.ref x) "__contains__") (some (.ref f)) := I.type.andThen (PySem.W.looks_findIn X e.at_)
  have hf := beq_iff_eq.mp e.fn
  unfold contains
  refine wpAny_holding ?_
  show wpAny _ _ (specialOf (.ref x) "__contains__" >>= _) _ _ _
  refine wpAny_bind (sp.here ?_)
  rw [if_neg (show ¬ ((some (Value.ref f) == some Value.none) = true) from Bool.false_ne_true)]
  unfold callSpecialUnlessNone?
  refine wpAny_bind (wpAny_bind (sp.here (wpAny_holding (wpAny_bind ((PySem.W.bind_fn X _ hf).here ?_)))))
  dsimp only
  rw [if_neg (show ¬ ((Value.ref f == Value.none) = true) from Bool.false_ne_true)]
  refine wpAny_bind (wpAny_mono h (fun v s' z => ?_) fun _ _ z => z)
  obtain ⟨b, rfl, q⟩ := z
  exact wpAny_pure (wpAny_truthy_bool q)
end
end G
set_option Elab.async false
set_option linter.all false
set_option maxRecDepth 100000
set_option maxHeartbeats 2000000
/-! O2: rules of x in o, o[i], for x in o. -/
namespace G
open PySem PySem.Spec PyProof.Rows L2 ItX
section
variable {X : Cx} {C g : Addr} {fd : FuncData} {ps : List Str} {n : Nat} {sp : Sp} {E : XK}
/-- x in o -/
def rInO (C : Addr) (sp : Sp) (E : XK) (neg : Bool) : R2 := fun x y H Q => ∃ a dx fs, y = .ref a ∧ H a = some (.ins C dx fs) ∧ sp [y, x] H (fun v H' => ∃ k : Bool, v = .bl k ∧ Q (.bl (cond neg (!k) k)) H') E
theorem in_run (e : OwnM X.K C "__contains__" g) (hb : Binds X.K fd ps []) (F : FnOk X.prog X.w X.K X.mg X.base CX0 n g fd ps sp) (hr : Room n X.A) (hx : Passes CX0 X E) {pins : List (Addr × Obj)} {σ : L2.St} {H : Hp} {s : Shared} {a dx : Addr} {fs : List (Str × V)} {x : V} {v : Value} {R : Bool → V → Hp → Prop}
    (I : Inv X pins σ H s) (rx : RelV x v) (ha : H a = some (.ins C dx fs)) {Q : Bool → Shared → Prop} (q : sp [.ref a, x] H (fun v H' => ∃ k : Bool, v = .bl k ∧ R k v H') E)
    (hq : ∀ k s' H', Inv X pins σ H' s' → R k (.bl k) H' → Q k s') : wpAny (model X.prog X.w) X.A (contains (.ref a) v) Q X.xe s := by
  obtain ⟨ox, od, J⟩ := insX_at I ha
  refine in_own I.kIn J e ?_
  refine wpAny_mono (run_fn (us := [.ref a, v]) (vs := [.ref a, x]) F hr hb .nil hx I (.cons rfl (.cons rx .nil)) q) (fun w s' z => ?_) fun _ _ x => x
  obtain ⟨z', H', I', rz, k, rfl, qz⟩ := z
  obtain rfl : w = Value.bool k := rz
  exact ⟨k, rfl, hq k s' H' I' qz⟩
theorem op_inO (e : OwnM X.K C "__contains__" g) (hb : Binds X.K fd ps []) (F : FnOk X.prog X.w X.K X.mg X.base CX0 n g fd ps sp) (hr : Room n X.A) (hx : Passes CX0 X E) : OpR X (compareOp .In) (rInO C sp E false) := by
  intro pins s σ H x y v u Q I rx ry h
  obtain ⟨a, dx, fs, rfl, ha, q⟩ := h
  cases (show u = Value.ref a from ry)
  refine wpAny_bind (in_run (R := fun k v H' => Q (.bl k) H') e hb F hr hx I rx ha q fun k s' H' I' z => ?_)
  exact wpAny_pure ⟨.bl k, H', I', rfl, z⟩
theorem op_ninO (e : OwnM X.K C "__contains__" g) (hb : Binds X.K fd ps []) (F : FnOk X.prog X.w X.K X.mg X.base CX0 n g fd ps sp) (hr : Room n X.A) (hx : Passes CX0 X E) : OpR X (compareOp .NotIn) (rInO C sp E true) := by
  intro pins s σ H x y v u Q I rx ry h
  obtain ⟨a, dx, fs, rfl, ha, q⟩ := h
  cases (show u = Value.ref a from ry)
  refine wpAny_bind (in_run (R := fun k v H' => Q (.bl (!k)) H') e hb F hr hx I rx ha q fun k s' H' I' z => ?_)
  exact wpAny_pure ⟨.bl (!k), H', I', rfl, z⟩
/-- o[i] -/
def tGetO (C : Addr) (sp : Sp) (E : XK) (ta ti : TE) : TE := fun σ H Q => ta σ H fun x H1 => ti σ H1 fun y H2 => ∃ a dx fs, x = .ref a ∧ H2 a = some (.ins C dx fs) ∧ sp [x, y] H2 Q E
theorem pe_getO {e i : Expr} {pos : Pos} {ta ti : TE} (m : OwnM X.K C "__getitem__" g) (hf : PySem.W.fnIn X.K g = true) (hb : Binds X.K fd ps []) (F : FnOk X.prog X.w X.K X.mg X.base CX0 n g fd ps sp) (hr : Room (n + 1) X.A) (he : PE X e ta) (hi : PE X i ti)
    (hsl : ∀ (a : Addr) (v : Value), subscripted i true (.ref a) v = runValue (.builtin "lifetime.subscript" ⟨[.ref a, v], []⟩) := by intro _ _; with_unfolding_all rfl) : PE X (.Subscript e i pos) (tGetO C sp E0 ta ti) := by
  refine ⟨fun pins s σ H Q I h => ?_⟩
  refine Subscript_ (thn (he.run pins s σ H _ I h) fun v s1 ⟨x, H1, I1, r1, q1⟩ => thn (hi.run pins s1 σ H1 _ I1 q1) fun u s2 ⟨y, H2, I2, r2, a, dx, fs, ex, ha, q⟩ => ?_)
  subst ex
  obtain rfl : v = Value.ref a := r1
  obtain ⟨ox, od, J⟩ := insX_at I2 ha
  obtain ⟨mm, hF⟩ := I2.fr
  refine PySem.W.sub_K hF I2.ok.mod.kin J m.at_ hf m.fn ?_ (hsl a u)
  have hl : ([Value.ref a, u] ++ []).length = ps.length := by
    have := F.len _ _ _ _ q
    exact this
  refine wpAny_call (codeAny_mono (F.run X.A.in1 X.stack s2 H2 ⟨[.ref a, u], []⟩ ([.ref a, u] ++ []) [.ref a, y] _ E0 hr.in1 I2.env0.in1 (hb s2 [.ref a, u] I2.kIn hl) (.cons rfl (.cons r2 .nil)) q) fun r s' hq => ?_)
  cases r with
  | error e => exact False.elim hq
  | ok fl =>
    cases fl with
    | ret u => exact I2.after hq
    | next => exact False.elim hq
    | brk => exact False.elim hq
    | cont => exact False.elim hq
end
/-! ### for x in o -/
/-- as FnOk, its promise knows how many objects there were -/
structure FnS (P : Program) (w : World) (K : PySem.W.Frag) (mg : Str → Option Value) (base : Heap) (k : Nat) (f : Addr) (fd : FuncData) (ps : List Str) (sp : Nat → Sp) : Prop where
  go : ∀ (A : Around) (outer : List Env) (s : Shared) (H : Hp) (args : Args) (us : List Value) (vs : List V) (Q : VK) (E : XK),
    Room k A → Env0 P w K mg base A outer s H → BindsTo s fd args (ps.zip us) → Vals vs us → sp s.heap.objs.size vs H Q E → codeAny (model P w) A (.call (.ref f) args) (CR CX0 outer P w H s Q E) s
section
variable {P : Program} {w : World} {K : PySem.W.Frag} {mg : Str → Option Value} {base : Heap}
theorem FnS.of_body {x qual : Str} {st : Stmt} {f : Addr} {fd : FuncData} {N ps : List Str} {k : Nat} {sp : Nat → Sp} (F : Fun K x qual st f fd) (S : FnScope N ps (defScope st))
    (size : ∀ n vs H Q E, sp n vs H Q E → vs.length = ps.length)
    (body : ∀ (cdv : Value) (A : Around) (outer : List Env) (s : Shared) (H : Hp) (vs : List V) (Q : VK) (E : XK),
      Room k (A.deeper (envOfC qual (defScope st) s.heap.objs.size f cdv)) → sp s.heap.objs.size vs H Q E →
      ∃ t, PSs (cxOf CX0 P w K mg base N qual (defScope st) f cdv A outer s H E).nox (defBody st) t ∧ t { nx := fun _ H' => Q .non H', rt := Q } (start N vs) H) :
    FnS P w K mg base (k + 1) f fd ps sp := by
  obtain ⟨_, _, _, _, _, _, cdv, _, _, rfl, lk, hcd⟩ := F.ex
  refine ⟨fun A outer s H args us vs Q E hr e0 hb r h => ?_⟩
  have inS : K.In s.heap := e0.mod.kin.keeps fun b o e => (e0.bs b o e).1
  have noL : s.heap.NoLimit := e0.mod.nolimit.keeps fun b o e => (e0.bs b o e).1
  refine codeAny_call_function hr.depth (inS _ _ lk) rfl S.co S.gen rfl
    (PySem.W.codeRec_of inS hcd) (hb _ _ _ _ ?_)
  refine wpAny_newFunctionEnv_cells S.kind
    (fun ⟨n, v⟩ hy => ?_) fun env he s1 x => ?_
  · rcases S.par n (List.of_mem_zip hy).1 with q | q
    · exact Or.inl q
    · exact Or.inr ⟨q, PySem.W.cellsFrom_some _ _ _ (Or.inl q)⟩
  · subst he
    refine ⟨noL.keeps x.toInCall.keep, codeAny_func ?_⟩
    obtain ⟨t, ht, hq⟩ := body cdv A outer s H vs Q E (hr.deeper _) h
    have J := inv_start (CX := CX0) (P := P) (w := w) (K := K) (mg := mg) (base := base) (E := E) S hr.hd e0 (size _ _ _ _ _ h) r x
    refine wpAny_mono (ht.nox.run [] s1 (start N vs) H _ J hq) (fun fl s' z => ?_) fun e s' z => z
    cases fl with
    | ret u =>
      obtain ⟨v, σ', H', J', rv, q⟩ := z
      exact ⟨v, H', J'.os, J'.bare, J'.base, J'.hok, rv, q⟩
    | next =>
      obtain ⟨σ', H', J', q⟩ := z
      exact ⟨.non, H', J'.os, J'.bare, J'.base, J'.hok, rfl, q⟩
    | brk =>
      obtain ⟨_, _, _, q⟩ := z
      exact q.elim
    | cont =>
      obtain ⟨_, _, _, q⟩ := z
      exact q.elim
end
/-- an __iter__ that gives the iterator of the list in the field fld -/
def spIter (K : PySem.W.Frag) (C : Addr) (fld : Str) (n : Nat) : Sp := fun vs H Q _ => ∃ (a dx l : Addr) (fs : List (Str × V)) (xs : List V), vs = [.ref a] ∧ H a = some (.ins C dx fs) ∧ fs.lookup fld = some (.ref l) ∧ SqL K H l xs ∧
  ∀ it, H it = none → n ≤ it → Q (.ref it) (upd H it (ItO l it 0))
def iOwn (K : PySem.W.Frag) (C : Addr) (fld : Str) (te : TE) : TI := fun σ H R => te σ H fun x H1 => ∃ (a dx l : Addr) (fs : List (Str × V)) (xs : List V), x = .ref a ∧ H1 a = some (.ins C dx fs) ∧ fs.lookup fld = some (.ref l) ∧ SqL K H1 l xs ∧ R (Itl K l) H1
theorem pi_own {X : Cx} {C g : Addr} {fd : FuncData} {n : Nat} {fld : Str} {e tg : Expr} {te : TE} (he : PE X e te) (m : OwnM X.K C "__iter__" g) (hb : Binds X.K fd ["self"] []) (F : FnS X.prog X.w X.K X.mg X.base n g fd ["self"] (spIter X.K C fld)) (hr : Room n X.A) : PI X tg e (iOwn X.K C fld te) := by
  refine ⟨fun pins s σ H R I h => ?_⟩
  refine thn (he.run pins s σ H _ I h) fun u s1 ⟨x, H1, I1, rx, a, dx, l, fs, xs, ex, ea, lk, sq, q⟩ => ?_
  subst ex
  obtain rfl : u = Value.ref a := rx
  obtain ⟨ox, od, J⟩ := insX_at I1 ea
  obtain ⟨mm, hF⟩ := I1.fr
  refine PySem.W.owit_iter hF I1.ok.mod.kin J m.at_ m.fn ?_
  refine wpAny_call (codeAny_mono (F.go X.A X.stack s1 H1 ⟨[Value.ref a], []⟩ ([Value.ref a] ++ []) [V.ref a] (fun v H2 => ∃ it, v = .ref it ∧ H1 it = none ∧ X.s_0.heap.objs.size ≤ it ∧ H2 = upd H1 it (ItO l it 0)) E0 hr I1.env0 (hb s1 [Value.ref a] I1.kIn rfl) (show Vals [V.ref a] [Value.ref a] from .cons rfl .nil)
    ⟨a, dx, l, fs, xs, rfl, ea, lk, sq, fun it hn hs => ⟨it, rfl, hn, Nat.le_trans I1.sz hs, rfl⟩⟩) fun r s' hq => ?_)
  cases r with
  | error e => exact False.elim hq
  | ok fl =>
    cases fl with
    | ret u =>
      obtain ⟨v, H', I2, rv, it, rfl, hn, hs, rfl⟩ := I1.after hq
      cases (show u = Value.ref it from rv)
      have hi : (upd H1 it (ItO l it 0)) it = some (ItO l it 0) := upd_same
      have eo := itO_get I2 hi
      have st : s'.heap.IsListIter it l (0 : Nat) := ⟨_, eo, rfl, rfl⟩
      have hT : s'.TypeIs (.ref it) "list_iterator" := ⟨_, eo, rfl⟩
      unfold PySem.W.OwitIt
      refine wpAny_specialOf (name := Str.ofString "__next__") hT slot_listiter_next.lookup ?_
      have hi' := hi
      unfold ItO at hi'
      have ed : dropH (upd H1 it (ItO l it 0)) it = H1 := by
        funext b
        by_cases hb : b = it
        · rw [hb, hn]
          exact dropH_same
        · rw [dropH_ne hb, upd_ne hb]
      refine ⟨it, [it], _, _, dropH (upd H1 it (ItO l it 0)) it, rfl, inv_drop I2 hi', turn_list l it, st, fun b hb => ?_, ?_⟩
      · have e : b = it := by simpa using hb
        rw [e]
        exact inv_fp I2 hi hs
      · rw [ed]
        exact q
    | next => exact False.elim hq
    | brk => exact False.elim hq
    | cont => exact False.elim hq
end G
set_option Elab.async false
set_option linter.all false
set_option maxRecDepth 100000
set_option maxHeartbeats 2000000
/-! O3: xs[::-1], isinstance(x, (list, tuple)), lists of the same things compared. -/
namespace G
open PySem PySem.Spec PyProof.Rows L2 HT
theorem pick_rev (its : List Value) : slicePick its.toArray none none (some (-1)) = its.reverse.toArray := by
  have e : ∀ k, k ≤ its.length → (((List.range k).map fun (m : Nat) => (((its.length : Nat) : Int) - 1 + (-1) * (m : Int)).toNat).filterMap fun j => its.toArray[j]?) = its.reverse.take k := by
    intro k
    induction k with
    | zero =>
      intro _
      simp
    | succ k ih =>
      intro hk
      rw [List.range_succ, List.map_append, List.filterMap_append, ih (by omega), List.take_add_one]
      congr 1
      have e1 : (((its.length : Nat) : Int) - 1 + (-1) * (k : Int)).toNat = its.length - 1 - k := by omega
      have hk2 : its.length - 1 - k < its.length := by omega
      simp only [List.map_cons, List.map_nil, List.filterMap_cons, List.filterMap_nil]
      rw [e1, List.getElem?_toArray, List.getElem?_eq_getElem hk2, List.getElem?_reverse (by omega)]
      simp [hk2]
  have r : sliceRange ((its.length : Int) - 1) (-1) (-1) = (List.range its.length).map fun (m : Nat) => (((its.length : Nat) : Int) - 1 + (-1) * (m : Int)).toNat := by
    unfold sliceRange
    have c : (if (-1 : Int) > 0 then (if (its.length : Int) - 1 < -1 then ((-1) - ((its.length : Int) - 1) + (-1) - 1) / (-1) else 0) else (if (its.length : Int) - 1 > -1 then ((its.length : Int) - 1 - (-1) - (-1) - 1) / (-(-1)) else 0)).toNat = its.length := by
      rw [if_neg (by decide)]
      split
      · rw [show (-(-1) : Int) = 1 by decide, Int.ediv_one]
        omega
      · omega
    show (List.range _).map _ = _
    rw [c]
  have b : sliceBounds none none (some (-1)) its.toArray.size = ((its.length : Int) - 1, -1, -1) := by
    rw [List.size_toArray]
    rfl
  unfold slicePick
  rw [b]
  dsimp only
  rw [r, e _ (Nat.le_refl _), List.take_of_length_le (by rw [List.length_reverse]; exact Nat.le_refl _)]
def tBackL (K : PySem.W.Frag) (te : TE) (tp : TO) : TE := fun σ H Q => te σ H fun x H1 => tp σ H1 fun o H2 => ∃ a xs, x = .ref a ∧ SqL K H2 a xs ∧ o = some (-1) ∧ ∀ p, H2 p = none → Q (.ref p) (upd H2 p (.lst xs.reverse))
theorem pe_backL {X : Cx} {e st : Expr} {te : TE} {tp : TO} {p3 pos : Pos} (he : PE X e te) (hst : PO X (some st) tp)
    (hsub : ∀ a l : Addr, subscripted (.Slice none none (some st) p3) false (.ref a) (.ref l) = operate [.ref a, .ref l] (getItem (.ref a) (.ref l)) := by intro _ _; with_unfolding_all rfl) :
    PE X (.Subscript e (.Slice none none (some st) p3) pos) (tBackL X.K te tp) := by
  refine ⟨fun pins s σ H Q I h => ?_⟩
  refine Subscript_ (thn (he.run pins s σ H _ I h) fun v s1 ⟨x, H1, I1, r1, q1⟩ => ?_)
  refine wpAny_Slice (thn (po_none.run pins s1 σ H1 (fun o H2 => o = none ∧ H2 = H1) I1 ⟨rfl, rfl⟩) fun vl s2 ⟨l, H2, I2, pl, el, e2⟩ => ?_)
  subst el e2
  refine thn (po_none.run pins s2 σ H2 (fun o H3 => o = none ∧ H3 = H2) I2 ⟨rfl, rfl⟩) fun vu s3 ⟨u, H3, I3, pu, eu, e3⟩ => ?_
  subst eu e3
  refine thn (hst.run pins s3 σ H3 _ I3 q1) fun vs s4 ⟨o, H4, I4, ps, a, xs, ex, hx, eo, q⟩ => ?_
  subst ex eo
  cases r1
  have I5 : Inv X pins σ H4 { s4 with heap := s4.heap.push { cls := .type "slice", data := .fields #[vl, vu, vs] } } := I4.kept (t' := s4.toks) fun b ob q => Heap.get?_push_of_some _ q
  obtain ⟨its, r, ht, hz⟩ := I5.list hx
  have hlen : its.length = xs.length := r.length.symm
  show wpAny (model X.prog X.w) X.A (subscriptTail e (.Slice none none (some st) p3) (.ref a) (.ref s4.heap.objs.size)) (EP X pins σ Q) X.xe { s4 with heap := s4.heap.push { cls := .type "slice", data := .fields #[vl, vu, vs] } }
  refine tail_any (ops := [.ref a, .ref s4.heap.objs.size]) ht.isList.typeIs slot_list_getitem.lookup ?_ (hsub _ _)
  refine wpAny_getItem_list_slice ht.isList (Heap.IsSliceOf.new _ _ _ _) pl pu ps (by decide) ?_ (by rw [List.size_toArray]; omega)
  rw [pick_rev]
  refine ⟨.ref _, _, I5.laid (t' := s4.toks) (o := .lst xs.reverse) (fun b ob q => Heap.get?_push_of_some _ q) (Nat.le_refl _) ?_, rfl, q _ (I5.hok.fresh (Nat.le_refl _))⟩
  exact ⟨by rw [List.length_reverse]; exact hz, _, 0, Vals.reverse r, Heap.get?_push_size _ rfl⟩
/-! ### isinstance(x, (list, tuple)) -/
def tIsLT (K : PySem.W.Frag) (te : TE) : TE := fun σ H Q => te σ H fun x H1 => (∃ t xs, x = .ref t ∧ (SqL K H1 t xs ∨ SqT K H1 t xs)) ∧ ∀ T, H1 T = none → Q (.bl true) (upd H1 T (.tup [.ty "list", .ty "tuple"]))
theorem lt_list (t : Addr) : AnswersAll (fun s => s.TypeIs (.ref t) "list") (.ref t) [.type "list", .type "tuple"] [true, false] :=
  ⟨Answers.of_true PySem.F.isi_meta_list sub_list_self, Answers.of_false_list (by decide +kernel) PySem.F.isi_meta_tuple PySem.F.sub_list_tuple, True.intro⟩
theorem lt_tuple (t : Addr) : AnswersAll (fun s => s.TypeIs (.ref t) "tuple") (.ref t) [.type "list", .type "tuple"] [false, true] :=
  ⟨Answers.of_false_tuple (by decide +kernel) PySem.F.isi_meta_list PySem.F.sub_tuple_list, Answers.of_true PySem.F.isi_meta_tuple PySem.F.isi_sub_tuple, True.intro⟩
theorem pe_isiLT {X : Cx} {p pos tpos : Pos} {e : Expr} {es : List Expr} {te : TE} {k : Nat} (he : PE X e te) (hg : Gl X "isinstance") (hm : X.mg "isinstance" = none) (hes : PA X es (tCons (tC (.ty "list")) (tCons (tC (.ty "tuple")) tNil)))
    (n1 : starEach [e, .Tuple es k tpos] X.env = (false, eval e X.env) :: starEach [.Tuple es k tpos] X.env := by rfl) (n2 : starEach [.Tuple es k tpos] X.env = (false, eval (.Tuple es k tpos) X.env) :: starEach [] X.env := by rfl)
    (n3 : (backTo pos (starEach [.Tuple es k tpos] X.env)).any (·.1) = false := by rfl) : PE X (.Call (.Name "isinstance" p) [e, .Tuple es k tpos] [] pos) (tIsLT X.K te) := by
  refine ⟨fun pins s σ H Q I h => ?_⟩
  refine wpAny_Call_Name_kw (ld_blt I hg hm PyProof.Rows.boot_isinstance ?_ (by decide) (by decide))
  refine PyProof.Rows.callWith_builtin1 ?_ n1 n3
  rw [n1]
  show wpAny _ _ (spliced ((false, eval e X.env) :: backTo pos (starEach [.Tuple es k tpos] X.env))) _ _ s
  refine Calls.spliced_cons (thn (he.run pins s σ H _ I h) fun u s1 ⟨x, H1, I1, r1, ⟨t, xs, ex, hT⟩, q1⟩ => ?_)
  subst ex
  obtain rfl : u = Value.ref t := r1
  rw [n2]
  show wpAny _ _ (spliced ((false, eval (.Tuple es k tpos) X.env) :: backTo pos (starEach [] X.env))) _ _ s1
  refine Calls.spliced_cons (wpAny_Tuple_spliced (thn (hes.run tpos pins s1 σ H1 (fun ys H' => ys = [.ty "list", .ty "tuple"] ∧ H' = H1) I1 ⟨rfl, rfl⟩) fun us s2 ⟨ys, H2, I2, r2, ey, eH⟩ => ?_))
  subst ey eH
  have eu := vals_ty2 r2
  subst eu
  have two : 2 ≤ sizeLine := by rw [sizeLine_eq]; omega
  refine ⟨two, ?_⟩
  have fresh := I2.hok.fresh (Nat.le_refl s2.heap.objs.size)
  have I3 := I2.laid (a := s2.heap.objs.size) (o := .tup [.ty "list", .ty "tuple"]) (h' := s2.heap.push { cls := .type "tuple", data := .seq [Value.type "list", Value.type "tuple"].toArray }) (t' := s2.toks) (fun b u e => Heap.get?_push_of_some _ e) (Nat.le_refl _)
    ⟨two, [.type "list", .type "tuple"], r2, ⟨_, Heap.get?_push_size _ rfl, rfl, _, rfl⟩⟩
  refine Calls.spliced_nil ?_
  rcases hT with hT | hT
  · obtain ⟨its, _, pl, _⟩ := I2.list hT
    obtain ⟨o, ho, hc, _⟩ := pl.isList
    exact call_isinstance (isinstance_tuple (x := .ref t) (Tx := "list") (tp := s2.heap.objs.size) (lt_list t)) ⟨⟨o, Heap.get?_push_of_some _ ho, hc⟩, Heap.get?_push_size _ rfl, fun tk => ⟨.bl true, _, I3.tok tk, rfl, q1 _ fresh⟩⟩
  · obtain ⟨its, _, ⟨o, ho, hc, _⟩, _⟩ := I2.tuple hT
    exact call_isinstance (isinstance_tuple (x := .ref t) (Tx := "tuple") (tp := s2.heap.objs.size) (lt_tuple t)) ⟨⟨o, Heap.get?_push_of_some _ ho, hc⟩, Heap.get?_push_size _ rfl, fun tk => ⟨.bl true, _, I3.tok tk, rfl, q1 _ fresh⟩⟩
/-! ### lists of the same things -/
def sameB : V → Bool
  | .ref _ => true
  | v => flatB v
theorem items_same {A : Around} {s : Shared} : ∀ {xs : List V} {us ws : List Value}, (∀ v ∈ xs, sameB v = true) → Vals xs us → Vals xs ws → ∀ j (h1 : j < us.length) (h2 : j < ws.length), SeqAt.EqAt A s us[j] ws[j] true
  | [], _, _, _, .nil, .nil, j, h1, _ => absurd h1 (Nat.not_lt_zero j)
  | x :: xs, _, _, hf, .cons r1 t1, .cons r2 t2, 0, _, _ => by
    have f := hf x List.mem_cons_self
    cases x with
    | ref a =>
      cases r1
      cases r2
      exact SeqAt.EqAt.same _
    | _ => exact eqAt_same r1 r2 f
  | x :: xs, _, _, hf, .cons r1 t1, .cons r2 t2, j + 1, h1, h2 => items_same (fun v hv => hf v (List.mem_cons_of_mem _ hv)) t1 t2 j (Nat.lt_of_succ_lt_succ h1) (Nat.lt_of_succ_lt_succ h2)
section
variable {X : Cx}
def rNeS (K : PySem.W.Frag) : R2 := fun x y H Q => ∃ a b xs, x = .ref a ∧ y = .ref b ∧ SqL K H a xs ∧ SqL K H b xs ∧ (∀ v ∈ xs, sameB v = true) ∧ Q (.bl false) H
theorem op_neS (hu : X.A.units < cLine) : OpR X (compareOp .NotEq) (rNeS X.K) := by
  intro pins s σ H x y v u Q I rx ry h
  obtain ⟨a, b, xs, rfl, rfl, ha, hb, hf, q⟩ := h
  cases (show v = Value.ref a from rx)
  cases (show u = Value.ref b from ry)
  obtain ⟨us, r1, p1, _⟩ := I.list ha
  obtain ⟨ws, r2, p2, _⟩ := I.list hb
  have hsz : us.toArray.size = ws.toArray.size := by rw [List.size_toArray, List.size_toArray, ← r1.length, ← r2.length]
  refine SeqAt.RcNeAt.lists (e := fun _ => true) p1.isList p2.isList hsz hu (fun j h1 h2 => ?_) X.prog X.w _ _ ?_
  · have k := items_same (A := X.A.in1) (s := s) hf r1 r2 j (by simpa using h1) (by simpa using h2)
    simpa using k
  · rw [show ((List.range us.toArray.size).all fun _ => true) = true from List.all_eq_true.mpr fun _ _ => rfl]
    exact ⟨.bl false, H, I, rfl, q⟩
end
end G
set_option Elab.async false
set_option linter.all false
set_option maxRecDepth 100000
set_option maxHeartbeats 4000000
/-! ST3: set(xs) of a list of different keys (ints, texts), however many; len of such a set. -/
namespace GS
open PySem PySem.Spec PyProof.Rows L2
/-- is this one of the keys -/
def inK (ks : List Key) (c : Key) : Bool := ks.any fun y => decide (y = c)
theorem inK_of {ks : List Key} {c : Key} (h : c ∈ ks) : inK ks c = true := List.any_eq_true.mpr ⟨c, h, decide_eq_true rfl⟩
theorem inK_no {ks : List Key} {c : Key} (h : c ∉ ks) : inK ks c = false := by
  cases e : inK ks c with
  | false => rfl
  | true =>
    obtain ⟨y, hy, ey⟩ := List.any_eq_true.mp e
    exact (h (of_decide_eq_true ey ▸ hy)).elim
theorem mem_next {ks : List Key} {i : Nat} {c : Key} (h : ks[i]? = some c) (j : Key) : (inK (ks.take i) j || decide (j = c)) = inK (ks.take (i + 1)) j := by
  rw [List.take_add_one, h]
  show _ = List.any (ks.take i ++ [c]) _
  rw [List.any_append]
  show _ = (inK (ks.take i) j || (decide (c = j) || false))
  rw [Bool.or_false, decide_eq_decide.mpr (eq_comm (a := j) (b := c))]
theorem new_here {ks : List Key} (nd : ks.Nodup) {i : Nat} {c : Key} (h : ks[i]? = some c) : c ∉ ks.take i := fun hm => by
  obtain ⟨j, hj⟩ := List.mem_iff_getElem?.mp hm
  rw [List.getElem?_take] at hj
  by_cases z : j < i
  · rw [if_pos z] at hj
    obtain ⟨lj, ej⟩ := List.getElem?_eq_some_iff.mp hj
    obtain ⟨li, ei⟩ := List.getElem?_eq_some_iff.mp h
    exact List.pairwise_iff_getElem.mp nd j i lj li z (ej.trans ei.symm)
  · rw [if_neg z] at hj
    cases hj
section
variable {prog : Program} {w : World} {A : Around} {Z : Result → Shared → Prop} {it D : Addr} {fp wr : List Addr} {G : Array GenState → Array GenState → Prop} {n : Nat} {P : Nat → Value → Prop} {St : Nat → Shared → Prop}
/-- the set at D while the keys are walked -/
abbrev Upto (prog : Program) (w : World) (h : Heap) (D : Addr) (ks : List Key) (i : Nat) : Prop := h.SetOf (mixKind prog w) D (inK (ks.take i)) i
theorem upto_keep {h h' : Heap} {ks : List Key} {i : Nat} (u : Upto prog w h D ks i) (k : ∀ o, h.get? D = some o → h'.get? D = some o) : Upto prog w h' D ks i := setOf_at u k
theorem keys_loop (W : WalksS prog w A.in1 it fp wr G n P St) (out : D ∉ fp) (ks : List Key) (ln : ks.length = n) (nd : ks.Nodup) (few : n ≤ 4000) (each : ∀ i v, P i v → ∃ c, ks[i]? = some c ∧ RelV (kV c) v) :
    ∀ (m i : Nat) (s : Shared), i + m = n → St i s → Upto prog w s.heap D ks i → (∀ s', Moved (D :: wr) G s s' → Upto prog w s'.heap D ks n → Z (.ok (.ret .none)) s') →
      codeAny (model prog w) A (.builtin "set.update.loop" ⟨[.ref D, .ref it], []⟩) Z s := by
  have outw : D ∉ wr := fun z => out (W.sub _ z)
  have more : ∀ b ∈ wr, b ∈ D :: wr := fun b z => List.mem_cons_of_mem _ z
  intro m
  induction m with
  | zero =>
    intro i s em st u fin
    have e : i = n := em
    subst e
    refine codeAny_builtin PyProof.Rows.F.entry_set_update_loop ?_
    rw [Around.under_plainId PyProof.Rows.F.plain_set_update_loop _]
    show wpAny _ A.in1 (pyNext (.ref it) >>= _) _ _ s
    refine wpAny_bind (W.done s _ _ st fun s' mv => ?_)
    show wpAny _ A.in1 (ret Value.none) _ _ s'
    exact wpAny_pure (fin s' (mv.mono more) (upto_keep u fun o e => mv.heap D o outw e))
  | succ m ih =>
    intro i s em st u fin
    have lt : i < n := by omega
    refine codeAny_builtin PyProof.Rows.F.entry_set_update_loop ?_
    rw [Around.under_plainId PyProof.Rows.F.plain_set_update_loop _]
    show wpAny _ A.in1 (pyNext (.ref it) >>= _) _ _ s
    refine wpAny_bind (W.item i s _ _ lt st fun v s' pv st' mv => ?_)
    obtain ⟨c, hc, rc⟩ := each i v pv
    have u' : Upto prog w s'.heap D ks i := upto_keep u fun o e => mv.heap D o outw e
    show wpAny _ A.in1 (holding [v] (setAdd D v) >>= _) _ _ s'
    refine wpAny_bind (wpAny_holding ?_)
    unfold setAdd
    refine wpAny_holding ?_
    refine wpAny_bind ((mixKind prog w).pyHash (k := c) (kV_is rc) ?_)
    refine wpAny_setAddHashed_of (knd := mixKind prog w) (s := { s' with toks := s'.toks + 1 }) (kV_is rc) (key_scan rc) u' (by unfold scanBound; omega) fun h' sb u2 => ?_
    have u3 : Upto prog w h' D ks (i + 1) := by
      have e1 : (fun j => inK (ks.take i) j || decide (j = c)) = inK (ks.take (i + 1)) := funext (mem_next hc)
      rw [e1, inK_no (new_here nd hc)] at u2
      exact u2
    refine wpAny_pure ⟨plainId_quiet PyProof.Rows.F.plain_set_update_loop _, ih (i + 1) _ (by omega) (W.frame _ s' _ _ st' (Nat.le_succ _) fun b hb o e => ?_) u3 fun s2 mv2 u4 => ?_⟩
    · exact (sb.2 b fun z => out (z ▸ hb)).trans e
    · refine fin s2 (Moved.trans W.gtrans ((mv.mono more).then_heap (Nat.le_succ _) fun b o hb e => ?_) mv2) u4
      exact (sb.2 b fun z => hb (by rw [z]; exact List.mem_cons_self)).trans e
end
section
variable {prog : Program} {w : World} {A : Around} {E : Value → Shared → Prop} {s : Shared}
theorem set_of_list {l : Addr} {items : Array Value} {ks : List Key} {Q : Value → Shared → Prop} (calm : A.handled = none) (hl : s.heap.IsList l items) (r : Vals (ks.map kV) items.toList) (nd : ks.Nodup) (few : ks.length ≤ 4000)
    (go : ∀ (h' : Heap) (tk : Nat), h'.SetOf (mixKind prog w) s.heap.objs.size (inK ks) ks.length → (∀ b o, b < s.heap.objs.size → s.heap.get? b = some o → h'.get? b = some o) → Q (.ref s.heap.objs.size) { s with heap := h', toks := tk }) :
    wpAny (model prog w) A (call (.type "set") [.ref l]) Q E s := by
  have size : ks.length = items.size := by
    have := r.length
    rw [List.length_map] at this
    rw [this, Array.length_toList]
  obtain ⟨f1, f2, f3⟩ := PySem.F.called_set.mro
  have f4 := PySem.F.called_set.made
  have f5 := PySem.F.called_set.sub
  refine wpAny_call (codeAny_of_tree ?_)
  show wpAny _ _ (callAny (.type "set") _) _ _ _
  refine wpAny_pure ⟨Code.quiet_builtin _ (by decide +kernel), codeAny_builtin PySem.F.entry_type_call ?_⟩
  rw [Around.under_plain (weight_type_call_type "set" [.ref l] []) rfl]
  have f6 := PySem.F.called_set.notType
  have f7 := PySem.F.called_set.canCreate
  have f8 := PySem.F.typeCall_set_1 (.ref l)
  repeat (any_goals (first | assumption | wp_step))
  refine codeAny_mono (code_set_new_1 (.ref l) (E := E) (Q₁ := fun x s1 => ∃ fl : Bool, x = .ref s.heap.objs.size ∧ s1 = { s with heap := s.heap.push { cls := .type "set", dict := none, data := .set #[] 0 (.fresh 0 0 fl) } }) fun fl => ⟨fl, rfl, rfl⟩) fun rs s1 z => ?_
  rcases rs with e | (x | _ | _ | _) <;> first | exact z | exact z.elim | skip
  obtain ⟨fl, rfl, rfl⟩ := z
  have eS : (s.heap.push { cls := .type "set", dict := none, data := .set #[] 0 (.fresh 0 0 fl) }).get? s.heap.objs.size = some { cls := .type "set", dict := none, data := .set #[] 0 (.fresh 0 0 fl) } := Heap.get?_push_size _ rfl
  have tS : Shared.TypeIs { s with heap := s.heap.push { cls := .type "set", dict := none, data := .set #[] 0 (.fresh 0 0 fl) } } (.ref s.heap.objs.size) "set" := ⟨_, eS, rfl⟩
  have g1 := PySem.F.called_set.init.lookup
  have g2 := PySem.F.called_set.init.bind (.ref s.heap.objs.size)
  repeat (any_goals (first | assumption | wp_step))
  refine codeAny_mono (codeAny_call_builtin (R := wants (fun v s2 => v = .none ∧ ∃ h' tk, s2 = { s with heap := h', toks := tk } ∧ h'.SetOf (mixKind prog w) s.heap.objs.size (inK ks) ks.length ∧
      (∀ b o, b < s.heap.objs.size → s.heap.get? b = some o → h'.get? b = some o)) E) PySem.F.called_set.init.plain PySem.F.entry_set_init (check_set_init_1 tS ?_)) fun r2 s2 z => ?_
  · obtain ⟨ol, hol, hcl, nl, hdl⟩ := hl
    obtain ⟨c0, d0, dt0, sl0⟩ := ol
    simp only at hcl hdl
    subst hcl
    subst hdl
    have hol2 : (s.heap.push { cls := .type "set", dict := none, data := .set #[] 0 (.fresh 0 0 fl) }).get? l = some { cls := .type "list", dict := d0, data := .seq items nl, slots := sl0 } := Heap.get?_push_of_some _ hol
    have n1 := PySem.F.sub_list_set
    have n2 := PySem.F.sub_list_frozenset
    have n3 : (Value.type "list" == Value.type "dict") = false := by decide
    have old : (s.heap.push { cls := .type "set", dict := none, data := .set #[] 0 (.fresh 0 0 fl) }).IsList l items := ⟨_, hol2, rfl, nl, rfl⟩
    unfold Builtin.«set.__init__» noKeywords Builtin.Frozenset.updateFrom
    generalize hPI : pyIter = PI
    wp_walk
    subst hPI
    refine wpAny_pyIter_list old ?_
    refine wpAny_bind (wpAny_runValue ?_)
    have below : l < s.heap.objs.size := Heap.lt_size hol
    have calm3 : A.in1.in1.in1.handled = none := by simp [calm]
    have apart : l ≠ (s.heap.push { cls := .type "set", dict := none, data := .set #[] 0 (.fresh 0 0 fl) }).objs.size := by
      rw [Heap.size_push]
      exact Nat.ne_of_lt (Nat.lt_succ_of_lt below)
    have out : s.heap.objs.size ∉ [(s.heap.push { cls := .type "set", dict := none, data := .set #[] 0 (.fresh 0 0 fl) }).objs.size, l] := by
      rw [Heap.size_push]
      simp only [List.mem_cons, List.mem_singleton, List.not_mem_nil, or_false, not_or]
      exact ⟨Nat.ne_of_lt (Nat.lt_succ_self _), Nat.ne_of_gt below⟩
    refine keys_loop ((Walks.list calm3 _ l apart items).toS) out ks size nd (by rw [← size]; exact few) (fun i v hv => ?_) items.size 0 _ (Nat.zero_add _) ⟨⟨_, Heap.get?_push_size _ rfl, rfl, rfl⟩, ?old⟩ ?first ?last
    · rw [← Array.getElem?_toList] at hv
      obtain ⟨li, ei⟩ := List.getElem?_eq_some_iff.mp hv
      have lk : i < ks.length := by
        rw [Array.length_toList] at li
        omega
      obtain ⟨u, hu, ru⟩ := r.get (i := i) (x := kV ks[i]) (by rw [List.getElem?_map, List.getElem?_eq_getElem lk]; rfl)
      rw [hu] at hv
      cases hv
      exact ⟨_, List.getElem?_eq_getElem lk, ru⟩
    case old => exact old.push _
    case first =>
      have at0 : ((s.heap.push { cls := .type "set", dict := none, data := .set #[] 0 (.fresh 0 0 fl) }).push { cls := .type "list_iterator", data := .fields #[.ref l, .int 0 0] }).get? s.heap.objs.size = some { cls := .type "set", dict := none, data := .set #[] 0 (.fresh 0 0 fl) } := Heap.get?_push_of_some _ eS
      exact (show Heap.SetOf (mixKind prog w) _ s.heap.objs.size (fun _ => false) 0 from ⟨_, #[], 0, _, at0, ⟨rfl, rfl, rfl⟩, rfl, (fun e he => by simp at he), (fun k => by simp), (by decide), (by rfl), rfl⟩)
    case last =>
      intro s' mv u
      obtain ⟨h', g', d', tk', os'⟩ := s'
      have eg : g' = s.gens := mv.gens
      have ed : d' = s.drawn := mv.drawn
      have eo : os' = s.os := mv.os
      subst eg
      subst ed
      subst eo
      rw [← size] at u
      have u2 : h'.SetOf (mixKind prog w) s.heap.objs.size (inK (ks.take ks.length)) ks.length := u
      rw [List.take_length] at u2
      show wpAny _ _ _ _ _ _
      refine wpAny_pure ?_
      show wpAny _ _ (ret Value.none) _ _ _
      refine wpAny_pure ⟨rfl, h', tk', rfl, u2, fun b o hb e => ?_⟩
      refine mv.heap b o ?_ (Heap.get?_push_of_some _ (Heap.get?_push_of_some _ e))
      rw [Heap.size_push]
      simp only [List.mem_cons, List.mem_singleton, List.not_mem_nil, or_false, not_or]
      exact ⟨Nat.ne_of_lt hb, Nat.ne_of_lt (Nat.lt_succ_of_lt hb)⟩
  · rcases r2 with e | (x | _ | _ | _) <;> first | exact z | exact z.elim | skip
    obtain ⟨rfl, h', tk, rfl, hS, hk⟩ := z
    repeat (any_goals (first | assumption | wp_step))
    exact go _ _ hS hk
end
section
variable {prog : Program} {w : World} {A : Around} {E : Value → Shared → Prop} {s : Shared}
theorem set_of_tuple {l : Addr} {items : Array Value} {ks : List Key} {Q : Value → Shared → Prop} (calm : A.handled = none) (hl : s.heap.IsTuple l items) (r : Vals (ks.map kV) items.toList) (nd : ks.Nodup) (few : ks.length ≤ 4000)
    (go : ∀ (h' : Heap) (tk : Nat), h'.SetOf (mixKind prog w) s.heap.objs.size (inK ks) ks.length → (∀ b o, b < s.heap.objs.size → s.heap.get? b = some o → h'.get? b = some o) → Q (.ref s.heap.objs.size) { s with heap := h', toks := tk }) :
    wpAny (model prog w) A (call (.type "set") [.ref l]) Q E s := by
  have size : ks.length = items.size := by
    have := r.length
    rw [List.length_map] at this
    rw [this, Array.length_toList]
  obtain ⟨f1, f2, f3⟩ := PySem.F.called_set.mro
  have f4 := PySem.F.called_set.made
  have f5 := PySem.F.called_set.sub
  refine wpAny_call (codeAny_of_tree ?_)
  show wpAny _ _ (callAny (.type "set") _) _ _ _
  refine wpAny_pure ⟨Code.quiet_builtin _ (by decide +kernel), codeAny_builtin PySem.F.entry_type_call ?_⟩
  rw [Around.under_plain (weight_type_call_type "set" [.ref l] []) rfl]
  have f6 := PySem.F.called_set.notType
  have f7 := PySem.F.called_set.canCreate
  have f8 := PySem.F.typeCall_set_1 (.ref l)
  repeat (any_goals (first | assumption | wp_step))
  refine codeAny_mono (code_set_new_1 (.ref l) (E := E) (Q₁ := fun x s1 => ∃ fl : Bool, x = .ref s.heap.objs.size ∧ s1 = { s with heap := s.heap.push { cls := .type "set", dict := none, data := .set #[] 0 (.fresh 0 0 fl) } }) fun fl => ⟨fl, rfl, rfl⟩) fun rs s1 z => ?_
  rcases rs with e | (x | _ | _ | _) <;> first | exact z | exact z.elim | skip
  obtain ⟨fl, rfl, rfl⟩ := z
  have eS : (s.heap.push { cls := .type "set", dict := none, data := .set #[] 0 (.fresh 0 0 fl) }).get? s.heap.objs.size = some { cls := .type "set", dict := none, data := .set #[] 0 (.fresh 0 0 fl) } := Heap.get?_push_size _ rfl
  have tS : Shared.TypeIs { s with heap := s.heap.push { cls := .type "set", dict := none, data := .set #[] 0 (.fresh 0 0 fl) } } (.ref s.heap.objs.size) "set" := ⟨_, eS, rfl⟩
  have g1 := PySem.F.called_set.init.lookup
  have g2 := PySem.F.called_set.init.bind (.ref s.heap.objs.size)
  repeat (any_goals (first | assumption | wp_step))
  refine codeAny_mono (codeAny_call_builtin (R := wants (fun v s2 => v = .none ∧ ∃ h' tk, s2 = { s with heap := h', toks := tk } ∧ h'.SetOf (mixKind prog w) s.heap.objs.size (inK ks) ks.length ∧
      (∀ b o, b < s.heap.objs.size → s.heap.get? b = some o → h'.get? b = some o)) E) PySem.F.called_set.init.plain PySem.F.entry_set_init (check_set_init_1 tS ?_)) fun r2 s2 z => ?_
  · obtain ⟨ol, hol, hcl, nl, hdl⟩ := hl
    obtain ⟨c0, d0, dt0, sl0⟩ := ol
    simp only at hcl hdl
    subst hcl
    subst hdl
    have hol2 : (s.heap.push { cls := .type "set", dict := none, data := .set #[] 0 (.fresh 0 0 fl) }).get? l = some { cls := .type "tuple", dict := d0, data := .seq items nl, slots := sl0 } := Heap.get?_push_of_some _ hol
    have n1 := PySem.F.sub_tuple_set
    have n2 := PySem.F.sub_tuple_frozenset
    have n3 : (Value.type "tuple" == Value.type "dict") = false := by decide
    have old : (s.heap.push { cls := .type "set", dict := none, data := .set #[] 0 (.fresh 0 0 fl) }).IsTuple l items := ⟨_, hol2, rfl, nl, rfl⟩
    unfold Builtin.«set.__init__» noKeywords Builtin.Frozenset.updateFrom
    generalize hPI : pyIter = PI
    wp_walk
    subst hPI
    refine wpAny_pyIter_tuple old ?_
    refine wpAny_bind (wpAny_runValue ?_)
    have below : l < s.heap.objs.size := Heap.lt_size hol
    have calm3 : A.in1.in1.in1.handled = none := by simp [calm]
    have apart : l ≠ (s.heap.push { cls := .type "set", dict := none, data := .set #[] 0 (.fresh 0 0 fl) }).objs.size := by
      rw [Heap.size_push]
      exact Nat.ne_of_lt (Nat.lt_succ_of_lt below)
    have out : s.heap.objs.size ∉ [(s.heap.push { cls := .type "set", dict := none, data := .set #[] 0 (.fresh 0 0 fl) }).objs.size, l] := by
      rw [Heap.size_push]
      simp only [List.mem_cons, List.mem_singleton, List.not_mem_nil, or_false, not_or]
      exact ⟨Nat.ne_of_lt (Nat.lt_succ_self _), Nat.ne_of_gt below⟩
    refine keys_loop ((Walks.tuple calm3 _ l apart items).toS) out ks size nd (by rw [← size]; exact few) (fun i v hv => ?_) items.size 0 _ (Nat.zero_add _) ⟨⟨_, Heap.get?_push_size _ rfl, rfl, rfl⟩, ?old⟩ ?first ?last
    · rw [← Array.getElem?_toList] at hv
      obtain ⟨li, ei⟩ := List.getElem?_eq_some_iff.mp hv
      have lk : i < ks.length := by
        rw [Array.length_toList] at li
        omega
      obtain ⟨u, hu, ru⟩ := r.get (i := i) (x := kV ks[i]) (by rw [List.getElem?_map, List.getElem?_eq_getElem lk]; rfl)
      rw [hu] at hv
      cases hv
      exact ⟨_, List.getElem?_eq_getElem lk, ru⟩
    case old => exact old.push _
    case first =>
      have at0 : ((s.heap.push { cls := .type "set", dict := none, data := .set #[] 0 (.fresh 0 0 fl) }).push { cls := .type "tuple_iterator", data := .fields #[.ref l, .int 0 0] }).get? s.heap.objs.size = some { cls := .type "set", dict := none, data := .set #[] 0 (.fresh 0 0 fl) } := Heap.get?_push_of_some _ eS
      exact (show Heap.SetOf (mixKind prog w) _ s.heap.objs.size (fun _ => false) 0 from ⟨_, #[], 0, _, at0, ⟨rfl, rfl, rfl⟩, rfl, (fun e he => by simp at he), (fun k => by simp), (by decide), (by rfl), rfl⟩)
    case last =>
      intro s' mv u
      obtain ⟨h', g', d', tk', os'⟩ := s'
      have eg : g' = s.gens := mv.gens
      have ed : d' = s.drawn := mv.drawn
      have eo : os' = s.os := mv.os
      subst eg
      subst ed
      subst eo
      rw [← size] at u
      have u2 : h'.SetOf (mixKind prog w) s.heap.objs.size (inK (ks.take ks.length)) ks.length := u
      rw [List.take_length] at u2
      show wpAny _ _ _ _ _ _
      refine wpAny_pure ?_
      show wpAny _ _ (ret Value.none) _ _ _
      refine wpAny_pure ⟨rfl, h', tk', rfl, u2, fun b o hb e => ?_⟩
      refine mv.heap b o ?_ (Heap.get?_push_of_some _ (Heap.get?_push_of_some _ e))
      rw [Heap.size_push]
      simp only [List.mem_cons, List.mem_singleton, List.not_mem_nil, or_false, not_or]
      exact ⟨Nat.ne_of_lt hb, Nat.ne_of_lt (Nat.lt_succ_of_lt hb)⟩
  · rcases r2 with e | (x | _ | _ | _) <;> first | exact z | exact z.elim | skip
    obtain ⟨rfl, h', tk, rfl, hS, hk⟩ := z
    repeat (any_goals (first | assumption | wp_step))
    exact go _ _ hS hk
end
/-! ### the rules -/
section
variable {X : Cx}
/-- set(xs), xs a list or a tuple of different keys -/
def rSetKs (K : PySem.W.Frag) (P : Program) (w : World) : List V → Hp → VK → Prop := fun xs H Q => ∃ (l : Addr) (ks : List Key), xs = [.ref l] ∧ (SqL K H l (ks.map kV) ∨ SqT K H l (ks.map kV)) ∧ ks.Nodup ∧ ks.length ≤ 4000 ∧
  ∀ p, H p = none → Q (.ref p) (upd H p (SetK P w p (inK ks) ks.length))
theorem cr_setKs (calm : X.calm = true) : CallR X (.type "set") (rSetKs X.K X.prog X.w) := by
  intro pins s σ H xs us Q I r h
  obtain ⟨l, ks, rfl, hq, nd, few, q⟩ := h
  obtain ⟨u, rfl, ru⟩ := vals1 r
  cases (show u = Value.ref l from ru)
  have fin : ∀ (h' : Heap) (tk : Nat), h'.SetOf (mixKind X.prog X.w) s.heap.objs.size (inK ks) ks.length → (∀ b o, b < s.heap.objs.size → s.heap.get? b = some o → h'.get? b = some o) → EP X pins σ Q (.ref s.heap.objs.size) { s with heap := h', toks := tk } := fun h' tk hS k =>
    ⟨.ref _, upd H s.heap.objs.size (SetK X.prog X.w s.heap.objs.size (inK ks) ks.length), I.laid (t' := tk) (fun b o e => k b o (Heap.lt_size e) e) (Nat.le_refl _) (setK_new hS), rfl, q _ (I.hok.fresh (Nat.le_refl _))⟩
  rcases hq with hq | hq
  · obtain ⟨its, rv, p, _⟩ := I.list hq
    exact set_of_list (I.ok.hd calm) p.isList (by simpa using rv) nd few fin
  · obtain ⟨its, rv, p, _⟩ := I.tuple hq
    exact set_of_tuple (I.ok.hd calm) p (by simpa using rv) nd few fin
/-- len of a set of keys -/
def rLenK (P : Program) (w : World) : List V → Hp → VK → Prop := fun xs H Q => ∃ (a : Addr) (S : Key → Bool) (n : Nat), xs = [.ref a] ∧ H a = some (SetK P w a S n) ∧ n ≤ 4000 ∧ Q (.int (n : Nat)) H
theorem cr_lenKs : CallR X (.builtin "len") (rLenK X.prog X.w) := by
  intro pins s σ H xs us Q I r h
  obtain ⟨a, S, n, rfl, ha, few, q⟩ := h
  obtain ⟨u, rfl, ru⟩ := vals1 r
  cases (show u = Value.ref a from ru)
  obtain ⟨o, es, ep, t, ho, hex, hd, _, _, _, hf, hn⟩ := setK_get I ha
  exact call_len_set ho hex hd hf (by rw [hn]; omega) ⟨.int n, H, I.tok _, ⟨_, by rw [hn]⟩, q⟩
end
end GS
set_option Elab.async false
set_option linter.all false
set_option maxRecDepth 100000
set_option maxHeartbeats 4000000
/-! SH1: rows asked: is_list, need_rows_with_answers. -/
namespace G
open PySem PySem.Spec PyProof.Rows L2 NdefX
abbrev sIsList : Stmt := topS 13
abbrev sNeedRows : Stmt := topS 21
theorem scIsList : FnScope ["value", "most"] ["value", "most"] (defScope sIsList) := ⟨rfl, rfl, rfl, by decide +kernel, rfl, by decide +kernel, by decide +kernel⟩
theorem scNeedRows : FnScope ["rows", "answers", "row"] ["rows", "answers"] (defScope sNeedRows) := ⟨rfl, rfl, rfl, by decide +kernel, rfl, by decide +kernel, by decide +kernel⟩
theorem sqL_keep {K : PySem.W.Frag} {H H' : Hp} {l : Addr} {xs : List V} (s : Same H H') : SqL K H l xs → SqL K H' l xs
  | .inl (.inl h) => .inl (.inl (s _ _ h))
  | .inl (.inr ⟨o, h⟩) => .inl (.inr ⟨o, s _ _ h⟩)
  | .inr h => .inr h
theorem sqT_keep {K : PySem.W.Frag} {H H' : Hp} {l : Addr} {xs : List V} (s : Same H H') : SqT K H l xs → SqT K H' l xs
  | .inl (.inl h) => .inl (.inl (s _ _ h))
  | .inl (.inr ⟨o, h⟩) => .inl (.inr ⟨o, s _ _ h⟩)
  | .inr h => .inr h
def SqLT (K : PySem.W.Frag) (H : Hp) (l : Addr) (xs : List V) : Prop := SqL K H l xs ∨ SqT K H l xs
theorem SqLT.keep {K : PySem.W.Frag} {H H' : Hp} {l : Addr} {xs : List V} (s : Same H H') : SqLT K H l xs → SqLT K H' l xs
  | .inl h => .inl (sqL_keep s h)
  | .inr h => .inr (sqT_keep s h)
def iLT (K : PySem.W.Frag) (tl : TE) : TI := fun σ H R => tl σ H fun x H1 => ∃ a, x = .ref a ∧ (((∃ xs, SqL K H1 a xs) ∧ R (Itl K a) H1) ∨ ((∃ xs, SqT K H1 a xs) ∧ R (Itt K a) H1))
theorem pi_lt {X : Cx} {tg l : Expr} {tl : TE} (hl : PE X l tl) : PI X tg l (iLT X.K tl) := by
  refine ⟨fun pins s σ H R I h => ?_⟩
  refine thn (hl.run pins s σ H _ I h) fun v s1 ⟨x, H1, I1, r1, a, e, k⟩ => ?_
  subst e
  obtain rfl : v = Value.ref a := r1
  have fp : ∀ b ∈ [s1.heap.objs.size], _ := fun b hb => by
    obtain rfl : b = s1.heap.objs.size := by simpa using hb
    exact I1.fpOk (Nat.le_refl _) (I1.hok.fresh (Nat.le_refl _))
  rcases k with ⟨⟨xs, hq⟩, q⟩ | ⟨⟨xs, hq⟩, q⟩
  · obtain ⟨its, rv, pl, _⟩ := I1.list hq
    refine wpAny_pyIter_list pl.isList ⟨s1.heap.objs.size, [s1.heap.objs.size], _, _, H1, rfl, ?_, turn_list a _, ?_, fp, q⟩
    · exact I1.kept (t' := s1.toks) fun b o e => Heap.get?_push_of_some _ e
    · exact ⟨_, Heap.get?_push_size _ rfl, rfl, rfl⟩
  · obtain ⟨its, rv, pl, _⟩ := I1.tuple hq
    refine wpAny_pyIter_tuple (show s1.heap.IsTuple a its.toArray from pl) ⟨s1.heap.objs.size, [s1.heap.objs.size], _, _, H1, rfl, ?_, turn_tuple a _, ?_, fp, q⟩
    · exact I1.kept (t' := s1.toks) fun b o e => Heap.get?_push_of_some _ e
    · exact ⟨_, Heap.get?_push_size _ rfl, rfl, rfl⟩
theorem ne_ifL {A B : Prop} {x y : V} (e : x = y) (h : B) : if (!decide (x = y)) = true then A else B := by
  rw [decide_eq_true e]
  exact iteF h
theorem with_fin {G : Prop} (S : (Addr → Hp → Prop) → Prop) (Qd : Addr → Hp → Prop) (h1 : S Qd → G) (h2 : S Qd) : G := h1 h2
def txK (zs : List Str) : List Key := zs.map Sum.inr
theorem txK_V (zs : List Str) : (txK zs).map kV = zs.map V.str := by
  unfold txK
  rw [List.map_map]
  rfl
theorem txK_nd {zs : List Str} (h : zs.Nodup) : (txK zs).Nodup := by
  unfold txK List.Nodup
  exact List.pairwise_map.mpr (h.imp fun a e => a (Sum.inr.inj e))
def spIsList (K : PySem.W.Frag) : Sp := fun vs H Q _ => ∃ (l : Addr) (n : Nat) (xs : List V), vs = [.ref l, .int (n : Nat)] ∧ SqLT K H l xs ∧ xs.length ≤ n ∧ ∀ H', Same H H' → Q (.bl true) H'
/-- rows that may be asked of -/
structure RowsOk (zs : List Str) : Prop where
  few : zs.length ≤ 40
  nd : zs.Nodup
  nm : ∀ z ∈ zs, NameZ z
def spNeedRows (K : PySem.W.Frag) : Sp := fun vs H Q _ => ∃ (l d : Addr) (zs : List Str) (kvs : List (Key × V)), vs = [.ref l, .ref d] ∧ SqLT K H l (zs.map V.str) ∧ RowsOk zs ∧ H d = some (.dK kvs) ∧ ∀ H', Same H H' → Q .non H'
section
variable {P : Program} {w : World} {K : PySem.W.Frag} {mg : Str → Option Value} {base : Heap}
theorem ok_islist {f : Addr} {fd : FuncData} (F : Fun K "is_list" "is_list" sIsList f fd) (mi : mg "isinstance" = none) (ml : mg "len" = none) (mL : mg "list" = none) (mt : mg "tuple" = none) : FnOk P w K mg base CX0 1 f fd ["value", "most"] (spIsList K) := by
  refine F.ok scIsList (fun vs H Q E h => ?_) (fun cdv A outer s H vs Q E hr h => ?_)
  · obtain ⟨l, n, xs, rfl, _⟩ := h
    rfl
  · obtain ⟨l, n, xs, rfl, hx, hl, q⟩ := h
    refine ⟨_, pss_one (ps_ret (pe_and (pe_isiLT (pv 0) (by rfl) mi (pa_cons (pe_bltn (v := .ty "list") (u := .type "list") (by rfl) mL (by decide +kernel) rfl) (pa_cons (pe_bltn (v := .ty "tuple") (u := .type "tuple") (by rfl) mt (by decide +kernel) rfl) pa_nil)))
      (pe_one (pe_cmpR op_le (pe_callB call_len_seq (by rfl) ml PySem.boot_len (pa_cons (pv 0) pa_nil)) (pv 1) (nomark _))))), ?_⟩
    refine ⟨_, rfl, ⟨l, xs, rfl, hx⟩, fun T hT => ⟨_, rfl, iteT ?_⟩⟩
    have sT := Same.new (o := .tup [.ty "list", .ty "tuple"]) hT
    refine ⟨_, rfl, l, xs, rfl, hx.keep sT, _, rfl, _, _, rfl, rfl, ?_⟩
    have e : decide (((xs.length : Nat) : Int) ≤ (n : Int)) = true := decide_eq_true (by omega)
    show Q (.bl (decide (((xs.length : Nat) : Int) ≤ (n : Int)))) _
    rw [e]
    exact q _ sT
theorem ok_needrows {f fL fN : Addr} {fd fdL fdN : FuncData} {t1 : Tok} (F : Fun K "need_rows_with_answers" "need_rows_with_answers" sNeedRows f fd) (GL : FnOk P w K mg base CX0 1 fL fdL ["value", "most"] (spIsList K)) (gL : mg "is_list" = some (.ref fL)) (kL : PySem.W.keepIn K (.ref fL) = true) (bL : Binds K fdL ["value", "most"] [])
    (GN : FnOk P w K mg base CX0 1 fN fdN ["value"] spIsName) (gN : mg "is_name" = some (.ref fN)) (kN : PySem.W.keepIn K (.ref fN) = true) (bN : Binds K fdN ["value"] []) (gM : mg "MOST_PLAIN_ROWS" = some (.int 40 t1))
    (mi : mg "isinstance" = none) (ml : mg "len" = none) (ma : mg "all" = none) (ms : mg "set" = none) (md : mg "dict" = none) : FnOk P w K mg base CX0 2 f fd ["rows", "answers"] (spNeedRows K) := by
  refine F.ok scNeedRows (fun vs H Q E h => ?_) (fun cdv A outer s H vs Q E hr h => ?_)
  · obtain ⟨l, d, zs, kvs, rfl, _⟩ := h
    rfl
  · obtain ⟨l, d, zs, kvs, rfl, hl, ok, hd, q⟩ := h
    refine ⟨_, pss_cons (ps_if (PW.pt (pw_or (pt_not (pt_val (pe_call GL hr rfl gL kL bL .nil pass0 (pa_cons (pv 0) (pa_cons (pe_glob (v := .int 40) rfl gM ⟨_, rfl⟩) pa_nil)))))
        (pw_or1 (pt_not (pt_val (pe_callB (cr_all rfl) (by rfl) ma (by decide +kernel) (pa_cons (pe_lc (own := [("row", 2)]) (g := gName 2) (tt := tYes) (by rfl) scNeedRows.nd (pi_lt (pv 0))
          (blkOk_by (own := [("row", 2)]) (N := ["rows", "answers", "row"]) (sc := defScope sNeedRows) (by decide +kernel)) (fun _ _ _ _ _ => pg_name (i := 2) scNeedRows.nd rfl (.inl rfl)) (fun _ _ _ _ _ => pts_nil)
          (fun _ _ _ _ _ => pe_call GN hr rfl gN kN bN .nil pass0 (pa_cons (pv 2) pa_nil))) pa_nil))))))) (pss_one ps_never) pss_nil)
      (pss_cons (ps_if (pt_cmpR op_ne (pe_callB GS.cr_lenKs (by rfl) ml PySem.boot_len (pa_cons (pe_callTy (GS.cr_setKs rfl) (by rfl) ms (by decide +kernel) (pa_cons (pv 0) pa_nil)) pa_nil)) (pe_callB call_len_seq (by rfl) ml PySem.boot_len (pa_cons (pv 0) pa_nil)) (nomark _)) (pss_one ps_never) pss_nil)
      (pss_one (ps_if (pt_not (pt_val (pt_isi "dict" (pv 1) (hm := mi) (mn := md)))) (pss_one ps_never) pss_nil))), ?_⟩
    refine ⟨_, rfl, l, 40, _, rfl, hl, by rw [List.length_map]; exact ok.few, fun H1 s1 => ⟨_, rfl, iteF ?_⟩⟩
    refine ⟨_, rfl, l, rfl, ?_⟩
    have hl1 := hl.keep s1
    have all1 : ∀ n, (List.replicate n true).all id = true := fun n => List.all_eq_true.mpr fun x hx => by
      rw [(List.mem_replicate.mp hx).2]
      rfl
    refine with_fin (fun Qd : Addr → Hp → Prop => ∀ (D : Addr) (H3 : Hp) (n : Nat), Same H1 H3 → H3 D = some (.lst ((List.replicate n true).map V.bl)) → Qd D H3) ?_ (fun fin => ?_) ?_
    rotate_left
    · rcases hl1 with hl1 | hl1
      · refine .inl ⟨⟨_, hl1⟩, fun D hD => ?_⟩
        refine lc_list (xs := zs.map V.str) (fun i H3 => Same H1 H3 ∧ H3 D = some (.lst ((List.replicate i true).map V.bl))) ?_ ?_ ?_ ?_
        · exact ⟨Same.new hD, upd_same⟩
        · exact fun _ _ _ z => sqL_keep z.1 hl1
        · rintro i x H3 hx ⟨s3, e3⟩
          rw [List.getElem?_map] at hx
          obtain ⟨z, hz, rfl⟩ := Option.map_eq_some_iff.mp hx
          have hi : i < zs.length := (List.getElem?_eq_some_iff.mp hz).1
          have few := ok.few
          refine ⟨rfl, ?_⟩
          unfold tYes
          dsimp only
          rw [if_pos rfl]
          refine ⟨_, rfl, z, rfl, ok.nm z (List.mem_of_getElem? hz), fun H4 s4 => ⟨_, s4 _ _ e3, ?_, fun c o e => (upd_ne (ne_of_none e hD)).trans (s4 _ _ (s3 _ _ e)), ?_⟩⟩
          · rw [List.length_map, List.length_replicate]
            exact small1000 (by omega)
          · rw [upd_same, List.replicate_succ', List.map_append]
            rfl
        · rintro H3 ⟨s3, e3⟩
          exact fin D H3 _ s3 e3

      · refine .inr ⟨⟨_, hl1⟩, fun D hD => ?_⟩
        refine lc_tup (xs := zs.map V.str) (fun i H3 => Same H1 H3 ∧ H3 D = some (.lst ((List.replicate i true).map V.bl))) ?_ ?_ ?_ ?_
        · exact ⟨Same.new hD, upd_same⟩
        · exact fun _ _ _ z => sqT_keep z.1 hl1
        · rintro i x H3 hx ⟨s3, e3⟩
          rw [List.getElem?_map] at hx
          obtain ⟨z, hz, rfl⟩ := Option.map_eq_some_iff.mp hx
          have hi : i < zs.length := (List.getElem?_eq_some_iff.mp hz).1
          have few := ok.few
          refine ⟨rfl, ?_⟩
          unfold tYes
          dsimp only
          rw [if_pos rfl]
          refine ⟨_, rfl, z, rfl, ok.nm z (List.mem_of_getElem? hz), fun H4 s4 => ⟨_, s4 _ _ e3, ?_, fun c o e => (upd_ne (ne_of_none e hD)).trans (s4 _ _ (s3 _ _ e)), ?_⟩⟩
          · rw [List.length_map, List.length_replicate]
            exact small1000 (by omega)
          · rw [upd_same, List.replicate_succ', List.map_append]
            rfl
        · rintro H3 ⟨s3, e3⟩
          exact fin D H3 _ s3 e3

    · intro D H3 n s3 e3
      refine ⟨D, _, rfl, .of e3, ?_⟩
      rw [all1]
      refine ⟨_, rfl, iteF ?_⟩
      have few := ok.few
      have hl3 := hl1.keep s3
      have lk : (txK zs).length = zs.length := List.length_map ..
      refine ⟨_, rfl, l, txK zs, rfl, by rw [txK_V]; exact hl3, txK_nd ok.nd, by omega, fun p hp => ?_⟩
      have s4 := Same.new (o := SetK P w p (GS.inK (txK zs)) (txK zs).length) hp
      refine ⟨p, _, _, rfl, upd_same, by omega, _, rfl, l, _, rfl, hl3.keep s4, rfl, _, rfl, ne_ifL (by rw [List.length_map, lk]) ?_⟩
      exact ⟨_, rfl, _, _, _, _, _, rfl, .ty _, .base (.dK (s4 _ _ (s3 _ _ (s1 _ _ hd)))), kit_ty (a := "dict") (b := "dict") (r := true) (by decide +kernel), _, rfl, iteF (q _ (s1.trans (s3.trans s4)))⟩
end
end G
set_option Elab.async false
set_option linter.all false
set_option maxRecDepth 100000
set_option maxHeartbeats 2000000
/-! DV: dicts whose keys are tuples: setdefault, list of the values. -/
namespace DvT
open PySem PySem.Spec PyProof.Rows L2
section
variable {prog : Program} {w : World} {A : Around} {E : Value → Shared → Prop} {s : Shared} {d : Addr} {es : Array DictEntry} {ep : Nat}
theorem vals_meet (hd : (d == sysModules) = false) :
    MeetsIn prog w (Builtin.«dict.values» ⟨[.ref d], []⟩) (fun _ R s => DT.Raw s.heap d es ep ∧ R (.ok (.ret (.ref s.heap.objs.size))) { s with heap := s.heap.push { cls := .type "dict_values", data := .fields #[.ref d] } }) :=
  .of_wp fun A R s ⟨z, q⟩ => by
    refine wpAny_bind ?_
    unfold Builtin.Dict.noArgs
    refine wpAny_bind (wpAny_notOrdered_dict z.typeIs ?_)
    show wpAny _ _ (pure d) _ _ s
    refine wpAny_pure (show wpAny _ _ (Builtin.Dict.showsAll d >>= _) _ _ s from ?_)
    unfold Builtin.Dict.showsAll
    rw [if_neg (by rw [hd]; exact Bool.false_ne_true)]
    exact wpAny_bind (wpAny_pure (wpAny_bind (wpAny_newObj_type (wpAny_pure ⟨_, rfl, q⟩))))
theorem vals_iter {v : Addr} {Q : Value → Shared → Prop} (hv : s.heap.IsValuesView v d) (z : DT.Raw s.heap d es ep)
    (q : Q (.ref s.heap.objs.size) { s with heap := s.heap.push { cls := .type "dict_valueiterator", data := .fields #[.ref d, .int 0 0, .int es.size 0, .int ep 0] } }) : wpAny (model prog w) A (pyIter (.ref v)) Q E s := by
  obtain ⟨ov, o1, o2, o3⟩ := id hv
  obtain ⟨od, z1, z2, z3⟩ := id z
  refine wpAny_pyIter_slot hv.typeIs PySem.F.slot_dict_values_iter (wpAny_call_entry PySem.F.slot_dict_values_iter hv.typeIs PySem.F.entry_dict_values_iter ?_ (PySem.F.args_dict_values_iter_1 _))
  unfold Builtin.«dict_values.__iter__»
  refine wpAny_bind (wpAny_pure (wpAny_bind ?_))
  unfold Builtin.Dict_items.dictOf
  refine wpAny_bind (wpAny_field o1 o3 (x := .ref d) rfl (wpAny_pure (wpAny_bind ?_)))
  unfold Builtin.Dict_items.newIterator
  refine wpAny_bind (wpAny_dictEntries z1 z3 (wpAny_bind (wpAny_dictEpoch z1 z3 ?_)))
  have own : Builtin.Dict_items.ownsTuple "dict_valueiterator" = false := by decide
  simp only [own, Bool.false_eq_true, if_false]
  refine wpAny_newObj_type (wpAny_pure ⟨_, rfl, "dict_valueiterator", _, ⟨_, Heap.get?_push_size _ rfl, rfl⟩, PySem.F.slot_dict_valueiterator_next.lookup, ?_⟩)
  simpa [rawInt] using q
theorem vals_next {it : Addr} {i : Nat} {en : DictEntry} {Q : Option Value → Shared → Prop} (hit : s.heap.IsValIter it d i es.size ep) (z : DT.Raw s.heap d es ep) (hx : es[i]? = some en)
    (q : ∀ h', h'.IsValIter it d (i + 1) es.size ep → Heap.SameBut it s.heap h' → Q (some en.val) { s with heap := h' }) : wpAny (model prog w) A (pyNext (.ref it)) Q E s := by
  obtain ⟨oi, i1, i2, i3⟩ := id hit
  obtain ⟨od, z1, z2, z3⟩ := id z
  unfold pyNext
  refine wpAny_bind (wpAny_attempt (wpAny_callSpecial?_slot (name := Str.ofString "__next__") hit.typeIs PySem.F.slot_dict_valueiterator_next (wpAny_call_entry PySem.F.slot_dict_valueiterator_next hit.typeIs PySem.F.entry_dict_valueiterator_next ?_ (PySem.F.args_dict_valueiterator_next_1 _))))
  refine wpAny_bind (wpAny_pure (wpAny_bind (wpAny_bind ?_)))
  first | refine wpAny_bind (wpAny_typeNameOfWhole_valiter hit.typeIs (wpAny_pure (wpAny_bind (wpAny_fieldsOf i1 i3 ?_)))) | refine wpAny_bind (wpAny_typeNameOf_valiter hit.typeIs (wpAny_pure (wpAny_bind (wpAny_fieldsOf i1 i3 ?_))))
  have own : Builtin.Dict_items.ownsTuple "dict_valueiterator" = false := by decide
  simp only [own, Bool.false_eq_true, if_false]
  show wpAny _ _ (if (Value.ref d == Value.none) = true then _ else _) _ _ s
  rw [if_neg (show ¬ ((Value.ref d == Value.none) = true) from Bool.false_ne_true)]
  refine wpAny_bind (wpAny_pure (wpAny_bind (wpAny_dictEntries z1 z3 ?_)))
  rw [if_neg (by simp)]
  refine wpAny_bind (wpAny_pure (wpAny_bind (wpAny_dictEpoch z1 z3 ?_)))
  rw [if_neg (by simp)]
  obtain ⟨lt, een⟩ := Array.getElem?_eq_some_iff.mp hx
  refine wpAny_pure ?_
  simp only [show ¬ ((i : Int) < 0) from by omega, if_false, Int.toNat_natCast, Array.getElem?_eq_getElem lt]
  refine wpAny_bind ?_
  first | refine wpAny_bind (wpAny_typeNameOfWhole_valiter hit.typeIs (wpAny_pure (wpAny_bind (wpAny_isOneOf_valiter hit.typeIs ?_)))) | refine wpAny_bind (wpAny_typeNameOf_valiter hit.typeIs (wpAny_pure (wpAny_bind (wpAny_isOneOf_valiter hit.typeIs ?_))))
  show wpAny _ _ (setField (.ref it) 1 (rawInt ((i : Int) + 1)) >>= _) _ _ s
  refine wpAny_bind (wpAny_setField i1 i3 (by simp) ?_)
  have hit' : (s.heap.update it (Obj.mapFields (·.setIfInBounds 1 (rawInt ((i : Int) + 1))))).IsValIter it d (i + 1) es.size ep :=
    ⟨_, Heap.get?_update_self _ i1 (Obj.isFreed_of_fields (Obj.data_mapFields i3 _)), (Obj.cls_mapFields ..).trans i2, by rw [Obj.data_mapFields i3]; simp [rawInt]⟩
  refine wpAny_bind (wpAny_holding (wpAny_bind (wpAny_isOneOf_valiter (s := { s with heap := s.heap.update it (Obj.mapFields (·.setIfInBounds 1 (rawInt ((i : Int) + 1)))) }) hit'.typeIs ?_)))
  refine wpAny_bind (wpAny_isOneOf_valiter (s := { s with heap := s.heap.update it (Obj.mapFields (·.setIfInBounds 1 (rawInt ((i : Int) + 1)))) }) hit'.typeIs ?_)
  show wpAny _ _ (pure es[i].val) _ _ _
  exact wpAny_pure (wpAny_pure ⟨_, rfl, wpAny_pure (by rw [een]; exact q _ hit' (Heap.SameBut.update ..))⟩)
theorem vals_end {it : Addr} {i : Nat} {Q : Option Value → Shared → Prop} (hh : A.handled = none) (hit : s.heap.IsValIter it d i es.size ep) (z : DT.Raw s.heap d es ep) (hx : es.size ≤ i)
    (q : ∀ h', Heap.ExtBut it s.heap h' → Q none { s with heap := h' }) : wpAny (model prog w) A (pyNext (.ref it)) Q E s := by
  obtain ⟨oi, i1, i2, i3⟩ := id hit
  obtain ⟨od, z1, z2, z3⟩ := id z
  unfold pyNext
  refine wpAny_bind (wpAny_attempt (wpAny_callSpecial?_slot (name := Str.ofString "__next__") hit.typeIs PySem.F.slot_dict_valueiterator_next (wpAny_call_entry PySem.F.slot_dict_valueiterator_next hit.typeIs PySem.F.entry_dict_valueiterator_next ?_ (PySem.F.args_dict_valueiterator_next_1 _))))
  refine wpAny_bind (wpAny_pure (wpAny_bind (wpAny_bind ?_)))
  first | refine wpAny_bind (wpAny_typeNameOfWhole_valiter hit.typeIs (wpAny_pure (wpAny_bind (wpAny_fieldsOf i1 i3 ?_)))) | refine wpAny_bind (wpAny_typeNameOf_valiter hit.typeIs (wpAny_pure (wpAny_bind (wpAny_fieldsOf i1 i3 ?_))))
  have own : Builtin.Dict_items.ownsTuple "dict_valueiterator" = false := by decide
  simp only [own, Bool.false_eq_true, if_false]
  show wpAny _ _ (if (Value.ref d == Value.none) = true then _ else _) _ _ s
  rw [if_neg (show ¬ ((Value.ref d == Value.none) = true) from Bool.false_ne_true)]
  refine wpAny_bind (wpAny_pure (wpAny_bind (wpAny_dictEntries z1 z3 ?_)))
  rw [if_neg (by simp)]
  refine wpAny_bind (wpAny_pure (wpAny_bind (wpAny_dictEpoch z1 z3 ?_)))
  rw [if_neg (by simp)]
  refine wpAny_pure ?_
  simp only [show ¬ ((i : Int) < 0) from by omega, if_false, Int.toNat_natCast, Array.getElem?_eq_none hx]
  refine wpAny_bind ?_
  first | refine wpAny_bind (wpAny_typeNameOfWhole_valiter hit.typeIs (wpAny_pure ?_)) | refine wpAny_bind (wpAny_typeNameOf_valiter hit.typeIs (wpAny_pure ?_))
  show wpAny _ _ (setField (.ref it) 0 .none >>= _) _ _ s
  refine wpAny_bind (wpAny_setField i1 i3 (by simp) ?_)
  show wpAny _ _ (newExc (.type "StopIteration") [] >>= _) _ _ _
  refine wpAny_bind ?_
  simp only [newExc, newTuple]
  refine wpAny_bind (wpAny_newObj_type ?_ (by size_fits))
  refine wpAny_bind (m := firstArgMember _ _) (wpAny_of_eq (a := Value.none) (by first | rfl | (simp only [firstArgMember]; rfl)) (wpAny_newObj_type ?_ (by size_fits)))
  simp only [raiseNew]
  refine wpAny_bind (wpAny_handled ?_)
  rw [show A.in1.handled = none from hh]
  refine wpAny_bind (wpAny_pure (wpAny_throw ?_))
  refine wpAny_bind (wpAny_isInstance (T := "StopIteration") (b := true) ⟨_, Heap.get?_push_size _ rfl, rfl⟩ isSubtype_stop ?_)
  exact wpAny_pure (q _ (((Heap.SameBut.update ..).extBut.push _).push _))
theorem vals_walk (hh : A.handled = none) (I : Addr) (hne : d ≠ I) : Walks prog w A I [I, d] [I] es.size (fun i v => ∃ en : DictEntry, es[i]? = some en ∧ v = en.val) (fun i h => h.IsValIter I d i es.size ep ∧ DT.Raw h d es ep) where
  sub := fun b hb => by simp at hb; simp [hb]
  frame := fun _ _ _ st hk => ⟨st.1.at fun o e => hk I (by simp) o e, st.2.at' fun o e => hk d (by simp) o e⟩
  item := fun i s Q E hi st hQ => by
    have hx : es[i]? = some es[i] := Array.getElem?_eq_getElem hi
    refine vals_next st.1 st.2 hx fun h' hit' sb => ?_
    exact hQ _ h' s.toks ⟨_, hx, rfl⟩ ⟨hit', st.2.at' fun o e => (sb.2 d hne).trans e⟩ fun b ob hb e => (sb.2 b (fun z => hb (by simp [z]))).trans e
  done := fun s Q E st hQ => vals_end hh st.1 st.2 (Nat.le_refl _) fun h' he' => hQ h' s.toks fun b ob hb e => he' b ob (fun z => hb (by simp [z])) e
  self := fun _ _ _ _ st hQ => wpAny_pyIter_valiter st.1 hQ
theorem vals_src {r : Addr} : PySem.W.KdlSrc prog w "dict_values" r d es.size (fun i v => ∃ en : DictEntry, es[i]? = some en ∧ v = en.val) (fun h => h.IsValuesView r d ∧ DT.Raw h d es ep) where
  type := fun _ hm => hm.1.typeIs
  there := fun _ hm => ⟨let ⟨_, ho, _⟩ := hm.1; Heap.lt_size ho, hm.2.lt⟩
  keep := fun _ _ hm hk => ⟨let ⟨o, ho, x⟩ := hm.1; ⟨o, hk r (.inl rfl) o ho, x⟩, hm.2.at' fun o e => hk d (.inr rfl) o e⟩
  notList := by decide
  notTuple := by decide
  hint := fun _ _ _ _ hm hq => PySem.W.kdl_hint_values hm.1.typeIs hq
  iter := fun _ _ hh hm => ⟨_, _, (fun _ _ hq => vals_iter hm.1 hm.2 hq), vals_walk hh _ (Nat.ne_of_lt hm.2.lt), ⟨⟨_, Heap.get?_push_size _ rfl, rfl, rfl⟩, hm.2.push _⟩⟩
end
/-- list(e.values()), the keys tuples -/
def rValsT : V → Hp → VK → Prop := fun x H Q => ∃ (d : Addr) (kvs : List (List Key × V)), x = .ref d ∧ H d = some (.dT kvs) ∧ ∀ p, H p = none → Q (.ref p) (upd H p (.lst (kvs.map (·.2))))
def tValsT (te : TE) : TE := fun σ H Q => te σ H fun x H1 => rValsT x H1 Q
section
variable {X : Cx} {e : Expr} {te : TE} {p apos cpos pos : Pos}
theorem kt_vals {H : Hp} {kvs : List (List Key × V)} {xs : List (List Key × Addr × Value)} (r : KT H kvs xs) : Vals (kvs.map (·.2)) (xs.map fun x => x.2.2) := by
  unfold KT at r
  induction r with
  | nil => exact .nil
  | cons h t ih => exact .cons h.2.2 ih
theorem pe_valsT (hc : X.calm = true) (he : PE X e te) (hg : Gl X "list") (hm : X.mg "list" = none) (hv : bootBuiltins "list" = some (.type "list")) (hbase : attributeBase e "values" X.env (eval e X.env) = eval e X.env := by rfl) (hline : (apos.endLine == cpos.line) = true := by rfl)
    (hs : starEach [.Call (.Attribute e "values" apos) [] [] cpos] X.env = (false, eval (.Call (.Attribute e "values" apos) [] [] cpos) X.env) :: starEach [] X.env := by rfl) :
    PE X (.Call (.Name "list" p) [.Call (.Attribute e "values" apos) [] [] cpos] [] pos) (tValsT te) := by
  refine ⟨fun pins s σ H Q I hq => ?_⟩
  refine wpAny_Call_Name_kw (ld_blt I hg hm hv (PyProof.Rows.callWith_type1 ?_ hs rfl))
  rw [hs]
  show wpAny _ _ (spliced ((false, eval (.Call (.Attribute e "values" apos) [] [] cpos) X.env) :: backTo pos (starEach [] X.env))) _ _ s
  refine Calls.spliced_cons (wpAny_Call_method (T := "dict") (id := "dict.values") hbase rfl hline PySem.F.plainAttrs_dict PySem.F.slot_dict_values PySem.F.type_dict_values (thn (he.run pins s σ H _ I hq) fun u s1 ⟨x, H1, I1, rx, d, kvs, ex, hd, q⟩ => ?_))
  subst ex
  obtain rfl : u = Value.ref d := rx
  obtain ⟨z, hs0, ks, pr, o, es, ep, ho, hx, hdt, hent, hnd⟩ := (show ObjOk X.prog X.w H1 s1.heap d (.dT kvs) from I1.hok d _ hd)
  have hraw : DT.Raw s1.heap d es ep := ⟨o, ho, hx, hdt⟩
  have l1 : es.size = ks.length := size_of_entries hent
  have l2 : kvs.length = ks.length := Paired.length pr
  refine ⟨hraw.typeIs, fun b e => ?_, ?_⟩
  · cases e
    exact ⟨o, ho, hx.2.1⟩
  show wpAny _ _ (callWith cpos (.builtin "dict.values") [.ref d] [] []) _ X.xe s1
  refine method_meetsIn PySem.F.slot_dict_values PySem.F.entry_dict_values rfl (PySem.evalArgs_none ⟨rfl, hraw.typeIs, PySem.F.args_dict_values_1 _, _, vals_meet (es := es) (ep := ep) hs0, hraw, ?_⟩)
  refine Calls.spliced_nil ?_
  have I2 : Inv X pins σ H1 { s1 with heap := s1.heap.push { cls := .type "dict_values", data := .fields #[.ref d] } } := I1.kept (t' := s1.toks) fun b ob q => Heap.get?_push_of_some _ q
  refine PySem.W.kdl_call (vals_src (d := d) (es := es) (ep := ep)) (I1.ok.hd hc) ⟨⟨_, Heap.get?_push_size _ rfl, rfl, rfl⟩, hraw.push _⟩ (by omega) fun h' tk acc c' kp ge ia => ?_
  have ea : acc.toList = ks.map fun x => x.2.2 := by
    have hl : acc.toList.length = ks.length := by rw [Array.length_toList, ia.1]; exact l1
    apply List.ext_getElem?
    intro j
    rw [List.getElem?_map]
    cases hj : acc.toList[j]? with
    | none =>
      rw [List.getElem?_eq_none (by have := List.getElem?_eq_none_iff.mp hj; omega)]
      all_goals rfl
    | some v =>
      obtain ⟨en, hen, hv⟩ := ia.2 j v (by rw [← Array.getElem?_toList]; exact hj)
      have qe := entry_at hent j
      rw [hen] at qe
      cases hb : ks[j]? with
      | none =>
        rw [hb] at qe
        exact nomatch (show some en = none from qe)
      | some b =>
        rw [hb] at qe
        have e2 : en = entryOfKey (tupleKind (mixKind X.prog X.w)) b := Option.some.inj qe
        rw [hv, e2]
        all_goals rfl
  have rv : Vals (kvs.map (·.2)) acc.toList := by
    rw [ea]
    exact kt_vals pr
  refine ⟨.ref _, _, I2.laid (t' := tk) (o := .lst (kvs.map (·.2))) kp (Nat.le_refl _) ?_, rfl, q _ (I2.hok.fresh (Nat.le_refl _))⟩
  exact ⟨by rw [List.length_map]; omega, acc.toList, c', rv, by rw [Array.toArray_toList]; exact ge⟩
end
/-- d.setdefault(y, z), y a tuple -/
def tSetdT (td ty tx : TE) : TE := fun σ H Q => td σ H fun x H1 => ∃ a, x = .ref a ∧ IsD H1 a ∧ ty σ H1 fun y H2 => tx σ H2 fun z H3 => ∃ (kvs : List (List Key × V)) (k : List Key) (b : Addr), H3 a = some (.dT kvs) ∧ y = .ref b ∧ H3 b = some (.tup (k.map kV)) ∧ kvs.length < sizeLine ∧
  (∀ v, valV kvs k = some v → Q v H3) ∧ (valV kvs k = none → Q z (upd H3 a (.dT (putK kvs k z))))
section
variable {X : Cx} {pins : List (Addr × Obj)} {σ : L2.St} {H : Hp} {s : Shared} {a b : Addr} {u r : Value} {d : V} {k : List Key} {A : Around} {E : Value → Shared → Prop}
theorem setd_t {kvs : List (List Key × V)} {Q : Value → Shared → Prop} (hu : A.units + 1 < cLine) (I : Inv X pins σ H s) (e : H a = some (.dT kvs)) (eb : H b = some (.tup (k.map kV))) (rd : RelV d r) (hl : kvs.length < sizeLine)
    (h1 : ∀ v, valV kvs k = some v → ∀ (w' : Value) (s' : Shared), Inv X pins σ H s' → RelV v w' → Q w' s') (h2 : valV kvs k = none → ∀ (w' : Value) (s' : Shared), Inv X pins σ (upd H a (.dT (putK kvs k d))) s' → RelV d w' → Q w' s') :
    wpAny (model X.prog X.w) A (call (.builtin "dict.setdefault") [.ref a, .ref b, r]) Q E s := by
  obtain ⟨z, hd, xs, rel, dd⟩ := dt_of I.hok e
  have hz : xs.length ≤ sizeLine := by rw [← Paired.length rel]; exact z
  refine call_setdefault_heap (hsz := hz) (tupleKind_room_in1 hu) (key_of I.hok eb) hd dd (fun p hp => ?_) fun hn h' dd' hs => ?_
  · have rr := rel.val k
    rw [hp] at rr
    cases ev : valV kvs k with
    | none =>
      rw [ev] at rr
      exact (show False from rr).elim
    | some v0 =>
      rw [ev] at rr
      exact h1 v0 ev _ _ (I.tok _) rr
  · have rr := rel.val k
    rw [hn] at rr
    cases ev : valV kvs k with
    | some v0 =>
      rw [ev] at rr
      exact (show False from rr).elim
    | none =>
      have hl2 : (putK kvs k d).length ≤ sizeLine := by
        have := length_putK kvs k d
        omega
      obtain ⟨q, es, ep, hq, g2, g3, g4, _, g5⟩ := dd'
      refine h2 ev _ _ (d_write (t' := s.toks + (tupleKind (mixKind X.prog X.w)).draws k) I (by rw [e]; exact True.intro) hs ⟨q, hq⟩ ⟨hl2, hd, _, (rel.put k eb rd).keeps fun c ys ec => ?_, q, es, ep, hq, g2, g3, g4, g5⟩) rd
      rw [upd_ne (ne_of ec e (fun y => nomatch y))]
      exact ec
end
section
variable {X : Cx} {o e f : Expr} {td ty tx : TE} {apos cpos : Pos}
theorem pe_setdT (hu : X.A.units + 2 < cLine) (ho : PE X o td) (he : PE X e ty) (hf : PE X f tx) (m : M2 X o "setdefault" apos e f cpos) : PE X (.Call (.Attribute o "setdefault" apos) [e, f] [] cpos) (tSetdT td ty tx) := by
  refine ⟨fun pins s σ H Q I h => ?_⟩
  refine wpAny_Call_method m.base m.few m.line PySem.F.plainAttrs_dict PySem.F.slot_dict_setdefault PySem.F.type_dict_setdefault (thn (ho.run pins s σ H _ I h) fun u s1 ⟨x, H1, I1, rx, a, ex, d, q1⟩ => ?_)
  subst ex
  obtain rfl : u = Value.ref a := rx
  obtain ⟨t1, t2, _⟩ := isD_at I1 d
  refine ⟨t1, t2, ?_⟩
  rw [m.trees]
  refine Calls.callWith_builtin rfl (Calls.evalArgs_plain (Calls.spliced_cons (thn (he.run pins s1 σ H1 _ I1 q1) fun iv s2 ⟨y, H2, I2, ry, q2⟩ =>
    Calls.spliced_cons (thn (hf.run pins s2 σ H2 _ I2 q2) fun fv s3 ⟨z, H3, I3, rz, kvs, k, b, ea, ey, eb, hl, q3, q4⟩ => Calls.spliced_nil ?_))))
  subst ey
  obtain rfl : iv = Value.ref b := ry
  exact setd_t (by exact Nat.lt_of_succ_lt hu) I3 ea eb rz hl (fun v hv w' s4 I4 rw' => ⟨v, _, I4, rw', q3 v hv⟩) fun hn w' s4 I4 rw' => ⟨z, _, I4, rw', q4 hn⟩
end
end DvT
set_option Elab.async false
set_option linter.all false
set_option maxRecDepth 100000
set_option maxHeartbeats 4000000
/-! SH2: answers made whole, first_ones. -/
namespace G
open PySem PySem.Spec PyProof.Rows L2 NdefX DvT
abbrev sAnsOf : Stmt := topS 14
abbrev sFullA : Stmt := topS 15
abbrev sItemA : Stmt := topS 16
abbrev sAnsFor : Stmt := topS 22
abbrev sFullAs : Stmt := topS 23
theorem scAnsOf : FnScope ["value"] ["value"] (defScope sAnsOf) := ⟨rfl, rfl, rfl, by decide +kernel, rfl, by decide +kernel, by decide +kernel⟩
theorem scFullA : FnScope ["value", "item"] ["value"] (defScope sFullA) := ⟨rfl, rfl, rfl, by decide +kernel, rfl, by decide +kernel, by decide +kernel⟩
theorem scItemA : FnScope ["value"] ["value"] (defScope sItemA) := ⟨rfl, rfl, rfl, by decide +kernel, rfl, by decide +kernel, by decide +kernel⟩
theorem scAnsFor : FnScope ["row", "answers"] ["row", "answers"] (defScope sAnsFor) := ⟨rfl, rfl, rfl, by decide +kernel, rfl, by decide +kernel, by decide +kernel⟩
theorem scFullAs : FnScope ["rows", "answers", "row"] ["rows", "answers"] (defScope sFullAs) := ⟨rfl, rfl, rfl, by decide +kernel, rfl, by decide +kernel, by decide +kernel⟩
/-! ### what is walked: a list or a tuple, one way -/
def iLW (K : PySem.W.Frag) (tl : TE) : TI := fun σ H R => tl σ H fun x H1 => ∃ a xs, x = .ref a ∧ SqLT K H1 a xs ∧ ∀ (J : It) (G : Hp → Prop), Walk J xs.length G (YAt xs) → (∀ H2, (SqL K H1 a xs → SqL K H2 a xs) → (SqT K H1 a xs → SqT K H2 a xs) → G H2) → R J H1
theorem sqL_off {K : PySem.W.Frag} {H H' : Hp} {D l : Addr} {kvs : List (List Key × V)} {xs : List V} (hd : H D = some (.dT kvs)) (k : ∀ c o, c ≠ D → H c = some o → H' c = some o) : SqL K H l xs → SqL K H' l xs
  | .inl (.inl h) => .inl (.inl (k _ _ (ne_of h hd (fun z => nomatch z)) h))
  | .inl (.inr ⟨o, h⟩) => .inl (.inr ⟨o, k _ _ (ne_of h hd (fun z => nomatch z)) h⟩)
  | .inr h => .inr h
theorem sqT_off {K : PySem.W.Frag} {H H' : Hp} {D l : Addr} {kvs : List (List Key × V)} {xs : List V} (hd : H D = some (.dT kvs)) (k : ∀ c o, c ≠ D → H c = some o → H' c = some o) : SqT K H l xs → SqT K H' l xs
  | .inl (.inl h) => .inl (.inl (k _ _ (ne_of h hd (fun z => nomatch z)) h))
  | .inl (.inr ⟨o, h⟩) => .inl (.inr ⟨o, k _ _ (ne_of h hd (fun z => nomatch z)) h⟩)
  | .inr h => .inr h
theorem pi_lw {X : Cx} {tg l : Expr} {tl : TE} (hl : PE X l tl) : PI X tg l (iLW X.K tl) := by
  refine ⟨fun pins s σ H R I h => ?_⟩
  refine thn (hl.run pins s σ H _ I h) fun v s1 ⟨x, H1, I1, r1, a, xs, e, k, q⟩ => ?_
  subst e
  obtain rfl : v = Value.ref a := r1
  have fp : ∀ b ∈ [s1.heap.objs.size], _ := fun b hb => by
    obtain rfl : b = s1.heap.objs.size := by simpa using hb
    exact I1.fpOk (Nat.le_refl _) (I1.hok.fresh (Nat.le_refl _))
  rcases k with hq | hq
  · obtain ⟨its, rv, pl, _⟩ := I1.list hq
    refine wpAny_pyIter_list pl.isList ⟨s1.heap.objs.size, [s1.heap.objs.size], _, _, H1, rfl, ?_, turn_list a _, ?_, fp, q _ _ walk_list fun H2 s2 _ => s2 hq⟩
    · exact I1.kept (t' := s1.toks) fun b o e => Heap.get?_push_of_some _ e
    · exact ⟨_, Heap.get?_push_size _ rfl, rfl, rfl⟩
  · obtain ⟨its, rv, pl, _⟩ := I1.tuple hq
    refine wpAny_pyIter_tuple (show s1.heap.IsTuple a its.toArray from pl) ⟨s1.heap.objs.size, [s1.heap.objs.size], _, _, H1, rfl, ?_, turn_tuple a _, ?_, fp, q _ _ walk_tup fun H2 _ s2 => s2 hq⟩
    · exact I1.kept (t' := s1.toks) fun b o e => Heap.get?_push_of_some _ e
    · exact ⟨_, Heap.get?_push_size _ rfl, rfl, rfl⟩
theorem dc_it {J : It} {n : Nat} {G : Hp → Prop} {Y : Nat → Hp → V → Hp → Prop} (w : Walk J n G Y) {g : TG} {tt : TT} {tk tv : TE} {vs : List Nat} {σ : L2.St} {H1 : Hp} {D : Addr} {Qd : Hp → Prop} (Pv : Nat → Hp → Prop) (h0 : Pv 0 (upd H1 D (.dK []))) (hG : ∀ i H, i ≤ n → Pv i H → G H)
    (hs : ∀ i x H H', i < n → Pv i H → Y i H x H' → g x (wipe σ vs) H' fun σ2 H2 => wipe σ2 vs = wipe σ vs ∧ tt σ2 H2 fun b H3 =>
      if b = true then tk σ2 H3 fun y H4 => tv σ2 H4 fun z H5 => ∃ kvs k, y = kV k ∧ H5 D = some (.dK kvs) ∧ kvs.length < sizeLine ∧ Pv (i + 1) (upd H5 D (.dK (putK kvs k z))) else Pv (i + 1) H3) (hd : ∀ H, Pv n H → Qd H) :
    ∃ W : Nat → Nat → Hp → Prop, (∃ m, W 0 m (upd H1 D (.dK []))) ∧ ∀ i m H, W i m H →
      (J.stop i H ∧ Qd H) ∨ (J.go i H ∧ ∃ Nx : Hp → Prop, (∀ H', Nx H' → ∃ m', m' < m ∧ W (i + 1) m' H') ∧ ∀ x H', J.yld i H x H' → g x (wipe σ vs) H' fun σ2 H2 => wipe σ2 vs = wipe σ vs ∧ tt σ2 H2 fun b H3 =>
        if b = true then tk σ2 H3 fun y H4 => tv σ2 H4 fun z H5 => ∃ kvs k, y = kV k ∧ H5 D = some (.dK kvs) ∧ kvs.length < sizeLine ∧ Nx (upd H5 D (.dK (putK kvs k z))) else Nx H3) := by
  refine ⟨fun i m H => m = n - i ∧ i ≤ n ∧ Pv i H, ⟨n, by simp, Nat.zero_le _, h0⟩, ?_⟩
  rintro i m H ⟨rfl, hi, p⟩
  have q := hG i H hi p
  by_cases hlt : i < n
  · exact .inr ⟨w.goes i H hlt q, Pv (i + 1), fun H' p' => ⟨n - (i + 1), by omega, rfl, hlt, p'⟩, fun x H' y => hs i x H H' hlt p (w.yields i H x H' hlt q y)⟩
  · have e : i = n := by omega
    subst e
    exact .inl ⟨w.stops H q, hd H p⟩
/-! ### answers -/
def OkI (n : Int) : Prop := -9999 ≤ n ∧ n ≤ 9999
/-- v is an answer, ns what it stands for -/
def AnsAt (H : Hp) (v : V) (ns : List Int) : Prop := ((∃ i, v = .int i ∧ ns = [i]) ∨ ∃ a, v = .ref a ∧ H a = some (.tup (ns.map V.int)) ∧ 1 ≤ ns.length ∧ ns.length ≤ 3) ∧ ∀ n ∈ ns, OkI n
theorem AnsAt.at {H H' : Hp} {v : V} {ns : List Int} (h : AnsAt H v ns) (k : ∀ a xs, H a = some (.tup xs) → H' a = some (.tup xs)) : AnsAt H' v ns := by
  obtain ⟨h1 | ⟨a, e, ha, l⟩, h2⟩ := h
  · exact ⟨.inl h1, h2⟩
  · exact ⟨.inr ⟨a, e, k _ _ ha, l⟩, h2⟩
theorem AnsAt.same {H H' : Hp} {v : V} {ns : List Int} (h : AnsAt H v ns) (s : Same H H') : AnsAt H' v ns := h.at fun a _ e => s a _ e
/-- an answer of each row -/
structure AnsOf (H : Hp) (d : Addr) (kvs : List (Key × V)) (zs : List Str) (an : Str → List Int) : Prop where
  d : H d = some (.dK kvs)
  is : ∀ z ∈ zs, ∃ v, valV kvs (Sum.inr z) = some v ∧ AnsAt H v (an z)
theorem AnsOf.same {H H' : Hp} {d : Addr} {kvs : List (Key × V)} {zs : List Str} {an : Str → List Int} (h : AnsOf H d kvs zs an) (s : Same H H') : AnsOf H' d kvs zs an :=
  ⟨s _ _ h.d, fun z hz => let ⟨v, e, a⟩ := h.is z hz; ⟨v, e, a.same s⟩⟩
/-- the whole answer of each row -/
structure WholeOf (H : Hp) (d : Addr) (kvs : List (Key × V)) (zs : List Str) (an : Str → List Int) : Prop where
  d : H d = some (.dK kvs)
  is : ∀ z ∈ zs, ∃ T, valV kvs (Sum.inr z) = some (.ref T) ∧ H T = some (.tup ((an z).map V.int))
theorem WholeOf.same {H H' : Hp} {d : Addr} {kvs : List (Key × V)} {zs : List Str} {an : Str → List Int} (h : WholeOf H d kvs zs an) (s : Same H H') : WholeOf H' d kvs zs an :=
  ⟨s _ _ h.d, fun z hz => let ⟨T, e, a⟩ := h.is z hz; ⟨T, e, s _ _ a⟩⟩
def spItemA : Sp := fun vs H Q _ => ∃ i : Int, vs = [.int i] ∧ OkI i ∧ Q (.bl true) H
def spFullA : Sp := fun vs H Q _ => (∃ i : Int, vs = [.int i] ∧ Q (.bl false) H) ∨ ∃ (a : Addr) (ns : List Int), vs = [.ref a] ∧ H a = some (.tup (ns.map V.int)) ∧ 1 ≤ ns.length ∧ ns.length ≤ 3 ∧ (∀ n ∈ ns, OkI n) ∧ ∀ H', Same H H' → Q (.bl true) H'
def spAnsOf : Sp := fun vs H Q _ => ∃ (v : V) (ns : List Int), vs = [v] ∧ AnsAt H v ns ∧ ∀ (T : Addr) (H' : Hp), Same H H' → H' T = some (.tup (ns.map V.int)) → Q (.ref T) H'
def spAnsFor : Sp := fun vs H Q _ => ∃ (z : Str) (d : Addr) (kvs : List (Key × V)) (v : V), vs = [.str z, .ref d] ∧ H d = some (.dK kvs) ∧ valV kvs (Sum.inr z) = some v ∧ Q v H
def spFullAs (K : PySem.W.Frag) : Sp := fun vs H Q _ => ∃ (l d : Addr) (zs : List Str) (kvs : List (Key × V)) (an : Str → List Int), vs = [.ref l, .ref d] ∧ SqLT K H l (zs.map V.str) ∧ RowsOk zs ∧ AnsOf H d kvs zs an ∧
  ∀ (p : Addr) (H' : Hp) (fk : List (Key × V)), Same H H' → H p = none → WholeOf H' p fk zs an → Q (.ref p) H'
/-! ### the first rows -/
def addF (an : Str → List Int) (acc : List (List Int × Str)) (z : Str) : List (List Int × Str) := if an z ∈ acc.map (·.1) then acc else acc ++ [(an z, z)]
def accF (an : Str → List Int) (zs : List Str) : List (List Int × Str) := zs.foldl (addF an) []
def firstsOf (an : Str → List Int) (zs : List Str) : List Str := (accF an zs).map (·.2)
theorem accF_snoc (an : Str → List Int) (zs : List Str) (z : Str) : accF an (zs ++ [z]) = addF an (accF an zs) z := by
  unfold accF
  rw [List.foldl_append]
  rfl
theorem take_snoc {zs : List Str} {i : Nat} {z : Str} (h : zs[i]? = some z) : zs.take (i + 1) = zs.take i ++ [z] := by
  rw [List.take_add_one, h]
  rfl
theorem accF_len (an : Str → List Int) : ∀ (zs : List Str) (acc : List (List Int × Str)), (zs.foldl (addF an) acc).length ≤ acc.length + zs.length
  | [], _ => Nat.le_refl _
  | z :: zs, acc => by
    have h := accF_len an zs (addF an acc z)
    have h2 : (addF an acc z).length ≤ acc.length + 1 := by
      unfold addF
      split
      · exact Nat.le_succ _
      · rw [List.length_append]
        exact Nat.le_refl _
    rw [List.foldl_cons, List.length_cons]
    omega
def kI (ns : List Int) : List Key := ns.map Sum.inl
theorem kI_V (ns : List Int) : (kI ns).map kV = ns.map V.int := by
  unfold kI
  rw [List.map_map]
  rfl
theorem kI_inj : ∀ {ns ms : List Int}, kI ns = kI ms → ns = ms
  | [], [], _ => rfl
  | [], _ :: _, h => by cases h
  | _ :: _, [], h => by cases h
  | n :: ns, m :: ms, h => by
    injection h with h1 h2
    injection h1 with h1
    rw [h1, kI_inj h2]
def accK (acc : List (List Int × Str)) : List (List Key × V) := acc.map fun p => (kI p.1, V.str p.2)
theorem accK_vals (acc : List (List Int × Str)) : (accK acc).map (·.2) = (acc.map (·.2)).map V.str := by
  unfold accK
  rw [List.map_map, List.map_map]
  rfl
theorem accK_in {ns : List Int} : ∀ {acc : List (List Int × Str)}, ns ∈ acc.map (·.1) → ∃ v, valV (accK acc) (kI ns) = some v
  | [], h => nomatch h
  | p :: acc, h => by
    by_cases e : kI p.1 = kI ns
    · exact ⟨_, valV_pos (p := (kI p.1, V.str p.2)) e⟩
    · have e2 : ns ≠ p.1 := fun z => e (by rw [z])
      rcases List.mem_cons.mp h with z | z
      · exact (e2 z).elim
      · obtain ⟨v, hv⟩ := accK_in (acc := acc) z
        exact ⟨v, (valV_neg (p := (kI p.1, V.str p.2)) e).trans hv⟩
theorem accK_out {ns : List Int} : ∀ {acc : List (List Int × Str)}, ns ∉ acc.map (·.1) → valV (accK acc) (kI ns) = none
  | [], _ => rfl
  | p :: acc, h => by
    have e : ¬ kI p.1 = kI ns := fun z => h (List.mem_cons.mpr (.inl (kI_inj z).symm))
    exact (valV_neg (p := (kI p.1, V.str p.2)) e).trans (accK_out fun z => h (List.mem_cons_of_mem _ z))
theorem same_off {H0 H H' : Hp} {D : Addr} (h0 : H0 D = none) (s : Same H0 H) (k : ∀ c, c ≠ D → H' c = H c) : Same H0 H' := fun c o e => by
  rw [k c (ne_of_none e h0)]
  exact s c o e
theorem rpAll_ints {K : PySem.W.Frag} {H : Hp} : ∀ ns : List Int, RpAll K H (ns.map V.int) (ns.map PyData.int)
  | [] => .nil
  | n :: ns => .cons (.int n) (rpAll_ints ns)
section
variable {P : Program} {w : World} {K : PySem.W.Frag} {mg : Str → Option Value} {base : Heap}
theorem ok_itemA {f fI : Addr} {fd fdI : FuncData} {t : Tok} (F : Fun K "is_answer_item" "is_answer_item" sItemA f fd) (GI : FnOk P w K mg base CX0 1 fI fdI ["value", "low", "high"] spIsInt) (gI : mg "is_integer" = some (.ref fI)) (kI : PySem.W.keepIn K (.ref fI) = true) (bI : Binds K fdI ["value", "low", "high"] [])
    (gG : mg "GREATEST_IN_ANSWER" = some (.int 9999 t)) : FnOk P w K mg base CX0 2 f fd ["value"] spItemA := by
  refine F.ok scItemA (fun vs H Q E h => ?_) (fun cdv A outer s H vs Q E hr h => ?_)
  · obtain ⟨i, rfl, _⟩ := h
    rfl
  · obtain ⟨i, rfl, ⟨h1, h2⟩, q⟩ := h
    refine ⟨_, pss_one (ps_ret (pe_call GI hr rfl gI kI bI .nil pass0 (pa_cons (pv 0) (pa_cons (pe_un un_neg (pe_glob (v := .int 9999) rfl gG ⟨_, rfl⟩)) (pa_cons (pe_glob (v := .int 9999) rfl gG ⟨_, rfl⟩) pa_nil))))), ?_⟩
    refine ⟨_, rfl, _, rfl, i, -9999, 9999, rfl, ?_⟩
    rw [decide_eq_true h1, decide_eq_true h2]
    exact q
theorem ok_fullA {f fI : Addr} {fd fdI : FuncData} {t : Tok} (F : Fun K "is_full_answer" "is_full_answer" sFullA f fd) (GI : FnOk P w K mg base CX0 2 fI fdI ["value"] spItemA) (gI : mg "is_answer_item" = some (.ref fI)) (kI : PySem.W.keepIn K (.ref fI) = true) (bI : Binds K fdI ["value"] [])
    (gM : mg "MOST_IN_ANSWER" = some (.int 3 t)) (mi : mg "isinstance" = none) (mt : mg "tuple" = none) (ml : mg "len" = none) (ma : mg "all" = none) : FnOk P w K mg base CX0 3 f fd ["value"] spFullA := by
  refine F.ok scFullA (fun vs H Q E h => ?_) (fun cdv A outer s H vs Q E hr h => ?_)
  · rcases h with ⟨i, rfl, _⟩ | ⟨a, ns, rfl, _⟩ <;> rfl
  · refine ⟨_, pss_cons (ps_if (PW.pt (pw_or (pt_not (pt_val (pt_isi "tuple" (pv 0) (hm := mi) (mn := mt)))) (pw_or1 (pt_not (pt_chain op_le op_le pe_int (pe_callB call_len_seq (by rfl) ml PySem.boot_len (pa_cons (pv 0) pa_nil)) (pe_glob (v := .int 3) rfl gM ⟨_, rfl⟩))))))
        (pss_one (ps_ret pe_bl)) pss_nil)
      (pss_one (ps_ret (pe_callB (cr_all rfl) (by rfl) ma (by decide +kernel) (pa_cons (pe_lc (own := [("item", 1)]) (g := gName 1) (tt := tYes) (by rfl) scFullA.nd (pi_tup (pv 0))
        (blkOk_by (own := [("item", 1)]) (N := ["value", "item"]) (sc := defScope sFullA) (by decide +kernel)) (fun _ _ _ _ _ => pg_name (i := 1) scFullA.nd rfl (.inl rfl)) (fun _ _ _ _ _ => pts_nil)
        (fun _ _ _ _ _ => pe_call GI hr rfl gI kI bI .nil pass0 (pa_cons (pv 1) pa_nil))) pa_nil)))), ?_⟩
    rcases h with ⟨i, rfl, q⟩ | ⟨a, ns, rfl, ha, l1, l3, ok, q⟩
    · have hR : Rp K H (.int i) (.int i) := .int i
      exact ⟨_, rfl, _, _, _, _, _, rfl, .ty _, rp_ty hR, kit_t (.int i), _, rfl, iteT (iteT q)⟩
    · have hR : Rp K H (.ref a) (.tuple (ns.map PyData.int)) := .tup ha (rpAll_ints ns)
      have ll : (ns.map V.int).length = ns.length := List.length_map ..
      refine ⟨_, rfl, _, _, _, _, _, rfl, .ty _, rp_ty hR, kit_t (.tuple (ns.map PyData.int)), _, rfl, iteF ?_⟩
      refine ⟨_, rfl, a, _, rfl, .inr (.of ha), _, _, rfl, rfl, _, rfl, ?_⟩
      rw [decide_eq_true (show (1 : Int) ≤ ((ns.map V.int).length : Int) by omega)]
      refine iteT ⟨_, _, rfl, rfl, _, rfl, ?_⟩
      rw [decide_eq_true (show ((ns.map V.int).length : Int) ≤ 3 by omega)]
      refine iteF ?_
      refine ⟨_, rfl, a, rfl, ⟨_, .of ha⟩, fun D hD => ?_⟩
      refine lc_tup (a := a) (xs := ns.map V.int) (fun i H2 => Same H H2 ∧ H2 D = some (.lst ((List.replicate i true).map V.bl))) ?_ ?_ ?_ ?_
      · exact ⟨Same.new hD, upd_same⟩
      · exact fun i H2 _ h2 => .of (h2.1 _ _ ha)
      · rintro i x H2 hx ⟨s2, e2⟩
        rw [List.getElem?_map] at hx
        obtain ⟨n, hn, rfl⟩ := Option.map_eq_some_iff.mp hx
        have hi : i < ns.length := (List.getElem?_eq_some_iff.mp hn).1
        refine ⟨rfl, ?_⟩
        unfold tYes
        dsimp only
        rw [if_pos rfl]
        refine ⟨_, rfl, n, rfl, ok n (List.mem_of_getElem? hn), _, e2, ?_, fun c o e => (upd_ne (ne_of_none e hD)).trans (s2 _ _ e), ?_⟩
        · rw [List.length_map, List.length_replicate]
          exact small1000 (by omega)
        · rw [upd_same, List.replicate_succ', List.map_append]
          rfl
      · rintro H2 ⟨s2, e2⟩
        refine ⟨D, _, rfl, .of e2, ?_⟩
        rw [show (List.replicate (ns.map V.int).length true).all id = true from List.all_eq_true.mpr fun x hx => by
          rw [(List.mem_replicate.mp hx).2]
          rfl]
        exact q H2 s2
theorem ok_ansOf {f fF fI : Addr} {fd fdF fdI : FuncData} (F : Fun K "answer_of" "answer_of" sAnsOf f fd) (GF : FnOk P w K mg base CX0 3 fF fdF ["value"] spFullA) (gF : mg "is_full_answer" = some (.ref fF)) (kF : PySem.W.keepIn K (.ref fF) = true) (bF : Binds K fdF ["value"] [])
    (GI : FnOk P w K mg base CX0 2 fI fdI ["value"] spItemA) (gI : mg "is_answer_item" = some (.ref fI)) (kI : PySem.W.keepIn K (.ref fI) = true) (bI : Binds K fdI ["value"] []) : FnOk P w K mg base CX0 4 f fd ["value"] spAnsOf := by
  refine F.ok scAnsOf (fun vs H Q E h => ?_) (fun cdv A outer s H vs Q E hr h => ?_)
  · obtain ⟨v, ns, rfl, _⟩ := h
    rfl
  · obtain ⟨v, ns, rfl, ⟨k, ok⟩, q⟩ := h
    refine ⟨_, pss_cons (ps_if (pt_val (pe_call GF hr rfl gF kF bF .nil pass0 (pa_cons (pv 0) pa_nil))) (pss_one (ps_ret (pv 0))) pss_nil)
      (pss_cons (ps_if (pt_val (pe_call GI (hr.mono (by decide)) rfl gI kI bI .nil pass0 (pa_cons (pv 0) pa_nil))) (pss_one (ps_ret (pe_tup (pa_cons (pv 0) pa_nil)))) pss_nil)
      (pss_one ps_never)), ?_⟩
    rcases k with ⟨i, rfl, rfl⟩ | ⟨a, rfl, ha, l1, l3⟩
    · refine ⟨_, rfl, .inl ⟨i, rfl, _, rfl, iteF ?_⟩⟩
      refine ⟨_, rfl, i, rfl, ok i List.mem_cons_self, _, rfl, iteT ?_⟩
      exact ⟨_, rfl, (by show 1 ≤ sizeLine; decide), fun T hT => q T _ (Same.new hT) upd_same⟩
    · refine ⟨_, rfl, .inr ⟨a, ns, rfl, ha, l1, l3, ok, fun H1 s1 => ⟨_, rfl, iteT ?_⟩⟩⟩
      exact ⟨_, rfl, q a H1 s1 (s1 _ _ ha)⟩
theorem ok_ansFor {f : Addr} {fd : FuncData} (F : Fun K "answer_for" "answer_for" sAnsFor f fd) : FnOk P w K mg base CX0 1 f fd ["row", "answers"] spAnsFor := by
  refine F.ok scAnsFor (fun vs H Q E h => ?_) (fun cdv A outer s H vs Q E hr h => ?_)
  · obtain ⟨z, d, kvs, v, rfl, _⟩ := h
    rfl
  · obtain ⟨z, d, kvs, v, rfl, hd, hv, q⟩ := h
    refine ⟨_, pss_cons (ps_if (pt_cmp (pc_dnotin (hu_of hr) (pv 0) (pv 1)) rfl) (pss_one ps_never) pss_nil) (pss_one (ps_ret (pe_dget (hu_of hr) (pv 1) (pv 0) (fun _ _ => rfl)))), ?_⟩
    refine ⟨_, rfl, _, rfl, d, _, rfl, DGet.k (k := Sum.inr z) hd, _, rfl, ?_⟩
    rw [hv]
    refine iteF ?_
    refine ⟨_, rfl, _, rfl, d, v, rfl, ?_, q⟩
    have g := DGet.k (k := Sum.inr z) hd
    rw [hv] at g
    exact g
theorem ok_fullAs {f fN fA fF : Addr} {fd fdN fdA fdF : FuncData} (F : Fun K "full_answers" "full_answers" sFullAs f fd) (GN : FnOk P w K mg base CX0 2 fN fdN ["rows", "answers"] (spNeedRows K)) (gN : mg "need_rows_with_answers" = some (.ref fN)) (kN : PySem.W.keepIn K (.ref fN) = true) (bN : Binds K fdN ["rows", "answers"] [])
    (GA : FnOk P w K mg base CX0 4 fA fdA ["value"] spAnsOf) (gA : mg "answer_of" = some (.ref fA)) (kA : PySem.W.keepIn K (.ref fA) = true) (bA : Binds K fdA ["value"] [])
    (GF : FnOk P w K mg base CX0 1 fF fdF ["row", "answers"] spAnsFor) (gF : mg "answer_for" = some (.ref fF)) (kF : PySem.W.keepIn K (.ref fF) = true) (bF : Binds K fdF ["row", "answers"] []) : FnOk P w K mg base CX0 5 f fd ["rows", "answers"] (spFullAs K) := by
  refine F.ok scFullAs (fun vs H Q E h => ?_) (fun cdv A outer s H vs Q E hr h => ?_)
  · obtain ⟨l, d, zs, kvs, an, rfl, _⟩ := h
    rfl
  · obtain ⟨l, d, zs, kvs, an, rfl, hl, ok, ha, q⟩ := h
    refine ⟨_, pss_cons (ps_expr (pe_call GN (hr.mono (by decide)) rfl gN kN bN .nil pass0 (pa_cons (pv 0) (pa_cons (pv 1) pa_nil))))
      (pss_one (ps_ret (pe_dc (own := [("row", 2)]) (g := gName 2) (tt := tYes) (by rfl) scFullAs.nd (pi_lw (pv 0)) (blkOk_by (own := [("row", 2)]) (N := ["rows", "answers", "row"]) (sc := defScope sFullAs) (by decide +kernel))
        (fun _ _ _ _ _ => pg_name (i := 2) scFullAs.nd rfl (.inl rfl)) (fun _ _ _ _ _ => pts_nil) (fun _ _ _ _ _ => pv 2)
        (fun _ _ _ _ _ => pe_call GA hr rfl gA kA bA .nil pass0 (pa_cons (pe_call GF (hr.mono (by decide)) rfl gF kF bF .nil pass0 (pa_cons (pv 2) (pa_cons (pv 1) pa_nil))) pa_nil))))), ?_⟩
    refine ⟨_, rfl, _, rfl, l, d, zs, kvs, rfl, hl, ok, ha.d, fun H1 s1 => ?_⟩
    have few := ok.few
    refine ⟨_, rfl, l, _, rfl, hl.keep s1, fun J G wk hG D hD => ?_⟩
    have lz : (zs.map V.str).length = zs.length := List.length_map ..
    refine dc_it wk (fun i H2 => Same H1 H2 ∧ ∃ fk, fk.length ≤ i ∧ WholeOf H2 D fk (zs.take i) an) ?_ ?_ ?_ ?_
    · exact ⟨Same.new hD, [], Nat.le_refl _, upd_same, fun z hz => by simp at hz⟩
    · exact fun i H2 _ h2 => hG H2 (sqL_keep h2.1) (sqT_keep h2.1)
    · rintro i x H2 H2' hi ⟨s2, fk, lf, wo⟩ ⟨rfl, hx⟩
      rw [List.getElem?_map] at hx
      obtain ⟨z, hz, rfl⟩ := Option.map_eq_some_iff.mp hx
      have mz := List.mem_of_getElem? hz
      refine ⟨rfl, ?_⟩
      unfold tYes
      dsimp only
      rw [if_pos rfl]
      have ha2 := ha.same (s1.trans s2)
      obtain ⟨v, ev, av⟩ := ha2.is z mz
      refine ⟨_, rfl, _, rfl, _, rfl, z, d, kvs, v, rfl, ha2.d, ev, v, an z, rfl, av, fun T H3 s3 eT => ?_⟩
      refine ⟨fk, Sum.inr z, rfl, s3 _ _ wo.d, small1000 (by omega), fun c o e => (upd_ne (ne_of_none e hD)).trans (s3 _ _ (s2 _ _ e)), _, Nat.le_trans (length_putK _ _ _) (Nat.succ_le_succ lf), upd_same, fun y hy => ?_⟩
      rw [take_snoc hz] at hy
      have nD : ∀ {c : Addr} {xs : List V}, H3 c = some (.tup xs) → upd H3 D (.dK (putK fk (Sum.inr z) (.ref T))) c = some (.tup xs) := fun {c xs} e => by
        rw [upd_ne (ne_of e (s3 _ _ wo.d) (fun z => nomatch z))]
        exact e
      by_cases ey : y = z
      · subst ey
        exact ⟨T, by rw [valV_put, if_pos rfl], nD eT⟩
      · have my : y ∈ zs.take i := by
          rcases List.mem_append.mp hy with h | h
          · exact h
          · exact (ey (List.mem_singleton.mp h)).elim
        obtain ⟨T', e1, e2⟩ := wo.is y my
        exact ⟨T', by rw [valV_put, if_neg fun h => ey (Sum.inr.inj h)]; exact e1, nD (s3 _ _ e2)⟩
    · rintro H2 ⟨s2, fk, lf, wo⟩
      rw [lz, List.take_length] at wo
      exact q D H2 fk (s1.trans s2) (s1.free hD) wo
end
end G
set_option Elab.async false
set_option linter.all false
set_option maxRecDepth 100000
set_option maxHeartbeats 2000000
/-! O4: dicts of ints compared; a list compared with an empty one; things in a drawn order. -/
namespace G
open PySem PySem.Spec PyProof.Rows L2
def dEq (ks ls : List (Key × V)) : Bool := ks.length == ls.length && ks.all fun p => decide (valV ls p.1 = some p.2)
def AllInt (ks : List (Key × V)) : Prop := ∀ p ∈ ks, ∃ i, p.2 = V.int i
theorem int_valV {ls : List (Key × V)} (h : AllInt ls) {k : Key} {v : V} (e : valV ls k = some v) : ∃ i, v = V.int i := by
  have h2 : Option.map (fun p : Key × V => p.2) (ls.find? fun kv => decide (kv.1 = k)) = some v := e
  obtain ⟨p, hp, rfl⟩ := Option.map_eq_some_iff.mp h2
  exact h p (List.mem_of_find?_eq_some hp)
theorem hits_int {A : Around} {s : Shared} {ls : List (Key × V)} {vb : List (Key × Value)} (rb : KV ls vb) (hl : AllInt ls) {ks : List (Key × V)} {va : List (Key × Value)} (ra : KV ks va) :
    AllInt ks → PySem.W.KeqHits A s vb va (ks.all fun p => decide (valV ls p.1 = some p.2)) := by
  unfold KV at ra
  induction ra with
  | nil => intro _; exact .nil
  | @cons p q ps qs h t ih =>
    intro hp
    obtain ⟨h1, h2⟩ := h
    obtain ⟨i, ei⟩ := hp p List.mem_cons_self
    have ih' := ih fun p' hm => hp p' (List.mem_cons_of_mem _ hm)
    obtain ⟨k, v⟩ := q
    have h1' : p.1 = k := h1
    subst h1'
    rw [ei] at h2
    obtain ⟨t1, rfl⟩ := (show ∃ t, v = Value.int i t from h2)
    rw [List.all_cons]
    cases e : valV ls p.1 with
    | none =>
      have rr : RelO none (valueAt vb p.1) := by rw [← e]; exact rb.val p.1
      have hn : valueAt vb p.1 = none := by
        cases z : valueAt vb p.1 with
        | none => rfl
        | some y =>
          rw [z] at rr
          exact rr.elim
      rw [decide_eq_false (show ¬ (none = some p.2) from fun z => nomatch z), Bool.false_and]
      exact .miss hn
    | some x =>
      obtain ⟨j, rfl⟩ := int_valV hl e
      have rr : RelO (some (.int j)) (valueAt vb p.1) := by rw [← e]; exact rb.val p.1
      obtain ⟨y, hy, ry⟩ := rr.some_of
      obtain ⟨t2, rfl⟩ := (show ∃ t, y = Value.int j t from ry)
      rw [ei]
      have q := SeqAt.EqAt.int_int (A := A) (s := s) i t1 j t2
      have e2 : decide (some (V.int j) = some (V.int i)) = (i == j) := by
        by_cases z : i = j
        · rw [z, decide_eq_true rfl]
          exact (beq_self_eq_true _).symm
        · rw [decide_eq_false fun h => z (V.int.inj (Option.some.inj h)).symm]
          exact (Bool.eq_false_iff.mpr fun h => z (beq_iff_eq.mp h)).symm
      rw [e2]
      exact .hit hy q ih'
section
variable {X : Cx}
def rNeDI : R2 := fun x y H Q => ∃ a b ks ls, x = .ref a ∧ y = .ref b ∧ H a = some (.dK ks) ∧ H b = some (.dK ls) ∧ AllInt ks ∧ AllInt ls ∧ Q (.bl (!dEq ks ls)) H
theorem op_neDI (hu : X.A.units < cLine) : OpR X (compareOp .NotEq) rNeDI := by
  intro pins s σ H x y v u Q I rx ry h
  obtain ⟨a, b, ks, ls, rfl, rfl, ea, eb, ik, il, q⟩ := h
  obtain rfl : v = Value.ref a := rx
  obtain rfl : u = Value.ref b := ry
  obtain ⟨_, ya, va, ra, da⟩ := (show ObjOk X.prog X.w H s.heap a (.dK ks) from I.hok a _ ea)
  obtain ⟨_, yb, vb, rb, db⟩ := (show ObjOk X.prog X.w H s.heap b (.dK ls) from I.hok b _ eb)
  have e : dEq ks ls = (va.length == vb.length && ks.all fun p => decide (valV ls p.1 = some p.2)) := by
    rw [← ra.length, ← rb.length]
    rfl
  exact PySem.W.keq_ne (knd := mixKind X.prog X.w) ya yb da db hu (fun _ => hits_int rb il ra ik) (fin_bl I q (by rw [e]))
def rNeNil (K : PySem.W.Frag) : R2 := fun x y H Q => ∃ a b xs, x = .ref a ∧ y = .ref b ∧ SqL K H a xs ∧ SqL K H b [] ∧ Q (.bl (!xs.isEmpty)) H
theorem op_neNil (hu : X.A.units < cLine) : OpR X (compareOp .NotEq) (rNeNil X.K) := by
  intro pins s σ H x y v u Q I rx ry h
  obtain ⟨a, b, xs, rfl, rfl, ha, hb, q⟩ := h
  cases (show v = Value.ref a from rx)
  cases (show u = Value.ref b from ry)
  obtain ⟨us, r1, p1, _⟩ := I.list ha
  obtain ⟨ws, r2, p2, _⟩ := I.list hb
  cases r2
  cases xs with
  | nil =>
    cases r1
    refine SeqAt.RcNeAt.lists (e := fun _ => true) p1.isList p2.isList rfl hu (fun j h1 h2 => absurd h1 (Nat.not_lt_zero j)) X.prog X.w _ _ ?_
    exact ⟨.bl false, H, I, rfl, q⟩
  | cons x xs =>
    refine SeqAt.RcNeAt.lists_lengths p1.isList p2.isList ?_ hu X.prog X.w _ _ ?_
    · have := r1.length
      rw [List.length_cons] at this
      rw [List.size_toArray, List.size_toArray, ← this]
      rfl
    · exact ⟨.bl true, H, I, rfl, q⟩
end
/-- things in a drawn order -/
def spMixR (K : PySem.W.Frag) : Sp := fun vs H Q _ => ∃ (b a : Addr) (n : Nat) (xs : List V), vs = [.ref b, .ref a] ∧ BoxAt H b n ∧ n + xs.length ≤ 100000 ∧ SqL K H a xs ∧
  ∀ (p : Addr) (H' : Hp) (ys : List V), ys.Perm xs → H p = none → H' p = some (.lst ys) → BoxAt H' b (n + xs.length) → But b H H' → Q (.ref p) H'
section
variable {P : Program} {w : World} {K : PySem.W.Frag} {mg : Str → Option Value} {base : Heap}
theorem ok_mixR {f fT : Addr} {fd fdT : FuncData} (F : Fun K "_law_mixed" "_law_mixed" sMixed f fd) (T : Fun K "_law_take" "_law_take" sTake fT fdT) (bT : Binds K fdT ["_law_box_here", "_law_many"] []) (gT : mg "_law_take" = some (.ref fT))
    (ml : mg "len" = none) (mL : mg "list" = none) : FnOk P w K mg base CX0 2 f fd ["_law_box_here", "_law_some"] (spMixR K) := by
  refine F.ok scMixed (fun vs H Q E h => ?_) (fun cdv A outer s H vs Q E hr h => ?_)
  · obtain ⟨b, a, n, ps, rfl, _⟩ := h
    rfl
  · obtain ⟨b, a, n, ps, rfl, B, hn, hS, q⟩ := h
    have big : ∀ {k : Nat}, k ≤ 100000 → k < sizeLine := fun {k} h => by
      rw [sizeLine_eq]
      omega
    refine ⟨_, pss_cons (ps_par (i := 2) (j := 3) (by rfl) scMixed.nd rfl rfl (by decide) rfl rfl (pa_cons (pe_callTy call_list_of (by rfl) mL (by decide +kernel) (pa_cons (pv 1) pa_nil)) (pa_cons (pe_lst pa_nil) pa_nil)) (by rfl))
      (pss_cons (ps_while PassesOwn.never (pt_cmpR (op_neNil (Nat.lt_of_succ_lt (hu_of hr))) (pv 2) (pe_lst pa_nil) (nomark _))
        (pss_one (ps_expr (pe_bm PySem.F.plainAttrs_list PySem.F.slot_list_append PySem.F.type_list_append mt_append (pv 3) (pa_cons
          (pe_bm PySem.F.plainAttrs_list PySem.F.slot_list_pop PySem.F.type_list_pop mt_popAt (pv 2)
            (pa_cons (pe_call (ok_take T) hr rfl gT T.kp bT .nil pass0 (pa_cons (pv 0) (pa_cons (pe_callB call_len_seq (by rfl) ml PySem.boot_len (pa_cons (pv 2) pa_nil)) pa_nil))) pa_nil)) pa_nil)))))
      (pss_one (ps_ret (pv 3)))), ?_⟩
    refine ⟨_, rfl, a, _, rfl, .inl hS, fun l hl => ⟨by decide, fun p hp0 => ⟨_, _, rfl, ?_⟩⟩⟩
    have nlp : l ≠ p := fun z => by
      rw [z, upd_same] at hp0
      cases hp0
    have hpn : H p = none := (upd_ne nlp.symm).symm.trans hp0
    have nbl : b ≠ l := by
      obtain ⟨_, _, _, e, _⟩ := B
      exact ne_of_none e hl
    have nbp : b ≠ p := by
      obtain ⟨_, _, _, e, _⟩ := B
      exact ne_of_none e hpn
    refine ⟨fun m σ H1 => ∃ qs rs : List V, m = qs.length ∧ σ = [some (.ref b), some (.ref a), some (.ref l), some (.ref p)] ∧ H1 l = some (.lst qs) ∧ H1 p = some (.lst rs) ∧
        (rs ++ qs).Perm ps ∧ BoxAt H1 b (n + rs.length) ∧ But b H H1, ⟨ps.length, ps, [], rfl, rfl, ?_, upd_same, .refl _, ?_, ?_⟩, ?_⟩
    · rw [upd_ne nlp, upd_same]
    · exact (B.keep fun o e => by rw [upd_ne nbp, upd_ne nbl]; exact e).mono (Nat.le_add_right _ _)
    · exact (But.new hl).trans (But.new hp0)
    · rintro m σ H1 ⟨qs, rs, rfl, rfl, el, ep, pm, B1, s1⟩
      have hlen : rs.length + qs.length = ps.length := by
        rw [← List.length_append]
        exact pm.length_eq
      refine ⟨_, rfl, by decide, fun t ht => ?_⟩
      have nlt : l ≠ t := ne_of_none el ht
      have s2 : But b H (upd H1 t (.lst [])) := s1.trans (But.new ht)
      refine ⟨l, t, qs, rfl, rfl, .of ((upd_ne nlt).trans el), .of upd_same, _, rfl, ?_⟩
      · cases qs with
        | nil =>
          refine iteF ?_
          refine ⟨_, rfl, ?_⟩
          rw [List.append_nil] at pm
          refine q p _ rs pm hpn ?_ ?_ s2
          · rw [upd_ne (ne_of_none ep ht)]
            exact ep
          · have e : rs.length = ps.length := pm.length_eq
            rw [← e]
            exact B1.keep fun o e => by rw [upd_ne (ne_of_none e ht)]; exact e
        | cons y ys =>
          refine iteT ?_
          have hlen' : rs.length + (ys.length + 1) = ps.length := hlen
          refine ⟨fun σ' H' => ∃ m', m' < (y :: ys).length ∧ ∃ qs rs : List V, m' = qs.length ∧ σ' = [some (.ref b), some (.ref a), some (.ref l), some (.ref p)] ∧ H' l = some (.lst qs) ∧ H' p = some (.lst rs) ∧
            (rs ++ qs).Perm ps ∧ BoxAt H' b (n + rs.length) ∧ But b H H', fun _ _ h => h, ?_⟩
          have ep2 : upd H1 t (.lst []) p = some (.lst rs) := by
            rw [upd_ne (ne_of_none ep ht)]
            exact ep
          have el2 : upd H1 t (.lst []) l = some (.lst (y :: ys)) := by
            rw [upd_ne nlt]
            exact el
          have B2 : BoxAt (upd H1 t (.lst [])) b (n + rs.length) := B1.keep fun o e => by rw [upd_ne (ne_of_none e ht)]; exact e
          refine ⟨_, rfl, .inl ⟨rfl, _, .of ep2⟩, _, rfl, .inl ⟨rfl, _, .of el2⟩, _, rfl, _, rfl, l, _, rfl, .inl (.of el2), b, _, n + rs.length, rfl, B2, by omega, ?_, ?_, fun r H3 r0 r1 B3 s3 => ?_⟩
          · show (0 : Int) < ((ys.length + 1 : Nat) : Int)
            omega
          · show ((ys.length + 1 : Nat) : Int) < _
            have : ys.length + 1 ≤ 100000 := by omega
            omega
          · obtain ⟨j, rfl, hj⟩ := draw_at r0 r1 (n := (y :: ys).length) rfl
            have el3 : H3 l = some (.lst (y :: ys)) := s3 _ _ nbl.symm el2
            have ep3 : H3 p = some (.lst rs) := s3 _ _ nbp.symm ep2
            have hj5 : j < 100000 := by
              have e : (y :: ys).length = ys.length + 1 := rfl
              omega
            refine ⟨l, _, (j : Int), j, (y :: ys)[j], rfl, rfl, el3, by omega, by omega, ?_, ?_, ?_⟩
            · have := PySem.seqIndex_of (k := (j : Int)) (n := (y :: ys).length) (by omega) (by omega)
              rw [this]
              rfl
            · exact List.getElem?_eq_getElem hj
            · refine ⟨p, _, _, rfl, rfl, by rw [upd_ne nlp.symm]; exact ep3, ?_, ?_⟩
              · exact big (by omega)
              · refine ⟨((y :: ys).eraseIdx j).length, ?_, (y :: ys).eraseIdx j, rs ++ [(y :: ys)[j]], rfl, rfl, ?_, ?_, ?_, ?_, ?_⟩
                · rw [List.length_eraseIdx, if_pos hj]
                  show (ys.length + 1) - 1 < ys.length + 1
                  omega
                · rw [upd_ne nlp, upd_same]
                · rw [upd_same]
                · rw [List.append_assoc]
                  refine List.Perm.trans (List.Perm.append_left rs ?_) pm
                  exact erase_perm hj
                · rw [List.length_append, List.length_singleton]
                  exact B3.keep fun o e => by rw [upd_ne nbp, upd_ne nbl]; exact e
                · intro c o nc e
                  have e3 := (s2.trans s3) c o nc e
                  rw [upd_ne (ne_of_none e hpn), upd_ne (ne_of_none e hl)]
                  exact e3
end
end G
set_option Elab.async false
set_option linter.all false
set_option maxRecDepth 100000
set_option maxHeartbeats 4000000
/-! VN: drawn names differ. -/
namespace G
open PySem PySem.Spec PyProof.Rows L2
def Cop (st : Nat) : Prop := st ∈ [1, 3, 5, 7, 9, 11, 15, 17]
theorem cop_le {st : Nat} (h : Cop st) : st ≤ 17 := by
  unfold Cop at h
  simp at h
  omega
theorem cop_inj {st bg i j : Nat} (h : Cop st) (e : (bg + st * i) % 26 = (bg + st * j) % 26) : i % 26 = j % 26 := by
  unfold Cop at h
  simp only [List.mem_cons, List.not_mem_nil, or_false] at h
  rcases h with rfl | rfl | rfl | rfl | rfl | rfl | rfl | rfl <;> omega
theorem abc_is : ∀ j : Fin 26, abc.cps[(j : Nat)]? = some (97 + (j : Nat)) := by decide +kernel
theorem abc_code {j c n : Nat} (hj : j < 26) (hc : abc.cps[j]? = some c) (e : j = n) : cs (⟨#[c]⟩ : Str) = [97 + n] := by
  have z := abc_is ⟨j, hj⟩
  rw [hc] at z
  rw [← e, ← Option.some.inj z]
theorem abc_code2 {j c : Nat} (hj : j < 26) (hc : abc.cps[j]? = some c) : cs (⟨#[c]⟩ : Str) = [97 + j] := abc_code hj hc rfl
/-- how the i-th name is written -/
def BaseF (md : Bool) (P : List Nat) (bg st i : Nat) (y : Str) : Prop := (md = true ∧ ∃ R, cs y = (97 + (bg + st * i) % 26) :: R) ∨ (md = false ∧ cs y = P ++ [97 + (bg + st * i) % 26])
def Form (md : Bool) (P : List Nat) (bg st i : Nat) (y : Str) : Prop := (md = true ∧ i < 26 ∧ ∃ R, cs y = (97 + (bg + st * i) % 26) :: R) ∨ (md = false ∧ i < 26 ∧ cs y = P ++ [97 + (bg + st * i) % 26]) ∨ (md = false ∧ 26 ≤ i ∧ cs y = P ++ [97 + (bg + st * i) % 26, 97 + i / 26])
theorem form_lt {md : Bool} {P : List Nat} {bg st i : Nat} {y : Str} (h : BaseF md P bg st i y) (hi : i < 26) : Form md P bg st i y := by
  rcases h with ⟨e, r⟩ | ⟨e, r⟩
  · exact .inl ⟨e, hi, r⟩
  · exact .inr (.inl ⟨e, hi, r⟩)
theorem form_ge {md : Bool} {P : List Nat} {bg st i : Nat} {y u : Str} (h : BaseF md P bg st i y) (hi : 26 ≤ i) (hm : md = true → i < 26) (e : cs u = cs y ++ [97 + i / 26]) : Form md P bg st i u := by
  rcases h with ⟨em, r⟩ | ⟨em, r⟩
  · have := hm em
    omega
  · refine .inr (.inr ⟨em, hi, ?_⟩)
    rw [e, r, List.append_assoc]
    rfl
theorem form_app {G : Nat → Str → Prop} {zs : List Str} {u : Str} {i : Nat} (hl : zs.length = i) (hf : ∀ (k : Nat) (y : Str), zs[k]? = some y → G k y) (hu : G i u) : ∀ (k : Nat) (y : Str), (zs ++ [u])[k]? = some y → G k y := fun k y h => by
  rcases Nat.lt_or_ge k zs.length with hk | hk
  · rw [List.getElem?_append_left hk] at h
    exact hf k y h
  · rw [List.getElem?_append_right hk] at h
    have hk0 : k - zs.length = 0 := by
      rcases Nat.eq_zero_or_pos (k - zs.length) with e | e
      · exact e
      · rw [List.getElem?_eq_none (by rw [List.length_singleton]; omega)] at h
        cases h
    rw [hk0] at h
    have e : u = y := Option.some.inj h
    have ek : k = i := by omega
    rw [ek, ← e]
    exact hu
theorem app_two {P : List Nat} {a b c d : Nat} (h : P ++ [a, b] = P ++ [c, d]) : a = c ∧ b = d := by
  have := List.append_cancel_left h
  injection this with e1 e2
  injection e2 with e3 _
  exact ⟨e1, e3⟩
theorem form_inj {md : Bool} {P : List Nat} {bg st i j : Nat} {y : Str} (hc : Cop st) (h1 : Form md P bg st i y) (h2 : Form md P bg st j y) : i = j := by
  rcases h1 with ⟨m1, l1, R1, e1⟩ | ⟨m1, l1, e1⟩ | ⟨m1, l1, e1⟩
  · rcases h2 with ⟨m2, l2, R2, e2⟩ | ⟨m2, l2, e2⟩ | ⟨m2, l2, e2⟩
    · rw [e1] at e2
      injection e2 with e3 _
      have := cop_inj (i := i) (j := j) hc (by omega : (bg + st * i) % 26 = (bg + st * j) % 26)
      omega
    · rw [m1] at m2
      cases m2
    · rw [m1] at m2
      cases m2
  · rcases h2 with ⟨m2, l2, R2, e2⟩ | ⟨m2, l2, e2⟩ | ⟨m2, l2, e2⟩
    · rw [m1] at m2
      cases m2
    · rw [e1] at e2
      have e3 := List.append_cancel_left e2
      injection e3 with e4 _
      have := cop_inj (i := i) (j := j) hc (by omega : (bg + st * i) % 26 = (bg + st * j) % 26)
      omega
    · rw [e1] at e2
      have e3 := List.append_cancel_left e2
      injection e3 with _ e4
      cases e4
  · rcases h2 with ⟨m2, l2, R2, e2⟩ | ⟨m2, l2, e2⟩ | ⟨m2, l2, e2⟩
    · rw [m1] at m2
      cases m2
    · rw [e1] at e2
      have e3 := List.append_cancel_left e2
      injection e3 with _ e4
      cases e4
    · rw [e1] at e2
      obtain ⟨e3, e4⟩ := app_two e2
      have := cop_inj (i := i) (j := j) hc (by omega : (bg + st * i) % 26 = (bg + st * j) % 26)
      omega
theorem nodup_at {zs : List Str} (h : ∀ (i j : Nat) (y : Str), zs[i]? = some y → zs[j]? = some y → i = j) : zs.Nodup := by
  rw [List.nodup_iff_pairwise_ne, List.pairwise_iff_getElem]
  intro i j hi hj hij e
  have h1 : zs[i]? = some zs[i] := List.getElem?_eq_getElem hi
  have h2 : zs[j]? = some zs[i] := by rw [List.getElem?_eq_getElem hj, e]
  have := h i j _ h1 h2
  omega
theorem form_nodup {md : Bool} {P : List Nat} {bg st : Nat} {zs : List Str} (hc : Cop st) (hf : ∀ (k : Nat) (y : Str), zs[k]? = some y → Form md P bg st k y) (_ : zs.length ≤ 600) : zs.Nodup :=
  nodup_at fun i j y h1 h2 => form_inj hc (hf i y h1) (hf j y h2)
theorem len_nodup {zs : List Str} (hf : ∀ (k : Nat) (y : Str), zs[k]? = some y → y.length = k + 1) : zs.Nodup :=
  nodup_at fun i j y h1 h2 => by
    have := hf i y h1
    have := hf j y h2
    omega
theorem perm_nodup {ys us : List Str} {qs : List Vd} (pm : qs.Perm (ys.map fun z => (V.str z, PyData.str z))) (e : qs.map (·.1) = us.map V.str) (h : ys.Nodup) : us.Nodup := by
  have p1 : (qs.map (·.1)).Perm ((ys.map fun z => (V.str z, PyData.str z)).map (·.1)) := pm.map _
  rw [e, List.map_map] at p1
  have h2 : (ys.map V.str).Nodup := h.map V.str fun a b hab hn => hab (V.str.inj hn)
  have h3 : (us.map V.str).Nodup := p1.nodup_iff.mpr h2
  unfold List.Nodup at *
  rw [List.pairwise_map] at h3
  exact h3.imp fun hne e => hne (congrArg V.str e)
def spNamesD : Sp := fun vs H Q _ => ∃ (b : Addr) (m n : Nat), vs = [.ref b, .int (m : Int)] ∧ BoxAt H b n ∧ n ≤ 50000 ∧ m ≤ 100 ∧
  ∀ (p : Addr) (H' : Hp) (zs : List Str), zs.length = m → (∀ z ∈ zs, NameZ z) → zs.Nodup → H p = none → H' p = some (.lst (zs.map V.str)) → BoxAt H' b (n + 11 + m) → But b H H' → Q (.ref p) H'
section
variable {P : Program} {w : World} {K : PySem.W.Frag} {mg : Str → Option Value} {base : Heap}
theorem ok_namesD {f fT fM : Addr} {fd fdT fdM : FuncData} (F : Fun K "_law_names" "_law_names" sNames f fd) (T : Fun K "_law_take" "_law_take" sTake fT fdT) (bT : Binds K fdT ["_law_box_here", "_law_many"] []) (gT : mg "_law_take" = some (.ref fT))
    (M : Fun K "_law_mixed" "_law_mixed" sMixed fM fdM) (bM : Binds K fdM ["_law_box_here", "_law_some"] []) (gM : mg "_law_mixed" = some (.ref fM)) (ml : mg "len" = none) (mL : mg "list" = none) (mr : mg "range" = none) :
    FnOk P w K mg base CX0 3 f fd ["_law_box_here", "_law_many"] spNamesD := by
  have GT : FnOk P w K mg base CX0 1 fT fdT ["_law_box_here", "_law_many"] spTake := ok_take T
  have GM : FnOk P w K mg base CX0 2 fM fdM ["_law_box_here", "_law_some"] (spMixed K) := ok_mixed M T bT gT ml mL
  refine F.ok scNames (fun vs H Q E h => ?_) (fun cdv A outer s H vs Q E hr h => ?_)
  · obtain ⟨b, m, n, rfl, _⟩ := h
    rfl
  · obtain ⟨b, m, n, rfl, B, hn, hm, q⟩ := h
    have hr1 := hr.mono (show 1 ≤ 2 by decide)
    obtain ⟨ts, psl, qsl⟩ : ∃ t, PSs (cxOf CX0 P w K mg base nNames "_law_names" (defScope sNames) f cdv A outer s H E).nox ((defBody sNames).drop 5) t ∧
        ∀ (way cut bg st : Nat) (z : Str) (x8 : Option V) (H1 : Hp), cut ≤ 7 → (26 < m → cut ≤ 6) → bg < 26 → Cop st → LowZ z → z.length = 7 → BoxAt H1 b (n + 11) → But b H H1 → t { nx := fun _ H' => Q .non H', rt := Q } [some (.ref b), some (.int (m : Int)), some (.str abc), some (.int (way : Int)), some (.int (cut : Int)), some (.int (bg : Int)), some (.int (st : Int)), some (.str z), x8, none, none, none] H1 := by
      refine ⟨_, pss_cons (ps_set (i := 9) scNames.nd rfl (.inl rfl) (pe_lst pa_nil))
      (pss_cons (ps_for PassesOwn.never rfl (pi_range1 rfl mr (pa_cons (pv 1) pa_nil)) (pg_name (i := 8) scNames.nd rfl (.inl rfl))
        (pss_cons (ps_set (i := 10) scNames.nd rfl (.inl rfl) (pe_item_str (pv 2) (pe_op op_mod (pe_op op_add (pv 5) (pe_op op_mul (pv 6) (pv 8))) pe_int) (fun _ _ => rfl)))
        (pss_cons (ps_set (i := 11) scNames.nd rfl (.inl rfl) (pe_op op_add_str (pe_slice sl_str (pv 7) po_none (po_some (pv 4))) (pv 10)))
        (pss_cons (ps_if (PW.pt (pw_and (pt_cmpR op_eq (pv 3) pe_int (nomark _)) (pw_and1 (pt_cmpR op_lt (pv 1) pe_int (nomark _)))))
          (pss_one (ps_set (i := 11) scNames.nd rfl (.inl rfl) (pe_op op_add_str (pv 10) (pe_slice sl_str (pv 7) po_none (po_some (pe_op op_mod (pe_op op_add (pv 4) (pe_op op_mul pe_int (pv 8))) pe_int)))))) pss_nil)
        (pss_one (ps_expr (pe_bm PySem.F.plainAttrs_list PySem.F.slot_list_append PySem.F.type_list_append mt_append (pv 9) (pa_cons
          (pe_ifExp (pt_cmpR op_lt (pv 8) pe_int (nomark _)) (pv 11) (pe_op op_add_str (pv 11) (pe_item_str (pv 2) (pe_op op_fdiv (pv 8) pe_int) (fun _ _ => rfl)))) pa_nil))))))))
      (pss_one (ps_ret (pv 9)))), ?_⟩
      intro way cut bg st z x8 H1 hcut hcut2 hbg hcop hz hl B1 k1
      have hst := cop_le hcop
      generalize hmd : (decide (V.int (way : Int) = V.int 1) && decide ((m : Int) < 27)) = md
      have hm26 : md = true → m < 27 := fun e => by
        rw [e] at hmd
        have := of_decide_eq_true (Bool.and_eq_true_iff.mp hmd).2
        omega
      refine ⟨Nat.zero_le _, fun D hD => ?_⟩
      have nD := box_ne B1 hD
      have fD := free_of k1 nD hD
      refine ⟨_, rfl, _, rfl, by omega, by omega, ?_⟩
      rw [Int.toNat_natCast m]
      refine for_range (lo := 0) (n := m) (fun i σ H2 => ∃ (zs : List Str) (x8 x10 x11 : Option V), σ = [some (.ref b), some (.int (m : Int)), some (.str abc), some (.int (way : Int)), some (.int (cut : Int)), some (.int (bg : Int)), some (.int (st : Int)), some (.str z), x8, some (.ref D), x10, x11] ∧
        H2 D = some (.lst (zs.map V.str)) ∧ zs.length = i ∧ (∀ y ∈ zs, NameZ y) ∧ (∀ (k : Nat) (y : Str), zs[k]? = some y → Form md (cs (cutS z none (some (cut : Int)))) bg st k y) ∧ BoxAt H2 b (n + 11) ∧ But b H H2) ?_ ?_ ?_
      · exact ⟨[], x8, none, none, rfl, upd_same, rfl, (fun y h => nomatch h), (fun k y h => by simp at h), box_new B1 hD, but_upd k1 fD⟩
      · rintro i σ H2 hi ⟨zs, x8, x10, x11, rfl, e2, hlz, hy, hf, B2, k2⟩
        have r := emod_in ((bg : Int) + (st : Int) * (0 + (i : Int))) 26 (by decide)
        obtain ⟨j, ej, hj⟩ := draw_at r.1 r.2 (n := 26) rfl
        obtain ⟨c, hc, c97⟩ := abc_at hj
        refine ⟨_, rfl, _, rfl, _, rfl, _, rfl, _, _, rfl, rfl, .inl ⟨by omega, by omega⟩, _, _, rfl, rfl, _, _, rfl, rfl, (by show (0 : Int) < 26; decide), _, _, c, rfl, rfl, r.1, by omega, (show _ < ((26 : Nat) : Int) by omega), (by rw [ej]; exact hc), ?_⟩
        have lo := low_one c97
        have len1 : (⟨#[c]⟩ : Str).length = 1 := rfl
        have ec : cs (⟨#[c]⟩ : Str) = [97 + (bg + st * i) % 26] := abc_code hj hc (by have ej2 := ej; rw [Int.zero_add] at ej2; omega)
        generalize (⟨#[c]⟩ : Str) = lt at lo len1 ec
        have cl := cut_len z cut
        refine ⟨_, rfl, _, rfl, _, rfl, z, rfl, small_size (by omega), _, rfl, _, _, rfl, rfl, small_size (by omega), ?_⟩
        have Y0 : LowZ (cutS z none (some (cut : Int)) ++ lt) ∧ 1 ≤ (cutS z none (some (cut : Int)) ++ lt).length ∧ (cutS z none (some (cut : Int)) ++ lt).length ≤ 8 ∧ (26 ≤ i → (cutS z none (some (cut : Int)) ++ lt).length ≤ 7) := by
          rw [app_len]
          exact ⟨(hz.cut _ _).app lo, by omega, by omega, fun _ => by omega⟩
        have r8 := emod_in ((cut : Int) + 3 * (0 + (i : Int))) 8 (by decide)
        refine ⟨_, rfl, rfl, _, rfl, ite2 (fun hw => ?_) (fun hw => ?_)⟩
        · refine ⟨_, rfl, _, _, rfl, rfl, _, rfl, ite2 (fun h27 => ?_) (fun h27 => ?_)⟩
          · have hm27 : (m : Int) < 27 := of_decide_eq_true h27
            obtain ⟨j8, ej8, hj8⟩ := draw_at r8.1 r8.2 (n := 8) rfl
            have cl8 := cut_len z j8
            refine ⟨_, rfl, _, rfl, _, rfl, _, rfl, _, _, rfl, rfl, .inl ⟨by decide, by decide⟩, _, _, rfl, rfl, _, _, rfl, rfl, (by show (0 : Int) < 8; decide), _, rfl, z, rfl, small_size (by omega), _, _, rfl, rfl, ?_, ?_⟩
            · rw [ej8, len1]
              exact small_size (by omega)
            have Y : NameI (lt ++ cutS z none (some (((cut : Int) + 3 * (0 + (i : Int))) % 8))) i ∧ BaseF md (cs (cutS z none (some (cut : Int)))) bg st i (lt ++ cutS z none (some (((cut : Int) + 3 * (0 + (i : Int))) % 8))) := by
              refine ⟨?_, .inl ⟨?_, cs (cutS z none (some (((cut : Int) + 3 * (0 + (i : Int))) % 8))), by rw [cs_app, ec]; rfl⟩⟩
              · unfold NameI
                rw [ej8, app_len]
                exact ⟨lo.app (hz.cut _ _), by omega, by omega, fun h => by omega⟩
              · rw [← hmd, hw, h27]
                rfl
            revert Y
            generalize (lt ++ cutS z none (some (((cut : Int) + 3 * (0 + (i : Int))) % 8))) = y
            intro Y
            obtain ⟨⟨y1, y2, y3, y4⟩, y5⟩ := Y
            have done : ∀ (u : Str) (x8 x10 x11 : Option V), NameZ u → Form md (cs (cutS z none (some (cut : Int)))) bg st i u → ∃ (zs' : List Str) (x8' x10' x11' : Option V), [some (V.ref b), some (.int (m : Int)), some (.str abc), some (.int (way : Int)), some (.int (cut : Int)), some (.int (bg : Int)), some (.int (st : Int)), some (.str z), x8, some (.ref D), x10, x11] = [some (.ref b), some (.int (m : Int)), some (.str abc), some (.int (way : Int)), some (.int (cut : Int)), some (.int (bg : Int)), some (.int (st : Int)), some (.str z), x8', some (.ref D), x10', x11'] ∧
                upd H2 D (.lst (zs.map V.str ++ [.str u])) D = some (.lst (zs'.map V.str)) ∧ zs'.length = i + 1 ∧ (∀ y ∈ zs', NameZ y) ∧ (∀ (k : Nat) (y : Str), zs'[k]? = some y → Form md (cs (cutS z none (some (cut : Int)))) bg st k y) ∧ BoxAt (upd H2 D (.lst (zs.map V.str ++ [.str u]))) b (n + 11) ∧ But b H (upd H2 D (.lst (zs.map V.str ++ [.str u]))) := fun u x8 x10 x11 hu hu2 => by
              refine ⟨zs ++ [u], x8, x10, x11, rfl, ?_, ?_, fun v hv => ?_, form_app hlz hf hu2, box_upd B2 nD, but_upd k2 fD⟩
              · rw [upd_same, List.map_append]
                rfl
              · rw [List.length_append, hlz]
                rfl
              · rcases List.mem_append.mp hv with hv | hv
                · exact hy v hv
                · rw [List.mem_singleton.mp hv]
                  exact hu
            have room : (zs.map V.str).length < sizeLine := by
              rw [List.length_map]
              exact small1000 (by omega)
            refine ⟨_, rfl, .inl ⟨rfl, _, .of e2⟩, _, rfl, _, _, rfl, rfl, _, rfl, ite2 (fun h26 => ?_) (fun h26 => ?_)⟩
            · exact ⟨_, rfl, D, _, _, rfl, rfl, e2, room, done y _ _ _ ⟨y1, y2, y3⟩ (form_lt y5 (by have := of_decide_eq_true h26; omega))⟩
            · have h26' : ¬ ((0 + (i : Int)) < 26) := fun h => h26 (decide_eq_true h)
              have yl := y4 (by omega)
              have hd : (0 + (i : Int)) / 26 = ((i / 26 : Nat) : Int) := by omega
              obtain ⟨c2, hc2, c297⟩ := abc_at (j := i / 26) (by omega)
              refine ⟨_, rfl, _, rfl, _, rfl, _, _, rfl, rfl, ⟨by decide, by decide⟩, _, _, c2, rfl, rfl, by omega, by omega, (show _ < ((26 : Nat) : Int) by omega), (by rw [hd]; exact hc2), _, _, rfl, rfl, ?_, D, _, _, rfl, rfl, e2, room, ?_⟩
              · show y.length + 1 ≤ sizeLine
                exact small_size (by omega)
              · have l2 : (y ++ (⟨#[c2]⟩ : Str)).length = y.length + 1 := app_len y ⟨#[c2]⟩
                exact done (y ++ ⟨#[c2]⟩) _ _ _ ⟨y1.app (low_one c297), by omega, by omega⟩ (form_ge y5 (by omega) (fun e => by have := hm26 e; omega) (by rw [cs_app, abc_code2 (by omega) hc2]))
          · have Y : NameI (cutS z none (some (cut : Int)) ++ lt) i ∧ BaseF md (cs (cutS z none (some (cut : Int)))) bg st i (cutS z none (some (cut : Int)) ++ lt) := ⟨Y0, .inr ⟨by rw [← hmd, Bool.eq_false_iff.mpr h27, Bool.and_false], by rw [cs_app, ec]⟩⟩
            revert Y
            generalize (cutS z none (some (cut : Int)) ++ lt) = y
            intro Y
            obtain ⟨⟨y1, y2, y3, y4⟩, y5⟩ := Y
            have done : ∀ (u : Str) (x8 x10 x11 : Option V), NameZ u → Form md (cs (cutS z none (some (cut : Int)))) bg st i u → ∃ (zs' : List Str) (x8' x10' x11' : Option V), [some (V.ref b), some (.int (m : Int)), some (.str abc), some (.int (way : Int)), some (.int (cut : Int)), some (.int (bg : Int)), some (.int (st : Int)), some (.str z), x8, some (.ref D), x10, x11] = [some (.ref b), some (.int (m : Int)), some (.str abc), some (.int (way : Int)), some (.int (cut : Int)), some (.int (bg : Int)), some (.int (st : Int)), some (.str z), x8', some (.ref D), x10', x11'] ∧
                upd H2 D (.lst (zs.map V.str ++ [.str u])) D = some (.lst (zs'.map V.str)) ∧ zs'.length = i + 1 ∧ (∀ y ∈ zs', NameZ y) ∧ (∀ (k : Nat) (y : Str), zs'[k]? = some y → Form md (cs (cutS z none (some (cut : Int)))) bg st k y) ∧ BoxAt (upd H2 D (.lst (zs.map V.str ++ [.str u]))) b (n + 11) ∧ But b H (upd H2 D (.lst (zs.map V.str ++ [.str u]))) := fun u x8 x10 x11 hu hu2 => by
              refine ⟨zs ++ [u], x8, x10, x11, rfl, ?_, ?_, fun v hv => ?_, form_app hlz hf hu2, box_upd B2 nD, but_upd k2 fD⟩
              · rw [upd_same, List.map_append]
                rfl
              · rw [List.length_append, hlz]
                rfl
              · rcases List.mem_append.mp hv with hv | hv
                · exact hy v hv
                · rw [List.mem_singleton.mp hv]
                  exact hu
            have room : (zs.map V.str).length < sizeLine := by
              rw [List.length_map]
              exact small1000 (by omega)
            refine ⟨_, rfl, .inl ⟨rfl, _, .of e2⟩, _, rfl, _, _, rfl, rfl, _, rfl, ite2 (fun h26 => ?_) (fun h26 => ?_)⟩
            · exact ⟨_, rfl, D, _, _, rfl, rfl, e2, room, done y _ _ _ ⟨y1, y2, y3⟩ (form_lt y5 (by have := of_decide_eq_true h26; omega))⟩
            · have h26' : ¬ ((0 + (i : Int)) < 26) := fun h => h26 (decide_eq_true h)
              have yl := y4 (by omega)
              have hd : (0 + (i : Int)) / 26 = ((i / 26 : Nat) : Int) := by omega
              obtain ⟨c2, hc2, c297⟩ := abc_at (j := i / 26) (by omega)
              refine ⟨_, rfl, _, rfl, _, rfl, _, _, rfl, rfl, ⟨by decide, by decide⟩, _, _, c2, rfl, rfl, by omega, by omega, (show _ < ((26 : Nat) : Int) by omega), (by rw [hd]; exact hc2), _, _, rfl, rfl, ?_, D, _, _, rfl, rfl, e2, room, ?_⟩
              · show y.length + 1 ≤ sizeLine
                exact small_size (by omega)
              · have l2 : (y ++ (⟨#[c2]⟩ : Str)).length = y.length + 1 := app_len y ⟨#[c2]⟩
                exact done (y ++ ⟨#[c2]⟩) _ _ _ ⟨y1.app (low_one c297), by omega, by omega⟩ (form_ge y5 (by omega) (fun e => by have := hm26 e; omega) (by rw [cs_app, abc_code2 (by omega) hc2]))
        · have Y : NameI (cutS z none (some (cut : Int)) ++ lt) i ∧ BaseF md (cs (cutS z none (some (cut : Int)))) bg st i (cutS z none (some (cut : Int)) ++ lt) := ⟨Y0, .inr ⟨by rw [← hmd, Bool.eq_false_iff.mpr hw, Bool.false_and], by rw [cs_app, ec]⟩⟩
          revert Y
          generalize (cutS z none (some (cut : Int)) ++ lt) = y
          intro Y
          obtain ⟨⟨y1, y2, y3, y4⟩, y5⟩ := Y
          have done : ∀ (u : Str) (x8 x10 x11 : Option V), NameZ u → Form md (cs (cutS z none (some (cut : Int)))) bg st i u → ∃ (zs' : List Str) (x8' x10' x11' : Option V), [some (V.ref b), some (.int (m : Int)), some (.str abc), some (.int (way : Int)), some (.int (cut : Int)), some (.int (bg : Int)), some (.int (st : Int)), some (.str z), x8, some (.ref D), x10, x11] = [some (.ref b), some (.int (m : Int)), some (.str abc), some (.int (way : Int)), some (.int (cut : Int)), some (.int (bg : Int)), some (.int (st : Int)), some (.str z), x8', some (.ref D), x10', x11'] ∧
              upd H2 D (.lst (zs.map V.str ++ [.str u])) D = some (.lst (zs'.map V.str)) ∧ zs'.length = i + 1 ∧ (∀ y ∈ zs', NameZ y) ∧ (∀ (k : Nat) (y : Str), zs'[k]? = some y → Form md (cs (cutS z none (some (cut : Int)))) bg st k y) ∧ BoxAt (upd H2 D (.lst (zs.map V.str ++ [.str u]))) b (n + 11) ∧ But b H (upd H2 D (.lst (zs.map V.str ++ [.str u]))) := fun u x8 x10 x11 hu hu2 => by
            refine ⟨zs ++ [u], x8, x10, x11, rfl, ?_, ?_, fun v hv => ?_, form_app hlz hf hu2, box_upd B2 nD, but_upd k2 fD⟩
            · rw [upd_same, List.map_append]
              rfl
            · rw [List.length_append, hlz]
              rfl
            · rcases List.mem_append.mp hv with hv | hv
              · exact hy v hv
              · rw [List.mem_singleton.mp hv]
                exact hu
          have room : (zs.map V.str).length < sizeLine := by
            rw [List.length_map]
            exact small1000 (by omega)
          refine ⟨_, rfl, .inl ⟨rfl, _, .of e2⟩, _, rfl, _, _, rfl, rfl, _, rfl, ite2 (fun h26 => ?_) (fun h26 => ?_)⟩
          · exact ⟨_, rfl, D, _, _, rfl, rfl, e2, room, done y _ _ _ ⟨y1, y2, y3⟩ (form_lt y5 (by have := of_decide_eq_true h26; omega))⟩
          · have h26' : ¬ ((0 + (i : Int)) < 26) := fun h => h26 (decide_eq_true h)
            have yl := y4 (by omega)
            have hd : (0 + (i : Int)) / 26 = ((i / 26 : Nat) : Int) := by omega
            obtain ⟨c2, hc2, c297⟩ := abc_at (j := i / 26) (by omega)
            refine ⟨_, rfl, _, rfl, _, rfl, _, _, rfl, rfl, ⟨by decide, by decide⟩, _, _, c2, rfl, rfl, by omega, by omega, (show _ < ((26 : Nat) : Int) by omega), (by rw [hd]; exact hc2), _, _, rfl, rfl, ?_, D, _, _, rfl, rfl, e2, room, ?_⟩
            · show y.length + 1 ≤ sizeLine
              exact small_size (by omega)
            · have l2 : (y ++ (⟨#[c2]⟩ : Str)).length = y.length + 1 := app_len y ⟨#[c2]⟩
              exact done (y ++ ⟨#[c2]⟩) _ _ _ ⟨y1.app (low_one c297), by omega, by omega⟩ (form_ge y5 (by omega) (fun e => by have := hm26 e; omega) (by rw [cs_app, abc_code2 (by omega) hc2]))
      · rintro σ H2 ⟨zs, x8, x10, x11, rfl, e2, hlz, hy, hf, B2, k2⟩
        exact ⟨_, rfl, q D H2 zs hlz hy (form_nodup hcop hf (by omega)) fD e2 (B2.mono (by omega)) k2⟩
    obtain ⟨tl, pl, ql⟩ : ∃ t, PSs (cxOf CX0 P w K mg base nNames "_law_names" (defScope sNames) f cdv A outer s H E).nox ((defBody sNames).drop 2) t ∧
        ∀ (way cut bg : Nat) (H1 : Hp), cut ≤ 7 → (26 < m → cut ≤ 6) → bg < 26 → BoxAt H1 b (n + 3) → But b H H1 → t { nx := fun _ H' => Q .non H', rt := Q } [some (.ref b), some (.int (m : Int)), some (.str abc), some (.int (way : Int)), some (.int (cut : Int)), some (.int (bg : Int)), none, none, none, none, none, none] H1 := by
      refine ⟨_, pss_cons (ps_asg (pe_tup (pa_cons (pe_ix ix_list (pe_lst (pa_cons pe_int (pa_cons pe_int (pa_cons pe_int (pa_cons pe_int (pa_cons pe_int (pa_cons pe_int (pa_cons pe_int (pa_cons pe_int pa_nil)))))))))
          (pe_call GT hr1 rfl gT T.kp bT .nil pass0 (pa_cons (pv 0) (pa_cons pe_int pa_nil))) (fun _ _ => rfl)) (pa_cons pe_str pa_nil)))
        (pg_tup (by rfl) (pgs_cons (pg_name (i := 6) scNames.nd rfl (.inl rfl)) (pgs_cons (pg_name (i := 7) scNames.nd rfl (.inr rfl)) pgs_nil))))
      (pss_cons (ps_for PassesOwn.never rfl (pi_range1 rfl mr (pa_cons pe_int pa_nil)) (pg_name (i := 8) scNames.nd rfl (.inl rfl))
        (pss_one (ps_set (i := 7) scNames.nd rfl (.inr rfl) (pe_op op_add_str (pv 7) (pe_item_str (pv 2) (pe_call GT hr1 rfl gT T.kp bT .nil pass0 (pa_cons (pv 0) (pa_cons pe_int pa_nil))) (fun _ _ => rfl))))))
      (pss_cons (ps_if (PW.pt (pw_and (pt_cmpR op_eq (pv 3) pe_int (nomark _)) (pw_and1 (pt_cmpR op_lt (pv 1) pe_int (nomark _)))))
        (pss_one (ps_ret (pe_call GM hr rfl gM M.kp bM .nil pass0 (pa_cons (pv 0) (pa_cons (pe_lc (own := [("_law_k", 8)]) (g := gName 8) (tt := tYes) (by rfl) scNames.nd (pi_range1 rfl mr (pa_cons (pv 1) pa_nil))
          (blkOk_by (own := [("_law_k", 8)]) (N := nNames) (sc := defScope sNames) (by decide +kernel)) (fun _ _ _ _ _ => pg_name (i := 8) scNames.nd rfl (.inl rfl)) (fun _ _ _ _ _ => pts_nil)
          (fun _ _ _ _ _ => pe_slice sl_str (pe_op op_add_str (pv 7) (pe_item_str (pv 2) (pv 5) (fun _ _ => rfl))) po_none (po_some (pe_op op_add (pv 8) pe_int)))) pa_nil))))) pss_nil)
      psl)), ?_⟩
      intro way cut bg H1 hcut hcut2 hbg B1 k1
      refine ⟨(by show 8 ≤ sizeLine; decide), fun p1 hp1 => ?_⟩
      have np1 := box_ne B1 hp1
      refine ⟨_, rfl, b, 8, n + 3, rfl, box_new B1 hp1, by omega, by decide, by decide, fun r H2 r0 r1 B2 k2 => ?_⟩
      obtain ⟨j, rfl, hj⟩ := draw_at (n := 8) r0 r1 rfl
      have e2 := k2 _ _ np1 upd_same
      have kk2 : But b H H2 := (k1.trans (But.new hp1)).trans k2
      obtain ⟨st, hst, hst17⟩ : ∃ st : Nat, ([.int 1, .int 3, .int 5, .int 7, .int 9, .int 11, .int 15, .int 17] : List V)[j]? = some (.int (st : Int)) ∧ Cop st := by
        match j, hj with
        | 0, _ => exact ⟨1, rfl, by unfold Cop; decide⟩
        | 1, _ => exact ⟨3, rfl, by unfold Cop; decide⟩
        | 2, _ => exact ⟨5, rfl, by unfold Cop; decide⟩
        | 3, _ => exact ⟨7, rfl, by unfold Cop; decide⟩
        | 4, _ => exact ⟨9, rfl, by unfold Cop; decide⟩
        | 5, _ => exact ⟨11, rfl, by unfold Cop; decide⟩
        | 6, _ => exact ⟨15, rfl, by unfold Cop; decide⟩
        | 7, _ => exact ⟨17, rfl, by unfold Cop; decide⟩
      refine ⟨p1, _, _, .int (st : Int), rfl, rfl, .of e2, atI_nat hst, (by show 2 ≤ sizeLine; decide), fun p2 hp2 => ?_⟩
      have np2 := box_ne B2 hp2
      refine ⟨p2, _, rfl, .of upd_same, rfl, _, _, rfl, _, _, rfl, rfl, ?_⟩
      have B3 : BoxAt (upd H2 p2 (.tup [.int (st : Int), .str ""])) b (n + 4) := box_new B2 hp2
      have k3 : But b H (upd H2 p2 (.tup [.int (st : Int), .str ""])) := kk2.trans (But.new hp2)
      generalize upd H2 p2 (.tup [.int (st : Int), .str ""]) = H3 at B3 k3
      -- the stem
      refine ⟨_, rfl, by decide, by decide, ?_⟩
      refine for_range (lo := 0) (n := 7) (fun i σ H4 => ∃ (z : Str) (x8 : Option V), σ = [some (.ref b), some (.int (m : Int)), some (.str abc), some (.int (way : Int)), some (.int (cut : Int)), some (.int (bg : Int)), some (.int (st : Int)), some (.str z), x8, none, none, none] ∧ LowZ z ∧ z.length = i ∧ BoxAt H4 b (n + 4 + i) ∧ But b H H4) ?_ ?_ ?_
      · exact ⟨"", none, rfl, (fun c h => nomatch h), rfl, B3, k3⟩
      · rintro i σ H4 hi ⟨z, x8, rfl, hz, hl, B4, k4⟩
        refine ⟨_, rfl, _, rfl, _, rfl, b, 26, n + 4 + i, rfl, B4, by omega, by decide, by decide, fun r H5 r0 r1 B5 k5 => ?_⟩
        obtain ⟨j, rfl, hj⟩ := draw_at (n := 26) r0 r1 rfl
        obtain ⟨c, hc, c97⟩ := abc_at hj
        refine ⟨_, _, c, rfl, rfl, by omega, by omega, (show ((j : Nat) : Int) < ((26 : Nat) : Int) by omega), hc, ?_⟩
        refine ⟨_, _, rfl, rfl, ?_, ?_⟩
        · show z.length + 1 ≤ sizeLine
          rw [sizeLine_eq]
          omega
        · refine ⟨z ++ ⟨#[c]⟩, _, rfl, hz.app (low_one c97), ?_, B5, k4.trans k5⟩
          rw [app_len, hl]
          rfl
      · rintro σ H4 ⟨z, x8, rfl, hz, hl, B4, k4⟩
        -- from here on two ways
        have namesOf : ∀ (zs : List Str) (qs : List Vd), qs.Perm (zs.map fun z => (V.str z, PyData.str z)) → (∀ z ∈ zs, NameZ z) →
            ∃ ys : List Str, qs.map (·.1) = ys.map V.str ∧ ys.length = zs.length ∧ ∀ y ∈ ys, NameZ y := fun zs qs pm hz => by
          have each : ∀ x ∈ qs, ∃ y, x = (V.str y, PyData.str y) ∧ NameZ y := fun x hx => by
            obtain ⟨y, hy, e⟩ := List.mem_map.mp (pm.mem_iff.mp hx)
            exact ⟨y, e.symm, hz y hy⟩
          have hlen : qs.length = zs.length := by
            rw [pm.length_eq, List.length_map]
          rw [← hlen]
          clear pm hlen
          induction qs with
          | nil => exact ⟨[], rfl, rfl, fun y hy => nomatch hy⟩
          | cons x qs ih =>
            obtain ⟨y, rfl, hy⟩ := each x List.mem_cons_self
            obtain ⟨ys, e1, e2, e3⟩ := ih fun x hx => each x (List.mem_cons_of_mem _ hx)
            refine ⟨y :: ys, ?_, congrArg (· + 1) e2, fun u hu => ?_⟩
            · rw [List.map_cons, e1]
              rfl
            · rcases List.mem_cons.mp hu with rfl | hu
              · exact hy
              · exact e3 u hu
        have mInt : (m : Int).toNat = m := Int.toNat_natCast m
        refine ⟨_, rfl, rfl, _, rfl, ite2 (fun _ => ?_) (fun _ => ?_)⟩
        · refine ⟨_, rfl, _, _, rfl, rfl, _, rfl, ite2 (fun h9 => ?_) (fun _ => ?_)⟩
          · have hm9 : (m : Int) < 9 := of_decide_eq_true h9
            refine ⟨_, rfl, _, rfl, _, rfl, by omega, by omega, fun D hD => ?_⟩
            have nD := box_ne B4 hD
            have fD := free_of k4 nD hD
            rw [mInt]
            refine lc_range (lo := 0) (n := m) (fun i H5 => ∃ ys : List Str, H5 D = some (.lst (ys.map V.str)) ∧ ys.length = i ∧ (∀ y ∈ ys, NameZ y) ∧ (∀ (k : Nat) (y : Str), ys[k]? = some y → y.length = k + 1) ∧ BoxAt H5 b (n + 11) ∧ But b H H5) ?_ ?_ ?_
            · exact ⟨[], upd_same, rfl, (fun y h => nomatch h), (fun k y h => by simp at h), box_new B4 hD, but_upd k4 fD⟩
            · rintro i H5 hi ⟨ys, e5, hl5, hy, hf5, B5, k5⟩
              refine ⟨rfl, ?_⟩
              unfold tYes
              dsimp only
              rw [if_pos rfl]
              obtain ⟨c, hc, c97⟩ := abc_at hbg
              refine ⟨_, rfl, _, rfl, _, rfl, _, _, c, rfl, rfl, by omega, by omega, (show ((bg : Nat) : Int) < ((26 : Nat) : Int) by omega), hc, _, _, rfl, rfl, ?_, ?_⟩
              · show z.length + 1 ≤ sizeLine
                rw [sizeLine_eq]
                omega
              have lz : (z ++ ⟨#[c]⟩).length = 8 := by
                rw [app_len, hl]
                rfl
              refine ⟨_, rfl, _, _, rfl, rfl, _, rfl, _, rfl, small_size (by omega), ?_⟩
              have e0 : (0 + (i : Int) + 1 : Int) = ((i + 1 : Nat) : Int) := by omega
              rw [e0]
              have cl := cut_len (z ++ ⟨#[c]⟩) (i + 1)
              refine ⟨_, e5, ?_, ys ++ [cutS (z ++ ⟨#[c]⟩) none (some ((i + 1 : Nat) : Int))], ?_, ?_, ?_, form_app (G := fun k y => y.length = k + 1) hl5 hf5 (by show (cutS (z ++ ⟨#[c]⟩) none (some ((i + 1 : Nat) : Int))).length = i + 1; omega), ?_, ?_⟩
              · rw [List.length_map]
                exact small1000 (by omega)
              · rw [upd_same, List.map_append]
                rfl
              · rw [List.length_append, hl5]
                rfl
              · intro y h
                rcases List.mem_append.mp h with h | h
                · exact hy y h
                · rw [List.mem_singleton.mp h]
                  exact ⟨(hz.app (low_one c97)).cut _ _, by omega, by omega⟩
              · exact box_upd B5 nD
              · exact but_upd k5 fD
            · rintro H5 ⟨ys, e5, hl5, hy, hf5, B5, k5⟩
              refine ⟨b, D, n + 11, ys.map fun z => (V.str z, PyData.str z), rfl, B5, ?_, .inl (.of ?_), ?_, fun p H6 qs pm np e6 B6 k6 => ?_⟩
              · rw [List.length_map]
                omega
              · rw [e5, List.map_map]
                rfl
              · intro x hx
                obtain ⟨y, hyy, rfl⟩ := List.mem_map.mp hx
                exact ⟨(hy y hyy).1.lay, fun H' _ => .str y⟩
              · obtain ⟨us, u1, u2, u3⟩ := namesOf ys qs pm hy
                rw [u1] at e6
                rw [List.length_map, hl5] at B6
                exact q p H6 us (u2.trans hl5) u3 (perm_nodup pm u1 (len_nodup hf5)) (free_of k5 (box_ne B5 np) np) e6 B6 (k5.trans k6)
          · exact qsl way cut bg st z x8 H4 hcut hcut2 hbg hst17 hz hl B4 k4
        · exact qsl way cut bg st z x8 H4 hcut hcut2 hbg hst17 hz hl B4 k4
    refine ⟨_, pss_cons (ps_set (i := 2) scNames.nd rfl (.inr rfl) pe_str)
      (pss_cons (ps_asg (pe_tup (pa_cons (pe_call GT hr1 rfl gT T.kp bT .nil pass0 (pa_cons (pv 0) (pa_cons pe_int pa_nil)))
          (pa_cons (pe_call GT hr1 rfl gT T.kp bT .nil pass0 (pa_cons (pv 0) (pa_cons (pe_ifExp (pt_cmpR op_lt (pv 1) pe_int (nomark _)) pe_int pe_int) pa_nil)))
          (pa_cons (pe_call GT hr1 rfl gT T.kp bT .nil pass0 (pa_cons (pv 0) (pa_cons pe_int pa_nil))) pa_nil))))
        (pg_tup (by rfl) (pgs_cons (pg_name (i := 3) scNames.nd rfl (.inl rfl)) (pgs_cons (pg_name (i := 4) scNames.nd rfl (.inl rfl)) (pgs_cons (pg_name (i := 5) scNames.nd rfl (.inr rfl)) pgs_nil))))) pl), ?_⟩
    refine ⟨_, rfl, b, 4, n, rfl, B, by omega, by decide, by decide, fun way H1 w0 w1 B1 k1 => ?_⟩
    obtain ⟨way, rfl, _⟩ := draw_at (n := 4) w0 w1 rfl
    refine ⟨_, rfl, _, rfl, _, _, rfl, rfl, _, rfl, ite2 (fun hm27 => ?_) (fun hm27 => ?_)⟩
    · refine ⟨b, 8, n + 1, rfl, B1, by omega, by decide, by decide, fun cut H2 c0 c1 B2 k2 => ?_⟩
      obtain ⟨cut, rfl, hcut⟩ := draw_at (n := 8) c0 c1 rfl
      refine ⟨_, rfl, b, 26, n + 2, rfl, B2, by omega, by decide, by decide, fun bg H3 g0 g1 B3 k3 => ?_⟩
      obtain ⟨bg, rfl, hbg⟩ := draw_at (n := 26) g0 g1 rfl
      refine ⟨(by show 3 ≤ sizeLine; decide), fun p hp => ⟨p, _, rfl, .of upd_same, rfl, _, _, rfl, _, _, rfl, _, _, rfl, rfl, ?_⟩⟩
      have hm' : (m : Int) < 27 := of_decide_eq_true hm27
      exact ql way cut bg _ (by omega) (by omega) hbg (box_new B3 hp) (((k1.trans k2).trans k3).trans (But.new hp))
    · refine ⟨b, 7, n + 1, rfl, B1, by omega, by decide, by decide, fun cut H2 c0 c1 B2 k2 => ?_⟩
      obtain ⟨cut, rfl, hcut⟩ := draw_at (n := 7) c0 c1 rfl
      refine ⟨_, rfl, b, 26, n + 2, rfl, B2, by omega, by decide, by decide, fun bg H3 g0 g1 B3 k3 => ?_⟩
      obtain ⟨bg, rfl, hbg⟩ := draw_at (n := 26) g0 g1 rfl
      refine ⟨(by show 3 ≤ sizeLine; decide), fun p hp => ⟨p, _, rfl, .of upd_same, rfl, _, _, rfl, _, _, rfl, _, _, rfl, rfl, ?_⟩⟩
      exact ql way cut bg _ (by omega) (by omega) hbg (box_new B3 hp) (((k1.trans k2).trans k3).trans (But.new hp))
end
end G
set_option Elab.async false
set_option linter.all false
set_option maxRecDepth 100000
set_option maxHeartbeats 4000000
/-! SH3: drawn answers. -/
namespace G
open PySem PySem.Spec PyProof.Rows L2 NdefX DvT
abbrev sFew : Stmt := topS 30
abbrev sFullL : Stmt := topS 31
theorem scFew : FnScope ["_law_box_here", "_law_rows", "_law_some", "_law_many", "_law_found", "_law_row"] ["_law_box_here", "_law_rows"] (defScope sFew) := ⟨rfl, rfl, rfl, by decide +kernel, rfl, by decide +kernel, by decide +kernel⟩
theorem scFullL : FnScope ["_law_answer"] ["_law_answer"] (defScope sFullL) := ⟨rfl, rfl, rfl, by decide +kernel, rfl, by decide +kernel, by decide +kernel⟩
theorem perm_map_inv {α β : Type} {f : α → β} : ∀ {xs zs : List β}, xs.Perm zs → ∀ as : List α, zs = as.map f → ∃ us : List α, xs = us.map f ∧ us.Perm as := by
  intro xs zs h
  induction h with
  | nil =>
    intro as e
    cases as with
    | nil => exact ⟨[], rfl, .nil⟩
    | cons a as => cases e
  | cons x _ ih =>
    intro as e
    cases as with
    | nil => cases e
    | cons a as =>
      injection e with e1 e2
      obtain ⟨us, rfl, p⟩ := ih as e2
      exact ⟨a :: us, by rw [e1]; rfl, p.cons a⟩
  | swap x y l =>
    intro as e
    match as, e with
    | a :: b :: as, e =>
      injection e with e1 e2
      injection e2 with e2 e3
      exact ⟨b :: a :: as, by rw [e1, e2, e3]; rfl, .swap a b as⟩
  | trans _ _ ih1 ih2 =>
    intro as e
    obtain ⟨us, e1, p1⟩ := ih2 as e
    obtain ⟨vs, e2, p2⟩ := ih1 us e1
    exact ⟨vs, e2, p2.trans p1⟩
/-- answers in a dict, by the rows ys -/
structure FewAt (H : Hp) (d : Addr) (kvs : List (Key × V)) (ys : List Str) (an : Str → List Int) : Prop where
  d : H d = some (.dK kvs)
  keys : kvs.map (·.1) = ys.map Sum.inr
  is : ∀ q ∈ kvs, ∃ z ∈ ys, q.1 = Sum.inr z ∧ AnsAt H q.2 (an z)
theorem valV_mem {κ : Type} [DecidableEq κ] {k : κ} : ∀ {kvs : List (κ × V)}, k ∈ kvs.map (·.1) → ∃ v, valV kvs k = some v ∧ (k, v) ∈ kvs
  | [], h => nomatch h
  | p :: kvs, h => by
    by_cases e : p.1 = k
    · exact ⟨p.2, valV_pos e, by rw [← e]; exact List.mem_cons_self⟩
    · rcases List.mem_cons.mp h with z | z
      · exact (e z.symm).elim
      · obtain ⟨v, e1, e2⟩ := valV_mem (kvs := kvs) z
        exact ⟨v, (valV_neg e).trans e1, List.mem_cons_of_mem _ e2⟩
theorem valV_not_mem {κ : Type} [DecidableEq κ] {k : κ} : ∀ {kvs : List (κ × V)}, k ∉ kvs.map (·.1) → valV kvs k = none
  | [], _ => rfl
  | p :: kvs, h => by
    have e : ¬ p.1 = k := fun z => h (by rw [← z]; exact List.mem_cons_self)
    exact (valV_neg e).trans (valV_not_mem fun z => h (List.mem_cons_of_mem _ z))
theorem FewAt.ans {H : Hp} {d : Addr} {kvs : List (Key × V)} {ys zs : List Str} {an : Str → List Int} (h : FewAt H d kvs ys an) (sub : ∀ z ∈ zs, z ∈ ys) : AnsOf H d kvs zs an :=
  ⟨h.d, fun z hz => by
    have m : (Sum.inr z : Key) ∈ kvs.map (·.1) := by
      rw [h.keys]
      exact List.mem_map.mpr ⟨z, sub z hz, rfl⟩
    obtain ⟨v, e1, e2⟩ := valV_mem m
    obtain ⟨z', _, e3, a⟩ := h.is _ e2
    have e4 : z = z' := Sum.inr.inj e3
    rw [← e4] at a
    exact ⟨v, e1, a⟩⟩
theorem FewAt.same {H H' : Hp} {d : Addr} {kvs : List (Key × V)} {ys : List Str} {an : Str → List Int} (h : FewAt H d kvs ys an) (s : Same H H') : FewAt H' d kvs ys an :=
  ⟨s _ _ h.d, h.keys, fun q hq => let ⟨z, m, e, a⟩ := h.is q hq; ⟨z, m, e, a.same s⟩⟩
theorem tup_ne {H : Hp} {b a : Addr} {n : Nat} {xs : List V} (B : BoxAt H b n) (e : H a = some (.tup xs)) : a ≠ b := fun z => by
  obtain ⟨_, _, _, eb, _⟩ := B
  rw [z, eb] at e
  cases e
theorem lst_ne {K : PySem.W.Frag} {H : Hp} {b a : Addr} {n : Nat} {zs : List Str} (B : BoxAt H b n) (e : H a = some (.lst (zs.map V.str))) : a ≠ b := fun z => by
  obtain ⟨_, _, _, eb, _⟩ := B
  rw [z, eb] at e
  cases zs with
  | nil => cases e
  | cons y ys => cases e
theorem sqL_box {K : PySem.W.Frag} {H H' : Hp} {b a : Addr} {n : Nat} {zs : List Str} (k : But b H H') (B : BoxAt H b n) : SqL K H a (zs.map V.str) → SqL K H' a (zs.map V.str)
  | .inl (.inl h) => .inl (.inl (k _ _ (lst_ne (K := K) B h) h))
  | .inl (.inr ⟨o, h⟩) => .inl (.inr ⟨o, k _ _ (fun z => by
      obtain ⟨_, _, _, eb, _⟩ := B
      rw [z, eb] at h
      cases h) h⟩)
  | .inr h => .inr h
theorem nodup_take {ys : List Str} {i : Nat} {z : Str} (nd : ys.Nodup) (hz : ys[i]? = some z) : z ∉ ys.take i := fun h => by
  obtain ⟨k, hk, e⟩ := List.mem_iff_getElem.mp h
  rw [List.length_take] at hk
  rw [List.getElem_take] at e
  obtain ⟨hi, ei⟩ := List.getElem?_eq_some_iff.mp hz
  have := (List.getElem_inj (i := k) (j := i) (h₀ := by omega) (h₁ := hi) nd).mp (e.trans ei.symm)
  omega
def Small (H : Hp) (v : V) : Prop := ∃ ns, AnsAt H v ns
theorem small_int {H : Hp} {i : Int} (h : OkI i) : Small H (.int i) := ⟨[i], .inl ⟨i, rfl, rfl⟩, fun n hn => by
  rw [List.mem_singleton.mp hn]
  exact h⟩
theorem small_tup {H : Hp} {t : Addr} {ns : List Int} (e : H t = some (.tup (ns.map V.int))) (l1 : 1 ≤ ns.length) (l3 : ns.length ≤ 3) (h : ∀ n ∈ ns, OkI n) : Small H (.ref t) := ⟨ns, .inr ⟨t, rfl, e, l1, l3⟩, h⟩
theorem Small.same {H H' : Hp} {v : V} (h : Small H v) (s : Same H H') : Small H' v := let ⟨ns, a⟩ := h; ⟨ns, a.same s⟩
theorem Small.at {H H' : Hp} {v : V} (h : Small H v) (k : ∀ a xs, H a = some (.tup xs) → H' a = some (.tup xs)) : Small H' v := let ⟨ns, a⟩ := h; ⟨ns, a.at k⟩
theorem ok_all {ns : List Int} (h : ns.all (fun n => decide (-9999 ≤ n) && decide (n ≤ 9999)) = true) : ∀ n ∈ ns, OkI n := fun n hn => by
  have := List.all_eq_true.mp h n hn
  simp only [Bool.and_eq_true, decide_eq_true_eq] at this
  exact this
def spFew (K : PySem.W.Frag) : Sp := fun vs H Q _ => ∃ (b l : Addr) (n : Nat) (zs : List Str), vs = [.ref b, .ref l] ∧ BoxAt H b n ∧ n + 2 * zs.length + 2 ≤ 90000 ∧ SqL K H l (zs.map V.str) ∧ zs.length ≤ 100 ∧ zs.Nodup ∧
  ∀ (p : Addr) (H' : Hp) (kvs : List (Key × V)) (ys : List Str) (an : Str → List Int), H p = none → BoxAt H' b (n + 2 * zs.length + 2) → But b H H' → ys.Perm zs → FewAt H' p kvs ys an → Q (.ref p) H'
def spFullL (K : PySem.W.Frag) : Sp := fun vs H Q _ => ∃ (v : V) (ns : List Int), vs = [v] ∧ AnsAt H v ns ∧ ∀ (T : Addr) (H' : Hp), Same H H' → H' T = some (.tup (ns.map V.int)) → Q (.ref T) H'
section
variable {P : Program} {w : World} {K : PySem.W.Frag} {mg : Str → Option Value} {base : Heap}
theorem ok_fullL {f : Addr} {fd : FuncData} (F : Fun K "_law_full" "_law_full" sFullL f fd) (mi : mg "isinstance" = none) (mt : mg "tuple" = none) : FnOk P w K mg base CX0 1 f fd ["_law_answer"] (spFullL K) := by
  refine F.ok scFullL (fun vs H Q E h => ?_) (fun cdv A outer s H vs Q E hr h => ?_)
  · obtain ⟨v, ns, rfl, _⟩ := h
    rfl
  · obtain ⟨v, ns, rfl, ⟨k, ok⟩, q⟩ := h
    refine ⟨_, pss_one (ps_ret (pe_ifExp (pt_val (pt_isi "tuple" (pv 0) (hm := mi) (mn := mt))) (pv 0) (pe_tup (pa_cons (pv 0) pa_nil)))), ?_⟩
    rcases k with ⟨i, rfl, rfl⟩ | ⟨a, rfl, ha, l1, l3⟩
    · have hR : Rp K H (.int i) (.int i) := .int i
      refine ⟨_, rfl, _, _, _, _, _, rfl, .ty _, rp_ty hR, kit_t (.int i), _, rfl, iteF ?_⟩
      exact ⟨_, rfl, (by show 1 ≤ sizeLine; decide), fun T hT => q T _ (Same.new hT) upd_same⟩
    · have hR : Rp K H (.ref a) (.tuple (ns.map PyData.int)) := .tup ha (rpAll_ints ns)
      refine ⟨_, rfl, _, _, _, _, _, rfl, .ty _, rp_ty hR, kit_t (.tuple (ns.map PyData.int)), _, rfl, iteT ?_⟩
      exact ⟨_, rfl, q a H (Same.refl H) ha⟩
theorem ok_few {f fT fM : Addr} {fd fdT fdM : FuncData} (F : Fun K "_law_few_answers" "_law_few_answers" sFew f fd) (T : Fun K "_law_take" "_law_take" sTake fT fdT) (bT : Binds K fdT ["_law_box_here", "_law_many"] []) (gT : mg "_law_take" = some (.ref fT))
    (GM : FnOk P w K mg base CX0 2 fM fdM ["_law_box_here", "_law_some"] (spMixR K)) (gM : mg "_law_mixed" = some (.ref fM)) (kM : PySem.W.keepIn K (.ref fM) = true) (bM : Binds K fdM ["_law_box_here", "_law_some"] []) : FnOk P w K mg base CX0 3 f fd ["_law_box_here", "_law_rows"] (spFew K) := by
  have GT : FnOk P w K mg base CX0 1 fT fdT ["_law_box_here", "_law_many"] spTake := ok_take T
  refine F.ok scFew (fun vs H Q E h => ?_) (fun cdv A outer s H vs Q E hr h => ?_)
  · obtain ⟨b, l, n, zs, rfl, _⟩ := h
    rfl
  · obtain ⟨b, l, n, zs, rfl, B, hn, hl, few, nd, q⟩ := h
    have hr1 := hr.mono (show 1 ≤ 2 by decide)
    refine ⟨_, pss_cons (ps_set (i := 2) scFew.nd rfl (.inl rfl) (pe_lst (pa_cons pe_int (pa_cons pe_int (pa_cons (pe_tup (pa_cons pe_int pa_nil)) (pa_cons (pe_tup (pa_cons pe_int pa_nil)) (pa_cons (pe_tup (pa_cons pe_int (pa_cons pe_int pa_nil)))
        (pa_cons (pe_tup (pa_cons pe_int (pa_cons (pe_un un_neg pe_int) pa_nil))) (pa_cons (pe_un un_neg pe_int) (pa_cons pe_int (pa_cons (pe_tup (pa_cons pe_int (pa_cons pe_int (pa_cons pe_int pa_nil)))) (pa_cons (pe_tup (pa_cons pe_int (pa_cons pe_int (pa_cons pe_int pa_nil))))
        (pa_cons (pe_tup (pa_cons pe_int (pa_cons pe_int (pa_cons (pe_un un_neg pe_int) pa_nil)))) pa_nil)))))))))))))
      (pss_cons (ps_expr (pe_bm PySem.F.plainAttrs_list PySem.F.slot_list_append PySem.F.type_list_append mt_append (pv 2) (pa_cons (pe_op op_sub (pe_call GT hr1 rfl gT T.kp bT .nil pass0 (pa_cons (pv 0) (pa_cons pe_int pa_nil))) pe_int) pa_nil)))
      (pss_cons (ps_par (i := 3) (j := 4) (by rfl) scFew.nd rfl rfl (by decide) rfl rfl (pa_cons (pe_op op_add pe_int (pe_call GT hr1 rfl gT T.kp bT .nil pass0 (pa_cons (pv 0) (pa_cons pe_int pa_nil)))) (pa_cons pe_dnewK pa_nil)) (by rfl))
      (pss_cons (ps_for PassesOwn.never rfl (pi_list (pe_call GM hr rfl gM kM bM .nil pass0 (pa_cons (pv 0) (pa_cons (pv 1) pa_nil)))) (pg_name (i := 5) scFew.nd rfl (.inl rfl))
        (pss_one (ps_dput (hu_of hr) (pv 4) (pv 5) (pe_ix (r := rIxL K) ix_list (pv 2) (pe_call GT hr1 rfl gT T.kp bT .nil pass0 (pa_cons (pv 0) (pa_cons (pv 3) pa_nil))) (fun _ _ => rfl)) rfl)))
      (pss_one (ps_ret (pv 4)))))), ?_⟩
    have z1 : 1 ≤ sizeLine := by decide
    have z2 : 2 ≤ sizeLine := by decide
    have z3 : 3 ≤ sizeLine := by decide
    have z11 : 11 ≤ sizeLine := by decide
    -- the answers to be drawn from
    refine ⟨z1, fun t1 g1 => ?_⟩
    have s1 := Same.new (o := .tup [.int 1]) g1
    have e1 : upd H t1 (.tup [.int 1]) t1 = some (.tup ([1].map V.int)) := upd_same
    generalize upd H t1 (.tup [.int 1]) = H1 at s1 e1 ⊢
    refine ⟨z1, fun t2 g2 => ?_⟩
    have s2 := Same.new (o := .tup [.int 0]) g2
    have e2 : upd H1 t2 (.tup [.int 0]) t2 = some (.tup ([0].map V.int)) := upd_same
    generalize upd H1 t2 (.tup [.int 0]) = H2 at s2 e2 ⊢
    refine ⟨z2, fun t3 g3 => ?_⟩
    have s3 := Same.new (o := .tup [.int 0, .int 1]) g3
    have e3 : upd H2 t3 (.tup [.int 0, .int 1]) t3 = some (.tup ([0, 1].map V.int)) := upd_same
    generalize upd H2 t3 (.tup [.int 0, .int 1]) = H3 at s3 e3 ⊢
    refine ⟨_, rfl, z2, fun t4 g4 => ?_⟩
    have s4 := Same.new (o := .tup [.int 0, .int (-1)]) g4
    have e4 : upd H3 t4 (.tup [.int 0, .int (-1)]) t4 = some (.tup ([0, -1].map V.int)) := upd_same
    generalize upd H3 t4 (.tup [.int 0, .int (-1)]) = H4 at s4 e4 ⊢
    refine ⟨_, rfl, z3, fun t5 g5 => ?_⟩
    have s5 := Same.new (o := .tup [.int 9999, .int 0, .int 0]) g5
    have e5 : upd H4 t5 (.tup [.int 9999, .int 0, .int 0]) t5 = some (.tup ([9999, 0, 0].map V.int)) := upd_same
    generalize upd H4 t5 (.tup [.int 9999, .int 0, .int 0]) = H5 at s5 e5 ⊢
    refine ⟨z3, fun t6 g6 => ?_⟩
    have s6 := Same.new (o := .tup [.int 0, .int 0, .int 5]) g6
    have e6 : upd H5 t6 (.tup [.int 0, .int 0, .int 5]) t6 = some (.tup ([0, 0, 5].map V.int)) := upd_same
    generalize upd H5 t6 (.tup [.int 0, .int 0, .int 5]) = H6 at s6 e6 ⊢
    refine ⟨_, rfl, z3, fun t7 g7 => ?_⟩
    have s7 := Same.new (o := .tup [.int 0, .int 0, .int (-5)]) g7
    have e7 : upd H6 t7 (.tup [.int 0, .int 0, .int (-5)]) t7 = some (.tup ([0, 0, -5].map V.int)) := upd_same
    generalize upd H6 t7 (.tup [.int 0, .int 0, .int (-5)]) = H7 at s7 e7 ⊢
    have all7 : ∀ v ∈ [V.int 0, V.int 1, V.ref t1, V.ref t2, V.ref t3, V.ref t4, V.int (-9999), V.int 9999, V.ref t5, V.ref t6, V.ref t7], Small H7 v := by
      have s67 := s6.trans s7
      have s57 := s5.trans s67
      have s47 := s4.trans s57
      have s37 := s3.trans s47
      have s27 := s2.trans s37
      intro v hv
      simp only [List.mem_cons, List.not_mem_nil, or_false] at hv
      rcases hv with rfl | rfl | rfl | rfl | rfl | rfl | rfl | rfl | rfl | rfl | rfl
      · exact small_int ⟨by decide, by decide⟩
      · exact small_int ⟨by decide, by decide⟩
      · exact small_tup (s27 _ _ e1) (by decide) (by decide) (ok_all (by decide))
      · exact small_tup (s37 _ _ e2) (by decide) (by decide) (ok_all (by decide))
      · exact small_tup (s47 _ _ e3) (by decide) (by decide) (ok_all (by decide))
      · exact small_tup (s57 _ _ e4) (by decide) (by decide) (ok_all (by decide))
      · exact small_int ⟨by decide, by decide⟩
      · exact small_int ⟨by decide, by decide⟩
      · exact small_tup (s67 _ _ e5) (by decide) (by decide) (ok_all (by decide))
      · exact small_tup (s7 _ _ e6) (by decide) (by decide) (ok_all (by decide))
      · exact small_tup e7 (by decide) (by decide) (ok_all (by decide))
    have s07 : Same H H7 := s1.trans (s2.trans (s3.trans (s4.trans (s5.trans (s6.trans s7)))))
    clear e1 e2 e3 e4 e5 e6 e7 g1 g2 g3 g4 g5 g6 g7 s1 s2 s3 s4 s5 s6 s7
    refine ⟨z11, fun m0 hm0 => ?_⟩
    generalize hx : [V.int 0, V.int 1, V.ref t1, V.ref t2, V.ref t3, V.ref t4, V.int (-9999), V.int 9999, V.ref t5, V.ref t6, V.ref t7] = xs at all7 ⊢
    have l11 : xs.length = 11 := by rw [← hx]; rfl
    clear hx
    have B7 : BoxAt H7 b n := B.keep fun o e => s07 _ _ e
    have nm0 := box_ne B7 hm0
    have em8 : upd H7 m0 (.lst xs) m0 = some (.lst xs) := upd_same
    have s8 := Same.new (o := .lst xs) hm0
    have all8 : ∀ v ∈ xs, Small (upd H7 m0 (.lst xs)) v := fun v hv => (all7 v hv).same s8
    have B8 := box_new (o := .lst xs) B7 hm0
    have k08 : But b H (upd H7 m0 (.lst xs)) := .same (s07.trans s8)
    generalize upd H7 m0 (.lst xs) = H8 at em8 all8 B8 k08 ⊢
    -- one more
    refine ⟨_, rfl, .inl ⟨rfl, _, .of em8⟩, _, rfl, b, 19999, n, rfl, B8, by omega, by decide, by decide, fun r H9 r0 r1 B9 k9 => ?_⟩
    have em9 := k9 _ _ nm0 em8
    have all9 : ∀ v ∈ xs, Small H9 v := fun v hv => (all8 v hv).at fun a ys e => k9 _ _ (tup_ne B8 e) e
    refine ⟨_, _, rfl, rfl, m0, _, _, rfl, rfl, em9, small1000 (by omega), ?_⟩
    have all10 : ∀ v ∈ xs ++ [V.int (r - 9999)], Small (upd H9 m0 (.lst (xs ++ [V.int (r - 9999)]))) v := fun v hv => by
      have hv2 : Small H9 v := by
        rcases List.mem_append.mp hv with h | h
        · exact all9 v h
        · rw [List.mem_singleton.mp h]
          exact small_int ⟨by omega, by omega⟩
      exact hv2.at fun a ys e => by
        rw [upd_ne (ne_of e em9 (fun z => nomatch z))]
        exact e
    have l12 : (xs ++ [V.int (r - 9999)]).length = 12 := by rw [List.length_append, l11]; rfl
    have em10 : upd H9 m0 (.lst (xs ++ [V.int (r - 9999)])) m0 = some (.lst (xs ++ [V.int (r - 9999)])) := upd_same
    have k010 : But b H (upd H9 m0 (.lst (xs ++ [V.int (r - 9999)]))) := fun c o nc e => by
      have e9 := (k08.trans k9) c o nc e
      rw [upd_ne fun z => by rw [z] at e; rw [s07.free hm0] at e; cases e]
      exact e9
    have B10 : BoxAt (upd H9 m0 (.lst (xs ++ [V.int (r - 9999)]))) b (n + 1) := B9.keep fun o e => by rw [upd_ne (Ne.symm nm0)]; exact e
    generalize upd H9 m0 (.lst (xs ++ [V.int (r - 9999)])) = HA at em10 all10 B10 k010 ⊢
    generalize xs ++ [V.int (r - 9999)] = xs12 at em10 all10 l12
    clear all7 all8 all9 em8 em9 B7 B8 B9 k08 k9
    -- how many, the dict
    refine ⟨_, rfl, b, 12, n + 1, rfl, B10, by omega, by decide, by decide, fun r' HB r0' r1' BB kB => ?_⟩
    obtain ⟨j, rfl, hj⟩ := draw_at (n := 12) r0' r1' rfl
    refine ⟨_, _, rfl, rfl, fun D hD => ?_⟩
    refine ⟨_, _, rfl, ?_⟩
    have nD := box_ne BB hD
    have emB := kB _ _ nm0 em10
    have allB : ∀ v ∈ xs12, Small HB v := fun v hv => (all10 v hv).at fun a ys e => kB _ _ (tup_ne B10 e) e
    have sC := Same.new (o := .dK []) hD
    have eC : upd HB D (.dK []) D = some (.dK []) := upd_same
    have kC : But b H (upd HB D (.dK [])) := (k010.trans kB).trans (.same sC)
    have fD : H D = none := free_of (k010.trans kB) nD hD
    have BC := box_new (o := .dK []) BB hD
    have emC := sC _ _ emB
    have allC : ∀ v ∈ xs12, Small (upd HB D (.dK [])) v := fun v hv => (allB v hv).same sC
    generalize upd HB D (.dK []) = HC at eC kC BC emC allC ⊢
    -- the rows in a drawn order
    have nlb : SqL K HC l (zs.map V.str) := sqL_box kC B hl
    refine ⟨_, rfl, _, rfl, b, l, n + 2, _, rfl, BC, by rw [List.length_map]; omega, nlb, fun p H2 vs pm np ep B2 k2 => ?_⟩
    obtain ⟨ys, rfl, pmy⟩ := perm_map_inv pm zs rfl
    rw [List.length_map] at B2
    have ly : ys.length = zs.length := pmy.length_eq
    have ndy : ys.Nodup := pmy.nodup_iff.mpr nd
    have npb := box_ne BC np
    have em2 := k2 _ _ nm0 emC
    have e2 := k2 _ _ nD eC
    have all2 : ∀ v ∈ xs12, Small H2 v := fun v hv => (allC v hv).at fun a ws e => k2 _ _ (tup_ne BC e) e
    have k02 := kC.trans k2
    have npD : p ≠ D := fun z => by
      rw [z, e2] at ep
      cases ep
    have nmD : m0 ≠ D := fun z => by
      rw [z, e2] at em2
      cases em2
    refine ⟨p, rfl, ⟨_, .of ep⟩, ?_⟩
    refine for_list (xs := ys.map V.str) (fun i σ H3 => (∀ c o, c ≠ b → c ≠ D → H2 c = some o → H3 c = some o) ∧ BoxAt H3 b (n + 2 + zs.length + i) ∧ (∃ kvs an, FewAt H3 D kvs (ys.take i) an) ∧ ∃ x5 : Option V, σ = [some (.ref b), some (.ref l), some (.ref m0), some (.int (1 + (j : Int))), some (.ref D), x5]) ?_ ?_ ?_ ?_
    · exact ⟨fun _ _ _ _ e => e, B2, ⟨[], fun _ => [], e2, rfl, fun q hq => nomatch hq⟩, none, rfl⟩
    · exact fun i σ H3 _ h => .of (h.1 _ _ npb npD ep)
    · rintro i x σ H3 hx ⟨k3, B3, ⟨kvs, an, fa⟩, x5, rfl⟩
      rw [List.getElem?_map] at hx
      obtain ⟨z, hz, rfl⟩ := Option.map_eq_some_iff.mp hx
      have hi : i < ys.length := (List.getElem?_eq_some_iff.mp hz).1
      refine ⟨_, rfl, _, rfl, _, rfl, b, _, _, rfl, B3, by omega, by omega, by omega, fun r2 H4 r20 r21 B4 k4 => ?_⟩
      obtain ⟨j2, rfl, hj2⟩ := draw_at (n := 1 + j) r20 r21 (by omega)
      have em4 := k4 _ _ nm0 (k3 _ _ nm0 nmD em2)
      have hj3 : j2 < xs12.length := by omega
      have hv : xs12[j2]? = some xs12[j2] := List.getElem?_eq_getElem hj3
      refine ⟨m0, _, _, _, rfl, rfl, .of em4, atI_nat hv, ?_⟩
      have eD4 := k4 _ _ nD fa.d
      have kz : kvs.length = i := by
        have := congrArg List.length fa.keys
        rw [List.length_map, List.length_map, List.length_take] at this
        omega
      refine ⟨_, rfl, _, rfl, D, _, rfl, DPut.k (k := Sum.inr z) eD4 (small1000 (by omega)), ?_⟩
      obtain ⟨ns, ha⟩ := all2 _ (List.getElem_mem hj3)
      have t24 : ∀ a ws, H2 a = some (.tup ws) → upd H4 D (.dK (putK kvs (Sum.inr z) xs12[j2])) a = some (.tup ws) := fun a ws e => by
        have e3 := k3 _ _ (tup_ne B2 e) (ne_of e e2 (fun z => nomatch z)) e
        have e4 := k4 _ _ (tup_ne B3 e3) e3
        rw [upd_ne (ne_of e4 eD4 (fun z => nomatch z))]
        exact e4
      have t34 : ∀ a ws, H3 a = some (.tup ws) → upd H4 D (.dK (putK kvs (Sum.inr z) xs12[j2])) a = some (.tup ws) := fun a ws e3 => by
        have e4 := k4 _ _ (tup_ne B3 e3) e3
        rw [upd_ne (ne_of e4 eD4 (fun z => nomatch z))]
        exact e4
      have nz : z ∉ ys.take i := nodup_take ndy hz
      have nk : (Sum.inr z : Key) ∉ kvs.map (·.1) := by
        rw [fa.keys]
        intro h
        obtain ⟨y, hy, e⟩ := List.mem_map.mp h
        rw [Sum.inr.inj e] at hy
        exact nz hy
      refine ⟨fun c o n1 n2 e => ?_, ?_, ⟨putK kvs (Sum.inr z) xs12[j2], fun y => if y = z then ns else an y, upd_same, ?_, fun q hq => ?_⟩, _, rfl⟩
      · rw [upd_ne n2]
        exact k4 _ _ n1 (k3 _ _ n1 n2 e)
      · exact (B4.keep fun o e => by rw [upd_ne (Ne.symm nD)]; exact e).mono (by omega)
      · rw [putK_new _ (valV_not_mem nk), List.map_append, fa.keys, take_snoc hz, List.map_append]
        rfl
      · rw [putK_new _ (valV_not_mem nk)] at hq
        rw [take_snoc hz]
        rcases List.mem_append.mp hq with h | h
        · obtain ⟨y, hy, ey, ay⟩ := fa.is q h
          refine ⟨y, List.mem_append_left _ hy, ey, ?_⟩
          rw [if_neg fun e : y = z => nz (e ▸ hy)]
          exact ay.at t34
        · rw [List.mem_singleton.mp h]
          refine ⟨z, List.mem_append_right _ List.mem_cons_self, rfl, ?_⟩
          rw [if_pos rfl]
          exact ha.at t24
    · rintro σ H3 ⟨k3, B3, ⟨kvs, an, fa⟩, x5, rfl⟩
      rw [List.length_map, List.take_length] at fa
      rw [List.length_map] at B3
      refine ⟨_, rfl, q D H3 kvs ys an fD (B3.mono (by omega)) (fun c o nc e => ?_) pmy fa⟩
      exact k3 _ _ nc (fun z => by rw [z, fD] at e; cases e) (k02 _ _ nc e)
end
end G
set_option Elab.async false
set_option linter.all false
set_option maxRecDepth 100000
set_option maxHeartbeats 2000000
/-! SK1: sorted(xs, key=f) of a list or a tuple over the heap; the call of a lambda whose body is d[a]. -/
namespace SkL
open PySem PySem.Spec PyProof.Rows L2 LamX PySem.W
section
variable {prog : Program} {w : World} {A : Around} {E : Value → Shared → Prop} {s : Shared} {β : Type} {vs : List Value} {bs : List β} {R : Value → β → Prop}
/-- the items of a list or a tuple, taken into a new list: so much the heap grows -/
theorem collect_sized {Q : List Value → Shared → Prop} {it : Addr} {T : String} {o : Obj} {items : Array Value} {n : Nat} (hT : T = "list" ∨ T = "tuple") (ho : s.heap.get? it = some o) (hc : o.cls = .type T) (hd : o.data = .seq items n) (hsz : items.size ≤ sizeLine)
    (hQ : ∀ h', h'.objs.size = s.heap.objs.size + 1 → (∀ b u, s.heap.get? b = some u → h'.get? b = some u) → Q items.toList { s with heap := h' }) : wpAny (model prog w) A (collect (.ref it)) Q E s := by
  let g : Heap := s.heap.push { cls := .type "list", data := .seq ([] : List Value).toArray }
  let g2 : Heap := g.update s.heap.objs.size (Obj.mapSeq (· ++ items))
  have new : g.get? s.heap.objs.size = some { cls := .type "list", data := .seq #[] 0 } := Heap.get?_push_size _ rfl
  have put := Heap.get?_update_self (Obj.mapSeq (· ++ items)) new rfl
  have size2 : g2.objs.size = s.heap.objs.size + 1 := by
    show (g.update _ _).objs.size = _
    rw [Heap.size_update, Heap.size_push]
  have keep2 : ∀ b u, s.heap.get? b = some u → g2.get? b = some u := fun b u e => (Heap.get?_update_other _ _ (Nat.ne_of_gt (Heap.lt_size e))).trans (Heap.get?_push_of_some _ e)
  have last : wpAny (model prog w) A (load s.heap.objs.size >>= fun o => match o.data with
      | .seq xs _ => pure xs.toList
      | _ => unsupported "internal:collect") Q E { s with heap := g2 } := by
    refine wpAny_bind (wpAny_load put (wpAny_pure ?_))
    rw [show ((#[] : Array Value) ++ items).toList = items.toList from by simp]
    exact hQ g2 size2 keep2
  unfold collect
  refine wpAny_bind (wpAny_runValue (codeAny_builtin PySem.F.entry_proto_collect ?_))
  rw [Around.under_plainId PySem.F.plain_proto_collect _]
  show wpAny _ A.in1 (newList [] >>= fun l => again (.builtin "list.__iadd__" ⟨[l, .ref it], []⟩)) _ _ s
  refine wpAny_bind (wpAny_newObj_type (wpAny_pure ⟨plainId_quiet PySem.F.plain_list_iadd _, codeAny_builtin PySem.F.entry_list_iadd ?_⟩))
  rw [Around.under_plainId PySem.F.plain_list_iadd _]
  show wpAny _ A.in1 (Builtin.List.listExtendWith (.ref s.heap.objs.size) (.ref it) (.ref s.heap.objs.size)) _ _ { s with heap := g }
  refine wpAny_mono (wpAny_extend_seq (hsz := hsz) (A := A) (R := fun r s' => r = .ok (.ret (.ref s.heap.objs.size)) ∧ s' = { s with heap := g2 }) (s := { s with heap := g }) _ it _ 0 hT new (Heap.get?_push_of_some _ ho) hc hd ⟨rfl, rfl⟩) (fun fin s' h => ?_) fun e s' h => absurd h.1 (by simp)
  cases fin with
  | done f =>
    obtain ⟨e, rfl⟩ := h
    cases e
    exact last
  | again c' =>
    refine ⟨h.1, codeAny_mono h.2 fun r s'' hr => ?_⟩
    obtain ⟨rfl, rfl⟩ := hr
    exact last
/-- sorted(xs, key=f), xs a list or a tuple -/
theorem sorted_key_seq {l : Addr} {o : Obj} {n : Nat} {T : String} {f : Value} {kw : List (Str × Value)} {Q : Value → Shared → Prop} (k : β → PyData) (hT : T = "list" ∨ T = "tuple") (ho : s.heap.get? l = some o) (hc : o.cls = .type T) (hd : o.data = .seq vs.toArray n)
    (e : EachIs R vs bs) (hal : AllAlike (bs.map k)) (hk : Sortable (bs.map k)) (hL : bs.length ≤ sizeLine)
    (hu : ∀ x, x ∈ bs → A.units + 2 + (k x).depth < cLine) (ha1 : argsOk "sorted" ⟨[.ref l], kw⟩) (ha2 : ∀ x, argsOk "list.sort" ⟨[.ref x], kw⟩) (ht : ∀ x, Builtin.«list.sort» ⟨[.ref x], kw⟩ = ksk_tree x f false)
    (turn : ∀ (v : Value) (x : β), R v x → x ∈ bs → ∀ (h : Heap) (tk : Nat), (∀ b o, s.heap.get? b = some o → h.get? b = some o) →
      wpAny (model prog w) A.in1.in1 (call f [v]) (KeyPure (k x) { s with heap := h, toks := tk }) (fun _ _ => False) { s with heap := h, toks := tk })
    (h : ∀ p out c h' tk, s.heap.objs.size ≤ p → (∀ b o, s.heap.get? b = some o → h'.get? b = some o) → h'.get? p = some (seqObj "list" (List.toArray out) c) → out.length = bs.length → EachIs R out (bs.mergeSort (dataLe false k)) →
      Q (.ref p) { s with heap := h', toks := tk }) :
    wpAny (model prog w) A (call (.builtin "sorted") [.ref l] kw) Q E s := by
  have hlen : vs.length ≤ sizeLine := by rw [e.length]; exact hL
  refine call_function_entry_kw kind_sorted plain_sorted entry_sorted ha1 ?_
  unfold Builtin.«sorted»
  refine wpAny_bind (m := checkCount "sorted" 1 1 _) (wpAny_pure ?_)
  refine wpAny_bind (collect_sized hT ho hc hd (by rw [List.size_toArray]; exact hlen) fun h1 z1 k1 => ?_)
  refine wpAny_bind (wpAny_newList ?_ hlen)
  have k2 : ∀ b u, s.heap.get? b = some u → (h1.push (seqObj "list" vs.toArray 0)).get? b = some u := fun b u q => Heap.get?_push_of_some _ (k1 b u q)
  have at1 : (h1.push (seqObj "list" vs.toArray 0)).get? h1.objs.size = some (seqObj "list" vs.toArray 0) := Heap.get?_push_size _ rfl
  have le1 : s.heap.objs.size ≤ h1.objs.size := by omega
  refine wpAny_bind (wpAny_holding (wpAny_call_entry_kw slot_list_sort ⟨_, at1, rfl⟩ entry_list_sort ?body (ha2 _)))
  case body =>
    show wpAny (model prog w) A.in1.in1 (Builtin.«list.sort» ⟨[.ref h1.objs.size], kw⟩) _ _ { s with heap := h1.push (seqObj "list" vs.toArray 0) }
    rw [ht]
    have up : ∀ {g : Heap}, KeepsBut h1.objs.size (h1.push (seqObj "list" vs.toArray 0)) g → ∀ b u, s.heap.get? b = some u → g.get? b = some u := fun {g} kp b u q =>
      kp b u (Nat.ne_of_lt (Nat.lt_of_lt_of_le (Heap.lt_size q) le1)) (k2 b u q)
    refine keyH_tree (b := false) (kz := bs.map k) (s := { s with heap := h1.push (seqObj "list" vs.toArray 0) }) at1 (by rw [List.length_map]; exact e.length.symm) hlen hal hk (bound_map (A := A.in1.in1) hu)
      (keyH_turns (s := { s with heap := h1.push (seqObj "list" vs.toArray 0) }) e fun v x hR hx g tk kp => turn v x hR hx g tk (up kp)) fun h' tk out c kp hD ko => ?_
    exact ⟨_, rfl, wpAny_pure ⟨_, rfl, h _ out c h' tk le1 (up kp) hD ((ko.length (by rw [List.length_map]; exact e.length.symm)).trans e.length) (keyedOut_each k ko e)⟩⟩
end
section
variable {P : Program} {w : World} {A : Around} {s : Shared} {f c' cc : Addr} {pm ctv v dv : Value} {params : Arguments} {scope : Scope} {cl : List (Str × Addr)} {q d a : Str} {p1 p2 p3 : Pos} {Q : Value → Shared → Prop}
/-- a lambda's call, its body d[a], d captured -/
theorem sub_call (hd : A.depth < recursionLimit) (lim : s.heap.NoLimit) (hf : s.heap.get? f = some (kla_obj "<lambda>" q params (.Subscript (.Name d p1) (.Name a p2) p3) scope cl pm c' ctv)) (hrec : s.heap.CodeRec (.ref c') q)
    (hk : scope.kind = .function) (co : scope.isCoroutine = false) (gen : scope.isGenerator = false) (nocell : ∀ y ∈ scope.names, y.2 ≠ .cell) (la : scope.names.lookup a = some .local) (ld : scope.names.lookup d = some .free)
    (hb : bindArgs (kla_fn "<lambda>" q params (.Subscript (.Name d p1) (.Name a p2) p3) scope cl pm (.ref c') ctv) ⟨[v], []⟩ = pure [(a, v)])
    (hc : cl.lookup d = some cc) (hcell : s.heap.IsCell cc (some dv)) (h1 : (a == ("__debug__" : Str)) = false) (h2 : (d == ("__debug__" : Str)) = false) (h3 : (d == ("__classdict__" : Str)) = false)
    (h : ∀ h₁ tk, (∀ b o, s.heap.get? b = some o → h₁.get? b = some o) → wpAny (model P w) (A.deeper (envX q scope s.heap.objs.size f (.ref c') cl)) (subscriptTail (.Name d p1) (.Name a p2) dv v) Q (fun _ _ => False) { s with heap := h₁, toks := tk }) :
    wpAny (model P w) A (call (.ref f) [v]) Q (fun _ _ => False) s := by
  refine wpAny_call ?_
  refine kla_callFunE hd hf rfl co gen rfl hrec ?_
  rw [hb]
  refine wpAny_pure (wpAny_newFunctionEnv nocell (fun y hy => ?_) (fun h₁ hns hsb => ⟨lim.fresh _ hsb, ?_⟩) hk)
  · rw [List.mem_singleton.mp hy]
    exact la
  show codeAny _ _ (.expr _ (envX q scope s.heap.objs.size f (.ref c') cl)) _ _
  have kp : ∀ b o, s.heap.get? b = some o → h₁.get? b = some o := fun b o e => hsb.extBut b o (Nat.ne_of_lt (Heap.lt_size e)) (Heap.get?_push_of_some _ e)
  obtain ⟨oc, ho, hdc⟩ := hcell
  refine kla_codeExpr (wpAny_mono (show wpAny _ _ _ Q (fun _ _ => False) _ from ?_) (fun v s' hq => hq) fun e s' (hq : False) => False.elim hq)
  refine Subscript_ (wpAny_Name (wpAny_loadName_free hk ld hc ⟨oc, kp _ _ ho, hdc⟩ (wpAny_Name (wpAny_loadName_local hk la hns (show List.lookup a [(a, v)].reverse = some v from by simp) ?_) h1) h3) h2)
  exact h _ _ kp
end
end SkL
set_option Elab.async false
set_option linter.all false
set_option maxRecDepth 100000
set_option maxHeartbeats 4000000
/-! SK2: sorted(xs, key=lambda a: d[a]), xs a list or a tuple of texts, d a captured dict of tuples of ints. -/
namespace SkL
open PySem PySem.Spec PyProof.Rows L2 LamX PySem.W
/-- a tuple of ints is read -/
theorem reads_ints {h : Heap} : ∀ {ns : List Int} {us : List Value}, Vals (ns.map V.int) us → ReadsAll h us (ns.map .int) []
  | [], _, .nil => .nil
  | n :: ns, _, .cons r rr => by
    obtain ⟨t, rfl⟩ := r
    exact ReadsAll.cons (.int n t) (reads_ints rr)
theorem reads_tup {P : Program} {w : World} {H : Hp} {h : Heap} {t : Addr} {ns : List Int} (ok : HOk P w H h) (e : H t = some (.tup (ns.map V.int))) : Reads h (.ref t) (.tuple (ns.map .int)) [] := by
  obtain ⟨_, us, rv, o, h1, h2, n, h3⟩ := (show ObjOk P w H h t (.tup (ns.map V.int)) from ok t _ e)
  exact .tuple h1 h2 h3 (by simpa using reads_ints rv)
section
variable {P : Program} {w : World} {A : Around} {s : Shared} {f c' cc dd t : Addr} {pm ctv v : Value} {params : Arguments} {scope : Scope} {cl : List (Str × Addr)} {q d a z : Str} {tz : Tok} {p1 p2 p3 : Pos} {H : Hp} {kvs : List (Key × V)} {ns : List Int}
/-- .. of a dict of tuples of ints: the key -/
theorem key_call (hd : A.depth < recursionLimit) (lim : s.heap.NoLimit) (hf : s.heap.get? f = some (kla_obj "<lambda>" q params (.Subscript (.Name d p1) (.Name a p2) p3) scope cl pm c' ctv)) (hrec : s.heap.CodeRec (.ref c') q)
    (hk : scope.kind = .function) (co : scope.isCoroutine = false) (gen : scope.isGenerator = false) (nocell : ∀ y ∈ scope.names, y.2 ≠ .cell) (la : scope.names.lookup a = some .local) (ld : scope.names.lookup d = some .free)
    (hb : bindArgs (kla_fn "<lambda>" q params (.Subscript (.Name d p1) (.Name a p2) p3) scope cl pm (.ref c') ctv) ⟨[.str z tz], []⟩ = pure [(a, .str z tz)])
    (hc : cl.lookup d = some cc) (hcell : s.heap.IsCell cc (some (.ref dd))) (h1 : (a == ("__debug__" : Str)) = false) (h2 : (d == ("__debug__" : Str)) = false) (h3 : (d == ("__classdict__" : Str)) = false) (hs : NoSl (.Name a p2))
    (ok : HOk P w H s.heap) (ed : Rd H dd (.dK kvs)) (ez : valV kvs (Sum.inr z : Key) = some (.ref t)) (et : H t = some (.tup (ns.map V.int))) :
    wpAny (model P w) A (call (.ref f) [.str z tz]) (KeyPure (.tuple (ns.map .int)) s) (fun _ _ => False) s := by
  refine wpAny_call ?_
  refine kla_callFunE hd hf rfl co gen rfl hrec ?_
  rw [hb]
  refine wpAny_pure (wpAny_newFunctionEnv nocell (fun y hy => ?_) (fun h₁ hns hsb => ⟨lim.fresh _ hsb, ?_⟩) hk)
  · rw [List.mem_singleton.mp hy]
    exact la
  show codeAny _ _ (.expr _ (envX q scope s.heap.objs.size f (.ref c') cl)) _ _
  have kp : ∀ b o, s.heap.get? b = some o → h₁.get? b = some o := fun b o e => hsb.extBut b o (Nat.ne_of_lt (Heap.lt_size e)) (Heap.get?_push_of_some _ e)
  obtain ⟨oc, ho, hdc⟩ := hcell
  have ok1 : HOk P w H h₁ := ok.kept kp
  obtain ⟨_, _, vs, rel, dct⟩ := dk_rd ok1 ed
  obtain ⟨w', hw, rw'⟩ := RelO.some_of (v := .ref t) (o := valueAt vs (Sum.inr z : Key)) (by rw [← ez]; exact rel.val _)
  obtain rfl : w' = Value.ref t := rw'
  refine kla_codeExpr (wpAny_mono (show wpAny _ _ _ (KeyPure (.tuple (ns.map .int)) s) (fun _ _ => False) _ from ?_) (fun v s' hq => hq) fun e s' (hq : False) => False.elim hq)
  refine subD_of PySem.F.slot_dict_getitem.lookup hs (wpAny_Name (wpAny_loadName_free hk ld hc ⟨oc, kp _ _ ho, hdc⟩ (wpAny_Name (wpAny_loadName_local hk la hns (show List.lookup a [(a, Value.str z tz)].reverse = some (.str z tz) from by simp) ⟨dct.typeIs, ?_⟩) h1) h3) h2)
  exact wpAny_getItem_of (kV_is (k := Sum.inr z) ⟨tz, rfl⟩) dct.mapOf hw ⟨h₁, _, rfl, kp, reads_tup ok1 et⟩
end
/-- a lambda of one parameter: it, captured names and globals -/
structure LamS1 (sc scope : Scope) (a d : Str) : Prop where
  kind : scope.kind = .function
  co : scope.isCoroutine = false
  gen : scope.isGenerator = false
  nocell : ∀ y ∈ scope.names, y.2 ≠ .cell
  la : scope.names.lookup a = some .local
  ld : scope.names.lookup d = some .free
  free : ∀ y ∈ scope.names, y.2 = .free → sc.names.lookup y.1 = some .cell ∨ sc.names.lookup y.1 = some .free
  own : sc.names.lookup d = some .cell ∨ sc.names.lookup d = some .free
/-- what the keys are -/
def intK (key : Str → List Int) (z : Str) : PyData := .tuple ((key z).map .int)
def sortedBy (key : Str → List Int) (zs : List Str) : List Str := zs.mergeSort (dataLe false (intK key))
theorem vals_strs : ∀ {zs : List Str} {us : List Value}, Vals (zs.map V.str) us → EachIs (fun v z => ∃ t, v = Value.str z t) us zs
  | [], _, .nil => .nil
  | _ :: _, _, .cons r rr => .cons r (vals_strs rr)
theorem strs_vals : ∀ {zs : List Str} {us : List Value}, EachIs (fun v z => ∃ t, v = Value.str z t) us zs → Vals (zs.map V.str) us
  | _, _, .nil => .nil
  | _, _, .cons r rr => .cons r (strs_vals rr)
/-- sorted(xs, key=lambda a: d[a]): d stands in the slot i -/
def tSortL (K : PySem.W.Frag) (T : List (Addr × Str)) (i : Nat) (t : TA) : TE := fun σ H Q => t σ H fun vs H1 => Tabs T H1 ∧ ∃ (l dd : Addr) (zs : List Str) (kvs : List (Key × V)) (key : Str → List Int), vs = [.ref l] ∧ (SqL K H1 l (zs.map V.str) ∨ SqT K H1 l (zs.map V.str)) ∧ σ[i]? = some (some (.ref dd)) ∧ H1 dd = some (.dK kvs) ∧
  zs.length ≤ 900 ∧ (∀ z ∈ zs, key z ≠ [] ∧ ∃ t, valV kvs (Sum.inr z : Key) = some (.ref t) ∧ H1 t = some (.tup ((key z).map V.int))) ∧
  ∀ p H2, ExtN H1 H2 → Tabs T H2 → H2 p = none → Q (.ref p) (upd H2 p (.lst ((sortedBy key zs).map V.str)))
section
variable {X : Cx} {T : List (Addr × Str)} {c P : Addr} {e : Expr} {t : TA} {params : Arguments} {scope : Scope} {a d : Str} {i : Nat} {p pos p1 p2 p3 lp kp : Pos}
theorem pe_sortLam (TB : TabB X.base X.mg c P) (hcode : X.env.code = .ref c) (hm : (P, X.env.qual ++ "<lambda>") ∈ T) (hu : ∀ p ∈ T, p.1 = P → p.2 = X.env.qual ++ "<lambda>") (L : LamS1 X.env.scope scope a d)
    (ha : PA X [e] t) (hg : Gl X "sorted") (hmg : X.mg "sorted" = none) (hr : X.A.units + 4 < cLine) (hdp : X.A.depth + 4 < recursionLimit) (hN : X.N[i]? = some d)
    (hdef : defaultsOf params X.env = ([], [])) (hbd : ∀ (q : Str) (body : Expr) (cl : List (Str × Addr)) (pm cdv ctv v : Value), bindArgs (kla_fn "<lambda>" q params body scope cl pm cdv ctv) ⟨[v], []⟩ = pure [(a, v)])
    (h1 : (a == ("__debug__" : Str)) = false) (h2 : (d == ("__debug__" : Str)) = false) (h3 : (d == ("__classdict__" : Str)) = false) (hs : NoSl (.Name a p2))
    (he1 : backTo pos (starEach [e] X.env) = (false, eval e X.env) :: backTo pos (starEach [] X.env) := by rfl) (hpl : (backTo pos (starEach [e] X.env)).any (·.1) = false := by rfl) :
    PE X (.Call (.Name "sorted" p) [e] [⟨some "key", .Lambda params (.Subscript (.Name d p1) (.Name a p2) p3) scope lp, kp⟩] pos) (tSortL X.K T i t) := by
  refine ⟨fun pins s σ H Q I h => ?_⟩
  refine wpAny_Call_Name_kw (ld_blt I hg hmg (u := .builtin "sorted") (by decide +kernel) ?_)
  refine PyProof.Rows.callWith_kw (thn (ha.run pos pins s σ H _ I h) fun us s1 ⟨vs, H1, I1, r1, q1⟩ => ?_) he1 hpl (by rfl) (by rfl)
  obtain ⟨hT, l, dd, zs, kvs, key, rfl, hseq, hdd, edd, l900, hkeys, q⟩ := q1
  obtain rfl := Vals.ref1 r1
  show wpAny _ _ (evalAll [do let v ← eval (.Lambda params (.Subscript (.Name d p1) (.Name a p2) p3) scope lp) X.env; standAt pos; pure v]) _ _ s1
  have hfree : ∀ y ∈ scope.names, y.2 = .free → ∃ c, X.env.cells.lookup y.1 = some c := fun y hy e => by
    rcases L.free y hy e with k | k
    · exact I1.ok.has _ (.inl k)
    · exact I1.ok.has _ (.inr k)
  refine wpAny_evalAll_cons (wpAny_bind (lam_make2 I1 TB hcode hm hu hT hdef hfree fun f c' pm ctv H2 s2 I2 hE hT2 hf hfn hfr hc' => wpAny_bind (wpAny_standAt (wpAny_pure (wpAny_evalAll_nil ?_)))))
  show wpAny _ _ (call (.builtin "sorted") [.ref l] [(Str.ofString "key", .ref f)]) _ _ s2
  have hf0 := I2.hok c' _ hc'
  obtain ⟨⟨oc, vs, t, hoc, hdc, hvc⟩, _, _⟩ := hf0
  -- the captured name
  obtain ⟨m, hn, hl⟩ := I2.loc
  have vis : Vis X.env.scope d := L.own.elim (fun k => .inr (.inl k)) fun k => .inr (.inr k)
  obtain ⟨w', rw', look⟩ := hl i d (.ref dd) hN hdd vis
  obtain rfl : w' = Value.ref dd := rw'
  obtain ⟨cc, hcc, hcell⟩ : ∃ cc, X.env.cells.lookup d = some cc ∧ s2.heap.IsCell cc (some (.ref dd)) := by
    rcases look with ⟨k', _⟩ | ⟨_, c3, e', z⟩
    · have k' : X.env.scope.names.lookup d = some .local := k'
      rcases L.own with k2 | k2 <;> rw [show X.env.scope.names.lookup d = _ from k2] at k' <;> cases k'
    · exact ⟨c3, e', z⟩
  obtain ⟨c2, hc2⟩ := mem_lookup (cloFrom_has (cells := X.env.cells) (acc := []) (PySem.mem_of_lookup L.ld))
  have ec2 : c2 = cc := by
    rcases cloFrom_mem (PySem.mem_of_lookup hc2) with hm | ⟨_, h2⟩
    · cases hm
    · rw [h2, hcc] <;> rfl
  rw [ec2] at hc2
  have ed2 : H2 dd = some (.dK kvs) := hE _ _ edd fun ps z => nomatch z
  -- what is sorted
  obtain ⟨its, T1, o, n, hT1, hlo, hlc, hld, rv⟩ : ∃ (its : List Value) (T1 : String) (o : Obj) (n : Nat), (T1 = "list" ∨ T1 = "tuple") ∧ s2.heap.get? l = some o ∧ o.cls = .type T1 ∧ o.data = .seq its.toArray n ∧ Vals (zs.map V.str) its := by
    rcases hseq with hs | hs
    · obtain ⟨its, rv, ⟨o, n, g1, g2, g3, g4⟩, _⟩ := I2.list (show SqL X.K H2 l (zs.map V.str) from match hs with
        | .inl (.inl h) => .inl (.inl (hE _ _ h fun ps z => nomatch z))
        | .inl (.inr ⟨o, h⟩) => .inl (.inr ⟨o, hE _ _ h fun ps z => nomatch z⟩)
        | .inr h => .inr h)
      exact ⟨its, _, o, n, .inl rfl, g1, g2, by assumption, rv⟩
    · obtain ⟨its, rv, ⟨o, g1, g2, n, g3⟩, _⟩ := I2.tuple (show SqT X.K H2 l (zs.map V.str) from match hs with
        | .inl (.inl h) => .inl (.inl (hE _ _ h fun ps z => nomatch z))
        | .inl (.inr ⟨o, h⟩) => .inl (.inr ⟨o, hE _ _ h fun ps z => nomatch z⟩)
        | .inr h => .inr h)
      exact ⟨its, _, o, n, .inr rfl, g1, g2, g3, rv⟩
  have dep : ∀ z, (intK key z).depth = 1 := fun z => by
    show (PyData.tuple ((key z).map .int)).depth = 1
    simp [PyData.depth, depth_ints]
  refine sorted_key_seq (k := intK key) hT1 hlo hlc hld (vals_strs rv) (AllAlike.of fun _ _ => by simp [intK, alike, alike_ints]) (.inl fun dt hdt => ?_) (by rw [sizeLine_eq]; omega) (fun z _ => by rw [dep]; omega) (ksk_s1 _ _) (fun _ => ksk_l1 _ _) (fun _ => ksk_t1 _ _)
    (fun v z hR hz h tk kp => ?_) fun p out c h' tk hsz kp hD hlen eo => ?_
  · obtain ⟨z, hz, rfl⟩ := List.mem_map.mp hdt
    obtain ⟨ne, _⟩ := hkeys z hz
    unfold intK
    cases e : key z with
    | nil => exact absurd e ne
    | cons n ns => exact ⟨_, _, rfl⟩
  · obtain ⟨tz, rfl⟩ := hR
    obtain ⟨_, t, e1, e2⟩ := hkeys z hz
    refine key_call (s := { s2 with heap := h, toks := tk }) (H := H2) (by show X.A.depth < _; omega) (I2.nolimit.keeps kp) (kp _ _ hf) ⟨c', oc, vs, _, rfl, kp _ _ hoc, hdc, hvc⟩ L.kind L.co L.gen L.nocell L.la L.ld (hbd _ _ _ _ _ _ _) hc2 ?_ h1 h2 h3 hs (I2.hok.kept kp) (.inl ed2) e1 (hE _ _ e2 fun ps z => nomatch z)
    obtain ⟨ob, g1, g2⟩ := hcell
    exact ⟨ob, kp _ _ g1, g2⟩
  · have rv2 := strs_vals eo
    refine ⟨.ref p, upd H2 p (.lst ((sortedBy key zs).map V.str)), I2.laid (t' := tk) kp hsz ⟨?_, out, c, rv2, hD⟩, rfl, q p H2 hE hT2 (I2.hok.fresh hsz)⟩
    rw [sizeLine_eq, List.length_map]
    unfold sortedBy
    rw [List.length_mergeSort]
    omega
end
end SkL
set_option Elab.async false
set_option linter.all false
set_option maxRecDepth 100000
set_option maxHeartbeats 2000000
/-! SM: putting each item ahead of the first one that must come behind it is the stable sort; <= of tuples of ints. -/
namespace SkL
open PySem PySem.Spec PyProof.Rows L2 LamX PySem.W
section
variable {α : Type} {le : α → α → Bool}
/-- acc is l in order, equal ones as they stood -/
def Stb (le : α → α → Bool) (l acc : List α) : Prop := ∃ L : List (α × Nat), L.map (·.1) = acc ∧ L.Perm l.zipIdx ∧ L.Pairwise fun a b => List.zipIdxLE le a b = true
theorem Stb.nil : Stb le [] [] := ⟨[], rfl, .refl _, .nil⟩
theorem zle_of {a b : α × Nat} (h : le a.1 b.1 = true) (i : a.2 ≤ b.2) : List.zipIdxLE le a b = true := by
  unfold List.zipIdxLE
  rw [if_pos h]
  split
  · exact decide_eq_true i
  · rfl
theorem zle_of2 {a b : α × Nat} (h : le a.1 b.1 = true) (n : le b.1 a.1 = false) : List.zipIdxLE le a b = true := by
  unfold List.zipIdxLE
  rw [if_pos h, if_neg (by rw [n]; exact Bool.false_ne_true)]
theorem zle_le {a b : α × Nat} (h : List.zipIdxLE le a b = true) : le a.1 b.1 = true := by
  unfold List.zipIdxLE at h
  by_cases z : le a.1 b.1 = true
  · exact z
  · rw [if_neg z] at h
    cases h
theorem Stb.len {l acc : List α} (h : Stb le l acc) : acc.length = l.length := by
  obtain ⟨L, e, pm, _⟩ := h
  rw [← e, List.length_map, pm.length_eq, List.length_zipIdx]
theorem Stb.put {l acc : List α} {z : α} {p : Nat} (T : TotalLe le) (h : Stb le l acc) (hp : p ≤ acc.length) (h1 : ∀ j x, j < p → acc[j]? = some x → le x z = true) (h2 : p = acc.length ∨ ∃ y, acc[p]? = some y ∧ le y z = false) :
    Stb le (l ++ [z]) (acc.take p ++ z :: acc.drop p) := by
  obtain ⟨L, e, pm, pw⟩ := h
  have lL : L.length = acc.length := by rw [← e, List.length_map]
  have idx : ∀ q ∈ L, q.2 < l.length := fun q hq => by
    have := List.mem_zipIdx (pm.mem_iff.mp hq)
    simpa using this.2.1
  refine ⟨L.take p ++ (z, l.length) :: L.drop p, ?_, ?_, ?_⟩
  · rw [List.map_append, List.map_cons, List.map_take, List.map_drop, e]
  · rw [List.zipIdx_append]
    have e9 : [z].zipIdx (0 + l.length) = [(z, l.length)] := by simp
    rw [e9]
    refine List.perm_middle.trans ?_
    rw [List.take_append_drop]
    exact (pm.cons _).trans (List.perm_append_singleton _ _).symm
  · have pws := pw
    rw [← List.take_append_drop p L, List.pairwise_append] at pws
    obtain ⟨q1, q2, q3⟩ := pws
    have before : ∀ x ∈ L.take p, List.zipIdxLE le x (z, l.length) = true := fun x hx => by
      obtain ⟨j, hj⟩ := List.mem_iff_getElem?.mp hx
      rw [List.getElem?_take] at hj
      split at hj
      · rename_i lt
        refine zle_of (h1 j x.1 lt ?_) (Nat.le_of_lt (idx x (List.mem_of_mem_take hx)))
        rw [← e, List.getElem?_map, hj]
        rfl
      · cases hj
    have behind : ∀ y ∈ L.drop p, List.zipIdxLE le (z, l.length) y = true := fun y hy => by
      rcases h2 with h2 | ⟨y0, hy0, n0⟩
      · rw [List.drop_of_length_le (by omega)] at hy
        cases hy
      · rw [← e, List.getElem?_map] at hy0
        obtain ⟨q0, hq0, rfl⟩ := Option.map_eq_some_iff.mp hy0
        have ed : L.drop p = q0 :: L.drop (p + 1) := by
          obtain ⟨lt, eq⟩ := List.getElem?_eq_some_iff.mp hq0
          rw [← eq]
          exact List.drop_eq_getElem_cons lt
        have zq : le z q0.1 = true := (T.total z q0.1).resolve_right (by rw [n0]; exact Bool.false_ne_true)
        have qy : le q0.1 y.1 = true := by
          rw [ed] at hy q2
          rcases List.mem_cons.mp hy with rfl | hy
          · exact (T.total _ _).elim id id
          · exact zle_le (List.rel_of_pairwise_cons q2 hy)
        refine zle_of2 (T.trans _ _ _ zq qy) ?_
        show le y.1 z = false
        cases c : le y.1 z with
        | false => rfl
        | true =>
          have := T.trans _ _ _ qy c
          rw [n0] at this
          cases this
    refine List.pairwise_append.mpr ⟨q1, List.pairwise_cons.mpr ⟨behind, q2⟩, fun a ha b hb => ?_⟩
    rcases List.mem_cons.mp hb with rfl | hb
    · exact before a ha
    · exact q3 a ha b hb
theorem Stb.eq {l acc : List α} (T : TotalLe le) (h : Stb le l acc) : acc = l.mergeSort le := by
  obtain ⟨L, e, pm, pw⟩ := h
  have tr := List.zipIdxLE_trans (le := le) T.trans
  have to := List.zipIdxLE_total (le := le) fun a b => by
    rcases T.total a b with h | h <;> simp [h]
  have eL : L = l.zipIdx.mergeSort (List.zipIdxLE le) := by
    refine List.Perm.eq_of_pairwise (le := fun a b => List.zipIdxLE le a b = true) (fun a b ha hb hab hba => ?_) pw (List.pairwise_mergeSort tr to _) (pm.trans (List.mergeSort_perm _ _).symm)
    have ia := List.mem_zipIdx (pm.mem_iff.mp ha)
    have ib := List.mem_zipIdx ((List.mergeSort_perm _ _).mem_iff.mp hb)
    have l1 := zle_le hab
    have l2 := zle_le hba
    unfold List.zipIdxLE at hab hba
    rw [if_pos l1, if_pos l2] at hab
    rw [if_pos l2, if_pos l1] at hba
    have e2 : a.2 = b.2 := Nat.le_antisymm (of_decide_eq_true hab) (of_decide_eq_true hba)
    refine Prod.ext ?_ e2
    rw [ia.2.2, ib.2.2]
    simp only [e2]
  rw [← e, eL]
  exact List.mergeSort_zipIdx
end
/-- the order of tuples of ints -/
def leI (ns ms : List Int) : Bool := !dataLt (.tuple (ms.map .int)) (.tuple (ns.map .int))
theorem leI_total (key : Str → List Int) : TotalLe fun a b => leI (key a) (key b) := sortLe_total (listOrd itemOrd) false fun z => keyToks (intK key z)
theorem sortedBy_of {key : Str → List Int} {zs acc : List Str} (h : Stb (fun a b => leI (key a) (key b)) zs acc) : acc = sortedBy key zs := h.eq (leI_total key)
def rLeI (K : PySem.W.Frag) : R2 := fun x y H Q => ∃ (a b : Addr) (ns ms : List Int), x = .ref a ∧ y = .ref b ∧ H a = some (.tup (ns.map V.int)) ∧ H b = some (.tup (ms.map V.int)) ∧ Q (.bl (leI ns ms)) H
theorem op_leI {X : Cx} (hu : X.A.units + 4 < cLine) : OpR X (compareOp .LtE) (rLeI X.K) := by
  intro pins s σ H x y v u Q I rx ry h
  obtain ⟨a, b, ns, ms, rfl, rfl, ha, hb, q⟩ := h
  cases rx
  cases ry
  have d1 : ∀ xs : List Int, (PyData.tuple (xs.map .int)).depth = 1 := fun xs => by simp [PyData.depth, depth_ints]
  have r := rcLe_alike (.tuple (ns.map .int)) (.tuple (ms.map .int)) X.A s _ _ _ _ (reads_tup I.hok ha) (reads_tup I.hok hb) (by simp [alike, alike_ints]) (fun z => nomatch z) (by rw [d1, d1]; show X.A.units + 1 < _; omega)
  exact r X.prog X.w _ _ ⟨.bl _, H, I, rfl, q⟩
end SkL
set_option Elab.async false
set_option linter.all false
set_option maxRecDepth 100000
set_option maxHeartbeats 2000000
/-! CO: a def's code object, told of its body. -/
namespace G
open PySem PySem.Spec PyProof.Rows L2 NdefX LamX
/-- the code object of the def at a -/
def cdOf (K : PySem.W.Frag) (a : Addr) : Addr := match K.lookup a with
  | some ⟨_, _, .func fd, _⟩ => (match fd.code with
    | .ref c => c
    | _ => 0)
  | _ => 0
theorem cdOf_eq {K : PySem.W.Frag} {f : Addr} {oc : Value} {od : Option Addr} {fd : FuncData} {osl : Array (Option Value)} {q : Str} (lk : K.lookup f = some ⟨oc, od, .func fd, osl⟩) (h : PySem.W.codeIn K fd.code q = true) : fd.code = .ref (cdOf K f) := by
  unfold cdOf
  rw [lk]
  show fd.code = .ref (match fd.code with | .ref c => c | _ => 0)
  cases e : fd.code with
  | ref c => rfl
  | _ =>
    rw [e] at h
    cases h
section
variable {P : Program} {w : World} {K : PySem.W.Frag} {mg : Str → Option Value} {base : Heap}
/-- as Fun.ok, the code object known -/
theorem fun_okC {x qual : Str} {st : Stmt} {f : Addr} {fd : FuncData} {N ps : List Str} {k : Nat} {sp : Sp} (F : Fun K x qual st f fd) (S : FnScope N ps (defScope st)) (len : ∀ vs H Q E, sp vs H Q E → vs.length = ps.length)
    (hbody : ∀ (A : Around) (outer : List Env) (s : Shared) (H : Hp) (vs : List V) (Q : VK) (E : XK), Room k (A.deeper (envOfC qual (defScope st) s.heap.objs.size f (.ref (cdOf K f)))) → sp vs H Q E →
      ∃ t, PSs (cxOf CX0 P w K mg base N qual (defScope st) f (.ref (cdOf K f)) A outer s H E).nox (defBody st) t ∧ t { nx := fun _ H' => Q .non H', rt := Q } (start N vs) H) : FnOk P w K mg base CX0 (k + 1) f fd ps sp := by
  obtain ⟨oc, od, kV, doc, pm, an, cdv, ct, osl, rfl, lk, hcd⟩ := F.ex
  have e : cdv = .ref (cdOf K f) := cdOf_eq lk hcd
  subst e
  refine fn_of lk hcd S len fun A outer s H vs Q E hr hsp => ?_
  obtain ⟨t, h, q⟩ := hbody A outer s H vs Q E hr hsp
  exact ⟨t, h.nox, q⟩
end
end G
set_option Elab.async false
set_option linter.all false
set_option maxRecDepth 100000
set_option maxHeartbeats 4000000
/-! OR: filtered, ordered. -/
namespace G
open PySem PySem.Spec PyProof.Rows L2 NdefX LamX SkL
/-- the name of the lambda in ordered -/
abbrev lamQ : Str := (("ordered" : Str) ++ (".<locals>." : Str)) ++ ("<lambda>" : Str)
abbrev sFil : Stmt := topS 19
abbrev sOrd : Stmt := topS 20
theorem scFil : FnScope ["rows", "answers", "row"] ["rows", "answers"] (defScope sFil) := ⟨rfl, rfl, rfl, by decide +kernel, rfl, by decide +kernel, by decide +kernel⟩
theorem scOrd : FnScope ["rows", "answers", "found"] ["rows", "answers"] (defScope sOrd) := ⟨rfl, rfl, rfl, by decide +kernel, rfl, by decide +kernel, by decide +kernel⟩
/-- rows by their answers: the table of the lambda's code grows -/
def spOrd (K : PySem.W.Frag) (T : List (Addr × Str)) : Sp := fun vs H Q _ => ∃ (l d : Addr) (zs : List Str) (kvs : List (Key × V)) (an : Str → List Int), vs = [.ref l, .ref d] ∧ SqLT K H l (zs.map V.str) ∧ RowsOk zs ∧ AnsOf H d kvs zs an ∧ Tabs T H ∧
  ∀ (p : Addr) (H' : Hp), ExtN H H' → Tabs T H' → H' p = none → Q (.ref p) (upd H' p (.lst ((sortedBy an zs).map V.str)))
/-- True of each row or not -/
structure BoolOf (H : Hp) (d : Addr) (kvs : List (Key × V)) (zs : List Str) (bo : Str → Bool) : Prop where
  d : H d = some (.dK kvs)
  is : ∀ z ∈ zs, valV kvs (Sum.inr z) = some (.bl (bo z))
theorem BoolOf.same {H H' : Hp} {d : Addr} {kvs : List (Key × V)} {zs : List Str} {bo : Str → Bool} (h : BoolOf H d kvs zs bo) (s : Same H H') : BoolOf H' d kvs zs bo := ⟨s _ _ h.d, h.is⟩
def spFil (K : PySem.W.Frag) : Sp := fun vs H Q _ => ∃ (l d : Addr) (zs : List Str) (kvs : List (Key × V)) (bo : Str → Bool), vs = [.ref l, .ref d] ∧ SqLT K H l (zs.map V.str) ∧ RowsOk zs ∧ BoolOf H d kvs zs bo ∧
  ∀ (p : Addr) (H' : Hp), Same H H' → H p = none → H' p = some (.lst ((zs.filter bo).map V.str)) → Q (.ref p) H'
section
variable {P : Program} {w : World} {K : PySem.W.Frag} {mg : Str → Option Value} {base : Heap}
theorem ok_ord {f fA Pt : Addr} {fd fdA : FuncData} (F : Fun K "ordered" "ordered" sOrd f fd) (TB : TabB base mg (cdOf K f) Pt) {T : List (Addr × Str)} (hm : (Pt, lamQ) ∈ T) (hu : ∀ p ∈ T, p.1 = Pt → p.2 = lamQ)
    (GA : FnOk P w K mg base CX0 5 fA fdA ["rows", "answers"] (spFullAs K)) (gA : mg "full_answers" = some (.ref fA)) (kA : PySem.W.keepIn K (.ref fA) = true) (bA : Binds K fdA ["rows", "answers"] []) (ms : mg "sorted" = none) :
    FnOk P w K mg base CX0 6 f fd ["rows", "answers"] (spOrd K T) := by
  refine fun_okC F scOrd (fun vs H Q E h => ?_) (fun A outer s H vs Q E hr h => ?_)
  · obtain ⟨l, d, zs, kvs, an, rfl, _⟩ := h
    rfl
  · obtain ⟨l, d, zs, kvs, an, rfl, hl, ro, ha, hT, q⟩ := h
    have hu4 : (A.deeper (envOfC "ordered" (defScope sOrd) s.heap.objs.size f (.ref (cdOf K f)))).units + 4 < cLine := by have := hr.units; omega
    have hdp : (A.deeper (envOfC "ordered" (defScope sOrd) s.heap.objs.size f (.ref (cdOf K f)))).depth + 4 < recursionLimit := by have := hr.dp; omega
    refine ⟨_, pss_cons (ps_set (i := 2) scOrd.nd rfl (.inr rfl) (pe_call GA hr rfl gA kA bA .nil pass0 (pa_cons (pv 0) (pa_cons (pv 1) pa_nil))))
      (pss_one (ps_ret (pe_sortLam (T := T) (i := 2) (a := "row") (d := "found") TB rfl hm hu (show LamS1 (defScope sOrd) _ "row" "found" from ⟨rfl, rfl, rfl, by decide +kernel, by decide +kernel, by decide +kernel, by decide +kernel, by decide +kernel⟩) (pa_cons (pv 0) pa_nil) (by rfl) ms hu4 hdp rfl rfl (fun _ _ _ _ _ _ _ => rfl) (by decide) (by decide) (by decide) (fun _ _ => rfl)))), ?_⟩
    refine ⟨_, rfl, _, rfl, l, d, zs, kvs, an, rfl, hl, ro, ha, fun fk H1 kf s1 hf1 hw => ?_⟩
    have hl1 := hl.keep s1
    refine ⟨_, rfl, hT.ext s1, l, fk, zs, kf, an, rfl, hl1, rfl, hw.d, by have := ro.few; omega, fun z hz => ?_, fun p H2 hE hT2 hp => ?_⟩
    · obtain ⟨T1, e1, e2⟩ := hw.is z hz
      obtain ⟨v, _, av, _⟩ := ha.is z hz
      refine ⟨fun e => ?_, T1, e1, e2⟩
      rcases av with ⟨i, _, e3⟩ | ⟨_, _, _, l1, _⟩
      · rw [e] at e3
        cases e3
      · rw [e] at l1
        exact absurd l1 (by decide)
    · exact q p H2 ((ExtN.of s1).trans hE) hT2 hp
theorem ok_fil {f fN fA : Addr} {fd fdN fdA : FuncData} (F : Fun K "filtered" "filtered" sFil f fd) (GN : FnOk P w K mg base CX0 2 fN fdN ["rows", "answers"] (spNeedRows K)) (gN : mg "need_rows_with_answers" = some (.ref fN)) (kN : PySem.W.keepIn K (.ref fN) = true) (bN : Binds K fdN ["rows", "answers"] [])
    (GA : FnOk P w K mg base CX0 1 fA fdA ["row", "answers"] spAnsFor) (gA : mg "answer_for" = some (.ref fA)) (kA : PySem.W.keepIn K (.ref fA) = true) (bA : Binds K fdA ["row", "answers"] []) (mi : mg "isinstance" = none) (mb : mg "bool" = none) :
    FnOk P w K mg base CX0 3 f fd ["rows", "answers"] (spFil K) := by
  refine F.ok scFil (fun vs H Q E h => ?_) (fun cdv A outer s H vs Q E hr h => ?_)
  · obtain ⟨l, d, zs, kvs, bo, rfl, _⟩ := h
    rfl
  · obtain ⟨l, d, zs, kvs, bo, rfl, hl, ro, hb, q⟩ := h
    have hr1 := hr.mono (show 1 ≤ 2 by decide)
    have hu1 : (A.deeper (envOfC "filtered" (defScope sFil) s.heap.objs.size f cdv)).units + 1 < cLine := by have := hr.units; omega
    refine ⟨_, pss_cons (ps_expr (pe_call GN hr rfl gN kN bN .nil pass0 (pa_cons (pv 0) (pa_cons (pv 1) pa_nil))))
      (pss_cons (ps_for PassesOwn.never rfl (pi_lw (pv 0)) (pg_name (i := 2) scFil.nd rfl (.inl rfl))
        (pss_one (ps_if (pt_not (pt_val (pe_callB call_isi (by rfl) mi (by decide +kernel) (pa_cons (pe_call GA hr1 rfl gA kA bA .nil pass0 (pa_cons (pv 2) (pa_cons (pv 1) pa_nil))) (pa_cons (pe_bltn (v := .ty "bool") (u := .type "bool") (by rfl) mb (by decide +kernel) rfl) pa_nil))))) (pss_one ps_never) pss_nil)))
      (pss_one (ps_ret (pe_lc (own := [("row", 2)]) (g := gName 2) (by rfl) scFil.nd (pi_lw (pv 0))
        (blkOk_by (own := [("row", 2)]) (N := ["rows", "answers", "row"]) (sc := defScope sFil) (by decide +kernel)) (fun _ _ _ _ _ => pg_name (i := 2) scFil.nd rfl (.inl rfl))
        (fun _ _ _ _ _ => pts_one (pt_val (pe_dget hu1 (pv 1) (pv 2) (fun _ _ => rfl)))) (fun _ _ _ _ _ => pv 2))))), ?_⟩
    refine ⟨_, rfl, _, rfl, l, d, zs, kvs, rfl, hl, ro, hb.d, fun H1 s1 => ?_⟩
    have hl1 := hl.keep s1
    have hb1 := hb.same s1
    refine ⟨_, rfl, l, zs.map V.str, rfl, hl1, fun J G wk hG => ?_⟩
    refine for_it wk (fun i σ H2 => Same H1 H2 ∧ ∃ x2 : Option V, σ = [some (.ref l), some (.ref d), x2]) ?_ ?_ ?_ ?_
    · exact ⟨.refl _, none, rfl⟩
    · rintro i σ H2 _ ⟨s2, _⟩
      exact hG H2 (sqL_keep s2) (sqT_keep s2)
    · rintro i x σ H2 H2' hi ⟨s2, x2, rfl⟩ ⟨rfl, hx⟩
      rw [List.getElem?_map] at hx
      obtain ⟨z, hz, rfl⟩ := Option.map_eq_some_iff.mp hx
      have hb2 := hb1.same s2
      refine ⟨_, rfl, _, rfl, z, d, kvs, _, rfl, hb2.d, hb2.is z (List.mem_of_getElem? hz), ?_⟩
      refine ⟨_, _, _, _, _, rfl, .ty _, .base (.bl _), kit_b (.bool (bo z)), _, rfl, iteF ?_⟩
      exact ⟨s2, _, rfl⟩
    · rintro σ H2 ⟨s2, x2, rfl⟩
      have hl2 := hl1.keep s2
      have hb2 := hb1.same s2
      refine ⟨_, rfl, l, zs.map V.str, rfl, hl2, fun J G wk hG => ?_⟩
      intro D hD
      have few := ro.few
      refine lc_it wk (fun i H3 => Same H2 H3 ∧ H3 D = some (.lst (((zs.take i).filter bo).map V.str))) ?_ ?_ ?_ ?_
      · exact ⟨Same.new hD, upd_same⟩
      · rintro i H3 _ ⟨s3, _⟩
        exact hG H3 (sqL_keep s3) (sqT_keep s3)
      · rintro i x H3 H3' hi ⟨s3, e3⟩ ⟨rfl, hx⟩
        rw [List.getElem?_map] at hx
        obtain ⟨z, hz, rfl⟩ := Option.map_eq_some_iff.mp hx
        have hb3 := hb2.same s3
        have g := DGet.k (k := Sum.inr z) hb3.d
        rw [hb3.is z (List.mem_of_getElem? hz)] at g
        have e9 : (zs.take (i + 1)).filter bo = if bo z = true then (zs.take i).filter bo ++ [z] else (zs.take i).filter bo := by
          rw [take_snoc hz, List.filter_append, List.filter_cons, List.filter_nil]
          split
          · rfl
          · rw [List.append_nil]
        refine ⟨rfl, ?_⟩
        refine ⟨_, rfl, _, rfl, d, _, rfl, g, _, rfl, ?_⟩
        refine ite2 (fun c => ?_) (fun c => ?_)
        · rw [if_pos c] at e9
          refine ⟨_, rfl, _, e3, ?_, fun c o eo => (upd_ne (ne_of_none eo hD)).trans (s3 _ _ eo), ?_⟩
          · rw [List.length_map]
            have := List.length_filter_le bo (zs.take i)
            rw [List.length_take] at this
            exact small1000 (by omega)
          · rw [upd_same, e9, List.map_append]
            rfl
        · rw [if_neg c] at e9
          exact ⟨s3, by rw [e9]; exact e3⟩
      · rintro H3 ⟨s3, e3⟩
        rw [List.length_map, List.take_length] at e3
        exact q D H3 ((s1.trans s2).trans s3) ((s1.trans s2).free hD) e3
end
end G
set_option Elab.async false
set_option linter.all false
set_option maxRecDepth 100000
set_option maxHeartbeats 8000000
/-! LS: _law_sorted. -/
namespace G
open PySem PySem.Spec PyProof.Rows L2 NdefX LamX SkL
abbrev sSort : Stmt := topS 32
abbrev nSort : List Str := ["_law_rows", "_law_answers", "_law_found", "_law_row", "_law_at"]
theorem scSort : FnScope nSort ["_law_rows", "_law_answers"] (defScope sSort) := ⟨rfl, rfl, rfl, by decide +kernel, rfl, by decide +kernel, by decide +kernel⟩
def forBody : Stmt → List Stmt
  | .For _ _ b _ _ => b
  | _ => []
abbrev loopS : List Stmt := forBody ((defBody sSort).getD 1 (.Pass ⟨0, 0, 0, 0⟩))
def spSort (K : PySem.W.Frag) : Sp := fun vs H Q _ => ∃ (l d : Addr) (zs : List Str) (kvs : List (Key × V)) (an : Str → List Int), vs = [.ref l, .ref d] ∧ SqL K H l (zs.map V.str) ∧ zs.length ≤ 40 ∧ AnsOf H d kvs zs an ∧
  ∀ (p : Addr) (H' : Hp), Same H H' → H p = none → H' p = some (.lst ((sortedBy an zs).map V.str)) → Q (.ref p) H'
abbrev leA (an : Str → List Int) (a b : Str) : Bool := leI (an a) (an b)
section
variable {P : Program} {w : World} {K : PySem.W.Frag} {mg : Str → Option Value} {base : Heap}
theorem ins_tail {cdv : Value} {A : Around} {outer : List Env} {s : Shared} {H : Hp} {E : XK} {f : Addr} :
    ∃ t, PSs (cxOf CX0 P w K mg base nSort "_law_sorted" (defScope sSort) f cdv A outer s H E).nox (loopS.drop 2) t ∧
      ∀ (De : Ends) (x0 x1 : Option V) (D : Addr) (z : Str) (acc : List Str) (at_ : Nat) (H2 : Hp), H2 D = some (.lst (acc.map V.str)) → at_ ≤ acc.length → acc.length ≤ 40 →
        De.nx [x0, x1, some (.ref D), some (.str z), some (.int (at_ : Nat))] (upd H2 D (.lst ((acc.take at_ ++ z :: acc.drop at_).map V.str))) →
        t De [x0, x1, some (.ref D), some (.str z), some (.int (at_ : Nat))] H2 := by
  refine ⟨_, pss_one (ps_expr (pe_bm PySem.F.plainAttrs_list PySem.F.slot_list_insert PySem.F.type_list_insert mt_insert (pv 2) (pa_cons (pv 4) (pa_cons (pv 3) pa_nil)))), ?_⟩
  intro De x0 x1 D z acc at_ H2 eD ha l40 q
  refine ⟨_, rfl, .inl ⟨rfl, _, .of eD⟩, _, rfl, _, rfl, D, _, (at_ : Nat), .str z, rfl, rfl, eD, ?_, by omega, by omega, ?_⟩
  · rw [List.length_map]
    exact small1000 (by omega)
  · rw [show (acc.map V.str).take (Int.toNat (at_ : Nat)) ++ [V.str z] ++ (acc.map V.str).drop (Int.toNat (at_ : Nat)) = (acc.take at_ ++ z :: acc.drop at_).map V.str from by
      rw [show Int.toNat (at_ : Nat) = at_ from rfl, List.map_append, List.map_cons, List.map_take, List.map_drop, List.append_assoc]
      rfl]
    exact q
theorem ok_sort {f fF : Addr} {fd fdF : FuncData} (F : Fun K "_law_sorted" "_law_sorted" sSort f fd) (GF : FnOk P w K mg base CX0 1 fF fdF ["_law_answer"] (spFullL K)) (gF : mg "_law_full" = some (.ref fF)) (kF : PySem.W.keepIn K (.ref fF) = true) (bF : Binds K fdF ["_law_answer"] []) (ml : mg "len" = none) :
    FnOk P w K mg base CX0 2 f fd ["_law_rows", "_law_answers"] (spSort K) := by
  refine F.ok scSort (fun vs H Q E h => ?_) (fun cdv A outer s H vs Q E hr h => ?_)
  · obtain ⟨l, d, zs, kvs, an, rfl, _⟩ := h
    rfl
  · obtain ⟨l, d, zs, kvs, an, rfl, hl, l40, ha, q⟩ := h
    have hu1 : (A.deeper (envOfC "_law_sorted" (defScope sSort) s.heap.objs.size f cdv)).units + 1 < cLine := by have := hr.units; omega
    have hu4 : (A.deeper (envOfC "_law_sorted" (defScope sSort) s.heap.objs.size f cdv)).units + 4 < cLine := by have := hr.units; omega
    obtain ⟨tz, pz, qz⟩ := ins_tail (P := P) (w := w) (K := K) (mg := mg) (base := base) (cdv := cdv) (A := A) (outer := outer) (s := s) (H := H) (E := E) (f := f)
    refine ⟨_, pss_cons (ps_set (i := 2) scSort.nd rfl (.inl rfl) (pe_lst pa_nil))
      (pss_cons (ps_for PassesOwn.never rfl (pi_list (pv 0)) (pg_name (i := 3) scSort.nd rfl (.inl rfl))
        (pss_cons (ps_set (i := 4) scSort.nd rfl (.inl rfl) pe_int)
        (pss_cons (ps_while PassesOwn.never (PW.pt (pw_and (pt_cmpR op_lt (pv 4) (pe_callB call_len_seq (by rfl) ml PySem.boot_len (pa_cons (pv 2) pa_nil)) (nomark _)) (pw_and1 (pt_cmpR (op_leI hu4)
            (pe_call GF hr rfl gF kF bF .nil pass0 (pa_cons (pe_dget hu1 (pv 1) (pe_ix (r := rIxL K) ix_list (pv 2) (pv 4) (fun _ _ => rfl)) (fun _ _ => rfl)) pa_nil))
            (pe_call GF hr rfl gF kF bF .nil pass0 (pa_cons (pe_dget hu1 (pv 1) (pv 3) (fun _ _ => rfl)) pa_nil)) (nomark _)))))
          (pss_one (ps_set (i := 4) scSort.nd rfl (.inl rfl) (pe_op op_add (pv 4) pe_int))))
        pz)))
      (pss_one (ps_ret (pv 2)))), ?_⟩
    refine ⟨Nat.zero_le _, fun D hD => ?_⟩
    have nDl : ∀ {H2}, Same (upd H D (.lst [])) H2 → True := fun _ => trivial
    refine ⟨_, rfl, l, rfl, ⟨_, sqL_keep (Same.new hD) hl⟩, ?_⟩
    refine for_list (xs := zs.map V.str) (fun i σ H2 => Same H H2 ∧ (∃ acc : List Str, H2 D = some (.lst (acc.map V.str)) ∧ Stb (leA an) (zs.take i) acc) ∧ ∃ x3 x4 : Option V, σ = [some (.ref l), some (.ref d), some (.ref D), x3, x4]) ?_ ?_ ?_ ?_
    · exact ⟨Same.new hD, ⟨[], upd_same, Stb.nil⟩, none, none, rfl⟩
    · rintro i σ H2 _ ⟨s2, _⟩
      exact sqL_keep s2 hl
    · rintro i x σ H2 hx ⟨s2, ⟨acc, eD, st⟩, x3, x4, rfl⟩
      rw [List.getElem?_map] at hx
      obtain ⟨z, hz, rfl⟩ := Option.map_eq_some_iff.mp hx
      have mz := List.mem_of_getElem? hz
      have lacc : acc.length ≤ 40 := by
        rw [st.len, List.length_take]
        omega
      have hD2 : ∀ {H3 : Hp}, H3 D = some (.lst (acc.map V.str)) → Same H H3 → ∀ u, Same H (upd H3 D u) := fun {H3} _ s3 u c o e => (upd_ne (ne_of_none e hD)).trans (s3 c o e)
      have fin : ∀ (at_ : Nat) (H3 : Hp), Same H H3 → H3 D = some (.lst (acc.map V.str)) → at_ ≤ acc.length → (∀ j x, j < at_ → acc[j]? = some x → leA an x z = true) → (at_ = acc.length ∨ ∃ y, acc[at_]? = some y ∧ leA an y z = false) →
          Same H (upd H3 D (.lst ((acc.take at_ ++ z :: acc.drop at_).map V.str))) ∧ (∃ acc' : List Str, (upd H3 D (.lst ((acc.take at_ ++ z :: acc.drop at_).map V.str))) D = some (.lst (acc'.map V.str)) ∧ Stb (leA an) (zs.take (i + 1)) acc') := fun at_ H3 s3 e3 la h1 h2 => by
        refine ⟨hD2 e3 s3 _, _, upd_same, ?_⟩
        rw [take_snoc hz]
        exact st.put (leI_total an) la h1 h2
      refine ⟨fun m σ H3 => ∃ at_ : Nat, m = acc.length - at_ ∧ σ = [some (.ref l), some (.ref d), some (.ref D), some (.str z), some (.int (at_ : Nat))] ∧ Same H H3 ∧ H3 D = some (.lst (acc.map V.str)) ∧ at_ ≤ acc.length ∧ ∀ j x, j < at_ → acc[j]? = some x → leA an x z = true, ⟨_, 0, rfl, rfl, s2, eD, Nat.zero_le _, fun j x h => absurd h (Nat.not_lt_zero j)⟩, ?_⟩
      rintro m σ H3 ⟨at_, rfl, rfl, s3, e3, la, h1⟩
      refine ⟨_, rfl, _, rfl, D, _, rfl, .inl (.of e3), _, _, rfl, rfl, _, rfl, ite2 (fun c => ?_) (fun c => iteF ?_)⟩
      · have c1 : ((at_ : Nat) : Int) < ((acc.map V.str).length : Nat) := of_decide_eq_true c
        rw [List.length_map] at c1
        have lt : at_ < acc.length := by omega
        have hy : acc[at_]? = some acc[at_] := List.getElem?_eq_getElem lt
        have my : acc[at_] ∈ zs := by
          obtain ⟨L, e, pm, _⟩ := id st
          have m1 : acc[at_] ∈ L.map (·.1) := by rw [e]; exact List.getElem_mem lt
          obtain ⟨q0, hq0, e0⟩ := List.mem_map.mp m1
          have := List.mem_zipIdx (pm.mem_iff.mp hq0)
          rw [← e0, this.2.2]
          exact List.mem_of_mem_take (List.getElem_mem _)
        have ha3 := ha.same s3
        obtain ⟨v1, g1, av1⟩ := ha3.is acc[at_] my
        have dg1 := DGet.k (k := Sum.inr acc[at_]) ha3.d
        rw [g1] at dg1
        refine ⟨_, rfl, _, rfl, _, rfl, D, _, ((at_ : Nat) : Int), .str acc[at_], rfl, rfl, .of e3, atI_nat (by rw [List.getElem?_map, hy] <;> rfl), d, v1, rfl, dg1, v1, an acc[at_], rfl, av1, fun T1 H4 s4 eT1 => ?_⟩
        have ha4 := ha3.same s4
        obtain ⟨v2, g2, av2⟩ := ha4.is z mz
        have dg2 := DGet.k (k := Sum.inr z) ha4.d
        rw [g2] at dg2
        refine ⟨_, rfl, _, rfl, d, v2, rfl, dg2, v2, an z, rfl, av2, fun T2 H5 s5 eT2 => ?_⟩
        have s35 := s4.trans s5
        refine ⟨T1, T2, an acc[at_], an z, rfl, rfl, s5 _ _ eT1, eT2, _, rfl, ?_⟩
        refine ite2 (fun c2 => ?_) (fun c2 => ?_)
        · refine ⟨fun σ' H' => ∃ m', m' < acc.length - at_ ∧ ∃ at2 : Nat, m' = acc.length - at2 ∧ σ' = [some (.ref l), some (.ref d), some (.ref D), some (.str z), some (.int (at2 : Nat))] ∧ Same H H' ∧ H' D = some (.lst (acc.map V.str)) ∧ at2 ≤ acc.length ∧ ∀ j x, j < at2 → acc[j]? = some x → leA an x z = true, fun _ _ h => h, ?_⟩
          refine ⟨_, rfl, _, _, rfl, rfl, acc.length - (at_ + 1), by omega, at_ + 1, rfl, by push_cast; rfl, s3.trans s35, s35 _ _ e3, by omega, fun j x hj hx => ?_⟩
          by_cases e : j = at_
          · rw [e, hy] at hx
            rw [← Option.some.inj hx]
            exact c2
          · exact h1 j x (by omega) hx
        · refine qz _ _ _ D z acc at_ H5 (s35 _ _ e3) la lacc ?_
          obtain ⟨f1, f2⟩ := fin at_ H5 (s3.trans s35) (s35 _ _ e3) la h1 (.inr ⟨_, hy, by
            show leI _ _ = false
            cases b : leI (an acc[at_]) (an z) with
            | false => rfl
            | true => exact absurd b c2⟩)
          exact ⟨f1, f2, _, _, rfl⟩
      · have c1 : ¬ ((at_ : Nat) : Int) < ((acc.map V.str).length : Nat) := fun z => c (decide_eq_true z)
        rw [List.length_map] at c1
        refine qz _ _ _ D z acc at_ H3 e3 la lacc ?_
        obtain ⟨f1, f2⟩ := fin at_ H3 s3 e3 la h1 (.inl (by omega))
        exact ⟨f1, f2, _, _, rfl⟩
    · rintro σ H2 ⟨s2, ⟨acc, eD, st⟩, x3, x4, rfl⟩
      rw [List.length_map, List.take_length] at st
      rw [sortedBy_of (key := an) st] at eD
      exact ⟨_, rfl, q D H2 s2 hD eD⟩
end
end G
set_option Elab.async false
set_option linter.all false
set_option maxRecDepth 100000
set_option maxHeartbeats 8000000
/-! SW: repr of a list of rows and two dicts; list(xs) whose place isn't that of sys.modules. -/
namespace G
open PySem PySem.Spec PyProof.Rows L2 NdefX DvT
theorem name_repr {z : Str} (h : NameZ z) : (reprText z).length ≤ 200 := by
  have h1 := StrLaws.reprText_len z fun c hc => Nat.lt_of_le_of_lt (h.1 c hc).2 (by decide)
  have := h.2.2
  omega
theorem ok_log {i : Int} (h : OkI i) : decide (i.natAbs.log2 < 1920) = true := by
  obtain ⟨h1, h2⟩ := h
  refine decide_eq_true ?_
  have h : i.natAbs < 2 ^ 14 := by omega
  by_cases z : i.natAbs = 0
  · rw [z]
    decide
  · exact Nat.lt_trans ((Nat.log2_lt z).mpr h) (by decide)
def ShowV (K : PySem.W.Frag) (H : Hp) (v : V) : Prop := ∃ D : PyData, Rp K H v D ∧ D.showable = true ∧ okS D = true ∧ D.depth ≤ 1 ∧ mass D ≤ 6000
theorem ints_show : ∀ {ns : List Int}, (∀ n ∈ ns, OkI n) → PyData.showableAll (ns.map PyData.int) = true ∧ okSAll (ns.map PyData.int) = true ∧ PyData.depthAll (ns.map PyData.int) = 0 ∧ massAll (ns.map PyData.int) ≤ 1930 * ns.length
  | [], _ => ⟨rfl, rfl, rfl, Nat.le_refl _⟩
  | n :: ns, h => by
    obtain ⟨h1, h2, h3, h4⟩ := ints_show (ns := ns) fun m hm => h m (List.mem_cons_of_mem _ hm)
    refine ⟨?_, ?_, ?_, ?_⟩
    · show (decide (n.natAbs.log2 < 1920) && PyData.showableAll (ns.map PyData.int)) = true
      rw [h1, ok_log (h n List.mem_cons_self)]
      rfl
    · exact h2
    · show max 0 (PyData.depthAll (ns.map PyData.int)) = 0
      rw [h3]
      rfl
    · show 1921 + 2 + massAll (ns.map PyData.int) ≤ 1930 * (ns.length + 1)
      omega
theorem show_ans {K : PySem.W.Frag} {H : Hp} {v : V} {ns : List Int} (h : AnsAt H v ns) : ShowV K H v := by
  obtain ⟨⟨i, rfl, rfl⟩ | ⟨a, rfl, ha, l1, l3⟩, ok⟩ := h
  · refine ⟨.int i, .int i, ok_log (ok i List.mem_cons_self), rfl, Nat.zero_le _, ?_⟩
    show 1921 ≤ 6000
    decide
  · obtain ⟨h1, h2, h3, h4⟩ := ints_show ok
    refine ⟨.tuple (ns.map PyData.int), .tup ha (rpAll_ints ns), h1, h2, ?_, ?_⟩
    · show PyData.depthAll (ns.map PyData.int) + 1 ≤ 1
      omega
    · show 4 + massAll (ns.map PyData.int) ≤ 6000
      omega
theorem show_kv {K : PySem.W.Frag} {H : Hp} : ∀ {kvs : List (Key × V)}, (∀ q ∈ kvs, ∃ z, q.1 = Sum.inr z ∧ NameZ z ∧ ShowV K H q.2) →
    ∃ ds : List (PyData × PyData), RpAll K H (kvs.map fun p => kV p.1) (ds.map (·.1)) ∧ RpAll K H (kvs.map (·.2)) (ds.map (·.2)) ∧ PyData.showableKv ds = true ∧ okSKv ds = true ∧ PyData.depthKv ds ≤ 1 ∧ massKv ds ≤ 6300 * kvs.length
  | [], _ => ⟨[], .nil, .nil, rfl, rfl, Nat.zero_le _, Nat.le_refl _⟩
  | q :: kvs, h => by
    obtain ⟨ds, r1, r2, r3, r4, r5, r6⟩ := show_kv (kvs := kvs) fun p hp => h p (List.mem_cons_of_mem _ hp)
    obtain ⟨z, ez, nz, D, d1, d2, d3, d4, d5⟩ := h q List.mem_cons_self
    have m := name_repr nz
    refine ⟨(.str z, D) :: ds, .cons ?_ r1, .cons d1 r2, ?_, ?_, ?_, ?_⟩
    · show Rp K H (kV q.1) (.str z)
      rw [ez]
      exact .str z
    · show (PyData.showable (.str z) && D.showable && PyData.showableKv ds) = true
      rw [d2, r3]
      rfl
    · show (okS (.str z) && okS D && okSKv ds) = true
      rw [d3, r4]
      rfl
    · show max (max 0 D.depth) (PyData.depthKv ds) ≤ 1
      omega
    · show (reprText z).length + mass D + 4 + massKv ds ≤ 6300 * (kvs.length + 1)
      omega
/-- a dict that repr may be asked of -/
structure ShowD (K : PySem.W.Frag) (H : Hp) (d : Addr) (D : PyData) : Prop where
  rp : Rp K H (.ref d) D
  sh : D.showable = true
  ok : okS D = true
  dp : D.depth ≤ 4
  ms : mass D ≤ 700000
theorem ShowD.same {K : PySem.W.Frag} {H H' : Hp} {d : Addr} {D : PyData} (h : ShowD K H d D) (s : Same H H') : ShowD K H' d D := ⟨rp_same s _ _ h.rp, h.sh, h.ok, h.dp, h.ms⟩
theorem show_dict {K : PySem.W.Frag} {H : Hp} {d : Addr} {kvs : List (Key × V)} (e : H d = some (.dK kvs)) (l : kvs.length ≤ 100) (h : ∀ q ∈ kvs, ∃ z, q.1 = Sum.inr z ∧ NameZ z ∧ ShowV K H q.2) : ∃ D, ShowD K H d D := by
  obtain ⟨ds, r1, r2, r3, r4, r5, r6⟩ := show_kv h
  refine ⟨.dict ds, .dic e r1 r2, r3, r4, ?_, ?_⟩
  · show PyData.depthKv ds + 1 ≤ 4
    omega
  · show 3 + massKv ds ≤ 700000
    omega
/-- rows that are handed, a list or a tuple -/
def HandAt (H : Hp) (l : Addr) (zs : List Str) : Prop := (H l = some (.lst (zs.map V.str)) ∧ l ≠ sysModules) ∨ H l = some (.tup (zs.map V.str))
def handD (H : Hp) (l : Addr) (zs : List Str) : PyData := match H l with
  | some (.tup _) => .tuple (zs.map PyData.str)
  | _ => .list (zs.map PyData.str)
theorem strs_show : ∀ {zs : List Str}, (∀ z ∈ zs, NameZ z) → PyData.showableAll (zs.map PyData.str) = true ∧ PyData.depthAll (zs.map PyData.str) = 0 ∧ massAll (zs.map PyData.str) ≤ 210 * zs.length ∧ PyData.hasDictAll (zs.map PyData.str) = false
  | [], _ => ⟨rfl, rfl, Nat.le_refl _, rfl⟩
  | z :: zs, h => by
    obtain ⟨h1, h2, h3, h4⟩ := strs_show (zs := zs) fun m hm => h m (List.mem_cons_of_mem _ hm)
    have m := name_repr (h z List.mem_cons_self)
    refine ⟨?_, ?_, ?_, ?_⟩
    · show (PyData.showable (.str z) && PyData.showableAll (zs.map PyData.str)) = true
      rw [h1]
      rfl
    · show max 0 (PyData.depthAll (zs.map PyData.str)) = 0
      rw [h2]
      rfl
    · show (reprText z).length + 2 + massAll (zs.map PyData.str) ≤ 210 * (zs.length + 1)
      omega
    · show (false || PyData.hasDictAll (zs.map PyData.str)) = false
      rw [h4]
      rfl
theorem strs_reads {h : Heap} : ∀ {zs : List Str} {us : List Value}, Vals (zs.map V.str) us → ReadsAll h us (zs.map PyData.str) []
  | [], _, .nil => .nil
  | z :: _, _, .cons r rr => by
    obtain ⟨t, rfl⟩ := r
    exact ReadsAll.cons (.str z t) (strs_reads rr)
def rRepr3 (K : PySem.W.Frag) : List V → Hp → VK → Prop := fun vs H Q => ∃ (a l b d : Addr) (zs : List Str) (D1 D2 : PyData), vs = [.ref a] ∧ H a = some (.lst [.ref l, .ref b, .ref d]) ∧ HandAt H l zs ∧ zs.length ≤ 40 ∧ (∀ z ∈ zs, NameZ z) ∧ ShowD K H b D1 ∧ ShowD K H d D2 ∧
  Q (.str (listText (PyData.shownAll [handD H l zs, D1, D2]))) H
section
variable {X : Cx}
theorem call_repr3 (hg : X.A.guards = some []) (hu : X.A.units + 64 < cLine) : CallR X (.builtin "repr") (rRepr3 X.K) := by
  intro pins s σ H xs us Q I r h
  obtain ⟨a, l, b, d, zs, D1, D2, rfl, ha, hl, l40, nm, s1, s2, go⟩ := h
  obtain rfl := Vals.ref1 r
  obtain ⟨its, rv, ⟨o, n, ho, hc, _, hdt⟩, _⟩ := I.list (.of ha)
  cases rv with
  | cons r1 rv =>
    cases rv with
    | cons r2 rv =>
      cases rv with
      | cons r3 rv =>
        cases rv
        cases r1
        cases r2
        cases r3
        obtain ⟨h1, h2, h3, h4⟩ := strs_show nm
        obtain ⟨as, q0, n0, hs0, hd0, hm0, hx0⟩ : ∃ as, Reads s.heap (.ref l) (handD H l zs) as ∧ sysModules ∉ as ∧ (handD H l zs).showable = true ∧ (handD H l zs).depth ≤ 1 ∧ mass (handD H l zs) ≤ 9000 ∧ (handD H l zs).hasDict = false := by
          rcases hl with ⟨hl, nl⟩ | hl
          · obtain ⟨its, rv, ⟨o, n, g1, g2, _, g3⟩, _⟩ := I.list (.of hl)
            have e : handD H l zs = .list (zs.map PyData.str) := by
              unfold handD
              rw [hl]
            rw [e]
            refine ⟨_, Reads.list g1 g2 g3 (strs_reads rv), ?_, h1, ?_, ?_, h4⟩
            · intro z
              exact nl (List.mem_singleton.mp z).symm
            · show PyData.depthAll (zs.map PyData.str) + 1 ≤ 1
              omega
            · show 3 + massAll (zs.map PyData.str) ≤ 9000
              omega
          · obtain ⟨its, rv, ⟨o, g1, g2, n, g3⟩, _⟩ := I.tuple (.of hl)
            have e : handD H l zs = .tuple (zs.map PyData.str) := by
              unfold handD
              rw [hl]
            rw [e]
            refine ⟨_, Reads.tuple g1 g2 g3 (strs_reads rv), (fun z => nomatch z), h1, ?_, ?_, h4⟩
            · show PyData.depthAll (zs.map PyData.str) + 1 ≤ 1
              omega
            · show 4 + massAll (zs.map PyData.str) ≤ 9000
              omega
        obtain ⟨bs, q1, z1⟩ := rp_reads I D1 _ _ s1.rp (show RelV (.ref b) (.ref b) from rfl)
        obtain ⟨cs, q2, z2⟩ := rp_reads I D2 _ _ s2.rp (show RelV (.ref d) (.ref d) from rfl)
        have hs : PyData.showableAll [handD H l zs, D1, D2] = true := by
          show ((handD H l zs).showable && (D1.showable && (D2.showable && true))) = true
          rw [hs0, s1.sh, s2.sh]
          rfl
        have hdp : (PyData.list [handD H l zs, D1, D2]).depth + 1 ≤ 20 := by
          have := s1.dp
          have := s2.dp
          simp only [PyData.depth, PyData.depthAll]
          omega
        have hms : massAll [handD H l zs, D1, D2] ≤ 1500000 := by
          have := s1.ms
          have := s2.ms
          simp only [massAll]
          omega
        have hz := Nat.le_trans (list_text_le (PyData.shownAll [handD H l zs, D1, D2])) (Nat.le_trans (Nat.add_le_add_left (shown_all_le _ hs) 3) (show 3 + massAll [handD H l zs, D1, D2] ≤ sizeLine by rw [sizeLine_eq]; omega))
        refine repr_top ho hc hdt (ReadsAll.cons q0 (ReadsAll.cons q1 (ReadsAll.cons q2 ReadsAll.nil))) hs (fun z hm => ?_) hg (by omega) hz fun h' u tk k => ⟨.str _, H, I.kept k, ⟨u, rfl⟩, go⟩
        have m1 := z1 s1.ok
        have m2 := z2 s2.ok
        simp at hm
        rcases hm with hm | hm | hm
        · exact n0 hm
        · exact m1 hm
        · exact m2 hm
/-- list(xs): its place isn't that of sys.modules -/
theorem call_listN : CallR X (.type "list") (fun xs H Q => ∃ p ys, xs = [.ref p] ∧ SqL X.K H p ys ∧ ∀ l, H l = none → l ≠ sysModules → Q (.ref l) (upd H l (.lst ys))) := by
  intro pins s σ H xs us Q I r h
  obtain ⟨p, ys, rfl, hq, q⟩ := h
  obtain rfl := Vals.ref1 r
  obtain ⟨its, r', pl, hz⟩ := I.list hq
  have hlen := r'.length
  obtain ⟨o, ho, hc, n, hd⟩ := pl.isList
  exact call_list_seq p (.inl rfl) ho hc hd (fun h' c' kp e => ⟨.ref s.heap.objs.size, _, I.laid (t' := s.toks) kp (Nat.le_refl _) (show ObjOk X.prog X.w _ h' _ (.lst ys) from ⟨hz, its, c', r', e⟩), rfl, q _ (I.hok.fresh (Nat.le_refl _)) (Nat.ne_of_gt I.big)⟩) (by simp only [List.size_toArray] <;> omega)
end
end G
set_option Elab.async false
set_option linter.all false
set_option maxRecDepth 100000
set_option maxHeartbeats 8000000
/-! LT: _law_right. -/
namespace G
open PySem PySem.Spec PyProof.Rows L2 NdefX LamX SkL
abbrev sRight : Stmt := topS 33
abbrev nRight : List Str := ["_law_rows", "_law_handed", "_law_bools", "_law_answers", "_law_stood", "_law_lap", "_law_some", "_law_line", "_law_row"]
theorem scRight : FnScope nRight ["_law_rows", "_law_handed", "_law_bools", "_law_answers"] (defScope sRight) := ⟨rfl, rfl, rfl, by decide +kernel, rfl, by decide +kernel, by decide +kernel⟩
theorem sameB_strs (zs : List Str) : ∀ v ∈ zs.map V.str, sameB v = true := fun v hv => by
  obtain ⟨z, _, rfl⟩ := List.mem_map.mp hv
  rfl
/-- == of two lists of the same things -/
def rEqS (K : PySem.W.Frag) : R2 := fun x y H Q => ∃ a b xs, x = .ref a ∧ y = .ref b ∧ SqL K H a xs ∧ SqL K H b xs ∧ (∀ v ∈ xs, sameB v = true) ∧ Q (.bl true) H
theorem op_eqS {X : Cx} (hu : X.A.units < cLine) : OpR X (compareOp .Eq) (rEqS X.K) := by
  intro pins s σ H x y v u Q I rx ry h
  obtain ⟨a, b, xs, rfl, rfl, ha, hb, hf, q⟩ := h
  cases (show v = Value.ref a from rx)
  cases (show u = Value.ref b from ry)
  obtain ⟨us, r1, p1, _⟩ := I.list ha
  obtain ⟨ws, r2, p2, _⟩ := I.list hb
  have hsz : us.toArray.size = ws.toArray.size := by rw [List.size_toArray, List.size_toArray, ← r1.length, ← r2.length]
  refine SeqAt.RcAt.lists (e := fun _ => true) p1.isList p2.isList hsz hu (fun j h1 h2 => ?_) X.prog X.w _ _ ?_
  · have k := items_same (A := X.A.in1) (s := s) hf r1 r2 j (by simpa using h1) (by simpa using h2)
    simpa using k
  · rw [show ((List.range us.toArray.size).all fun _ => true) = true from List.all_eq_true.mpr fun _ _ => rfl]
    exact ⟨.bl true, H, I, rfl, q⟩
theorem cutV_init (xs : List V) (y : V) : cutV (xs ++ [y]) none (some (-1)) = xs := by
  have e : HT.sIx (xs ++ [y]).length (xs ++ [y]).length (some (-1)) = xs.length := by
    show (if (-1 : Int) < 0 then ((-1 : Int) + ((xs ++ [y]).length : Int)).toNat else min (-1 : Int).toNat (xs ++ [y]).length) = _
    rw [if_pos (by decide), List.length_append, List.length_singleton]
    omega
  unfold cutV
  rw [HT.sIx_none, e, List.drop_zero, Nat.sub_zero, List.take_left' rfl]
/-! ### what stays while tables grow -/
theorem Tabs.upd_lst {T : List (Addr × Str)} {H : Hp} {m : Addr} {xs ys : List V} (t : Tabs T H) (e : H m = some (.lst xs)) : Tabs T (upd H m (.lst ys)) := fun p hp => by
  obtain ⟨ps, h1, h2, h3⟩ := t p hp
  refine ⟨ps, (upd_ne fun z => ?_).trans h1, h2, fun pos cv hc => ?_⟩
  · rw [z, e] at h1
    cases h1
  · obtain ⟨c, e1, e2⟩ := h3 pos cv hc
    refine ⟨c, e1, (upd_ne fun z => ?_).trans e2⟩
    rw [z, e] at e2
    unfold CodeO at e2
    cases e2
theorem extN_upd {H H1 : Hp} {m : Addr} {o : HO} (x : ExtN H H1) (n : ∀ u, H m = some u → ∃ ps, u = .tbl ps) : ExtN H (upd H1 m o) := fun b u e k => by
  refine (upd_ne fun z => ?_).trans (x b u e k)
  rw [z] at e
  obtain ⟨ps, e2⟩ := n u e
  exact k ps e2
/-- free, but for tables -/
theorem extN_free {H H1 : Hp} {m : Addr} (x : ExtN H H1) (n : H1 m = none) : ∀ u, H m = some u → ∃ ps, u = .tbl ps := fun u e => by
  by_cases h : ∃ ps, u = HO.tbl ps
  · exact h
  · have := x m u e fun ps z => h ⟨ps, z⟩
    rw [n] at this
    cases this
/-- what _law_right is handed -/
structure RightAt (K : PySem.W.Frag) (H : Hp) (rl l bd ad : Addr) (zs : List Str) (kb ka : List (Key × V)) (bo : Str → Bool) (an : Str → List Int) (D1 D2 : PyData) : Prop where
  rl : H rl = some (.lst (zs.map V.str))
  ro : RowsOk zs
  hand : HandAt H l zs
  bs : BoolOf H bd kb zs bo
  ans : AnsOf H ad ka zs an
  s1 : ShowD K H bd D1
  s2 : ShowD K H ad D2
def spRight (K : PySem.W.Frag) (T : List (Addr × Str)) : Sp := fun vs H Q _ => ∃ (rl l bd ad : Addr) (zs : List Str) (kb ka : List (Key × V)) (bo : Str → Bool) (an : Str → List Int) (D1 D2 : PyData), vs = [.ref rl, .ref l, .ref bd, .ref ad] ∧ RightAt K H rl l bd ad zs kb ka bo an D1 D2 ∧ Tabs T H ∧
  ∀ H', ExtN H H' → Tabs T H' → Q (.bl true) H'
section
variable {K : PySem.W.Frag} {H H' : Hp}
mutual
theorem rp_ext (s : ExtN H H') : ∀ (d : PyData) (v : V), Rp K H v d → Rp K H' v d
  | .none, _, h => by
    cases h
    exact .non
  | .bool b, _, h => by
    cases h
    exact .bl b
  | .int i, _, h => by
    cases h
    exact .int i
  | .str x, _, h => by
    cases h
    exact .str x
  | .list ds, _, h => by
    cases h with
    | lst e r => exact .lst (s _ _ e fun _ z => nomatch z) (rp_extAll s ds _ r)
  | .tuple ds, _, h => by
    cases h with
    | tup e r => exact .tup (s _ _ e fun _ z => nomatch z) (rp_extAll s ds _ r)
  | .dict ds, _, h => by
    cases h with
    | dic e r q => exact .dic (s _ _ e fun _ z => nomatch z) (rp_extK s ds _ r) (rp_extV s ds _ q)
theorem rp_extAll (s : ExtN H H') : ∀ (ds : List PyData) (vs : List V), RpAll K H vs ds → RpAll K H' vs ds
  | [], _, h => by
    cases h
    exact .nil
  | d :: ds, _, h => by
    cases h with
    | cons a b => exact .cons (rp_ext s d _ a) (rp_extAll s ds _ b)
theorem rp_extK (s : ExtN H H') : ∀ (ds : List (PyData × PyData)) (vs : List V), RpAll K H vs (ds.map (·.1)) → RpAll K H' vs (ds.map (·.1))
  | [], _, h => by
    cases h
    exact .nil
  | (d, _) :: ds, _, h => by
    cases h with
    | cons a b => exact .cons (rp_ext s d _ a) (rp_extK s ds _ b)
theorem rp_extV (s : ExtN H H') : ∀ (ds : List (PyData × PyData)) (vs : List V), RpAll K H vs (ds.map (·.2)) → RpAll K H' vs (ds.map (·.2))
  | [], _, h => by
    cases h
    exact .nil
  | (_, d) :: ds, _, h => by
    cases h with
    | cons a b => exact .cons (rp_ext s d _ a) (rp_extV s ds _ b)
end
end
theorem RightAt.ext {K : PySem.W.Frag} {H H' : Hp} {rl l bd ad : Addr} {zs : List Str} {kb ka : List (Key × V)} {bo : Str → Bool} {an : Str → List Int} {D1 D2 : PyData} (h : RightAt K H rl l bd ad zs kb ka bo an D1 D2) (x : ExtN H H') : RightAt K H' rl l bd ad zs kb ka bo an D1 D2 := by
  have k : ∀ {c : Addr} {o : HO}, H c = some o → (∀ ps, o ≠ .tbl ps) → H' c = some o := fun e n => x _ _ e n
  refine ⟨k h.rl (fun _ z => nomatch z), h.ro, ?_, ⟨k h.bs.d (fun _ z => nomatch z), h.bs.is⟩, ⟨k h.ans.d (fun _ z => nomatch z), fun z hz => ?_⟩, ⟨rp_ext x _ _ h.s1.rp, h.s1.sh, h.s1.ok, h.s1.dp, h.s1.ms⟩, ⟨rp_ext x _ _ h.s2.rp, h.s2.sh, h.s2.ok, h.s2.dp, h.s2.ms⟩⟩
  · rcases h.hand with ⟨e, n⟩ | e
    · exact .inl ⟨k e (fun _ z => nomatch z), n⟩
    · exact .inr (x _ _ e fun _ z => nomatch z)
  · obtain ⟨v, e, a⟩ := h.ans.is z hz
    exact ⟨v, e, a.at fun a xs e => x _ _ e fun _ z => nomatch z⟩
theorem handD_ext {H H' : Hp} {l : Addr} {zs : List Str} (h : HandAt H l zs) (x : ExtN H H') : handD H' l zs = handD H l zs := by
  unfold handD
  rcases h with ⟨e, _⟩ | e <;> rw [e, x _ _ e fun _ z => nomatch z]
theorem HandAt.seq {K : PySem.W.Frag} {H : Hp} {l : Addr} {zs : List Str} (h : HandAt H l zs) : SqLT K H l (zs.map V.str) := by
  rcases h with ⟨e, _⟩ | e
  · exact .inl (.of e)
  · exact .inr (.of e)
section
variable {P : Program} {w : World} {K : PySem.W.Frag} {mg : Str → Option Value} {base : Heap}
theorem ok_right {f fF fO fS : Addr} {fd fdF fdO fdS : FuncData} {T : List (Addr × Str)} (F : Fun K "_law_right" "_law_right" sRight f fd)
    (GF : FnOk P w K mg base CX0 3 fF fdF ["rows", "answers"] (spFil K)) (gF : mg "filtered" = some (.ref fF)) (kF : PySem.W.keepIn K (.ref fF) = true) (bF : Binds K fdF ["rows", "answers"] [])
    (GO : FnOk P w K mg base CX0 6 fO fdO ["rows", "answers"] (spOrd K T)) (gO : mg "ordered" = some (.ref fO)) (kO : PySem.W.keepIn K (.ref fO) = true) (bO : Binds K fdO ["rows", "answers"] [])
    (GS : FnOk P w K mg base CX0 2 fS fdS ["_law_rows", "_law_answers"] (spSort K)) (gS : mg "_law_sorted" = some (.ref fS)) (kS : PySem.W.keepIn K (.ref fS) = true) (bS : Binds K fdS ["_law_rows", "_law_answers"] [])
    (mr : mg "range" = none) (mp : mg "repr" = none) : FnG P w K mg base CX0 7 f fd ["_law_rows", "_law_handed", "_law_bools", "_law_answers"] (spRight K T) := by
  refine FnG.of_body F scRight (fun vs H Q E h => ?_) (fun cdv A outer s H vs Q E hg hr h => ?_)
  · obtain ⟨rl, l, bd, ad, zs, kb, ka, bo, an, D1, D2, rfl, _⟩ := h
    rfl
  · obtain ⟨rl, l, bd, ad, zs, kb, ka, bo, an, D1, D2, rfl, hR, hT, q⟩ := h
    have hr2 := hr.mono (show 2 ≤ 6 by decide)
    have hr3 := hr.mono (show 3 ≤ 6 by decide)
    have hu : (A.deeper (envOfC "_law_right" (defScope sRight) s.heap.objs.size f cdv)).units < cLine := hr.units0
    have hu1 : (A.deeper (envOfC "_law_right" (defScope sRight) s.heap.objs.size f cdv)).units + 1 < cLine := by have := hr.units; omega
    have hu64 : (A.deeper (envOfC "_law_right" (defScope sRight) s.heap.objs.size f cdv)).units + 64 < cLine := hr.units
    refine ⟨_, pss_cons (ps_set (i := 4) scRight.nd rfl (.inl rfl) (pe_callB (call_repr3 hg hu64) (by rfl) mp (by decide +kernel) (pa_cons (pe_lst (pa_cons (pv 1) (pa_cons (pv 2) (pa_cons (pv 3) pa_nil)))) pa_nil)))
      (pss_cons (ps_for PassesOwn.never rfl (pi_range1 rfl mr (pa_cons pe_int pa_nil)) (pg_name (i := 5) scRight.nd rfl (.inl rfl))
        (pss_cons (ps_par (i := 6) (j := 7) (by rfl) scRight.nd rfl rfl (by decide) rfl rfl (pa_cons (pe_call GF hr3 rfl gF kF bF .nil pass0 (pa_cons (pv 1) (pa_cons (pv 2) pa_nil))) (pa_cons (pe_call GO hr rfl gO kO bO .nil pass0 (pa_cons (pv 1) (pa_cons (pv 3) pa_nil))) pa_nil)) (by rfl))
        (pss_cons (ps_if (PW.pt (pw_or (pt_cmpR (op_neS hu) (pv 6) (pe_lc (own := [("_law_row", 8)]) (g := gName 8) (by rfl) scRight.nd (pi_list (pv 0))
              (blkOk_by (own := [("_law_row", 8)]) (N := nRight) (sc := defScope sRight) (by decide +kernel)) (fun _ _ _ _ _ => pg_name (i := 8) scRight.nd rfl (.inl rfl))
              (fun _ _ _ _ _ => pts_one (pt_val (pe_dget hu1 (pv 2) (pv 8) (fun _ _ => rfl)))) (fun _ _ _ _ _ => pv 8)) (nomark _))
            (pw_or1 (pt_cmpR (op_neS hu) (pv 7) (pe_call GS hr2 rfl gS kS bS .nil pass0 (pa_cons (pv 0) (pa_cons (pv 3) pa_nil))) (nomark _))))) (pss_one ps_never) pss_nil)
        (pss_cons (ps_expr (pe_bm PySem.F.plainAttrs_list PySem.F.slot_list_append PySem.F.type_list_append mt_append (pv 6) (pa_cons pe_str pa_nil)))
        (pss_one (ps_expr (pe_bm0 PySem.F.plainAttrs_list PySem.F.slot_list_reverse PySem.F.type_list_reverse mt_reverse (pv 7)))))))
      )
      (pss_one (ps_ret (pe_and (pe_cmpR op_eq (pe_callB (call_repr3 hg hu64) (by rfl) mp (by decide +kernel) (pa_cons (pe_lst (pa_cons (pv 1) (pa_cons (pv 2) (pa_cons (pv 3) pa_nil)))) pa_nil)) (pv 4) (nomark _))
        (pe_one (pe_cmpR (op_eqS hu) (pe_call GF hr3 rfl gF kF bF .nil pass0 (pa_cons (pv 1) (pa_cons (pv 2) pa_nil))) (pe_slice (r := rSlL K) sl_list (pv 6) po_none (po_some (pe_un un_neg pe_int))) (nomark _))))))), ?_⟩
    have few := hR.ro.few
    refine ⟨_, rfl, _, rfl, _, rfl, (by show 3 ≤ sizeLine; decide), fun m hm => ?_⟩
    have t1 := Same.new (o := .lst [.ref l, .ref bd, .ref ad]) hm
    have em : (upd H m (.lst [.ref l, .ref bd, .ref ad])) m = some (.lst [.ref l, .ref bd, .ref ad]) := upd_same
    generalize upd H m (.lst [.ref l, .ref bd, .ref ad]) = H1 at t1 em ⊢
    have x1 := ExtN.of t1
    have R1 := hR.ext x1
    refine ⟨m, l, bd, ad, zs, D1, D2, rfl, em, R1.hand, few, hR.ro.nm, R1.s1, R1.s2, ?_⟩
    rw [handD_ext hR.hand x1]
    refine ⟨2, rfl, by decide, by decide, ?_⟩
    refine for_range (lo := 0) (n := 2) (fun i σ H3 => ExtN H H3 ∧ Tabs T H3 ∧ ∃ x5 x6 x7 x8 : Option V, σ = [some (.ref rl), some (.ref l), some (.ref bd), some (.ref ad), some (.str (listText (PyData.shownAll [handD H l zs, D1, D2]))), x5, x6, x7, x8] ∧
      (1 ≤ i → ∃ sm, x6 = some (.ref sm) ∧ H3 sm = some (.lst ((zs.filter bo).map V.str ++ [.str "late"])))) ?_ ?_ ?_
    · exact ⟨x1, hT.ext t1, none, none, none, none, rfl, fun h => absurd h (by decide)⟩
    · rintro i σ H3 hi ⟨x3, T3, x5, x6, x7, x8, rfl, _⟩
      have R3 := hR.ext x3
      refine ⟨_, rfl, _, rfl, l, bd, zs, kb, bo, rfl, R3.hand.seq, R3.ro, R3.bs, fun sm H4 s4 fsm esm => ?_⟩
      have x4 := x3.trans (ExtN.of s4)
      have R4 := hR.ext x4
      refine ⟨_, rfl, _, rfl, l, ad, zs, ka, an, rfl, R4.hand.seq, R4.ro, R4.ans, T3.ext s4, fun ln H5 y5 T5 fln => ⟨_, _, rfl, ?_⟩⟩
      have x5 := x4.trans y5
      have nsm := extN_free x3 fsm
      have nln := extN_free x5 fln
      have esm5 := y5 _ _ esm fun _ z => nomatch z
      have nsl : sm ≠ ln := fun z => by
        rw [z, fln] at esm5
        cases esm5
      have t6 := Same.new (o := .lst ((sortedBy an zs).map V.str)) fln
      have eln : (upd H5 ln (.lst ((sortedBy an zs).map V.str))) ln = some (.lst ((sortedBy an zs).map V.str)) := upd_same
      have esm6 := t6 _ _ esm5
      have T6 := T5.ext t6
      have x6 := x5.trans (ExtN.of t6)
      generalize upd H5 ln (.lst ((sortedBy an zs).map V.str)) = H6 at eln esm6 T6 x6 ⊢
      have R6 := hR.ext x6
      refine ⟨_, rfl, _, rfl, rl, rfl, ⟨_, .of R6.rl⟩, fun D hD => ?_⟩
      refine lc_list (xs := zs.map V.str) (fun i H7 => Same H6 H7 ∧ H7 D = some (.lst (((zs.take i).filter bo).map V.str))) ?_ ?_ ?_ ?_
      · exact ⟨Same.new hD, upd_same⟩
      · exact fun _ _ _ h => .of (h.1 _ _ R6.rl)
      · rintro i x H7 hx ⟨s7, e7⟩
        rw [List.getElem?_map] at hx
        obtain ⟨z, hz, rfl⟩ := Option.map_eq_some_iff.mp hx
        have hb7 := R6.bs.same s7
        have g := DGet.k (k := Sum.inr z) hb7.d
        rw [hb7.is z (List.mem_of_getElem? hz)] at g
        have e9 : (zs.take (i + 1)).filter bo = if bo z = true then (zs.take i).filter bo ++ [z] else (zs.take i).filter bo := by
          rw [take_snoc hz, List.filter_append, List.filter_cons, List.filter_nil]
          split
          · rfl
          · rw [List.append_nil]
        refine ⟨rfl, ?_⟩
        refine ⟨_, rfl, _, rfl, bd, _, rfl, g, _, rfl, ?_⟩
        refine ite2 (fun c => ?_) (fun c => ?_)
        · rw [if_pos c] at e9
          refine ⟨_, rfl, _, e7, ?_, fun c o eo => (upd_ne (ne_of_none eo hD)).trans (s7 _ _ eo), ?_⟩
          · rw [List.length_map]
            have := List.length_filter_le bo (zs.take i)
            rw [List.length_take] at this
            exact small1000 (by omega)
          · rw [upd_same, e9, List.map_append]
            rfl
        · rw [if_neg c] at e9
          exact ⟨s7, by rw [e9]; exact e7⟩
      · rintro H7 ⟨s7, e7⟩
        rw [List.length_map, List.take_length] at e7
        have R7 := R6.ext (ExtN.of s7)
        refine ⟨sm, D, _, rfl, rfl, .of (s7 _ _ esm6), .of e7, sameB_strs _, _, rfl, iteF ?_⟩
        refine ⟨_, rfl, _, rfl, _, rfl, rl, ad, zs, ka, an, rfl, .of R7.rl, few, R7.ans, fun p H8 s8 fp ep => ?_⟩
        have s68 := s7.trans s8
        refine ⟨ln, p, _, rfl, rfl, .of (s68 _ _ eln), .of ep, sameB_strs _, _, rfl, iteF ?_⟩
        have esm8 := s68 _ _ esm6
        have eln8 := s68 _ _ eln
        have T8 := T6.ext s68
        have x8 := x6.trans (ExtN.of s68)
        refine ⟨_, rfl, .inl ⟨rfl, _, .of esm8⟩, sm, _, _, rfl, rfl, esm8, ?_, ?_⟩
        · rw [List.length_map]
          have := List.length_filter_le bo zs
          exact small1000 (by omega)
        have eln9 : (upd H8 sm (.lst ((zs.filter bo).map V.str ++ [.str "late"]))) ln = some (.lst ((sortedBy an zs).map V.str)) := (upd_ne nsl.symm).trans eln8
        refine ⟨_, rfl, .inl ⟨rfl, _, .of eln9⟩, ln, _, rfl, rfl, eln9, ?_⟩
        exact ⟨extN_upd (extN_upd x8 nsm) nln, Tabs.upd_lst (Tabs.upd_lst T8 esm8) eln9, _, _, _, _, rfl, fun _ => ⟨sm, rfl, (upd_ne nsl).trans upd_same⟩⟩
    · rintro σ H3 ⟨x3, T3, x5, x6, x7, x8, rfl, late⟩
      have R3 := hR.ext x3
      obtain ⟨sm, rfl, esm⟩ := late (by decide)
      refine ⟨_, rfl, _, rfl, _, rfl, (by show 3 ≤ sizeLine; decide), fun m2 hm2 => ?_⟩
      have t4 := Same.new (o := .lst [.ref l, .ref bd, .ref ad]) hm2
      have em2 : (upd H3 m2 (.lst [.ref l, .ref bd, .ref ad])) m2 = some (.lst [.ref l, .ref bd, .ref ad]) := upd_same
      generalize upd H3 m2 (.lst [.ref l, .ref bd, .ref ad]) = H4 at t4 em2 ⊢
      have x4 := x3.trans (ExtN.of t4)
      have R4 := hR.ext x4
      refine ⟨m2, l, bd, ad, zs, D1, D2, rfl, em2, R4.hand, few, hR.ro.nm, R4.s1, R4.s2, ?_⟩
      rw [handD_ext hR.hand x4]
      refine ⟨_, rfl, rfl, _, rfl, ?_⟩
      rw [if_pos (decide_eq_true rfl)]
      refine ⟨_, rfl, _, rfl, l, bd, zs, kb, bo, rfl, R4.hand.seq, R4.ro, R4.bs, fun p H5 s5 fp ep => ?_⟩
      have esm5 := s5 _ _ (t4 _ _ esm)
      refine ⟨_, rfl, 1, rfl, _, rfl, sm, _, rfl, .of esm5, fun p2 hp2 => ?_⟩
      rw [cutV_init]
      have t6 := Same.new (o := .lst ((zs.filter bo).map V.str)) hp2
      refine ⟨p, p2, _, rfl, rfl, .of (t6 _ _ ep), .of upd_same, sameB_strs _, ?_⟩
      exact q _ (x4.trans (ExtN.of (s5.trans t6))) (T3.ext (t4.trans (s5.trans t6)))
end
end G
set_option Elab.async false
set_option linter.all false
set_option maxRecDepth 100000
set_option maxHeartbeats 8000000
/-! LU1: dicts by rows, with entries of other rows. -/
namespace G
open PySem PySem.Spec PyProof.Rows L2 NdefX LamX SkL
abbrev sLaw : Stmt := topS 34
abbrev nLaw : List Str := ["_law_script", "_law_k", "_law_box_here", "_law_names_here", "_law_rows", "_law_handed", "_law_both", "_law_lap", "_law_bools", "_law_answers", "_law_fresh", "_law_row", "_law_name"]
theorem scLaw : FnScope nLaw ["_law_script"] (defScope sLaw) := ⟨rfl, rfl, rfl, by decide +kernel, rfl, by decide +kernel, by decide +kernel⟩
abbrev loopK : List Stmt := forBody ((defBody sLaw).getD 0 (.Pass ⟨0, 0, 0, 0⟩))
/-- a value that repr may be asked of -/
def SV (G : Hp) (v : V) : Prop := Small G v ∨ v = .non ∨ (∃ b, v = .bl b) ∨ v = .str "x"
theorem SV.at {G G' : Hp} {v : V} (h : SV G v) (k : ∀ a xs, G a = some (.tup xs) → G' a = some (.tup xs)) : SV G' v := by
  rcases h with h | h
  · exact .inl (h.at k)
  · exact .inr h
theorem SV.show {K : PySem.W.Frag} {G : Hp} {v : V} (h : SV G v) : ShowV K G v := by
  rcases h with ⟨ns, a⟩ | rfl | ⟨b, rfl⟩ | rfl
  · exact show_ans a
  · exact ⟨.none, .non, rfl, rfl, Nat.zero_le _, by show 4 ≤ 6000; decide⟩
  · exact ⟨.bool b, .bl b, rfl, rfl, Nat.zero_le _, by show 5 ≤ 6000; decide⟩
  · exact ⟨.str "x", .str _, rfl, rfl, Nat.zero_le _, by show (reprText "x").length ≤ 6000; decide +kernel⟩
/-- a dict by rows and other names -/
structure DOk (G : Hp) (d : Addr) (kvs : List (Key × V)) (m : Nat) : Prop where
  d : G d = some (.dK kvs)
  few : kvs.length ≤ m
  sh : ∀ q ∈ kvs, ∃ z, q.1 = Sum.inr z ∧ NameZ z ∧ SV G q.2
def BOk (rs : List Str) (G : Hp) (d : Addr) (m : Nat) : Prop := ∃ (kvs : List (Key × V)) (bo : Str → Bool), DOk G d kvs m ∧ ∀ z ∈ rs, valV kvs (Sum.inr z) = some (.bl (bo z))
def AOk (rs : List Str) (G : Hp) (d : Addr) (m : Nat) : Prop := ∃ (kvs : List (Key × V)) (an : Str → List Int), DOk G d kvs m ∧ ∀ z ∈ rs, ∃ v, valV kvs (Sum.inr z) = some v ∧ AnsAt G v (an z)
/-- two dicts, held -/
def PairOk (rs : List Str) (G : Hp) (t : Addr) (m : Nat) : Prop := ∃ bd ad, G t = some (.tup [.ref bd, .ref ad]) ∧ BOk rs G bd m ∧ AOk rs G ad m
section
variable {rs : List Str} {G G' : Hp} {d t : Addr} {m : Nat} {kvs : List (Key × V)}
theorem DOk.same (h : DOk G d kvs m) (s : Same G G') : DOk G' d kvs m := ⟨s _ _ h.d, h.few, fun q hq => let ⟨z, e, n, v⟩ := h.sh q hq; ⟨z, e, n, v.at fun a xs e => s a _ e⟩⟩
theorem BOk.same (h : BOk rs G d m) (s : Same G G') : BOk rs G' d m := let ⟨kvs, bo, a, b⟩ := h; ⟨kvs, bo, a.same s, b⟩
theorem AOk.same (h : AOk rs G d m) (s : Same G G') : AOk rs G' d m := let ⟨kvs, an, a, b⟩ := h; ⟨kvs, an, a.same s, fun z hz => let ⟨v, e, x⟩ := b z hz; ⟨v, e, x.same s⟩⟩
theorem PairOk.same (h : PairOk rs G t m) (s : Same G G') : PairOk rs G' t m := let ⟨bd, ad, e, a, b⟩ := h; ⟨bd, ad, s _ _ e, a.same s, b.same s⟩
theorem DOk.mono (h : DOk G d kvs m) {m' : Nat} (l : m ≤ m') : DOk G d kvs m' := ⟨h.d, Nat.le_trans h.few l, h.sh⟩
theorem BOk.mono (h : BOk rs G d m) {m' : Nat} (l : m ≤ m') : BOk rs G d m' := let ⟨kvs, bo, a, b⟩ := h; ⟨kvs, bo, a.mono l, b⟩
theorem AOk.mono (h : AOk rs G d m) {m' : Nat} (l : m ≤ m') : AOk rs G d m' := let ⟨kvs, an, a, b⟩ := h; ⟨kvs, an, a.mono l, b⟩
theorem PairOk.mono (h : PairOk rs G t m) {m' : Nat} (l : m ≤ m') : PairOk rs G t m' := let ⟨bd, ad, e, a, b⟩ := h; ⟨bd, ad, e, a.mono l, b.mono l⟩
theorem DOk.show {K : PySem.W.Frag} (h : DOk G d kvs m) (l : m ≤ 100) : ∃ D, ShowD K G d D := show_dict h.d (Nat.le_trans h.few l) fun q hq => let ⟨z, e, n, v⟩ := h.sh q hq; ⟨z, e, n, v.show⟩
theorem putK_memR {kvs : List (Key × V)} {k : Key} {v : V} {q : Key × V} (h : q ∈ putK kvs k v) : q ∈ kvs ∨ q = (k, v) := by
  unfold putK at h
  split at h
  · obtain ⟨p, hp, rfl⟩ := List.mem_map.mp h
    split
    · rename_i e
      exact .inr (by rw [e])
    · exact .inl hp
  · rcases List.mem_append.mp h with h | h
    · exact .inl h
    · exact .inr (List.mem_singleton.mp h)
theorem length_putR (kvs : List (Key × V)) (k : Key) (v : V) : (putK kvs k v).length ≤ kvs.length + 1 := by
  unfold putK
  split
  · rw [List.length_map]
    exact Nat.le_succ _
  · rw [List.length_append]
    exact Nat.le_refl _
/-- an entry of another row -/
theorem tup_upd {d0 : Addr} {k0 : List (Key × V)} {u : HO} (e0 : G d0 = some (.dK k0)) : ∀ a xs, G a = some (.tup xs) → upd G d0 u a = some (.tup xs) := fun a xs e => by
  rw [upd_ne (ne_of e e0 (fun z => nomatch z))]
  exact e
theorem DOk.put {d0 : Addr} {k0 : List (Key × V)} {y : Str} {v : V} (h : DOk G d kvs m) (h0 : DOk G d0 k0 m) (ny : NameZ y) (sv : SV G v) :
    ∃ kvs', DOk (upd G d0 (.dK (putK k0 (Sum.inr y) v))) d kvs' (m + 1) ∧ ∀ z, z ≠ y → valV kvs' (Sum.inr z) = valV kvs (Sum.inr z) := by
  have tp := tup_upd (u := .dK (putK k0 (Sum.inr y) v)) h0.d
  by_cases e : d = d0
  · subst e
    have ek : kvs = k0 := by
      have := h.d.symm.trans h0.d
      cases this
      rfl
    subst ek
    refine ⟨_, ⟨upd_same, Nat.le_trans (length_putR _ _ _) (Nat.succ_le_succ h.few), fun q hq => ?_⟩, fun z nz => ?_⟩
    · rcases putK_memR hq with hq | hq
      · obtain ⟨z, e, n, v⟩ := h.sh q hq
        exact ⟨z, e, n, v.at tp⟩
      · rw [hq]
        exact ⟨y, rfl, ny, sv.at tp⟩
    · rw [valV_put, if_neg fun e => nz (Sum.inr.inj e)]
  · exact ⟨kvs, ⟨(upd_ne e).trans h.d, Nat.le_succ_of_le h.few, fun q hq => let ⟨z, e, n, v⟩ := h.sh q hq; ⟨z, e, n, v.at tp⟩⟩, fun _ _ => rfl⟩
theorem PairOk.put {d0 : Addr} {k0 : List (Key × V)} {y : Str} {v : V} (h : PairOk rs G t m) (h0 : DOk G d0 k0 m) (ny : NameZ y) (hy : y ∉ rs) (sv : SV G v) : PairOk rs (upd G d0 (.dK (putK k0 (Sum.inr y) v))) t (m + 1) := by
  obtain ⟨bd, ad, e, ⟨kb, bo, b1, b2⟩, ⟨ka, an, a1, a2⟩⟩ := h
  have tp := tup_upd (u := .dK (putK k0 (Sum.inr y) v)) h0.d
  obtain ⟨kb', c1, c2⟩ := b1.put h0 ny sv
  obtain ⟨ka', c3, c4⟩ := a1.put h0 ny sv
  refine ⟨bd, ad, tp _ _ e, ⟨kb', bo, c1, fun z hz => ?_⟩, ⟨ka', an, c3, fun z hz => ?_⟩⟩
  · rw [c2 z fun q => hy (by rw [← q]; exact hz)]
    exact b2 z hz
  · obtain ⟨v', e', x⟩ := a2 z hz
    exact ⟨v', by rw [c4 z fun q => hy (by rw [← q]; exact hz)]; exact e', x.at tp⟩
end
end G
set_option Elab.async false
set_option linter.all false
set_option maxRecDepth 100000
set_option maxHeartbeats 8000000
/-! LU2: what was drawn is asked; other rows' entries. -/
namespace G
open PySem PySem.Spec PyProof.Rows L2 NdefX LamX SkL
theorem hide_upd2 {H : Hp} {b d : Addr} {u : HO} (n : d ≠ b) : hide b (upd H d u) = upd (hide b H) d u := by
  funext c
  by_cases h : c = b
  · subst h
    rw [upd_ne n.symm, hide_at, hide_at]
  · rw [hide_ne h]
    by_cases h2 : c = d
    · subst h2
      rw [upd_same, upd_same]
    · rw [upd_ne h2, upd_ne h2, hide_ne h]
theorem cutV_take (xs : List V) (k : Nat) : cutV xs none (some (k : Int)) = xs.take k := by
  unfold cutV
  rw [HT.sIx_none, HT.sIx_nat, List.drop_zero, Nat.sub_zero]
  by_cases h : k ≤ xs.length
  · rw [Nat.min_eq_left h]
  · rw [Nat.min_eq_right (by omega), List.take_length, List.take_of_length_le (by omega)]
theorem PairOk.ext {rs : List Str} {G G' : Hp} {t : Addr} {m : Nat} (h : PairOk rs G t m) (x : ExtN G G') : PairOk rs G' t m := by
  obtain ⟨bd, ad, e, ⟨kb, bo, ⟨b1, b2, b3⟩, b4⟩, ⟨ka, an, ⟨a1, a2, a3⟩, a4⟩⟩ := h
  have tp : ∀ a xs, G a = some (.tup xs) → G' a = some (.tup xs) := fun a xs e => x _ _ e fun _ z => nomatch z
  refine ⟨bd, ad, tp _ _ e, ⟨kb, bo, ⟨x _ _ b1 (fun _ z => nomatch z), b2, fun q hq => ?_⟩, b4⟩, ⟨ka, an, ⟨x _ _ a1 (fun _ z => nomatch z), a2, fun q hq => ?_⟩, fun z hz => ?_⟩⟩
  · obtain ⟨z, e, n, v⟩ := b3 q hq
    exact ⟨z, e, n, v.at tp⟩
  · obtain ⟨z, e, n, v⟩ := a3 q hq
    exact ⟨z, e, n, v.at tp⟩
  · obtain ⟨v, e, a⟩ := a4 z hz
    exact ⟨v, e, a.at tp⟩
section
variable {P : Program} {w : World} {K : PySem.W.Frag} {mg : Str → Option Value} {base : Heap}
theorem tail7 {fR : Addr} {fdR : FuncData} {T : List (Addr × Str)} {cdv : Value} {A : Around} {outer : List Env} {s : Shared} {H : Hp} {E : XK} {f : Addr}
    (GR : FnG P w K mg base CX0 7 fR fdR ["_law_rows", "_law_handed", "_law_bools", "_law_answers"] (spRight K T)) (gR : mg "_law_right" = some (.ref fR)) (kR : PySem.W.keepIn K (.ref fR) = true) (bR : Binds K fdR ["_law_rows", "_law_handed", "_law_bools", "_law_answers"] [])
    (hg : (A.deeper (envOfC "law" (defScope sLaw) s.heap.objs.size f cdv)).guards = some []) (hr : Room 7 (A.deeper (envOfC "law" (defScope sLaw) s.heap.objs.size f cdv))) :
    ∃ t, PSs (cxOf CX0 P w K mg base nLaw "law" (defScope sLaw) f cdv A outer s H E).nox (loopK.drop 7) t ∧
      ∀ (De : Ends) (x0 x1 x2 x3 x7 x8 x9 x10 x11 x12 : Option V) (rl hl me : Addr) (rs : List Str) (ts : List Addr) (H0 : Hp), H0 rl = some (.lst (rs.map V.str)) → RowsOk rs → HandAt H0 hl rs → H0 me = some (.lst (ts.map V.ref)) → ts.length ≤ 40 → (∀ t ∈ ts, PairOk rs H0 t 100) → Tabs T H0 →
        (∀ (y8 y9 : Option V) (H' : Hp), ExtN H0 H' → Tabs T H' → De.nx [x0, x1, x2, x3, some (.ref rl), some (.ref hl), some (.ref me), x7, y8, y9, x10, x11, x12] H') →
        t De [x0, x1, x2, x3, some (.ref rl), some (.ref hl), some (.ref me), x7, x8, x9, x10, x11, x12] H0 := by
  refine ⟨_, pss_one (ps_for PassesOwn.never rfl (pi_list (pe_op op_cat (pv 6) (pe_slice (r := rSlL K) sl_list (pv 6) po_none (po_some pe_int)))) (pg_tup rfl (pgs_cons (pg_name (i := 8) scLaw.nd rfl (.inl rfl)) (pgs_cons (pg_name (i := 9) scLaw.nd rfl (.inl rfl)) pgs_nil)))
      (pss_one (ps_if (pt_not (pt_val (pe_callG GR hg hr rfl gR kR bR .nil pass0 (pa_cons (pv 4) (pa_cons (pv 5) (pa_cons (pv 8) (pa_cons (pv 9) pa_nil))))))) (pss_one ps_never) pss_nil))), ?_⟩
  intro De x0 x1 x2 x3 x7 x8 x9 x10 x11 x12 rl hl me rs ts H0 erl ro hh eme lts hp hT q
  refine ⟨_, rfl, _, rfl, _, rfl, me, _, rfl, .of eme, fun m1 hm1 => ?_⟩
  rw [show ((1 : Int)) = ((1 : Nat) : Int) from rfl, cutV_take, ← List.map_take]
  have t1 := Same.new (o := .lst ((ts.take 1).map V.ref)) hm1
  have em1 : (upd H0 m1 (.lst ((ts.take 1).map V.ref))) m1 = some (.lst ((ts.take 1).map V.ref)) := upd_same
  generalize upd H0 m1 (.lst ((ts.take 1).map V.ref)) = H1 at t1 em1 ⊢
  refine ⟨me, m1, _, _, rfl, rfl, t1 _ _ eme, em1, ?_, fun c hc => ?_⟩
  · rw [List.length_map, List.length_map, List.length_take]
    exact Nat.le_of_lt (small1000 (by omega))
  have t2 := Same.new (o := .lst (ts.map V.ref ++ (ts.take 1).map V.ref)) hc
  have ec : (upd H1 c (.lst (ts.map V.ref ++ (ts.take 1).map V.ref))) c = some (.lst (ts.map V.ref ++ (ts.take 1).map V.ref)) := upd_same
  generalize upd H1 c (.lst (ts.map V.ref ++ (ts.take 1).map V.ref)) = H2 at t2 ec ⊢
  have s02 := t1.trans t2
  refine ⟨c, rfl, ⟨_, .of ec⟩, ?_⟩
  refine for_list (xs := ts.map V.ref ++ (ts.take 1).map V.ref) (fun _ σ H3 => ExtN H2 H3 ∧ Tabs T H3 ∧ ∃ y8 y9 : Option V, σ = [x0, x1, x2, x3, some (.ref rl), some (.ref hl), some (.ref me), x7, y8, y9, x10, x11, x12]) ?_ ?_ ?_ ?_
  · exact ⟨ExtN.refl _, hT.ext s02, _, _, rfl⟩
  · rintro i σ H3 _ ⟨x3, _⟩
    exact .of (x3 _ _ ec fun _ z => nomatch z)
  · rintro i x σ H3 hx ⟨y3, T3, y8, y9, rfl⟩
    have x03 := (ExtN.of s02).trans y3
    have k : ∀ {c : Addr} {o : HO}, H0 c = some o → (∀ ps, o ≠ .tbl ps) → H3 c = some o := fun e n => x03 _ _ e n
    obtain ⟨t, mt, rfl⟩ : ∃ t, t ∈ ts ∧ x = .ref t := by
      rcases List.mem_append.mp (List.mem_of_getElem? hx) with h | h
      · obtain ⟨t, ht, e⟩ := List.mem_map.mp h
        exact ⟨t, ht, e.symm⟩
      · obtain ⟨t, ht, e⟩ := List.mem_map.mp h
        exact ⟨t, List.mem_of_mem_take ht, e.symm⟩
    obtain ⟨bd, ad, et, ⟨kb, bo, b1, b2⟩, ⟨ka, an, a1, a2⟩⟩ := (hp t mt).ext x03
    obtain ⟨D1, s1⟩ := b1.show (K := K) (Nat.le_refl _)
    obtain ⟨D2, s2⟩ := a1.show (K := K) (Nat.le_refl _)
    refine ⟨t, _, rfl, .of et, rfl, _, _, rfl, _, _, rfl, rfl, ?_⟩
    refine ⟨_, rfl, _, rfl, _, rfl, _, rfl, rl, hl, bd, ad, rs, kb, ka, bo, an, D1, D2, rfl, ⟨k erl (fun _ z => nomatch z), ro, ?_, ⟨b1.d, b2⟩, ⟨a1.d, a2⟩, s1, s2⟩, T3, fun H4 x4 T4 => ⟨_, rfl, iteF ?_⟩⟩
    · rcases hh with ⟨e, n⟩ | e
      · exact .inl ⟨k e (fun _ z => nomatch z), n⟩
      · exact .inr (k e (fun _ z => nomatch z))
    · exact ⟨y3.trans x4, T4, _, _, rfl⟩
  · rintro σ H3 ⟨y3, T3, y8, y9, rfl⟩
    exact q _ _ H3 ((ExtN.of s02).trans y3) T3
end
end G
set_option Elab.async false
set_option linter.all false
set_option maxRecDepth 100000
set_option maxHeartbeats 8000000
/-! LU3: entries of other rows. -/
namespace G
open PySem PySem.Spec PyProof.Rows L2 NdefX LamX SkL
theorem nd_len {α : Type} [DecidableEq α] : ∀ {l m : List α}, l.Nodup → (∀ x ∈ l, x ∈ m) → l.length ≤ m.length
  | [], _, _, _ => Nat.zero_le _
  | x :: l, m, nd, h => by
    obtain ⟨n1, n2⟩ := List.nodup_cons.mp nd
    have := nd_len (l := l) (m := m.erase x) n2 fun y hy => (List.mem_erase_of_ne fun e => n1 (by rw [← e]; exact hy)).mpr (h y (List.mem_cons_of_mem _ hy))
    have m1 := h x List.mem_cons_self
    rw [List.length_erase_of_mem m1] at this
    have := List.length_pos_of_mem m1
    rw [List.length_cons]
    omega
/-- all but the box and dicts stays -/
def KD (b : Addr) (H H' : Hp) : Prop := ∀ c o, c ≠ b → (∀ ks, o ≠ .dK ks) → H c = some o → H' c = some o
theorem KD.refl (b : Addr) (H : Hp) : KD b H H := fun _ _ _ _ e => e
theorem KD.trans {b : Addr} {H H1 H2 : Hp} (x : KD b H H1) (y : KD b H1 H2) : KD b H H2 := fun c o n k e => y c o n k (x c o n k e)
theorem KD.but {b : Addr} {H H' : Hp} (k : But b H H') : KD b H H' := fun c o n _ e => k c o n e
theorem KD.put {b d : Addr} {H : Hp} {ks : List (Key × V)} {u : HO} (e : H d = some (.dK ks)) : KD b H (upd H d u) := fun c o _ k ec => (upd_ne fun z => by
  rw [z, e] at ec
  exact k _ (Option.some.inj ec).symm).trans ec
theorem Tabs.kd {T : List (Addr × Str)} {b : Addr} {n : Nat} {H H' : Hp} (t : Tabs T H) (B : BoxAt H b n) (k : KD b H H') : Tabs T H' := fun p hp => by
  obtain ⟨x, y, z, eb, _⟩ := B
  obtain ⟨ps, h1, h2, h3⟩ := t p hp
  refine ⟨ps, k _ _ (fun q => by rw [q, eb] at h1; cases h1) (fun _ q => nomatch q) h1, h2, fun pos cv hc => ?_⟩
  obtain ⟨c, e1, e2⟩ := h3 pos cv hc
  refine ⟨c, e1, k _ _ (fun q => ?_) (fun _ q => ?_) e2⟩
  · rw [q, eb] at e2
    unfold CodeO at e2
    cases e2
  · unfold CodeO at q
    cases q
def freshF (rs ys : List Str) : List Str := ys.filter fun y => !decide (y ∈ rs)
theorem fresh_last {rs ys : List Str} (nd : ys.Nodup) (l : rs.length < ys.length) : ∃ fs y, freshF rs ys = fs ++ [y] ∧ y ∈ ys ∧ y ∉ rs := by
  cases h : (freshF rs ys).reverse with
  | nil =>
    exfalso
    have e : freshF rs ys = [] := List.reverse_eq_nil_iff.mp h
    have := nd_len (l := ys) (m := rs) nd fun x hx => by
      by_cases z : x ∈ rs
      · exact z
      · have m1 : x ∈ freshF rs ys := List.mem_filter.mpr ⟨hx, by rw [decide_eq_false z]; rfl⟩
        rw [e] at m1
        cases m1
    omega
  | cons y r =>
    have e : freshF rs ys = r.reverse ++ [y] := by
      have := congrArg List.reverse h
      rw [List.reverse_reverse, List.reverse_cons] at this
      exact this
    have m1 : y ∈ freshF rs ys := by
      rw [e]
      exact List.mem_append_right _ List.mem_cons_self
    obtain ⟨m2, m3⟩ := List.mem_filter.mp m1
    refine ⟨_, _, e, m2, fun z => ?_⟩
    rw [decide_eq_true z] at m3
    cases m3
theorem freshF_snoc (rs zs : List Str) (y : Str) : freshF rs (zs ++ [y]) = if (!decide (y ∈ rs)) = true then freshF rs zs ++ [y] else freshF rs zs := by
  unfold freshF
  rw [List.filter_append, List.filter_cons, List.filter_nil]
  split
  · rfl
  · rw [List.append_nil]
theorem str_beqR (a b : Str) : (a == b) = decide (a = b) := by
  by_cases h : a = b
  · subst h
    rw [decide_eq_true rfl]
    exact beq_self_eq_true _
  · rw [decide_eq_false h]
    exact Bool.eq_false_iff.mpr fun e => h (beq_iff_eq.mp e)
theorem inV_strR (y : Str) : ∀ zs : List Str, inV (.str y) (zs.map V.str) = decide (y ∈ zs)
  | [] => rfl
  | z :: zs => by
    show ((z == y) || inV (.str y) (zs.map V.str)) = decide (y ∈ z :: zs)
    rw [inV_strR y zs, str_beqR]
    by_cases h : z = y
    · subst h
      rw [decide_eq_true rfl, decide_eq_true List.mem_cons_self]
      rfl
    · rw [decide_eq_false h, Bool.false_or]
      by_cases h2 : y ∈ zs
      · rw [decide_eq_true h2, decide_eq_true (List.mem_cons_of_mem _ h2)]
      · rw [decide_eq_false h2, decide_eq_false fun e => (List.mem_cons.mp e).elim (fun e => h e.symm) h2]
theorem sv_three {xs : List V} {j : Nat} (hx : ∀ v ∈ xs, ∀ G, SV G v) (h : j < xs.length) : ∃ v, xs[j]? = some v ∧ ∀ G, SV G v := ⟨_, List.getElem?_eq_getElem h, hx _ (List.getElem_mem h)⟩
theorem dic_ne {H : Hp} {b d : Addr} {n : Nat} {ks : List (Key × V)} (B : BoxAt H b n) (e : H d = some (.dK ks)) : d ≠ b := fun z => by
  obtain ⟨_, _, _, eb, _⟩ := B
  rw [z, eb] at e
  cases e
theorem flat_strsR (zs : List Str) : (zs.map V.str).all flatV = true := List.all_eq_true.mpr fun x hx => by
  obtain ⟨z, _, rfl⟩ := List.mem_map.mp hx
  rfl
section
variable {P : Program} {w : World} {K : PySem.W.Frag} {mg : Str → Option Value} {base : Heap}
theorem tail6 {fR fT : Addr} {fdR fdT : FuncData} {T : List (Addr × Str)} {cdv : Value} {A : Around} {outer : List Env} {s : Shared} {H : Hp} {E : XK} {f : Addr}
    (GR : FnG P w K mg base CX0 7 fR fdR ["_law_rows", "_law_handed", "_law_bools", "_law_answers"] (spRight K T)) (gR : mg "_law_right" = some (.ref fR)) (kR : PySem.W.keepIn K (.ref fR) = true) (bR : Binds K fdR ["_law_rows", "_law_handed", "_law_bools", "_law_answers"] [])
    (FT : Fun K "_law_take" "_law_take" sTake fT fdT) (bT : Binds K fdT ["_law_box_here", "_law_many"] []) (gT : mg "_law_take" = some (.ref fT))
    (hg : (A.deeper (envOfC "law" (defScope sLaw) s.heap.objs.size f cdv)).guards = some []) (hr : Room 7 (A.deeper (envOfC "law" (defScope sLaw) s.heap.objs.size f cdv))) :
    ∃ t, PSs (cxOf CX0 P w K mg base nLaw "law" (defScope sLaw) f cdv A outer s H E).nox (loopK.drop 6) t ∧
      ∀ (De : Ends) (x0 x1 x7 x8 x9 x10 x11 x12 : Option V) (b nl rl hl me : Addr) (n : Nat) (ys rs : List Str) (ts : List Addr) (H0 : Hp), BoxAt H0 b n → n ≤ 60000 → H0 nl = some (.lst (ys.map V.str)) → nl ≠ b → rs.length < ys.length → ys.length ≤ 60 → ys.Nodup → (∀ z ∈ ys, NameZ z) →
        H0 rl = some (.lst (rs.map V.str)) → rl ≠ b → RowsOk rs → HandAt H0 hl rs → hl ≠ b → H0 me = some (.lst (ts.map V.ref)) → me ≠ b → ts.length ≤ 20 → (∀ t ∈ ts, PairOk rs (hide b H0) t 50) → Tabs T H0 →
        (∀ (y7 y8 y9 y10 : Option V) (H1 H' : Hp), KD b H0 H1 → ExtN H1 H' → Tabs T H' → De.nx [x0, x1, some (.ref b), some (.ref nl), some (.ref rl), some (.ref hl), some (.ref me), y7, y8, y9, y10, x11, x12] H') →
        t De [x0, x1, some (.ref b), some (.ref nl), some (.ref rl), some (.ref hl), some (.ref me), x7, x8, x9, x10, x11, x12] H0 := by
  have GT : FnOk P w K mg base CX0 1 fT fdT ["_law_box_here", "_law_many"] spTake := ok_take FT
  have hr1 := hr.mono (show 1 ≤ 7 by decide)
  have hu1 : (A.deeper (envOfC "law" (defScope sLaw) s.heap.objs.size f cdv)).units + 1 < cLine := by have := hr.units; omega
  obtain ⟨tz, pz, qz⟩ := tail7 (P := P) (w := w) (K := K) (mg := mg) (base := base) (cdv := cdv) (A := A) (outer := outer) (s := s) (H := H) (E := E) (f := f) GR gR kR bR hg hr
  refine ⟨_, pss_cons (ps_for PassesOwn.never rfl (pi_list (pv 6)) (pg_tup rfl (pgs_cons (pg_name (i := 8) scLaw.nd rfl (.inl rfl)) (pgs_cons (pg_name (i := 9) scLaw.nd rfl (.inl rfl)) pgs_nil)))
      (pss_cons (ps_set (i := 10) scLaw.nd rfl (.inl rfl) (pe_ix (r := rIxL K) ix_list (pe_lc (own := [("_law_name", 12)]) (g := gName 12) (by rfl) scLaw.nd (pi_list (pv 3))
          (blkOk_by (own := [("_law_name", 12)]) (N := nLaw) (sc := defScope sLaw) (by decide +kernel)) (fun _ _ _ _ _ => pg_name (i := 12) scLaw.nd rfl (.inl rfl))
          (fun _ _ _ _ _ => pts_one (pt_cmpR (r := rIn K true) op_notIn_seq (pv 12) (pv 4) (by rfl))) (fun _ _ _ _ _ => pv 12)) (pe_un un_neg pe_int) (fun _ _ => rfl)))
      (pss_cons (ps_dput hu1 (pv 8) (pv 10) (pe_ix (r := rIxL K) ix_list (pe_lst (pa_cons pe_non (pa_cons pe_int (pa_cons pe_str pa_nil)))) (pe_call GT hr1 rfl gT FT.kp bT .nil pass0 (pa_cons (pv 2) (pa_cons pe_int pa_nil))) (fun _ _ => rfl)) rfl)
      (pss_one (ps_dput hu1 (pv 9) (pv 10) (pe_ix (r := rIxL K) ix_list (pe_lst (pa_cons pe_non (pa_cons pe_bl (pa_cons pe_str pa_nil)))) (pe_call GT hr1 rfl gT FT.kp bT .nil pass0 (pa_cons (pv 2) (pa_cons pe_int pa_nil))) (fun _ _ => rfl)) rfl)))))
    pz, ?_⟩
  intro De x0 x1 x7 x8 x9 x10 x11 x12 b nl rl hl me n ys rs ts H0 B hn en nnb lrs l60 ynd ynm er nrb ro hh nhb em nmb lts hp hT q
  obtain ⟨fs, y, ef, my, ny⟩ := fresh_last ynd lrs
  refine ⟨_, rfl, me, rfl, ⟨_, .of em⟩, ?_⟩
  refine for_list (xs := ts.map V.ref) (fun i σ H3 => KD b H0 H3 ∧ BoxAt H3 b (n + 2 * i) ∧ (∀ t ∈ ts, PairOk rs (hide b H3) t (50 + 2 * i)) ∧ ∃ y8 y9 y10 : Option V, σ = [x0, x1, some (.ref b), some (.ref nl), some (.ref rl), some (.ref hl), some (.ref me), x7, y8, y9, y10, x11, x12]) ?_ ?_ ?_ ?_
  · exact ⟨.refl _ _, B, hp, _, _, _, rfl⟩
  · rintro i σ H3 _ ⟨k3, _⟩
    exact .of (k3 _ _ nmb (fun _ z => nomatch z) em)
  · rintro i x σ H3 hx ⟨k3, B3, p3, y8, y9, y10, rfl⟩
    rw [List.getElem?_map] at hx
    obtain ⟨t, hti, rfl⟩ := Option.map_eq_some_iff.mp hx
    have il : i < ts.length := (List.getElem?_eq_some_iff.mp hti).1
    have mt := List.mem_of_getElem? hti
    obtain ⟨bd, ad, et, ⟨kb, bo, b1, b2⟩, _⟩ := p3 t mt
    have et3 := hide_same b H3 _ _ et
    refine ⟨t, _, rfl, .of et3, rfl, _, _, rfl, _, _, rfl, rfl, ?_⟩
    have en3 : H3 nl = some (.lst (ys.map V.str)) := k3 _ _ nnb (fun _ z => nomatch z) en
    have er3 : H3 rl = some (.lst (rs.map V.str)) := k3 _ _ nrb (fun _ z => nomatch z) er
    refine ⟨_, rfl, nl, rfl, ⟨_, .of en3⟩, fun D hD => ?_⟩
    refine lc_list (xs := ys.map V.str) (fun i H4 => Same H3 H4 ∧ H4 D = some (.lst ((freshF rs (ys.take i)).map V.str))) ?_ ?_ ?_ ?_
    · exact ⟨Same.new hD, upd_same⟩
    · exact fun _ _ _ h => .of (h.1 _ _ en3)
    · rintro i4 x H4 hx ⟨s4, e4⟩
      rw [List.getElem?_map] at hx
      obtain ⟨z, hz, rfl⟩ := Option.map_eq_some_iff.mp hx
      refine ⟨rfl, ?_⟩
      refine ⟨_, rfl, _, rfl, rl, _, rfl, .inl (.of (s4 _ _ er3)), rfl, flat_strsR _, _, rfl, ?_⟩
      rw [show (if true = true then !inV (V.str z) (rs.map V.str) else inV (V.str z) (rs.map V.str)) = !decide (z ∈ rs) from by rw [if_pos rfl, inV_strR]]
      have e9 := freshF_snoc rs (ys.take i4) z
      rw [← take_snoc hz] at e9
      refine ite2 (fun c => ?_) (fun c => ?_)
      · rw [if_pos c] at e9
        refine ⟨_, rfl, _, e4, ?_, fun c o eo => (upd_ne (ne_of_none eo hD)).trans (s4 _ _ eo), ?_⟩
        · rw [List.length_map]
          have : (freshF rs (ys.take i4)).length ≤ _ := List.length_filter_le _ _
          rw [List.length_take] at this
          exact small1000 (by omega)
        · rw [upd_same, e9, List.map_append]
          rfl
      · rw [if_neg c] at e9
        exact ⟨s4, by rw [e9]; exact e4⟩
    · rintro H4 ⟨s4, e4⟩
      rw [List.length_map, List.take_length, ef, List.map_append] at e4
      refine ⟨1, rfl, D, _, -1, .str y, rfl, rfl, .of e4, atI_last _ _, ?_⟩
      -- a value of the bools
      refine ⟨(by show 3 ≤ sizeLine; decide), fun m1 hm1 => ?_⟩
      have t5 := Same.new (o := .lst [.non, .int 5, .str "x"]) hm1
      have em1 : (upd H4 m1 (.lst [.non, .int 5, .str "x"])) m1 = some (.lst [.non, .int 5, .str "x"]) := upd_same
      have s35 := s4.trans t5
      generalize upd H4 m1 (.lst [.non, .int 5, .str "x"]) = H5 at t5 em1 s35 ⊢
      have B5 := B3.keep fun o e => s35 _ _ e
      have nm1 : m1 ≠ b := box_ne (B3.keep fun o e => s4 _ _ e) hm1
      refine ⟨_, rfl, b, 3, _, rfl, B5, by omega, by decide, by decide, fun r H6 r0 r1 B6 k6 => ?_⟩
      obtain ⟨j, rfl, hj⟩ := draw_at (n := 3) r0 r1 rfl
      obtain ⟨ov, hov, sov⟩ := sv_three (xs := [.non, .int 5, .str "x"]) (j := j) (fun v hv G => by
        rcases List.mem_cons.mp hv with rfl | hv
        · exact .inr (.inl rfl)
        rcases List.mem_cons.mp hv with rfl | hv
        · exact .inl (small_int ⟨by decide, by decide⟩)
        · rw [List.mem_singleton.mp hv]
          exact .inr (.inr (.inr rfl))) hj
      have sh6 : Same (hide b H3) (hide b H6) := (hide_mono s35).trans (hide_but k6)
      have p6 : ∀ t ∈ ts, PairOk rs (hide b H6) t (50 + 2 * i) := fun t ht => (p3 t ht).same sh6
      have b6 := b1.same sh6
      have ebd6 := hide_same b H6 _ _ b6.d
      have nbd := dic_ne B6 ebd6
      refine ⟨m1, _, _, ov, rfl, rfl, .of (k6 _ _ nm1 em1), atI_nat hov, _, rfl, _, rfl, bd, _, rfl, DPut.k (k := Sum.inr y) ebd6 (small1000 (by have := b6.few; omega)), ?_⟩
      have p7 : ∀ t ∈ ts, PairOk rs (hide b (upd H6 bd (.dK (putK kb (Sum.inr y) ov)))) t (50 + 2 * i + 1) := fun t ht => by
        rw [hide_upd2 nbd]
        exact (p6 t ht).put b6 (ynm _ my) ny (sov _)
      have k37 : KD b H3 (upd H6 bd (.dK (putK kb (Sum.inr y) ov))) := ((KD.but (.same s35)).trans (KD.but k6)).trans (KD.put ebd6)
      have B7 : BoxAt (upd H6 bd (.dK (putK kb (Sum.inr y) ov))) b (n + 2 * i + 1) := B6.keep fun o e => (upd_ne nbd.symm).trans e
      have et7 : hide b (upd H6 bd (.dK (putK kb (Sum.inr y) ov))) t = some (.tup [.ref bd, .ref ad]) := by
        rw [hide_upd2 nbd]
        exact tup_upd b6.d _ _ (sh6 _ _ et)
      generalize upd H6 bd (.dK (putK kb (Sum.inr y) ov)) = H7 at p7 k37 B7 et7 ⊢
      -- a value of the answers
      refine ⟨(by show 3 ≤ sizeLine; decide), fun m2 hm2 => ?_⟩
      have t8 := Same.new (o := .lst [.non, .bl true, .str "x"]) hm2
      have em2 : (upd H7 m2 (.lst [.non, .bl true, .str "x"])) m2 = some (.lst [.non, .bl true, .str "x"]) := upd_same
      have nm2 : m2 ≠ b := box_ne B7 hm2
      generalize upd H7 m2 (.lst [.non, .bl true, .str "x"]) = H8 at t8 em2 ⊢
      have B8 := B7.keep fun o e => t8 _ _ e
      refine ⟨_, rfl, b, 3, _, rfl, B8, by omega, by decide, by decide, fun r2 H9 r20 r21 B9 k9 => ?_⟩
      obtain ⟨j2, rfl, hj2⟩ := draw_at (n := 3) r20 r21 rfl
      obtain ⟨ov2, hov2, sov2⟩ := sv_three (xs := [.non, .bl true, .str "x"]) (j := j2) (fun v hv G => by
        rcases List.mem_cons.mp hv with rfl | hv
        · exact .inr (.inl rfl)
        rcases List.mem_cons.mp hv with rfl | hv
        · exact .inr (.inr (.inl ⟨_, rfl⟩))
        · rw [List.mem_singleton.mp hv]
          exact .inr (.inr (.inr rfl))) hj2
      have sh9 : Same (hide b H7) (hide b H9) := (hide_mono t8).trans (hide_but k9)
      have p9 : ∀ t ∈ ts, PairOk rs (hide b H9) t (50 + 2 * i + 1) := fun t ht => (p7 t ht).same sh9
      obtain ⟨bd2, ad2, et2, _, ⟨ka, an, a1, a2⟩⟩ := p9 t mt
      have e2 := (sh9 _ _ et7).symm.trans et2
      cases e2
      have ead9 := hide_same b H9 _ _ a1.d
      have nad := dic_ne B9 ead9
      refine ⟨m2, _, _, ov2, rfl, rfl, .of (k9 _ _ nm2 em2), atI_nat hov2, _, rfl, _, rfl, ad, _, rfl, DPut.k (k := Sum.inr y) ead9 (small1000 (by have := a1.few; omega)), ?_⟩
      refine ⟨k3.trans (((k37.trans (KD.but (.same t8))).trans (KD.but k9)).trans (KD.put ead9)), ?_, fun t ht => ?_, _, _, _, rfl⟩
      · exact (B9.keep fun o e => (upd_ne nad.symm).trans e).mono (by omega)
      · rw [hide_upd2 nad]
        exact ((p9 t ht).put a1 (ynm _ my) ny (sov2 _)).mono (by omega)
  · rintro σ H3 ⟨k3, B3, p3, y8, y9, y10, rfl⟩
    rw [List.length_map] at p3 B3
    have k : ∀ {c : Addr} {o : HO}, c ≠ b → (∀ ks, o ≠ .dK ks) → H0 c = some o → H3 c = some o := fun n z e => k3 _ _ n z e
    refine qz De _ _ _ _ _ _ _ _ _ _ rl hl me rs ts H3 (k nrb (fun _ z => nomatch z) er) ro ?_ (k nmb (fun _ z => nomatch z) em) (by omega) (fun t ht => ((p3 t ht).same (hide_same b H3)).mono (by omega)) (Tabs.kd hT B k3) fun y8' y9' H' x4 T4 => q _ _ _ _ H3 H' k3 x4 T4
    rcases hh with ⟨e, nn⟩ | e
    · exact .inl ⟨k nhb (fun _ z => nomatch z) e, nn⟩
    · exact .inr (k nhb (fun _ z => nomatch z) e)
end
end G
set_option Elab.async false
set_option linter.all false
set_option maxRecDepth 100000
set_option maxHeartbeats 8000000
/-! LU4: two pairs of dicts are drawn. -/
namespace G
open PySem PySem.Spec PyProof.Rows L2 NdefX LamX SkL
theorem PairOk.gen {rs : List Str} {G G' : Hp} {t : Addr} {m : Nat} (h : PairOk rs G t m) (tp : ∀ a xs, G a = some (.tup xs) → G' a = some (.tup xs)) (dk : ∀ a ks, G a = some (.dK ks) → G' a = some (.dK ks)) : PairOk rs G' t m := by
  obtain ⟨bd, ad, e, ⟨kb, bo, ⟨b1, b2, b3⟩, b4⟩, ⟨ka, an, ⟨a1, a2, a3⟩, a4⟩⟩ := h
  refine ⟨bd, ad, tp _ _ e, ⟨kb, bo, ⟨dk _ _ b1, b2, fun q hq => ?_⟩, b4⟩, ⟨ka, an, ⟨dk _ _ a1, a2, fun q hq => ?_⟩, fun z hz => ?_⟩⟩
  · obtain ⟨z, e, n, v⟩ := b3 q hq
    exact ⟨z, e, n, v.at tp⟩
  · obtain ⟨z, e, n, v⟩ := a3 q hq
    exact ⟨z, e, n, v.at tp⟩
  · obtain ⟨v, e, a⟩ := a4 z hz
    exact ⟨v, e, a.at tp⟩
theorem mem_mergeR : ∀ {more acc : List (Key × V)} {q : Key × V}, q ∈ mergeK acc more → q ∈ acc ∨ q ∈ more
  | [], _, _, h => .inl h
  | p :: more, acc, q, h => by
    rcases mem_mergeR (more := more) (acc := putK acc p.1 p.2) h with h | h
    · rcases putK_memR h with h | h
      · exact .inl h
      · exact .inr (by rw [h]; exact List.mem_cons_self)
    · exact .inr (List.mem_cons_of_mem _ h)
theorem merge_bl : ∀ {more acc : List (Key × V)}, (∀ q ∈ more, ∃ b, q.2 = .bl b) → (∀ k v, valV acc k = some v → ∃ b, v = .bl b) → ∀ k, (k ∈ more.map (·.1) ∨ ∃ v, valV acc k = some v) → ∃ b, valV (mergeK acc more) k = some (.bl b)
  | [], acc, _, h2, k, h => by
    rcases h with h | ⟨v, e⟩
    · cases h
    · obtain ⟨b, rfl⟩ := h2 k v e
      exact ⟨b, e⟩
  | p :: more, acc, h1, h2, k, h => by
    refine merge_bl (more := more) (acc := putK acc p.1 p.2) (fun q hq => h1 q (List.mem_cons_of_mem _ hq)) (fun k' v e => ?_) k ?_
    · rw [valV_put] at e
      by_cases z : k' = p.1
      · rw [if_pos z] at e
        obtain ⟨b, eb⟩ := h1 p List.mem_cons_self
        exact ⟨b, by rw [← Option.some.inj e]; exact eb⟩
      · rw [if_neg z] at e
        exact h2 k' v e
    · by_cases z : k = p.1
      · exact .inr ⟨p.2, by rw [valV_put, if_pos z]⟩
      · rcases h with h | ⟨v, e⟩
        · rcases List.mem_cons.mp h with h | h
          · exact absurd h z
          · exact .inl h
        · exact .inr ⟨v, by rw [valV_put, if_neg z]; exact e⟩
theorem cutV_fromR (xs : List V) (k : Nat) (h : k ≤ xs.length) : cutV xs (some (k : Int)) none = xs.drop k := by
  unfold cutV
  rw [HT.sIx_none, HT.sIx_nat, Nat.min_eq_left h, List.take_of_length_le]
  rw [List.length_drop]
  exact Nat.le_refl _
theorem paired_imp {α β : Type} {F G : α → β → Prop} (h : ∀ a b, F a b → G a b) : ∀ {l : List α} {m : List β}, Paired F l m → Paired G l m
  | [], _, .nil => .nil
  | _ :: _, _, .cons a b => .cons (h _ _ a) (paired_imp h b)
/-- all but the box and one list stays -/
def BM (b me : Addr) (H H' : Hp) : Prop := ∀ c o, c ≠ b → c ≠ me → H c = some o → H' c = some o
theorem BM.refl (b me : Addr) (H : Hp) : BM b me H H := fun _ _ _ _ e => e
theorem BM.trans {b me : Addr} {H H1 H2 : Hp} (x : BM b me H H1) (y : BM b me H1 H2) : BM b me H H2 := fun c o n k e => y c o n k (x c o n k e)
theorem BM.but {b me : Addr} {H H' : Hp} (k : But b H H') : BM b me H H' := fun c o n _ e => k c o n e
theorem pair_old {rs : List Str} {b me : Addr} {H H' : Hp} {t : Addr} {m : Nat} {xs : List V} (h : PairOk rs (hide b H) t m) (k : BM b me H H') (em : H me = some (.lst xs)) : PairOk rs (hide b H') t m := by
  refine h.gen (fun a ys e => ?_) fun a ks e => ?_
  · have n : a ≠ b := fun z => by rw [z, hide_at] at e; cases e
    have e2 := hide_same b H _ _ e
    rw [hide_ne n]
    exact k _ _ n (fun z => by rw [z, em] at e2; cases e2) e2
  · have n : a ≠ b := fun z => by rw [z, hide_at] at e; cases e
    have e2 := hide_same b H _ _ e
    rw [hide_ne n]
    exact k _ _ n (fun z => by rw [z, em] at e2; cases e2) e2
theorem Tabs.bm {T : List (Addr × Str)} {b me : Addr} {n : Nat} {H H' : Hp} {xs : List V} (t : Tabs T H) (B : BoxAt H b n) (em : H me = some (.lst xs)) (k : BM b me H H') : Tabs T H' := fun p hp => by
  obtain ⟨x, y, z, eb, _⟩ := B
  obtain ⟨ps, h1, h2, h3⟩ := t p hp
  refine ⟨ps, k _ _ (fun q => by rw [q, eb] at h1; cases h1) (fun q => by rw [q, em] at h1; cases h1) h1, h2, fun pos cv hc => ?_⟩
  obtain ⟨c, e1, e2⟩ := h3 pos cv hc
  refine ⟨c, e1, k _ _ (fun q => ?_) (fun q => ?_) e2⟩
  · rw [q, eb] at e2
    unfold CodeO at e2
    cases e2
  · rw [q, em] at e2
    unfold CodeO at e2
    cases e2
section
variable {P : Program} {w : World} {K : PySem.W.Frag} {mg : Str → Option Value} {base : Heap}
theorem tail5 {fR fT fM fW : Addr} {fdR fdT fdM fdW : FuncData} {T : List (Addr × Str)} {cdv : Value} {A : Around} {outer : List Env} {s : Shared} {H : Hp} {E : XK} {f : Addr}
    (GR : FnG P w K mg base CX0 7 fR fdR ["_law_rows", "_law_handed", "_law_bools", "_law_answers"] (spRight K T)) (gR : mg "_law_right" = some (.ref fR)) (kR : PySem.W.keepIn K (.ref fR) = true) (bR : Binds K fdR ["_law_rows", "_law_handed", "_law_bools", "_law_answers"] [])
    (FT : Fun K "_law_take" "_law_take" sTake fT fdT) (bT : Binds K fdT ["_law_box_here", "_law_many"] []) (gT : mg "_law_take" = some (.ref fT))
    (GM : FnOk P w K mg base CX0 2 fM fdM ["_law_box_here", "_law_some"] (spMixR K)) (gM : mg "_law_mixed" = some (.ref fM)) (kM : PySem.W.keepIn K (.ref fM) = true) (bM : Binds K fdM ["_law_box_here", "_law_some"] [])
    (GW : FnOk P w K mg base CX0 3 fW fdW ["_law_box_here", "_law_rows"] (spFew K)) (gW : mg "_law_few_answers" = some (.ref fW)) (kW : PySem.W.keepIn K (.ref fW) = true) (bW : Binds K fdW ["_law_box_here", "_law_rows"] [])
    (mr : mg "range" = none) (md : mg "dict" = none)
    (hg : (A.deeper (envOfC "law" (defScope sLaw) s.heap.objs.size f cdv)).guards = some []) (hr : Room 7 (A.deeper (envOfC "law" (defScope sLaw) s.heap.objs.size f cdv))) :
    ∃ t, PSs (cxOf CX0 P w K mg base nLaw "law" (defScope sLaw) f cdv A outer s H E).nox (loopK.drop 5) t ∧
      ∀ (De : Ends) (x0 x1 x7 x8 x9 x10 x11 x12 : Option V) (b nl rl hl me : Addr) (n : Nat) (ys rs : List Str) (H0 : Hp), BoxAt H0 b n → n ≤ 50000 → H0 nl = some (.lst (ys.map V.str)) → nl ≠ b → ys.length = 42 → ys.Nodup → (∀ z ∈ ys, NameZ z) →
        H0 rl = some (.lst (rs.map V.str)) → rl ≠ b → RowsOk rs → (∀ z ∈ rs, z ∈ ys) → HandAt H0 hl rs → hl ≠ b → H0 me = some (.lst []) → me ≠ b → me ≠ nl → me ≠ rl → me ≠ hl → Tabs T H0 →
        (∀ (y7 y8 y9 y10 : Option V) (H1 H2 H' : Hp), BM b me H0 H1 → KD b H1 H2 → ExtN H2 H' → Tabs T H' → De.nx [x0, x1, some (.ref b), some (.ref nl), some (.ref rl), some (.ref hl), some (.ref me), y7, y8, y9, y10, x11, x12] H') →
        t De [x0, x1, some (.ref b), some (.ref nl), some (.ref rl), some (.ref hl), some (.ref me), x7, x8, x9, x10, x11, x12] H0 := by
  have GT : FnOk P w K mg base CX0 1 fT fdT ["_law_box_here", "_law_many"] spTake := ok_take FT
  have hr1 := hr.mono (show 1 ≤ 7 by decide)
  have hr2 := hr.mono (show 2 ≤ 7 by decide)
  have hr3 := hr.mono (show 3 ≤ 7 by decide)
  obtain ⟨tz, pz, qz⟩ := tail6 (P := P) (w := w) (K := K) (mg := mg) (base := base) (cdv := cdv) (A := A) (outer := outer) (s := s) (H := H) (E := E) (f := f) GR gR kR bR FT bT gT hg hr
  refine ⟨_, pss_cons (ps_for PassesOwn.never rfl (pi_range1 rfl mr (pa_cons pe_int pa_nil)) (pg_name (i := 7) scLaw.nd rfl (.inl rfl))
      (pss_cons (ps_set (i := 8) scLaw.nd rfl (.inl rfl) (pe_callTy (call_dictP rfl) (by rfl) md (by decide +kernel) (pa_cons (pe_lc (own := [("_law_row", 11)]) (g := gName 11) (tt := tYes) (by rfl) scLaw.nd
          (pi_list (pe_call GM hr2 rfl gM kM bM .nil pass0 (pa_cons (pv 2) (pa_cons (pe_op op_cat (pv 4) (pe_slice (r := rSlL K) sl_list (pv 3) (po_some pe_int) po_none)) pa_nil))))
          (blkOk_by (own := [("_law_row", 11)]) (N := nLaw) (sc := defScope sLaw) (by decide +kernel)) (fun _ _ _ _ _ => pg_name (i := 11) scLaw.nd rfl (.inl rfl)) (fun _ _ _ _ _ => pts_nil)
          (fun _ _ _ _ _ => pe_tup (pa_cons (pv 11) (pa_cons (pe_cmpR op_eq (pe_call GT hr1 rfl gT FT.kp bT .nil pass0 (pa_cons (pv 2) (pa_cons pe_int pa_nil))) pe_int (nomark _)) pa_nil)))) pa_nil)))
      (pss_one (ps_expr (pe_bm PySem.F.plainAttrs_list PySem.F.slot_list_append PySem.F.type_list_append mt_append (pv 6) (pa_cons (pe_tup (pa_cons (pv 8) (pa_cons
          (pe_call GW hr3 rfl gW kW bW .nil pass0 (pa_cons (pv 2) (pa_cons (pe_op op_cat (pv 4) (pe_lc (own := [("_law_name", 12)]) (g := gName 12) (by rfl) scLaw.nd (pi_list (pe_slice (r := rSlL K) sl_list (pv 3) (po_some pe_int) po_none))
            (blkOk_by (own := [("_law_name", 12)]) (N := nLaw) (sc := defScope sLaw) (by decide +kernel)) (fun _ _ _ _ _ => pg_name (i := 12) scLaw.nd rfl (.inl rfl))
            (fun _ _ _ _ _ => pts_one (pt_cmpR (r := rIn K true) op_notIn_seq (pv 12) (pv 4) (by rfl))) (fun _ _ _ _ _ => pv 12))) pa_nil))) pa_nil))) pa_nil))))))
    pz, ?_⟩
  intro De x0 x1 x7 x8 x9 x10 x11 x12 b nl rl hl me n ys rs H0 B hn en nnb l42 ynd ynm er nrb ro sub hh nhb em nmb nmn nmr nmh hT q
  have few := ro.few
  refine ⟨2, rfl, by decide, by decide, ?_⟩
  refine for_range (lo := 0) (n := 2) (fun i σ H3 => BM b me H0 H3 ∧ BoxAt H3 b (n + 200 * i) ∧ (∃ ts : List Addr, ts.length = i ∧ H3 me = some (.lst (ts.map V.ref)) ∧ ∀ t ∈ ts, PairOk rs (hide b H3) t 50) ∧ ∃ y7 y8 : Option V, σ = [x0, x1, some (.ref b), some (.ref nl), some (.ref rl), some (.ref hl), some (.ref me), y7, y8, x9, x10, x11, x12]) ?_ ?_ ?_
  · exact ⟨.refl _ _ _, B, ⟨[], rfl, em, fun t h => nomatch h⟩, _, _, rfl⟩
  · rintro i σ H3 hi ⟨k3, B3, ⟨ts, lts, em3, p3⟩, y7, y8, rfl⟩
    have en3 := k3 _ _ nnb nmn.symm en
    have er3 := k3 _ _ nrb nmr.symm er
    refine ⟨_, rfl, _, rfl, _, rfl, _, rfl, nl, _, rfl, .of en3, fun m1 hm1 => ?_⟩
    rw [show cutV (ys.map V.str) (some (40 : Int)) none = (ys.drop 40).map V.str from by rw [show ((40 : Int)) = ((40 : Nat) : Int) from rfl, cutV_fromR _ _ (by rw [List.length_map]; omega), List.map_drop]]
    have l2 : (ys.drop 40).length = 2 := by rw [List.length_drop]; omega
    have t4 := Same.new (o := .lst ((ys.drop 40).map V.str)) hm1
    have em1 : (upd H3 m1 (.lst ((ys.drop 40).map V.str))) m1 = some (.lst ((ys.drop 40).map V.str)) := upd_same
    have nm1 : m1 ≠ b := box_ne B3 hm1
    generalize upd H3 m1 (.lst ((ys.drop 40).map V.str)) = H4 at t4 em1 ⊢
    refine ⟨rl, m1, _, _, rfl, rfl, t4 _ _ er3, em1, ?_, fun c hc => ?_⟩
    · rw [List.length_map, List.length_map, l2]
      exact Nat.le_of_lt (small1000 (by omega))
    have t5 := Same.new (o := .lst (rs.map V.str ++ (ys.drop 40).map V.str)) hc
    have ec : (upd H4 c (.lst (rs.map V.str ++ (ys.drop 40).map V.str))) c = some (.lst ((rs ++ ys.drop 40).map V.str)) := by rw [upd_same, List.map_append]
    generalize upd H4 c (.lst (rs.map V.str ++ (ys.drop 40).map V.str)) = H5 at t5 ec ⊢
    have s35 := t4.trans t5
    have B5 := B3.keep fun o e => s35 _ _ e
    have l44 : (rs ++ ys.drop 40).length ≤ 42 := by
      rw [List.length_append, l2]
      omega
    refine ⟨b, c, _, (rs ++ ys.drop 40).map V.str, rfl, B5, by rw [List.length_map]; omega, .of ec, fun mp H6 vs pmv npm em6 B6 k6 => ?_⟩
    rw [List.length_map] at B6
    obtain ⟨us, rfl, pmu⟩ := perm_map_inv pmv (rs ++ ys.drop 40) rfl
    have lus := pmu.length_eq
    have nmp : mp ≠ b := box_ne B5 npm
    refine ⟨mp, rfl, ⟨_, .of em6⟩, fun D hD => ?_⟩
    have nDb := box_ne B6 hD
    refine lc_list (xs := us.map V.str) (fun i7 H7 => ∃ (qs : List Addr) (kvs : List (Key × V)), H7 D = some (.lst (qs.map V.ref)) ∧ Paired (fun p (kv : Key × V) => H7 p = some (.tup [kV kv.1, kv.2])) qs kvs ∧ kvs.map (·.1) = (us.take i7).map Sum.inr ∧ (∀ q ∈ kvs, ∃ c, q.2 = V.bl c) ∧ BoxAt H7 b (n + 200 * i + (rs ++ ys.drop 40).length + i7) ∧ But b H6 H7) ?_ ?_ ?_ ?_
    · exact ⟨[], [], upd_same, .nil, rfl, (fun _ h => nomatch h), box_new B6 hD, But.new hD⟩
    · rintro i7 H7 _ ⟨_, _, _, _, _, _, _, k7⟩
      exact .of (k7 _ _ nmp em6)
    · rintro i7 x H7 hx ⟨qs, kvs, e7, pr7, nm7, bl7, B7, k7⟩
      rw [List.getElem?_map] at hx
      obtain ⟨z, hz, rfl⟩ := Option.map_eq_some_iff.mp hx
      have hi7 : i7 < us.length := (List.getElem?_eq_some_iff.mp hz).1
      refine ⟨rfl, ?_⟩
      unfold tYes
      dsimp only
      rw [if_pos rfl]
      refine ⟨_, rfl, _, rfl, b, 2, _, rfl, B7, by omega, by decide, by decide, fun r H8 _ _ B8 k8 => ⟨rfl, (by show 2 ≤ sizeLine; decide), fun t ht => ?_⟩⟩
      have e8 := Same.new (o := .tup [.str z, .bl (decide (V.int r = V.int 0))]) ht _ _ (k8 _ _ nDb e7)
      have k79 : But b H7 (upd H8 t (.tup [.str z, .bl (decide (V.int r = V.int 0))])) := k8.trans (But.new ht)
      have lq : qs.length = i7 := by
        have h1 : qs.length = kvs.length := by
          clear e7 e8 k79 nm7 bl7 ht
          induction pr7 with
          | nil => rfl
          | cons _ _ ih => exact congrArg (· + 1) ih
        have h2 := congrArg List.length nm7
        rw [List.length_map, List.length_map, List.length_take] at h2
        omega
      refine ⟨_, e8, ?_, qs ++ [t], kvs ++ [(Sum.inr z, .bl (decide (V.int r = V.int 0)))], ?_, ?_, ?_, ?_, ?_, ?_⟩
      · rw [List.length_map, lq]
        exact small1000 (by omega)
      · rw [upd_same, List.map_append]
        rfl
      · refine Paired.snoc (paired_imp (fun p kv e => ?_) pr7) ?_
        · have e9 := k79 _ _ (tup_ne B7 e) e
          exact (upd_ne fun q => by rw [q, e8] at e9; cases e9).trans e9
        · exact (upd_ne fun q => by rw [← q, upd_same] at e8; cases e8).trans upd_same
      · rw [List.map_append, nm7, take_snoc hz, List.map_append]
        rfl
      · intro q hq
        rcases List.mem_append.mp hq with hq | hq
        · exact bl7 q hq
        · rw [List.mem_singleton.mp hq]
          exact ⟨_, rfl⟩
      · exact box_upd (box_new B8 ht) nDb
      · exact but_upd (k7.trans k79) hD
    · rintro H7 ⟨qs, kvs, e7, pr7, nm7, bl7, B7, k7⟩
      rw [List.length_map] at nm7 B7
      rw [List.take_length] at nm7
      refine ⟨D, qs, kvs, rfl, .of e7, paired_imp (fun p kv e => .of e) pr7, fun bd hbd => ?_⟩
      have t8 := Same.new (o := .dK (mergeK [] kvs)) hbd
      have ebd : (upd H7 bd (.dK (mergeK [] kvs))) bd = some (.dK (mergeK [] kvs)) := upd_same
      generalize upd H7 bd (.dK (mergeK [] kvs)) = H8 at t8 ebd ⊢
      have k38 : But b H3 H8 := ((But.same s35).trans k6).trans (k7.trans (.same t8))
      have B8 := B7.keep fun o e => t8 _ _ e
      have en8 := k38 _ _ nnb en3
      have er8 := k38 _ _ nrb er3
      have em8 := k38 _ _ nmb em3
      refine ⟨_, rfl, .inl ⟨rfl, _, .of em8⟩, _, rfl, _, rfl, _, rfl, _, rfl, _, rfl, nl, _, rfl, .of en8, fun m2 hm2 => ?_⟩
      rw [show cutV (ys.map V.str) (some (40 : Int)) none = (ys.drop 40).map V.str from by rw [show ((40 : Int)) = ((40 : Nat) : Int) from rfl, cutV_fromR _ _ (by rw [List.length_map]; omega), List.map_drop]]
      have t9 := Same.new (o := .lst ((ys.drop 40).map V.str)) hm2
      have em2 : (upd H8 m2 (.lst ((ys.drop 40).map V.str))) m2 = some (.lst ((ys.drop 40).map V.str)) := upd_same
      generalize upd H8 m2 (.lst ((ys.drop 40).map V.str)) = H9 at t9 em2 ⊢
      have er9 := t9 _ _ er8
      refine ⟨m2, rfl, ⟨_, .of em2⟩, fun D2 hD2 => ?_⟩
      refine lc_list (xs := (ys.drop 40).map V.str) (fun i2 HA => Same H9 HA ∧ HA D2 = some (.lst ((freshF rs ((ys.drop 40).take i2)).map V.str))) ?_ ?_ ?_ ?_
      · exact ⟨Same.new hD2, upd_same⟩
      · exact fun _ _ _ h => .of (h.1 _ _ em2)
      · rintro i4 x HA hx ⟨s4, e4⟩
        rw [List.getElem?_map] at hx
        obtain ⟨z, hz, rfl⟩ := Option.map_eq_some_iff.mp hx
        refine ⟨rfl, ?_⟩
        refine ⟨_, rfl, _, rfl, rl, _, rfl, .inl (.of (s4 _ _ er9)), rfl, flat_strsR _, _, rfl, ?_⟩
        rw [show (if true = true then !inV (V.str z) (rs.map V.str) else inV (V.str z) (rs.map V.str)) = !decide (z ∈ rs) from by rw [if_pos rfl, inV_strR]]
        have e9 := freshF_snoc rs ((ys.drop 40).take i4) z
        rw [← take_snoc hz] at e9
        refine ite2 (fun c => ?_) (fun c => ?_)
        · rw [if_pos c] at e9
          refine ⟨_, rfl, _, e4, ?_, fun c o eo => (upd_ne (ne_of_none eo hD2)).trans (s4 _ _ eo), ?_⟩
          · rw [List.length_map]
            have : (freshF rs ((ys.drop 40).take i4)).length ≤ _ := List.length_filter_le _ _
            rw [List.length_take] at this
            exact small1000 (by omega)
          · rw [upd_same, e9, List.map_append]
            rfl
        · rw [if_neg c] at e9
          exact ⟨s4, by rw [e9]; exact e4⟩
      · rintro HA ⟨sA, eA⟩
        rw [List.length_map, List.take_length] at eA
        have lf : (freshF rs (ys.drop 40)).length ≤ 2 := by
          have : (freshF rs (ys.drop 40)).length ≤ _ := List.length_filter_le _ _
          omega
        have ndz : (rs ++ freshF rs (ys.drop 40)).Nodup := by
          refine List.nodup_append.mpr ⟨ro.nd, List.filter_sublist.nodup ((List.drop_sublist _ _).nodup ynd), fun x hx y hy e => ?_⟩
          obtain ⟨_, m3⟩ := List.mem_filter.mp hy
          rw [e] at hx
          rw [decide_eq_true hx] at m3
          cases m3
        refine ⟨rl, D2, _, _, rfl, rfl, sA _ _ er9, eA, ?_, fun c2 hc2 => ?_⟩
        · rw [List.length_map, List.length_map]
          exact Nat.le_of_lt (small1000 (by omega))
        have tB := Same.new (o := .lst (rs.map V.str ++ (freshF rs (ys.drop 40)).map V.str)) hc2
        have ec2 : (upd HA c2 (.lst (rs.map V.str ++ (freshF rs (ys.drop 40)).map V.str))) c2 = some (.lst ((rs ++ freshF rs (ys.drop 40)).map V.str)) := by rw [upd_same, List.map_append]
        generalize upd HA c2 (.lst (rs.map V.str ++ (freshF rs (ys.drop 40)).map V.str)) = HB at tB ec2 ⊢
        have s8B := (t9.trans sA).trans tB
        have BB := B8.keep fun o e => s8B _ _ e
        have lz : (rs ++ freshF rs (ys.drop 40)).length ≤ 42 := by
          rw [List.length_append]
          omega
        refine ⟨b, c2, _, rs ++ freshF rs (ys.drop 40), rfl, BB, by omega, .of ec2, by omega, ndz, fun ad HC ka ys2 an had BC kC pm2 fa => ?_⟩
        refine ⟨(by show 2 ≤ sizeLine; decide), fun t ht => ?_⟩
        have tD := Same.new (o := .tup [.ref bd, .ref ad]) ht
        have et : (upd HC t (.tup [.ref bd, .ref ad])) t = some (.tup [.ref bd, .ref ad]) := upd_same
        generalize upd HC t (.tup [.ref bd, .ref ad]) = HE at tD et ⊢
        have k8E : But b H8 HE := ((But.same s8B).trans kC).trans (.same tD)
        have k3E := k38.trans k8E
        have BE := BC.keep fun o e => tD _ _ e
        have emE := k3E _ _ nmb em3
        have ebdE := k8E _ _ (dic_ne B8 ebd) ebd
        refine ⟨me, _, _, rfl, rfl, emE, ?_, ?_⟩
        · rw [List.length_map, lts]
          exact small1000 (by omega)
        have kE : BM b me HE (upd HE me (.lst (ts.map V.ref ++ [.ref t]))) := fun c o _ n e => (upd_ne n).trans e
        have k3F : BM b me H3 (upd HE me (.lst (ts.map V.ref ++ [.ref t]))) := (BM.but k3E).trans kE
        have fresh : ∀ z ∈ rs ++ ys.drop 40, z ∈ ys := fun z hz => by
          rcases List.mem_append.mp hz with hz | hz
          · exact sub z hz
          · exact List.mem_of_mem_drop hz
        have newP : PairOk rs (hide b HE) t 50 := by
          have tb := tup_ne BE et
          have hidE : ∀ {c : Addr} {o : HO}, c ≠ b → HE c = some o → hide b HE c = some o := fun n e => by rw [hide_ne n]; exact e
          have nbd := dic_ne BE ebdE
          have eadE := tD _ _ fa.d
          have nad := dic_ne BE eadE
          have anE : ∀ {v : V} {ns : List Int}, AnsAt HC v ns → AnsAt (hide b HE) v ns := fun h => h.at fun a xs e => hidE (tup_ne BC e) (tD _ _ e)
          refine ⟨bd, ad, hidE tb et, ⟨mergeK [] kvs, fun z => match valV (mergeK [] kvs) (Sum.inr z) with
            | some (.bl c) => c
            | _ => false, ⟨hidE nbd ebdE, ?_, fun q hq => ?_⟩, fun z hz => ?_⟩, ⟨ka, an, ⟨hidE nad eadE, ?_, fun q hq => ?_⟩, fun z hz => ?_⟩⟩
          · have h1 := length_mergeK kvs []
            have h2 := congrArg List.length nm7
            rw [List.length_map, List.length_map] at h2
            rw [List.length_nil] at h1
            omega
          · rcases mem_mergeR hq with h | h
            · cases h
            · have h2 : q.1 ∈ us.map Sum.inr := by
                rw [← nm7]
                exact List.mem_map.mpr ⟨q, h, rfl⟩
              obtain ⟨z, mz, ez⟩ := List.mem_map.mp h2
              obtain ⟨c, ec⟩ := bl7 q h
              exact ⟨z, ez.symm, ynm z (fresh z (pmu.mem_iff.mp mz)), .inr (.inr (.inl ⟨c, ec⟩))⟩
          · obtain ⟨c, ec⟩ := merge_bl (more := kvs) (acc := []) bl7 (fun k v e => by cases e) (Sum.inr z) (.inl (by
              rw [nm7]
              exact List.mem_map.mpr ⟨z, pmu.mem_iff.mpr (List.mem_append_left _ hz), rfl⟩))
            show valV (mergeK [] kvs) (Sum.inr z) = some (.bl (match valV (mergeK [] kvs) (Sum.inr z) with | some (.bl c) => c | _ => false))
            rw [ec]
          · have h2 := congrArg List.length fa.keys
            rw [List.length_map, List.length_map] at h2
            have := pm2.length_eq
            omega
          · obtain ⟨z, mz, ez, av⟩ := fa.is q hq
            refine ⟨z, ez, ?_, .inl ⟨_, anE av⟩⟩
            rcases List.mem_append.mp (pm2.mem_iff.mp mz) with h | h
            · exact ynm z (sub z h)
            · exact ynm z (List.mem_of_mem_drop (List.mem_filter.mp h).1)
          · obtain ⟨v, ev, av⟩ := (fa.ans (zs := rs) fun z hz => pm2.mem_iff.mpr (List.mem_append_left _ hz)).is z hz
            exact ⟨v, ev, anE av⟩
        refine ⟨k3.trans k3F, ?_, ⟨ts ++ [t], ?_, ?_, fun t' ht' => ?_⟩, _, _, rfl⟩
        · exact (box_upd BE nmb).mono (by omega)
        · rw [List.length_append, lts]
          rfl
        · rw [upd_same, List.map_append]
          rfl
        · rcases List.mem_append.mp ht' with h | h
          · exact pair_old (p3 t' h) k3F em3
          · rw [List.mem_singleton.mp h]
            exact pair_old newP kE emE
  · rintro σ H3 ⟨k3, B3, ⟨ts, lts, em3, p3⟩, y7, y8, rfl⟩
    refine qz De _ _ _ _ _ _ _ _ b nl rl hl me (n + 200 * 2) ys rs ts H3 B3 (by omega) (k3 _ _ nnb nmn.symm en) nnb (by omega) (by omega) ynd ynm (k3 _ _ nrb nmr.symm er) nrb ro ?_ nhb em3 nmb (by omega) p3 (Tabs.bm hT B em k3) fun y7' y8' y9' y10' H1 H' kd x T' => q _ _ _ _ H3 H1 H' k3 kd x T'
    rcases hh with ⟨e, nn⟩ | e
    · exact .inl ⟨k3 _ _ nhb nmh.symm e, nn⟩
    · exact .inr (k3 _ _ nhb nmh.symm e)
end
end G
set_option Elab.async false
set_option linter.all false
set_option maxRecDepth 100000
set_option maxHeartbeats 8000000
/-! LU5: the law keeps its promise. -/
namespace G
open PySem PySem.Spec PyProof.Rows L2 NdefX LamX SkL
def spLaw (K : PySem.W.Frag) (T : List (Addr × Str)) : Sp := fun vs H Q _ => ∃ (a : Addr) (ns : List Int), vs = [.ref a] ∧ SqL K H a (ns.map V.int) ∧ ns.length ≤ 63 ∧ Tabs T H ∧ ∀ H', Q (.bl true) H'
theorem sqL_nd {K : PySem.W.Frag} {H H' : Hp} {l : Addr} {xs : List V} (s : ∀ c o, H c = some o → (∀ ks, o ≠ .dK ks) → (∀ ps, o ≠ .tbl ps) → H' c = some o) : SqL K H l xs → SqL K H' l xs
  | .inl (.inl h) => .inl (.inl (s _ _ h (fun _ z => nomatch z) (fun _ z => nomatch z)))
  | .inl (.inr ⟨o, h⟩) => .inl (.inr ⟨o, s _ _ h (fun _ z => nomatch z) (fun _ z => nomatch z)⟩)
  | .inr h => .inr h
section
variable {P : Program} {w : World} {K : PySem.W.Frag} {mg : Str → Option Value} {base : Heap}
theorem tail4 {fR fT fM fW : Addr} {fdR fdT fdM fdW : FuncData} {T : List (Addr × Str)} {cdv : Value} {A : Around} {outer : List Env} {s : Shared} {H : Hp} {E : XK} {f : Addr}
    (GR : FnG P w K mg base CX0 7 fR fdR ["_law_rows", "_law_handed", "_law_bools", "_law_answers"] (spRight K T)) (gR : mg "_law_right" = some (.ref fR)) (kR : PySem.W.keepIn K (.ref fR) = true) (bR : Binds K fdR ["_law_rows", "_law_handed", "_law_bools", "_law_answers"] [])
    (FT : Fun K "_law_take" "_law_take" sTake fT fdT) (bT : Binds K fdT ["_law_box_here", "_law_many"] []) (gT : mg "_law_take" = some (.ref fT))
    (GM : FnOk P w K mg base CX0 2 fM fdM ["_law_box_here", "_law_some"] (spMixR K)) (gM : mg "_law_mixed" = some (.ref fM)) (kM : PySem.W.keepIn K (.ref fM) = true) (bM : Binds K fdM ["_law_box_here", "_law_some"] [])
    (GW : FnOk P w K mg base CX0 3 fW fdW ["_law_box_here", "_law_rows"] (spFew K)) (gW : mg "_law_few_answers" = some (.ref fW)) (kW : PySem.W.keepIn K (.ref fW) = true) (bW : Binds K fdW ["_law_box_here", "_law_rows"] [])
    (mr : mg "range" = none) (md : mg "dict" = none)
    (hg : (A.deeper (envOfC "law" (defScope sLaw) s.heap.objs.size f cdv)).guards = some []) (hr : Room 7 (A.deeper (envOfC "law" (defScope sLaw) s.heap.objs.size f cdv))) :
    ∃ t, PSs (cxOf CX0 P w K mg base nLaw "law" (defScope sLaw) f cdv A outer s H E).nox (loopK.drop 4) t ∧
      ∀ (De : Ends) (x0 x1 x6 x7 x8 x9 x10 x11 x12 : Option V) (b nl rl hl : Addr) (n : Nat) (ys rs : List Str) (H0 : Hp), BoxAt H0 b n → n ≤ 50000 → H0 nl = some (.lst (ys.map V.str)) → nl ≠ b → ys.length = 42 → ys.Nodup → (∀ z ∈ ys, NameZ z) →
        H0 rl = some (.lst (rs.map V.str)) → rl ≠ b → RowsOk rs → (∀ z ∈ rs, z ∈ ys) → HandAt H0 hl rs → hl ≠ b → Tabs T H0 →
        (∀ (y6 y7 y8 y9 y10 : Option V) (H' : Hp), (∀ c o, c ≠ b → H0 c = some o → (∀ ks, o ≠ .dK ks) → (∀ ps, o ≠ .tbl ps) → H' c = some o) → Tabs T H' → De.nx [x0, x1, some (.ref b), some (.ref nl), some (.ref rl), some (.ref hl), y6, y7, y8, y9, y10, x11, x12] H') →
        t De [x0, x1, some (.ref b), some (.ref nl), some (.ref rl), some (.ref hl), x6, x7, x8, x9, x10, x11, x12] H0 := by
  obtain ⟨tz, pz, qz⟩ := tail5 (P := P) (w := w) (K := K) (mg := mg) (base := base) (cdv := cdv) (A := A) (outer := outer) (s := s) (H := H) (E := E) (f := f) GR gR kR bR FT bT gT GM gM kM bM GW gW kW bW mr md hg hr
  refine ⟨_, pss_cons (ps_set (i := 6) scLaw.nd rfl (.inl rfl) (pe_lst pa_nil)) pz, ?_⟩
  intro De x0 x1 x6 x7 x8 x9 x10 x11 x12 b nl rl hl n ys rs H0 B hn en nnb l42 ynd ynm er nrb ro sub hh nhb hT q
  refine ⟨Nat.zero_le _, fun me hme => ?_⟩
  have t1 := Same.new (o := .lst []) hme
  have nhl : me ≠ hl := fun z => by
    rcases hh with ⟨e, _⟩ | e <;> rw [← z, hme] at e <;> cases e
  refine qz De _ _ _ _ _ _ _ _ b nl rl hl me n ys rs _ (B.keep fun o e => t1 _ _ e) hn (t1 _ _ en) nnb l42 ynd ynm (t1 _ _ er) nrb ro sub ?_ nhb upd_same (box_ne B hme) (fun z => by rw [z, en] at hme; cases hme) (fun z => by rw [z, er] at hme; cases hme) nhl (hT.ext t1) fun y7 y8 y9 y10 H1 H2 H' k1 k2 x T' => ?_
  · rcases hh with ⟨e, nn⟩ | e
    · exact .inl ⟨t1 _ _ e, nn⟩
    · exact .inr (t1 _ _ e)
  · exact q _ _ _ _ _ H' (fun c o nb e nk nt => x _ _ (k2 c o nb nk (k1 c o nb (ne_of_none e hme) (t1 _ _ e))) nt) T'
theorem ok_law {f fc fb fT fn fM fR fW : Addr} {fd fdc fdb fdT fdn fdM fdR fdW : FuncData} {T : List (Addr × Str)} (F : Fun K "law" "law" sLaw f fd)
    (Fc : Fun K "_law_cell" "_law_cell" sCell fc fdc) (bc : Binds K fdc ["_law_script", "_law_k"] []) (gc : mg "_law_cell" = some (.ref fc))
    (Fb : Fun K "_law_box" "_law_box" sBox fb fdb) (bb : Binds K fdb ["_law_cell_here"] []) (gb : mg "_law_box" = some (.ref fb))
    (FT : Fun K "_law_take" "_law_take" sTake fT fdT) (bT : Binds K fdT ["_law_box_here", "_law_many"] []) (gT : mg "_law_take" = some (.ref fT))
    (kn : PySem.W.keepIn K (.ref fn) = true) (bn : Binds K fdn ["_law_box_here", "_law_many"] []) (gn : mg "_law_names" = some (.ref fn)) (Gn : FnOk P w K mg base CX0 3 fn fdn ["_law_box_here", "_law_many"] spNamesD)
    (GR : FnG P w K mg base CX0 7 fR fdR ["_law_rows", "_law_handed", "_law_bools", "_law_answers"] (spRight K T)) (gR : mg "_law_right" = some (.ref fR)) (kR : PySem.W.keepIn K (.ref fR) = true) (bR : Binds K fdR ["_law_rows", "_law_handed", "_law_bools", "_law_answers"] [])
    (GM : FnOk P w K mg base CX0 2 fM fdM ["_law_box_here", "_law_some"] (spMixR K)) (gM : mg "_law_mixed" = some (.ref fM)) (kM : PySem.W.keepIn K (.ref fM) = true) (bM : Binds K fdM ["_law_box_here", "_law_some"] [])
    (GW : FnOk P w K mg base CX0 3 fW fdW ["_law_box_here", "_law_rows"] (spFew K)) (gW : mg "_law_few_answers" = some (.ref fW)) (kW : PySem.W.keepIn K (.ref fW) = true) (bW : Binds K fdW ["_law_box_here", "_law_rows"] [])
    (mr : mg "range" = none) (mmx : mg "max" = none) (mmn : mg "min" = none) (ml : mg "len" = none) (mL2 : mg "list" = none) (mt : mg "tuple" = none) (md : mg "dict" = none) : FnG P w K mg base CX0 8 f fd ["_law_script"] (spLaw K T) := by
  have Gc : FnOk P w K mg base CX0 1 fc fdc ["_law_script", "_law_k"] (spCell' K) := ok_cell Fc ml
  have Gb : FnOk P w K mg base CX0 1 fb fdb ["_law_cell_here"] spBox := ok_box Fb mmx
  have GT : FnOk P w K mg base CX0 1 fT fdT ["_law_box_here", "_law_many"] spTake := ok_take FT
  refine FnG.of_body F scLaw (fun vs H Q E h => ?_) (fun cdv A outer s H vs Q E hg hr h => ?_)
  · obtain ⟨a, ns, rfl, _⟩ := h
    rfl
  · obtain ⟨a, ns, rfl, hS, hl, hT, q⟩ := h
    have hr1 := hr.mono (show 1 ≤ 7 by decide)
    have hr2 := hr.mono (show 2 ≤ 7 by decide)
    have hr3 := hr.mono (show 3 ≤ 7 by decide)
    obtain ⟨tz, pz, qz⟩ := tail4 (P := P) (w := w) (base := base) (outer := outer) (H := H) (E := E) (cdv := cdv) (s := s) (f := f) GR gR kR bR FT bT gT GM gM kM bM GW gW kW bW mr md hg hr
    refine ⟨_, pss_cons (ps_for PassesOwn.never rfl (pi_range1 rfl mr (pa_cons (pe_callB (call_max2 rfl) (by rfl) mmx (by decide +kernel) (pa_cons pe_int (pa_cons (pe_callB (call_min2 rfl) (by rfl) mmn (by decide +kernel)
          (pa_cons (pe_callB call_len_seq (by rfl) ml PySem.boot_len (pa_cons (pv 0) pa_nil)) (pa_cons pe_int pa_nil))) pa_nil))) pa_nil)) (pg_name (i := 1) scLaw.nd rfl (.inl rfl))
        (pss_cons (ps_set (i := 2) scLaw.nd rfl (.inr rfl) (pe_call Gb hr1 rfl gb Fb.kp bb .nil pass0 (pa_cons (pe_call Gc hr1 rfl gc Fc.kp bc .nil pass0 (pa_cons (pv 0) (pa_cons (pv 1) pa_nil))) pa_nil)))
        (pss_cons (ps_set (i := 3) scLaw.nd rfl (.inl rfl) (pe_call Gn hr3 rfl gn kn bn .nil pass0 (pa_cons (pv 2) (pa_cons pe_int pa_nil))))
        (pss_cons (ps_set (i := 4) scLaw.nd rfl (.inr rfl) (pe_slice (r := rSlL K) sl_list (pe_call GM hr2 rfl gM kM bM .nil pass0 (pa_cons (pv 2) (pa_cons (pv 3) pa_nil))) po_none (po_some
          (pe_ix (r := rIxL K) ix_list (pe_lst (pa_cons (pe_call GT hr1 rfl gT FT.kp bT .nil pass0 (pa_cons (pv 2) (pa_cons pe_int pa_nil))) (pa_cons (pe_call GT hr1 rfl gT FT.kp bT .nil pass0 (pa_cons (pv 2) (pa_cons pe_int pa_nil))) (pa_cons pe_int pa_nil))))
            (pe_call GT hr1 rfl gT FT.kp bT .nil pass0 (pa_cons (pv 2) (pa_cons pe_int pa_nil))) (fun _ _ => rfl)))))
        (pss_cons (ps_set (i := 5) scLaw.nd rfl (.inl rfl) (pe_ifExp (pt_cmpR op_eq (pe_call GT hr1 rfl gT FT.kp bT .nil pass0 (pa_cons (pv 2) (pa_cons pe_int pa_nil))) pe_int (nomark _))
          (pe_callTy call_listN (by rfl) mL2 (by decide +kernel) (pa_cons (pv 4) pa_nil)) (pe_callTy call_tuple_of (by rfl) mt (by decide +kernel) (pa_cons (pv 4) pa_nil))))
        pz)))))
      (pss_one (ps_ret pe_bl)), ?_⟩
    refine ⟨_, rfl, a, _, rfl, .inl hS, _, _, rfl, _, _, rfl, ?_⟩
    generalize hm : (if (if (8 : Int) < ((ns.map V.int).length : Int) then (8 : Int) else ((ns.map V.int).length : Int)) > 2 then (if (8 : Int) < ((ns.map V.int).length : Int) then (8 : Int) else ((ns.map V.int).length : Int)) else 2) = m
    have hm8 : 0 ≤ m ∧ m ≤ 8 := by
      rw [← hm]
      split <;> split at * <;> omega
    refine ⟨m, rfl, by omega, by omega, ?_⟩
    refine for_range (lo := 0) (n := m.toNat) (fun i σ H' => SqL K H' a (ns.map V.int) ∧ Tabs T H' ∧ ∃ x1 x2 x3 x4 x5 x6 x7 x8 x9 x10 x11 x12 : Option V, σ = [some (.ref a), x1, x2, x3, x4, x5, x6, x7, x8, x9, x10, x11, x12]) ?_ ?_ ?_
    · exact ⟨hS, hT, none, none, none, none, none, none, none, none, none, none, none, none, rfl⟩
    · rintro i σ H1 hi ⟨hS1, hT1, x1, x2, x3, x4, x5, x6, x7, x8, x9, x10, x11, x12, rfl⟩
      refine ⟨_, rfl, _, rfl, a, ns, 0 + i, rfl, hS1, by omega, by omega, fun cell => ⟨cell, rfl, fun b H2 nb s2 B2 => ?_⟩⟩
      refine ⟨_, rfl, b, 42, 0, rfl, B2, by decide, by decide, fun nl H3 ys ly yn ynd np3 e3 B3 k3 => ?_⟩
      have nnb := box_ne B2 np3
      refine ⟨_, rfl, _, rfl, b, nl, _, ys.map V.str, rfl, B3, by rw [List.length_map]; omega, .of e3, fun mp H4 vs pmv npm em4 B4 k4 => ?_⟩
      obtain ⟨us, rfl, pmu⟩ := perm_map_inv pmv ys rfl
      rw [List.length_map] at B4
      have nmp := box_ne B3 npm
      refine ⟨_, rfl, b, 8, _, rfl, B4, by omega, by decide, by decide, fun r1 H5 r10 r11 B5 k5 => ?_⟩
      refine ⟨_, rfl, b, 41, _, rfl, B5, by omega, by decide, by decide, fun r2 H6 r20 r21 B6 k6 => ?_⟩
      refine ⟨(by show 3 ≤ sizeLine; decide), fun m0 hm0 => ?_⟩
      have t7 := Same.new (o := .lst [.int r1, .int r2, .int 40]) hm0
      have em0 : (upd H6 m0 (.lst [.int r1, .int r2, .int 40])) m0 = some (.lst [.int r1, .int r2, .int 40]) := upd_same
      have nm0 := box_ne B6 hm0
      generalize upd H6 m0 (.lst [.int r1, .int r2, .int 40]) = H7 at t7 em0 ⊢
      have B7 := B6.keep fun o e => t7 _ _ e
      refine ⟨_, rfl, b, 3, _, rfl, B7, by omega, by decide, by decide, fun r3 H8 r30 r31 B8 k8 => ?_⟩
      obtain ⟨j3, rfl, hj3⟩ := draw_at (n := 3) r30 r31 rfl
      obtain ⟨j, hj, hj40⟩ : ∃ j : Nat, ([.int r1, .int r2, .int 40] : List V)[j3]? = some (.int (j : Nat)) ∧ j ≤ 40 := by
        match j3, hj3 with
        | 0, _ => exact ⟨r1.toNat, by show some (V.int r1) = _; rw [Int.toNat_of_nonneg r10], by omega⟩
        | 1, _ => exact ⟨r2.toNat, by show some (V.int r2) = _; rw [Int.toNat_of_nonneg r20], by omega⟩
        | 2, _ => exact ⟨40, rfl, by omega⟩
      have k48 : But b H4 H8 := (k5.trans k6).trans ((But.same t7).trans k8)
      refine ⟨m0, _, _, .int (j : Nat), rfl, rfl, .of (k8 _ _ nm0 em0), atI_nat hj, _, rfl, mp, _, rfl, .of (k48 _ _ nmp em4), fun rl hrl => ?_⟩
      rw [show cutV (us.map V.str) none (some (j : Int)) = (us.take j).map V.str from by rw [cutV_take, List.map_take]]
      have t9 := Same.new (o := .lst ((us.take j).map V.str)) hrl
      have er9 : (upd H8 rl (.lst ((us.take j).map V.str))) rl = some (.lst ((us.take j).map V.str)) := upd_same
      have nrb := box_ne B8 hrl
      generalize upd H8 rl (.lst ((us.take j).map V.str)) = H9 at t9 er9 ⊢
      have B9 := B8.keep fun o e => t9 _ _ e
      have k29 : But b H2 H9 := (k3.trans k4).trans (k48.trans (.same t9))
      have e39 : H9 nl = some (.lst (ys.map V.str)) := (k4.trans (k48.trans (.same t9))) _ _ nnb e3
      have ro : RowsOk (us.take j) := by
        refine ⟨?_, (List.take_sublist _ _).nodup (pmu.nodup_iff.mpr ynd), fun z hz => yn z (pmu.mem_iff.mp (List.mem_of_mem_take hz))⟩
        rw [List.length_take]
        omega
      have T9 : Tabs T H9 := Tabs.kd (hT1.ext s2) B2 (KD.but k29)
      refine ⟨_, rfl, b, 2, _, rfl, B9, by omega, by decide, by decide, fun r4 HA _ _ BA kA => ⟨rfl, _, rfl, ?_⟩⟩
      have k2A := k29.trans kA
      have erA := kA _ _ nrb er9
      have enA := kA _ _ nnb e39
      have TA : Tabs T HA := Tabs.kd (hT1.ext s2) B2 (KD.but k2A)
      have go : ∀ (hl' : Addr) (HB : Hp), Same HA HB → HandAt HB hl' (us.take j) → hl' ≠ b → ∀ De : Ends, (∀ y6 y7 y8 y9 y10 H', SqL K H' a (ns.map V.int) → Tabs T H' → De.nx [some (.ref a), some (.int (0 + (i : Nat))), some (.ref b), some (.ref nl), some (.ref rl), some (.ref hl'), y6, y7, y8, y9, y10, x11, x12] H') →
          tz De [some (.ref a), some (.int (0 + (i : Nat))), some (.ref b), some (.ref nl), some (.ref rl), some (.ref hl'), x6, x7, x8, x9, x10, x11, x12] HB := by
        intro hl' HB sB hh nhb De hD
        refine qz De _ _ _ _ _ _ _ _ _ b nl rl hl' _ ys (us.take j) HB (BA.keep fun o e => sB _ _ e) (by omega) (sB _ _ enA) nnb ly ynd yn (sB _ _ erA) nrb ro (fun z hz => pmu.mem_iff.mp (List.mem_of_mem_take hz)) hh nhb (TA.ext sB) fun y6 y7 y8 y9 y10 H' kk T' => ?_
        refine hD _ _ _ _ _ H' (sqL_nd (fun c o e nk nt => ?_) hS1) T'
        have n1 : c ≠ b := fun z => by
          rw [z, nb] at e
          cases e
        exact kk c o n1 (sB _ _ (k2A c o n1 (s2 _ _ e))) nk nt
      have done : ∀ (hl' : Addr) y6 y7 y8 y9 y10 H', SqL K H' a (ns.map V.int) → Tabs T H' → SqL K H' a (ns.map V.int) ∧ Tabs T H' ∧ ∃ z1 z2 z3 z4 z5 z6 z7 z8 z9 z10 z11 z12 : Option V, ([some (.ref a), some (.int (0 + (i : Nat))), some (.ref b), some (.ref nl), some (.ref rl), some (.ref hl'), y6, y7, y8, y9, y10, x11, x12] : L2.St) = [some (.ref a), z1, z2, z3, z4, z5, z6, z7, z8, z9, z10, z11, z12] := fun hl' y6 y7 y8 y9 y10 H' h1 h2 => ⟨h1, h2, _, _, _, _, _, _, _, _, _, _, _, _, rfl⟩
      refine ite2 (fun _ => ?_) (fun _ => ?_)
      · refine ⟨_, rfl, rl, _, rfl, .of erA, fun hl' hhl nsm => ?_⟩
        exact go hl' _ (Same.new hhl) (.inl ⟨upd_same, nsm⟩) (box_ne BA hhl) _ (done hl')
      · refine ⟨_, rfl, rl, _, rfl, .inl ⟨.of erA, fun hl' hhl => ?_⟩⟩
        exact go hl' _ (Same.new hhl) (.inr upd_same) (box_ne BA hhl) _ (done hl')
    · rintro σ H1 ⟨s1, _, x1, x2, x3, x4, x5, x6, x7, x8, x9, x10, x11, x12, rfl⟩
      exact q H1
end
end G
set_option Elab.async false
set_option linter.all false
set_option maxRecDepth 100000
set_option maxHeartbeats 2000000
/-! HK: the head's facts by a Hook of our own: methods that capture __class__, properties, instances that are called; the law's end over it. -/
namespace G
open PySem PySem.Spec PyProof.Rows L2 NdefX StX He

/-! ### defs by where they stand -/
/-- a def of the text: where it stands, its names, its statement, the names that it captures -/
structure Dp where
  at_ : PySem.W.Frag → Addr
  name : Str
  qual : Str
  st : Stmt
  clo : List Str
abbrev FnY : Type := Option (Str × Str × Arguments × FuncBody × Scope × Addr × List Str × Addr)
def fnY (K : PySem.W.Frag) (a : Addr) : FnY := match K.lookup a with
  | some ⟨_, _, .func fd, _⟩ => some (fd.name, fd.qualname, fd.params, fd.body, fd.scope, fd.globals, fd.closure.map (·.1), fd.builtins)
  | _ => none
def Dp.val (d : Dp) : FnY := some (d.name, d.qual, defArgs d.st, .stmts (defBody d.st), defScope d.st, mainGlobals, d.clo, builtinsNs)
def noneB : Value → Bool
  | .none => true
  | _ => false
/-- the def's code, no positional defaults -/
def codB (K : PySem.W.Frag) (a : Addr) (q : Str) : Bool := match K.lookup a with
  | some ⟨_, _, .func fd, _⟩ => PySem.W.codeIn K fd.code q && noneB fd.defaults
  | _ => false
def plainB (K : PySem.W.Frag) (a : Addr) (q : Str) : Bool := PySem.W.keepIn K (.ref a) && codB K a q
theorem fun_of {K : PySem.W.Frag} {a : Addr} {d : Dp} (e : fnY K a = d.val) (hc : d.clo = []) (c : plainB K a d.qual = true) : ∃ fd, Fun K d.name d.qual d.st a fd := by
  obtain ⟨kp, c2⟩ := ba c
  unfold fnY Dp.val at e
  rw [hc] at e
  unfold codB at c2
  cases q : K.lookup a with
  | none =>
    rw [q] at c2
    cases c2
  | some o =>
    obtain ⟨oc, od, dt, osl⟩ := o
    rw [q] at c2 e
    cases dt with
    | func fd =>
      obtain ⟨n1, n2, n3, n4, n5, n6, n7, n8, n9, n10, n11, n12, n13, n14, n15⟩ := fd
      have e2 : (some (n1, n2, n3, n4, n5, n6, n7.map (·.1), n15) : FnY) = some (d.name, d.qual, defArgs d.st, .stmts (defBody d.st), defScope d.st, mainGlobals, [], builtinsNs) := e
      simp only [Option.some.injEq, Prod.mk.injEq] at e2
      obtain ⟨h1, h2, h3, h4, h5, h6, h7, h8⟩ := e2
      have h7' : n7 = [] := List.map_eq_nil_iff.mp h7
      subst h1 h2 h3 h4 h5 h6 h7' h8
      have c3 : (PySem.W.codeIn K n13 d.qual && noneB n8) = true := c2
      obtain ⟨k1, k2⟩ := ba c3
      cases n8 with
      | none => exact ⟨_, ⟨oc, od, n9, n10, n11, n12, n13, n14, osl, rfl, q, k1⟩, kp⟩
      | _ => cases k2
    | _ => cases c2
/-- a def with one positional default, a thing in the heap -/
def dflD (K : PySem.W.Frag) (v : Value) : Bool := match v with
  | .ref T => (match K.lookup T with
    | some ⟨_, _, .seq its _, _⟩ => (match its.toList with
      | [.ref _] => true
      | _ => false)
    | _ => false)
  | _ => false
theorem dflD_ok {K : PySem.W.Frag} {v : Value} (h : dflD K v = true) : ∃ E : Addr, DflV K v [.ref E] := by
  unfold dflD at h
  split at h
  · rename_i T
    split at h
    · rename_i x1 x2 its n x3 ho
      split at h
      · rename_i E hE
        refine ⟨E, .inr ⟨(fun z => nomatch z), T, _, [.ref E], n, rfl, ho, ?_, .cons rfl .nil⟩⟩
        show Data.seq its n = _
        rw [← hE]
      · cases h
    · cases h
  · cases h
def codD (K : PySem.W.Frag) (a : Addr) (q : Str) : Bool := match K.lookup a with
  | some ⟨_, _, .func fd, _⟩ => PySem.W.codeIn K fd.code q && dflD K fd.defaults
  | _ => false
theorem fund_of {K : PySem.W.Frag} {a : Addr} {d : Dp} (e : fnY K a = d.val) (hc : d.clo = []) (c : (PySem.W.keepIn K (.ref a) && codD K a d.qual) = true) :
    ∃ (E : Addr) (fd : FuncData), FunD K d.name d.qual (defArgs d.st) (defBody d.st) (defScope d.st) [.ref E] [] a fd := by
  obtain ⟨kp, c2⟩ := ba c
  unfold fnY Dp.val at e
  rw [hc] at e
  unfold codD at c2
  cases q : K.lookup a with
  | none =>
    rw [q] at c2
    cases c2
  | some o =>
    obtain ⟨oc, od, dt, osl⟩ := o
    rw [q] at c2 e
    cases dt with
    | func fd =>
      obtain ⟨n1, n2, n3, n4, n5, n6, n7, n8, n9, n10, n11, n12, n13, n14, n15⟩ := fd
      have e2 : (some (n1, n2, n3, n4, n5, n6, n7.map (·.1), n15) : FnY) = some (d.name, d.qual, defArgs d.st, .stmts (defBody d.st), defScope d.st, mainGlobals, [], builtinsNs) := e
      simp only [Option.some.injEq, Prod.mk.injEq] at e2
      obtain ⟨h1, h2, h3, h4, h5, h6, h7, h8⟩ := e2
      have h7' : n7 = [] := List.map_eq_nil_iff.mp h7
      subst h1 h2 h3 h4 h5 h6 h7' h8
      have c3 : (PySem.W.codeIn K n13 d.qual && dflD K n8) = true := c2
      obtain ⟨k1, k2⟩ := ba c3
      obtain ⟨E, hE⟩ := dflD_ok k2
      exact ⟨E, _, ⟨oc, od, n8, n9, n10, n11, n12, n13, n14, osl, rfl, q, k1, hE, .inl rfl⟩, kp⟩
    | _ => cases c2
/-- a def with one keyword-only default, None -/
def kwN (K : PySem.W.Frag) (v : Value) (x : Str) : Bool := match v with
  | .ref D => eqO (PySem.W.nsIn K D x) (some (some .none))
  | _ => false
def codK (K : PySem.W.Frag) (a : Addr) (q x : Str) : Bool := match K.lookup a with
  | some ⟨_, _, .func fd, _⟩ => PySem.W.codeIn K fd.code q && (noneB fd.defaults && kwN K fd.kwdefaults x)
  | _ => false
theorem funk_of {K : PySem.W.Frag} {a : Addr} {d : Dp} {x : Str} (e : fnY K a = d.val) (hc : d.clo = []) (c : (PySem.W.keepIn K (.ref a) && codK K a d.qual x) = true) :
    ∃ fd : FuncData, FunD K d.name d.qual (defArgs d.st) (defBody d.st) (defScope d.st) [] [(x, .non)] a fd := by
  obtain ⟨kp, c2⟩ := ba c
  unfold fnY Dp.val at e
  rw [hc] at e
  unfold codK at c2
  cases q : K.lookup a with
  | none =>
    rw [q] at c2
    cases c2
  | some o =>
    obtain ⟨oc, od, dt, osl⟩ := o
    rw [q] at c2 e
    cases dt with
    | func fd =>
      obtain ⟨n1, n2, n3, n4, n5, n6, n7, n8, n9, n10, n11, n12, n13, n14, n15⟩ := fd
      have e2 : (some (n1, n2, n3, n4, n5, n6, n7.map (·.1), n15) : FnY) = some (d.name, d.qual, defArgs d.st, .stmts (defBody d.st), defScope d.st, mainGlobals, [], builtinsNs) := e
      simp only [Option.some.injEq, Prod.mk.injEq] at e2
      obtain ⟨h1, h2, h3, h4, h5, h6, h7, h8⟩ := e2
      have h7' : n7 = [] := List.map_eq_nil_iff.mp h7
      subst h1 h2 h3 h4 h5 h6 h7' h8
      have c3 : (PySem.W.codeIn K n13 d.qual && (noneB n8 && kwN K n9 x)) = true := c2
      obtain ⟨k1, k2⟩ := ba c3
      obtain ⟨k2, k3⟩ := ba k2
      cases n8 with
      | none =>
        cases n9 with
        | ref D =>
          refine ⟨_, ⟨oc, od, .none, .ref D, n10, n11, n12, n13, n14, osl, rfl, q, k1, .inl ⟨rfl, rfl⟩, .inr ⟨D, rfl, fun p hp => ?_⟩⟩, kp⟩
          rw [List.mem_singleton.mp hp]
          exact ⟨.none, eqO_ok k3, rfl⟩
        | _ => cases k3
      | _ => cases k2
    | _ => cases c2
/-- a method that captures __class__ -/
def celC (K : PySem.W.Frag) (cc C : Addr) : Bool := match K.lookup cc with
  | some ⟨_, _, .cell (some (.ref D)), _⟩ => decide (D = C)
  | _ => false
def cloB (K : PySem.W.Frag) (a C : Addr) : Bool := match K.lookup a with
  | some ⟨_, _, .func fd, _⟩ => (match fd.closure with
    | [(_, cc)] => celC K cc C
    | _ => false)
  | _ => false
/-- .. its code object's file -/
def filC (K : PySem.W.Frag) (c : Addr) (file : Str) : Bool := match K.lookup c with
  | some ⟨_, _, .fields vs, _⟩ => (match vs.toList[2]? with
    | some (Value.str fl _) => file == fl
    | _ => false)
  | _ => false
def filV (K : PySem.W.Frag) (v : Value) (file : Str) : Bool := match v with
  | .ref c => filC K c file
  | _ => false
def filB (K : PySem.W.Frag) (a : Addr) (file : Str) : Bool := match K.lookup a with
  | some ⟨_, _, .func fd, _⟩ => filV K fd.code file
  | _ => false
def kwV (K : PySem.W.Frag) (a : Addr) : Value := match K.lookup a with
  | some ⟨_, _, .func fd, _⟩ => fd.kwdefaults
  | _ => .none
/-- what FunX and SupOf want of the def at a, of the class at C -/
structure ClsDef (P : Program) (K : PySem.W.Frag) (d : Dp) (a C : Addr) : Prop where
  ex : ∃ (oc : Value) (od : Option Addr) (doc pm ct : Value) (an : Option Addr) (osl : Array (Option Value)) (cda cc : Addr) (oc3 : Value) (od3 : Option Addr) (sl3 : Array (Option Value)) (oc2 : Value) (od2 : Option Addr) (vs : Array Value) (sl2 : Array (Option Value)) (fl : Str) (tf : Tok),
    K.lookup a = some ⟨oc, od, .func (PySem.W.ksFn d.name d.qual (defArgs d.st) (defBody d.st) (defScope d.st) .none (kwV K a) doc pm an (.ref cda) ct cc), osl⟩ ∧ PySem.W.codeIn K (.ref cda) d.qual = true ∧
    K.lookup cc = some ⟨oc3, od3, .cell (some (.ref C)), sl3⟩ ∧ K.lookup cda = some ⟨oc2, od2, .fields vs, sl2⟩ ∧ vs.toList[2]? = some (Value.str fl tf) ∧ ((P.main.file : Str) == fl) = true
theorem clsdef_of {P : Program} {K : PySem.W.Frag} {a C : Addr} {d : Dp} (e : fnY K a = d.val) (hc : d.clo = [("__class__" : Str)]) (c : (codB K a d.qual && (cloB K a C && filB K a P.main.file)) = true) : ClsDef P K d a C := by
  obtain ⟨c1, c23⟩ := ba c
  obtain ⟨c2, c3⟩ := ba c23
  unfold fnY Dp.val at e
  rw [hc] at e
  unfold codB at c1
  unfold cloB at c2
  unfold filB at c3
  cases q : K.lookup a with
  | none =>
    rw [q] at c1
    cases c1
  | some o =>
    obtain ⟨oc, od, dt, osl⟩ := o
    rw [q] at c1 c2 c3 e
    cases dt with
    | func fd =>
      have ekw : kwV K a = fd.kwdefaults := by
        unfold kwV
        rw [q]
      obtain ⟨n1, n2, n3, n4, n5, n6, n7, n8, n9, n10, n11, n12, n13, n14, n15⟩ := fd
      have e2 : (some (n1, n2, n3, n4, n5, n6, n7.map (·.1), n15) : FnY) = some (d.name, d.qual, defArgs d.st, .stmts (defBody d.st), defScope d.st, mainGlobals, [("__class__" : Str)], builtinsNs) := e
      simp only [Option.some.injEq, Prod.mk.injEq] at e2
      obtain ⟨h1, h2, h3, h4, h5, h6, h7, h8⟩ := e2
      obtain ⟨cc, rfl⟩ : ∃ cc, n7 = [(("__class__" : Str), cc)] := by
        match n7, h7 with
        | [(y, cc)], h7 =>
          have : y = ("__class__" : Str) := by
            have h9 : [y] = [("__class__" : Str)] := h7
            exact List.head_eq_of_cons_eq h9
          exact ⟨cc, by rw [this]⟩
      subst h1 h2 h3 h4 h5 h6 h8
      have c4 : (PySem.W.codeIn K n13 d.qual && noneB n8) = true := c1
      obtain ⟨k1, k2⟩ := ba c4
      have c5 : celC K cc C = true := c2
      unfold celC at c5
      have c6 : filV K n13 P.main.file = true := c3
      obtain ⟨oc3, od3, sl3, hcell⟩ : ∃ oc3 od3 sl3, K.lookup cc = some ⟨oc3, od3, .cell (some (.ref C)), sl3⟩ := by
        split at c5
        · rename_i x1 x2 D x3 ho
          rw [of_decide_eq_true c5] at ho
          exact ⟨_, _, _, ho⟩
        · cases c5
      cases n13 with
      | ref cda =>
        have c7 : filC K cda P.main.file = true := c6
        unfold filC at c7
        obtain ⟨oc2, od2, vs, sl2, fl, tf, w1, w2, w3⟩ : ∃ oc2 od2 vs sl2 fl tf, K.lookup cda = some ⟨oc2, od2, .fields vs, sl2⟩ ∧ vs.toList[2]? = some (Value.str fl tf) ∧ ((P.main.file : Str) == fl) = true := by
          split at c7
          · rename_i x1 x2 vs x3 ho
            split at c7
            · rename_i fl tf hv
              exact ⟨_, _, vs, _, fl, tf, ho, hv, c7⟩
            · cases c7
          · cases c7
        cases n8 with
        | none =>
          refine ⟨oc, od, n10, n11, n14, n12, osl, cda, cc, oc3, od3, sl3, oc2, od2, vs, sl2, fl, tf, ?_, k1, hcell, w1, w2, w3⟩
          rw [ekw]
          exact q
        | _ => cases k2
      | _ => cases c6
    | _ => cases c1
/-- what super() rests on besides -/
def supB (K : PySem.W.Frag) (C f2 : Addr) : Bool := PySem.W.isClsIn K C && (decide (PySem.W.mroIn K C (.ref C) = some true) && (eqO (PySem.W.nsIn K cStatics "thirdparty.any") (some none) && (eqO (PySem.W.ks_superIn K C C "__init__") (some (some (.ref f2))) &&
  (decide (PySem.W.typeIn K (.ref f2) = some (.type "function")) && PySem.W.fnIn K f2))))
/-! ### properties, calls -/
def getr (K : PySem.W.Frag) (p : Addr) : Addr := match PySem.W.recIn K p "property" with
  | some (.ref g :: _) => g
  | _ => 0
def proB (K : PySem.W.Frag) (C : Addr) (f : Str) : Bool := eqO (PySem.W.findIn K (.ref C) f) (some (some (.ref (ma K C f)))) && (eqO (PySem.W.specialIn K (.ref (ma K C f)) "__get__") (some (some (.builtin "property.__get__"))) &&
  (decide (PySem.W.takesIn K (.ref (ma K C f)) = some true) && (match PySem.W.recIn K (ma K C f) "property" with
    | some (.ref _ :: _) => true
    | _ => false)))
theorem pro_ok {K : PySem.W.Frag} {C : Addr} {f : Str} (h : proB K C f = true) : PropOf K C f (ma K C f) (getr K (ma K C f)) := by
  obtain ⟨c1, c⟩ := ba h
  obtain ⟨c2, c⟩ := ba c
  obtain ⟨c3, c4⟩ := ba c
  refine ⟨eqO_ok c1, eqO_ok c2, of_decide_eq_true c3, ?_⟩
  unfold getr
  split at c4
  · rename_i g rest e
    rw [e]
    exact ⟨rest, rfl⟩
  · cases c4
def calB (K : PySem.W.Frag) (C : Addr) : Bool := eqO (PySem.W.findIn K (.ref C) "__call__") (some (some (.ref (ma K C "__call__")))) && (PySem.W.isFn K (.ref (ma K C "__call__")) && PySem.W.fnIn K (ma K C "__call__"))
theorem cal_ok {K : PySem.W.Frag} {C : Addr} (h : calB K C = true) : CallO K C (ma K C "__call__") := by
  obtain ⟨c1, c⟩ := ba h
  obtain ⟨c2, c3⟩ := ba c
  exact ⟨eqO_ok c1, c2, c3⟩
/-! ### the Hook -/
/-- what an object names, as far as the facts ask -/
def refsQ (o : Obj) : List Addr := match o.data with
  | .dict es _ => es.toList.flatMap fun e => refV e.val
  | .func fd => refV fd.code ++ (refV fd.defaults ++ (refV fd.kwdefaults ++ fd.closure.map (·.2)))
  | .cls cd => [cd.ns]
  | .fields vs => (match o.cls with
    | .type n => (match decide (n = "property") with
      | true => vs.toList.flatMap refV
      | false => [])
    | _ => [])
  | _ => []
def frL {α : Type} : List Addr → (List Addr → α) → α
  | [], k => k []
  | a :: r, k => HandSHeadRun.frNat a fun a => frL r fun r => k (a :: r)
theorem frL_eq {α : Type} : ∀ (l : List Addr) (k : List Addr → α), frL l k = k l
  | [], _ => rfl
  | a :: r, k => by
    show (HandSHeadRun.frNat a fun a => frL r fun r => k (a :: r)) = _
    rw [HandSHeadRun.frNat_eq, frL_eq r]
def lvl (g : Addr → Option Obj) (as : List Addr) : List Addr := as.flatMap fun a => match g a with
  | some o => refsQ o
  | none => []
def asQ {α : Type} (g : Addr → Option Obj) : Nat → List Addr → List Addr → (List Addr → α) → α
  | 0, fr, acc, k => k (acc ++ fr)
  | n + 1, fr, acc, k => frL (lvl g fr) fun f2 => asQ g n f2 (acc ++ fr) k
theorem asQ_ex {g : Addr → Option Obj} : ∀ (n : Nat) (fr acc : List Addr), ∃ as : List Addr, ∀ (α : Type) (k : List Addr → α), asQ g n fr acc k = k as
  | 0, fr, acc => ⟨acc ++ fr, fun _ _ => rfl⟩
  | n + 1, fr, acc => by
    obtain ⟨as, h⟩ := asQ_ex (g := g) n (lvl g fr) (acc ++ fr)
    refine ⟨as, fun α k => ?_⟩
    show (frL (lvl g fr) fun f2 => asQ g n f2 (acc ++ fr) k) = _
    rw [frL_eq]
    exact h α k
def frK {α : Type} (g : Addr → Option Obj) : List Addr → (PySem.W.Frag → α) → α
  | [], k => k []
  | a :: r, k => match g a with
    | some o => frK g r fun K => k ((a, o) :: K)
    | none => frK g r k
theorem frK_eq {α : Type} {g : Addr → Option Obj} : ∀ (as : List Addr) (k : PySem.W.Frag → α), frK g as k = k (frG g as)
  | [], _ => rfl
  | a :: r, k => by
    unfold frK frG
    rw [List.filterMap_cons]
    cases g a with
    | some o =>
      show (frK g r fun K => k ((a, o) :: K)) = _
      rw [frK_eq r]
      rfl
    | none =>
      show frK g r k = _
      rw [frK_eq r]
      rfl
abbrev AlP : Type := Bool × List FnY
abbrev Ck : Type := PySem.W.Frag → Bool
def obsP (cs : List Ck) (fn : List Dp) (K : PySem.W.Frag) : AlP := (cs.all fun c => c K, fn.map fun d => fnY K (d.at_ K))
def valP (fn : List Dp) : AlP := (true, fn.map Dp.val)
def SaysP (cs : List Ck) (fn : List Dp) (K : PySem.W.Frag) : Prop := obsP cs fn K = valP fn
def obsPG (n : Nat) (cs : List Ck) (fn : List Dp) (g : Addr → Option Obj) : AlP := asQ g n [mainGlobals, cStatics] [] fun as => frK g as fun K => obsP cs fn K
theorem obsPG_ex (n : Nat) (cs : List Ck) (fn : List Dp) (g : Addr → Option Obj) : ∃ as, obsPG n cs fn g = obsP cs fn (frG g as) := by
  obtain ⟨as, h⟩ := asQ_ex (g := g) n [mainGlobals, cStatics] []
  refine ⟨as, ?_⟩
  unfold obsPG
  rw [h, frK_eq]
def hookP (n : Nat) (cs : List Ck) (fn : List Dp) : PySem.W.Hook where
  α := AlP
  obs := fun s => obsPG n cs fn s.heap.get?
  val := fun _ => valP fn
  says := fun _ h => ∃ K : PySem.W.Frag, K.In h ∧ SaysP cs fn K
  of := fun _ s e => by
    obtain ⟨as, h⟩ := obsPG_ex n cs fn s.heap.get?
    rw [h] at e
    exact ⟨_, frG_in, e⟩
  keeps := fun _ _ _ ⟨K, hK, c⟩ k => ⟨K, PySem.W.Frag.In.keeps hK k, c⟩
theorem obsPG_eq {n : Nat} {cs : List Ck} {fn : List Dp} {g : Addr → Option Obj} {s : Shared} (h : ∀ a, g a = s.heap.get? a) : obsPG n cs fn g = (hookP n cs fn).obs s := by
  have e : g = s.heap.get? := funext h
  rw [e] <;> rfl
section
variable {cs : List Ck} {fn : List Dp} {K : PySem.W.Frag}
theorem SaysP.ck (c : SaysP cs fn K) (i : Nat) {f : Ck} (h : cs[i]? = some f := by rfl) : f K = true :=
  List.all_eq_true.mp (show (cs.all fun c => c K) = true from congrArg (fun z : AlP => z.1) c) f (List.mem_of_getElem? h)
theorem SaysP.at_ (c : SaysP cs fn K) (i : Nat) {d : Dp} (h : fn[i]? = some d := by rfl) : fnY K (d.at_ K) = d.val := by
  have e : fn.map (fun d => fnY K (d.at_ K)) = fn.map Dp.val := congrArg (fun z : AlP => z.2) c
  have e2 : (fn.map fun d => fnY K (d.at_ K))[i]? = (fn.map Dp.val)[i]? := by rw [e]
  rw [List.getElem?_map, List.getElem?_map, h] at e2
  exact Option.some.inj e2
end
/-! ### the law's end -/
theorem walk_goE {l : PySem.W.OpenLaw} {n k : Nat} {q : Program} {loose : List Str} {XP : (Str → Option Value) → Heap → Prop} {YP : World → Heap → Prop} {d : DefRec} {x : Str}
    (most : l.most = some n) (few : n ≤ sizeLine) (nodf : d.params.defaults = []) (hr : Room k callerA)
    (F : ∀ (w : World) (mg : Str → Option Value) (fa : Addr) (h : Heap), YP w h → h.Ns mainGlobals mg → mg d.name = some (.ref fa) →
      ∃ (K : PySem.W.Frag) (fd : FuncData) (sp : Sp), K.In h ∧ (∀ (s : Shared) (u : Value), BindsTo s fd ⟨[u], []⟩ [(x, u)]) ∧
        (∀ (H : Hp) (a : Addr) (ns : List Int), ns.length ≤ n → Only H → SqL K H a (ns.map V.int) → sp [.ref a] H (fun v _ => v = .bl true) fun _ _ _ => False) ∧
        ∀ base : Heap, K.In base → base.Ns mainGlobals mg → FnG l.prog w K mg base CX0 k fa fd [x] sp) :
    PySem.W.WalkO q loose XP YP l.row.toRowW d [] (fun f vs => PySem.call f vs) := by
  refine Att.attach_call most nodf
    fun w _ s₁ mg mb fa _ _ _ _ a vs ns top Y _ _ _ atF obj allInt len noG => ?_
  obtain ⟨K, fd, sp, inK, binds, hsp, keeps⟩ := F w mg fa _ Y top.T.g atF
  exact law_go inK top.T.g top.T.b top.T.builtins top.T.nolimit noG obj allInt (Nat.le_trans len few) hr keeps binds
    fun H hO hS => hsp H a ns len hO hS
end G
set_option Elab.async false
set_option linter.all false
set_option maxRecDepth 100000
set_option maxHeartbeats 2000000
/-! TK: a Hook that tells the empty tables of some code objects besides; the law's end over it. -/
namespace G
open PySem PySem.Spec PyProof.Rows L2 NdefX StX He LamX
/-- the table of the code object of the def at a -/
def tbOf (K : PySem.W.Frag) (a : Addr) : Addr := match K.lookup (cdOf K a) with
  | some ⟨_, _, .fields vs, _⟩ => (match (vs.toList[11]? : Option Value) with
    | some (.ref P) => P
    | _ => 0)
  | _ => 0
/-- the facts that a def's table wants of the written part -/
def tabB (K : PySem.W.Frag) (a : Addr) : Bool := PySem.W.codeHdIn K (cdOf K a) (tbOf K a) && !(K.lookup (tbOf K a)).isSome
abbrev AlT : Type := AlP × List (Option Obj)
def tabE : Obj := { cls := .none, data := .fields #[] }
def obsT (cs : List Ck) (fn : List Dp) (tb : List (PySem.W.Frag → Addr)) (g : Addr → Option Obj) (K : PySem.W.Frag) : AlT := (obsP cs fn K, tb.map fun t => g (tbOf K (t K)))
def valT (fn : List Dp) (tb : List (PySem.W.Frag → Addr)) : AlT := (valP fn, tb.map fun _ => some tabE)
def obsTG (n : Nat) (cs : List Ck) (fn : List Dp) (tb : List (PySem.W.Frag → Addr)) (g : Addr → Option Obj) : AlT := asQ g n [mainGlobals, cStatics] [] fun as => frK g as fun K => obsT cs fn tb g K
theorem obsTG_ex (n : Nat) (cs : List Ck) (fn : List Dp) (tb : List (PySem.W.Frag → Addr)) (g : Addr → Option Obj) : ∃ as, obsTG n cs fn tb g = obsT cs fn tb g (frG g as) := by
  obtain ⟨as, h⟩ := asQ_ex (g := g) n [mainGlobals, cStatics] []
  refine ⟨as, ?_⟩
  unfold obsTG
  rw [h, frK_eq]
/-- what the Hook says -/
def SaysT (cs : List Ck) (fn : List Dp) (tb : List (PySem.W.Frag → Addr)) (K : PySem.W.Frag) (h : Heap) : Prop := SaysP cs fn K ∧ ∀ t ∈ tb, h.get? (tbOf K (t K)) = some tabE
def hookT (n : Nat) (cs : List Ck) (fn : List Dp) (tb : List (PySem.W.Frag → Addr)) : PySem.W.Hook where
  α := AlT
  obs := fun s => obsTG n cs fn tb s.heap.get?
  val := fun _ => valT fn tb
  says := fun _ h => ∃ K : PySem.W.Frag, K.In h ∧ SaysT cs fn tb K h
  of := fun _ s e => by
    obtain ⟨as, h⟩ := obsTG_ex n cs fn tb s.heap.get?
    rw [h] at e
    obtain ⟨e1, e2⟩ := Prod.mk.inj e
    exact ⟨_, frG_in, e1, List.map_inj_left.mp e2⟩
  keeps := fun _ _ _ ⟨K, hK, c, d⟩ k => ⟨K, PySem.W.Frag.In.keeps hK k, c, fun t ht => k _ _ (d t ht)⟩
theorem obsTG_eq {n : Nat} {cs : List Ck} {fn : List Dp} {tb : List (PySem.W.Frag → Addr)} {g : Addr → Option Obj} {s : Shared} (h : ∀ a, g a = s.heap.get? a) : obsTG n cs fn tb g = (hookT n cs fn tb).obs s := by
  have e : g = s.heap.get? := funext h
  rw [e] <;> rfl
/-- nothing but the script and the tables at ts is tracked -/
def OnlyT (ts : List Addr) (H : Hp) : Prop := ∀ b, H b = none ∨ (b ∈ ts ∧ H b = some (.tbl #[])) ∨ ∃ o xs, H b = some (.frz o (.lst xs))
/-- the law's call, from the state that the top leaves, with tables -/
theorem law_goT {P : Program} {w : World} {K : PySem.W.Frag} {mg mb : Str → Option Value} {k : Nat} {fa a : Addr} {cs : List (Addr × Addr)} {fd : FuncData} {x : Str} {sp : Sp} {s₁ : Shared} {vs : List Value} {ns : List Int}
    (inK : K.In s₁.heap) (gl : s₁.heap.Ns mainGlobals mg)
    (bl : s₁.heap.Ns builtinsNs mb) (boot : ∀ y : Str, y ≠ "__name__" → mb y = bootBuiltins y)
    (lim : s₁.heap.NoLimit) (noG : s₁.gens = #[])
    (hT : ∀ p ∈ cs, s₁.heap.get? p.2 = some tabE) (nT : ∀ p ∈ cs, K.lookup p.2 = none) (C : ∀ p ∈ cs, PySem.W.codeHdIn K p.1 p.2 = true)
    (bmain : ∃ (bm : Addr) (ob : Obj), mg "__builtins__" = some (.ref bm) ∧ bm ≠ builtinsNs ∧ s₁.heap.get? bm = some ob ∧ ob.cls = .type "module" ∧ ob.dict = some builtinsNs ∧ ob.data = .plain)
    (script : s₁.heap.get? a = some { cls := .type "list", data := .seq vs.toArray })
    (allInt : IntsAre vs ns) (few : ns.length ≤ sizeLine) (hr : Room k callerA)
    (F : ∀ base : Heap, K.In base → base.Ns mainGlobals mg → (∀ p ∈ cs, TabB base mg p.1 p.2) → FnG P w K mg base CX0 k fa fd [x] sp) (hbind : ∀ (s : Shared) (u : Value), BindsTo s fd ⟨[u], []⟩ [(x, u)])
    (hsp : ∀ H : Hp, (∀ p ∈ cs, H p.2 = some (.tbl #[])) → SqL K H a (ns.map V.int) → sp [.ref a] H (fun v _ => v = .bl true) fun _ _ _ => False) :
    codeAny (model P w) callerA (.call (.ref fa) ⟨[.ref a], []⟩) (Fine s₁) s₁ := by
  have tabAt : ∀ b : Addr, b ∈ cs.map (·.2) → s₁.heap.get? b = some tabE := fun b hb => by
    obtain ⟨p, hp, e⟩ := List.mem_map.mp hb
    rw [← e]
    exact hT p hp
  have aT : a ∉ cs.map (·.2) := fun z => by
    have q := tabAt a z
    rw [script] at q
    exact nomatch (show Data.seq vs.toArray _ = Data.fields #[] from congrArg Obj.data (Option.some.inj q))
  have main : ∀ H : Hp, OnlyT (cs.map (·.2)) H → (∀ p ∈ cs, H p.2 = some (.tbl #[])) → SqL K H a (ns.map V.int) → HOk P w H s₁.heap → (∀ b, H b ≠ none → (b = a ∧ K.lookup a = none) ∨ b ∈ cs.map (·.2)) →
      codeAny (model P w) callerA (.call (.ref fa) ⟨[.ref a], []⟩) (Fine s₁) s₁ := by
    intro H hO hH hS hok hA
    have away : ∀ {b : Addr} {o : Obj}, s₁.heap.get? b = some o → (∀ us n, o.data ≠ .seq us n) → o.data ≠ .fields #[] → H b = none := fun {b o} e n1 n2 => by
      cases q : H b with
      | none => rfl
      | some u =>
        exfalso
        rcases hA b (by rw [q]; simp) with ⟨z, _⟩ | z
        · rw [z, script] at e
          rw [← Option.some.inj e] at n1
          exact n1 _ _ rfl
        · rw [tabAt b z] at e
          rw [← Option.some.inj e] at n2
          exact n2 rfl
    have nsK : ∀ {b : Addr} {m : Str → Option Value}, s₁.heap.Ns b m → (hidT s₁.heap H).Ns b m := by
      rintro b m ⟨o, es, ep, e, d, r⟩
      exact ⟨o, es, ep, hidT_get e (away e (fun us n z => by rw [d] at z; cases z) fun z => by rw [d] at z; cases z), d, r⟩
    have inB : K.In (hidT s₁.heap H) := fun b o e => hidT_get (inK b o e) (by
      cases q : H b with
      | none => rfl
      | some u =>
        exfalso
        rcases hA b (by rw [q]; simp) with ⟨e1, e2⟩ | z
        · rw [e1, e2] at e
          cases e
        · obtain ⟨p, hp, ep⟩ := List.mem_map.mp z
          rw [← ep, nT p hp] at e
          cases e)
    have hM : Mod K mg (hidT s₁.heap H) := ⟨inB, nsK gl, ⟨mb, nsK bl, boot⟩, let ⟨mc, l1, l2⟩ := lim; ⟨mc, nsK l1, l2⟩⟩
    have TB : ∀ p ∈ cs, TabB (hidT s₁.heap H) mg p.1 p.2 := fun p hp => by
      have dictNe : ∀ {b : Addr} {m : Str → Option Value}, s₁.heap.Ns b m → b ≠ p.2 := fun {b m} ⟨o, es, ep, e, d, _⟩ z => by
        rw [z, hT p hp] at e
        rw [← Option.some.inj e] at d
        cases d
      refine ⟨PySem.W.codeHd_of_K inB (C p hp), ?_, dictNe gl⟩
      obtain ⟨bm, ob, b1, b2, b3, b4, b5, b6⟩ := bmain
      refine ⟨bm, ob, b1, b2, fun z => ?_, fun z => ?_, hidT_get b3 (away b3 (fun us n z => by rw [b6] at z; cases z) fun z => by rw [b6] at z; cases z), b4, b5, b6⟩
      · obtain ⟨o, es, ep, e, d, _⟩ := gl
        rw [z, e] at b3
        rw [← Option.some.inj b3, d] at b6
        cases b6
      · rw [z, hT p hp] at b3
        rw [← Option.some.inj b3] at b6
        cases b6
    have e0 : Env0 P w K mg (hidT s₁.heap H) callerA [] s₁ H := ⟨rfl, hM, fun b o e => of_hidT e, Nat.le_of_eq (hidT_size _ _), trivial, fun b z => absurd (show b ∈ ([] : List Addr) from z) (by simp), hok, .of_eq noG⟩
    have run := (F _ inB (nsK gl) TB).go callerA [] s₁ H ⟨[.ref a], []⟩ [.ref a] [.ref a] _ _ rfl hr e0 (hbind s₁ (.ref a)) (.cons rfl .nil) (hsp H hH hS)
    refine codeAny_mono run fun r s' h => ?_
    match r, h with
    | .ok (.ret u), h =>
      obtain ⟨v, H', os, bare, un, hok', r', q⟩ := h
      obtain rfl : v = .bl true := q
      obtain rfl : u = Value.bool true := r'
      have grown : ∀ p ∈ cs, ∃ more : Array Value, s'.heap.get? p.2 = some { cls := .none, data := .fields more } := fun p hp => by
        obtain ⟨more, z⟩ := un.tbls p.2 #[] (hH p hp)
        exact ⟨_, hok' p.2 _ z⟩
      have same : ∀ b o, b ∉ cs.map (·.2) → s₁.heap.get? b = some o → s'.heap.get? b = some o := fun b o nb e => by
        rcases hO b with z | ⟨z, _⟩ | ⟨ob, xs, z⟩
        · exact un.keep b o e z (fun z => absurd (show b ∈ ([] : List Addr) from z) (by simp)) (by simp)
        · exact absurd z nb
        · obtain ⟨e1, _⟩ := hok b _ z
          obtain ⟨e2, _⟩ := hok' b _ (un.frzs b ob _ z)
          rw [e] at e1
          cases e1
          exact e2
      refine ⟨rfl, ⟨fun b o e => ?_, fun b o e => ?_⟩, os, bare⟩
      · by_cases hb : b ∈ cs.map (·.2)
        · obtain ⟨p, hp, ep⟩ := List.mem_map.mp hb
          obtain ⟨more, hm⟩ := grown p hp
          rw [← ep] at e ⊢
          rw [hT p hp] at e
          cases e
          exact .inr (.inl ⟨((PySem.W.codeHd_of_K inK (C p hp)).tab (hT p hp)).isCodeTable, rfl, #[], more, rfl, by rw [Array.empty_append]; exact hm⟩)
        · exact .inl (same b o hb e)
      · by_cases hb : b ∈ cs.map (·.2)
        · obtain ⟨p, hp, ep⟩ := List.mem_map.mp hb
          obtain ⟨more, hm⟩ := grown p hp
          rw [← ep]
          exact ⟨_, hm⟩
        · exact ⟨o, same b o hb e⟩
  let T : HO := .frz { cls := .type "list", data := .seq vs.toArray } (.lst (ns.map V.int))
  -- the tables, and the script if the written part doesn't hold it
  have over : ∀ H0 : Hp, (∀ b, H0 b = none ∨ (b = a ∧ K.lookup a = none ∧ H0 b = some T)) → SqL K (fun b => if b ∈ cs.map (·.2) then some (.tbl #[]) else H0 b) a (ns.map V.int) → codeAny (model P w) callerA (.call (.ref fa) ⟨[.ref a], []⟩) (Fine s₁) s₁ := by
    intro H0 h0 hS
    have yes : ∀ {b}, b ∈ cs.map (·.2) → (if b ∈ cs.map (·.2) then some (HO.tbl #[]) else H0 b) = some (.tbl #[]) := fun h => if_pos h
    have no : ∀ {b}, b ∉ cs.map (·.2) → (if b ∈ cs.map (·.2) then some (HO.tbl #[]) else H0 b) = H0 b := fun h => if_neg h
    refine main _ (fun b => ?_) (fun p hp => yes (List.mem_map.mpr ⟨p, hp, rfl⟩)) hS (fun b u z => ?_) fun b z => ?_
    · by_cases hb : b ∈ cs.map (·.2)
      · exact .inr (.inl ⟨hb, yes hb⟩)
      · rcases h0 b with e | ⟨_, _, e⟩
        · exact .inl ((no hb).trans e)
        · exact .inr (.inr ⟨_, _, (no hb).trans e⟩)
    · by_cases hb : b ∈ cs.map (·.2)
      · have z' := (yes hb).symm.trans z
        cases z'
        exact tabAt b hb
      · have z' := (no hb).symm.trans z
        rcases h0 b with e | ⟨eb, _, e⟩
        · rw [e] at z'
          cases z'
        · rw [e] at z'
          cases z'
          rw [eb]
          exact ⟨script, by rw [List.length_map]; exact few, vs, _, vals_ints allInt, script⟩
    · by_cases hb : b ∈ cs.map (·.2)
      · exact .inr hb
      · rcases h0 b with e | ⟨eb, ek, _⟩
        · exact absurd ((no hb).trans e) z
        · exact .inl ⟨eb, ek⟩
  cases hk : K.lookup a with
  | some o =>
    have e := inK a o hk
    rw [script] at e
    cases e
    refine over (fun _ => none) (fun _ => .inl rfl) (.inr ⟨_, vs.toArray, _, hk, rfl, rfl, rfl, ?_, ?_⟩)
    · rw [List.size_toArray, allInt.length]
      exact few
    · simpa using vals_ints allInt
  | none =>
    refine over (upd (fun _ => none) a T) (fun b => ?_) (.inl (.inr ⟨_, (if_neg aT).trans upd_same⟩))
    by_cases h : b = a
    · exact .inr ⟨h, hk, by rw [h]; exact upd_same⟩
    · exact .inl (upd_ne h)
/-- the row's walk, with tables -/
theorem walk_goT {l : PySem.W.OpenLaw} {n k : Nat} {q : Program} {loose : List Str} {XP : (Str → Option Value) → Heap → Prop} {YP : World → Heap → Prop} {d : DefRec} {x : Str}
    (most : l.most = some n) (few : n ≤ sizeLine) (nodf : d.params.defaults = []) (hr : Room k callerA)
    (F : ∀ (w : World) (mg : Str → Option Value) (fa : Addr) (h : Heap), YP w h → h.Ns mainGlobals mg → mg d.name = some (.ref fa) →
      ∃ (K : PySem.W.Frag) (fd : FuncData) (cs : List (Addr × Addr)) (sp : Sp), K.In h ∧ (∀ p ∈ cs, h.get? p.2 = some tabE) ∧ (∀ p ∈ cs, K.lookup p.2 = none) ∧ (∀ p ∈ cs, PySem.W.codeHdIn K p.1 p.2 = true) ∧ (∀ (s : Shared) (u : Value), BindsTo s fd ⟨[u], []⟩ [(x, u)]) ∧
        (∀ (H : Hp) (a : Addr) (ns : List Int), ns.length ≤ n → (∀ p ∈ cs, H p.2 = some (.tbl #[])) → SqL K H a (ns.map V.int) → sp [.ref a] H (fun v _ => v = .bl true) fun _ _ _ => False) ∧
        ∀ base : Heap, K.In base → base.Ns mainGlobals mg → (∀ p ∈ cs, TabB base mg p.1 p.2) → FnG l.prog w K mg base CX0 k fa fd [x] sp) :
    PySem.W.WalkO q loose XP YP l.row.toRowW d [] (fun f vs => PySem.call f vs) := by
  refine Att.attach_call most nodf
    fun w _ s₁ mg mb fa _ _ _ _ a vs ns top Y _ _ _ atF obj allInt len noG => ?_
  obtain ⟨K, fd, cs, sp, inK, hT, nT, C, binds, hsp, keeps⟩ := F w mg fa _ Y top.T.g atF
  exact law_goT inK top.T.g top.T.b top.T.builtins top.T.nolimit noG hT nT C top.T.bmain obj allInt (Nat.le_trans len few) hr keeps binds
    fun H hH hS => hsp H a ns len hH hS
end G
set_option Elab.async false
set_option linter.all false
set_option maxRecDepth 100000
set_option maxHeartbeats 8000000
/-! XA: what the top has written. -/
namespace G
open PySem PySem.Spec PyProof.Rows L2 NdefX StX LamX SkL
abbrev PX : Program := PySem.W.OpenLaw.prog PySem.Challenge.rw_listviews_k43_rows_filtered_and_ordered
def cks0 : List Ck := [
  fun K => He.Fa.ok K (.free "isinstance"),
  fun K => He.Fa.ok K (.free "int"),
  fun K => He.Fa.ok K (.free "bool"),
  fun K => He.Fa.ok K (.free "str"),
  fun K => He.Fa.ok K (.free "dict"),
  fun K => He.Fa.ok K (.free "len"),
  fun K => He.Fa.ok K (.free "all"),
  fun K => He.Fa.ok K (.free "list"),
  fun K => He.Fa.ok K (.free "range"),
  fun K => He.Fa.ok K (.free "min"),
  fun K => He.Fa.ok K (.free "max"),
  fun K => He.Fa.ok K (.free "tuple"),
  fun K => He.Fa.ok K (.free "repr"),
  fun K => He.Fa.ok K (.free "set"),
  fun K => He.Fa.ok K (.free "sorted"),
  fun K => He.Fa.ok K (.str "LETTERS" "abcdefghijklmnopqrstuvwxyz"),
  fun K => He.Fa.ok K (.int "MOST_LETTERS" 8),
  fun K => He.Fa.ok K (.int "MOST_IN_ANSWER" 3),
  fun K => He.Fa.ok K (.int "GREATEST_IN_ANSWER" 9999),
  fun K => He.Fa.ok K (.int "MOST_PLAIN_ROWS" 40),
  fun K => plainB K (He.ga K "is_integer") "is_integer",
  fun K => He.Fa.ok K (.glo "is_integer"),
  fun K => plainB K (He.ga K "is_name") "is_name",
  fun K => He.Fa.ok K (.glo "is_name"),
  fun K => plainB K (He.ga K "is_list") "is_list",
  fun K => He.Fa.ok K (.glo "is_list"),
  fun K => plainB K (He.ga K "answer_of") "answer_of",
  fun K => He.Fa.ok K (.glo "answer_of"),
  fun K => plainB K (He.ga K "is_full_answer") "is_full_answer",
  fun K => He.Fa.ok K (.glo "is_full_answer")]
def cks1 : List Ck := [
  fun K => plainB K (He.ga K "is_answer_item") "is_answer_item",
  fun K => He.Fa.ok K (.glo "is_answer_item"),
  fun K => plainB K (He.ga K "filtered") "filtered",
  fun K => He.Fa.ok K (.glo "filtered"),
  fun K => plainB K (He.ga K "ordered") "ordered",
  fun K => He.Fa.ok K (.glo "ordered"),
  fun K => plainB K (He.ga K "need_rows_with_answers") "need_rows_with_answers",
  fun K => He.Fa.ok K (.glo "need_rows_with_answers"),
  fun K => plainB K (He.ga K "answer_for") "answer_for",
  fun K => He.Fa.ok K (.glo "answer_for"),
  fun K => plainB K (He.ga K "full_answers") "full_answers",
  fun K => He.Fa.ok K (.glo "full_answers"),
  fun K => plainB K (He.ga K "_law_cell") "_law_cell",
  fun K => He.Fa.ok K (.glo "_law_cell"),
  fun K => plainB K (He.ga K "_law_box") "_law_box",
  fun K => He.Fa.ok K (.glo "_law_box"),
  fun K => plainB K (He.ga K "_law_take") "_law_take",
  fun K => He.Fa.ok K (.glo "_law_take"),
  fun K => plainB K (He.ga K "_law_mixed") "_law_mixed",
  fun K => He.Fa.ok K (.glo "_law_mixed"),
  fun K => plainB K (He.ga K "_law_names") "_law_names",
  fun K => He.Fa.ok K (.glo "_law_names"),
  fun K => plainB K (He.ga K "_law_few_answers") "_law_few_answers",
  fun K => He.Fa.ok K (.glo "_law_few_answers"),
  fun K => plainB K (He.ga K "_law_full") "_law_full",
  fun K => He.Fa.ok K (.glo "_law_full"),
  fun K => plainB K (He.ga K "_law_sorted") "_law_sorted",
  fun K => He.Fa.ok K (.glo "_law_sorted"),
  fun K => plainB K (He.ga K "_law_right") "_law_right",
  fun K => He.Fa.ok K (.glo "_law_right")]
def cks2 : List Ck := [
  fun K => plainB K (He.ga K "law") "law",
  fun K => He.Fa.ok K (.glo "law"),
  fun K => tabB K (He.ga K "ordered")]
abbrev cks : List Ck := cks0 ++ cks1 ++ cks2
def fns0 : List Dp := [
  ⟨fun K => He.ga K "is_integer", "is_integer", "is_integer", sIsInt, []⟩,
  ⟨fun K => He.ga K "is_name", "is_name", "is_name", sIsName, []⟩,
  ⟨fun K => He.ga K "is_list", "is_list", "is_list", sIsList, []⟩,
  ⟨fun K => He.ga K "answer_of", "answer_of", "answer_of", sAnsOf, []⟩,
  ⟨fun K => He.ga K "is_full_answer", "is_full_answer", "is_full_answer", sFullA, []⟩,
  ⟨fun K => He.ga K "is_answer_item", "is_answer_item", "is_answer_item", sItemA, []⟩,
  ⟨fun K => He.ga K "filtered", "filtered", "filtered", sFil, []⟩,
  ⟨fun K => He.ga K "ordered", "ordered", "ordered", sOrd, []⟩,
  ⟨fun K => He.ga K "need_rows_with_answers", "need_rows_with_answers", "need_rows_with_answers", sNeedRows, []⟩,
  ⟨fun K => He.ga K "answer_for", "answer_for", "answer_for", sAnsFor, []⟩,
  ⟨fun K => He.ga K "full_answers", "full_answers", "full_answers", sFullAs, []⟩,
  ⟨fun K => He.ga K "_law_cell", "_law_cell", "_law_cell", sCell, []⟩,
  ⟨fun K => He.ga K "_law_box", "_law_box", "_law_box", sBox, []⟩,
  ⟨fun K => He.ga K "_law_take", "_law_take", "_law_take", sTake, []⟩,
  ⟨fun K => He.ga K "_law_mixed", "_law_mixed", "_law_mixed", sMixed, []⟩,
  ⟨fun K => He.ga K "_law_names", "_law_names", "_law_names", sNames, []⟩,
  ⟨fun K => He.ga K "_law_few_answers", "_law_few_answers", "_law_few_answers", sFew, []⟩,
  ⟨fun K => He.ga K "_law_full", "_law_full", "_law_full", sFullL, []⟩,
  ⟨fun K => He.ga K "_law_sorted", "_law_sorted", "_law_sorted", sSort, []⟩,
  ⟨fun K => He.ga K "_law_right", "_law_right", "_law_right", sRight, []⟩]
def fns1 : List Dp := [
  ⟨fun K => He.ga K "law", "law", "law", sLaw, []⟩]
abbrev fns : List Dp := fns0 ++ fns1
def tbs : List (PySem.W.Frag → Addr) := [fun K => (He.ga K "ordered")]
def tabC (K : PySem.W.Frag) : List (Addr × Addr) := [(cdOf K (He.ga K "ordered"), tbOf K (He.ga K "ordered"))]
def tabT (K : PySem.W.Frag) : List (Addr × Str) := [(tbOf K (He.ga K "ordered"), lamQ)]
theorem tab_ok {K : PySem.W.Frag} (c : SaysP cks fns K) : PySem.W.codeHdIn K (cdOf K (He.ga K "ordered")) (tbOf K (He.ga K "ordered")) = true ∧ K.lookup (tbOf K (He.ga K "ordered")) = none := by
  have h : tabB K (He.ga K "ordered") = true := c.ck 62 rfl
  unfold tabB at h
  obtain ⟨h1, h2⟩ := He.ba h
  refine ⟨h1, ?_⟩
  cases e : K.lookup (tbOf K (He.ga K "ordered")) with
  | none => rfl
  | some o =>
    rw [e] at h2
    cases h2
theorem facts {w : World} {K : PySem.W.Frag} {h : Heap} {mg : Str → Option Value} {fa : Addr} (X : K.In h) (G : h.Ns mainGlobals mg) (hfa : mg "law" = some (.ref fa)) (c : SaysP cks fns K) :
    ∃ fd : FuncData, (∀ (s : Shared) (u : Value), BindsTo s fd ⟨[u], []⟩ [("_law_script", u)]) ∧ ∀ base : Heap, K.In base → base.Ns mainGlobals mg → (∀ p ∈ tabC K, TabB base mg p.1 p.2) → FnG PX w K mg base CX0 8 fa fd ["_law_script"] (spLaw K (tabT K)) := by
  have m_isinstance : mg "isinstance" = none := He.free_ok X G (c.ck 0 rfl)
  have m_int : mg "int" = none := He.free_ok X G (c.ck 1 rfl)
  have m_bool : mg "bool" = none := He.free_ok X G (c.ck 2 rfl)
  have m_str : mg "str" = none := He.free_ok X G (c.ck 3 rfl)
  have m_dict : mg "dict" = none := He.free_ok X G (c.ck 4 rfl)
  have m_len : mg "len" = none := He.free_ok X G (c.ck 5 rfl)
  have m_all : mg "all" = none := He.free_ok X G (c.ck 6 rfl)
  have m_list : mg "list" = none := He.free_ok X G (c.ck 7 rfl)
  have m_range : mg "range" = none := He.free_ok X G (c.ck 8 rfl)
  have m_min : mg "min" = none := He.free_ok X G (c.ck 9 rfl)
  have m_max : mg "max" = none := He.free_ok X G (c.ck 10 rfl)
  have m_tuple : mg "tuple" = none := He.free_ok X G (c.ck 11 rfl)
  have m_repr : mg "repr" = none := He.free_ok X G (c.ck 12 rfl)
  have m_set : mg "set" = none := He.free_ok X G (c.ck 13 rfl)
  have m_sorted : mg "sorted" = none := He.free_ok X G (c.ck 14 rfl)
  obtain ⟨tcLet, gcLet⟩ := He.str_ok X G (x := "LETTERS") (c.ck 15 rfl)
  obtain ⟨tcML, gcML⟩ := He.int_ok X G (x := "MOST_LETTERS") (c.ck 16 rfl)
  obtain ⟨tcMA, gcMA⟩ := He.int_ok X G (x := "MOST_IN_ANSWER") (c.ck 17 rfl)
  obtain ⟨tcGA, gcGA⟩ := He.int_ok X G (x := "GREATEST_IN_ANSWER") (c.ck 18 rfl)
  obtain ⟨tcMP, gcMP⟩ := He.int_ok X G (x := "MOST_PLAIN_ROWS") (c.ck 19 rfl)
  obtain ⟨fd1, F1⟩ : ∃ fd, Fun K "is_integer" "is_integer" sIsInt (He.ga K "is_integer") fd := fun_of (c.at_ 0 rfl) rfl (c.ck 20 rfl)
  have b1 := F1.binds (ps := ["value", "low", "high"]) fun _ _ _ _ _ _ us hl => match us, hl with | [_, _, _], _ => rfl
  have g1 : mg "is_integer" = some (.ref (He.ga K "is_integer")) := He.glo_ok X G (c.ck 21 rfl)
  have k1 := F1.kp
  obtain ⟨fd2, F2⟩ : ∃ fd, Fun K "is_name" "is_name" sIsName (He.ga K "is_name") fd := fun_of (c.at_ 1 rfl) rfl (c.ck 22 rfl)
  have b2 := F2.binds (ps := ["value"]) fun _ _ _ _ _ _ us hl => match us, hl with | [_], _ => rfl
  have g2 : mg "is_name" = some (.ref (He.ga K "is_name")) := He.glo_ok X G (c.ck 23 rfl)
  have k2 := F2.kp
  obtain ⟨fd3, F3⟩ : ∃ fd, Fun K "is_list" "is_list" sIsList (He.ga K "is_list") fd := fun_of (c.at_ 2 rfl) rfl (c.ck 24 rfl)
  have b3 := F3.binds (ps := ["value", "most"]) fun _ _ _ _ _ _ us hl => match us, hl with | [_, _], _ => rfl
  have g3 : mg "is_list" = some (.ref (He.ga K "is_list")) := He.glo_ok X G (c.ck 25 rfl)
  have k3 := F3.kp
  obtain ⟨fd4, F4⟩ : ∃ fd, Fun K "answer_of" "answer_of" sAnsOf (He.ga K "answer_of") fd := fun_of (c.at_ 3 rfl) rfl (c.ck 26 rfl)
  have b4 := F4.binds (ps := ["value"]) fun _ _ _ _ _ _ us hl => match us, hl with | [_], _ => rfl
  have g4 : mg "answer_of" = some (.ref (He.ga K "answer_of")) := He.glo_ok X G (c.ck 27 rfl)
  have k4 := F4.kp
  obtain ⟨fd5, F5⟩ : ∃ fd, Fun K "is_full_answer" "is_full_answer" sFullA (He.ga K "is_full_answer") fd := fun_of (c.at_ 4 rfl) rfl (c.ck 28 rfl)
  have b5 := F5.binds (ps := ["value"]) fun _ _ _ _ _ _ us hl => match us, hl with | [_], _ => rfl
  have g5 : mg "is_full_answer" = some (.ref (He.ga K "is_full_answer")) := He.glo_ok X G (c.ck 29 rfl)
  have k5 := F5.kp
  obtain ⟨fd6, F6⟩ : ∃ fd, Fun K "is_answer_item" "is_answer_item" sItemA (He.ga K "is_answer_item") fd := fun_of (c.at_ 5 rfl) rfl (c.ck 30 rfl)
  have b6 := F6.binds (ps := ["value"]) fun _ _ _ _ _ _ us hl => match us, hl with | [_], _ => rfl
  have g6 : mg "is_answer_item" = some (.ref (He.ga K "is_answer_item")) := He.glo_ok X G (c.ck 31 rfl)
  have k6 := F6.kp
  obtain ⟨fdfi, Ffi⟩ : ∃ fd, Fun K "filtered" "filtered" sFil (He.ga K "filtered") fd := fun_of (c.at_ 6 rfl) rfl (c.ck 32 rfl)
  have bfi := Ffi.binds (ps := ["rows", "answers"]) fun _ _ _ _ _ _ us hl => match us, hl with | [_, _], _ => rfl
  have gfi : mg "filtered" = some (.ref (He.ga K "filtered")) := He.glo_ok X G (c.ck 33 rfl)
  have kfi := Ffi.kp
  obtain ⟨fdor, For⟩ : ∃ fd, Fun K "ordered" "ordered" sOrd (He.ga K "ordered") fd := fun_of (c.at_ 7 rfl) rfl (c.ck 34 rfl)
  have bor := For.binds (ps := ["rows", "answers"]) fun _ _ _ _ _ _ us hl => match us, hl with | [_, _], _ => rfl
  have gor : mg "ordered" = some (.ref (He.ga K "ordered")) := He.glo_ok X G (c.ck 35 rfl)
  have kor := For.kp
  obtain ⟨fdnr, Fnr⟩ : ∃ fd, Fun K "need_rows_with_answers" "need_rows_with_answers" sNeedRows (He.ga K "need_rows_with_answers") fd := fun_of (c.at_ 8 rfl) rfl (c.ck 36 rfl)
  have bnr := Fnr.binds (ps := ["rows", "answers"]) fun _ _ _ _ _ _ us hl => match us, hl with | [_, _], _ => rfl
  have gnr : mg "need_rows_with_answers" = some (.ref (He.ga K "need_rows_with_answers")) := He.glo_ok X G (c.ck 37 rfl)
  have knr := Fnr.kp
  obtain ⟨fdaf, Faf⟩ : ∃ fd, Fun K "answer_for" "answer_for" sAnsFor (He.ga K "answer_for") fd := fun_of (c.at_ 9 rfl) rfl (c.ck 38 rfl)
  have baf := Faf.binds (ps := ["row", "answers"]) fun _ _ _ _ _ _ us hl => match us, hl with | [_, _], _ => rfl
  have gaf : mg "answer_for" = some (.ref (He.ga K "answer_for")) := He.glo_ok X G (c.ck 39 rfl)
  have kaf := Faf.kp
  obtain ⟨fdfa, Ffa⟩ : ∃ fd, Fun K "full_answers" "full_answers" sFullAs (He.ga K "full_answers") fd := fun_of (c.at_ 10 rfl) rfl (c.ck 40 rfl)
  have bfa := Ffa.binds (ps := ["rows", "answers"]) fun _ _ _ _ _ _ us hl => match us, hl with | [_, _], _ => rfl
  have gfa : mg "full_answers" = some (.ref (He.ga K "full_answers")) := He.glo_ok X G (c.ck 41 rfl)
  have kfa := Ffa.kp
  obtain ⟨fd8, F8⟩ : ∃ fd, Fun K "_law_cell" "_law_cell" sCell (He.ga K "_law_cell") fd := fun_of (c.at_ 11 rfl) rfl (c.ck 42 rfl)
  have b8 := F8.binds (ps := ["_law_script", "_law_k"]) fun _ _ _ _ _ _ us hl => match us, hl with | [_, _], _ => rfl
  have g8 : mg "_law_cell" = some (.ref (He.ga K "_law_cell")) := He.glo_ok X G (c.ck 43 rfl)
  have k8 := F8.kp
  obtain ⟨fd9, F9⟩ : ∃ fd, Fun K "_law_box" "_law_box" sBox (He.ga K "_law_box") fd := fun_of (c.at_ 12 rfl) rfl (c.ck 44 rfl)
  have b9 := F9.binds (ps := ["_law_cell_here"]) fun _ _ _ _ _ _ us hl => match us, hl with | [_], _ => rfl
  have g9 : mg "_law_box" = some (.ref (He.ga K "_law_box")) := He.glo_ok X G (c.ck 45 rfl)
  have k9 := F9.kp
  obtain ⟨fdA, FA⟩ : ∃ fd, Fun K "_law_take" "_law_take" sTake (He.ga K "_law_take") fd := fun_of (c.at_ 13 rfl) rfl (c.ck 46 rfl)
  have bA := FA.binds (ps := ["_law_box_here", "_law_many"]) fun _ _ _ _ _ _ us hl => match us, hl with | [_, _], _ => rfl
  have gA : mg "_law_take" = some (.ref (He.ga K "_law_take")) := He.glo_ok X G (c.ck 47 rfl)
  have kA := FA.kp
  obtain ⟨fdB, FB⟩ : ∃ fd, Fun K "_law_mixed" "_law_mixed" sMixed (He.ga K "_law_mixed") fd := fun_of (c.at_ 14 rfl) rfl (c.ck 48 rfl)
  have bB := FB.binds (ps := ["_law_box_here", "_law_some"]) fun _ _ _ _ _ _ us hl => match us, hl with | [_, _], _ => rfl
  have gB : mg "_law_mixed" = some (.ref (He.ga K "_law_mixed")) := He.glo_ok X G (c.ck 49 rfl)
  have kB := FB.kp
  obtain ⟨fdC, FC⟩ : ∃ fd, Fun K "_law_names" "_law_names" sNames (He.ga K "_law_names") fd := fun_of (c.at_ 15 rfl) rfl (c.ck 50 rfl)
  have bC := FC.binds (ps := ["_law_box_here", "_law_many"]) fun _ _ _ _ _ _ us hl => match us, hl with | [_, _], _ => rfl
  have gC : mg "_law_names" = some (.ref (He.ga K "_law_names")) := He.glo_ok X G (c.ck 51 rfl)
  have kC := FC.kp
  obtain ⟨fdfw, Ffw⟩ : ∃ fd, Fun K "_law_few_answers" "_law_few_answers" sFew (He.ga K "_law_few_answers") fd := fun_of (c.at_ 16 rfl) rfl (c.ck 52 rfl)
  have bfw := Ffw.binds (ps := ["_law_box_here", "_law_rows"]) fun _ _ _ _ _ _ us hl => match us, hl with | [_, _], _ => rfl
  have gfw : mg "_law_few_answers" = some (.ref (He.ga K "_law_few_answers")) := He.glo_ok X G (c.ck 53 rfl)
  have kfw := Ffw.kp
  obtain ⟨fdfl, Ffl⟩ : ∃ fd, Fun K "_law_full" "_law_full" sFullL (He.ga K "_law_full") fd := fun_of (c.at_ 17 rfl) rfl (c.ck 54 rfl)
  have bfl := Ffl.binds (ps := ["_law_answer"]) fun _ _ _ _ _ _ us hl => match us, hl with | [_], _ => rfl
  have gfl : mg "_law_full" = some (.ref (He.ga K "_law_full")) := He.glo_ok X G (c.ck 55 rfl)
  have kfl := Ffl.kp
  obtain ⟨fdso, Fso⟩ : ∃ fd, Fun K "_law_sorted" "_law_sorted" sSort (He.ga K "_law_sorted") fd := fun_of (c.at_ 18 rfl) rfl (c.ck 56 rfl)
  have bso := Fso.binds (ps := ["_law_rows", "_law_answers"]) fun _ _ _ _ _ _ us hl => match us, hl with | [_, _], _ => rfl
  have gso : mg "_law_sorted" = some (.ref (He.ga K "_law_sorted")) := He.glo_ok X G (c.ck 57 rfl)
  have kso := Fso.kp
  obtain ⟨fdri, Fri⟩ : ∃ fd, Fun K "_law_right" "_law_right" sRight (He.ga K "_law_right") fd := fun_of (c.at_ 19 rfl) rfl (c.ck 58 rfl)
  have bri := Fri.binds (ps := ["_law_rows", "_law_handed", "_law_bools", "_law_answers"]) fun _ _ _ _ _ _ us hl => match us, hl with | [_, _, _, _], _ => rfl
  have gri : mg "_law_right" = some (.ref (He.ga K "_law_right")) := He.glo_ok X G (c.ck 59 rfl)
  have kri := Fri.kp
  obtain ⟨fdL, FL⟩ : ∃ fd, Fun K "law" "law" sLaw (He.ga K "law") fd := fun_of (c.at_ 20 rfl) rfl (c.ck 60 rfl)
  have bL := FL.binds (ps := ["_law_script"]) fun _ _ _ _ _ _ us hl => match us, hl with | [_], _ => rfl
  have gL : mg "law" = some (.ref (He.ga K "law")) := He.glo_ok X G (c.ck 61 rfl)
  have kL := FL.kp
  have e := hfa.symm.trans gL
  cases e
  obtain ⟨_, _, _, _, _, _, _, _, _, hfd, _, _⟩ := FL.ex
  refine ⟨fdL, fun s u => by rw [hfd]; exact .of_eq rfl, fun base _ _ TB => ?_⟩
  have O1 : FnOk PX w K mg base CX0 1 _ _ ["value", "low", "high"] spIsInt := ok_isint F1 m_isinstance m_int m_bool
  have O2 : FnOk PX w K mg base CX0 1 _ _ ["value"] spIsName := ok_isname F2 gcML gcLet m_isinstance m_str m_len m_all
  have O3 : FnOk PX w K mg base CX0 1 _ _ ["value", "most"] (spIsList K) := ok_islist F3 m_isinstance m_len m_list m_tuple
  have O6 : FnOk PX w K mg base CX0 2 _ _ ["value"] spItemA := ok_itemA F6 O1 g1 k1 b1 gcGA
  have O5 : FnOk PX w K mg base CX0 3 _ _ ["value"] spFullA := ok_fullA F5 O6 g6 k6 b6 gcMA m_isinstance m_tuple m_len m_all
  have O4 : FnOk PX w K mg base CX0 4 _ _ ["value"] spAnsOf := ok_ansOf F4 O5 g5 k5 b5 O6 g6 k6 b6
  have Onr : FnOk PX w K mg base CX0 2 _ _ ["rows", "answers"] (spNeedRows K) := ok_needrows Fnr O3 g3 k3 b3 O2 g2 k2 b2 gcMP m_isinstance m_len m_all m_set m_dict
  have Oaf : FnOk PX w K mg base CX0 1 _ _ ["row", "answers"] spAnsFor := ok_ansFor Faf
  have Ofa : FnOk PX w K mg base CX0 5 _ _ ["rows", "answers"] (spFullAs K) := ok_fullAs Ffa Onr gnr knr bnr O4 g4 k4 b4 Oaf gaf kaf baf
  have Ofi : FnOk PX w K mg base CX0 3 _ _ ["rows", "answers"] (spFil K) := ok_fil Ffi Onr gnr knr bnr Oaf gaf kaf baf m_isinstance m_bool
  have Oor : FnOk PX w K mg base CX0 6 _ _ ["rows", "answers"] (spOrd K (tabT K)) := ok_ord For (TB _ List.mem_cons_self) List.mem_cons_self (fun p hp _ => by rw [List.mem_singleton.mp hp]) Ofa gfa kfa bfa m_sorted
  have Nn : FnOk PX w K mg base CX0 3 _ _ ["_law_box_here", "_law_many"] spNamesD := ok_namesD FC FA bA gA FB bB gB m_len m_list m_range
  have Nm : FnOk PX w K mg base CX0 2 _ _ ["_law_box_here", "_law_some"] (spMixR K) := ok_mixR FB FA bA gA m_len m_list
  have Nf : FnOk PX w K mg base CX0 3 _ _ ["_law_box_here", "_law_rows"] (spFew K) := ok_few Ffw FA bA gA Nm gB kB bB
  have Nl : FnOk PX w K mg base CX0 1 _ _ ["_law_answer"] (spFullL K) := ok_fullL Ffl m_isinstance m_tuple
  have Ns : FnOk PX w K mg base CX0 2 _ _ ["_law_rows", "_law_answers"] (spSort K) := ok_sort Fso Nl gfl kfl bfl m_len
  have Nr : FnG PX w K mg base CX0 7 _ _ ["_law_rows", "_law_handed", "_law_bools", "_law_answers"] (spRight K (tabT K)) := ok_right Fri Ofi gfi kfi bfi Oor gor kor bor Ns gso kso bso m_range m_repr
  exact ok_law FL F8 b8 g8 F9 b9 g9 FA bA gA kC bC gC Nn Nr gri kri bri Nm gB kB bB Nf gfw kfw bfw m_range m_max m_min m_len m_list m_tuple m_dict
end G
set_option Elab.async false
set_option linter.all false
set_option maxRecDepth 100000
set_option maxHeartbeats 8000000
/-! XB: the top's run. -/
namespace G
open PySem PySem.Spec PyProof.Rows L2 NdefX StX LamX SkL
abbrev hk : PySem.W.Hook := hookT 5 cks fns tbs
def ob (s : PySem.W.SharedT) : AlT := obsTG 5 cks fns tbs (HandSHeadRun.getT s)
theorem ob_eq (s : PySem.W.SharedT) : ob s = hk.obs s.abs := obsTG_eq (HandSHeadRun.getT_eq s)
def loose0 : List Str := ["BoardError", "MissingError", "InvalidAnswer", "InvalidRows", "UnknownRow", "LETTERS", "MOST_LETTERS", "MOST_IN_ANSWER", "GREATEST_IN_ANSWER", "is_integer", "is_name", "is_list", "answer_of", "is_full_answer", "is_answer_item", "MOST_PLAIN_ROWS", "filtered", "ordered", "need_rows_with_answers", "answer_for", "full_answers", "_law_cell", "_law_box", "_law_take", "_law_mixed", "_law_names", "_law_few_answers", "_law_full", "_law_sorted", "_law_right"]
abbrev looseX : List Str := loose0
theorem run (w : World) : HandSHeadRun.RunEq (PySem.W.OpenLaw.row PySem.Challenge.rw_listviews_k43_rows_filtered_and_ordered) (PySem.W.view PX [34]) hk ob 20000 looseX w := by
  intro os
  kernel_rfl
end G
set_option Elab.async false
set_option linter.all false
set_option maxRecDepth 100000
set_option maxHeartbeats 8000000
/-! XC: the end. -/
open PySem PySem.W PySem.Calls PyProof.Rows
set_option maxRecDepth 100000 in
set_option maxHeartbeats 0 in
theorem PySem.Challenge.cw_listviews_k43_rows_filtered_and_ordered_holds : PySem.Challenge.rw_listviews_k43_rows_filtered_and_ordered.Holds := by
  w_on; o_law
  refine HandSHeadRun.head_any (r := OpenLaw.row PySem.Challenge.rw_listviews_k43_rows_filtered_and_ordered) (q := view (OpenLaw.row PySem.Challenge.rw_listviews_k43_rows_filtered_and_ordered).prog [34]) (H := G.hk) (ob := G.ob) (M := 20000) (loose := G.looseX) (d := HandSHeadRun.topDef (OpenLaw.row PySem.Challenge.rw_listviews_k43_rows_filtered_and_ordered).prog 34) (kwd := []) G.ob_eq
    (by kernel_rfl) (fun s => by kernel_rfl) G.run (by kernel_rfl) (by kernel_rfl) (by kernel_rfl) (by rfl) (by first | assumption | decide +kernel) (by decide +kernel) ⟨rfl, rfl, rfl, rfl, rfl, by decide +kernel⟩ ?hw ?hc
  case hw => w_witness2
  case hc =>
    refine G.walk_goT (l := PySem.Challenge.rw_listviews_k43_rows_filtered_and_ordered) (n := 63) (k := 8) (x := "_law_script") rfl (by decide) (by kernel_rfl) ⟨rfl, by decide, by decide⟩ ?F
    intro w mg fa h Y GX hmg0
    obtain ⟨K, KX, c, dt⟩ := Y
    have hmg : mg ("law" : PySem.Str) = some (.ref fa) := by
      have e : (HandSHeadRun.topDef (OpenLaw.row PySem.Challenge.rw_listviews_k43_rows_filtered_and_ordered).prog 34).name = ("law" : PySem.Str) := by kernel_rfl
      rw [← e]
      exact hmg0
    obtain ⟨fd, hb, hF⟩ := G.facts (w := w) KX GX hmg c
    obtain ⟨t1, t2⟩ := G.tab_ok c
    refine ⟨K, fd, G.tabC K, G.spLaw K (G.tabT K), KX, fun p hp => ?_, fun p hp => ?_, fun p hp => ?_, hb, fun H a ns hl hH hS => ⟨a, ns, rfl, hS, hl, fun p hp => ?_, fun _ => rfl⟩, hF⟩
    · rw [List.mem_singleton.mp hp]
      exact dt _ List.mem_cons_self
    · rw [List.mem_singleton.mp hp]
      exact t2
    · rw [List.mem_singleton.mp hp]
      exact t1
    · rw [List.mem_singleton.mp hp]
      exact LamX.TabS.nil (hH _ List.mem_cons_self)
