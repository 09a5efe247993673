import PyProof.Rows.All
import Wide.All
import OpenK.AllK
import Wide.FinOn
import HandS.ForMost
import HandS.ForExc
import HandS.ExcInit
import HandS.ExcField
import HandS.TryMany
import HandS.IsInst
import HandS.Wide
import HandS.Small
import HandS.RaiseMore
import PyProof.ReprRoads
import HandS.StrMore
import HandS.Walk
import KE.KSuper
import HandS.ClsMeth
import HandS.Nested
import HandS.More
import HandS.Defaults
import HandS.MakeKwOnly
import PyProof.InstNe
import HandS.SlotsOwn
import HandS.Words
import HandS.NamedTupSort
import KE.KOpsOwn
import HandS.Star
import HandS.MethStar
import OpenK.KMake
import KE.KOwnIter
import HandS.IterVal
import HandS.List
import HandS.TupSets
import HandS.DeepEq
import PyProof.CallFns
import HandS.SetKeys
import HandS.Strs
import HandS.Conv
import HandS.DictTup
import PyProof.DictMoreH
import HandS.DictComp
import KE.SortKeyHeap
import KE.KLam
import HandS.Base
import HandS.Call
import HandS.Dict
import HandS.Lambda
import HandS.SortKw
import PyProof.TupleOfSeq
import HandS.EndTab
import KE.DataCmp
import KE.SortData
import KE.KeyNested
import HandS.Deep
import KE.DataMinMax
import HandS.SortInts
import HandS.Finally
import KE.KDictCopyH
import KE.KDictPairs
import PyProof.DictUpdate
import HandS.Property
import HandS.Head0
import HandS.Head1
import HandS.Head2
import HandS.HeadHook1
import HandS.HeadHook2
import KE.KNestM
import HandS.HeadHook3
import PySem.Challenge.RW_listviews_k48_whole_single_operations
set_option Elab.async false
set_option linter.all false
set_option maxRecDepth 100000
set_option maxHeartbeats 2000000
/-! G1: what a def keeps where no guard is under way; repr of data at any depth, dicts too. -/
namespace G
open PySem PySem.Spec PyProof.Rows L2

/-! ### how long a shown text is -/
mutual
def mass : PyData → Nat
  | .none => 4
  | .bool _ => 5
  | .int _ => 1921
  | .str x => (reprText x).length
  | .list xs => 3 + massAll xs
  | .tuple xs => 4 + massAll xs
  | .dict kvs => 3 + massKv kvs
def massAll : List PyData → Nat
  | [] => 0
  | x :: xs => mass x + 2 + massAll xs
def massKv : List (PyData × PyData) → Nat
  | [] => 0
  | (k, v) :: r => mass k + mass v + 4 + massKv r
end
theorem text_from_le : ∀ (ts : List Str) (k : Nat) (acc : Str), (textFrom k acc ts).length ≤ acc.length + piled ts
  | [], k, acc => by
    show acc.length ≤ acc.length + 0
    omega
  | t :: r, k, acc => by
    have h1 := text_from_le r (k + 1) (acc ++ (if k > 0 then ", " else "" : String) ++ t)
    rw [strLen_append, strLen_append] at h1
    have h2 : (((if k > 0 then ", " else "" : String) : Str)).length ≤ 2 := by
      split <;> decide
    show (textFrom (k + 1) _ r).length ≤ _
    rw [piled_cons]
    omega
theorem list_text_le (ts : List Str) : (listText ts).length ≤ 3 + piled ts := by
  unfold listText
  rw [strLen_append]
  have h1 := text_from_le ts 0 "["
  have e1 : ((("[" : String) : Str)).length = 1 := rfl
  have e2 : ((("]" : String) : Str)).length = 1 := rfl
  rw [e1] at h1
  rw [e2]
  omega
theorem join_le (ts : List Str) : (Str.join ", " ts).length ≤ piled ts := by
  by_cases h : ts = []
  · subst h
    exact Nat.le_refl 0
  · have := join_length_add ts h
    omega
theorem tuple_text_le (ts : List Str) : (tupleText ts).length ≤ 4 + piled ts := by
  unfold tupleText
  rw [strLen_append, strLen_append]
  have h1 := join_le ts
  have e1 : ((("(" : String) : Str)).length = 1 := rfl
  have e3 : (((if ts.length == 1 then ",)" else ")" : String) : Str)).length ≤ 2 := by split <;> decide
  rw [e1]
  omega
theorem dict_text_le (ts : List Str) : (dictText ts).length ≤ 3 + piled ts := by
  unfold dictText
  rw [strLen_append, strLen_append]
  have h1 := join_le ts
  have e1 : ((("{" : String) : Str)).length = 1 := rfl
  have e3 : ((("}" : String) : Str)).length = 1 := rfl
  rw [e1, e3]
  omega
mutual
theorem shown_le : ∀ d : PyData, d.showable = true → d.shown.length ≤ mass d
  | .none, _ => by decide
  | .bool b, _ => by cases b <;> decide
  | .int i, h => by
    have h' : i.natAbs.log2 < 1920 := by simpa [PyData.showable] using h
    have h2 := int_text_length_le (by decide) h'
    show (Str.ofString (toString i)).length ≤ 1921
    rw [PySem.ofString_length]
    exact h2
  | .str x, _ => by
    simp only [PyData.shown, mass]
    exact Nat.le_refl _
  | .list xs, h => by
    have h' : PyData.showableAll xs = true := by simpa [PyData.showable] using h
    have h1 := list_text_le (PyData.shownAll xs)
    have h2 := shown_all_le xs h'
    simp only [PyData.shown, mass]
    omega
  | .tuple xs, h => by
    have h' : PyData.showableAll xs = true := by simpa [PyData.showable] using h
    have h1 := tuple_text_le (PyData.shownAll xs)
    have h2 := shown_all_le xs h'
    simp only [PyData.shown, mass]
    omega
  | .dict kvs, h => by
    have h' : PyData.showableKv kvs = true := by simpa [PyData.showable] using h
    have h1 := dict_text_le (PyData.shownKv kvs)
    have h2 := shown_kv_le kvs h'
    simp only [PyData.shown, mass]
    omega
theorem shown_all_le : ∀ xs : List PyData, PyData.showableAll xs = true → piled (PyData.shownAll xs) ≤ massAll xs
  | [], _ => by
    simp only [PyData.shownAll, massAll, piled_nil]
    exact Nat.le_refl _
  | x :: xs, h => by
    simp only [PyData.showableAll, Bool.and_eq_true] at h
    have h1 := shown_le x h.1
    have h2 := shown_all_le xs h.2
    simp only [PyData.shownAll, massAll, piled_cons]
    omega
theorem shown_kv_le : ∀ xs : List (PyData × PyData), PyData.showableKv xs = true → piled (PyData.shownKv xs) ≤ massKv xs
  | [], _ => by
    simp only [PyData.shownKv, massKv, piled_nil]
    exact Nat.le_refl _
  | (k, v) :: xs, h => by
    simp only [PyData.showableKv, Bool.and_eq_true] at h
    have h1 := shown_le k h.1.1
    have h2 := shown_le v h.1.2
    have h3 := shown_kv_le xs h.2
    have e : (((": " : String) : Str)).length = 2 := rfl
    simp only [PyData.shownKv, massKv, piled_cons, strLen_append, e]
    omega
end

/-! ### data that stands in the heap: lists, tuples, dicts by int and text keys -/
mutual
inductive Rp (K : PySem.W.Frag) (H : Hp) : V → PyData → Prop
  | non : Rp K H .non .none
  | bl (b : Bool) : Rp K H (.bl b) (.bool b)
  | int (i : Int) : Rp K H (.int i) (.int i)
  | str (x : Str) : Rp K H (.str x) (.str x)
  | lst {a : Addr} {xs : List V} {ds : List PyData} : H a = some (.lst xs) → RpAll K H xs ds → Rp K H (.ref a) (.list ds)
  | tup {a : Addr} {xs : List V} {ds : List PyData} : H a = some (.tup xs) → RpAll K H xs ds → Rp K H (.ref a) (.tuple ds)
  | dic {a : Addr} {kvs : List (Key × V)} {ds : List (PyData × PyData)} : H a = some (.dK kvs) → RpAll K H (kvs.map fun p => kV p.1) (ds.map (·.1)) → RpAll K H (kvs.map (·.2)) (ds.map (·.2)) → Rp K H (.ref a) (.dict ds)
inductive RpAll (K : PySem.W.Frag) (H : Hp) : List V → List PyData → Prop
  | nil : RpAll K H [] []
  | cons {v : V} {vs : List V} {d : PyData} {ds : List PyData} : Rp K H v d → RpAll K H vs ds → RpAll K H (v :: vs) (d :: ds)
end

/-! ### .. and how it is read -/
mutual
/-- no list in it: each address that a reading of it counts is a dict's -/
def okS : PyData → Bool
  | .none | .bool _ | .int _ | .str _ => true
  | .list _ => false
  | .tuple xs => okSAll xs
  | .dict kvs => okSKv kvs
def okSAll : List PyData → Bool
  | [] => true
  | x :: xs => okS x && okSAll xs
def okSKv : List (PyData × PyData) → Bool
  | [] => true
  | (k, v) :: r => okS k && okS v && okSKv r
end
theorem okSKv_split : ∀ {kvs : List (PyData × PyData)}, okSKv kvs = true → okSAll (kvs.map (·.1)) = true ∧ okSAll (kvs.map (·.2)) = true
  | [], _ => ⟨rfl, rfl⟩
  | (k, v) :: r, h => by
    simp only [okSKv, Bool.and_eq_true] at h
    obtain ⟨h1, h2⟩ := okSKv_split h.2
    simp only [List.map_cons, okSAll, Bool.and_eq_true]
    exact ⟨⟨h.1.1, h1⟩, h.1.2, h2⟩
theorem pairs_vals {P : Program} {w : World} : ∀ {kvs : List (Key × V)} {vs : List (Key × Value)} {es : List DictEntry}, KV kvs vs → Pairs (mixKind P w) es vs →
    Vals (kvs.map fun p => kV p.1) (es.map (·.key)) ∧ Vals (kvs.map (·.2)) (es.map (·.val))
  | _, _, _, .nil, .nil => ⟨.nil, .nil⟩
  | _, _, _, .cons r t, .cons hk hv p => by
    obtain ⟨h1, h2⟩ := pairs_vals t p
    refine ⟨.cons ?_ h1, .cons ?_ h2⟩
    · dsimp only
      rw [r.1]
      rcases keyIs_shape hk with ⟨i, tk, e1, e2⟩ | ⟨x, tk, e1, e2⟩
      · rw [e1, e2]
        exact ⟨tk, rfl⟩
      · rw [e1, e2]
        exact ⟨tk, rfl⟩
    · dsimp only
      rw [hv]
      exact r.2
section
variable {X : Cx} {pins : List (Addr × Obj)} {σ : L2.St} {H : Hp} {s : Shared}
mutual
theorem rp_reads (I : Inv X pins σ H s) : ∀ (d : PyData) (v : V) (u : Value), Rp X.K H v d → RelV v u → ∃ as, Reads s.heap u d as ∧ (okS d = true → sysModules ∉ as)
  | .none, _, _, h, r => by
    cases h
    cases r
    exact ⟨_, Reads.none, fun _ => by simp⟩
  | .bool b, _, _, h, r => by
    cases h
    cases r
    exact ⟨_, Reads.bool b, fun _ => by simp⟩
  | .int i, _, _, h, r => by
    cases h
    obtain ⟨t, rfl⟩ := r
    exact ⟨_, Reads.int i t, fun _ => by simp⟩
  | .str x, _, _, h, r => by
    cases h
    obtain ⟨t, rfl⟩ := r
    exact ⟨_, Reads.str x t, fun _ => by simp⟩
  | .list ds, _, _, h, r => by
    cases h with
    | lst hs ha =>
      cases r
      obtain ⟨its, rv, ⟨o, n, ho, hc, _, hd⟩, _⟩ := I.list (.of hs)
      obtain ⟨as, hr, _⟩ := rp_readsAll I ds _ its ha rv
      exact ⟨_, Reads.list ho hc hd hr, fun z => by simp [okS] at z⟩
  | .tuple ds, _, _, h, r => by
    cases h with
    | tup hs ha =>
      cases r
      obtain ⟨its, rv, ⟨o, ho, hc, n, hd⟩, _⟩ := I.tuple (.of hs)
      obtain ⟨as, hr, q⟩ := rp_readsAll I ds _ its ha rv
      exact ⟨_, Reads.tuple ho hc hd hr, fun z => q (by simpa [okS] using z)⟩
  | .dict ds, _, _, h, r => by
    cases h with
    | dic hs hk hv =>
      cases r
      obtain ⟨_, hm, vs, rel, o, es, ep, e1, e2, e3, e4, e5, e6⟩ := I.hok _ _ hs
      obtain ⟨r1, r2⟩ := pairs_vals rel e5
      obtain ⟨as, q1, z1⟩ := rp_readsKeys I ds _ _ hk r1
      obtain ⟨bs, q2, z2⟩ := rp_readsVals I ds _ _ hv r2
      refine ⟨_, Reads.dict e1 e2.1 e3 q1 q2, fun z => ?_⟩
      have hz : okSKv ds = true := by simpa [okS] using z
      obtain ⟨k1, k2⟩ := okSKv_split hz
      have hm' := beq_eq_false_iff_ne.mp hm
      intro hin
      rcases List.mem_cons.mp hin with hx | hx
      · exact hm' hx.symm
      · rcases List.mem_append.mp hx with hx | hx
        · exact z1 k1 hx
        · exact z2 k2 hx
theorem rp_readsAll (I : Inv X pins σ H s) : ∀ (ds : List PyData) (vs : List V) (us : List Value), RpAll X.K H vs ds → Vals vs us → ∃ as, ReadsAll s.heap us ds as ∧ (okSAll ds = true → sysModules ∉ as)
  | [], _, _, h, r => by
    cases h
    cases r
    exact ⟨_, ReadsAll.nil, fun _ => by simp⟩
  | d :: ds, _, _, h, r => by
    cases h with
    | cons h1 h2 =>
      cases r with
      | cons r1 r2 =>
        obtain ⟨as, q1, z1⟩ := rp_reads I d _ _ h1 r1
        obtain ⟨bs, q2, z2⟩ := rp_readsAll I ds _ _ h2 r2
        refine ⟨_, ReadsAll.cons q1 q2, fun z => ?_⟩
        simp only [okSAll, Bool.and_eq_true] at z
        intro hin
        rcases List.mem_append.mp hin with hx | hx
        · exact z1 z.1 hx
        · exact z2 z.2 hx
theorem rp_readsKeys (I : Inv X pins σ H s) : ∀ (ds : List (PyData × PyData)) (vs : List V) (us : List Value), RpAll X.K H vs (ds.map (·.1)) → Vals vs us → ∃ as, ReadsAll s.heap us (ds.map (·.1)) as ∧ (okSAll (ds.map (·.1)) = true → sysModules ∉ as)
  | [], _, _, h, r => by
    cases h
    cases r
    exact ⟨_, ReadsAll.nil, fun _ => by simp⟩
  | (d, _) :: ds, _, _, h, r => by
    cases h with
    | cons h1 h2 =>
      cases r with
      | cons r1 r2 =>
        obtain ⟨as, q1, z1⟩ := rp_reads I d _ _ h1 r1
        obtain ⟨bs, q2, z2⟩ := rp_readsKeys I ds _ _ h2 r2
        refine ⟨_, ReadsAll.cons q1 q2, fun z => ?_⟩
        simp only [List.map_cons, okSAll, Bool.and_eq_true] at z
        intro hin
        rcases List.mem_append.mp hin with hx | hx
        · exact z1 z.1 hx
        · exact z2 z.2 hx
theorem rp_readsVals (I : Inv X pins σ H s) : ∀ (ds : List (PyData × PyData)) (vs : List V) (us : List Value), RpAll X.K H vs (ds.map (·.2)) → Vals vs us → ∃ as, ReadsAll s.heap us (ds.map (·.2)) as ∧ (okSAll (ds.map (·.2)) = true → sysModules ∉ as)
  | [], _, _, h, r => by
    cases h
    cases r
    exact ⟨_, ReadsAll.nil, fun _ => by simp⟩
  | (_, d) :: ds, _, _, h, r => by
    cases h with
    | cons h1 h2 =>
      cases r with
      | cons r1 r2 =>
        obtain ⟨as, q1, z1⟩ := rp_reads I d _ _ h1 r1
        obtain ⟨bs, q2, z2⟩ := rp_readsVals I ds _ _ h2 r2
        refine ⟨_, ReadsAll.cons q1 q2, fun z => ?_⟩
        simp only [List.map_cons, okSAll, Bool.and_eq_true] at z
        intro hin
        rcases List.mem_append.mp hin with hx | hx
        · exact z1 z.1 hx
        · exact z2 z.2 hx
end
end

/-! ### repr of a list of such data -/
/-- a list at the top: its own address is not counted -/
theorem repr_top {prog : Program} {w : World} {A : Around} {E : Value → Shared → Prop} {s : Shared} {Q : Value → Shared → Prop} {a : Addr} {o : Obj} {vs : Array Value} {n : Nat} {xs : List PyData} {as : List Addr}
    (h1 : s.heap.get? a = some o) (h2 : o.cls = .type "list") (h3 : o.data = .seq vs n) (h4 : ReadsAll s.heap vs.toList xs as) (hs : PyData.showableAll xs = true) (hsm : PyData.hasDictAll xs = true → sysModules ∉ as)
    (hg : A.guards = some []) (hu : A.units + ((PyData.list xs).depth + 1) < cLine) (hsz : (listText (PyData.shownAll xs)).length ≤ sizeLine)
    (hQ : ∀ h' u tk, (∀ b o, s.heap.get? b = some o → h'.get? b = some o) → Q (.str (listText (PyData.shownAll xs)) u) { s with heap := h', toks := tk }) :
    wpAny (model prog w) A (call (.builtin "repr") [.ref a]) Q E s := by
  obtain ⟨bs, hb, hk⟩ := ReprAllK.of_readsAll (prog := prog) (w := w) h4 hs hsm (fun t ht => Nat.le_trans (listText_mem_le ht) hsz)
  have hna : a ∉ bs :=
    not_mem_of_deeper (.list h1 h2 h3 h4) (by simp only [PyData.depth]; omega) hb
  simp only [PyData.depth] at hu
  refine call_repr_slot (A := A) (by omega) (idr := "list.__repr__") (T := "list") (show s.TypeIs (.ref a) "list" from ⟨o, h1, h2⟩) F.slot_list_repr.toG ?_
  have hu1 : A.in1.units = A.units + 1 := rfl
  obtain ⟨l⟩ := vs
  cases l with
  | nil =>
    have h4' : ReadsAll s.heap [] xs as := h4
    cases h4'
    have ht := hQ s.heap
    rw [show listText (PyData.shownAll []) = ("[]" : Str) by simp only [PyData.shownAll]; exact listText_nil] at ht
    exact call_list_repr_empty ⟨o, h1, h2⟩ h1 h3 ⟨_, _, rfl, ht _ _ fun _ _ e => e⟩
  | cons x l =>
    refine call_list_reprK h1 h2 h3 hna (by simpa using hk.length_eq) (fun i y e => hk.item i y (by simpa using e)) (by exact hg) (fun b _ => Clear.nil b) (by rw [hu1]; omega) (fun _ _ e => e) (fun h' u tk k => ⟨_, _, rfl, hQ h' u tk k⟩) hsz
/-- repr(xs), xs a list of data -/
def rRepr (K : PySem.W.Frag) : List V → Hp → VK → Prop := fun vs H Q => ∃ (a : Addr) (xs : List V) (ds : List PyData), vs = [.ref a] ∧ H a = some (.lst xs) ∧ RpAll K H xs ds ∧ PyData.showableAll ds = true ∧ (PyData.hasDictAll ds = true → okSAll ds = true) ∧
  (PyData.list ds).depth ≤ 20 ∧ 3 + massAll ds ≤ sizeLine ∧ Q (.str (listText (PyData.shownAll ds))) H
theorem call_repr {X : Cx} (hg : X.A.guards = some []) (hu : X.A.units + 64 < cLine) : CallR X (.builtin "repr") (rRepr X.K) := by
  intro pins s σ H xs us Q I r h
  obtain ⟨a, ys, ds, rfl, ha, hr, hs, hd, hp, hm, q⟩ := h
  obtain rfl := Vals.ref1 r
  obtain ⟨its, rv, ⟨o, n, ho, hc, _, hdt⟩, _⟩ := I.list (.of ha)
  obtain ⟨as, q1, z1⟩ := rp_readsAll I ds _ its hr rv
  have hz := Nat.le_trans (list_text_le _) (Nat.le_trans (Nat.add_le_add_left (shown_all_le ds hs) 3) hm)
  exact repr_top ho hc hdt q1 hs (fun z => z1 (hd z)) hg (by omega) hz fun h' u tk k => ⟨.str _, H, I.kept k, ⟨u, rfl⟩, q⟩
end G
set_option Elab.async false
set_option linter.all false
set_option maxRecDepth 100000
set_option maxHeartbeats 2000000
/-! G2: a def that runs where no guard is under way, and the law's own call. -/
namespace G
open PySem PySem.Spec PyProof.Rows L2
/-- as FnOk, of arounds without guards -/
structure FnG (P : Program) (w : World) (K : PySem.W.Frag) (mg : Str → Option Value) (base : Heap) (CX : CXT) (k : Nat) (f : Addr) (fd : FuncData) (ps : List Str) (sp : Sp) : Prop where
  size : ∀ vs H Q E, sp vs H Q E → vs.length = ps.length
  go : ∀ (A : Around) (outer : List Env) (s : Shared) (H : Hp) (args : Args) (us : List Value) (vs : List V) (Q : VK) (E : XK),
    A.guards = some [] → Room k A → Env0 P w K mg base A outer s H → BindsTo s fd args (ps.zip us) → Vals vs us → sp vs H Q E → codeAny (model P w) A (.call (.ref f) args) (CR CX outer P w H s Q E) s
section
variable {P : Program} {w : World} {K : PySem.W.Frag} {mg : Str → Option Value} {base : Heap} {CX : CXT}
theorem FnG.of_body {x qual : Str} {st : Stmt} {f : Addr} {fd : FuncData} {N ps : List Str} {k : Nat} {sp : Sp} (F : Fun K x qual st f fd) (S : FnScope N ps (defScope st))
    (size : ∀ vs H Q E, sp vs H Q E → vs.length = ps.length)
    (body : ∀ (cdv : Value) (A : Around) (outer : List Env) (s : Shared) (H : Hp) (vs : List V) (Q : VK) (E : XK), A.guards = some [] →
      Room k (A.deeper (envOfC qual (defScope st) s.heap.objs.size f cdv)) → sp vs H Q E →
      ∃ t, PSs (cxOf CX P w K mg base N qual (defScope st) f cdv A outer s H E).nox (defBody st) t ∧ t { nx := fun _ H' => Q .non H', rt := Q } (start N vs) H) :
    FnG P w K mg base CX (k + 1) f fd ps sp := by
  obtain ⟨_, _, _, _, _, _, cdv, _, _, rfl, lk, hcd⟩ := F.ex
  refine ⟨size, fun A outer s H args us vs Q E hg hr e0 hb r h => ?_⟩
  have inS : K.In s.heap := e0.mod.kin.keeps fun b o e => (e0.bs b o e).1
  have noL : s.heap.NoLimit := e0.mod.nolimit.keeps fun b o e => (e0.bs b o e).1
  refine codeAny_call_function hr.depth (inS _ _ lk) rfl S.co S.gen rfl
    (PySem.W.codeRec_of inS hcd) (hb _ _ _ _ ?_)
  refine wpAny_newFunctionEnv_cells S.kind
    (fun ⟨n, v⟩ hy => ?_) fun env he s1 x => ?_
  · rcases S.par n (List.of_mem_zip hy).1 with q | q
    · exact Or.inl q
    · exact Or.inr ⟨q, PySem.W.cellsFrom_some _ _ _ (Or.inl q)⟩
  · subst he
    refine ⟨noL.keeps x.toInCall.keep, codeAny_func ?_⟩
    obtain ⟨t, ht, hq⟩ := body cdv A outer s H vs Q E hg (hr.deeper _) h
    have J := inv_start (CX := CX) (P := P) (w := w) (K := K) (mg := mg) (base := base) (E := E) S hr.hd e0 (size _ _ _ _ h) r x
    refine wpAny_mono (ht.nox.run [] s1 (start N vs) H _ J hq) (fun fl s' z => ?_) fun e s' z => z
    cases fl with
    | ret u =>
      obtain ⟨v, σ', H', J', rv, q⟩ := z
      exact ⟨v, H', J'.os, J'.bare, J'.base, J'.hok, rv, q⟩
    | next =>
      obtain ⟨σ', H', J', q⟩ := z
      exact ⟨.non, H', J'.os, J'.bare, J'.base, J'.hok, rfl, q⟩
    | brk =>
      obtain ⟨_, _, _, q⟩ := z
      exact q.elim
    | cont =>
      obtain ⟨_, _, _, q⟩ := z
      exact q.elim
end
section
variable {X : Cx} {CX : CXT} {k : Nat} {f : Addr} {fd : FuncData} {ps : List Str} {sp : Sp} {dvs : List V} {ds : List Value} {E : XK} {x : Str} {p pos : Pos} {e : Expr} {es : List Expr} {t : TA}
theorem FnG.run {pins : List (Addr × Obj)} {σ : L2.St} {H : Hp} {s : Shared} {Q : VK} {us : List Value} {vs : List V} (F : FnG X.prog X.w X.K X.mg X.base CX k f fd ps sp) (hg : X.A.guards = some []) (hr : Room k X.A) (hb : Binds X.K fd ps ds) (hd : Vals dvs ds)
    (hx : Passes CX X E) (I : Inv X pins σ H s) (r : Vals vs us) (h : sp (vs ++ dvs) H Q E) : wpAny (model X.prog X.w) X.A (call (.ref f) us) (EP X pins σ Q) X.xe s := by
  have both := r.append hd
  have size : (us ++ ds).length = ps.length := both.length.symm.trans (F.size _ _ _ _ h)
  refine wpAny_call (codeAny_mono (F.go X.A X.stack s H ⟨us, []⟩ (us ++ ds) (vs ++ dvs) Q E hg hr I.env0 (hb s us I.kIn size) both h) fun q s' z => ?_)
  match q, z with
  | .error er, z => exact hx pins σ H s er s' I z
  | .ok (.ret u), z => exact I.after z
/-- f(e, ..) -/
theorem pe_callG (F : FnG X.prog X.w X.K X.mg X.base CX k f fd ps sp) (hg : X.A.guards = some []) (hr : Room k X.A) (gl : Gl X x) (hm : X.mg x = some (.ref f)) (hk : PySem.W.keepIn X.K (.ref f) = true) (hb : Binds X.K fd ps ds) (hd : Vals dvs ds)
    (hx : Passes CX X E) (ha : PA X (e :: es) t) (hdb : (x == ("__debug__" : Str)) = false := by decide)
    (he : starEach (e :: es) X.env = (false, eval e X.env) :: starEach es X.env := by rfl) (hpl : (backTo pos (starEach es X.env)).any (·.1) = false := by rfl) : PE X (.Call (.Name x p) (e :: es) [] pos) (tCall sp dvs E t) := by
  constructor
  intro pins s σ H Q I h
  refine wpAny_Call_Name_kw (ld_glob I gl hm ?_ hdb)
  exact PySem.W.callWith_K (h₀ := X.base) I.ok.mod.kin hk
    (thn (ha.run pos pins s σ H _ I h) fun us s1 ⟨vs, H1, I1, r, q⟩ => ⟨I1.kIn, F.run hg hr hb hd hx I1 r q⟩) he hpl
end
/-- True comes out, what stood stands, nothing went in or out -/
def Fine (s : Shared) (r : Result) (s' : Shared) : Prop :=
  r = .ok (.ret (.bool true)) ∧ OldK s.heap s'.heap ∧ s'.os = s.os ∧ AllBare s'.gens
/-- the law's call, from the state that the top leaves -/
theorem law_go {P : Program} {w : World} {K : PySem.W.Frag} {mg mb : Str → Option Value} {k : Nat} {fa a : Addr} {fd : FuncData} {x : Str} {sp : Sp} {s₁ : Shared} {vs : List Value} {ns : List Int}
    (inK : K.In s₁.heap) (gl : s₁.heap.Ns mainGlobals mg)
    (bl : s₁.heap.Ns builtinsNs mb) (boot : ∀ y : Str, y ≠ "__name__" → mb y = bootBuiltins y)
    (lim : s₁.heap.NoLimit) (noG : s₁.gens = #[])
    (script : s₁.heap.get? a = some { cls := .type "list", data := .seq vs.toArray })
    (allInt : IntsAre vs ns) (few : ns.length ≤ sizeLine) (hr : Room k callerA)
    (F : ∀ base : Heap, K.In base → base.Ns mainGlobals mg → FnG P w K mg base CX0 k fa fd [x] sp) (hbind : ∀ (s : Shared) (u : Value), BindsTo s fd ⟨[u], []⟩ [(x, u)])
    (hsp : ∀ H : Hp, Only H → SqL K H a (ns.map V.int) → sp [.ref a] H (fun v _ => v = .bl true) fun _ _ _ => False) :
    codeAny (model P w) callerA (.call (.ref fa) ⟨[.ref a], []⟩)
      (Fine s₁) s₁ := by
  -- nothing but the script is tracked; if the written part holds the script, nothing at all
  have main : ∀ H : Hp, Only H → SqL K H a (ns.map V.int) → HOk P w H s₁.heap → (∀ b, H b ≠ none → b = a ∧ K.lookup a = none) →
      codeAny (model P w) callerA (.call (.ref fa) ⟨[.ref a], []⟩)
      (Fine s₁) s₁ := by
    intro H hO hS hok hA
    have nsK : ∀ {b : Addr} {m : Str → Option Value}, s₁.heap.Ns b m → (hidT s₁.heap H).Ns b m := by
      rintro b m ⟨o, es, ep, e, d, r⟩
      refine ⟨o, es, ep, hidT_get e ?_, d, r⟩
      cases q : H b with
      | none => rfl
      | some u =>
        exfalso
        have eb := (hA b (by rw [q]; simp)).1
        rw [eb, script] at e
        rw [← Option.some.inj e] at d
        cases d
    have inB : K.In (hidT s₁.heap H) := fun b o e => hidT_get (inK b o e) (by
      cases q : H b with
      | none => rfl
      | some u =>
        exfalso
        obtain ⟨e1, e2⟩ := hA b (by rw [q]; simp)
        rw [e1, e2] at e
        cases e)
    obtain ⟨mc, l1, l2⟩ := lim
    have hM : Mod K mg (hidT s₁.heap H) := ⟨inB, nsK gl, ⟨mb, nsK bl, boot⟩, ⟨mc, nsK l1, l2⟩⟩
    have e0 : Env0 P w K mg (hidT s₁.heap H) callerA [] s₁ H := ⟨rfl, hM, fun b o e => of_hidT e, Nat.le_of_eq (hidT_size _ _), trivial, fun b z => absurd (show b ∈ ([] : List Addr) from z) (by simp), hok, .of_eq noG⟩
    have run := (F _ inB (nsK gl)).go callerA [] s₁ H ⟨[.ref a], []⟩ [.ref a] [.ref a] _ _ rfl hr e0 (hbind s₁ (.ref a)) (.cons rfl .nil) (hsp H hO hS)
    refine codeAny_mono run fun r s' h => ?_
    match r, h with
    | .ok (.ret u), h =>
      obtain ⟨v, H', os, bare, un, hok', r', q⟩ := h
      obtain rfl : v = .bl true := q
      obtain rfl : u = Value.bool true := r'
      refine ⟨rfl, OldK.of_keep fun b o e => ?_, os, bare⟩
      rcases hO b with z | ⟨ob, xs, z⟩
      · exact un.keep b o e z (fun z => absurd (show b ∈ ([] : List Addr) from z) (by simp)) (by simp)
      · obtain ⟨e1, _⟩ := hok b _ z
        obtain ⟨e2, _⟩ := hok' b _ (un.frzs b ob _ z)
        rw [e] at e1
        cases e1
        exact e2
  cases hk : K.lookup a with
  | some o =>
    have e := inK a o hk
    rw [script] at e
    cases e
    refine main (fun _ => none) (fun _ => .inl rfl) (.inr ⟨_, vs.toArray, _, hk, rfl, rfl, rfl, ?_, ?_⟩) (fun b u z => nomatch z) fun b z => absurd rfl z
    · rw [List.size_toArray, allInt.length]
      exact few
    · simpa using vals_ints allInt
  | none =>
    let o : Obj := { cls := .type "list", data := .seq vs.toArray }
    let T : HO := .frz o (.lst (ns.map V.int))
    have at_a : upd (fun _ => none) a T a = some T := upd_same
    refine main (upd (fun _ => none) a T) (fun b => ?_) (.inl (.inr ⟨o, at_a⟩)) (fun b u z => ?_) fun b z => ?_
    · by_cases h : b = a
      · exact .inr ⟨o, _, by rw [h]; exact at_a⟩
      · exact .inl (upd_ne h)
    · by_cases h : b = a
      · subst h
        rw [at_a] at z
        cases z
        exact ⟨script, by rw [List.length_map]; exact few, vs, _, vals_ints allInt, script⟩
      · rw [upd_ne h] at z
        cases z
    · by_cases h : b = a
      · exact ⟨h, hk⟩
      · exact absurd (upd_ne h) z
/-- what k_head leaves, by the law's promise -/
theorem walk_go {l : PySem.W.OpenLaw} {n k : Nat} {q : Program} {loose : List Str} {XP : (Str → Option Value) → Heap → Prop} {YP : World → Heap → Prop} {d : DefRec} {K : Params → PySem.W.Frag} {sp : PySem.W.Frag → Sp} {x : Str}
    (most : l.most = some n) (few : n ≤ sizeLine)
    (nodf : d.params.defaults = []) (hr : Room k callerA)
    (hY : ∀ (w : World) (h : Heap), YP w h → (K w.params).In h)
    (F : ∀ (w : World) (mg : Str → Option Value) (fa : Addr) (h : Heap),
      (K w.params).In h → h.Ns mainGlobals mg → mg d.name = some (.ref fa) →
      ∃ fd : FuncData, (∀ (s : Shared) (u : Value), BindsTo s fd ⟨[u], []⟩ [(x, u)]) ∧ ∀ base : Heap, (K w.params).In base → base.Ns mainGlobals mg → FnG l.prog w (K w.params) mg base CX0 k fa fd [x] (sp (K w.params)))
    (hsp : ∀ (K : PySem.W.Frag) (H : Hp) (a : Addr) (ns : List Int), ns.length ≤ n → Only H → SqL K H a (ns.map V.int) → sp K [.ref a] H (fun v _ => v = .bl true) fun _ _ _ => False) :
    PySem.W.WalkO q loose XP YP l.row.toRowW d []
      (fun f vs => PySem.call f vs) := by
  refine Att.attach_call most nodf
    fun w _ s₁ mg mb fa _ _ _ _ a vs ns top Y _ _ _ atF obj allInt len noG => ?_
  have inK := hY w _ Y
  obtain ⟨fd, binds, keeps⟩ := F w mg fa _ inK top.T.g atF
  exact law_go inK top.T.g top.T.b top.T.builtins top.T.nolimit noG obj allInt (Nat.le_trans len few) hr keeps binds
    fun H hO hS => hsp _ H a ns len hO hS
end G
set_option Elab.async false
set_option linter.all false
set_option maxRecDepth 100000
set_option maxHeartbeats 2000000
/-! G3: a cell, its box, a draw from it. -/
namespace G
open PySem PySem.Spec PyProof.Rows L2
def topS (i : Nat) : Stmt := PySem.Challenge.pw_listviews_k48_whole_single_operations.main.body.getD i (.Pass ⟨0, 0, 0, 0⟩)
abbrev sCell : Stmt := topS 42
abbrev sBox : Stmt := topS 43
abbrev sTake : Stmt := topS 44
theorem scCell : FnScope ["_law_script", "_law_k"] ["_law_script", "_law_k"] (defScope sCell) := ⟨rfl, rfl, rfl, by decide +kernel, rfl, by decide +kernel, by decide +kernel⟩
theorem scBox : FnScope ["_law_cell_here"] ["_law_cell_here"] (defScope sBox) := ⟨rfl, rfl, rfl, by decide +kernel, rfl, by decide +kernel, by decide +kernel⟩
theorem scTake : FnScope ["_law_box_here", "_law_many", "_law_digit", "_law_mixed_here"] ["_law_box_here", "_law_many"] (defScope sTake) := ⟨rfl, rfl, rfl, by decide +kernel, rfl, by decide +kernel, by decide +kernel⟩
/-- all but b stands as it stood -/
def But (b : Addr) (H H' : Hp) : Prop := ∀ c o, c ≠ b → H c = some o → H' c = some o
theorem But.refl (b : Addr) (H : Hp) : But b H H := fun _ _ _ h => h
theorem But.trans {b : Addr} {H H1 H2 : Hp} (x : But b H H1) (y : But b H1 H2) : But b H H2 := fun c o n h => y c o n (x c o n h)
theorem But.upd {b : Addr} {H : Hp} {o : HO} : But b H (upd H b o) := fun c u n h => by
  rw [upd_ne n]
  exact h
theorem But.new {b p : Addr} {H : Hp} {o : HO} (h : H p = none) : But b H (L2.upd H p o) := fun c u n e => by
  rw [upd_ne (ne_of_none e h)]
  exact e
theorem But.same {b : Addr} {H H' : Hp} (h : Same H H') : But b H H' := fun c o _ e => h c o e
theorem Same.new {p : Addr} {H : Hp} {o : HO} (h : H p = none) : Same H (upd H p o) := fun c u e => by
  rw [upd_ne (ne_of_none e h)]
  exact e
/-- a box from which at most n draws were made -/
def BoxAt (H : Hp) (b : Addr) (n : Nat) : Prop := ∃ x y z : Int, H b = some (.lst [.int x, .int y, .int z]) ∧ 0 ≤ x ∧ 0 ≤ y ∧ y < 2147483629 ∧ 0 ≤ z ∧ z ≤ n
theorem BoxAt.mono {H : Hp} {b : Addr} {n m : Nat} (h : BoxAt H b n) (le : n ≤ m) : BoxAt H b m := by
  obtain ⟨x, y, z, e, h1, h2, h3, h4, h5⟩ := h
  exact ⟨x, y, z, e, h1, h2, h3, h4, by omega⟩
theorem BoxAt.keep {H H' : Hp} {b : Addr} {n : Nat} (h : BoxAt H b n) (s : ∀ o, H b = some o → H' b = some o) : BoxAt H' b n := by
  obtain ⟨x, y, z, e, r⟩ := h
  exact ⟨x, y, z, s _ e, r⟩
/-- a draw is one of so many -/
theorem draw_at {r m : Int} {n : Nat} (h0 : 0 ≤ r) (h1 : r < m) (e : m = n) : ∃ j : Nat, r = j ∧ j < n := ⟨r.toNat, by omega, by omega⟩
def spCell' (K : PySem.W.Frag) : Sp := fun vs H Q _ => ∃ (a : Addr) (ns : List Int) (z : Int), vs = [.ref a, .int z] ∧ SqL K H a (ns.map V.int) ∧ 0 ≤ z ∧ z < 1000 ∧ ∀ i : Int, Q (.int i) H
def spBox : Sp := fun vs H Q _ => ∃ i : Int, vs = [.int i] ∧ ∀ (b : Addr) (H' : Hp), H b = none → Same H H' → BoxAt H' b 0 → Q (.ref b) H'
def spTake : Sp := fun vs H Q _ => ∃ (b : Addr) (m : Int) (n : Nat), vs = [.ref b, .int m] ∧ BoxAt H b n ∧ n ≤ 100000 ∧ 0 < m ∧ m < 2 ^ 200 ∧
  ∀ (r : Int) (H' : Hp), 0 ≤ r → r < m → BoxAt H' b (n + 1) → But b H H' → Q (.int r) H'
section
variable {P : Program} {w : World} {K : PySem.W.Frag} {mg : Str → Option Value} {base : Heap}
theorem ok_cell {f : Addr} {fd : FuncData} (F : Fun K "_law_cell" "_law_cell" sCell f fd) (ml : mg "len" = none) : FnOk P w K mg base CX0 1 f fd ["_law_script", "_law_k"] (spCell' K) := by
  refine F.ok scCell (fun vs H Q E h => ?_) (fun cdv A outer s H vs Q E hr h => ?_)
  · obtain ⟨a, ns, j, rfl, _⟩ := h
    rfl
  · obtain ⟨a, ns, z, rfl, hS, z0, z1, q⟩ := h
    obtain ⟨j, rfl, hj⟩ := draw_at (n := 1000) z0 z1 rfl
    refine ⟨_, pss_cons (ps_if (pt_cmpR op_lt (pv 1) (pe_callB call_len_seq (by rfl) ml PySem.boot_len (pa_cons (pv 0) pa_nil)) (nomark _))
        (pss_one (ps_ret (pe_ix ix_list (pv 0) (pv 1) (fun _ _ => rfl)))) pss_nil)
      (pss_one (ps_ret (pe_op op_add (pe_op op_mul pe_int (pv 1)) pe_int))), ?_⟩
    refine ⟨_, rfl, _, rfl, a, _, rfl, .inl hS, _, _, rfl, rfl, _, rfl, ite2 (fun e => ?_) (fun _ => ?_)⟩
    · have e1 : (j : Int) < ((ns.map V.int).length : Nat) := of_decide_eq_true e
      have e2 : j < ns.length := by
        rw [List.length_map] at e1
        omega
      exact ⟨_, rfl, _, rfl, a, _, _, .int ns[j], rfl, rfl, hS, atI_nat (by rw [List.getElem?_map, List.getElem?_eq_getElem e2] <;> rfl), q _⟩
    · exact ⟨_, rfl, _, _, rfl, rfl, .inl ⟨by decide, by decide⟩, _, _, rfl, rfl, q _⟩
theorem ok_box {f : Addr} {fd : FuncData} (F : Fun K "_law_box" "_law_box" sBox f fd) (mm : mg "max" = none) : FnOk P w K mg base CX0 1 f fd ["_law_cell_here"] spBox := by
  refine F.ok scBox (fun vs H Q E h => ?_) (fun cdv A outer s H vs Q E hr h => ?_)
  · obtain ⟨i, rfl, _⟩ := h
    rfl
  · obtain ⟨i, rfl, q⟩ := h
    refine ⟨_, pss_one (ps_ret (pe_lst (pa_cons (pe_callB (call_max2 rfl) (by rfl) mm (by decide +kernel) (pa_cons pe_int (pa_cons (pe_op op_sub (pv 0) (pe_op op_pow pe_int pe_int)) pa_nil)))
      (pa_cons (pe_op op_mod (pv 0) pe_int) (pa_cons pe_int pa_nil))))), ?_⟩
    refine ⟨_, rfl, _, _, rfl, rfl, ⟨by decide, by decide, by decide⟩, _, _, rfl, rfl, _, _, rfl, _, rfl, _, _, rfl, rfl, (by show (0 : Int) < 2147483629; decide), (by show 3 ≤ sizeLine; decide), fun b hb => ?_⟩
    refine q b _ hb (Same.new hb) ⟨_, _, _, upd_same, ?_, Int.emod_nonneg _ (by decide), Int.emod_lt_of_pos _ (by decide), Int.le_refl _, Int.le_refl _⟩
    split <;> omega
theorem emod_in (a m : Int) (h : 0 < m) : 0 ≤ a % m ∧ a % m < m := ⟨Int.emod_nonneg _ (by omega), Int.emod_lt_of_pos _ h⟩
theorem ok_take {f : Addr} {fd : FuncData} (F : Fun K "_law_take" "_law_take" sTake f fd) : FnOk P w K mg base CX0 1 f fd ["_law_box_here", "_law_many"] spTake := by
  refine F.ok scTake (fun vs H Q E h => ?_) (fun cdv A outer s H vs Q E hr h => ?_)
  · obtain ⟨b, m, n, rfl, _⟩ := h
    rfl
  · obtain ⟨b, m, n, rfl, ⟨x, y, z, hb, hx, hy, hy2, hz, hzn⟩, hn, hm, hm2, q⟩ := h
    refine ⟨_, pss_cons (ps_if (pt_cmpR op_gt (pe_ix ix_list (pv 0) pe_int (fun _ _ => rfl)) pe_int (nomark _))
        (pss_cons (ps_set (i := 2) scTake.nd rfl (.inl rfl) (pe_op op_mod (pe_ix ix_list (pv 0) pe_int (fun _ _ => rfl)) (pv 1)))
        (pss_cons (ps_asg (pe_op op_fdivW (pe_ix ix_list (pv 0) pe_int (fun _ _ => rfl)) (pv 1)) (pg_sub (pv 0) pe_int set_list))
        (pss_one (ps_ret (pv 2))))) pss_nil)
      (pss_cons (ps_asg (pe_op op_add (pe_ix ix_list (pv 0) pe_int (fun _ _ => rfl)) pe_int) (pg_sub (pv 0) pe_int set_list))
      (pss_cons (ps_set (i := 3) scTake.nd rfl (.inl rfl) (pe_op op_mod (pe_op op_pow (pe_op op_add (pe_op op_add (pe_ix ix_list (pv 0) pe_int (fun _ _ => rfl)) (pe_op op_mul pe_int (pe_ix ix_list (pv 0) pe_int (fun _ _ => rfl)))) pe_int) pe_int) pe_int))
      (pss_cons (ps_set (i := 3) scTake.nd rfl (.inl rfl) (pe_op op_mod (pe_op op_pow (pe_op op_add (pv 3) (pe_op op_mul pe_int (pe_ix ix_list (pv 0) pe_int (fun _ _ => rfl)))) pe_int) pe_int))
      (pss_one (ps_ret (pe_op op_mod (pe_op op_fdivW (pv 3) pe_int) (pv 1))))))), ?_⟩
    -- if box[0] > 0
    refine ⟨_, rfl, b, _, 0, .int x, rfl, rfl, .of hb, rfl, _, _, rfl, rfl, _, rfl, ite2 (fun e => ?_) (fun _ => ?_)⟩
    · refine ⟨_, rfl, b, _, 0, .int x, rfl, rfl, .of hb, rfl, _, rfl, _, _, rfl, rfl, hm, ?_⟩
      refine ⟨_, rfl, b, _, 0, .int x, rfl, rfl, .of hb, rfl, _, rfl, _, _, rfl, rfl, wide_div hm (b := 200) (by omega) (by decide) (by decide), ?_⟩
      refine ⟨_, rfl, b, _, 0, 0, rfl, rfl, hb, rfl, _, rfl, ?_⟩
      have r := emod_in x m hm
      exact q _ _ r.1 r.2 ⟨_, _, _, upd_same, Int.ediv_nonneg hx (by omega), hy, hy2, hz, by omega⟩ But.upd
    · refine ⟨_, rfl, b, _, 2, .int z, rfl, rfl, .of hb, rfl, _, _, rfl, rfl, ?_⟩
      refine ⟨_, rfl, b, _, 2, 2, rfl, rfl, hb, rfl, ?_⟩
      have hb' : (upd H b (.lst [.int x, .int y, .int (z + 1)])) b = some (.lst [.int x, .int y, .int (z + 1)]) := upd_same
      refine ⟨_, rfl, b, _, 1, .int y, rfl, rfl, .of hb', rfl, _, rfl, b, _, 2, .int (z + 1), rfl, rfl, .of hb', rfl, _, _, rfl, rfl, .inl ⟨by decide, by decide⟩, _, _, rfl, rfl, _, _, rfl, rfl,
        _, _, rfl, rfl, ⟨by decide, by decide, by omega⟩, _, _, rfl, rfl, (by show (0 : Int) < 2147483647; decide), ?_⟩
      generalize h1 : ((y + 7591 * (z + 1) + 211) ^ (5 : Int).toNat : Int) = t1
      have r1 := emod_in t1 2147483647 (by decide)
      refine ⟨_, rfl, _, rfl, b, _, 2, .int (z + 1), rfl, rfl, .of hb', rfl, _, _, rfl, rfl, .inl ⟨by decide, by decide⟩, _, _, rfl, rfl, _, _, rfl, rfl, ⟨by decide, by decide, by omega⟩, _, _, rfl, rfl, (by show (0 : Int) < 2147483587; decide), ?_⟩
      generalize h2 : ((t1 % 2147483647 + 104729 * (z + 1)) ^ (3 : Int).toNat : Int) = t2
      refine ⟨_, rfl, _, _, rfl, rfl, wide_div (by decide) (b := 200) (by decide) (by decide) (by decide), _, rfl, _, _, rfl, rfl, hm, ?_⟩
      have r := emod_in (t2 % 2147483587 / 16) m hm
      exact q _ _ r.1 r.2 ⟨_, _, _, upd_same, hx, hy, hy2, by omega, by omega⟩ But.upd
end
end G
set_option Elab.async false
set_option linter.all false
set_option maxRecDepth 100000
set_option maxHeartbeats 2000000
/-! G5: what data in the heap keeps, its type, == of it. -/
namespace G
open PySem PySem.Spec PyProof.Rows L2
section
variable {K : PySem.W.Frag} {H H' : Hp}
mutual
theorem rp_same (s : Same H H') : ∀ (d : PyData) (v : V), Rp K H v d → Rp K H' v d
  | .none, _, h => by
    cases h
    exact .non
  | .bool b, _, h => by
    cases h
    exact .bl b
  | .int i, _, h => by
    cases h
    exact .int i
  | .str x, _, h => by
    cases h
    exact .str x
  | .list ds, _, h => by
    cases h with
    | lst e r => exact .lst (s _ _ e) (rp_sameAll s ds _ r)
  | .tuple ds, _, h => by
    cases h with
    | tup e r => exact .tup (s _ _ e) (rp_sameAll s ds _ r)
  | .dict ds, _, h => by
    cases h with
    | dic e r q => exact .dic (s _ _ e) (rp_sameK s ds _ r) (rp_sameV s ds _ q)
theorem rp_sameAll (s : Same H H') : ∀ (ds : List PyData) (vs : List V), RpAll K H vs ds → RpAll K H' vs ds
  | [], _, h => by
    cases h
    exact .nil
  | d :: ds, _, h => by
    cases h with
    | cons a b => exact .cons (rp_same s d _ a) (rp_sameAll s ds _ b)
theorem rp_sameK (s : Same H H') : ∀ (ds : List (PyData × PyData)) (vs : List V), RpAll K H vs (ds.map (·.1)) → RpAll K H' vs (ds.map (·.1))
  | [], _, h => by
    cases h
    exact .nil
  | (d, _) :: ds, _, h => by
    cases h with
    | cons a b => exact .cons (rp_same s d _ a) (rp_sameK s ds _ b)
theorem rp_sameV (s : Same H H') : ∀ (ds : List (PyData × PyData)) (vs : List V), RpAll K H vs (ds.map (·.2)) → RpAll K H' vs (ds.map (·.2))
  | [], _, h => by
    cases h
    exact .nil
  | (_, d) :: ds, _, h => by
    cases h with
    | cons a b => exact .cons (rp_same s d _ a) (rp_sameV s ds _ b)
end
theorem rp_len : ∀ {ds : List PyData} {vs : List V}, RpAll K H vs ds → vs.length = ds.length
  | [], _, h => by
    cases h
    rfl
  | _ :: ds, _, h => by
    cases h with
    | cons a b =>
      rw [List.length_cons, List.length_cons, rp_len b]
theorem rp_at : ∀ {ds : List PyData} {vs : List V} {i : Nat} {v : V}, RpAll K H vs ds → vs[i]? = some v → ∃ d, ds[i]? = some d ∧ Rp K H v d
  | [], _, i, v, h, e => by
    cases h
    simp at e
  | d :: ds, _, i, v, h, e => by
    cases h with
    | cons a b =>
      cases i with
      | zero =>
        have e' := Option.some.inj e
        subst e'
        exact ⟨d, rfl, a⟩
      | succ j => exact rp_at (ds := ds) (i := j) b (by simpa using e)
theorem rp_app : ∀ {ds : List PyData} {vs : List V} {v : V} {d : PyData}, RpAll K H vs ds → Rp K H v d → RpAll K H (vs ++ [v]) (ds ++ [d])
  | [], _, _, _, h, r => by
    cases h
    exact .cons r .nil
  | _ :: ds, _, _, _, h, r => by
    cases h with
    | cons a b => exact .cons a (rp_app b r)
theorem rp_set : ∀ {ds : List PyData} {vs : List V} {v : V} {d : PyData} (i : Nat), RpAll K H vs ds → Rp K H v d → RpAll K H (vs.set i v) (ds.set i d)
  | [], _, _, _, _, h, r => by
    cases h
    exact .nil
  | _ :: ds, _, _, _, i, h, r => by
    cases h with
    | cons a b =>
      cases i with
      | zero => exact .cons r b
      | succ j => exact .cons a (rp_set j b r)
theorem rp_ints : ∀ (is : List Int), RpAll K H (is.map V.int) (is.map PyData.int)
  | [] => .nil
  | i :: is => .cons (.int i) (rp_ints is)
mutual
theorem rp_dp : ∀ (d : PyData) (v : V), d.hasDict = false → Rp K H v d → Dp K H v d
  | .none, _, _, h => by
    cases h
    exact .non
  | .bool b, _, _, h => by
    cases h
    exact .bl b
  | .int i, _, _, h => by
    cases h
    exact .int i
  | .str x, _, _, h => by
    cases h
    exact .str x
  | .list ds, _, n, h => by
    cases h with
    | lst e r => exact .lst (.of e) (rp_dpAll ds _ (by simpa [PyData.hasDict] using n) r)
  | .tuple ds, _, n, h => by
    cases h with
    | tup e r => exact .tup (.of e) (rp_dpAll ds _ (by simpa [PyData.hasDict] using n) r)
  | .dict ds, _, n, h => by simp [PyData.hasDict] at n
theorem rp_dpAll : ∀ (ds : List PyData) (vs : List V), PyData.hasDictAll ds = false → RpAll K H vs ds → DpAll K H vs ds
  | [], _, _, h => by
    cases h
    exact .nil
  | d :: ds, _, n, h => by
    simp only [PyData.hasDictAll, Bool.or_eq_false_iff] at n
    cases h with
    | cons a b => exact .cons (rp_dp d _ n.1 a) (rp_dpAll ds _ n.2 b)
end
/-- the name of a thing's type -/
def tyN : PyData → String
  | .none => "NoneType"
  | .bool _ => "bool"
  | .int _ => "int"
  | .str _ => "str"
  | .list _ => "list"
  | .tuple _ => "tuple"
  | .dict _ => "dict"
theorem rp_ty {v : V} {d : PyData} (h : Rp K H v d) : TyX K H v (.type (tyN d)) := by
  cases h with
  | non => exact .base .non
  | bl b => exact .base (.bl b)
  | int i => exact .base (.int i)
  | str x => exact .base (.str x)
  | lst e r => exact .base (.lst e)
  | tup e r => exact .base (.tup e)
  | dic e r q => exact .base (.dK e)
end
/-- H without what stands at b -/
def hide (b : Addr) (H : Hp) : Hp := fun a => if a = b then none else H a
theorem hide_same (b : Addr) (H : Hp) : Same (hide b H) H := fun a o e => by
  by_cases h : a = b
  · rw [show hide b H a = none from if_pos h] at e
    cases e
  · rwa [show hide b H a = H a from if_neg h] at e
theorem hide_ne {b a : Addr} {H : Hp} (h : a ≠ b) : hide b H a = H a := if_neg h
theorem hide_at {b : Addr} {H : Hp} : hide b H b = none := if_pos rfl
theorem hide_but {b : Addr} {H H' : Hp} (h : But b H H') : Same (hide b H) (hide b H') := fun a o e => by
  have n : a ≠ b := fun z => by
    rw [z, hide_at] at e
    cases e
  rw [hide_ne n] at e ⊢
  exact h a o n e
theorem hide_upd {b : Addr} {H : Hp} {o : HO} : hide b (upd H b o) = hide b H := by
  funext a
  by_cases h : a = b
  · rw [h, hide_at, hide_at]
  · rw [hide_ne h, hide_ne h, upd_ne h]
/-- what is new is not in what stood -/
theorem hide_new {b : Addr} {H : Hp} (h : H b = none) : Same H (hide b H) := fun a o e => by
  rw [hide_ne (ne_of_none e h)]
  exact e
theorem hide_mono {b : Addr} {H H' : Hp} (h : Same H H') : Same (hide b H) (hide b H') := hide_but fun c o _ e => h c o e
theorem hide_hide {b c : Addr} {H : Hp} : hide b (hide c H) = hide c (hide b H) := by
  funext a
  unfold hide
  split <;> split <;> rfl
end G
set_option Elab.async false
set_option linter.all false
set_option maxRecDepth 100000
set_option maxHeartbeats 2000000
/-! V3: the items of a list, in a drawn order. -/
namespace G
open PySem PySem.Spec PyProof.Rows L2
abbrev sMixed : Stmt := topS 45
theorem scMixed : FnScope ["_law_box_here", "_law_some", "_law_left", "_law_found"] ["_law_box_here", "_law_some"] (defScope sMixed) := ⟨rfl, rfl, rfl, by decide +kernel, rfl, by decide +kernel, by decide +kernel⟩
/-- data that == takes: no dict, texts that can be compared, not too deep -/
def lay (d : PyData) : Prop := d.hasDict = false ∧ d.canLay0 = true ∧ d.depth ≤ 60
theorem lay_all : ∀ {ds : List PyData}, (∀ d ∈ ds, lay d) → PyData.hasDictAll ds = false ∧ PyData.canLayAll0 ds = true ∧ PyData.depthAll ds ≤ 60
  | [], _ => ⟨rfl, rfl, Nat.zero_le _⟩
  | d :: ds, h => by
    obtain ⟨a1, a2, a3⟩ := h d List.mem_cons_self
    obtain ⟨b1, b2, b3⟩ := lay_all (ds := ds) fun e he => h e (List.mem_cons_of_mem _ he)
    refine ⟨?_, ?_, ?_⟩
    · rw [PyData.hasDictAll, a1, b1]
      rfl
    · rw [PyData.canLayAll0, a2, b2]
      rfl
    · rw [PyData.depthAll]
      exact Nat.max_le.mpr ⟨a3, b3⟩
theorem lay_shaped {d : PyData} (h : lay d) : SeqAt.shaped d = true := by
  unfold SeqAt.shaped
  rw [h.2.1, decide_eq_true (Nat.le_trans h.2.2 (by decide))]
  rfl
theorem lay_list {ds : List PyData} (h : ∀ d ∈ ds, lay d) : SeqAt.shaped (.list ds) = true := by
  obtain ⟨_, b2, b3⟩ := lay_all h
  unfold SeqAt.shaped
  rw [PyData.canLay0, b2, decide_eq_true (show (PyData.list ds).depth ≤ 64 by rw [PyData.depth]; omega)]
  rfl
/-- values and what they show -/
abbrev Vd := V × PyData
theorem rp_pairs {K : PySem.W.Frag} {H : Hp} : ∀ {qs : List Vd}, (∀ p ∈ qs, Rp K H p.1 p.2) → RpAll K H (qs.map (·.1)) (qs.map (·.2))
  | [], _ => .nil
  | p :: qs, h => .cons (h p List.mem_cons_self) (rp_pairs fun q hq => h q (List.mem_cons_of_mem _ hq))
theorem dp_pairs {K : PySem.W.Frag} {H : Hp} {qs : List Vd} (h : ∀ p ∈ qs, Rp K H p.1 p.2) (l : ∀ p ∈ qs, lay p.2) : DpAll K H (qs.map (·.1)) (qs.map (·.2)) :=
  rp_dpAll _ _ (lay_all (ds := qs.map (·.2)) fun d hd => by
    obtain ⟨p, hp, rfl⟩ := List.mem_map.mp hd
    exact l p hp).1 (rp_pairs h)
theorem erase_map {α β : Type} (f : α → β) : ∀ (l : List α) (j : Nat), (l.map f).eraseIdx j = (l.eraseIdx j).map f
  | [], _ => rfl
  | _ :: _, 0 => rfl
  | x :: l, j + 1 => by
    show f x :: (l.map f).eraseIdx j = f x :: (l.eraseIdx j).map f
    rw [erase_map f l j]
theorem erase_perm {α : Type} : ∀ {l : List α} {j : Nat} (h : j < l.length), ([l[j]] ++ l.eraseIdx j).Perm l
  | _ :: _, 0, _ => .refl _
  | x :: l, j + 1, h => by
    have hj : j < l.length := by simpa using h
    have ih := erase_perm hj
    show (l[j] :: x :: l.eraseIdx j).Perm (x :: l)
    exact (List.Perm.swap x _ _).trans (List.Perm.cons x ih)
/-- some: any order of its items, in a new list -/
def spMixed (K : PySem.W.Frag) : Sp := fun vs H Q _ => ∃ (b a : Addr) (n : Nat) (ps : List Vd), vs = [.ref b, .ref a] ∧ BoxAt H b n ∧ n + ps.length ≤ 100000 ∧ (SqL K H a (ps.map (·.1)) ∨ SqT K H a (ps.map (·.1))) ∧
  (∀ p ∈ ps, lay p.2 ∧ ∀ H', But b H H' → Rp K H' p.1 p.2) ∧
  ∀ (p : Addr) (H' : Hp) (qs : List Vd), qs.Perm ps → H p = none → H' p = some (.lst (qs.map (·.1))) → BoxAt H' b (n + ps.length) → But b H H' → Q (.ref p) H'
theorem eqv_nil (ds : List PyData) : PyData.eqv (.list ds) (.list []) = ds.isEmpty := by
  cases ds with
  | nil => rfl
  | cons d ds => rfl
section
variable {P : Program} {w : World} {K : PySem.W.Frag} {mg : Str → Option Value} {base : Heap}
theorem ok_mixed {f fT : Addr} {fd fdT : FuncData} (F : Fun K "_law_mixed" "_law_mixed" sMixed f fd) (T : Fun K "_law_take" "_law_take" sTake fT fdT) (bT : Binds K fdT ["_law_box_here", "_law_many"] []) (gT : mg "_law_take" = some (.ref fT))
    (ml : mg "len" = none) (mL : mg "list" = none) : FnOk P w K mg base CX0 2 f fd ["_law_box_here", "_law_some"] (spMixed K) := by
  refine F.ok scMixed (fun vs H Q E h => ?_) (fun cdv A outer s H vs Q E hr h => ?_)
  · obtain ⟨b, a, n, ps, rfl, _⟩ := h
    rfl
  · obtain ⟨b, a, n, ps, rfl, B, hn, hS, hp, q⟩ := h
    have big : ∀ {k : Nat}, k ≤ 100000 → k < sizeLine := fun {k} h => by
      rw [sizeLine_eq]
      omega
    refine ⟨_, pss_cons (ps_par (i := 2) (j := 3) (by rfl) scMixed.nd rfl rfl (by decide) rfl rfl (pa_cons (pe_callTy call_list_of (by rfl) mL (by decide +kernel) (pa_cons (pv 1) pa_nil)) (pa_cons (pe_lst pa_nil) pa_nil)) (by rfl))
      (pss_cons (ps_while PassesOwn.never (pt_cmpR (op_neD hr.units) (pv 2) (pe_lst pa_nil) (nomark _))
        (pss_one (ps_expr (pe_bm PySem.F.plainAttrs_list PySem.F.slot_list_append PySem.F.type_list_append mt_append (pv 3) (pa_cons
          (pe_bm PySem.F.plainAttrs_list PySem.F.slot_list_pop PySem.F.type_list_pop mt_popAt (pv 2)
            (pa_cons (pe_call (ok_take T) hr rfl gT T.kp bT .nil pass0 (pa_cons (pv 0) (pa_cons (pe_callB call_len_seq (by rfl) ml PySem.boot_len (pa_cons (pv 2) pa_nil)) pa_nil))) pa_nil)) pa_nil)))))
      (pss_one (ps_ret (pv 3)))), ?_⟩
    refine ⟨_, rfl, a, _, rfl, hS, fun l hl => ⟨by decide, fun p hp0 => ⟨_, _, rfl, ?_⟩⟩⟩
    have nlp : l ≠ p := fun z => by
      rw [z, upd_same] at hp0
      cases hp0
    have hpn : H p = none := (upd_ne nlp.symm).symm.trans hp0
    have nbl : b ≠ l := by
      obtain ⟨_, _, _, e, _⟩ := B
      exact ne_of_none e hl
    have nbp : b ≠ p := by
      obtain ⟨_, _, _, e, _⟩ := B
      exact ne_of_none e hpn
    refine ⟨fun m σ H1 => ∃ qs rs : List Vd, m = qs.length ∧ σ = [some (.ref b), some (.ref a), some (.ref l), some (.ref p)] ∧ H1 l = some (.lst (qs.map (·.1))) ∧ H1 p = some (.lst (rs.map (·.1))) ∧
        (rs ++ qs).Perm ps ∧ BoxAt H1 b (n + rs.length) ∧ But b H H1, ⟨ps.length, ps, [], rfl, rfl, ?_, upd_same, .refl _, ?_, ?_⟩, ?_⟩
    · rw [upd_ne nlp, upd_same]
    · exact (B.keep fun o e => by rw [upd_ne nbp, upd_ne nbl]; exact e).mono (Nat.le_add_right _ _)
    · exact (But.new hl).trans (But.new hp0)
    · rintro m σ H1 ⟨qs, rs, rfl, rfl, el, ep, pm, B1, s1⟩
      have hq : ∀ x ∈ qs, x ∈ ps := fun x hx => pm.mem_iff.mp (List.mem_append_right _ hx)
      have hlen : rs.length + qs.length = ps.length := by
        rw [← List.length_append]
        exact pm.length_eq
      refine ⟨_, rfl, by decide, fun t ht => ?_⟩
      have nlt : l ≠ t := ne_of_none el ht
      have s2 : But b H (upd H1 t (.lst [])) := s1.trans (But.new ht)
      refine ⟨.list (qs.map fun x : Vd => x.2), .list [], .lst (xs := qs.map fun x : Vd => x.1) (.of (by rw [upd_ne nlt]; exact el)) (dp_pairs (fun x hx => (hp x (hq x hx)).2 _ s2) fun x hx => (hp x (hq x hx)).1), .lst (.of upd_same) .nil, lay_list (fun d hd => ?_), by rfl, _, rfl, ?_⟩
      · obtain ⟨x, hx, rfl⟩ := List.mem_map.mp hd
        exact (hp x (hq x hx)).1
      · rw [eqv_nil]
        cases qs with
        | nil =>
          refine iteF ?_
          refine ⟨_, rfl, ?_⟩
          rw [List.append_nil] at pm
          refine q p _ rs pm hpn ?_ ?_ s2
          · rw [upd_ne (ne_of_none ep ht)]
            exact ep
          · have e : rs.length = ps.length := pm.length_eq
            rw [← e]
            exact B1.keep fun o e => by rw [upd_ne (ne_of_none e ht)]; exact e
        | cons y ys =>
          refine iteT ?_
          have hlen' : rs.length + (ys.length + 1) = ps.length := hlen
          refine ⟨fun σ' H' => ∃ m', m' < (y :: ys).length ∧ ∃ qs rs : List Vd, m' = qs.length ∧ σ' = [some (.ref b), some (.ref a), some (.ref l), some (.ref p)] ∧ H' l = some (.lst (qs.map (·.1))) ∧ H' p = some (.lst (rs.map (·.1))) ∧
            (rs ++ qs).Perm ps ∧ BoxAt H' b (n + rs.length) ∧ But b H H', fun _ _ h => h, ?_⟩
          have ep2 : upd H1 t (.lst []) p = some (.lst (rs.map (·.1))) := by
            rw [upd_ne (ne_of_none ep ht)]
            exact ep
          have el2 : upd H1 t (.lst []) l = some (.lst ((y :: ys).map (·.1))) := by
            rw [upd_ne nlt]
            exact el
          have B2 : BoxAt (upd H1 t (.lst [])) b (n + rs.length) := B1.keep fun o e => by rw [upd_ne (ne_of_none e ht)]; exact e
          refine ⟨_, rfl, .inl ⟨rfl, _, .of ep2⟩, _, rfl, .inl ⟨rfl, _, .of el2⟩, _, rfl, _, rfl, l, _, rfl, .inl (.of el2), b, _, n + rs.length, rfl, B2, by omega, ?_, ?_, fun r H3 r0 r1 B3 s3 => ?_⟩
          · rw [List.length_map]
            show (0 : Int) < ((ys.length + 1 : Nat) : Int)
            omega
          · rw [List.length_map]
            show ((ys.length + 1 : Nat) : Int) < _
            have : ys.length + 1 ≤ 100000 := by omega
            omega
          · obtain ⟨j, rfl, hj⟩ := draw_at r0 r1 (n := (y :: ys).length) (by rw [List.length_map])
            have el3 : H3 l = some (.lst ((y :: ys).map (·.1))) := s3 _ _ nbl.symm el2
            have ep3 : H3 p = some (.lst (rs.map (·.1))) := s3 _ _ nbp.symm ep2
            have hjm : j < ((y :: ys).map (·.1)).length := by
              rw [List.length_map]
              exact hj
            have hj5 : j < 100000 := by
              have e : (y :: ys).length = ys.length + 1 := rfl
              omega
            refine ⟨l, _, (j : Int), j, ((y :: ys)[j]).1, rfl, rfl, el3, by omega, by omega, ?_, ?_, ?_⟩
            · have := PySem.seqIndex_of (k := (j : Int)) (n := ((y :: ys).map (·.1)).length) (by omega) (by omega)
              rw [this]
              rfl
            · rw [List.getElem?_map, List.getElem?_eq_getElem hj]
              rfl
            · refine ⟨p, _, _, rfl, rfl, by rw [upd_ne nlp.symm]; exact ep3, ?_, ?_⟩
              · rw [List.length_map]
                exact big (by omega)
              · refine ⟨((y :: ys).eraseIdx j).length, ?_, (y :: ys).eraseIdx j, rs ++ [(y :: ys)[j]], rfl, rfl, ?_, ?_, ?_, ?_, ?_⟩
                · rw [List.length_eraseIdx, if_pos hj]
                  show (ys.length + 1) - 1 < ys.length + 1
                  omega
                · rw [upd_ne nlp, upd_same, erase_map]
                · rw [upd_same, List.map_append]
                  rfl
                · rw [List.append_assoc]
                  refine List.Perm.trans (List.Perm.append_left rs ?_) pm
                  exact erase_perm hj
                · rw [List.length_append, List.length_singleton]
                  exact B3.keep fun o e => by rw [upd_ne nbp, upd_ne nbl]; exact e
                · intro c o nc e
                  have e3 := (s2.trans s3) c o nc e
                  rw [upd_ne (ne_of_none e hpn), upd_ne (ne_of_none e hl)]
                  exact e3
end
end G
set_option Elab.async false
set_option linter.all false
set_option maxRecDepth 100000
set_option maxHeartbeats 2000000
/-! V4: drawn names. -/
namespace G
open PySem PySem.Spec PyProof.Rows L2
abbrev sNames : Stmt := topS 46
abbrev nNames : List Str := ["_law_box_here", "_law_many", "_law_letters", "_law_way", "_law_cut", "_law_begin", "_law_step", "_law_stem", "_law_k", "_law_found", "_law_letter", "_law_name"]
theorem scNames : FnScope nNames ["_law_box_here", "_law_many"] (defScope sNames) := ⟨rfl, rfl, rfl, by decide +kernel, rfl, by decide +kernel, by decide +kernel⟩
abbrev cs (z : Str) : List Nat := z.cps.toList
theorem cs_len (z : Str) : (cs z).length = z.length := by simp [cs, Str.length]
theorem cs_app (a b : Str) : cs (a ++ b) = cs a ++ cs b := TL.tl_append a b
theorem app_len (a b : Str) : (a ++ b).length = a.length + b.length := strLen_append a b
theorem small_size {n : Nat} (h : n ≤ 7000) : n ≤ sizeLine := by
  rw [sizeLine_eq]
  omega
theorem box_new {H : Hp} {b p : Addr} {n : Nat} {o : HO} (B : BoxAt H b n) (h : H p = none) : BoxAt (upd H p o) b n := B.keep fun o' e => Same.new h b o' e
theorem box_ne {H : Hp} {b p : Addr} {n : Nat} (B : BoxAt H b n) (h : H p = none) : p ≠ b := fun z => by
  obtain ⟨_, _, _, e, _⟩ := B
  rw [← z, h] at e
  cases e
theorem box_upd {H : Hp} {b p : Addr} {n : Nat} {o : HO} (B : BoxAt H b n) (h : p ≠ b) : BoxAt (upd H p o) b n := by
  obtain ⟨x, y, z, e, r⟩ := B
  exact ⟨x, y, z, (upd_ne h.symm).trans e, r⟩
/-- a store at what was new -/
theorem but_upd {b p : Addr} {H H1 : Hp} {o : HO} (k : But b H H1) (h : H p = none) : But b H (upd H1 p o) := fun c u n e => by
  rw [upd_ne (ne_of_none e h)]
  exact k c u n e
theorem free_of {b p : Addr} {H H' : Hp} (k : But b H H') (n : p ≠ b) (h : H' p = none) : H p = none := by
  cases e : H p with
  | none => rfl
  | some o =>
    rw [k p o n e] at h
    cases h
/-! ### names -/
def LowZ (z : Str) : Prop := ∀ c ∈ cs z, 97 ≤ c ∧ c ≤ 122
def NameZ (z : Str) : Prop := LowZ z ∧ 1 ≤ z.length ∧ z.length ≤ 8
def NameI (y : Str) (i : Nat) : Prop := LowZ y ∧ 1 ≤ y.length ∧ y.length ≤ 8 ∧ (26 ≤ i → y.length ≤ 7)
theorem LowZ.app {a b : Str} (h1 : LowZ a) (h2 : LowZ b) : LowZ (a ++ b) := fun c hc => by
  rw [cs_app] at hc
  rcases List.mem_append.mp hc with h | h
  · exact h1 c h
  · exact h2 c h
theorem LowZ.cut {a : Str} (h : LowZ a) (lo hi : Option Int) : LowZ (cutS a lo hi) := fun c hc => by
  have hc' : c ∈ ((cs a).drop _).take _ := hc
  exact h c (List.mem_of_mem_drop (List.mem_of_mem_take hc'))
theorem low_one {c : Nat} (h : 97 ≤ c ∧ c ≤ 122) : LowZ ⟨#[c]⟩ := fun x hx => by
  have : x ∈ [c] := hx
  rw [List.mem_singleton.mp this]
  exact h
theorem LowZ.lay {z : Str} (h : LowZ z) : lay (.str z) := by
  refine ⟨rfl, ?_, Nat.zero_le _⟩
  show z.cps.all (· < 0x110000) = true
  rw [Array.all_eq_true]
  intro i hi
  have := h z.cps[i] (by simp [cs])
  exact decide_eq_true (by omega)
abbrev abc : Str := "abcdefghijklmnopqrstuvwxyz"
theorem abc_low : LowZ abc := by
  have h : ((cs abc).all fun c => decide (97 ≤ c ∧ c ≤ 122)) = true := by decide +kernel
  exact fun c hc => of_decide_eq_true (List.all_eq_true.mp h c hc)
theorem abc_at {j : Nat} (hj : j < 26) : ∃ c, abc.cps[j]? = some c ∧ 97 ≤ c ∧ c ≤ 122 := by
  have h1 : j < abc.cps.size := hj
  refine ⟨abc.cps[j], by simp [h1], abc_low _ ?_⟩
  simp [cs]
theorem cut_first (z : Str) (k : Nat) : cs (cutS z none (some (k : Int))) = (cs z).take k := by
  show ((cs z).drop (HT.sIx z.length 0 none)).take (HT.sIx z.length z.length (some (k : Int)) - HT.sIx z.length 0 none) = _
  rw [HT.sIx_none, HT.sIx_nat z.length z.length k, List.drop_zero, ← cs_len, Nat.sub_zero]
  by_cases h : k ≤ (cs z).length
  · rw [Nat.min_eq_left h]
  · rw [Nat.min_eq_right (by omega), List.take_length, List.take_of_length_le (by omega)]
theorem cut_len (z : Str) (k : Nat) : (cutS z none (some (k : Int))).length = min k z.length := by
  rw [← cs_len, cut_first, List.length_take, cs_len]
def spNames : Sp := fun vs H Q _ => ∃ (b : Addr) (m n : Nat), vs = [.ref b, .int (m : Int)] ∧ BoxAt H b n ∧ n ≤ 50000 ∧ m ≤ 100 ∧
  ∀ (p : Addr) (H' : Hp) (zs : List Str), zs.length = m → (∀ z ∈ zs, NameZ z) → H p = none → H' p = some (.lst (zs.map V.str)) → BoxAt H' b (n + 11 + m) → But b H H' → Q (.ref p) H'
section
variable {P : Program} {w : World} {K : PySem.W.Frag} {mg : Str → Option Value} {base : Heap}
theorem ok_names {f fT fM : Addr} {fd fdT fdM : FuncData} (F : Fun K "_law_names" "_law_names" sNames f fd) (T : Fun K "_law_take" "_law_take" sTake fT fdT) (bT : Binds K fdT ["_law_box_here", "_law_many"] []) (gT : mg "_law_take" = some (.ref fT))
    (M : Fun K "_law_mixed" "_law_mixed" sMixed fM fdM) (bM : Binds K fdM ["_law_box_here", "_law_some"] []) (gM : mg "_law_mixed" = some (.ref fM)) (ml : mg "len" = none) (mL : mg "list" = none) (mr : mg "range" = none) :
    FnOk P w K mg base CX0 3 f fd ["_law_box_here", "_law_many"] spNames := by
  have GT : FnOk P w K mg base CX0 1 fT fdT ["_law_box_here", "_law_many"] spTake := ok_take T
  have GM : FnOk P w K mg base CX0 2 fM fdM ["_law_box_here", "_law_some"] (spMixed K) := ok_mixed M T bT gT ml mL
  refine F.ok scNames (fun vs H Q E h => ?_) (fun cdv A outer s H vs Q E hr h => ?_)
  · obtain ⟨b, m, n, rfl, _⟩ := h
    rfl
  · obtain ⟨b, m, n, rfl, B, hn, hm, q⟩ := h
    have hr1 := hr.mono (show 1 ≤ 2 by decide)
    obtain ⟨ts, psl, qsl⟩ : ∃ t, PSs (cxOf CX0 P w K mg base nNames "_law_names" (defScope sNames) f cdv A outer s H E).nox ((defBody sNames).drop 5) t ∧
        ∀ (way cut bg st : Nat) (z : Str) (x8 : Option V) (H1 : Hp), cut ≤ 7 → (26 < m → cut ≤ 6) → bg < 26 → st ≤ 17 → LowZ z → z.length = 7 → BoxAt H1 b (n + 11) → But b H H1 → t { nx := fun _ H' => Q .non H', rt := Q } [some (.ref b), some (.int (m : Int)), some (.str abc), some (.int (way : Int)), some (.int (cut : Int)), some (.int (bg : Int)), some (.int (st : Int)), some (.str z), x8, none, none, none] H1 := by
      refine ⟨_, pss_cons (ps_set (i := 9) scNames.nd rfl (.inl rfl) (pe_lst pa_nil))
      (pss_cons (ps_for PassesOwn.never rfl (pi_range1 rfl mr (pa_cons (pv 1) pa_nil)) (pg_name (i := 8) scNames.nd rfl (.inl rfl))
        (pss_cons (ps_set (i := 10) scNames.nd rfl (.inl rfl) (pe_item_str (pv 2) (pe_op op_mod (pe_op op_add (pv 5) (pe_op op_mul (pv 6) (pv 8))) pe_int) (fun _ _ => rfl)))
        (pss_cons (ps_set (i := 11) scNames.nd rfl (.inl rfl) (pe_op op_add_str (pe_slice sl_str (pv 7) po_none (po_some (pv 4))) (pv 10)))
        (pss_cons (ps_if (PW.pt (pw_and (pt_cmpR op_eq (pv 3) pe_int (nomark _)) (pw_and1 (pt_cmpR op_lt (pv 1) pe_int (nomark _)))))
          (pss_one (ps_set (i := 11) scNames.nd rfl (.inl rfl) (pe_op op_add_str (pv 10) (pe_slice sl_str (pv 7) po_none (po_some (pe_op op_mod (pe_op op_add (pv 4) (pe_op op_mul pe_int (pv 8))) pe_int)))))) pss_nil)
        (pss_one (ps_expr (pe_bm PySem.F.plainAttrs_list PySem.F.slot_list_append PySem.F.type_list_append mt_append (pv 9) (pa_cons
          (pe_ifExp (pt_cmpR op_lt (pv 8) pe_int (nomark _)) (pv 11) (pe_op op_add_str (pv 11) (pe_item_str (pv 2) (pe_op op_fdiv (pv 8) pe_int) (fun _ _ => rfl)))) pa_nil))))))))
      (pss_one (ps_ret (pv 9)))), ?_⟩
      intro way cut bg st z x8 H1 hcut hcut2 hbg hst hz hl B1 k1
      refine ⟨Nat.zero_le _, fun D hD => ?_⟩
      have nD := box_ne B1 hD
      have fD := free_of k1 nD hD
      refine ⟨_, rfl, _, rfl, by omega, by omega, ?_⟩
      rw [Int.toNat_natCast m]
      refine for_range (lo := 0) (n := m) (fun i σ H2 => ∃ (zs : List Str) (x8 x10 x11 : Option V), σ = [some (.ref b), some (.int (m : Int)), some (.str abc), some (.int (way : Int)), some (.int (cut : Int)), some (.int (bg : Int)), some (.int (st : Int)), some (.str z), x8, some (.ref D), x10, x11] ∧
        H2 D = some (.lst (zs.map V.str)) ∧ zs.length = i ∧ (∀ y ∈ zs, NameZ y) ∧ BoxAt H2 b (n + 11) ∧ But b H H2) ?_ ?_ ?_
      · exact ⟨[], x8, none, none, rfl, upd_same, rfl, (fun y h => nomatch h), box_new B1 hD, but_upd k1 fD⟩
      · rintro i σ H2 hi ⟨zs, x8, x10, x11, rfl, e2, hlz, hy, B2, k2⟩
        have r := emod_in ((bg : Int) + (st : Int) * (0 + (i : Int))) 26 (by decide)
        obtain ⟨j, ej, hj⟩ := draw_at r.1 r.2 (n := 26) rfl
        obtain ⟨c, hc, c97⟩ := abc_at hj
        refine ⟨_, rfl, _, rfl, _, rfl, _, rfl, _, _, rfl, rfl, .inl ⟨by omega, by omega⟩, _, _, rfl, rfl, _, _, rfl, rfl, (by show (0 : Int) < 26; decide), _, _, c, rfl, rfl, r.1, by omega, (show _ < ((26 : Nat) : Int) by omega), (by rw [ej]; exact hc), ?_⟩
        have lo := low_one c97
        have len1 : (⟨#[c]⟩ : Str).length = 1 := rfl
        generalize (⟨#[c]⟩ : Str) = lt at lo len1
        have cl := cut_len z cut
        refine ⟨_, rfl, _, rfl, _, rfl, z, rfl, small_size (by omega), _, rfl, _, _, rfl, rfl, small_size (by omega), ?_⟩
        have Y0 : LowZ (cutS z none (some (cut : Int)) ++ lt) ∧ 1 ≤ (cutS z none (some (cut : Int)) ++ lt).length ∧ (cutS z none (some (cut : Int)) ++ lt).length ≤ 8 ∧ (26 ≤ i → (cutS z none (some (cut : Int)) ++ lt).length ≤ 7) := by
          rw [app_len]
          exact ⟨(hz.cut _ _).app lo, by omega, by omega, fun _ => by omega⟩
        have r8 := emod_in ((cut : Int) + 3 * (0 + (i : Int))) 8 (by decide)
        refine ⟨_, rfl, rfl, _, rfl, ite2 (fun _ => ?_) (fun _ => ?_)⟩
        · refine ⟨_, rfl, _, _, rfl, rfl, _, rfl, ite2 (fun h27 => ?_) (fun _ => ?_)⟩
          · have hm27 : (m : Int) < 27 := of_decide_eq_true h27
            obtain ⟨j8, ej8, hj8⟩ := draw_at r8.1 r8.2 (n := 8) rfl
            have cl8 := cut_len z j8
            refine ⟨_, rfl, _, rfl, _, rfl, _, rfl, _, _, rfl, rfl, .inl ⟨by decide, by decide⟩, _, _, rfl, rfl, _, _, rfl, rfl, (by show (0 : Int) < 8; decide), _, rfl, z, rfl, small_size (by omega), _, _, rfl, rfl, ?_, ?_⟩
            · rw [ej8, len1]
              exact small_size (by omega)
            have Y : NameI (lt ++ cutS z none (some (((cut : Int) + 3 * (0 + (i : Int))) % 8))) i := by
              unfold NameI
              rw [ej8, app_len]
              exact ⟨lo.app (hz.cut _ _), by omega, by omega, fun h => by omega⟩
            revert Y
            generalize (lt ++ cutS z none (some (((cut : Int) + 3 * (0 + (i : Int))) % 8))) = y
            intro Y
            obtain ⟨y1, y2, y3, y4⟩ := Y
            have done : ∀ (u : Str) (x8 x10 x11 : Option V), NameZ u → ∃ (zs' : List Str) (x8' x10' x11' : Option V), [some (V.ref b), some (.int (m : Int)), some (.str abc), some (.int (way : Int)), some (.int (cut : Int)), some (.int (bg : Int)), some (.int (st : Int)), some (.str z), x8, some (.ref D), x10, x11] = [some (.ref b), some (.int (m : Int)), some (.str abc), some (.int (way : Int)), some (.int (cut : Int)), some (.int (bg : Int)), some (.int (st : Int)), some (.str z), x8', some (.ref D), x10', x11'] ∧
                upd H2 D (.lst (zs.map V.str ++ [.str u])) D = some (.lst (zs'.map V.str)) ∧ zs'.length = i + 1 ∧ (∀ y ∈ zs', NameZ y) ∧ BoxAt (upd H2 D (.lst (zs.map V.str ++ [.str u]))) b (n + 11) ∧ But b H (upd H2 D (.lst (zs.map V.str ++ [.str u]))) := fun u x8 x10 x11 hu => by
              refine ⟨zs ++ [u], x8, x10, x11, rfl, ?_, ?_, fun v hv => ?_, box_upd B2 nD, but_upd k2 fD⟩
              · rw [upd_same, List.map_append]
                rfl
              · rw [List.length_append, hlz]
                rfl
              · rcases List.mem_append.mp hv with hv | hv
                · exact hy v hv
                · rw [List.mem_singleton.mp hv]
                  exact hu
            have room : (zs.map V.str).length < sizeLine := by
              rw [List.length_map]
              exact small1000 (by omega)
            refine ⟨_, rfl, .inl ⟨rfl, _, .of e2⟩, _, rfl, _, _, rfl, rfl, _, rfl, ite2 (fun h26 => ?_) (fun h26 => ?_)⟩
            · exact ⟨_, rfl, D, _, _, rfl, rfl, e2, room, done y _ _ _ ⟨y1, y2, y3⟩⟩
            · have h26' : ¬ ((0 + (i : Int)) < 26) := fun h => h26 (decide_eq_true h)
              have yl := y4 (by omega)
              have hd : (0 + (i : Int)) / 26 = ((i / 26 : Nat) : Int) := by omega
              obtain ⟨c2, hc2, c297⟩ := abc_at (j := i / 26) (by omega)
              refine ⟨_, rfl, _, rfl, _, rfl, _, _, rfl, rfl, ⟨by decide, by decide⟩, _, _, c2, rfl, rfl, by omega, by omega, (show _ < ((26 : Nat) : Int) by omega), (by rw [hd]; exact hc2), _, _, rfl, rfl, ?_, D, _, _, rfl, rfl, e2, room, ?_⟩
              · show y.length + 1 ≤ sizeLine
                exact small_size (by omega)
              · have l2 : (y ++ (⟨#[c2]⟩ : Str)).length = y.length + 1 := app_len y ⟨#[c2]⟩
                exact done (y ++ ⟨#[c2]⟩) _ _ _ ⟨y1.app (low_one c297), by omega, by omega⟩
          · have Y : NameI (cutS z none (some (cut : Int)) ++ lt) i := Y0
            revert Y
            generalize (cutS z none (some (cut : Int)) ++ lt) = y
            intro Y
            obtain ⟨y1, y2, y3, y4⟩ := Y
            have done : ∀ (u : Str) (x8 x10 x11 : Option V), NameZ u → ∃ (zs' : List Str) (x8' x10' x11' : Option V), [some (V.ref b), some (.int (m : Int)), some (.str abc), some (.int (way : Int)), some (.int (cut : Int)), some (.int (bg : Int)), some (.int (st : Int)), some (.str z), x8, some (.ref D), x10, x11] = [some (.ref b), some (.int (m : Int)), some (.str abc), some (.int (way : Int)), some (.int (cut : Int)), some (.int (bg : Int)), some (.int (st : Int)), some (.str z), x8', some (.ref D), x10', x11'] ∧
                upd H2 D (.lst (zs.map V.str ++ [.str u])) D = some (.lst (zs'.map V.str)) ∧ zs'.length = i + 1 ∧ (∀ y ∈ zs', NameZ y) ∧ BoxAt (upd H2 D (.lst (zs.map V.str ++ [.str u]))) b (n + 11) ∧ But b H (upd H2 D (.lst (zs.map V.str ++ [.str u]))) := fun u x8 x10 x11 hu => by
              refine ⟨zs ++ [u], x8, x10, x11, rfl, ?_, ?_, fun v hv => ?_, box_upd B2 nD, but_upd k2 fD⟩
              · rw [upd_same, List.map_append]
                rfl
              · rw [List.length_append, hlz]
                rfl
              · rcases List.mem_append.mp hv with hv | hv
                · exact hy v hv
                · rw [List.mem_singleton.mp hv]
                  exact hu
            have room : (zs.map V.str).length < sizeLine := by
              rw [List.length_map]
              exact small1000 (by omega)
            refine ⟨_, rfl, .inl ⟨rfl, _, .of e2⟩, _, rfl, _, _, rfl, rfl, _, rfl, ite2 (fun h26 => ?_) (fun h26 => ?_)⟩
            · exact ⟨_, rfl, D, _, _, rfl, rfl, e2, room, done y _ _ _ ⟨y1, y2, y3⟩⟩
            · have h26' : ¬ ((0 + (i : Int)) < 26) := fun h => h26 (decide_eq_true h)
              have yl := y4 (by omega)
              have hd : (0 + (i : Int)) / 26 = ((i / 26 : Nat) : Int) := by omega
              obtain ⟨c2, hc2, c297⟩ := abc_at (j := i / 26) (by omega)
              refine ⟨_, rfl, _, rfl, _, rfl, _, _, rfl, rfl, ⟨by decide, by decide⟩, _, _, c2, rfl, rfl, by omega, by omega, (show _ < ((26 : Nat) : Int) by omega), (by rw [hd]; exact hc2), _, _, rfl, rfl, ?_, D, _, _, rfl, rfl, e2, room, ?_⟩
              · show y.length + 1 ≤ sizeLine
                exact small_size (by omega)
              · have l2 : (y ++ (⟨#[c2]⟩ : Str)).length = y.length + 1 := app_len y ⟨#[c2]⟩
                exact done (y ++ ⟨#[c2]⟩) _ _ _ ⟨y1.app (low_one c297), by omega, by omega⟩
        · have Y : NameI (cutS z none (some (cut : Int)) ++ lt) i := Y0
          revert Y
          generalize (cutS z none (some (cut : Int)) ++ lt) = y
          intro Y
          obtain ⟨y1, y2, y3, y4⟩ := Y
          have done : ∀ (u : Str) (x8 x10 x11 : Option V), NameZ u → ∃ (zs' : List Str) (x8' x10' x11' : Option V), [some (V.ref b), some (.int (m : Int)), some (.str abc), some (.int (way : Int)), some (.int (cut : Int)), some (.int (bg : Int)), some (.int (st : Int)), some (.str z), x8, some (.ref D), x10, x11] = [some (.ref b), some (.int (m : Int)), some (.str abc), some (.int (way : Int)), some (.int (cut : Int)), some (.int (bg : Int)), some (.int (st : Int)), some (.str z), x8', some (.ref D), x10', x11'] ∧
              upd H2 D (.lst (zs.map V.str ++ [.str u])) D = some (.lst (zs'.map V.str)) ∧ zs'.length = i + 1 ∧ (∀ y ∈ zs', NameZ y) ∧ BoxAt (upd H2 D (.lst (zs.map V.str ++ [.str u]))) b (n + 11) ∧ But b H (upd H2 D (.lst (zs.map V.str ++ [.str u]))) := fun u x8 x10 x11 hu => by
            refine ⟨zs ++ [u], x8, x10, x11, rfl, ?_, ?_, fun v hv => ?_, box_upd B2 nD, but_upd k2 fD⟩
            · rw [upd_same, List.map_append]
              rfl
            · rw [List.length_append, hlz]
              rfl
            · rcases List.mem_append.mp hv with hv | hv
              · exact hy v hv
              · rw [List.mem_singleton.mp hv]
                exact hu
          have room : (zs.map V.str).length < sizeLine := by
            rw [List.length_map]
            exact small1000 (by omega)
          refine ⟨_, rfl, .inl ⟨rfl, _, .of e2⟩, _, rfl, _, _, rfl, rfl, _, rfl, ite2 (fun h26 => ?_) (fun h26 => ?_)⟩
          · exact ⟨_, rfl, D, _, _, rfl, rfl, e2, room, done y _ _ _ ⟨y1, y2, y3⟩⟩
          · have h26' : ¬ ((0 + (i : Int)) < 26) := fun h => h26 (decide_eq_true h)
            have yl := y4 (by omega)
            have hd : (0 + (i : Int)) / 26 = ((i / 26 : Nat) : Int) := by omega
            obtain ⟨c2, hc2, c297⟩ := abc_at (j := i / 26) (by omega)
            refine ⟨_, rfl, _, rfl, _, rfl, _, _, rfl, rfl, ⟨by decide, by decide⟩, _, _, c2, rfl, rfl, by omega, by omega, (show _ < ((26 : Nat) : Int) by omega), (by rw [hd]; exact hc2), _, _, rfl, rfl, ?_, D, _, _, rfl, rfl, e2, room, ?_⟩
            · show y.length + 1 ≤ sizeLine
              exact small_size (by omega)
            · have l2 : (y ++ (⟨#[c2]⟩ : Str)).length = y.length + 1 := app_len y ⟨#[c2]⟩
              exact done (y ++ ⟨#[c2]⟩) _ _ _ ⟨y1.app (low_one c297), by omega, by omega⟩
      · rintro σ H2 ⟨zs, x8, x10, x11, rfl, e2, hlz, hy, B2, k2⟩
        exact ⟨_, rfl, q D H2 zs hlz hy fD e2 (B2.mono (by omega)) k2⟩
    obtain ⟨tl, pl, ql⟩ : ∃ t, PSs (cxOf CX0 P w K mg base nNames "_law_names" (defScope sNames) f cdv A outer s H E).nox ((defBody sNames).drop 2) t ∧
        ∀ (way cut bg : Nat) (H1 : Hp), cut ≤ 7 → (26 < m → cut ≤ 6) → bg < 26 → BoxAt H1 b (n + 3) → But b H H1 → t { nx := fun _ H' => Q .non H', rt := Q } [some (.ref b), some (.int (m : Int)), some (.str abc), some (.int (way : Int)), some (.int (cut : Int)), some (.int (bg : Int)), none, none, none, none, none, none] H1 := by
      refine ⟨_, pss_cons (ps_asg (pe_tup (pa_cons (pe_ix ix_list (pe_lst (pa_cons pe_int (pa_cons pe_int (pa_cons pe_int (pa_cons pe_int (pa_cons pe_int (pa_cons pe_int (pa_cons pe_int (pa_cons pe_int pa_nil)))))))))
          (pe_call GT hr1 rfl gT T.kp bT .nil pass0 (pa_cons (pv 0) (pa_cons pe_int pa_nil))) (fun _ _ => rfl)) (pa_cons pe_str pa_nil)))
        (pg_tup (by rfl) (pgs_cons (pg_name (i := 6) scNames.nd rfl (.inl rfl)) (pgs_cons (pg_name (i := 7) scNames.nd rfl (.inr rfl)) pgs_nil))))
      (pss_cons (ps_for PassesOwn.never rfl (pi_range1 rfl mr (pa_cons pe_int pa_nil)) (pg_name (i := 8) scNames.nd rfl (.inl rfl))
        (pss_one (ps_set (i := 7) scNames.nd rfl (.inr rfl) (pe_op op_add_str (pv 7) (pe_item_str (pv 2) (pe_call GT hr1 rfl gT T.kp bT .nil pass0 (pa_cons (pv 0) (pa_cons pe_int pa_nil))) (fun _ _ => rfl))))))
      (pss_cons (ps_if (PW.pt (pw_and (pt_cmpR op_eq (pv 3) pe_int (nomark _)) (pw_and1 (pt_cmpR op_lt (pv 1) pe_int (nomark _)))))
        (pss_one (ps_ret (pe_call GM hr rfl gM M.kp bM .nil pass0 (pa_cons (pv 0) (pa_cons (pe_lc (own := [("_law_k", 8)]) (g := gName 8) (tt := tYes) (by rfl) scNames.nd (pi_range1 rfl mr (pa_cons (pv 1) pa_nil))
          (blkOk_by (own := [("_law_k", 8)]) (N := nNames) (sc := defScope sNames) (by decide +kernel)) (fun _ _ _ _ _ => pg_name (i := 8) scNames.nd rfl (.inl rfl)) (fun _ _ _ _ _ => pts_nil)
          (fun _ _ _ _ _ => pe_slice sl_str (pe_op op_add_str (pv 7) (pe_item_str (pv 2) (pv 5) (fun _ _ => rfl))) po_none (po_some (pe_op op_add (pv 8) pe_int)))) pa_nil))))) pss_nil)
      psl)), ?_⟩
      intro way cut bg H1 hcut hcut2 hbg B1 k1
      refine ⟨(by show 8 ≤ sizeLine; decide), fun p1 hp1 => ?_⟩
      have np1 := box_ne B1 hp1
      refine ⟨_, rfl, b, 8, n + 3, rfl, box_new B1 hp1, by omega, by decide, by decide, fun r H2 r0 r1 B2 k2 => ?_⟩
      obtain ⟨j, rfl, hj⟩ := draw_at (n := 8) r0 r1 rfl
      have e2 := k2 _ _ np1 upd_same
      have kk2 : But b H H2 := (k1.trans (But.new hp1)).trans k2
      obtain ⟨st, hst, hst17⟩ : ∃ st : Nat, ([.int 1, .int 3, .int 5, .int 7, .int 9, .int 11, .int 15, .int 17] : List V)[j]? = some (.int (st : Int)) ∧ st ≤ 17 := by
        match j, hj with
        | 0, _ => exact ⟨1, rfl, by decide⟩
        | 1, _ => exact ⟨3, rfl, by decide⟩
        | 2, _ => exact ⟨5, rfl, by decide⟩
        | 3, _ => exact ⟨7, rfl, by decide⟩
        | 4, _ => exact ⟨9, rfl, by decide⟩
        | 5, _ => exact ⟨11, rfl, by decide⟩
        | 6, _ => exact ⟨15, rfl, by decide⟩
        | 7, _ => exact ⟨17, rfl, by decide⟩
      refine ⟨p1, _, _, .int (st : Int), rfl, rfl, .of e2, atI_nat hst, (by show 2 ≤ sizeLine; decide), fun p2 hp2 => ?_⟩
      have np2 := box_ne B2 hp2
      refine ⟨p2, _, rfl, .of upd_same, rfl, _, _, rfl, _, _, rfl, rfl, ?_⟩
      have B3 : BoxAt (upd H2 p2 (.tup [.int (st : Int), .str ""])) b (n + 4) := box_new B2 hp2
      have k3 : But b H (upd H2 p2 (.tup [.int (st : Int), .str ""])) := kk2.trans (But.new hp2)
      generalize upd H2 p2 (.tup [.int (st : Int), .str ""]) = H3 at B3 k3
      -- the stem
      refine ⟨_, rfl, by decide, by decide, ?_⟩
      refine for_range (lo := 0) (n := 7) (fun i σ H4 => ∃ (z : Str) (x8 : Option V), σ = [some (.ref b), some (.int (m : Int)), some (.str abc), some (.int (way : Int)), some (.int (cut : Int)), some (.int (bg : Int)), some (.int (st : Int)), some (.str z), x8, none, none, none] ∧ LowZ z ∧ z.length = i ∧ BoxAt H4 b (n + 4 + i) ∧ But b H H4) ?_ ?_ ?_
      · exact ⟨"", none, rfl, (fun c h => nomatch h), rfl, B3, k3⟩
      · rintro i σ H4 hi ⟨z, x8, rfl, hz, hl, B4, k4⟩
        refine ⟨_, rfl, _, rfl, _, rfl, b, 26, n + 4 + i, rfl, B4, by omega, by decide, by decide, fun r H5 r0 r1 B5 k5 => ?_⟩
        obtain ⟨j, rfl, hj⟩ := draw_at (n := 26) r0 r1 rfl
        obtain ⟨c, hc, c97⟩ := abc_at hj
        refine ⟨_, _, c, rfl, rfl, by omega, by omega, (show ((j : Nat) : Int) < ((26 : Nat) : Int) by omega), hc, ?_⟩
        refine ⟨_, _, rfl, rfl, ?_, ?_⟩
        · show z.length + 1 ≤ sizeLine
          rw [sizeLine_eq]
          omega
        · refine ⟨z ++ ⟨#[c]⟩, _, rfl, hz.app (low_one c97), ?_, B5, k4.trans k5⟩
          rw [app_len, hl]
          rfl
      · rintro σ H4 ⟨z, x8, rfl, hz, hl, B4, k4⟩
        -- from here on two ways
        have namesOf : ∀ (zs : List Str) (qs : List Vd), qs.Perm (zs.map fun z => (V.str z, PyData.str z)) → (∀ z ∈ zs, NameZ z) →
            ∃ ys : List Str, qs.map (·.1) = ys.map V.str ∧ ys.length = zs.length ∧ ∀ y ∈ ys, NameZ y := fun zs qs pm hz => by
          have each : ∀ x ∈ qs, ∃ y, x = (V.str y, PyData.str y) ∧ NameZ y := fun x hx => by
            obtain ⟨y, hy, e⟩ := List.mem_map.mp (pm.mem_iff.mp hx)
            exact ⟨y, e.symm, hz y hy⟩
          have hlen : qs.length = zs.length := by
            rw [pm.length_eq, List.length_map]
          rw [← hlen]
          clear pm hlen
          induction qs with
          | nil => exact ⟨[], rfl, rfl, fun y hy => nomatch hy⟩
          | cons x qs ih =>
            obtain ⟨y, rfl, hy⟩ := each x List.mem_cons_self
            obtain ⟨ys, e1, e2, e3⟩ := ih fun x hx => each x (List.mem_cons_of_mem _ hx)
            refine ⟨y :: ys, ?_, congrArg (· + 1) e2, fun u hu => ?_⟩
            · rw [List.map_cons, e1]
              rfl
            · rcases List.mem_cons.mp hu with rfl | hu
              · exact hy
              · exact e3 u hu
        have mInt : (m : Int).toNat = m := Int.toNat_natCast m
        refine ⟨_, rfl, rfl, _, rfl, ite2 (fun _ => ?_) (fun _ => ?_)⟩
        · refine ⟨_, rfl, _, _, rfl, rfl, _, rfl, ite2 (fun h9 => ?_) (fun _ => ?_)⟩
          · have hm9 : (m : Int) < 9 := of_decide_eq_true h9
            refine ⟨_, rfl, _, rfl, _, rfl, by omega, by omega, fun D hD => ?_⟩
            have nD := box_ne B4 hD
            have fD := free_of k4 nD hD
            rw [mInt]
            refine lc_range (lo := 0) (n := m) (fun i H5 => ∃ ys : List Str, H5 D = some (.lst (ys.map V.str)) ∧ ys.length = i ∧ (∀ y ∈ ys, NameZ y) ∧ BoxAt H5 b (n + 11) ∧ But b H H5) ?_ ?_ ?_
            · exact ⟨[], upd_same, rfl, (fun y h => nomatch h), box_new B4 hD, but_upd k4 fD⟩
            · rintro i H5 hi ⟨ys, e5, hl5, hy, B5, k5⟩
              refine ⟨rfl, ?_⟩
              unfold tYes
              dsimp only
              rw [if_pos rfl]
              obtain ⟨c, hc, c97⟩ := abc_at hbg
              refine ⟨_, rfl, _, rfl, _, rfl, _, _, c, rfl, rfl, by omega, by omega, (show ((bg : Nat) : Int) < ((26 : Nat) : Int) by omega), hc, _, _, rfl, rfl, ?_, ?_⟩
              · show z.length + 1 ≤ sizeLine
                rw [sizeLine_eq]
                omega
              have lz : (z ++ ⟨#[c]⟩).length = 8 := by
                rw [app_len, hl]
                rfl
              refine ⟨_, rfl, _, _, rfl, rfl, _, rfl, _, rfl, small_size (by omega), ?_⟩
              have e0 : (0 + (i : Int) + 1 : Int) = ((i + 1 : Nat) : Int) := by omega
              rw [e0]
              have cl := cut_len (z ++ ⟨#[c]⟩) (i + 1)
              refine ⟨_, e5, ?_, ys ++ [cutS (z ++ ⟨#[c]⟩) none (some ((i + 1 : Nat) : Int))], ?_, ?_, ?_, ?_, ?_⟩
              · rw [List.length_map]
                exact small1000 (by omega)
              · rw [upd_same, List.map_append]
                rfl
              · rw [List.length_append, hl5]
                rfl
              · intro y h
                rcases List.mem_append.mp h with h | h
                · exact hy y h
                · rw [List.mem_singleton.mp h]
                  exact ⟨(hz.app (low_one c97)).cut _ _, by omega, by omega⟩
              · exact box_upd B5 nD
              · exact but_upd k5 fD
            · rintro H5 ⟨ys, e5, hl5, hy, B5, k5⟩
              refine ⟨b, D, n + 11, ys.map fun z => (V.str z, PyData.str z), rfl, B5, ?_, .inl (.of ?_), ?_, fun p H6 qs pm np e6 B6 k6 => ?_⟩
              · rw [List.length_map]
                omega
              · rw [e5, List.map_map]
                rfl
              · intro x hx
                obtain ⟨y, hyy, rfl⟩ := List.mem_map.mp hx
                exact ⟨(hy y hyy).1.lay, fun H' _ => .str y⟩
              · obtain ⟨us, u1, u2, u3⟩ := namesOf ys qs pm hy
                rw [u1] at e6
                rw [List.length_map, hl5] at B6
                exact q p H6 us (u2.trans hl5) u3 (free_of k5 (box_ne B5 np) np) e6 B6 (k5.trans k6)
          · exact qsl way cut bg st z x8 H4 hcut hcut2 hbg hst17 hz hl B4 k4
        · exact qsl way cut bg st z x8 H4 hcut hcut2 hbg hst17 hz hl B4 k4
    refine ⟨_, pss_cons (ps_set (i := 2) scNames.nd rfl (.inr rfl) pe_str)
      (pss_cons (ps_asg (pe_tup (pa_cons (pe_call GT hr1 rfl gT T.kp bT .nil pass0 (pa_cons (pv 0) (pa_cons pe_int pa_nil)))
          (pa_cons (pe_call GT hr1 rfl gT T.kp bT .nil pass0 (pa_cons (pv 0) (pa_cons (pe_ifExp (pt_cmpR op_lt (pv 1) pe_int (nomark _)) pe_int pe_int) pa_nil)))
          (pa_cons (pe_call GT hr1 rfl gT T.kp bT .nil pass0 (pa_cons (pv 0) (pa_cons pe_int pa_nil))) pa_nil))))
        (pg_tup (by rfl) (pgs_cons (pg_name (i := 3) scNames.nd rfl (.inl rfl)) (pgs_cons (pg_name (i := 4) scNames.nd rfl (.inl rfl)) (pgs_cons (pg_name (i := 5) scNames.nd rfl (.inr rfl)) pgs_nil))))) pl), ?_⟩
    refine ⟨_, rfl, b, 4, n, rfl, B, by omega, by decide, by decide, fun way H1 w0 w1 B1 k1 => ?_⟩
    obtain ⟨way, rfl, _⟩ := draw_at (n := 4) w0 w1 rfl
    refine ⟨_, rfl, _, rfl, _, _, rfl, rfl, _, rfl, ite2 (fun hm27 => ?_) (fun hm27 => ?_)⟩
    · refine ⟨b, 8, n + 1, rfl, B1, by omega, by decide, by decide, fun cut H2 c0 c1 B2 k2 => ?_⟩
      obtain ⟨cut, rfl, hcut⟩ := draw_at (n := 8) c0 c1 rfl
      refine ⟨_, rfl, b, 26, n + 2, rfl, B2, by omega, by decide, by decide, fun bg H3 g0 g1 B3 k3 => ?_⟩
      obtain ⟨bg, rfl, hbg⟩ := draw_at (n := 26) g0 g1 rfl
      refine ⟨(by show 3 ≤ sizeLine; decide), fun p hp => ⟨p, _, rfl, .of upd_same, rfl, _, _, rfl, _, _, rfl, _, _, rfl, rfl, ?_⟩⟩
      have hm' : (m : Int) < 27 := of_decide_eq_true hm27
      exact ql way cut bg _ (by omega) (by omega) hbg (box_new B3 hp) (((k1.trans k2).trans k3).trans (But.new hp))
    · refine ⟨b, 7, n + 1, rfl, B1, by omega, by decide, by decide, fun cut H2 c0 c1 B2 k2 => ?_⟩
      obtain ⟨cut, rfl, hcut⟩ := draw_at (n := 7) c0 c1 rfl
      refine ⟨_, rfl, b, 26, n + 2, rfl, B2, by omega, by decide, by decide, fun bg H3 g0 g1 B3 k3 => ?_⟩
      obtain ⟨bg, rfl, hbg⟩ := draw_at (n := 26) g0 g1 rfl
      refine ⟨(by show 3 ≤ sizeLine; decide), fun p hp => ⟨p, _, rfl, .of upd_same, rfl, _, _, rfl, _, _, rfl, _, _, rfl, rfl, ?_⟩⟩
      exact ql way cut bg _ (by omega) (by omega) hbg (box_new B3 hp) (((k1.trans k2).trans k3).trans (But.new hp))
end
end G
set_option Elab.async false
set_option linter.all false
set_option maxRecDepth 100000
set_option maxHeartbeats 2000000
/-! U1: a method that says super().__init__(..): its own activation is known while it runs. -/
namespace G
open PySem PySem.Spec PyProof.Rows L2 NdefX

/-- one statement, of a body whose activation is on top -/
structure PSa (X : Cx) (body : List Stmt) (st : Stmt) (t : TS) : Prop where
  run : ∀ (pins : List (Addr × Obj)) (s : Shared) (σ : L2.St) (H : Hp) (D : Ends), Inv X pins σ H s → t D σ H → _root_.PySem.wpAt (model X.prog X.w) X.A (.func body X.env) (exec st X.env) (SP X pins D) X.xe s
/-- .. several -/
structure PSsa (X : Cx) (body : List Stmt) (st : List Stmt) (t : TS) : Prop where
  run : ∀ (pins : List (Addr × Obj)) (s : Shared) (σ : L2.St) (H : Hp) (D : Ends), Inv X pins σ H s → t D σ H → _root_.PySem.wpAt (model X.prog X.w) X.A (.func body X.env) (execs st X.env) (SP X pins D) X.xe s
section
variable {X : Cx} {body rest : List Stmt} {st : Stmt} {t u : TS}
theorem psa (h : PS X st t) : PSa X body st t := ⟨fun pins s σ H D I q => wpAt_of_wpAny (h.run pins s σ H D I q)⟩
theorem pssa {sts : List Stmt} (h : PSs X sts t) : PSsa X body sts t := ⟨fun pins s σ H D I q => wpAt_of_wpAny (h.run pins s σ H D I q)⟩
theorem pssa_cons (h1 : PSa X body st t) (h2 : PSsa X body rest u) : PSsa X body (st :: rest) (tSeq t u) := by
  refine ⟨fun pins s σ H D I h => ks_wpAt_execs_cons (ks_wpAt_mono (h1.run pins s σ H { D with nx := u D } I h) (fun f s1 q => ?_) fun _ _ z => z)⟩
  cases f with
  | next =>
    obtain ⟨σ', H', I', q⟩ := q
    exact h2.run pins s1 σ' H' D I' q
  | ret v => exact q
  | brk => exact q
  | cont => exact q
end

/-- what of the text the words super().__init__ rest on, said in the def at f, of the class at D, to an instance of the class at C; f2: the __init__ found -/
structure SupOf (P : Program) (K : PySem.W.Frag) (f cda cc D C f2 : Addr) (x : Str) : Prop where
  fn : ∃ oc od fd sl ar, K.lookup f = some ⟨oc, od, .func fd, sl⟩ ∧ (fd.params.posonlyargs ++ fd.params.args).head? = some ar ∧ ar.arg = x
  code : ∃ oc od vs sl file tf, K.lookup cda = some ⟨oc, od, .fields vs, sl⟩ ∧ vs[2]? = some (.str file tf) ∧ ((P.main.file : Str) == file) = true
  cell : ∃ oc od sl, K.lookup cc = some ⟨oc, od, .cell (some (.ref D)), sl⟩
  isc : ∃ cd, PySem.W.clsIn K D = some cd
  isC : ∃ cd, PySem.W.clsIn K C = some cd
  sub : PySem.W.mroIn K C (.ref D) = some true
  thd : PySem.W.nsIn K cStatics "thirdparty.any" = some none
  sup : PySem.W.ks_superIn K C D "__init__" = some (some (.ref f2))
  ty : PySem.W.typeIn K (.ref f2) = some (.type "function")
  fi : PySem.W.fnIn K f2 = true
  top : (P.main.scope.names.lookup ("super" : Str)).isSome = false

/-- super().__init__(..), the instance in the slot i -/
def tSup (i : Nat) (C : Addr) (sp : Sp) (E : XK) (t : TA) : TS := fun D σ H => ∃ a dx fs, σ[i]? = some (some (.ref a)) ∧ H a = some (.ins C dx fs) ∧
  t σ H fun vs H1 => sp (.ref a :: vs) H1 (fun _ H2 => D.nx σ H2) E

section
variable {X : Cx} {CX : CXT} {k i : Nat} {f cda cc D C f2 : Addr} {x : Str} {sp : Sp} {E : XK} {body : List Stmt} {e : Expr} {es : List Expr} {t : TA} {p0 p1 apos pos spos : Pos} {pl : Sem Bool}
theorem cls_at {h : Heap} {K : PySem.W.Frag} {D : Addr} {cd : ClassData} (I : K.In h) (hD : PySem.W.clsIn K D = some cd) : ∃ o, h.get? D = some o ∧ o.data = .cls cd := by
  unfold PySem.W.clsIn at hD
  split at hD
  · rename_i c d cd' sl ho
    cases hD
    exact ⟨_, I _ _ ho, rfl⟩
  · cases hD
/-- the object super() -/
theorem super_base {pins : List (Addr × Obj)} {s : Shared} {σ : L2.St} {H : Hp} {whole : Sem Value} {a dx : Addr} {fs : List (Str × V)} {Q : Value → Shared → Prop}
    (I : Inv X pins σ H s) (S : SupOf X.prog X.K f cda cc D C f2 x) (hfu : X.env.func = some f) (hco : X.env.code = .ref cda) (hcl : X.env.cells.lookup ("__class__" : Str) = some cc)
    (hks : X.env.kindOf "super" = some .globalImplicit) (hkc : X.env.kindOf "__class__" = some .free) (hkx : X.env.kindOf x = some .local) (hm : X.mg "super" = none) (hN : X.N[i]? = some x)
    (hs : σ[i]? = some (some (.ref a))) (ha : H a = some (.ins C dx fs))
    (h : ∀ s', Inv X pins σ H s' → s'.heap.get? s.heap.objs.size = some { cls := .type "super", dict := none, data := .fields #[.ref D, .ref a, .ref C], slots := #[] } → Q (.ref s.heap.objs.size) s') :
    _root_.PySem.wpAt (model X.prog X.w) X.A (.func body X.env) (attributeBase (.Call (.Name "super" p0) [] [] p1) "__init__" X.env whole) Q X.xe s := by
  obtain ⟨oc, od, fd, sl, ar, lk, hp, hx⟩ := S.fn
  obtain ⟨oc2, od2, vs, sl2, file, tf, lk2, hv, hfile⟩ := S.code
  obtain ⟨oc3, od3, sl3, lk3⟩ := S.cell
  obtain ⟨cdD, hD⟩ := S.isc
  have inK := I.kIn
  obtain ⟨oD, hD1, hD2⟩ := cls_at inK hD
  obtain ⟨mb, b1, b2⟩ := I.mod.blt
  obtain ⟨m, hn, hl⟩ := I.loc
  obtain ⟨u, ru, hlook⟩ := hl i x _ hN hs (.inl hkx)
  obtain rfl : u = Value.ref a := ru
  have hmx : m x = some (.ref a) := by
    rcases hlook with ⟨_, z⟩ | ⟨z, _⟩
    · exact z
    · rw [hkx] at z
      rcases z with z | z <;> cases z
  have hob : s.heap.get? a = some (PySem.W.instObj C dx) := (show ObjOk X.prog X.w H s.heap a (.ins C dx fs) from I.hok a _ ha).2.2.2.1
  refine ks_wpAt_super_base hks hkc (by decide) hfu (inK _ _ lk) rfl hp hco (inK _ _ lk2) rfl hv hfile S.top ?_
  refine PySem.W.ks_loadName_global I.ok.kind hks (Calls.loadGlobal_builtin (by rw [I.ok.glob]; exact I.mod.glob.keeps I.bk) hm (by rw [I.ok.blt]; exact b1.keeps I.bk) ((b2 "super" (by decide)).trans (by first | rfl | decide +kernel)) ⟨rfl, ?_⟩)
  refine wpAny_loadName_free I.ok.kind hkc hcl ⟨_, inK _ _ lk3, rfl⟩ ?_
  rw [hx]
  refine wpAny_loadName_local I.ok.kind hkx hn hmx ?_
  obtain ⟨hh, g, d, tk, os⟩ := s
  refine ks_wpAny_isType_cls hD1 hD2 ⟨rfl, ?_⟩
  refine ks_wpAny_call_super hD1 hD2 hob rfl (fun c z => nomatch z) (PySem.W.looks_mroIn inK S.sub) fun h' e1 kp => ?_
  exact h _ (I.kept (t' := tk) kp) e1
/-- super().__init__(e, ..) -/
theorem psa_super (S : SupOf X.prog X.K f cda cc D C f2 x) (F : FnR X.prog X.w X.K X.mg X.base CX k f2 sp) (hr : Room k X.A) (hx : Passes CX X E) (hfu : X.env.func = some f) (hco : X.env.code = .ref cda) (hcl : X.env.cells.lookup ("__class__" : Str) = some cc)
    (hks : X.env.kindOf "super" = some .globalImplicit) (hkc : X.env.kindOf "__class__" = some .free) (hkx : X.env.kindOf x = some .local) (hm : X.mg "super" = none) (hN : X.N[i]? = some x) (ha : PA X (e :: es) t)
    (hst : starEach (e :: es) X.env = (false, eval e X.env) :: starEach es X.env := by rfl) (hpl : (backTo pos (starEach es X.env)).any (·.1) = false := by rfl)
    (ht : eval (.Call (.Attribute (.Call (.Name "super" p0) [] [] p1) "__init__" apos) (e :: es) [] pos) X.env = (do
      let ov ← attributeBase (.Call (.Name "super" p0) [] [] p1) "__init__" X.env (eval (.Call (.Name "super" p0) [] [] p1) X.env)
      standAt apos.atName
      let (f, first) ← holding [ov] (getMethod ov "__init__" pl)
      callWith pos f first (backTo pos (starEach (e :: es) X.env)) []) := by rfl)
    (hw : swapsWith (.Call (.Attribute (.Call (.Name "super" p0) [] [] p1) "__init__" apos) (e :: es) [] pos) none spos.line X.env = pure false := by rfl) :
    PSa X body (.Expr (.Call (.Attribute (.Call (.Name "super" p0) [] [] p1) "__init__" apos) (e :: es) [] pos) spos) (tSup i C sp E t) := by
  refine ⟨fun pins s σ H Dn I h => ?_⟩
  obtain ⟨a, dx, fs, h1, h2, q⟩ := h
  refine ks_wpAt_Expr_any (ks_wpAt_MethodCall (pl := pl) (super_base I S hfu hco hcl hks hkc hkx hm hN h1 h2 fun s1 I1 hso => ?_) ht) I.quiet hw
  obtain ⟨cdC, hC⟩ := S.isC
  have inK := I1.kIn
  have hob : s1.heap.get? a = some (PySem.W.instObj C dx) := (show ObjOk X.prog X.w H s1.heap a (.ins C dx fs) from I1.hok a _ h2).2.2.2.1
  obtain ⟨oC, hC1, hC2⟩ := cls_at inK hC
  have hne : a ≠ C := fun z => by
    rw [z, hC1] at hob
    rw [Option.some.inj hob] at hC2
    cases hC2
  obtain ⟨of, hof, hofc⟩ : ∃ of, s1.heap.get? f2 = some of ∧ of.cls = .type "function" := by
    have ht' : (X.K.lookup f2).map (·.cls) = some (.type "function") := S.ty
    cases z : X.K.lookup f2 with
    | none =>
      rw [z] at ht'
      cases ht'
    | some of =>
      rw [z] at ht'
      exact ⟨of, inK _ _ z, Option.some.inj ht'⟩
  have hsup := S.sup
  unfold PySem.W.ks_superIn at hsup
  rw [hC] at hsup
  obtain ⟨hh, g, d, tk, os⟩ := s1
  refine ks_wpAny_getMethod_super hso (PySem.W.looks_opaque inK S.thd) (l₀ := cdC.mro) ((PySem.W.looks_clsIn inK hC).andThen .now) rfl inK hsup hof hofc hne (by decide) ?_
  have I2 := ClX.met_new (g := f2) (C := a) I1
  refine ClX.callwith_cm I2 (ClX.base_none I1 (Nat.le_refl _)) S.fi (thn (ha.run pos _ _ σ H _ I2 q) fun us s3 ⟨vs, H3, I3, r3, q3⟩ => ⟨⟨ClX.pin_at I3, I3.kIn⟩, ?_⟩) hst hpl
  refine thn (ClX.run_cm F hr hx I3 r3 q3) fun _ _ y => ?_
  obtain ⟨v, H4, I4, _, q4⟩ := y
  exact ⟨σ, H4, I4, q4⟩
end

/-! ### the method -/
/-- THE RULE: a method that captures __class__ (it says super()), by its body -/
theorem fnx_of {CX : CXT} {P : Program} {w : World} {K : PySem.W.Frag} {mg : Str → Option Value} {base : Heap} {k : Nat} {f cda cc : Addr} {name qual : Str} {params : Arguments} {body : List Stmt} {scope : Scope} {dV kV doc pm ct oc : Value} {an od : Option Addr}
    {osl : Array (Option Value)} {N ps : List Str} {sp : Sp} (lk : K.lookup f = some ⟨oc, od, .func (PySem.W.ksFn name qual params body scope dV kV doc pm an (.ref cda) ct cc), osl⟩) (hcd : PySem.W.codeIn K (.ref cda) qual = true)
    (hcell : ∃ oc od sl v, K.lookup cc = some ⟨oc, od, .cell v, sl⟩) (S : NScope N ps ["__class__"] scope) (len : ∀ vs H Q E, sp vs H Q E → vs.length = ps.length)
    (hbody : ∀ (A : Around) (outer : List Env) (s : Shared) (H : Hp) (vs : List V) (Q : VK) (E : XK), Room k (A.deeper (envF ⟨name, qual, params, body, scope, [("__class__", cc)], cda⟩ f s.heap.objs.size)) → sp vs H Q E →
      ∃ t, PSsa (ncx CX P w K mg base N ⟨name, qual, params, body, scope, [("__class__", cc)], cda⟩ f A outer s H E) body body t ∧ t { nx := fun _ H' => Q .non H', rt := Q } (startF N vs [none]) H) :
    FnOk P w K mg base CX (k + 1) f (PySem.W.ksFn name qual params body scope dV kV doc pm an (.ref cda) ct cc) ps sp := by
  refine ⟨len, fun A outer s H args us vs Q E hr e0 hb r hsp => ?_⟩
  have hl := len _ _ _ _ hsp
  have inK : K.In s.heap := e0.mod.kin.keeps fun b o e => (e0.bs b o e).1
  have lim : s.heap.NoLimit := e0.mod.nolimit.keeps fun b o e => (e0.bs b o e).1
  obtain ⟨oc3, od3, sl3, v3, lk3⟩ := hcell
  have C : CellsAt [(("__class__" : Str), cc)] ["__class__"] [none] s.heap H := by
    have one : ∀ {y : Str} {c : Addr}, List.lookup y [(("__class__" : Str), cc)] = some c → y = "__class__" ∧ c = cc := fun {y c} z => by
      have z2 := PySem.mem_of_lookup z
      rw [List.mem_singleton] at z2
      exact ⟨congrArg Prod.fst z2, congrArg Prod.snd z2⟩
    refine ⟨rfl, fun y c z => ?_, fun y y' c z z' => (one z).1.trans (one z').1.symm, fun i y z => ?_⟩
    · obtain ⟨_, rfl⟩ := one z
      exact ⟨(e0.bs _ _ (e0.mod.kin _ _ lk3)).2, v3, _, inK _ _ lk3, rfl⟩
    · have hy : y = "__class__" := by
        have z2 := List.mem_of_getElem? z
        rw [List.mem_singleton] at z2
        exact z2
      subst hy
      refine ⟨cc, by simp [List.lookup], fun v z => ?_⟩
      cases i with
      | zero => cases z
      | succ j => cases z
  refine codeAny_call_function hr.depth (inK _ _ lk) rfl S.co S.gen rfl (PySem.W.codeRec_of inK hcd) (hb _ _ _ _ ?_)
  refine wpAny_newFunctionEnv S.nocell (fun ⟨n, _⟩ hy => S.par n (List.of_mem_zip hy).1) (fun h₁ hns hsb => ⟨lim.fresh _ hsb, ?_⟩) S.kind
  show codeAny _ _ (.func body (envF ⟨name, qual, params, body, scope, [("__class__", cc)], cda⟩ f s.heap.objs.size)) _ _
  refine ks_codeAny_funcAt ?_
  have kp : ∀ b o, s.heap.get? b = some o → h₁.get? b = some o := fun b o e => hsb.extBut b o (Nat.ne_of_lt (Heap.lt_size e)) (Heap.get?_push_of_some _ e)
  obtain ⟨t, ht, hq⟩ := hbody A outer s H vs Q E (hr.deeper _) hsp
  have I : Inv (ncx CX P w K mg base N ⟨name, qual, params, body, scope, [("__class__", cc)], cda⟩ f A outer s H E) [] (startF N vs [none]) H { s with heap := h₁, toks := s.toks + (ps.zip us).length } := inv_startN S hr.hd e0 hl r C hns kp
  refine ks_wpAt_mono (ht.run [] _ (startF N vs [none]) H _ I hq) (fun fl s' hs => ?_) fun e s' hs => hs
  have fin : ∀ {σ' : L2.St} {H' : Hp} {v : V} {u : Value}, Inv (ncx CX P w K mg base N ⟨name, qual, params, body, scope, [("__class__", cc)], cda⟩ f A outer s H E) [] σ' H' s' → L2.RelV v u → Q v H' → CE outer P w H s Q u s' :=
    fun {σ' H' v u} J rv q => ⟨v, H', J.os, J.bare, J.base, J.hok, rv, q⟩
  cases fl with
  | ret u =>
    obtain ⟨v, σ', H', J, rv, q⟩ := hs
    exact fin J rv q
  | next =>
    obtain ⟨σ', H', J, q⟩ := hs
    exact fin (v := V.non) (u := Value.none) J rfl q
  | brk =>
    obtain ⟨_, _, _, q⟩ := hs
    exact False.elim q
  | cont =>
    obtain ⟨_, _, _, q⟩ := hs
    exact False.elim q
end G
set_option Elab.async false
set_option linter.all false
set_option maxRecDepth 100000
set_option maxHeartbeats 2000000
/-! P0: isinstance by the kind of a thing. -/
namespace G
open PySem PySem.Spec PyProof.Rows L2
def isI : PyData → Bool
  | .int _ => true
  | .bool _ => true
  | _ => false
def isB : PyData → Bool
  | .bool _ => true
  | _ => false
def isTup : PyData → Bool
  | .tuple _ => true
  | _ => false
def isLst : PyData → Bool
  | .list _ => true
  | _ => false
def isDic : PyData → Bool
  | .dict _ => true
  | _ => false
theorem kit_i {K : PySem.W.Frag} : ∀ d : PyData, PySem.W.kitOne K (.type (tyN d)) (.type "int") = some (isI d)
  | .none => kit_ty (a := "NoneType") (b := "int") (r := false) (by decide +kernel)
  | .bool _ => kit_ty (a := "bool") (b := "int") (r := true) (by decide +kernel)
  | .int _ => kit_ty (a := "int") (b := "int") (r := true) (by decide +kernel)
  | .str _ => kit_ty (a := "str") (b := "int") (r := false) (by decide +kernel)
  | .list _ => kit_ty (a := "list") (b := "int") (r := false) (by decide +kernel)
  | .tuple _ => kit_ty (a := "tuple") (b := "int") (r := false) (by decide +kernel)
  | .dict _ => kit_ty (a := "dict") (b := "int") (r := false) (by decide +kernel)
theorem kit_b {K : PySem.W.Frag} : ∀ d : PyData, PySem.W.kitOne K (.type (tyN d)) (.type "bool") = some (isB d)
  | .none => kit_ty (a := "NoneType") (b := "bool") (r := false) (by decide +kernel)
  | .bool _ => kit_ty (a := "bool") (b := "bool") (r := true) (by decide +kernel)
  | .int _ => kit_ty (a := "int") (b := "bool") (r := false) (by decide +kernel)
  | .str _ => kit_ty (a := "str") (b := "bool") (r := false) (by decide +kernel)
  | .list _ => kit_ty (a := "list") (b := "bool") (r := false) (by decide +kernel)
  | .tuple _ => kit_ty (a := "tuple") (b := "bool") (r := false) (by decide +kernel)
  | .dict _ => kit_ty (a := "dict") (b := "bool") (r := false) (by decide +kernel)
theorem kit_t {K : PySem.W.Frag} : ∀ d : PyData, PySem.W.kitOne K (.type (tyN d)) (.type "tuple") = some (isTup d)
  | .none => kit_ty (a := "NoneType") (b := "tuple") (r := false) (by decide +kernel)
  | .bool _ => kit_ty (a := "bool") (b := "tuple") (r := false) (by decide +kernel)
  | .int _ => kit_ty (a := "int") (b := "tuple") (r := false) (by decide +kernel)
  | .str _ => kit_ty (a := "str") (b := "tuple") (r := false) (by decide +kernel)
  | .list _ => kit_ty (a := "list") (b := "tuple") (r := false) (by decide +kernel)
  | .tuple _ => kit_ty (a := "tuple") (b := "tuple") (r := true) (by decide +kernel)
  | .dict _ => kit_ty (a := "dict") (b := "tuple") (r := false) (by decide +kernel)
theorem kit_l {K : PySem.W.Frag} : ∀ d : PyData, PySem.W.kitOne K (.type (tyN d)) (.type "list") = some (isLst d)
  | .none => kit_ty (a := "NoneType") (b := "list") (r := false) (by decide +kernel)
  | .bool _ => kit_ty (a := "bool") (b := "list") (r := false) (by decide +kernel)
  | .int _ => kit_ty (a := "int") (b := "list") (r := false) (by decide +kernel)
  | .str _ => kit_ty (a := "str") (b := "list") (r := false) (by decide +kernel)
  | .list _ => kit_ty (a := "list") (b := "list") (r := true) (by decide +kernel)
  | .tuple _ => kit_ty (a := "tuple") (b := "list") (r := false) (by decide +kernel)
  | .dict _ => kit_ty (a := "dict") (b := "list") (r := false) (by decide +kernel)
theorem kit_d {K : PySem.W.Frag} : ∀ d : PyData, PySem.W.kitOne K (.type (tyN d)) (.type "dict") = some (isDic d)
  | .none => kit_ty (a := "NoneType") (b := "dict") (r := false) (by decide +kernel)
  | .bool _ => kit_ty (a := "bool") (b := "dict") (r := false) (by decide +kernel)
  | .int _ => kit_ty (a := "int") (b := "dict") (r := false) (by decide +kernel)
  | .str _ => kit_ty (a := "str") (b := "dict") (r := false) (by decide +kernel)
  | .list _ => kit_ty (a := "list") (b := "dict") (r := false) (by decide +kernel)
  | .tuple _ => kit_ty (a := "tuple") (b := "dict") (r := false) (by decide +kernel)
  | .dict _ => kit_ty (a := "dict") (b := "dict") (r := true) (by decide +kernel)
def isS : PyData → Bool
  | .str _ => true
  | _ => false
theorem kit_s {K : PySem.W.Frag} : ∀ d : PyData, PySem.W.kitOne K (.type (tyN d)) (.type "str") = some (isS d)
  | .none => kit_ty (a := "NoneType") (b := "str") (r := false) (by decide +kernel)
  | .bool _ => kit_ty (a := "bool") (b := "str") (r := false) (by decide +kernel)
  | .int _ => kit_ty (a := "int") (b := "str") (r := false) (by decide +kernel)
  | .str _ => kit_ty (a := "str") (b := "str") (r := true) (by decide +kernel)
  | .list _ => kit_ty (a := "list") (b := "str") (r := false) (by decide +kernel)
  | .tuple _ => kit_ty (a := "tuple") (b := "str") (r := false) (by decide +kernel)
  | .dict _ => kit_ty (a := "dict") (b := "str") (r := false) (by decide +kernel)
/-- isinstance(x, int), by name -/
theorem pt_isi {X : Cx} {y : Str} {py : Pos} {te : TE} {n : Str} {p q pos : Pos} (T : String) (he : PE X (.Name y py) te) (hg : Gl X "isinstance" := by rfl) (hm : X.mg "isinstance" = none) (gn : Gl X n := by rfl) (mn : X.mg n = none) (hv : bootBuiltins n = some (.type T) := by decide +kernel)
    (hn : n ≠ "__name__" := by decide) (hd : (n == ("__debug__" : Str)) = false := by decide) :
    PE X (.Call (.Name "isinstance" p) [.Name y py, .Name n q] [] pos) (tCB (rIsi X.K) (tCons te (tCons (tC (.ty T)) tNil))) :=
  pe_callB call_isi hg hm (by decide +kernel) (pa_cons he (pa_cons (pe_bltn gn mn hv rfl hn hd) pa_nil))

end G
set_option Elab.async false
set_option linter.all false
set_option maxRecDepth 100000
set_option maxHeartbeats 2000000
/-! W1: checks that pass. -/
namespace G
open PySem PySem.Spec PyProof.Rows L2 NdefX
abbrev sIsInt : Stmt := topS 14
abbrev sIsName : Stmt := topS 15
theorem scIsInt : FnScope ["value", "low", "high"] ["value", "low", "high"] (defScope sIsInt) := ⟨rfl, rfl, rfl, by decide +kernel, rfl, by decide +kernel, by decide +kernel⟩
theorem scIsName : FnScope ["value", "letter"] ["value"] (defScope sIsName) := ⟨rfl, rfl, rfl, by decide +kernel, rfl, by decide +kernel, by decide +kernel⟩
def spIsInt : Sp := fun vs H Q _ => ∃ v lo hi : Int, vs = [.int v, .int lo, .int hi] ∧ Q (.bl (decide (lo ≤ v) && decide (v ≤ hi))) H
def spIsName : Sp := fun vs H Q _ => ∃ z : Str, vs = [.str z] ∧ NameZ z ∧ ∀ H', Same H H' → Q (.bl true) H'
section
variable {P : Program} {w : World} {K : PySem.W.Frag} {mg : Str → Option Value} {base : Heap}
theorem ok_isint {f : Addr} {fd : FuncData} (F : Fun K "is_integer" "is_integer" sIsInt f fd) (mi : mg "isinstance" = none) (mn : mg "int" = none) (mb : mg "bool" = none) : FnOk P w K mg base CX0 1 f fd ["value", "low", "high"] spIsInt := by
  refine F.ok scIsInt (fun vs H Q E h => ?_) (fun cdv A outer s H vs Q E hr h => ?_)
  · obtain ⟨v, lo, hi, rfl, _⟩ := h
    rfl
  · obtain ⟨v, lo, hi, rfl, q⟩ := h
    refine ⟨_, pss_cons (ps_if (PW.pt (pw_or (pt_not (pt_val (pt_isi "int" (pv 0) (hm := mi) (mn := mn)))) (pw_or1 (pt_val (pt_isi "bool" (pv 0) (hm := mi) (mn := mb)))))) (pss_one (ps_ret pe_bl)) pss_nil)
      (pss_one (ps_ret (pe_chain op_le op_le (pv 1) (pv 0) (pv 2)))), ?_⟩
    have hR : Rp K H (.int v) (.int v) := .int v
    refine ⟨_, rfl, _, _, _, _, _, rfl, .ty _, rp_ty hR, kit_i (.int v), _, rfl, iteF ?_⟩
    refine ⟨_, rfl, _, _, _, _, _, rfl, .ty _, rp_ty hR, kit_b (.int v), _, rfl, iteF ?_⟩
    refine ⟨_, rfl, _, rfl, _, _, rfl, rfl, _, rfl, ?_⟩
    cases e : decide (lo ≤ v) with
    | false =>
      refine iteF ?_
      rw [e] at q
      exact q
    | true =>
      refine iteT ?_
      rw [e] at q
      exact ⟨_, rfl, _, _, rfl, rfl, q⟩
theorem ok_isname {f : Addr} {fd : FuncData} {t1 t2 : Tok} (F : Fun K "is_name" "is_name" sIsName f fd) (gM : mg "MOST_LETTERS" = some (.int 8 t1)) (gL : mg "LETTERS" = some (.str abc t2)) (mi : mg "isinstance" = none) (ms : mg "str" = none) (ml : mg "len" = none) (ma : mg "all" = none) :
    FnOk P w K mg base CX0 1 f fd ["value"] spIsName := by
  refine F.ok scIsName (fun vs H Q E h => ?_) (fun cdv A outer s H vs Q E hr h => ?_)
  · obtain ⟨z, rfl, _⟩ := h
    rfl
  · obtain ⟨z, rfl, ⟨hz, h1, h8⟩, q⟩ := h
    refine ⟨_, pss_cons (ps_if (PW.pt (pw_or (pt_not (pt_val (pt_isi "str" (pv 0) (hm := mi) (mn := ms)))) (pw_or1 (pt_not (pt_chain op_le op_le pe_int (pe_callB call_len_str (by rfl) ml PySem.boot_len (pa_cons (pv 0) pa_nil)) (pe_glob (v := .int 8) rfl gM ⟨_, rfl⟩))))))
        (pss_one (ps_ret pe_bl)) pss_nil)
      (pss_one (ps_ret (pe_callB (cr_all rfl) (by rfl) ma (by decide +kernel) (pa_cons (pe_lc (own := [("letter", 1)]) (g := gName 1) (tt := tYes) (by rfl) scIsName.nd (pi_str (pv 0))
        (blkOk_by (own := [("letter", 1)]) (N := ["value", "letter"]) (sc := defScope sIsName) (by decide +kernel)) (fun _ _ _ _ _ => pg_name (i := 1) scIsName.nd rfl (.inl rfl)) (fun _ _ _ _ _ => pts_nil)
        (fun _ _ _ _ _ => pe_cmpR op_in_sign (pv 1) (pe_glob (v := .str abc) rfl gL ⟨_, rfl⟩) (by rfl))) pa_nil)))), ?_⟩
    have hR : Rp K H (.str z) (.str z) := .str z
    refine ⟨_, rfl, _, _, _, _, _, rfl, .ty _, rp_ty hR, kit_s (.str z), _, rfl, iteF ?_⟩
    refine ⟨_, rfl, z, rfl, small_size (by omega), _, _, rfl, rfl, _, rfl, ?_⟩
    rw [decide_eq_true (show (1 : Int) ≤ (z.length : Int) by omega)]
    refine iteT ⟨_, _, rfl, rfl, _, rfl, ?_⟩
    rw [decide_eq_true (show (z.length : Int) ≤ 8 by omega)]
    refine iteF ?_
    refine ⟨_, rfl, z, rfl, fun D hD => ?_⟩
    refine lc_it walk_str (fun i H2 => Same H H2 ∧ H2 D = some (.lst ((List.replicate i true).map V.bl))) ?_ ?_ ?_ ?_
    · exact ⟨Same.new hD, upd_same⟩
    · exact fun _ _ _ _ => trivial
    · rintro i x H2 H3 hi ⟨s2, e2⟩ ⟨rfl, c, hc, rfl⟩
      have hc2 : (cs z)[i]? = some c := by
        rw [← hc, ← Array.getElem?_toList]
      have hzs : z.cps.size = z.length := rfl
      have c97 := hz c (List.mem_of_getElem? hc2)
      refine ⟨rfl, ?_⟩
      unfold tYes
      dsimp only
      rw [if_pos rfl]
      refine ⟨_, rfl, c, _, rfl, rfl, _, e2, ?_, fun a o e => ?_, ?_⟩
      · rw [List.length_map, List.length_replicate]
        exact Nat.lt_of_lt_of_le hi (small_size (by omega))
      · rw [upd_ne (ne_of_none e hD)]
        exact s2 _ _ e
      · have hin : decide (c ∈ abc.cps.toList) = true := decide_eq_true (by
          have e : abc.cps.toList = (List.range 26).map (97 + ·) := by decide +kernel
          rw [e]
          exact List.mem_map.mpr ⟨c - 97, List.mem_range.mpr (by omega), by omega⟩)
        rw [upd_same, hin, List.replicate_succ', List.map_append]
        rfl
    · rintro H2 ⟨s2, e2⟩
      refine ⟨D, _, rfl, .of e2, ?_⟩
      have ha : (List.replicate z.cps.size true).all id = true := by
        rw [List.all_eq_true]
        intro x hx
        rw [(List.mem_replicate.mp hx).2]
        rfl
      rw [ha]
      exact q H2 s2
end
end G
set_option Elab.async false
set_option linter.all false
set_option maxRecDepth 100000
set_option maxHeartbeats 2000000
/-! Q1: == and != by an own __eq__ with both answers, the right side of any kind. -/
namespace G
open PySem PySem.Spec PyProof.Rows L2
open Builtin in
theorem entry_ne {prog : Program} {w : World} {A : Around} {E : Value → Shared → Prop} {s : Shared} {K : PySem.W.Frag} {x C f : Addr} {ox : Obj} {od : Option Obj} {b : Value} {Q : Fin → Shared → Prop}
    (X : K.In s.heap) (I : PySem.W.InstAt s.heap x ox C od) (hu : A.units < cLine) (hs : PySem.W.findIn K (.ref C) "__eq__" = some (some (.ref f))) (hf : PySem.W.isFn K (.ref f) = true)
    (hcall : wpAny (model prog w) A (call (.ref f) [.ref x, b]) (fun v s' => ∃ k, v = .bool k ∧ Q (.done (.ret (.bool (!k)))) s') E s) :
    wpAny (model prog w) A (Builtin.«object.__ne__» ⟨[.ref x, b], []⟩) Q E s := by
  unfold Builtin.«object.__ne__»
  repeat (first
    | with_reducible refine wpAny_cRoomFor hu ?_
    | (refine wpAny_bind (m := callSpecialIfBound? (.ref x) (Str.ofString "__eq__") [b])
        (PySem.W.ifBound_K X I hs hf (wpAny_mono hcall (fun r s' hr => by
          obtain ⟨k, rfl, hq⟩ := hr
          repeat (first | exact hq | exact wpAny_pure hq | exact wpAny_truthy_bool hq | (refine wpAny_bind (m := truthy (.bool _)) (wpAny_truthy_bool ?_)) | wp_step)) fun _ _ e => e)))
    | wp_step)
/-- what == and != ask of the class at C -/
structure EqO (K : PySem.W.Frag) (C f : Addr) : Prop where
  eq : PySem.W.findIn K (.ref C) "__eq__" = some (some (.ref f))
  fn : PySem.W.isFn K (.ref f) = true
  ne : PySem.W.findIn K (.ref C) "__ne__" = some (some (.builtin "object.__ne__"))
  ob : PySem.W.mroIn K C (.type "object") = some true
theorem ne_K {prog : Program} {w : World} {A : Around} {E : Value → Shared → Prop} {s : Shared} {K : PySem.W.Frag} {x C L f : Addr} {h₀ : Heap} {m : Str → Option Value} {ox : Obj} {od : Option Obj} {b tb : Value} {Q : Value → Shared → Prop} (hu : A.units + 1 < cLine) (hFr : Fr h₀ L s.heap m) (X₀ : K.In h₀)
    (I : PySem.W.InstAt s.heap x ox C od) (hb : PySem.W.Looks (model prog w) s.heap (typeOf b) tb) (hn : PySem.W.notFirst K C tb = true) (e : EqO K C f)
    (h : wpAny (model prog w) A.in1 (call (.ref f) [.ref x, b]) (fun v s' => ∃ k, v = .bool k ∧ Q (.bool (!k)) s') E s) : wpAny (model prog w) A (richCompare .NotEq (.ref x) b) Q E s := by
  have X := X₀.keeps hFr.keep
  have sp : PySem.W.Looks (model prog w) s.heap (specialOf (.ref x) "__ne__") (some (.builtin "object.__ne__")) := I.type.andThen (PySem.W.looks_findIn X e.ne)
  have iv : PySem.W.Looks (model prog w) s.heap (isInstance (.ref x) (.type "object")) true := I.type.andThen (PySem.W.looks_mroIn X e.ob)
  have one : wpAny (model prog w) A (tryCompare (.ref x) "__ne__" b) (fun r s' => ∃ v, r = some v ∧ Q v s') E s := by
    unfold tryCompare
    refine wpAny_bind (NtL.csib sp (F.cmp_object.ne.bind _) (wpAny_call (codeAny_call_builtin F.cmp_object.ne.plain F.cmpEntry_ne
      (PySem.W.check_slot F.cmpKind_ne F.cmpSplit_ne iv (F.cmpArgs_ne _ _) (entry_ne (A := A.in1) X I hu e.eq e.fn (wpAny_mono h (fun v s' hv => ?_) fun _ _ z => z))))))
    obtain ⟨k, rfl, hq⟩ := hv
    first | exact ⟨k, rfl, wpAny_pure ⟨_, rfl, hq⟩⟩ | exact ⟨k, rfl, _, rfl, hq⟩
  unfold richCompare
  simp only [oneThing_ref]
  refine wpAny_holding (wpAny_bind (wpAny_cRoomFor (Nat.lt_of_succ_lt hu) ?_))
  rw [cmpInfo_NotEq]
  dsimp only
  refine wpAny_bind (I.type.here (wpAny_bind (hb.here ?_)))
  split
  · rename_i q
    have e : PySem.W.subIn K tb (.ref C) = some false := by
      rcases Bool.or_eq_true_iff.mp hn with e | e
      · rw [beq_iff_eq.mp e] at q; simp at q
      · exact beq_iff_eq.mp e
    refine wpAny_bind ((PySem.W.looks_subIn X e).here ?_)
    simp only [Bool.false_eq_true, if_false]
    refine wpAny_bind (wpAny_mono one (fun r s' z => ?_) fun _ _ e => e)
    obtain ⟨v, rfl, hq⟩ := z
    exact wpAny_pure hq
  · refine wpAny_bind (wpAny_pure ?_)
    simp only [Bool.false_eq_true, if_false]
    refine wpAny_bind (wpAny_mono one (fun r s' z => ?_) fun _ _ e => e)
    obtain ⟨v, rfl, hq⟩ := z
    exact wpAny_pure hq
/-- the kinds of things on the right -/
inductive Oth (H : Hp) : V → Value → Prop where
  | non : Oth H .non (.type "NoneType")
  | int (i : Int) : Oth H (.int i) (.type "int")
  | str (z : Str) : Oth H (.str z) (.type "str")
  | lst {a : Addr} {xs : List V} (e : H a = some (.lst xs)) : Oth H (.ref a) (.type "list")
  | tup {a : Addr} {xs : List V} (e : H a = some (.tup xs)) : Oth H (.ref a) (.type "tuple")
  | ins {a C dx : Addr} {fs : List (Str × V)} (e : H a = some (.ins C dx fs)) : Oth H (.ref a) (.ref C)
  | dic {a : Addr} {ks : List (Key × V)} (e : H a = some (.dK ks)) : Oth H (.ref a) (.type "dict")
theorem insX_at {X : Cx} {pins : List (Addr × Obj)} {σ : L2.St} {H : Hp} {s : Shared} {a C dx : Addr} {fs : List (Str × V)} (I : Inv X pins σ H s) (h : H a = some (.ins C dx fs)) : ∃ ox od, PySem.W.InstAt s.heap a ox C od := by
  obtain ⟨mA, O, _⟩ := ins_get I.hok h
  obtain ⟨od, J, _⟩ := O.look
  exact ⟨_, _, J⟩
theorem oth_looks {X : Cx} {pins : List (Addr × Obj)} {σ : L2.St} {H : Hp} {s : Shared} {x : V} {u t : Value} (I : Inv X pins σ H s) (rx : RelV x u) (o : Oth H x t) (M : Model) : PySem.W.Looks M s.heap (typeOf u) t := by
  cases o with
  | non => cases (show u = Value.none from rx); exact .of_pure rfl
  | int i => obtain ⟨t, q⟩ := (show ∃ t, u = Value.int i t from rx); cases q; exact .of_pure rfl
  | str y => obtain ⟨t, q⟩ := (show ∃ t, u = Value.str y t from rx); cases q; exact .of_pure rfl
  | @lst a xs ea =>
    cases (show u = Value.ref a from rx)
    obtain ⟨_, _, n, _, h1⟩ := (show ObjOk X.prog X.w H s.heap a (.lst xs) from I.hok a _ ea)
    exact (PySem.W.Looks.ld h1).andThen .now
  | @tup a xs ea =>
    cases (show u = Value.ref a from rx)
    obtain ⟨_, _, _, o, h1, h2, _⟩ := (show ObjOk X.prog X.w H s.heap a (.tup xs) from I.hok a _ ea)
    rw [← h2]
    exact (PySem.W.Looks.ld h1).andThen .now
  | @ins a C dx fs ea =>
    cases (show u = Value.ref a from rx)
    obtain ⟨ox, od, J⟩ := insX_at I ea
    exact J.type
  | @dic a ks ea =>
    cases (show u = Value.ref a from rx)
    obtain ⟨_, _, _, _, o, _, _, h1, h2, _⟩ := (show ObjOk X.prog X.w H s.heap a (.dK ks) from I.hok a _ ea)
    rw [← h2.1]
    exact (PySem.W.Looks.ld h1).andThen .now
section
variable {X : Cx} {C g : Addr} {fd : FuncData} {ps : List Str} {n : Nat} {sp : Sp} {E : XK}
def rEqB (K : PySem.W.Frag) (C : Addr) (sp : Sp) (E : XK) (pos : Bool) : R2 := fun x y H Q => ∃ a dx fs t, x = .ref a ∧ H a = some (.ins C dx fs) ∧ Oth H y t ∧ PySem.W.notFirst K C t = true ∧ sp [x, y] H (fun v H' => ∃ k : Bool, v = .bl k ∧ Q (.bl (cond pos k (!k))) H') E
theorem op_eqB (e : EqO X.K C g) (hb : Binds X.K fd ps []) (F : FnOk X.prog X.w X.K X.mg X.base CX0 n g fd ps sp) (hr : Room n X.A) (hx : Passes CX0 X E) : OpR X (compareOp .Eq) (rEqB X.K C sp E true) := by
  intro pins s σ H x y v u Q I rx ry h
  obtain ⟨a, dx, fs, t, rfl, ha, ho, hn, q⟩ := h
  cases (show v = Value.ref a from rx)
  obtain ⟨ox, od, J⟩ := insX_at I ha
  obtain ⟨m, hF⟩ := I.fr
  refine PySem.W.cmp_K (op := .Eq) hr.units0 hF I.ok.mod.kin J (oth_looks I ry ho _) hn e.eq e.fn ?_
  refine wpAny_mono (run_fn (us := [.ref a, u]) (vs := [.ref a, y]) F hr hb .nil hx I (.cons rfl (.cons ry .nil)) q) (fun w s' z => ?_) fun _ _ x => x
  obtain ⟨z', H', I', rz, k, rfl, qz⟩ := z
  exact SlX.cmpback rz ⟨.bl k, H', I', rz, qz⟩
theorem op_neB (e : EqO X.K C g) (hb : Binds X.K fd ps []) (F : FnOk X.prog X.w X.K X.mg X.base CX0 n g fd ps sp) (hr : Room (n + 1) X.A) : OpR X (compareOp .NotEq) (rEqB X.K C sp E false) := by
  intro pins s σ H x y v u Q I rx ry h
  obtain ⟨a, dx, fs, t, rfl, ha, ho, hn, q⟩ := h
  cases (show v = Value.ref a from rx)
  obtain ⟨ox, od, J⟩ := insX_at I ha
  obtain ⟨m, hF⟩ := I.fr
  refine ne_K (by have := hr.units; omega) hF I.ok.mod.kin J (oth_looks I ry ho _) hn e ?_
  have hl : ([Value.ref a, u] ++ []).length = ps.length := by
    have := F.len _ _ _ _ q
    exact this
  refine wpAny_call (codeAny_mono (F.run X.A.in1 X.stack s H ⟨[.ref a, u], []⟩ ([.ref a, u] ++ []) [.ref a, y] _ E hr.in1 I.env0.in1 (hb s [.ref a, u] I.kIn hl) (.cons rfl (.cons ry .nil)) q) fun r s' hq => ?_)
  cases r with
  | error e => exact False.elim hq
  | ok fl =>
    cases fl with
    | ret u =>
      obtain ⟨v, H', I2, rv, k, rfl, q⟩ := I.after hq
      obtain rfl : u = Value.bool k := rv
      exact ⟨k, rfl, .bl (!k), H', I2, rfl, q⟩
    | next => exact False.elim hq
    | brk => exact False.elim hq
    | cont => exact False.elim hq
end
end G
set_option Elab.async false
set_option linter.all false
set_option maxRecDepth 100000
set_option maxHeartbeats 2000000
/-! R1: methods, calls and operators of an instance whose class is not known ahead; super().__init__(*xs). -/
namespace G
open PySem PySem.Spec PyProof.Rows L2 NdefX StX

/-- the class at C keeps the promise sp for its method m -/
structure PolyM (P : Program) (w : World) (K : PySem.W.Frag) (mg : Str → Option Value) (base : Heap) (k : Nat) (C : Addr) (m : Str) (sp : Sp) : Prop where
  cl : Cls K C
  ex : ∃ (f : Addr) (fd : FuncData) (ps : List Str), Meth K C m f ∧ Binds K fd ps [] ∧ FnOk P w K mg base CX0 k f fd ps sp
/-- .. for the calls of its instances -/
structure PolyC (P : Program) (w : World) (K : PySem.W.Frag) (mg : Str → Option Value) (base : Heap) (k : Nat) (C : Addr) (sp : Sp) : Prop where
  ex : ∃ (f : Addr) (fd : FuncData) (ps : List Str), CallO K C f ∧ Binds K fd ps [] ∧ FnOk P w K mg base CX0 k f fd ps sp

/-- o.m(e, ..), o an instance of some class that keeps sp -/
def tMethV (X : Cx) (k : Nat) (m : Str) (E : XK) (ta : TE) (t : TA) : TE := fun σ H Q => ta σ H fun x H1 => ∃ (a C dx : Addr) (fs : List (Str × V)) (sp : Sp), x = .ref a ∧ H1 a = some (.ins C dx fs) ∧ PolyM X.prog X.w X.K X.mg X.base k C m sp ∧ fs.lookup m = none ∧ t σ H1 fun vs H2 => sp (.ref a :: vs) H2 Q E
/-- o(e, ..) -/
def tCallV (X : Cx) (k : Nat) (E : XK) (ta : TE) (t : TA) : TE := fun σ H Q => ta σ H fun x H1 => ∃ (a C : Addr) (sp : Sp), x = .ref a ∧ PolyC X.prog X.w X.K X.mg X.base k C sp ∧ t σ H1 fun vs H2 => InsC X H2 a C ∧ sp (.ref a :: vs) H2 Q E
section
variable {X : Cx} {k : Nat} {E : XK} {m : Str} {pos apos : Pos} {e o fe : Expr} {es : List Expr} {ta : TE} {t : TA}
theorem pe_methV {pl : Sem Bool} (he : PE X o ta) (hr : Room k X.A) (hx : Passes CX0 X E) (ha : PA X (e :: es) t)
    (hst : starEach (e :: es) X.env = (false, eval e X.env) :: starEach es X.env := by rfl) (hpl : (backTo pos (starEach es X.env)).any (·.1) = false := by rfl)
    (ht : eval (.Call (.Attribute o m apos) (e :: es) [] pos) X.env = (eval o X.env >>= fun ov => standAt apos.atName >>= fun _ => holding [ov] (getMethod ov m pl) >>= fun q => callWith pos q.1 q.2 (backTo pos (starEach (e :: es) X.env)) (backToKw pos (keywordEach [] X.env))) := by rfl) :
    PE X (.Call (.Attribute o m apos) (e :: es) [] pos) (tMethV X k m E ta t) := by
  refine ⟨fun pins s σ H Q I h => ?_⟩
  refine PySem.W.methodCall_KW (pl := pl) (thn (he.run pins s σ H _ I h) fun u s1 ⟨x, H1, I1, rx, a, C, dx, fs, sp, ex, ea, pm, l, q⟩ => ?_) ht
  subst ex
  obtain rfl : u = Value.ref a := rx
  obtain ⟨f, fd, ps, hm, hb, F⟩ := pm.ex
  refine getmeth_ok I1 ea pm.cl hm l ?_
  refine PySem.W.callWith_K (h₀ := X.base) (first := [.ref a]) I.ok.mod.kin hm.kp (thn (ha.run pos pins s1 σ H1 _ I1 q) fun us s2 ⟨vs, H2, I2, r, q2⟩ => ⟨I2.kIn, ?_⟩) hst hpl
  exact run_fn (us := .ref a :: us) (vs := .ref a :: vs) F hr hb .nil hx I2 (.cons rfl r) (by rw [List.append_nil]; exact q2)
theorem pe_methV0 {pl : Sem Bool} (he : PE X o ta) (hr : Room k X.A) (hx : Passes CX0 X E)
    (ht : eval (.Call (.Attribute o m apos) [] [] pos) X.env = (eval o X.env >>= fun ov => standAt apos.atName >>= fun _ => holding [ov] (getMethod ov m pl) >>= fun q => callWith pos q.1 q.2 (backTo pos (starEach [] X.env)) (backToKw pos (keywordEach [] X.env))) := by rfl) :
    PE X (.Call (.Attribute o m apos) [] [] pos) (tMethV X k m E ta tNil) := by
  refine ⟨fun pins s σ H Q I h => ?_⟩
  refine PySem.W.methodCall_KW (pl := pl) (thn (he.run pins s σ H _ I h) fun u s1 ⟨x, H1, I1, rx, a, C, dx, fs, sp, ex, ea, pm, l, q⟩ => ?_) ht
  subst ex
  obtain rfl : u = Value.ref a := rx
  obtain ⟨f, fd, ps, hm, hb, F⟩ := pm.ex
  refine getmeth_ok I1 ea pm.cl hm l ?_
  exact PySem.W.callWith_K0 (first := [.ref a]) I1.kIn hm.kp (run_fn (us := [.ref a]) (vs := [.ref a]) F hr hb .nil hx I1 (.cons rfl .nil) q)
theorem pe_callV (hf : PE X fe ta) (hr : Room k X.A) (hx : Passes CX0 X E) (ha : PA X (e :: es) t)
    (ht : eval (.Call fe (e :: es) [] pos) X.env = (eval fe X.env >>= fun g => callWith pos g [] (backTo pos (starEach (e :: es) X.env)) (backToKw pos (keywordEach [] X.env))) := by rfl)
    (he : starEach (e :: es) X.env = (false, eval e X.env) :: starEach es X.env := by rfl) (hpl : (backTo pos (starEach es X.env)).any (·.1) = false := by rfl) : PE X (.Call fe (e :: es) [] pos) (tCallV X k E ta t) := by
  refine ⟨fun pins s σ H Q I h => ?_⟩
  refine Call_ (thn (hf.run pins s σ H _ I h) fun u s1 ⟨y, H1, I1, ry, a, C, sp, ey, pc, q⟩ => ?_) ht
  subst ey
  obtain rfl : u = Value.ref a := ry
  obtain ⟨f, fd, ps, c, hb, F⟩ := pc.ex
  refine callO_with (thn (ha.run pos pins s1 σ H1 _ I1 q) fun us s2 ⟨vs, H2, I2, r, hi, q2⟩ => ?_) he hpl
  obtain ⟨ox, od, J, hd⟩ := insC_at I2 hi
  exact ⟨⟨C, ox, od, J, hd⟩, run_callO c (F.raw hb .nil) hr hx I2 hi r (by simpa using q2)⟩
end

/-! ### a sign between two instances of own classes -/
/-- the class at C has the sign's method (and no reflected one) -/
structure OpO (K : PySem.W.Frag) (C : Addr) (op : Operator) (f : Addr) : Prop where
  first : PySem.W.selfFirst K C = true
  at_ : PySem.W.findIn K (.ref C) (PySem.dunder op.info.2) = some (some (.ref f))
  fn : PySem.W.isFn K (.ref f) = true
  ref_ : PySem.W.findIn K (.ref C) (dunderR op.info.2) = some none
theorem bin_own {prog : Program} {w : World} {A : Around} {E : Value → Shared → Prop} {s : Shared} {K : PySem.W.Frag} {x y C C2 f g : Addr} {ox oy : Obj} {od od2 : Option Obj} {op : Operator} {Q : Value → Shared → Prop} (X : K.In s.heap)
    (I : PySem.W.InstAt s.heap x ox C od) (J : PySem.W.InstAt s.heap y oy C2 od2) (o1 : OpO K C op f) (o2 : OpO K C2 op g) (hs : C = C2 ∨ PySem.W.subIn K (.ref C2) (.ref C) = some false)
    (h : wpAny (model prog w) A (call (.ref f) [.ref x, .ref y]) (PySem.W.CmpBack Q) E s) : wpAny (model prog w) A (binaryOp op (.ref x) (.ref y)) Q E s := by
  obtain ⟨cd1, rest1, hc1, hm1⟩ := PySem.W.ksp_first o1.first
  obtain ⟨cd2, rest2, hc2, hm2⟩ := PySem.W.ksp_first o2.first
  have a1 := o1.at_
  have a2 := o2.at_
  have r1 := o1.ref_
  have r2 := o2.ref_
  rcases hi : op.info with ⟨sym, nm⟩
  rw [hi] at a1 a2 r1 r2
  dsimp only at a1 a2 r1 r2
  have one := PySem.W.ksp_try X I a1 o1.fn h
  obtain ⟨hh, gs, d, tt, os⟩ := s
  have L1 : PySem.W.Looks (model prog w) hh (typeOf (.ref x)) (.ref C) := I.type
  have L2 : PySem.W.Looks (model prog w) hh (typeOf (.ref y)) (.ref C2) := J.type
  have L3 : PySem.W.Looks (model prog w) hh (fillsNumberSlot (.ref C) nm) true := PySem.W.fills_K X hc1 hm1 a1
  have L4 : PySem.W.Looks (model prog w) hh (fillsNumberSlot (.ref C2) nm) true := PySem.W.fills_K X hc2 hm2 a2
  have L6 : PySem.W.Looks (model prog w) hh (numberSlotInPython (.ref C) nm) true := PySem.W.ksp_inPy X a1 r1 (.inl rfl)
  have L7 : PySem.W.Looks (model prog w) hh (numberSlotInPython (.ref C2) nm) true := PySem.W.ksp_inPy X a2 r2 (.inl rfl)
  simp only [binaryOp, hi]
  refine wpAny_holding (wpAny_bind ?_)
  unfold binaryOp1
  refine wpAny_bind (L1.at (wpAny_bind (L2.at (wpAny_bind (L3.at ?_)))))
  by_cases e : C = C2
  · have hne : (Value.ref C == Value.ref C2) = true := by
      rw [e]
      exact beq_self_eq_true _
    simp only [hne, if_true]
    ksp_lk
    refine wpAny_mono one (fun r s' hr' => ?_) fun _ _ z => z
    obtain ⟨v, rfl, hq⟩ := hr'
    ksp_lk
    exact hq
  · have hne : (Value.ref C == Value.ref C2) = false := Bool.eq_false_iff.mpr fun q => e (by
      have := beq_iff_eq.mp q
      injection this)
    have hs2 : PySem.W.subIn K (.ref C2) (.ref C) = some false := hs.resolve_left e
    have L5 : PySem.W.Looks (model prog w) hh (isSubtype (.ref C2) (.ref C)) false := PySem.W.looks_subIn X hs2
    simp only [hne, Bool.false_eq_true, if_false]
    ksp_lk
    refine wpAny_mono one (fun r s' hr' => ?_) fun _ _ z => z
    obtain ⟨v, rfl, hq⟩ := hr'
    ksp_lk
    exact hq
theorem insO_at {X : Cx} {pins : List (Addr × Obj)} {σ : L2.St} {H : Hp} {s : Shared} {a C dx : Addr} {fs : List (Str × V)} (I : Inv X pins σ H s) (h : H a = some (.ins C dx fs)) : ∃ ox od, PySem.W.InstAt s.heap a ox C od ∧ ox.data = .plain :=
  insC_at I (.inr ⟨dx, fs, h⟩)
/-- two classes under one sign: what the class at C does with one of the class at C2 -/
structure PolyO (P : Program) (w : World) (K : PySem.W.Frag) (mg : Str → Option Value) (base : Heap) (k : Nat) (C C2 : Addr) (op : Operator) (sp : Sp) : Prop where
  ex : ∃ (f g : Addr) (fd : FuncData) (ps : List Str), OpO K C op f ∧ OpO K C2 op g ∧ (C = C2 ∨ PySem.W.subIn K (.ref C2) (.ref C) = some false) ∧ Binds K fd ps [] ∧ FnOk P w K mg base CX0 k f fd ps sp
def rOwn (X : Cx) (k : Nat) (op : Operator) (sp : Sp) (E : XK) : R2 := fun x y H Q => ∃ a b C C2 dx dy fs gs, x = .ref a ∧ y = .ref b ∧ H a = some (.ins C dx fs) ∧ H b = some (.ins C2 dy gs) ∧ PolyO X.prog X.w X.K X.mg X.base k C C2 op sp ∧
  sp [.ref a, .ref b] H (fun v H' => (∃ r, v = .ref r) ∧ Q v H') E
theorem op_own {X : Cx} {k : Nat} {sp : Sp} {E : XK} (op : Operator) (hr : Room k X.A) (hx : Passes CX0 X E) : OpR X (binaryOp op) (rOwn X k op sp E) := by
  intro pins s σ H x y v u Q I rx ry h
  obtain ⟨a, b, C, C2, dx, dy, fs, gs, rfl, rfl, ha, hb, po, q⟩ := h
  obtain rfl : v = Value.ref a := rx
  obtain rfl : u = Value.ref b := ry
  obtain ⟨f, g, fd, ps, o1, o2, hs, hbd, F⟩ := po.ex
  obtain ⟨ox, od, J1, _⟩ := insO_at I ha
  obtain ⟨oy, od2, J2, _⟩ := insO_at I hb
  refine bin_own I.kIn J1 J2 o1 o2 hs (thn (run_fn (us := [.ref a, .ref b]) (vs := [.ref a, .ref b]) F hr hbd .nil hx I (.cons rfl (.cons rfl .nil)) q) fun r s' z => ?_)
  obtain ⟨v, H', I', rv, ⟨p, rfl⟩, q'⟩ := z
  obtain rfl : r = Value.ref p := rv
  exact ⟨V.ref p, H', I', rfl, q'⟩
/-! ### ~x -/
structure PolyU (P : Program) (w : World) (K : PySem.W.Frag) (mg : Str → Option Value) (base : Heap) (k : Nat) (C : Addr) (sp : Sp) : Prop where
  ex : ∃ (f : Addr) (fd : FuncData) (ps : List Str), PySem.W.findIn K (.ref C) "__invert__" = some (some (.ref f)) ∧ PySem.W.isFn K (.ref f) = true ∧ Binds K fd ps [] ∧ FnOk P w K mg base CX0 k f fd ps sp
def rInv (X : Cx) (k : Nat) (sp : Sp) (E : XK) : V → Hp → VK → Prop := fun x H Q => ∃ a C dx fs, x = .ref a ∧ H a = some (.ins C dx fs) ∧ PolyU X.prog X.w X.K X.mg X.base k C sp ∧ sp [.ref a] H Q E
theorem inv_own {M : Model} {A : Around} {E : Value → Shared → Prop} {s : Shared} {K : PySem.W.Frag} {x C f : Addr} {ox : Obj} {od : Option Obj} {Q : Value → Shared → Prop} (X : K.In s.heap) (I : PySem.W.InstAt s.heap x ox C od)
    (hs : PySem.W.findIn K (.ref C) "__invert__" = some (some (.ref f))) (hf : PySem.W.isFn K (.ref f) = true) (h : wpAny M A (call (.ref f) [.ref x]) Q E s) : wpAny M A (unaryOp .Invert (.ref x)) Q E s := by
  unfold unaryOp
  refine wpAny_holding (wpAny_bind (PySem.W.special_fn X I hs (beq_iff_eq.mp hf) (thn h fun _ _ z => ?_)))
  exact wpAny_pure z
theorem un_own {X : Cx} {k : Nat} {sp : Sp} {E : XK} (hr : Room k X.A) (hx : Passes CX0 X E) : UnR X (unaryOp .Invert) (rInv X k sp E) := by
  intro pins s σ H x v Q I rx h
  obtain ⟨a, C, dx, fs, rfl, ha, pu, q⟩ := h
  obtain rfl : v = Value.ref a := rx
  obtain ⟨f, fd, ps, h1, h2, hb, F⟩ := pu.ex
  obtain ⟨ox, od, J, _⟩ := insO_at I ha
  exact inv_own I.kIn J h1 h2 (run_fn (us := [.ref a]) (vs := [.ref a]) F hr hb .nil hx I (.cons rfl .nil) q)
end G
set_option Elab.async false
set_option linter.all false
set_option maxRecDepth 100000
set_option maxHeartbeats 2000000
/-! O1: x in o, o[i], for x in o, len(o) by a class's own methods. -/
namespace G
open PySem PySem.Spec PyProof.Rows L2
/-- the class at C has its own m, the def at f -/
structure OwnM (K : PySem.W.Frag) (C : Addr) (m : Str) (f : Addr) : Prop where
  at_ : PySem.W.findIn K (.ref C) m = some (some (.ref f))
  fn : PySem.W.isFn K (.ref f) = true
section
variable {prog : Program} {w : World} {A : Around} {E : Value → Shared → Prop} {s : Shared} {K : PySem.W.Frag} {x C f : Addr} {ox : Obj} {od : Option Obj} {y : Value}
theorem in_own {Q : Bool → Shared → Prop} (X : K.In s.heap) (I : PySem.W.InstAt s.heap x ox C od) (e : OwnM K C "__contains__" f) (h : wpAny (model prog w) A (call (.ref f) [.ref x, y]) (fun v s' => ∃ b, v = .bool b ∧ Q b s') E s) :
    wpAny (model prog w) A (contains (.ref x) y) Q E s := by
  have sp : PySem.W.Looks (model prog w) s.heap (specialOf (.ref x) "__contains__") (some (.ref f)) := I.type.andThen (PySem.W.looks_findIn X e.at_)
  have hf := beq_iff_eq.mp e.fn
  unfold contains
  refine wpAny_holding ?_
  show wpAny _ _ (specialOf (.ref x) "__contains__" >>= _) _ _ _
  refine wpAny_bind (sp.here ?_)
  rw [if_neg (show ¬ ((some (Value.ref f) == some Value.none) = true) from Bool.false_ne_true)]
  unfold callSpecialUnlessNone?
  refine wpAny_bind (wpAny_bind (sp.here (wpAny_holding (wpAny_bind ((PySem.W.bind_fn X _ hf).here ?_)))))
  dsimp only
  rw [if_neg (show ¬ ((Value.ref f == Value.none) = true) from Bool.false_ne_true)]
  refine wpAny_bind (wpAny_mono h (fun v s' z => ?_) fun _ _ z => z)
  obtain ⟨b, rfl, q⟩ := z
  exact wpAny_pure (wpAny_truthy_bool q)
end
end G
set_option Elab.async false
set_option linter.all false
set_option maxRecDepth 100000
set_option maxHeartbeats 2000000
/-! O2: rules of x in o, o[i], for x in o. -/
namespace G
open PySem PySem.Spec PyProof.Rows L2 ItX
section
variable {X : Cx} {C g : Addr} {fd : FuncData} {ps : List Str} {n : Nat} {sp : Sp} {E : XK}
/-- x in o -/
def rInO (C : Addr) (sp : Sp) (E : XK) (neg : Bool) : R2 := fun x y H Q => ∃ a dx fs, y = .ref a ∧ H a = some (.ins C dx fs) ∧ sp [y, x] H (fun v H' => ∃ k : Bool, v = .bl k ∧ Q (.bl (cond neg (!k) k)) H') E
theorem in_run (e : OwnM X.K C "__contains__" g) (hb : Binds X.K fd ps []) (F : FnOk X.prog X.w X.K X.mg X.base CX0 n g fd ps sp) (hr : Room n X.A) (hx : Passes CX0 X E) {pins : List (Addr × Obj)} {σ : L2.St} {H : Hp} {s : Shared} {a dx : Addr} {fs : List (Str × V)} {x : V} {v : Value} {R : Bool → V → Hp → Prop}
    (I : Inv X pins σ H s) (rx : RelV x v) (ha : H a = some (.ins C dx fs)) {Q : Bool → Shared → Prop} (q : sp [.ref a, x] H (fun v H' => ∃ k : Bool, v = .bl k ∧ R k v H') E)
    (hq : ∀ k s' H', Inv X pins σ H' s' → R k (.bl k) H' → Q k s') : wpAny (model X.prog X.w) X.A (contains (.ref a) v) Q X.xe s := by
  obtain ⟨ox, od, J⟩ := insX_at I ha
  refine in_own I.kIn J e ?_
  refine wpAny_mono (run_fn (us := [.ref a, v]) (vs := [.ref a, x]) F hr hb .nil hx I (.cons rfl (.cons rx .nil)) q) (fun w s' z => ?_) fun _ _ x => x
  obtain ⟨z', H', I', rz, k, rfl, qz⟩ := z
  obtain rfl : w = Value.bool k := rz
  exact ⟨k, rfl, hq k s' H' I' qz⟩
theorem op_inO (e : OwnM X.K C "__contains__" g) (hb : Binds X.K fd ps []) (F : FnOk X.prog X.w X.K X.mg X.base CX0 n g fd ps sp) (hr : Room n X.A) (hx : Passes CX0 X E) : OpR X (compareOp .In) (rInO C sp E false) := by
  intro pins s σ H x y v u Q I rx ry h
  obtain ⟨a, dx, fs, rfl, ha, q⟩ := h
  cases (show u = Value.ref a from ry)
  refine wpAny_bind (in_run (R := fun k v H' => Q (.bl k) H') e hb F hr hx I rx ha q fun k s' H' I' z => ?_)
  exact wpAny_pure ⟨.bl k, H', I', rfl, z⟩
theorem op_ninO (e : OwnM X.K C "__contains__" g) (hb : Binds X.K fd ps []) (F : FnOk X.prog X.w X.K X.mg X.base CX0 n g fd ps sp) (hr : Room n X.A) (hx : Passes CX0 X E) : OpR X (compareOp .NotIn) (rInO C sp E true) := by
  intro pins s σ H x y v u Q I rx ry h
  obtain ⟨a, dx, fs, rfl, ha, q⟩ := h
  cases (show u = Value.ref a from ry)
  refine wpAny_bind (in_run (R := fun k v H' => Q (.bl (!k)) H') e hb F hr hx I rx ha q fun k s' H' I' z => ?_)
  exact wpAny_pure ⟨.bl (!k), H', I', rfl, z⟩
/-- o[i] -/
def tGetO (C : Addr) (sp : Sp) (E : XK) (ta ti : TE) : TE := fun σ H Q => ta σ H fun x H1 => ti σ H1 fun y H2 => ∃ a dx fs, x = .ref a ∧ H2 a = some (.ins C dx fs) ∧ sp [x, y] H2 Q E
theorem pe_getO {e i : Expr} {pos : Pos} {ta ti : TE} (m : OwnM X.K C "__getitem__" g) (hf : PySem.W.fnIn X.K g = true) (hb : Binds X.K fd ps []) (F : FnOk X.prog X.w X.K X.mg X.base CX0 n g fd ps sp) (hr : Room (n + 1) X.A) (he : PE X e ta) (hi : PE X i ti)
    (hsl : ∀ (a : Addr) (v : Value), subscripted i true (.ref a) v = runValue (.builtin "lifetime.subscript" ⟨[.ref a, v], []⟩) := by intro _ _; with_unfolding_all rfl) : PE X (.Subscript e i pos) (tGetO C sp E0 ta ti) := by
  refine ⟨fun pins s σ H Q I h => ?_⟩
  refine Subscript_ (thn (he.run pins s σ H _ I h) fun v s1 ⟨x, H1, I1, r1, q1⟩ => thn (hi.run pins s1 σ H1 _ I1 q1) fun u s2 ⟨y, H2, I2, r2, a, dx, fs, ex, ha, q⟩ => ?_)
  subst ex
  obtain rfl : v = Value.ref a := r1
  obtain ⟨ox, od, J⟩ := insX_at I2 ha
  obtain ⟨mm, hF⟩ := I2.fr
  refine PySem.W.sub_K hF I2.ok.mod.kin J m.at_ hf m.fn ?_ (hsl a u)
  have hl : ([Value.ref a, u] ++ []).length = ps.length := by
    have := F.len _ _ _ _ q
    exact this
  refine wpAny_call (codeAny_mono (F.run X.A.in1 X.stack s2 H2 ⟨[.ref a, u], []⟩ ([.ref a, u] ++ []) [.ref a, y] _ E0 hr.in1 I2.env0.in1 (hb s2 [.ref a, u] I2.kIn hl) (.cons rfl (.cons r2 .nil)) q) fun r s' hq => ?_)
  cases r with
  | error e => exact False.elim hq
  | ok fl =>
    cases fl with
    | ret u => exact I2.after hq
    | next => exact False.elim hq
    | brk => exact False.elim hq
    | cont => exact False.elim hq
end
/-! ### for x in o -/
/-- as FnOk, its promise knows how many objects there were -/
structure FnS (P : Program) (w : World) (K : PySem.W.Frag) (mg : Str → Option Value) (base : Heap) (k : Nat) (f : Addr) (fd : FuncData) (ps : List Str) (sp : Nat → Sp) : Prop where
  go : ∀ (A : Around) (outer : List Env) (s : Shared) (H : Hp) (args : Args) (us : List Value) (vs : List V) (Q : VK) (E : XK),
    Room k A → Env0 P w K mg base A outer s H → BindsTo s fd args (ps.zip us) → Vals vs us → sp s.heap.objs.size vs H Q E → codeAny (model P w) A (.call (.ref f) args) (CR CX0 outer P w H s Q E) s
section
variable {P : Program} {w : World} {K : PySem.W.Frag} {mg : Str → Option Value} {base : Heap}
theorem FnS.of_body {x qual : Str} {st : Stmt} {f : Addr} {fd : FuncData} {N ps : List Str} {k : Nat} {sp : Nat → Sp} (F : Fun K x qual st f fd) (S : FnScope N ps (defScope st))
    (size : ∀ n vs H Q E, sp n vs H Q E → vs.length = ps.length)
    (body : ∀ (cdv : Value) (A : Around) (outer : List Env) (s : Shared) (H : Hp) (vs : List V) (Q : VK) (E : XK),
      Room k (A.deeper (envOfC qual (defScope st) s.heap.objs.size f cdv)) → sp s.heap.objs.size vs H Q E →
      ∃ t, PSs (cxOf CX0 P w K mg base N qual (defScope st) f cdv A outer s H E).nox (defBody st) t ∧ t { nx := fun _ H' => Q .non H', rt := Q } (start N vs) H) :
    FnS P w K mg base (k + 1) f fd ps sp := by
  obtain ⟨_, _, _, _, _, _, cdv, _, _, rfl, lk, hcd⟩ := F.ex
  refine ⟨fun A outer s H args us vs Q E hr e0 hb r h => ?_⟩
  have inS : K.In s.heap := e0.mod.kin.keeps fun b o e => (e0.bs b o e).1
  have noL : s.heap.NoLimit := e0.mod.nolimit.keeps fun b o e => (e0.bs b o e).1
  refine codeAny_call_function hr.depth (inS _ _ lk) rfl S.co S.gen rfl
    (PySem.W.codeRec_of inS hcd) (hb _ _ _ _ ?_)
  refine wpAny_newFunctionEnv_cells S.kind
    (fun ⟨n, v⟩ hy => ?_) fun env he s1 x => ?_
  · rcases S.par n (List.of_mem_zip hy).1 with q | q
    · exact Or.inl q
    · exact Or.inr ⟨q, PySem.W.cellsFrom_some _ _ _ (Or.inl q)⟩
  · subst he
    refine ⟨noL.keeps x.toInCall.keep, codeAny_func ?_⟩
    obtain ⟨t, ht, hq⟩ := body cdv A outer s H vs Q E (hr.deeper _) h
    have J := inv_start (CX := CX0) (P := P) (w := w) (K := K) (mg := mg) (base := base) (E := E) S hr.hd e0 (size _ _ _ _ _ h) r x
    refine wpAny_mono (ht.nox.run [] s1 (start N vs) H _ J hq) (fun fl s' z => ?_) fun e s' z => z
    cases fl with
    | ret u =>
      obtain ⟨v, σ', H', J', rv, q⟩ := z
      exact ⟨v, H', J'.os, J'.bare, J'.base, J'.hok, rv, q⟩
    | next =>
      obtain ⟨σ', H', J', q⟩ := z
      exact ⟨.non, H', J'.os, J'.bare, J'.base, J'.hok, rfl, q⟩
    | brk =>
      obtain ⟨_, _, _, q⟩ := z
      exact q.elim
    | cont =>
      obtain ⟨_, _, _, q⟩ := z
      exact q.elim
end
/-- an __iter__ that gives the iterator of the list in the field fld -/
def spIter (K : PySem.W.Frag) (C : Addr) (fld : Str) (n : Nat) : Sp := fun vs H Q _ => ∃ (a dx l : Addr) (fs : List (Str × V)) (xs : List V), vs = [.ref a] ∧ H a = some (.ins C dx fs) ∧ fs.lookup fld = some (.ref l) ∧ SqL K H l xs ∧
  ∀ it, H it = none → n ≤ it → Q (.ref it) (upd H it (ItO l it 0))
def iOwn (K : PySem.W.Frag) (C : Addr) (fld : Str) (te : TE) : TI := fun σ H R => te σ H fun x H1 => ∃ (a dx l : Addr) (fs : List (Str × V)) (xs : List V), x = .ref a ∧ H1 a = some (.ins C dx fs) ∧ fs.lookup fld = some (.ref l) ∧ SqL K H1 l xs ∧ R (Itl K l) H1
theorem pi_own {X : Cx} {C g : Addr} {fd : FuncData} {n : Nat} {fld : Str} {e tg : Expr} {te : TE} (he : PE X e te) (m : OwnM X.K C "__iter__" g) (hb : Binds X.K fd ["self"] []) (F : FnS X.prog X.w X.K X.mg X.base n g fd ["self"] (spIter X.K C fld)) (hr : Room n X.A) : PI X tg e (iOwn X.K C fld te) := by
  refine ⟨fun pins s σ H R I h => ?_⟩
  refine thn (he.run pins s σ H _ I h) fun u s1 ⟨x, H1, I1, rx, a, dx, l, fs, xs, ex, ea, lk, sq, q⟩ => ?_
  subst ex
  obtain rfl : u = Value.ref a := rx
  obtain ⟨ox, od, J⟩ := insX_at I1 ea
  obtain ⟨mm, hF⟩ := I1.fr
  refine PySem.W.owit_iter hF I1.ok.mod.kin J m.at_ m.fn ?_
  refine wpAny_call (codeAny_mono (F.go X.A X.stack s1 H1 ⟨[Value.ref a], []⟩ ([Value.ref a] ++ []) [V.ref a] (fun v H2 => ∃ it, v = .ref it ∧ H1 it = none ∧ X.s_0.heap.objs.size ≤ it ∧ H2 = upd H1 it (ItO l it 0)) E0 hr I1.env0 (hb s1 [Value.ref a] I1.kIn rfl) (show Vals [V.ref a] [Value.ref a] from .cons rfl .nil)
    ⟨a, dx, l, fs, xs, rfl, ea, lk, sq, fun it hn hs => ⟨it, rfl, hn, Nat.le_trans I1.sz hs, rfl⟩⟩) fun r s' hq => ?_)
  cases r with
  | error e => exact False.elim hq
  | ok fl =>
    cases fl with
    | ret u =>
      obtain ⟨v, H', I2, rv, it, rfl, hn, hs, rfl⟩ := I1.after hq
      cases (show u = Value.ref it from rv)
      have hi : (upd H1 it (ItO l it 0)) it = some (ItO l it 0) := upd_same
      have eo := itO_get I2 hi
      have st : s'.heap.IsListIter it l (0 : Nat) := ⟨_, eo, rfl, rfl⟩
      have hT : s'.TypeIs (.ref it) "list_iterator" := ⟨_, eo, rfl⟩
      unfold PySem.W.OwitIt
      refine wpAny_specialOf (name := Str.ofString "__next__") hT slot_listiter_next.lookup ?_
      have hi' := hi
      unfold ItO at hi'
      have ed : dropH (upd H1 it (ItO l it 0)) it = H1 := by
        funext b
        by_cases hb : b = it
        · rw [hb, hn]
          exact dropH_same
        · rw [dropH_ne hb, upd_ne hb]
      refine ⟨it, [it], _, _, dropH (upd H1 it (ItO l it 0)) it, rfl, inv_drop I2 hi', turn_list l it, st, fun b hb => ?_, ?_⟩
      · have e : b = it := by simpa using hb
        rw [e]
        exact inv_fp I2 hi hs
      · rw [ed]
        exact q
    | next => exact False.elim hq
    | brk => exact False.elim hq
    | cont => exact False.elim hq
end G
set_option Elab.async false
set_option linter.all false
set_option maxRecDepth 100000
set_option maxHeartbeats 2000000
/-! O3: xs[::-1], isinstance(x, (list, tuple)), lists of the same things compared. -/
namespace G
open PySem PySem.Spec PyProof.Rows L2 HT
theorem pick_rev (its : List Value) : slicePick its.toArray none none (some (-1)) = its.reverse.toArray := by
  have e : ∀ k, k ≤ its.length → (((List.range k).map fun (m : Nat) => (((its.length : Nat) : Int) - 1 + (-1) * (m : Int)).toNat).filterMap fun j => its.toArray[j]?) = its.reverse.take k := by
    intro k
    induction k with
    | zero =>
      intro _
      simp
    | succ k ih =>
      intro hk
      rw [List.range_succ, List.map_append, List.filterMap_append, ih (by omega), List.take_add_one]
      congr 1
      have e1 : (((its.length : Nat) : Int) - 1 + (-1) * (k : Int)).toNat = its.length - 1 - k := by omega
      have hk2 : its.length - 1 - k < its.length := by omega
      simp only [List.map_cons, List.map_nil, List.filterMap_cons, List.filterMap_nil]
      rw [e1, List.getElem?_toArray, List.getElem?_eq_getElem hk2, List.getElem?_reverse (by omega)]
      simp [hk2]
  have r : sliceRange ((its.length : Int) - 1) (-1) (-1) = (List.range its.length).map fun (m : Nat) => (((its.length : Nat) : Int) - 1 + (-1) * (m : Int)).toNat := by
    unfold sliceRange
    have c : (if (-1 : Int) > 0 then (if (its.length : Int) - 1 < -1 then ((-1) - ((its.length : Int) - 1) + (-1) - 1) / (-1) else 0) else (if (its.length : Int) - 1 > -1 then ((its.length : Int) - 1 - (-1) - (-1) - 1) / (-(-1)) else 0)).toNat = its.length := by
      rw [if_neg (by decide)]
      split
      · rw [show (-(-1) : Int) = 1 by decide, Int.ediv_one]
        omega
      · omega
    show (List.range _).map _ = _
    rw [c]
  have b : sliceBounds none none (some (-1)) its.toArray.size = ((its.length : Int) - 1, -1, -1) := by
    rw [List.size_toArray]
    rfl
  unfold slicePick
  rw [b]
  dsimp only
  rw [r, e _ (Nat.le_refl _), List.take_of_length_le (by rw [List.length_reverse]; exact Nat.le_refl _)]
def tBackL (K : PySem.W.Frag) (te : TE) (tp : TO) : TE := fun σ H Q => te σ H fun x H1 => tp σ H1 fun o H2 => ∃ a xs, x = .ref a ∧ SqL K H2 a xs ∧ o = some (-1) ∧ ∀ p, H2 p = none → Q (.ref p) (upd H2 p (.lst xs.reverse))
theorem pe_backL {X : Cx} {e st : Expr} {te : TE} {tp : TO} {p3 pos : Pos} (he : PE X e te) (hst : PO X (some st) tp)
    (hsub : ∀ a l : Addr, subscripted (.Slice none none (some st) p3) false (.ref a) (.ref l) = operate [.ref a, .ref l] (getItem (.ref a) (.ref l)) := by intro _ _; with_unfolding_all rfl) :
    PE X (.Subscript e (.Slice none none (some st) p3) pos) (tBackL X.K te tp) := by
  refine ⟨fun pins s σ H Q I h => ?_⟩
  refine Subscript_ (thn (he.run pins s σ H _ I h) fun v s1 ⟨x, H1, I1, r1, q1⟩ => ?_)
  refine wpAny_Slice (thn (po_none.run pins s1 σ H1 (fun o H2 => o = none ∧ H2 = H1) I1 ⟨rfl, rfl⟩) fun vl s2 ⟨l, H2, I2, pl, el, e2⟩ => ?_)
  subst el e2
  refine thn (po_none.run pins s2 σ H2 (fun o H3 => o = none ∧ H3 = H2) I2 ⟨rfl, rfl⟩) fun vu s3 ⟨u, H3, I3, pu, eu, e3⟩ => ?_
  subst eu e3
  refine thn (hst.run pins s3 σ H3 _ I3 q1) fun vs s4 ⟨o, H4, I4, ps, a, xs, ex, hx, eo, q⟩ => ?_
  subst ex eo
  cases r1
  have I5 : Inv X pins σ H4 { s4 with heap := s4.heap.push { cls := .type "slice", data := .fields #[vl, vu, vs] } } := I4.kept (t' := s4.toks) fun b ob q => Heap.get?_push_of_some _ q
  obtain ⟨its, r, ht, hz⟩ := I5.list hx
  have hlen : its.length = xs.length := r.length.symm
  show wpAny (model X.prog X.w) X.A (subscriptTail e (.Slice none none (some st) p3) (.ref a) (.ref s4.heap.objs.size)) (EP X pins σ Q) X.xe { s4 with heap := s4.heap.push { cls := .type "slice", data := .fields #[vl, vu, vs] } }
  refine tail_any (ops := [.ref a, .ref s4.heap.objs.size]) ht.isList.typeIs slot_list_getitem.lookup ?_ (hsub _ _)
  refine wpAny_getItem_list_slice ht.isList (Heap.IsSliceOf.new _ _ _ _) pl pu ps (by decide) ?_ (by rw [List.size_toArray]; omega)
  rw [pick_rev]
  refine ⟨.ref _, _, I5.laid (t' := s4.toks) (o := .lst xs.reverse) (fun b ob q => Heap.get?_push_of_some _ q) (Nat.le_refl _) ?_, rfl, q _ (I5.hok.fresh (Nat.le_refl _))⟩
  exact ⟨by rw [List.length_reverse]; exact hz, _, 0, Vals.reverse r, Heap.get?_push_size _ rfl⟩
/-! ### isinstance(x, (list, tuple)) -/
def tIsLT (K : PySem.W.Frag) (te : TE) : TE := fun σ H Q => te σ H fun x H1 => (∃ t xs, x = .ref t ∧ (SqL K H1 t xs ∨ SqT K H1 t xs)) ∧ ∀ T, H1 T = none → Q (.bl true) (upd H1 T (.tup [.ty "list", .ty "tuple"]))
theorem lt_list (t : Addr) : AnswersAll (fun s => s.TypeIs (.ref t) "list") (.ref t) [.type "list", .type "tuple"] [true, false] :=
  ⟨Answers.of_true PySem.F.isi_meta_list sub_list_self, Answers.of_false_list (by decide +kernel) PySem.F.isi_meta_tuple PySem.F.sub_list_tuple, True.intro⟩
theorem lt_tuple (t : Addr) : AnswersAll (fun s => s.TypeIs (.ref t) "tuple") (.ref t) [.type "list", .type "tuple"] [false, true] :=
  ⟨Answers.of_false_tuple (by decide +kernel) PySem.F.isi_meta_list PySem.F.sub_tuple_list, Answers.of_true PySem.F.isi_meta_tuple PySem.F.isi_sub_tuple, True.intro⟩
theorem pe_isiLT {X : Cx} {p pos tpos : Pos} {e : Expr} {es : List Expr} {te : TE} {k : Nat} (he : PE X e te) (hg : Gl X "isinstance") (hm : X.mg "isinstance" = none) (hes : PA X es (tCons (tC (.ty "list")) (tCons (tC (.ty "tuple")) tNil)))
    (n1 : starEach [e, .Tuple es k tpos] X.env = (false, eval e X.env) :: starEach [.Tuple es k tpos] X.env := by rfl) (n2 : starEach [.Tuple es k tpos] X.env = (false, eval (.Tuple es k tpos) X.env) :: starEach [] X.env := by rfl)
    (n3 : (backTo pos (starEach [.Tuple es k tpos] X.env)).any (·.1) = false := by rfl) : PE X (.Call (.Name "isinstance" p) [e, .Tuple es k tpos] [] pos) (tIsLT X.K te) := by
  refine ⟨fun pins s σ H Q I h => ?_⟩
  refine wpAny_Call_Name_kw (ld_blt I hg hm PyProof.Rows.boot_isinstance ?_ (by decide) (by decide))
  refine PyProof.Rows.callWith_builtin1 ?_ n1 n3
  rw [n1]
  show wpAny _ _ (spliced ((false, eval e X.env) :: backTo pos (starEach [.Tuple es k tpos] X.env))) _ _ s
  refine Calls.spliced_cons (thn (he.run pins s σ H _ I h) fun u s1 ⟨x, H1, I1, r1, ⟨t, xs, ex, hT⟩, q1⟩ => ?_)
  subst ex
  obtain rfl : u = Value.ref t := r1
  rw [n2]
  show wpAny _ _ (spliced ((false, eval (.Tuple es k tpos) X.env) :: backTo pos (starEach [] X.env))) _ _ s1
  refine Calls.spliced_cons (wpAny_Tuple_spliced (thn (hes.run tpos pins s1 σ H1 (fun ys H' => ys = [.ty "list", .ty "tuple"] ∧ H' = H1) I1 ⟨rfl, rfl⟩) fun us s2 ⟨ys, H2, I2, r2, ey, eH⟩ => ?_))
  subst ey eH
  have eu := vals_ty2 r2
  subst eu
  have two : 2 ≤ sizeLine := by rw [sizeLine_eq]; omega
  refine ⟨two, ?_⟩
  have fresh := I2.hok.fresh (Nat.le_refl s2.heap.objs.size)
  have I3 := I2.laid (a := s2.heap.objs.size) (o := .tup [.ty "list", .ty "tuple"]) (h' := s2.heap.push { cls := .type "tuple", data := .seq [Value.type "list", Value.type "tuple"].toArray }) (t' := s2.toks) (fun b u e => Heap.get?_push_of_some _ e) (Nat.le_refl _)
    ⟨two, [.type "list", .type "tuple"], r2, ⟨_, Heap.get?_push_size _ rfl, rfl, _, rfl⟩⟩
  refine Calls.spliced_nil ?_
  rcases hT with hT | hT
  · obtain ⟨its, _, pl, _⟩ := I2.list hT
    obtain ⟨o, ho, hc, _⟩ := pl.isList
    exact call_isinstance (isinstance_tuple (x := .ref t) (Tx := "list") (tp := s2.heap.objs.size) (lt_list t)) ⟨⟨o, Heap.get?_push_of_some _ ho, hc⟩, Heap.get?_push_size _ rfl, fun tk => ⟨.bl true, _, I3.tok tk, rfl, q1 _ fresh⟩⟩
  · obtain ⟨its, _, ⟨o, ho, hc, _⟩, _⟩ := I2.tuple hT
    exact call_isinstance (isinstance_tuple (x := .ref t) (Tx := "tuple") (tp := s2.heap.objs.size) (lt_tuple t)) ⟨⟨o, Heap.get?_push_of_some _ ho, hc⟩, Heap.get?_push_size _ rfl, fun tk => ⟨.bl true, _, I3.tok tk, rfl, q1 _ fresh⟩⟩
/-! ### lists of the same things -/
def sameB : V → Bool
  | .ref _ => true
  | v => flatB v
theorem items_same {A : Around} {s : Shared} : ∀ {xs : List V} {us ws : List Value}, (∀ v ∈ xs, sameB v = true) → Vals xs us → Vals xs ws → ∀ j (h1 : j < us.length) (h2 : j < ws.length), SeqAt.EqAt A s us[j] ws[j] true
  | [], _, _, _, .nil, .nil, j, h1, _ => absurd h1 (Nat.not_lt_zero j)
  | x :: xs, _, _, hf, .cons r1 t1, .cons r2 t2, 0, _, _ => by
    have f := hf x List.mem_cons_self
    cases x with
    | ref a =>
      cases r1
      cases r2
      exact SeqAt.EqAt.same _
    | _ => exact eqAt_same r1 r2 f
  | x :: xs, _, _, hf, .cons r1 t1, .cons r2 t2, j + 1, h1, h2 => items_same (fun v hv => hf v (List.mem_cons_of_mem _ hv)) t1 t2 j (Nat.lt_of_succ_lt_succ h1) (Nat.lt_of_succ_lt_succ h2)
section
variable {X : Cx}
def rNeS (K : PySem.W.Frag) : R2 := fun x y H Q => ∃ a b xs, x = .ref a ∧ y = .ref b ∧ SqL K H a xs ∧ SqL K H b xs ∧ (∀ v ∈ xs, sameB v = true) ∧ Q (.bl false) H
theorem op_neS (hu : X.A.units < cLine) : OpR X (compareOp .NotEq) (rNeS X.K) := by
  intro pins s σ H x y v u Q I rx ry h
  obtain ⟨a, b, xs, rfl, rfl, ha, hb, hf, q⟩ := h
  cases (show v = Value.ref a from rx)
  cases (show u = Value.ref b from ry)
  obtain ⟨us, r1, p1, _⟩ := I.list ha
  obtain ⟨ws, r2, p2, _⟩ := I.list hb
  have hsz : us.toArray.size = ws.toArray.size := by rw [List.size_toArray, List.size_toArray, ← r1.length, ← r2.length]
  refine SeqAt.RcNeAt.lists (e := fun _ => true) p1.isList p2.isList hsz hu (fun j h1 h2 => ?_) X.prog X.w _ _ ?_
  · have k := items_same (A := X.A.in1) (s := s) hf r1 r2 j (by simpa using h1) (by simpa using h2)
    simpa using k
  · rw [show ((List.range us.toArray.size).all fun _ => true) = true from List.all_eq_true.mpr fun _ _ => rfl]
    exact ⟨.bl false, H, I, rfl, q⟩
end
end G
set_option Elab.async false
set_option linter.all false
set_option maxRecDepth 100000
set_option maxHeartbeats 4000000
/-! ST3: set(xs) of a list of different keys (ints, texts), however many; len of such a set. -/
namespace GS
open PySem PySem.Spec PyProof.Rows L2
/-- is this one of the keys -/
def inK (ks : List Key) (c : Key) : Bool := ks.any fun y => decide (y = c)
theorem inK_of {ks : List Key} {c : Key} (h : c ∈ ks) : inK ks c = true := List.any_eq_true.mpr ⟨c, h, decide_eq_true rfl⟩
theorem inK_no {ks : List Key} {c : Key} (h : c ∉ ks) : inK ks c = false := by
  cases e : inK ks c with
  | false => rfl
  | true =>
    obtain ⟨y, hy, ey⟩ := List.any_eq_true.mp e
    exact (h (of_decide_eq_true ey ▸ hy)).elim
theorem mem_next {ks : List Key} {i : Nat} {c : Key} (h : ks[i]? = some c) (j : Key) : (inK (ks.take i) j || decide (j = c)) = inK (ks.take (i + 1)) j := by
  rw [List.take_add_one, h]
  show _ = List.any (ks.take i ++ [c]) _
  rw [List.any_append]
  show _ = (inK (ks.take i) j || (decide (c = j) || false))
  rw [Bool.or_false, decide_eq_decide.mpr (eq_comm (a := j) (b := c))]
theorem new_here {ks : List Key} (nd : ks.Nodup) {i : Nat} {c : Key} (h : ks[i]? = some c) : c ∉ ks.take i := fun hm => by
  obtain ⟨j, hj⟩ := List.mem_iff_getElem?.mp hm
  rw [List.getElem?_take] at hj
  by_cases z : j < i
  · rw [if_pos z] at hj
    obtain ⟨lj, ej⟩ := List.getElem?_eq_some_iff.mp hj
    obtain ⟨li, ei⟩ := List.getElem?_eq_some_iff.mp h
    exact List.pairwise_iff_getElem.mp nd j i lj li z (ej.trans ei.symm)
  · rw [if_neg z] at hj
    cases hj
section
variable {prog : Program} {w : World} {A : Around} {Z : Result → Shared → Prop} {it D : Addr} {fp wr : List Addr} {G : Array GenState → Array GenState → Prop} {n : Nat} {P : Nat → Value → Prop} {St : Nat → Shared → Prop}
/-- the set at D while the keys are walked -/
abbrev Upto (prog : Program) (w : World) (h : Heap) (D : Addr) (ks : List Key) (i : Nat) : Prop := h.SetOf (mixKind prog w) D (inK (ks.take i)) i
theorem upto_keep {h h' : Heap} {ks : List Key} {i : Nat} (u : Upto prog w h D ks i) (k : ∀ o, h.get? D = some o → h'.get? D = some o) : Upto prog w h' D ks i := setOf_at u k
theorem keys_loop (W : WalksS prog w A.in1 it fp wr G n P St) (out : D ∉ fp) (ks : List Key) (ln : ks.length = n) (nd : ks.Nodup) (few : n ≤ 4000) (each : ∀ i v, P i v → ∃ c, ks[i]? = some c ∧ RelV (kV c) v) :
    ∀ (m i : Nat) (s : Shared), i + m = n → St i s → Upto prog w s.heap D ks i → (∀ s', Moved (D :: wr) G s s' → Upto prog w s'.heap D ks n → Z (.ok (.ret .none)) s') →
      codeAny (model prog w) A (.builtin "set.update.loop" ⟨[.ref D, .ref it], []⟩) Z s := by
  have outw : D ∉ wr := fun z => out (W.sub _ z)
  have more : ∀ b ∈ wr, b ∈ D :: wr := fun b z => List.mem_cons_of_mem _ z
  intro m
  induction m with
  | zero =>
    intro i s em st u fin
    have e : i = n := em
    subst e
    refine codeAny_builtin PyProof.Rows.F.entry_set_update_loop ?_
    rw [Around.under_plainId PyProof.Rows.F.plain_set_update_loop _]
    show wpAny _ A.in1 (pyNext (.ref it) >>= _) _ _ s
    refine wpAny_bind (W.done s _ _ st fun s' mv => ?_)
    show wpAny _ A.in1 (ret Value.none) _ _ s'
    exact wpAny_pure (fin s' (mv.mono more) (upto_keep u fun o e => mv.heap D o outw e))
  | succ m ih =>
    intro i s em st u fin
    have lt : i < n := by omega
    refine codeAny_builtin PyProof.Rows.F.entry_set_update_loop ?_
    rw [Around.under_plainId PyProof.Rows.F.plain_set_update_loop _]
    show wpAny _ A.in1 (pyNext (.ref it) >>= _) _ _ s
    refine wpAny_bind (W.item i s _ _ lt st fun v s' pv st' mv => ?_)
    obtain ⟨c, hc, rc⟩ := each i v pv
    have u' : Upto prog w s'.heap D ks i := upto_keep u fun o e => mv.heap D o outw e
    show wpAny _ A.in1 (holding [v] (setAdd D v) >>= _) _ _ s'
    refine wpAny_bind (wpAny_holding ?_)
    unfold setAdd
    refine wpAny_holding ?_
    refine wpAny_bind ((mixKind prog w).pyHash (k := c) (kV_is rc) ?_)
    refine wpAny_setAddHashed_of (knd := mixKind prog w) (s := { s' with toks := s'.toks + 1 }) (kV_is rc) (key_scan rc) u' (by unfold scanBound; omega) fun h' sb u2 => ?_
    have u3 : Upto prog w h' D ks (i + 1) := by
      have e1 : (fun j => inK (ks.take i) j || decide (j = c)) = inK (ks.take (i + 1)) := funext (mem_next hc)
      rw [e1, inK_no (new_here nd hc)] at u2
      exact u2
    refine wpAny_pure ⟨plainId_quiet PyProof.Rows.F.plain_set_update_loop _, ih (i + 1) _ (by omega) (W.frame _ s' _ _ st' (Nat.le_succ _) fun b hb o e => ?_) u3 fun s2 mv2 u4 => ?_⟩
    · exact (sb.2 b fun z => out (z ▸ hb)).trans e
    · refine fin s2 (Moved.trans W.gtrans ((mv.mono more).then_heap (Nat.le_succ _) fun b o hb e => ?_) mv2) u4
      exact (sb.2 b fun z => hb (by rw [z]; exact List.mem_cons_self)).trans e
end
section
variable {prog : Program} {w : World} {A : Around} {E : Value → Shared → Prop} {s : Shared}
theorem set_of_list {l : Addr} {items : Array Value} {ks : List Key} {Q : Value → Shared → Prop} (calm : A.handled = none) (hl : s.heap.IsList l items) (r : Vals (ks.map kV) items.toList) (nd : ks.Nodup) (few : ks.length ≤ 4000)
    (go : ∀ (h' : Heap) (tk : Nat), h'.SetOf (mixKind prog w) s.heap.objs.size (inK ks) ks.length → (∀ b o, b < s.heap.objs.size → s.heap.get? b = some o → h'.get? b = some o) → Q (.ref s.heap.objs.size) { s with heap := h', toks := tk }) :
    wpAny (model prog w) A (call (.type "set") [.ref l]) Q E s := by
  have size : ks.length = items.size := by
    have := r.length
    rw [List.length_map] at this
    rw [this, Array.length_toList]
  obtain ⟨f1, f2, f3⟩ := PySem.F.called_set.mro
  have f4 := PySem.F.called_set.made
  have f5 := PySem.F.called_set.sub
  refine wpAny_call (codeAny_of_tree ?_)
  show wpAny _ _ (callAny (.type "set") _) _ _ _
  refine wpAny_pure ⟨Code.quiet_builtin _ (by decide +kernel), codeAny_builtin PySem.F.entry_type_call ?_⟩
  rw [Around.under_plain (weight_type_call_type "set" [.ref l] []) rfl]
  have f6 := PySem.F.called_set.notType
  have f7 := PySem.F.called_set.canCreate
  have f8 := PySem.F.typeCall_set_1 (.ref l)
  repeat (any_goals (first | assumption | wp_step))
  refine codeAny_mono (code_set_new_1 (.ref l) (E := E) (Q₁ := fun x s1 => ∃ fl : Bool, x = .ref s.heap.objs.size ∧ s1 = { s with heap := s.heap.push { cls := .type "set", dict := none, data := .set #[] 0 (.fresh 0 0 fl) } }) fun fl => ⟨fl, rfl, rfl⟩) fun rs s1 z => ?_
  rcases rs with e | (x | _ | _ | _) <;> first | exact z | exact z.elim | skip
  obtain ⟨fl, rfl, rfl⟩ := z
  have eS : (s.heap.push { cls := .type "set", dict := none, data := .set #[] 0 (.fresh 0 0 fl) }).get? s.heap.objs.size = some { cls := .type "set", dict := none, data := .set #[] 0 (.fresh 0 0 fl) } := Heap.get?_push_size _ rfl
  have tS : Shared.TypeIs { s with heap := s.heap.push { cls := .type "set", dict := none, data := .set #[] 0 (.fresh 0 0 fl) } } (.ref s.heap.objs.size) "set" := ⟨_, eS, rfl⟩
  have g1 := PySem.F.called_set.init.lookup
  have g2 := PySem.F.called_set.init.bind (.ref s.heap.objs.size)
  repeat (any_goals (first | assumption | wp_step))
  refine codeAny_mono (codeAny_call_builtin (R := wants (fun v s2 => v = .none ∧ ∃ h' tk, s2 = { s with heap := h', toks := tk } ∧ h'.SetOf (mixKind prog w) s.heap.objs.size (inK ks) ks.length ∧
      (∀ b o, b < s.heap.objs.size → s.heap.get? b = some o → h'.get? b = some o)) E) PySem.F.called_set.init.plain PySem.F.entry_set_init (check_set_init_1 tS ?_)) fun r2 s2 z => ?_
  · obtain ⟨ol, hol, hcl, nl, hdl⟩ := hl
    obtain ⟨c0, d0, dt0, sl0⟩ := ol
    simp only at hcl hdl
    subst hcl
    subst hdl
    have hol2 : (s.heap.push { cls := .type "set", dict := none, data := .set #[] 0 (.fresh 0 0 fl) }).get? l = some { cls := .type "list", dict := d0, data := .seq items nl, slots := sl0 } := Heap.get?_push_of_some _ hol
    have n1 := PySem.F.sub_list_set
    have n2 := PySem.F.sub_list_frozenset
    have n3 : (Value.type "list" == Value.type "dict") = false := by decide
    have old : (s.heap.push { cls := .type "set", dict := none, data := .set #[] 0 (.fresh 0 0 fl) }).IsList l items := ⟨_, hol2, rfl, nl, rfl⟩
    unfold Builtin.«set.__init__» noKeywords Builtin.Frozenset.updateFrom
    generalize hPI : pyIter = PI
    wp_walk
    subst hPI
    refine wpAny_pyIter_list old ?_
    refine wpAny_bind (wpAny_runValue ?_)
    have below : l < s.heap.objs.size := Heap.lt_size hol
    have calm3 : A.in1.in1.in1.handled = none := by simp [calm]
    have apart : l ≠ (s.heap.push { cls := .type "set", dict := none, data := .set #[] 0 (.fresh 0 0 fl) }).objs.size := by
      rw [Heap.size_push]
      exact Nat.ne_of_lt (Nat.lt_succ_of_lt below)
    have out : s.heap.objs.size ∉ [(s.heap.push { cls := .type "set", dict := none, data := .set #[] 0 (.fresh 0 0 fl) }).objs.size, l] := by
      rw [Heap.size_push]
      simp only [List.mem_cons, List.mem_singleton, List.not_mem_nil, or_false, not_or]
      exact ⟨Nat.ne_of_lt (Nat.lt_succ_self _), Nat.ne_of_gt below⟩
    refine keys_loop ((Walks.list calm3 _ l apart items).toS) out ks size nd (by rw [← size]; exact few) (fun i v hv => ?_) items.size 0 _ (Nat.zero_add _) ⟨⟨_, Heap.get?_push_size _ rfl, rfl, rfl⟩, ?old⟩ ?first ?last
    · rw [← Array.getElem?_toList] at hv
      obtain ⟨li, ei⟩ := List.getElem?_eq_some_iff.mp hv
      have lk : i < ks.length := by
        rw [Array.length_toList] at li
        omega
      obtain ⟨u, hu, ru⟩ := r.get (i := i) (x := kV ks[i]) (by rw [List.getElem?_map, List.getElem?_eq_getElem lk]; rfl)
      rw [hu] at hv
      cases hv
      exact ⟨_, List.getElem?_eq_getElem lk, ru⟩
    case old => exact old.push _
    case first =>
      have at0 : ((s.heap.push { cls := .type "set", dict := none, data := .set #[] 0 (.fresh 0 0 fl) }).push { cls := .type "list_iterator", data := .fields #[.ref l, .int 0 0] }).get? s.heap.objs.size = some { cls := .type "set", dict := none, data := .set #[] 0 (.fresh 0 0 fl) } := Heap.get?_push_of_some _ eS
      exact (show Heap.SetOf (mixKind prog w) _ s.heap.objs.size (fun _ => false) 0 from ⟨_, #[], 0, _, at0, ⟨rfl, rfl, rfl⟩, rfl, (fun e he => by simp at he), (fun k => by simp), (by decide), (by rfl), rfl⟩)
    case last =>
      intro s' mv u
      obtain ⟨h', g', d', tk', os'⟩ := s'
      have eg : g' = s.gens := mv.gens
      have ed : d' = s.drawn := mv.drawn
      have eo : os' = s.os := mv.os
      subst eg
      subst ed
      subst eo
      rw [← size] at u
      have u2 : h'.SetOf (mixKind prog w) s.heap.objs.size (inK (ks.take ks.length)) ks.length := u
      rw [List.take_length] at u2
      show wpAny _ _ _ _ _ _
      refine wpAny_pure ?_
      show wpAny _ _ (ret Value.none) _ _ _
      refine wpAny_pure ⟨rfl, h', tk', rfl, u2, fun b o hb e => ?_⟩
      refine mv.heap b o ?_ (Heap.get?_push_of_some _ (Heap.get?_push_of_some _ e))
      rw [Heap.size_push]
      simp only [List.mem_cons, List.mem_singleton, List.not_mem_nil, or_false, not_or]
      exact ⟨Nat.ne_of_lt hb, Nat.ne_of_lt (Nat.lt_succ_of_lt hb)⟩
  · rcases r2 with e | (x | _ | _ | _) <;> first | exact z | exact z.elim | skip
    obtain ⟨rfl, h', tk, rfl, hS, hk⟩ := z
    repeat (any_goals (first | assumption | wp_step))
    exact go _ _ hS hk
end
section
variable {prog : Program} {w : World} {A : Around} {E : Value → Shared → Prop} {s : Shared}
theorem set_of_tuple {l : Addr} {items : Array Value} {ks : List Key} {Q : Value → Shared → Prop} (calm : A.handled = none) (hl : s.heap.IsTuple l items) (r : Vals (ks.map kV) items.toList) (nd : ks.Nodup) (few : ks.length ≤ 4000)
    (go : ∀ (h' : Heap) (tk : Nat), h'.SetOf (mixKind prog w) s.heap.objs.size (inK ks) ks.length → (∀ b o, b < s.heap.objs.size → s.heap.get? b = some o → h'.get? b = some o) → Q (.ref s.heap.objs.size) { s with heap := h', toks := tk }) :
    wpAny (model prog w) A (call (.type "set") [.ref l]) Q E s := by
  have size : ks.length = items.size := by
    have := r.length
    rw [List.length_map] at this
    rw [this, Array.length_toList]
  obtain ⟨f1, f2, f3⟩ := PySem.F.called_set.mro
  have f4 := PySem.F.called_set.made
  have f5 := PySem.F.called_set.sub
  refine wpAny_call (codeAny_of_tree ?_)
  show wpAny _ _ (callAny (.type "set") _) _ _ _
  refine wpAny_pure ⟨Code.quiet_builtin _ (by decide +kernel), codeAny_builtin PySem.F.entry_type_call ?_⟩
  rw [Around.under_plain (weight_type_call_type "set" [.ref l] []) rfl]
  have f6 := PySem.F.called_set.notType
  have f7 := PySem.F.called_set.canCreate
  have f8 := PySem.F.typeCall_set_1 (.ref l)
  repeat (any_goals (first | assumption | wp_step))
  refine codeAny_mono (code_set_new_1 (.ref l) (E := E) (Q₁ := fun x s1 => ∃ fl : Bool, x = .ref s.heap.objs.size ∧ s1 = { s with heap := s.heap.push { cls := .type "set", dict := none, data := .set #[] 0 (.fresh 0 0 fl) } }) fun fl => ⟨fl, rfl, rfl⟩) fun rs s1 z => ?_
  rcases rs with e | (x | _ | _ | _) <;> first | exact z | exact z.elim | skip
  obtain ⟨fl, rfl, rfl⟩ := z
  have eS : (s.heap.push { cls := .type "set", dict := none, data := .set #[] 0 (.fresh 0 0 fl) }).get? s.heap.objs.size = some { cls := .type "set", dict := none, data := .set #[] 0 (.fresh 0 0 fl) } := Heap.get?_push_size _ rfl
  have tS : Shared.TypeIs { s with heap := s.heap.push { cls := .type "set", dict := none, data := .set #[] 0 (.fresh 0 0 fl) } } (.ref s.heap.objs.size) "set" := ⟨_, eS, rfl⟩
  have g1 := PySem.F.called_set.init.lookup
  have g2 := PySem.F.called_set.init.bind (.ref s.heap.objs.size)
  repeat (any_goals (first | assumption | wp_step))
  refine codeAny_mono (codeAny_call_builtin (R := wants (fun v s2 => v = .none ∧ ∃ h' tk, s2 = { s with heap := h', toks := tk } ∧ h'.SetOf (mixKind prog w) s.heap.objs.size (inK ks) ks.length ∧
      (∀ b o, b < s.heap.objs.size → s.heap.get? b = some o → h'.get? b = some o)) E) PySem.F.called_set.init.plain PySem.F.entry_set_init (check_set_init_1 tS ?_)) fun r2 s2 z => ?_
  · obtain ⟨ol, hol, hcl, nl, hdl⟩ := hl
    obtain ⟨c0, d0, dt0, sl0⟩ := ol
    simp only at hcl hdl
    subst hcl
    subst hdl
    have hol2 : (s.heap.push { cls := .type "set", dict := none, data := .set #[] 0 (.fresh 0 0 fl) }).get? l = some { cls := .type "tuple", dict := d0, data := .seq items nl, slots := sl0 } := Heap.get?_push_of_some _ hol
    have n1 := PySem.F.sub_tuple_set
    have n2 := PySem.F.sub_tuple_frozenset
    have n3 : (Value.type "tuple" == Value.type "dict") = false := by decide
    have old : (s.heap.push { cls := .type "set", dict := none, data := .set #[] 0 (.fresh 0 0 fl) }).IsTuple l items := ⟨_, hol2, rfl, nl, rfl⟩
    unfold Builtin.«set.__init__» noKeywords Builtin.Frozenset.updateFrom
    generalize hPI : pyIter = PI
    wp_walk
    subst hPI
    refine wpAny_pyIter_tuple old ?_
    refine wpAny_bind (wpAny_runValue ?_)
    have below : l < s.heap.objs.size := Heap.lt_size hol
    have calm3 : A.in1.in1.in1.handled = none := by simp [calm]
    have apart : l ≠ (s.heap.push { cls := .type "set", dict := none, data := .set #[] 0 (.fresh 0 0 fl) }).objs.size := by
      rw [Heap.size_push]
      exact Nat.ne_of_lt (Nat.lt_succ_of_lt below)
    have out : s.heap.objs.size ∉ [(s.heap.push { cls := .type "set", dict := none, data := .set #[] 0 (.fresh 0 0 fl) }).objs.size, l] := by
      rw [Heap.size_push]
      simp only [List.mem_cons, List.mem_singleton, List.not_mem_nil, or_false, not_or]
      exact ⟨Nat.ne_of_lt (Nat.lt_succ_self _), Nat.ne_of_gt below⟩
    refine keys_loop ((Walks.tuple calm3 _ l apart items).toS) out ks size nd (by rw [← size]; exact few) (fun i v hv => ?_) items.size 0 _ (Nat.zero_add _) ⟨⟨_, Heap.get?_push_size _ rfl, rfl, rfl⟩, ?old⟩ ?first ?last
    · rw [← Array.getElem?_toList] at hv
      obtain ⟨li, ei⟩ := List.getElem?_eq_some_iff.mp hv
      have lk : i < ks.length := by
        rw [Array.length_toList] at li
        omega
      obtain ⟨u, hu, ru⟩ := r.get (i := i) (x := kV ks[i]) (by rw [List.getElem?_map, List.getElem?_eq_getElem lk]; rfl)
      rw [hu] at hv
      cases hv
      exact ⟨_, List.getElem?_eq_getElem lk, ru⟩
    case old => exact old.push _
    case first =>
      have at0 : ((s.heap.push { cls := .type "set", dict := none, data := .set #[] 0 (.fresh 0 0 fl) }).push { cls := .type "tuple_iterator", data := .fields #[.ref l, .int 0 0] }).get? s.heap.objs.size = some { cls := .type "set", dict := none, data := .set #[] 0 (.fresh 0 0 fl) } := Heap.get?_push_of_some _ eS
      exact (show Heap.SetOf (mixKind prog w) _ s.heap.objs.size (fun _ => false) 0 from ⟨_, #[], 0, _, at0, ⟨rfl, rfl, rfl⟩, rfl, (fun e he => by simp at he), (fun k => by simp), (by decide), (by rfl), rfl⟩)
    case last =>
      intro s' mv u
      obtain ⟨h', g', d', tk', os'⟩ := s'
      have eg : g' = s.gens := mv.gens
      have ed : d' = s.drawn := mv.drawn
      have eo : os' = s.os := mv.os
      subst eg
      subst ed
      subst eo
      rw [← size] at u
      have u2 : h'.SetOf (mixKind prog w) s.heap.objs.size (inK (ks.take ks.length)) ks.length := u
      rw [List.take_length] at u2
      show wpAny _ _ _ _ _ _
      refine wpAny_pure ?_
      show wpAny _ _ (ret Value.none) _ _ _
      refine wpAny_pure ⟨rfl, h', tk', rfl, u2, fun b o hb e => ?_⟩
      refine mv.heap b o ?_ (Heap.get?_push_of_some _ (Heap.get?_push_of_some _ e))
      rw [Heap.size_push]
      simp only [List.mem_cons, List.mem_singleton, List.not_mem_nil, or_false, not_or]
      exact ⟨Nat.ne_of_lt hb, Nat.ne_of_lt (Nat.lt_succ_of_lt hb)⟩
  · rcases r2 with e | (x | _ | _ | _) <;> first | exact z | exact z.elim | skip
    obtain ⟨rfl, h', tk, rfl, hS, hk⟩ := z
    repeat (any_goals (first | assumption | wp_step))
    exact go _ _ hS hk
end
/-! ### the rules -/
section
variable {X : Cx}
/-- set(xs), xs a list or a tuple of different keys -/
def rSetKs (K : PySem.W.Frag) (P : Program) (w : World) : List V → Hp → VK → Prop := fun xs H Q => ∃ (l : Addr) (ks : List Key), xs = [.ref l] ∧ (SqL K H l (ks.map kV) ∨ SqT K H l (ks.map kV)) ∧ ks.Nodup ∧ ks.length ≤ 4000 ∧
  ∀ p, H p = none → Q (.ref p) (upd H p (SetK P w p (inK ks) ks.length))
theorem cr_setKs (calm : X.calm = true) : CallR X (.type "set") (rSetKs X.K X.prog X.w) := by
  intro pins s σ H xs us Q I r h
  obtain ⟨l, ks, rfl, hq, nd, few, q⟩ := h
  obtain ⟨u, rfl, ru⟩ := vals1 r
  cases (show u = Value.ref l from ru)
  have fin : ∀ (h' : Heap) (tk : Nat), h'.SetOf (mixKind X.prog X.w) s.heap.objs.size (inK ks) ks.length → (∀ b o, b < s.heap.objs.size → s.heap.get? b = some o → h'.get? b = some o) → EP X pins σ Q (.ref s.heap.objs.size) { s with heap := h', toks := tk } := fun h' tk hS k =>
    ⟨.ref _, upd H s.heap.objs.size (SetK X.prog X.w s.heap.objs.size (inK ks) ks.length), I.laid (t' := tk) (fun b o e => k b o (Heap.lt_size e) e) (Nat.le_refl _) (setK_new hS), rfl, q _ (I.hok.fresh (Nat.le_refl _))⟩
  rcases hq with hq | hq
  · obtain ⟨its, rv, p, _⟩ := I.list hq
    exact set_of_list (I.ok.hd calm) p.isList (by simpa using rv) nd few fin
  · obtain ⟨its, rv, p, _⟩ := I.tuple hq
    exact set_of_tuple (I.ok.hd calm) p (by simpa using rv) nd few fin
/-- len of a set of keys -/
def rLenK (P : Program) (w : World) : List V → Hp → VK → Prop := fun xs H Q => ∃ (a : Addr) (S : Key → Bool) (n : Nat), xs = [.ref a] ∧ H a = some (SetK P w a S n) ∧ n ≤ 4000 ∧ Q (.int (n : Nat)) H
theorem cr_lenKs : CallR X (.builtin "len") (rLenK X.prog X.w) := by
  intro pins s σ H xs us Q I r h
  obtain ⟨a, S, n, rfl, ha, few, q⟩ := h
  obtain ⟨u, rfl, ru⟩ := vals1 r
  cases (show u = Value.ref a from ru)
  obtain ⟨o, es, ep, t, ho, hex, hd, _, _, _, hf, hn⟩ := setK_get I ha
  exact call_len_set ho hex hd hf (by rw [hn]; omega) ⟨.int n, H, I.tok _, ⟨_, by rw [hn]⟩, q⟩
end
end GS
set_option Elab.async false
set_option linter.all false
set_option maxRecDepth 100000
set_option maxHeartbeats 4000000
/-! SH1: rows asked: is_list, need_rows_with_answers. -/
namespace G
open PySem PySem.Spec PyProof.Rows L2 NdefX
abbrev sIsList : Stmt := topS 18
abbrev sNeedRows : Stmt := topS 38
theorem scIsList : FnScope ["value", "most"] ["value", "most"] (defScope sIsList) := ⟨rfl, rfl, rfl, by decide +kernel, rfl, by decide +kernel, by decide +kernel⟩
theorem scNeedRows : FnScope ["rows", "answers", "row"] ["rows", "answers"] (defScope sNeedRows) := ⟨rfl, rfl, rfl, by decide +kernel, rfl, by decide +kernel, by decide +kernel⟩
theorem sqL_keep {K : PySem.W.Frag} {H H' : Hp} {l : Addr} {xs : List V} (s : Same H H') : SqL K H l xs → SqL K H' l xs
  | .inl (.inl h) => .inl (.inl (s _ _ h))
  | .inl (.inr ⟨o, h⟩) => .inl (.inr ⟨o, s _ _ h⟩)
  | .inr h => .inr h
theorem sqT_keep {K : PySem.W.Frag} {H H' : Hp} {l : Addr} {xs : List V} (s : Same H H') : SqT K H l xs → SqT K H' l xs
  | .inl (.inl h) => .inl (.inl (s _ _ h))
  | .inl (.inr ⟨o, h⟩) => .inl (.inr ⟨o, s _ _ h⟩)
  | .inr h => .inr h
def SqLT (K : PySem.W.Frag) (H : Hp) (l : Addr) (xs : List V) : Prop := SqL K H l xs ∨ SqT K H l xs
theorem SqLT.keep {K : PySem.W.Frag} {H H' : Hp} {l : Addr} {xs : List V} (s : Same H H') : SqLT K H l xs → SqLT K H' l xs
  | .inl h => .inl (sqL_keep s h)
  | .inr h => .inr (sqT_keep s h)
def iLT (K : PySem.W.Frag) (tl : TE) : TI := fun σ H R => tl σ H fun x H1 => ∃ a, x = .ref a ∧ (((∃ xs, SqL K H1 a xs) ∧ R (Itl K a) H1) ∨ ((∃ xs, SqT K H1 a xs) ∧ R (Itt K a) H1))
theorem pi_lt {X : Cx} {tg l : Expr} {tl : TE} (hl : PE X l tl) : PI X tg l (iLT X.K tl) := by
  refine ⟨fun pins s σ H R I h => ?_⟩
  refine thn (hl.run pins s σ H _ I h) fun v s1 ⟨x, H1, I1, r1, a, e, k⟩ => ?_
  subst e
  obtain rfl : v = Value.ref a := r1
  have fp : ∀ b ∈ [s1.heap.objs.size], _ := fun b hb => by
    obtain rfl : b = s1.heap.objs.size := by simpa using hb
    exact I1.fpOk (Nat.le_refl _) (I1.hok.fresh (Nat.le_refl _))
  rcases k with ⟨⟨xs, hq⟩, q⟩ | ⟨⟨xs, hq⟩, q⟩
  · obtain ⟨its, rv, pl, _⟩ := I1.list hq
    refine wpAny_pyIter_list pl.isList ⟨s1.heap.objs.size, [s1.heap.objs.size], _, _, H1, rfl, ?_, turn_list a _, ?_, fp, q⟩
    · exact I1.kept (t' := s1.toks) fun b o e => Heap.get?_push_of_some _ e
    · exact ⟨_, Heap.get?_push_size _ rfl, rfl, rfl⟩
  · obtain ⟨its, rv, pl, _⟩ := I1.tuple hq
    refine wpAny_pyIter_tuple (show s1.heap.IsTuple a its.toArray from pl) ⟨s1.heap.objs.size, [s1.heap.objs.size], _, _, H1, rfl, ?_, turn_tuple a _, ?_, fp, q⟩
    · exact I1.kept (t' := s1.toks) fun b o e => Heap.get?_push_of_some _ e
    · exact ⟨_, Heap.get?_push_size _ rfl, rfl, rfl⟩
theorem ne_ifL {A B : Prop} {x y : V} (e : x = y) (h : B) : if (!decide (x = y)) = true then A else B := by
  rw [decide_eq_true e]
  exact iteF h
theorem with_fin {G : Prop} (S : (Addr → Hp → Prop) → Prop) (Qd : Addr → Hp → Prop) (h1 : S Qd → G) (h2 : S Qd) : G := h1 h2
def txK (zs : List Str) : List Key := zs.map Sum.inr
theorem txK_V (zs : List Str) : (txK zs).map kV = zs.map V.str := by
  unfold txK
  rw [List.map_map]
  rfl
theorem txK_nd {zs : List Str} (h : zs.Nodup) : (txK zs).Nodup := by
  unfold txK List.Nodup
  exact List.pairwise_map.mpr (h.imp fun a e => a (Sum.inr.inj e))
def spIsList (K : PySem.W.Frag) : Sp := fun vs H Q _ => ∃ (l : Addr) (n : Nat) (xs : List V), vs = [.ref l, .int (n : Nat)] ∧ SqLT K H l xs ∧ xs.length ≤ n ∧ ∀ H', Same H H' → Q (.bl true) H'
/-- rows that may be asked of -/
structure RowsOk (zs : List Str) : Prop where
  few : zs.length ≤ 40
  nd : zs.Nodup
  nm : ∀ z ∈ zs, NameZ z
def spNeedRows (K : PySem.W.Frag) : Sp := fun vs H Q _ => ∃ (l d : Addr) (zs : List Str) (kvs : List (Key × V)), vs = [.ref l, .ref d] ∧ SqLT K H l (zs.map V.str) ∧ RowsOk zs ∧ H d = some (.dK kvs) ∧ ∀ H', Same H H' → Q .non H'
section
variable {P : Program} {w : World} {K : PySem.W.Frag} {mg : Str → Option Value} {base : Heap}
theorem ok_islist {f : Addr} {fd : FuncData} (F : Fun K "is_list" "is_list" sIsList f fd) (mi : mg "isinstance" = none) (ml : mg "len" = none) (mL : mg "list" = none) (mt : mg "tuple" = none) : FnOk P w K mg base CX0 1 f fd ["value", "most"] (spIsList K) := by
  refine F.ok scIsList (fun vs H Q E h => ?_) (fun cdv A outer s H vs Q E hr h => ?_)
  · obtain ⟨l, n, xs, rfl, _⟩ := h
    rfl
  · obtain ⟨l, n, xs, rfl, hx, hl, q⟩ := h
    refine ⟨_, pss_one (ps_ret (pe_and (pe_isiLT (pv 0) (by rfl) mi (pa_cons (pe_bltn (v := .ty "list") (u := .type "list") (by rfl) mL (by decide +kernel) rfl) (pa_cons (pe_bltn (v := .ty "tuple") (u := .type "tuple") (by rfl) mt (by decide +kernel) rfl) pa_nil)))
      (pe_one (pe_cmpR op_le (pe_callB call_len_seq (by rfl) ml PySem.boot_len (pa_cons (pv 0) pa_nil)) (pv 1) (nomark _))))), ?_⟩
    refine ⟨_, rfl, ⟨l, xs, rfl, hx⟩, fun T hT => ⟨_, rfl, iteT ?_⟩⟩
    have sT := Same.new (o := .tup [.ty "list", .ty "tuple"]) hT
    refine ⟨_, rfl, l, xs, rfl, hx.keep sT, _, rfl, _, _, rfl, rfl, ?_⟩
    have e : decide (((xs.length : Nat) : Int) ≤ (n : Int)) = true := decide_eq_true (by omega)
    show Q (.bl (decide (((xs.length : Nat) : Int) ≤ (n : Int)))) _
    rw [e]
    exact q _ sT
theorem ok_needrows {f fL fN : Addr} {fd fdL fdN : FuncData} {t1 : Tok} (F : Fun K "need_rows_with_answers" "need_rows_with_answers" sNeedRows f fd) (GL : FnOk P w K mg base CX0 1 fL fdL ["value", "most"] (spIsList K)) (gL : mg "is_list" = some (.ref fL)) (kL : PySem.W.keepIn K (.ref fL) = true) (bL : Binds K fdL ["value", "most"] [])
    (GN : FnOk P w K mg base CX0 1 fN fdN ["value"] spIsName) (gN : mg "is_name" = some (.ref fN)) (kN : PySem.W.keepIn K (.ref fN) = true) (bN : Binds K fdN ["value"] []) (gM : mg "MOST_PLAIN_ROWS" = some (.int 40 t1))
    (mi : mg "isinstance" = none) (ml : mg "len" = none) (ma : mg "all" = none) (ms : mg "set" = none) (md : mg "dict" = none) : FnOk P w K mg base CX0 2 f fd ["rows", "answers"] (spNeedRows K) := by
  refine F.ok scNeedRows (fun vs H Q E h => ?_) (fun cdv A outer s H vs Q E hr h => ?_)
  · obtain ⟨l, d, zs, kvs, rfl, _⟩ := h
    rfl
  · obtain ⟨l, d, zs, kvs, rfl, hl, ok, hd, q⟩ := h
    refine ⟨_, pss_cons (ps_if (PW.pt (pw_or (pt_not (pt_val (pe_call GL hr rfl gL kL bL .nil pass0 (pa_cons (pv 0) (pa_cons (pe_glob (v := .int 40) rfl gM ⟨_, rfl⟩) pa_nil)))))
        (pw_or1 (pt_not (pt_val (pe_callB (cr_all rfl) (by rfl) ma (by decide +kernel) (pa_cons (pe_lc (own := [("row", 2)]) (g := gName 2) (tt := tYes) (by rfl) scNeedRows.nd (pi_lt (pv 0))
          (blkOk_by (own := [("row", 2)]) (N := ["rows", "answers", "row"]) (sc := defScope sNeedRows) (by decide +kernel)) (fun _ _ _ _ _ => pg_name (i := 2) scNeedRows.nd rfl (.inl rfl)) (fun _ _ _ _ _ => pts_nil)
          (fun _ _ _ _ _ => pe_call GN hr rfl gN kN bN .nil pass0 (pa_cons (pv 2) pa_nil))) pa_nil))))))) (pss_one ps_never) pss_nil)
      (pss_cons (ps_if (pt_cmpR op_ne (pe_callB GS.cr_lenKs (by rfl) ml PySem.boot_len (pa_cons (pe_callTy (GS.cr_setKs rfl) (by rfl) ms (by decide +kernel) (pa_cons (pv 0) pa_nil)) pa_nil)) (pe_callB call_len_seq (by rfl) ml PySem.boot_len (pa_cons (pv 0) pa_nil)) (nomark _)) (pss_one ps_never) pss_nil)
      (pss_one (ps_if (pt_not (pt_val (pt_isi "dict" (pv 1) (hm := mi) (mn := md)))) (pss_one ps_never) pss_nil))), ?_⟩
    refine ⟨_, rfl, l, 40, _, rfl, hl, by rw [List.length_map]; exact ok.few, fun H1 s1 => ⟨_, rfl, iteF ?_⟩⟩
    refine ⟨_, rfl, l, rfl, ?_⟩
    have hl1 := hl.keep s1
    have all1 : ∀ n, (List.replicate n true).all id = true := fun n => List.all_eq_true.mpr fun x hx => by
      rw [(List.mem_replicate.mp hx).2]
      rfl
    refine with_fin (fun Qd : Addr → Hp → Prop => ∀ (D : Addr) (H3 : Hp) (n : Nat), Same H1 H3 → H3 D = some (.lst ((List.replicate n true).map V.bl)) → Qd D H3) ?_ (fun fin => ?_) ?_
    rotate_left
    · rcases hl1 with hl1 | hl1
      · refine .inl ⟨⟨_, hl1⟩, fun D hD => ?_⟩
        refine lc_list (xs := zs.map V.str) (fun i H3 => Same H1 H3 ∧ H3 D = some (.lst ((List.replicate i true).map V.bl))) ?_ ?_ ?_ ?_
        · exact ⟨Same.new hD, upd_same⟩
        · exact fun _ _ _ z => sqL_keep z.1 hl1
        · rintro i x H3 hx ⟨s3, e3⟩
          rw [List.getElem?_map] at hx
          obtain ⟨z, hz, rfl⟩ := Option.map_eq_some_iff.mp hx
          have hi : i < zs.length := (List.getElem?_eq_some_iff.mp hz).1
          have few := ok.few
          refine ⟨rfl, ?_⟩
          unfold tYes
          dsimp only
          rw [if_pos rfl]
          refine ⟨_, rfl, z, rfl, ok.nm z (List.mem_of_getElem? hz), fun H4 s4 => ⟨_, s4 _ _ e3, ?_, fun c o e => (upd_ne (ne_of_none e hD)).trans (s4 _ _ (s3 _ _ e)), ?_⟩⟩
          · rw [List.length_map, List.length_replicate]
            exact small1000 (by omega)
          · rw [upd_same, List.replicate_succ', List.map_append]
            rfl
        · rintro H3 ⟨s3, e3⟩
          exact fin D H3 _ s3 e3

      · refine .inr ⟨⟨_, hl1⟩, fun D hD => ?_⟩
        refine lc_tup (xs := zs.map V.str) (fun i H3 => Same H1 H3 ∧ H3 D = some (.lst ((List.replicate i true).map V.bl))) ?_ ?_ ?_ ?_
        · exact ⟨Same.new hD, upd_same⟩
        · exact fun _ _ _ z => sqT_keep z.1 hl1
        · rintro i x H3 hx ⟨s3, e3⟩
          rw [List.getElem?_map] at hx
          obtain ⟨z, hz, rfl⟩ := Option.map_eq_some_iff.mp hx
          have hi : i < zs.length := (List.getElem?_eq_some_iff.mp hz).1
          have few := ok.few
          refine ⟨rfl, ?_⟩
          unfold tYes
          dsimp only
          rw [if_pos rfl]
          refine ⟨_, rfl, z, rfl, ok.nm z (List.mem_of_getElem? hz), fun H4 s4 => ⟨_, s4 _ _ e3, ?_, fun c o e => (upd_ne (ne_of_none e hD)).trans (s4 _ _ (s3 _ _ e)), ?_⟩⟩
          · rw [List.length_map, List.length_replicate]
            exact small1000 (by omega)
          · rw [upd_same, List.replicate_succ', List.map_append]
            rfl
        · rintro H3 ⟨s3, e3⟩
          exact fin D H3 _ s3 e3

    · intro D H3 n s3 e3
      refine ⟨D, _, rfl, .of e3, ?_⟩
      rw [all1]
      refine ⟨_, rfl, iteF ?_⟩
      have few := ok.few
      have hl3 := hl1.keep s3
      have lk : (txK zs).length = zs.length := List.length_map ..
      refine ⟨_, rfl, l, txK zs, rfl, by rw [txK_V]; exact hl3, txK_nd ok.nd, by omega, fun p hp => ?_⟩
      have s4 := Same.new (o := SetK P w p (GS.inK (txK zs)) (txK zs).length) hp
      refine ⟨p, _, _, rfl, upd_same, by omega, _, rfl, l, _, rfl, hl3.keep s4, rfl, _, rfl, ne_ifL (by rw [List.length_map, lk]) ?_⟩
      exact ⟨_, rfl, _, _, _, _, _, rfl, .ty _, .base (.dK (s4 _ _ (s3 _ _ (s1 _ _ hd)))), kit_ty (a := "dict") (b := "dict") (r := true) (by decide +kernel), _, rfl, iteF (q _ (s1.trans (s3.trans s4)))⟩
end
end G
set_option Elab.async false
set_option linter.all false
set_option maxRecDepth 100000
set_option maxHeartbeats 2000000
/-! DV: dicts whose keys are tuples: setdefault, list of the values. -/
namespace DvT
open PySem PySem.Spec PyProof.Rows L2
section
variable {prog : Program} {w : World} {A : Around} {E : Value → Shared → Prop} {s : Shared} {d : Addr} {es : Array DictEntry} {ep : Nat}
theorem vals_meet (hd : (d == sysModules) = false) :
    MeetsIn prog w (Builtin.«dict.values» ⟨[.ref d], []⟩) (fun _ R s => DT.Raw s.heap d es ep ∧ R (.ok (.ret (.ref s.heap.objs.size))) { s with heap := s.heap.push { cls := .type "dict_values", data := .fields #[.ref d] } }) :=
  .of_wp fun A R s ⟨z, q⟩ => by
    refine wpAny_bind ?_
    unfold Builtin.Dict.noArgs
    refine wpAny_bind (wpAny_notOrdered_dict z.typeIs ?_)
    show wpAny _ _ (pure d) _ _ s
    refine wpAny_pure (show wpAny _ _ (Builtin.Dict.showsAll d >>= _) _ _ s from ?_)
    unfold Builtin.Dict.showsAll
    rw [if_neg (by rw [hd]; exact Bool.false_ne_true)]
    exact wpAny_bind (wpAny_pure (wpAny_bind (wpAny_newObj_type (wpAny_pure ⟨_, rfl, q⟩))))
theorem vals_iter {v : Addr} {Q : Value → Shared → Prop} (hv : s.heap.IsValuesView v d) (z : DT.Raw s.heap d es ep)
    (q : Q (.ref s.heap.objs.size) { s with heap := s.heap.push { cls := .type "dict_valueiterator", data := .fields #[.ref d, .int 0 0, .int es.size 0, .int ep 0] } }) : wpAny (model prog w) A (pyIter (.ref v)) Q E s := by
  obtain ⟨ov, o1, o2, o3⟩ := id hv
  obtain ⟨od, z1, z2, z3⟩ := id z
  refine wpAny_pyIter_slot hv.typeIs PySem.F.slot_dict_values_iter (wpAny_call_entry PySem.F.slot_dict_values_iter hv.typeIs PySem.F.entry_dict_values_iter ?_ (PySem.F.args_dict_values_iter_1 _))
  unfold Builtin.«dict_values.__iter__»
  refine wpAny_bind (wpAny_pure (wpAny_bind ?_))
  unfold Builtin.Dict_items.dictOf
  refine wpAny_bind (wpAny_field o1 o3 (x := .ref d) rfl (wpAny_pure (wpAny_bind ?_)))
  unfold Builtin.Dict_items.newIterator
  refine wpAny_bind (wpAny_dictEntries z1 z3 (wpAny_bind (wpAny_dictEpoch z1 z3 ?_)))
  have own : Builtin.Dict_items.ownsTuple "dict_valueiterator" = false := by decide
  simp only [own, Bool.false_eq_true, if_false]
  refine wpAny_newObj_type (wpAny_pure ⟨_, rfl, "dict_valueiterator", _, ⟨_, Heap.get?_push_size _ rfl, rfl⟩, PySem.F.slot_dict_valueiterator_next.lookup, ?_⟩)
  simpa [rawInt] using q
theorem vals_next {it : Addr} {i : Nat} {en : DictEntry} {Q : Option Value → Shared → Prop} (hit : s.heap.IsValIter it d i es.size ep) (z : DT.Raw s.heap d es ep) (hx : es[i]? = some en)
    (q : ∀ h', h'.IsValIter it d (i + 1) es.size ep → Heap.SameBut it s.heap h' → Q (some en.val) { s with heap := h' }) : wpAny (model prog w) A (pyNext (.ref it)) Q E s := by
  obtain ⟨oi, i1, i2, i3⟩ := id hit
  obtain ⟨od, z1, z2, z3⟩ := id z
  unfold pyNext
  refine wpAny_bind (wpAny_attempt (wpAny_callSpecial?_slot (name := Str.ofString "__next__") hit.typeIs PySem.F.slot_dict_valueiterator_next (wpAny_call_entry PySem.F.slot_dict_valueiterator_next hit.typeIs PySem.F.entry_dict_valueiterator_next ?_ (PySem.F.args_dict_valueiterator_next_1 _))))
  refine wpAny_bind (wpAny_pure (wpAny_bind (wpAny_bind ?_)))
  first | refine wpAny_bind (wpAny_typeNameOfWhole_valiter hit.typeIs (wpAny_pure (wpAny_bind (wpAny_fieldsOf i1 i3 ?_)))) | refine wpAny_bind (wpAny_typeNameOf_valiter hit.typeIs (wpAny_pure (wpAny_bind (wpAny_fieldsOf i1 i3 ?_))))
  have own : Builtin.Dict_items.ownsTuple "dict_valueiterator" = false := by decide
  simp only [own, Bool.false_eq_true, if_false]
  show wpAny _ _ (if (Value.ref d == Value.none) = true then _ else _) _ _ s
  rw [if_neg (show ¬ ((Value.ref d == Value.none) = true) from Bool.false_ne_true)]
  refine wpAny_bind (wpAny_pure (wpAny_bind (wpAny_dictEntries z1 z3 ?_)))
  rw [if_neg (by simp)]
  refine wpAny_bind (wpAny_pure (wpAny_bind (wpAny_dictEpoch z1 z3 ?_)))
  rw [if_neg (by simp)]
  obtain ⟨lt, een⟩ := Array.getElem?_eq_some_iff.mp hx
  refine wpAny_pure ?_
  simp only [show ¬ ((i : Int) < 0) from by omega, if_false, Int.toNat_natCast, Array.getElem?_eq_getElem lt]
  refine wpAny_bind ?_
  first | refine wpAny_bind (wpAny_typeNameOfWhole_valiter hit.typeIs (wpAny_pure (wpAny_bind (wpAny_isOneOf_valiter hit.typeIs ?_)))) | refine wpAny_bind (wpAny_typeNameOf_valiter hit.typeIs (wpAny_pure (wpAny_bind (wpAny_isOneOf_valiter hit.typeIs ?_))))
  show wpAny _ _ (setField (.ref it) 1 (rawInt ((i : Int) + 1)) >>= _) _ _ s
  refine wpAny_bind (wpAny_setField i1 i3 (by simp) ?_)
  have hit' : (s.heap.update it (Obj.mapFields (·.setIfInBounds 1 (rawInt ((i : Int) + 1))))).IsValIter it d (i + 1) es.size ep :=
    ⟨_, Heap.get?_update_self _ i1 (Obj.isFreed_of_fields (Obj.data_mapFields i3 _)), (Obj.cls_mapFields ..).trans i2, by rw [Obj.data_mapFields i3]; simp [rawInt]⟩
  refine wpAny_bind (wpAny_holding (wpAny_bind (wpAny_isOneOf_valiter (s := { s with heap := s.heap.update it (Obj.mapFields (·.setIfInBounds 1 (rawInt ((i : Int) + 1)))) }) hit'.typeIs ?_)))
  refine wpAny_bind (wpAny_isOneOf_valiter (s := { s with heap := s.heap.update it (Obj.mapFields (·.setIfInBounds 1 (rawInt ((i : Int) + 1)))) }) hit'.typeIs ?_)
  show wpAny _ _ (pure es[i].val) _ _ _
  exact wpAny_pure (wpAny_pure ⟨_, rfl, wpAny_pure (by rw [een]; exact q _ hit' (Heap.SameBut.update ..))⟩)
theorem vals_end {it : Addr} {i : Nat} {Q : Option Value → Shared → Prop} (hh : A.handled = none) (hit : s.heap.IsValIter it d i es.size ep) (z : DT.Raw s.heap d es ep) (hx : es.size ≤ i)
    (q : ∀ h', Heap.ExtBut it s.heap h' → Q none { s with heap := h' }) : wpAny (model prog w) A (pyNext (.ref it)) Q E s := by
  obtain ⟨oi, i1, i2, i3⟩ := id hit
  obtain ⟨od, z1, z2, z3⟩ := id z
  unfold pyNext
  refine wpAny_bind (wpAny_attempt (wpAny_callSpecial?_slot (name := Str.ofString "__next__") hit.typeIs PySem.F.slot_dict_valueiterator_next (wpAny_call_entry PySem.F.slot_dict_valueiterator_next hit.typeIs PySem.F.entry_dict_valueiterator_next ?_ (PySem.F.args_dict_valueiterator_next_1 _))))
  refine wpAny_bind (wpAny_pure (wpAny_bind (wpAny_bind ?_)))
  first | refine wpAny_bind (wpAny_typeNameOfWhole_valiter hit.typeIs (wpAny_pure (wpAny_bind (wpAny_fieldsOf i1 i3 ?_)))) | refine wpAny_bind (wpAny_typeNameOf_valiter hit.typeIs (wpAny_pure (wpAny_bind (wpAny_fieldsOf i1 i3 ?_))))
  have own : Builtin.Dict_items.ownsTuple "dict_valueiterator" = false := by decide
  simp only [own, Bool.false_eq_true, if_false]
  show wpAny _ _ (if (Value.ref d == Value.none) = true then _ else _) _ _ s
  rw [if_neg (show ¬ ((Value.ref d == Value.none) = true) from Bool.false_ne_true)]
  refine wpAny_bind (wpAny_pure (wpAny_bind (wpAny_dictEntries z1 z3 ?_)))
  rw [if_neg (by simp)]
  refine wpAny_bind (wpAny_pure (wpAny_bind (wpAny_dictEpoch z1 z3 ?_)))
  rw [if_neg (by simp)]
  refine wpAny_pure ?_
  simp only [show ¬ ((i : Int) < 0) from by omega, if_false, Int.toNat_natCast, Array.getElem?_eq_none hx]
  refine wpAny_bind ?_
  first | refine wpAny_bind (wpAny_typeNameOfWhole_valiter hit.typeIs (wpAny_pure ?_)) | refine wpAny_bind (wpAny_typeNameOf_valiter hit.typeIs (wpAny_pure ?_))
  show wpAny _ _ (setField (.ref it) 0 .none >>= _) _ _ s
  refine wpAny_bind (wpAny_setField i1 i3 (by simp) ?_)
  show wpAny _ _ (newExc (.type "StopIteration") [] >>= _) _ _ _
  refine wpAny_bind ?_
  simp only [newExc, newTuple]
  refine wpAny_bind (wpAny_newObj_type ?_ (by size_fits))
  refine wpAny_bind (m := firstArgMember _ _) (wpAny_of_eq (a := Value.none) (by first | rfl | (simp only [firstArgMember]; rfl)) (wpAny_newObj_type ?_ (by size_fits)))
  simp only [raiseNew]
  refine wpAny_bind (wpAny_handled ?_)
  rw [show A.in1.handled = none from hh]
  refine wpAny_bind (wpAny_pure (wpAny_throw ?_))
  refine wpAny_bind (wpAny_isInstance (T := "StopIteration") (b := true) ⟨_, Heap.get?_push_size _ rfl, rfl⟩ isSubtype_stop ?_)
  exact wpAny_pure (q _ (((Heap.SameBut.update ..).extBut.push _).push _))
theorem vals_walk (hh : A.handled = none) (I : Addr) (hne : d ≠ I) : Walks prog w A I [I, d] [I] es.size (fun i v => ∃ en : DictEntry, es[i]? = some en ∧ v = en.val) (fun i h => h.IsValIter I d i es.size ep ∧ DT.Raw h d es ep) where
  sub := fun b hb => by simp at hb; simp [hb]
  frame := fun _ _ _ st hk => ⟨st.1.at fun o e => hk I (by simp) o e, st.2.at' fun o e => hk d (by simp) o e⟩
  item := fun i s Q E hi st hQ => by
    have hx : es[i]? = some es[i] := Array.getElem?_eq_getElem hi
    refine vals_next st.1 st.2 hx fun h' hit' sb => ?_
    exact hQ _ h' s.toks ⟨_, hx, rfl⟩ ⟨hit', st.2.at' fun o e => (sb.2 d hne).trans e⟩ fun b ob hb e => (sb.2 b (fun z => hb (by simp [z]))).trans e
  done := fun s Q E st hQ => vals_end hh st.1 st.2 (Nat.le_refl _) fun h' he' => hQ h' s.toks fun b ob hb e => he' b ob (fun z => hb (by simp [z])) e
  self := fun _ _ _ _ st hQ => wpAny_pyIter_valiter st.1 hQ
theorem vals_src {r : Addr} : PySem.W.KdlSrc prog w "dict_values" r d es.size (fun i v => ∃ en : DictEntry, es[i]? = some en ∧ v = en.val) (fun h => h.IsValuesView r d ∧ DT.Raw h d es ep) where
  type := fun _ hm => hm.1.typeIs
  there := fun _ hm => ⟨let ⟨_, ho, _⟩ := hm.1; Heap.lt_size ho, hm.2.lt⟩
  keep := fun _ _ hm hk => ⟨let ⟨o, ho, x⟩ := hm.1; ⟨o, hk r (.inl rfl) o ho, x⟩, hm.2.at' fun o e => hk d (.inr rfl) o e⟩
  notList := by decide
  notTuple := by decide
  hint := fun _ _ _ _ hm hq => PySem.W.kdl_hint_values hm.1.typeIs hq
  iter := fun _ _ hh hm => ⟨_, _, (fun _ _ hq => vals_iter hm.1 hm.2 hq), vals_walk hh _ (Nat.ne_of_lt hm.2.lt), ⟨⟨_, Heap.get?_push_size _ rfl, rfl, rfl⟩, hm.2.push _⟩⟩
end
/-- list(e.values()), the keys tuples -/
def rValsT : V → Hp → VK → Prop := fun x H Q => ∃ (d : Addr) (kvs : List (List Key × V)), x = .ref d ∧ H d = some (.dT kvs) ∧ ∀ p, H p = none → Q (.ref p) (upd H p (.lst (kvs.map (·.2))))
def tValsT (te : TE) : TE := fun σ H Q => te σ H fun x H1 => rValsT x H1 Q
section
variable {X : Cx} {e : Expr} {te : TE} {p apos cpos pos : Pos}
theorem kt_vals {H : Hp} {kvs : List (List Key × V)} {xs : List (List Key × Addr × Value)} (r : KT H kvs xs) : Vals (kvs.map (·.2)) (xs.map fun x => x.2.2) := by
  unfold KT at r
  induction r with
  | nil => exact .nil
  | cons h t ih => exact .cons h.2.2 ih
theorem pe_valsT (hc : X.calm = true) (he : PE X e te) (hg : Gl X "list") (hm : X.mg "list" = none) (hv : bootBuiltins "list" = some (.type "list")) (hbase : attributeBase e "values" X.env (eval e X.env) = eval e X.env := by rfl) (hline : (apos.endLine == cpos.line) = true := by rfl)
    (hs : starEach [.Call (.Attribute e "values" apos) [] [] cpos] X.env = (false, eval (.Call (.Attribute e "values" apos) [] [] cpos) X.env) :: starEach [] X.env := by rfl) :
    PE X (.Call (.Name "list" p) [.Call (.Attribute e "values" apos) [] [] cpos] [] pos) (tValsT te) := by
  refine ⟨fun pins s σ H Q I hq => ?_⟩
  refine wpAny_Call_Name_kw (ld_blt I hg hm hv (PyProof.Rows.callWith_type1 ?_ hs rfl))
  rw [hs]
  show wpAny _ _ (spliced ((false, eval (.Call (.Attribute e "values" apos) [] [] cpos) X.env) :: backTo pos (starEach [] X.env))) _ _ s
  refine Calls.spliced_cons (wpAny_Call_method (T := "dict") (id := "dict.values") hbase rfl hline PySem.F.plainAttrs_dict PySem.F.slot_dict_values PySem.F.type_dict_values (thn (he.run pins s σ H _ I hq) fun u s1 ⟨x, H1, I1, rx, d, kvs, ex, hd, q⟩ => ?_))
  subst ex
  obtain rfl : u = Value.ref d := rx
  obtain ⟨z, hs0, ks, pr, o, es, ep, ho, hx, hdt, hent, hnd⟩ := (show ObjOk X.prog X.w H1 s1.heap d (.dT kvs) from I1.hok d _ hd)
  have hraw : DT.Raw s1.heap d es ep := ⟨o, ho, hx, hdt⟩
  have l1 : es.size = ks.length := size_of_entries hent
  have l2 : kvs.length = ks.length := Paired.length pr
  refine ⟨hraw.typeIs, fun b e => ?_, ?_⟩
  · cases e
    exact ⟨o, ho, hx.2.1⟩
  show wpAny _ _ (callWith cpos (.builtin "dict.values") [.ref d] [] []) _ X.xe s1
  refine method_meetsIn PySem.F.slot_dict_values PySem.F.entry_dict_values rfl (PySem.evalArgs_none ⟨rfl, hraw.typeIs, PySem.F.args_dict_values_1 _, _, vals_meet (es := es) (ep := ep) hs0, hraw, ?_⟩)
  refine Calls.spliced_nil ?_
  have I2 : Inv X pins σ H1 { s1 with heap := s1.heap.push { cls := .type "dict_values", data := .fields #[.ref d] } } := I1.kept (t' := s1.toks) fun b ob q => Heap.get?_push_of_some _ q
  refine PySem.W.kdl_call (vals_src (d := d) (es := es) (ep := ep)) (I1.ok.hd hc) ⟨⟨_, Heap.get?_push_size _ rfl, rfl, rfl⟩, hraw.push _⟩ (by omega) fun h' tk acc c' kp ge ia => ?_
  have ea : acc.toList = ks.map fun x => x.2.2 := by
    have hl : acc.toList.length = ks.length := by rw [Array.length_toList, ia.1]; exact l1
    apply List.ext_getElem?
    intro j
    rw [List.getElem?_map]
    cases hj : acc.toList[j]? with
    | none =>
      rw [List.getElem?_eq_none (by have := List.getElem?_eq_none_iff.mp hj; omega)]
      all_goals rfl
    | some v =>
      obtain ⟨en, hen, hv⟩ := ia.2 j v (by rw [← Array.getElem?_toList]; exact hj)
      have qe := entry_at hent j
      rw [hen] at qe
      cases hb : ks[j]? with
      | none =>
        rw [hb] at qe
        exact nomatch (show some en = none from qe)
      | some b =>
        rw [hb] at qe
        have e2 : en = entryOfKey (tupleKind (mixKind X.prog X.w)) b := Option.some.inj qe
        rw [hv, e2]
        all_goals rfl
  have rv : Vals (kvs.map (·.2)) acc.toList := by
    rw [ea]
    exact kt_vals pr
  refine ⟨.ref _, _, I2.laid (t' := tk) (o := .lst (kvs.map (·.2))) kp (Nat.le_refl _) ?_, rfl, q _ (I2.hok.fresh (Nat.le_refl _))⟩
  exact ⟨by rw [List.length_map]; omega, acc.toList, c', rv, by rw [Array.toArray_toList]; exact ge⟩
end
/-- d.setdefault(y, z), y a tuple -/
def tSetdT (td ty tx : TE) : TE := fun σ H Q => td σ H fun x H1 => ∃ a, x = .ref a ∧ IsD H1 a ∧ ty σ H1 fun y H2 => tx σ H2 fun z H3 => ∃ (kvs : List (List Key × V)) (k : List Key) (b : Addr), H3 a = some (.dT kvs) ∧ y = .ref b ∧ H3 b = some (.tup (k.map kV)) ∧ kvs.length < sizeLine ∧
  (∀ v, valV kvs k = some v → Q v H3) ∧ (valV kvs k = none → Q z (upd H3 a (.dT (putK kvs k z))))
section
variable {X : Cx} {pins : List (Addr × Obj)} {σ : L2.St} {H : Hp} {s : Shared} {a b : Addr} {u r : Value} {d : V} {k : List Key} {A : Around} {E : Value → Shared → Prop}
theorem setd_t {kvs : List (List Key × V)} {Q : Value → Shared → Prop} (hu : A.units + 1 < cLine) (I : Inv X pins σ H s) (e : H a = some (.dT kvs)) (eb : H b = some (.tup (k.map kV))) (rd : RelV d r) (hl : kvs.length < sizeLine)
    (h1 : ∀ v, valV kvs k = some v → ∀ (w' : Value) (s' : Shared), Inv X pins σ H s' → RelV v w' → Q w' s') (h2 : valV kvs k = none → ∀ (w' : Value) (s' : Shared), Inv X pins σ (upd H a (.dT (putK kvs k d))) s' → RelV d w' → Q w' s') :
    wpAny (model X.prog X.w) A (call (.builtin "dict.setdefault") [.ref a, .ref b, r]) Q E s := by
  obtain ⟨z, hd, xs, rel, dd⟩ := dt_of I.hok e
  have hz : xs.length ≤ sizeLine := by rw [← Paired.length rel]; exact z
  refine call_setdefault_heap (hsz := hz) (tupleKind_room_in1 hu) (key_of I.hok eb) hd dd (fun p hp => ?_) fun hn h' dd' hs => ?_
  · have rr := rel.val k
    rw [hp] at rr
    cases ev : valV kvs k with
    | none =>
      rw [ev] at rr
      exact (show False from rr).elim
    | some v0 =>
      rw [ev] at rr
      exact h1 v0 ev _ _ (I.tok _) rr
  · have rr := rel.val k
    rw [hn] at rr
    cases ev : valV kvs k with
    | some v0 =>
      rw [ev] at rr
      exact (show False from rr).elim
    | none =>
      have hl2 : (putK kvs k d).length ≤ sizeLine := by
        have := length_putK kvs k d
        omega
      obtain ⟨q, es, ep, hq, g2, g3, g4, _, g5⟩ := dd'
      refine h2 ev _ _ (d_write (t' := s.toks + (tupleKind (mixKind X.prog X.w)).draws k) I (by rw [e]; exact True.intro) hs ⟨q, hq⟩ ⟨hl2, hd, _, (rel.put k eb rd).keeps fun c ys ec => ?_, q, es, ep, hq, g2, g3, g4, g5⟩) rd
      rw [upd_ne (ne_of ec e (fun y => nomatch y))]
      exact ec
end
section
variable {X : Cx} {o e f : Expr} {td ty tx : TE} {apos cpos : Pos}
theorem pe_setdT (hu : X.A.units + 2 < cLine) (ho : PE X o td) (he : PE X e ty) (hf : PE X f tx) (m : M2 X o "setdefault" apos e f cpos) : PE X (.Call (.Attribute o "setdefault" apos) [e, f] [] cpos) (tSetdT td ty tx) := by
  refine ⟨fun pins s σ H Q I h => ?_⟩
  refine wpAny_Call_method m.base m.few m.line PySem.F.plainAttrs_dict PySem.F.slot_dict_setdefault PySem.F.type_dict_setdefault (thn (ho.run pins s σ H _ I h) fun u s1 ⟨x, H1, I1, rx, a, ex, d, q1⟩ => ?_)
  subst ex
  obtain rfl : u = Value.ref a := rx
  obtain ⟨t1, t2, _⟩ := isD_at I1 d
  refine ⟨t1, t2, ?_⟩
  rw [m.trees]
  refine Calls.callWith_builtin rfl (Calls.evalArgs_plain (Calls.spliced_cons (thn (he.run pins s1 σ H1 _ I1 q1) fun iv s2 ⟨y, H2, I2, ry, q2⟩ =>
    Calls.spliced_cons (thn (hf.run pins s2 σ H2 _ I2 q2) fun fv s3 ⟨z, H3, I3, rz, kvs, k, b, ea, ey, eb, hl, q3, q4⟩ => Calls.spliced_nil ?_))))
  subst ey
  obtain rfl : iv = Value.ref b := ry
  exact setd_t (by exact Nat.lt_of_succ_lt hu) I3 ea eb rz hl (fun v hv w' s4 I4 rw' => ⟨v, _, I4, rw', q3 v hv⟩) fun hn w' s4 I4 rw' => ⟨z, _, I4, rw', q4 hn⟩
end
end DvT
set_option Elab.async false
set_option linter.all false
set_option maxRecDepth 100000
set_option maxHeartbeats 4000000
/-! SH2: answers made whole, first_ones. -/
namespace G
open PySem PySem.Spec PyProof.Rows L2 NdefX DvT
abbrev sAnsOf : Stmt := topS 19
abbrev sFullA : Stmt := topS 20
abbrev sItemA : Stmt := topS 21
abbrev sFirst : Stmt := topS 31
abbrev sAnsFor : Stmt := topS 39
abbrev sFullAs : Stmt := topS 40
theorem scAnsOf : FnScope ["value"] ["value"] (defScope sAnsOf) := ⟨rfl, rfl, rfl, by decide +kernel, rfl, by decide +kernel, by decide +kernel⟩
theorem scFullA : FnScope ["value", "item"] ["value"] (defScope sFullA) := ⟨rfl, rfl, rfl, by decide +kernel, rfl, by decide +kernel, by decide +kernel⟩
theorem scItemA : FnScope ["value"] ["value"] (defScope sItemA) := ⟨rfl, rfl, rfl, by decide +kernel, rfl, by decide +kernel, by decide +kernel⟩
theorem scFirst : FnScope ["rows", "answers", "found", "firsts", "row"] ["rows", "answers"] (defScope sFirst) := ⟨rfl, rfl, rfl, by decide +kernel, rfl, by decide +kernel, by decide +kernel⟩
theorem scAnsFor : FnScope ["row", "answers"] ["row", "answers"] (defScope sAnsFor) := ⟨rfl, rfl, rfl, by decide +kernel, rfl, by decide +kernel, by decide +kernel⟩
theorem scFullAs : FnScope ["rows", "answers", "row"] ["rows", "answers"] (defScope sFullAs) := ⟨rfl, rfl, rfl, by decide +kernel, rfl, by decide +kernel, by decide +kernel⟩
/-! ### what is walked: a list or a tuple, one way -/
def iLW (K : PySem.W.Frag) (tl : TE) : TI := fun σ H R => tl σ H fun x H1 => ∃ a xs, x = .ref a ∧ SqLT K H1 a xs ∧ ∀ (J : It) (G : Hp → Prop), Walk J xs.length G (YAt xs) → (∀ H2, (SqL K H1 a xs → SqL K H2 a xs) → (SqT K H1 a xs → SqT K H2 a xs) → G H2) → R J H1
theorem sqL_off {K : PySem.W.Frag} {H H' : Hp} {D l : Addr} {kvs : List (List Key × V)} {xs : List V} (hd : H D = some (.dT kvs)) (k : ∀ c o, c ≠ D → H c = some o → H' c = some o) : SqL K H l xs → SqL K H' l xs
  | .inl (.inl h) => .inl (.inl (k _ _ (ne_of h hd (fun z => nomatch z)) h))
  | .inl (.inr ⟨o, h⟩) => .inl (.inr ⟨o, k _ _ (ne_of h hd (fun z => nomatch z)) h⟩)
  | .inr h => .inr h
theorem sqT_off {K : PySem.W.Frag} {H H' : Hp} {D l : Addr} {kvs : List (List Key × V)} {xs : List V} (hd : H D = some (.dT kvs)) (k : ∀ c o, c ≠ D → H c = some o → H' c = some o) : SqT K H l xs → SqT K H' l xs
  | .inl (.inl h) => .inl (.inl (k _ _ (ne_of h hd (fun z => nomatch z)) h))
  | .inl (.inr ⟨o, h⟩) => .inl (.inr ⟨o, k _ _ (ne_of h hd (fun z => nomatch z)) h⟩)
  | .inr h => .inr h
theorem pi_lw {X : Cx} {tg l : Expr} {tl : TE} (hl : PE X l tl) : PI X tg l (iLW X.K tl) := by
  refine ⟨fun pins s σ H R I h => ?_⟩
  refine thn (hl.run pins s σ H _ I h) fun v s1 ⟨x, H1, I1, r1, a, xs, e, k, q⟩ => ?_
  subst e
  obtain rfl : v = Value.ref a := r1
  have fp : ∀ b ∈ [s1.heap.objs.size], _ := fun b hb => by
    obtain rfl : b = s1.heap.objs.size := by simpa using hb
    exact I1.fpOk (Nat.le_refl _) (I1.hok.fresh (Nat.le_refl _))
  rcases k with hq | hq
  · obtain ⟨its, rv, pl, _⟩ := I1.list hq
    refine wpAny_pyIter_list pl.isList ⟨s1.heap.objs.size, [s1.heap.objs.size], _, _, H1, rfl, ?_, turn_list a _, ?_, fp, q _ _ walk_list fun H2 s2 _ => s2 hq⟩
    · exact I1.kept (t' := s1.toks) fun b o e => Heap.get?_push_of_some _ e
    · exact ⟨_, Heap.get?_push_size _ rfl, rfl, rfl⟩
  · obtain ⟨its, rv, pl, _⟩ := I1.tuple hq
    refine wpAny_pyIter_tuple (show s1.heap.IsTuple a its.toArray from pl) ⟨s1.heap.objs.size, [s1.heap.objs.size], _, _, H1, rfl, ?_, turn_tuple a _, ?_, fp, q _ _ walk_tup fun H2 _ s2 => s2 hq⟩
    · exact I1.kept (t' := s1.toks) fun b o e => Heap.get?_push_of_some _ e
    · exact ⟨_, Heap.get?_push_size _ rfl, rfl, rfl⟩
theorem dc_it {J : It} {n : Nat} {G : Hp → Prop} {Y : Nat → Hp → V → Hp → Prop} (w : Walk J n G Y) {g : TG} {tt : TT} {tk tv : TE} {vs : List Nat} {σ : L2.St} {H1 : Hp} {D : Addr} {Qd : Hp → Prop} (Pv : Nat → Hp → Prop) (h0 : Pv 0 (upd H1 D (.dK []))) (hG : ∀ i H, i ≤ n → Pv i H → G H)
    (hs : ∀ i x H H', i < n → Pv i H → Y i H x H' → g x (wipe σ vs) H' fun σ2 H2 => wipe σ2 vs = wipe σ vs ∧ tt σ2 H2 fun b H3 =>
      if b = true then tk σ2 H3 fun y H4 => tv σ2 H4 fun z H5 => ∃ kvs k, y = kV k ∧ H5 D = some (.dK kvs) ∧ kvs.length < sizeLine ∧ Pv (i + 1) (upd H5 D (.dK (putK kvs k z))) else Pv (i + 1) H3) (hd : ∀ H, Pv n H → Qd H) :
    ∃ W : Nat → Nat → Hp → Prop, (∃ m, W 0 m (upd H1 D (.dK []))) ∧ ∀ i m H, W i m H →
      (J.stop i H ∧ Qd H) ∨ (J.go i H ∧ ∃ Nx : Hp → Prop, (∀ H', Nx H' → ∃ m', m' < m ∧ W (i + 1) m' H') ∧ ∀ x H', J.yld i H x H' → g x (wipe σ vs) H' fun σ2 H2 => wipe σ2 vs = wipe σ vs ∧ tt σ2 H2 fun b H3 =>
        if b = true then tk σ2 H3 fun y H4 => tv σ2 H4 fun z H5 => ∃ kvs k, y = kV k ∧ H5 D = some (.dK kvs) ∧ kvs.length < sizeLine ∧ Nx (upd H5 D (.dK (putK kvs k z))) else Nx H3) := by
  refine ⟨fun i m H => m = n - i ∧ i ≤ n ∧ Pv i H, ⟨n, by simp, Nat.zero_le _, h0⟩, ?_⟩
  rintro i m H ⟨rfl, hi, p⟩
  have q := hG i H hi p
  by_cases hlt : i < n
  · exact .inr ⟨w.goes i H hlt q, Pv (i + 1), fun H' p' => ⟨n - (i + 1), by omega, rfl, hlt, p'⟩, fun x H' y => hs i x H H' hlt p (w.yields i H x H' hlt q y)⟩
  · have e : i = n := by omega
    subst e
    exact .inl ⟨w.stops H q, hd H p⟩
/-! ### answers -/
def OkI (n : Int) : Prop := -9999 ≤ n ∧ n ≤ 9999
/-- v is an answer, ns what it stands for -/
def AnsAt (H : Hp) (v : V) (ns : List Int) : Prop := ((∃ i, v = .int i ∧ ns = [i]) ∨ ∃ a, v = .ref a ∧ H a = some (.tup (ns.map V.int)) ∧ 1 ≤ ns.length ∧ ns.length ≤ 3) ∧ ∀ n ∈ ns, OkI n
theorem AnsAt.at {H H' : Hp} {v : V} {ns : List Int} (h : AnsAt H v ns) (k : ∀ a xs, H a = some (.tup xs) → H' a = some (.tup xs)) : AnsAt H' v ns := by
  obtain ⟨h1 | ⟨a, e, ha, l⟩, h2⟩ := h
  · exact ⟨.inl h1, h2⟩
  · exact ⟨.inr ⟨a, e, k _ _ ha, l⟩, h2⟩
theorem AnsAt.same {H H' : Hp} {v : V} {ns : List Int} (h : AnsAt H v ns) (s : Same H H') : AnsAt H' v ns := h.at fun a _ e => s a _ e
/-- an answer of each row -/
structure AnsOf (H : Hp) (d : Addr) (kvs : List (Key × V)) (zs : List Str) (an : Str → List Int) : Prop where
  d : H d = some (.dK kvs)
  is : ∀ z ∈ zs, ∃ v, valV kvs (Sum.inr z) = some v ∧ AnsAt H v (an z)
theorem AnsOf.same {H H' : Hp} {d : Addr} {kvs : List (Key × V)} {zs : List Str} {an : Str → List Int} (h : AnsOf H d kvs zs an) (s : Same H H') : AnsOf H' d kvs zs an :=
  ⟨s _ _ h.d, fun z hz => let ⟨v, e, a⟩ := h.is z hz; ⟨v, e, a.same s⟩⟩
/-- the whole answer of each row -/
structure WholeOf (H : Hp) (d : Addr) (kvs : List (Key × V)) (zs : List Str) (an : Str → List Int) : Prop where
  d : H d = some (.dK kvs)
  is : ∀ z ∈ zs, ∃ T, valV kvs (Sum.inr z) = some (.ref T) ∧ H T = some (.tup ((an z).map V.int))
theorem WholeOf.same {H H' : Hp} {d : Addr} {kvs : List (Key × V)} {zs : List Str} {an : Str → List Int} (h : WholeOf H d kvs zs an) (s : Same H H') : WholeOf H' d kvs zs an :=
  ⟨s _ _ h.d, fun z hz => let ⟨T, e, a⟩ := h.is z hz; ⟨T, e, s _ _ a⟩⟩
def spItemA : Sp := fun vs H Q _ => ∃ i : Int, vs = [.int i] ∧ OkI i ∧ Q (.bl true) H
def spFullA : Sp := fun vs H Q _ => (∃ i : Int, vs = [.int i] ∧ Q (.bl false) H) ∨ ∃ (a : Addr) (ns : List Int), vs = [.ref a] ∧ H a = some (.tup (ns.map V.int)) ∧ 1 ≤ ns.length ∧ ns.length ≤ 3 ∧ (∀ n ∈ ns, OkI n) ∧ ∀ H', Same H H' → Q (.bl true) H'
def spAnsOf : Sp := fun vs H Q _ => ∃ (v : V) (ns : List Int), vs = [v] ∧ AnsAt H v ns ∧ ∀ (T : Addr) (H' : Hp), Same H H' → H' T = some (.tup (ns.map V.int)) → Q (.ref T) H'
def spAnsFor : Sp := fun vs H Q _ => ∃ (z : Str) (d : Addr) (kvs : List (Key × V)) (v : V), vs = [.str z, .ref d] ∧ H d = some (.dK kvs) ∧ valV kvs (Sum.inr z) = some v ∧ Q v H
def spFullAs (K : PySem.W.Frag) : Sp := fun vs H Q _ => ∃ (l d : Addr) (zs : List Str) (kvs : List (Key × V)) (an : Str → List Int), vs = [.ref l, .ref d] ∧ SqLT K H l (zs.map V.str) ∧ RowsOk zs ∧ AnsOf H d kvs zs an ∧
  ∀ (p : Addr) (H' : Hp) (fk : List (Key × V)), Same H H' → H p = none → WholeOf H' p fk zs an → Q (.ref p) H'
/-! ### the first rows -/
def addF (an : Str → List Int) (acc : List (List Int × Str)) (z : Str) : List (List Int × Str) := if an z ∈ acc.map (·.1) then acc else acc ++ [(an z, z)]
def accF (an : Str → List Int) (zs : List Str) : List (List Int × Str) := zs.foldl (addF an) []
def firstsOf (an : Str → List Int) (zs : List Str) : List Str := (accF an zs).map (·.2)
theorem accF_snoc (an : Str → List Int) (zs : List Str) (z : Str) : accF an (zs ++ [z]) = addF an (accF an zs) z := by
  unfold accF
  rw [List.foldl_append]
  rfl
theorem take_snoc {zs : List Str} {i : Nat} {z : Str} (h : zs[i]? = some z) : zs.take (i + 1) = zs.take i ++ [z] := by
  rw [List.take_add_one, h]
  rfl
theorem accF_len (an : Str → List Int) : ∀ (zs : List Str) (acc : List (List Int × Str)), (zs.foldl (addF an) acc).length ≤ acc.length + zs.length
  | [], _ => Nat.le_refl _
  | z :: zs, acc => by
    have h := accF_len an zs (addF an acc z)
    have h2 : (addF an acc z).length ≤ acc.length + 1 := by
      unfold addF
      split
      · exact Nat.le_succ _
      · rw [List.length_append]
        exact Nat.le_refl _
    rw [List.foldl_cons, List.length_cons]
    omega
def kI (ns : List Int) : List Key := ns.map Sum.inl
theorem kI_V (ns : List Int) : (kI ns).map kV = ns.map V.int := by
  unfold kI
  rw [List.map_map]
  rfl
theorem kI_inj : ∀ {ns ms : List Int}, kI ns = kI ms → ns = ms
  | [], [], _ => rfl
  | [], _ :: _, h => by cases h
  | _ :: _, [], h => by cases h
  | n :: ns, m :: ms, h => by
    injection h with h1 h2
    injection h1 with h1
    rw [h1, kI_inj h2]
def accK (acc : List (List Int × Str)) : List (List Key × V) := acc.map fun p => (kI p.1, V.str p.2)
theorem accK_vals (acc : List (List Int × Str)) : (accK acc).map (·.2) = (acc.map (·.2)).map V.str := by
  unfold accK
  rw [List.map_map, List.map_map]
  rfl
theorem accK_in {ns : List Int} : ∀ {acc : List (List Int × Str)}, ns ∈ acc.map (·.1) → ∃ v, valV (accK acc) (kI ns) = some v
  | [], h => nomatch h
  | p :: acc, h => by
    by_cases e : kI p.1 = kI ns
    · exact ⟨_, valV_pos (p := (kI p.1, V.str p.2)) e⟩
    · have e2 : ns ≠ p.1 := fun z => e (by rw [z])
      rcases List.mem_cons.mp h with z | z
      · exact (e2 z).elim
      · obtain ⟨v, hv⟩ := accK_in (acc := acc) z
        exact ⟨v, (valV_neg (p := (kI p.1, V.str p.2)) e).trans hv⟩
theorem accK_out {ns : List Int} : ∀ {acc : List (List Int × Str)}, ns ∉ acc.map (·.1) → valV (accK acc) (kI ns) = none
  | [], _ => rfl
  | p :: acc, h => by
    have e : ¬ kI p.1 = kI ns := fun z => h (List.mem_cons.mpr (.inl (kI_inj z).symm))
    exact (valV_neg (p := (kI p.1, V.str p.2)) e).trans (accK_out fun z => h (List.mem_cons_of_mem _ z))
theorem same_off {H0 H H' : Hp} {D : Addr} (h0 : H0 D = none) (s : Same H0 H) (k : ∀ c, c ≠ D → H' c = H c) : Same H0 H' := fun c o e => by
  rw [k c (ne_of_none e h0)]
  exact s c o e
def spFirst (K : PySem.W.Frag) : Sp := fun vs H Q _ => ∃ (l d : Addr) (zs : List Str) (kvs : List (Key × V)) (an : Str → List Int), vs = [.ref l, .ref d] ∧ SqLT K H l (zs.map V.str) ∧ RowsOk zs ∧ AnsOf H d kvs zs an ∧
  ∀ (p : Addr) (H' : Hp), Same H H' → H p = none → H' p = some (.lst ((firstsOf an zs).map V.str)) → Q (.ref p) H'
theorem rpAll_ints {K : PySem.W.Frag} {H : Hp} : ∀ ns : List Int, RpAll K H (ns.map V.int) (ns.map PyData.int)
  | [] => .nil
  | n :: ns => .cons (.int n) (rpAll_ints ns)
section
variable {P : Program} {w : World} {K : PySem.W.Frag} {mg : Str → Option Value} {base : Heap}
theorem ok_itemA {f fI : Addr} {fd fdI : FuncData} {t : Tok} (F : Fun K "is_answer_item" "is_answer_item" sItemA f fd) (GI : FnOk P w K mg base CX0 1 fI fdI ["value", "low", "high"] spIsInt) (gI : mg "is_integer" = some (.ref fI)) (kI : PySem.W.keepIn K (.ref fI) = true) (bI : Binds K fdI ["value", "low", "high"] [])
    (gG : mg "GREATEST_IN_ANSWER" = some (.int 9999 t)) : FnOk P w K mg base CX0 2 f fd ["value"] spItemA := by
  refine F.ok scItemA (fun vs H Q E h => ?_) (fun cdv A outer s H vs Q E hr h => ?_)
  · obtain ⟨i, rfl, _⟩ := h
    rfl
  · obtain ⟨i, rfl, ⟨h1, h2⟩, q⟩ := h
    refine ⟨_, pss_one (ps_ret (pe_call GI hr rfl gI kI bI .nil pass0 (pa_cons (pv 0) (pa_cons (pe_un un_neg (pe_glob (v := .int 9999) rfl gG ⟨_, rfl⟩)) (pa_cons (pe_glob (v := .int 9999) rfl gG ⟨_, rfl⟩) pa_nil))))), ?_⟩
    refine ⟨_, rfl, _, rfl, i, -9999, 9999, rfl, ?_⟩
    rw [decide_eq_true h1, decide_eq_true h2]
    exact q
theorem ok_fullA {f fI : Addr} {fd fdI : FuncData} {t : Tok} (F : Fun K "is_full_answer" "is_full_answer" sFullA f fd) (GI : FnOk P w K mg base CX0 2 fI fdI ["value"] spItemA) (gI : mg "is_answer_item" = some (.ref fI)) (kI : PySem.W.keepIn K (.ref fI) = true) (bI : Binds K fdI ["value"] [])
    (gM : mg "MOST_IN_ANSWER" = some (.int 3 t)) (mi : mg "isinstance" = none) (mt : mg "tuple" = none) (ml : mg "len" = none) (ma : mg "all" = none) : FnOk P w K mg base CX0 3 f fd ["value"] spFullA := by
  refine F.ok scFullA (fun vs H Q E h => ?_) (fun cdv A outer s H vs Q E hr h => ?_)
  · rcases h with ⟨i, rfl, _⟩ | ⟨a, ns, rfl, _⟩ <;> rfl
  · refine ⟨_, pss_cons (ps_if (PW.pt (pw_or (pt_not (pt_val (pt_isi "tuple" (pv 0) (hm := mi) (mn := mt)))) (pw_or1 (pt_not (pt_chain op_le op_le pe_int (pe_callB call_len_seq (by rfl) ml PySem.boot_len (pa_cons (pv 0) pa_nil)) (pe_glob (v := .int 3) rfl gM ⟨_, rfl⟩))))))
        (pss_one (ps_ret pe_bl)) pss_nil)
      (pss_one (ps_ret (pe_callB (cr_all rfl) (by rfl) ma (by decide +kernel) (pa_cons (pe_lc (own := [("item", 1)]) (g := gName 1) (tt := tYes) (by rfl) scFullA.nd (pi_tup (pv 0))
        (blkOk_by (own := [("item", 1)]) (N := ["value", "item"]) (sc := defScope sFullA) (by decide +kernel)) (fun _ _ _ _ _ => pg_name (i := 1) scFullA.nd rfl (.inl rfl)) (fun _ _ _ _ _ => pts_nil)
        (fun _ _ _ _ _ => pe_call GI hr rfl gI kI bI .nil pass0 (pa_cons (pv 1) pa_nil))) pa_nil)))), ?_⟩
    rcases h with ⟨i, rfl, q⟩ | ⟨a, ns, rfl, ha, l1, l3, ok, q⟩
    · have hR : Rp K H (.int i) (.int i) := .int i
      exact ⟨_, rfl, _, _, _, _, _, rfl, .ty _, rp_ty hR, kit_t (.int i), _, rfl, iteT (iteT q)⟩
    · have hR : Rp K H (.ref a) (.tuple (ns.map PyData.int)) := .tup ha (rpAll_ints ns)
      have ll : (ns.map V.int).length = ns.length := List.length_map ..
      refine ⟨_, rfl, _, _, _, _, _, rfl, .ty _, rp_ty hR, kit_t (.tuple (ns.map PyData.int)), _, rfl, iteF ?_⟩
      refine ⟨_, rfl, a, _, rfl, .inr (.of ha), _, _, rfl, rfl, _, rfl, ?_⟩
      rw [decide_eq_true (show (1 : Int) ≤ ((ns.map V.int).length : Int) by omega)]
      refine iteT ⟨_, _, rfl, rfl, _, rfl, ?_⟩
      rw [decide_eq_true (show ((ns.map V.int).length : Int) ≤ 3 by omega)]
      refine iteF ?_
      refine ⟨_, rfl, a, rfl, ⟨_, .of ha⟩, fun D hD => ?_⟩
      refine lc_tup (a := a) (xs := ns.map V.int) (fun i H2 => Same H H2 ∧ H2 D = some (.lst ((List.replicate i true).map V.bl))) ?_ ?_ ?_ ?_
      · exact ⟨Same.new hD, upd_same⟩
      · exact fun i H2 _ h2 => .of (h2.1 _ _ ha)
      · rintro i x H2 hx ⟨s2, e2⟩
        rw [List.getElem?_map] at hx
        obtain ⟨n, hn, rfl⟩ := Option.map_eq_some_iff.mp hx
        have hi : i < ns.length := (List.getElem?_eq_some_iff.mp hn).1
        refine ⟨rfl, ?_⟩
        unfold tYes
        dsimp only
        rw [if_pos rfl]
        refine ⟨_, rfl, n, rfl, ok n (List.mem_of_getElem? hn), _, e2, ?_, fun c o e => (upd_ne (ne_of_none e hD)).trans (s2 _ _ e), ?_⟩
        · rw [List.length_map, List.length_replicate]
          exact small1000 (by omega)
        · rw [upd_same, List.replicate_succ', List.map_append]
          rfl
      · rintro H2 ⟨s2, e2⟩
        refine ⟨D, _, rfl, .of e2, ?_⟩
        rw [show (List.replicate (ns.map V.int).length true).all id = true from List.all_eq_true.mpr fun x hx => by
          rw [(List.mem_replicate.mp hx).2]
          rfl]
        exact q H2 s2
theorem ok_ansOf {f fF fI : Addr} {fd fdF fdI : FuncData} (F : Fun K "answer_of" "answer_of" sAnsOf f fd) (GF : FnOk P w K mg base CX0 3 fF fdF ["value"] spFullA) (gF : mg "is_full_answer" = some (.ref fF)) (kF : PySem.W.keepIn K (.ref fF) = true) (bF : Binds K fdF ["value"] [])
    (GI : FnOk P w K mg base CX0 2 fI fdI ["value"] spItemA) (gI : mg "is_answer_item" = some (.ref fI)) (kI : PySem.W.keepIn K (.ref fI) = true) (bI : Binds K fdI ["value"] []) : FnOk P w K mg base CX0 4 f fd ["value"] spAnsOf := by
  refine F.ok scAnsOf (fun vs H Q E h => ?_) (fun cdv A outer s H vs Q E hr h => ?_)
  · obtain ⟨v, ns, rfl, _⟩ := h
    rfl
  · obtain ⟨v, ns, rfl, ⟨k, ok⟩, q⟩ := h
    refine ⟨_, pss_cons (ps_if (pt_val (pe_call GF hr rfl gF kF bF .nil pass0 (pa_cons (pv 0) pa_nil))) (pss_one (ps_ret (pv 0))) pss_nil)
      (pss_cons (ps_if (pt_val (pe_call GI (hr.mono (by decide)) rfl gI kI bI .nil pass0 (pa_cons (pv 0) pa_nil))) (pss_one (ps_ret (pe_tup (pa_cons (pv 0) pa_nil)))) pss_nil)
      (pss_one ps_never)), ?_⟩
    rcases k with ⟨i, rfl, rfl⟩ | ⟨a, rfl, ha, l1, l3⟩
    · refine ⟨_, rfl, .inl ⟨i, rfl, _, rfl, iteF ?_⟩⟩
      refine ⟨_, rfl, i, rfl, ok i List.mem_cons_self, _, rfl, iteT ?_⟩
      exact ⟨_, rfl, (by show 1 ≤ sizeLine; decide), fun T hT => q T _ (Same.new hT) upd_same⟩
    · refine ⟨_, rfl, .inr ⟨a, ns, rfl, ha, l1, l3, ok, fun H1 s1 => ⟨_, rfl, iteT ?_⟩⟩⟩
      exact ⟨_, rfl, q a H1 s1 (s1 _ _ ha)⟩
theorem ok_ansFor {f : Addr} {fd : FuncData} (F : Fun K "answer_for" "answer_for" sAnsFor f fd) : FnOk P w K mg base CX0 1 f fd ["row", "answers"] spAnsFor := by
  refine F.ok scAnsFor (fun vs H Q E h => ?_) (fun cdv A outer s H vs Q E hr h => ?_)
  · obtain ⟨z, d, kvs, v, rfl, _⟩ := h
    rfl
  · obtain ⟨z, d, kvs, v, rfl, hd, hv, q⟩ := h
    refine ⟨_, pss_cons (ps_if (pt_cmp (pc_dnotin (hu_of hr) (pv 0) (pv 1)) rfl) (pss_one ps_never) pss_nil) (pss_one (ps_ret (pe_dget (hu_of hr) (pv 1) (pv 0) (fun _ _ => rfl)))), ?_⟩
    refine ⟨_, rfl, _, rfl, d, _, rfl, DGet.k (k := Sum.inr z) hd, _, rfl, ?_⟩
    rw [hv]
    refine iteF ?_
    refine ⟨_, rfl, _, rfl, d, v, rfl, ?_, q⟩
    have g := DGet.k (k := Sum.inr z) hd
    rw [hv] at g
    exact g
theorem ok_fullAs {f fN fA fF : Addr} {fd fdN fdA fdF : FuncData} (F : Fun K "full_answers" "full_answers" sFullAs f fd) (GN : FnOk P w K mg base CX0 2 fN fdN ["rows", "answers"] (spNeedRows K)) (gN : mg "need_rows_with_answers" = some (.ref fN)) (kN : PySem.W.keepIn K (.ref fN) = true) (bN : Binds K fdN ["rows", "answers"] [])
    (GA : FnOk P w K mg base CX0 4 fA fdA ["value"] spAnsOf) (gA : mg "answer_of" = some (.ref fA)) (kA : PySem.W.keepIn K (.ref fA) = true) (bA : Binds K fdA ["value"] [])
    (GF : FnOk P w K mg base CX0 1 fF fdF ["row", "answers"] spAnsFor) (gF : mg "answer_for" = some (.ref fF)) (kF : PySem.W.keepIn K (.ref fF) = true) (bF : Binds K fdF ["row", "answers"] []) : FnOk P w K mg base CX0 5 f fd ["rows", "answers"] (spFullAs K) := by
  refine F.ok scFullAs (fun vs H Q E h => ?_) (fun cdv A outer s H vs Q E hr h => ?_)
  · obtain ⟨l, d, zs, kvs, an, rfl, _⟩ := h
    rfl
  · obtain ⟨l, d, zs, kvs, an, rfl, hl, ok, ha, q⟩ := h
    refine ⟨_, pss_cons (ps_expr (pe_call GN (hr.mono (by decide)) rfl gN kN bN .nil pass0 (pa_cons (pv 0) (pa_cons (pv 1) pa_nil))))
      (pss_one (ps_ret (pe_dc (own := [("row", 2)]) (g := gName 2) (tt := tYes) (by rfl) scFullAs.nd (pi_lw (pv 0)) (blkOk_by (own := [("row", 2)]) (N := ["rows", "answers", "row"]) (sc := defScope sFullAs) (by decide +kernel))
        (fun _ _ _ _ _ => pg_name (i := 2) scFullAs.nd rfl (.inl rfl)) (fun _ _ _ _ _ => pts_nil) (fun _ _ _ _ _ => pv 2)
        (fun _ _ _ _ _ => pe_call GA hr rfl gA kA bA .nil pass0 (pa_cons (pe_call GF (hr.mono (by decide)) rfl gF kF bF .nil pass0 (pa_cons (pv 2) (pa_cons (pv 1) pa_nil))) pa_nil))))), ?_⟩
    refine ⟨_, rfl, _, rfl, l, d, zs, kvs, rfl, hl, ok, ha.d, fun H1 s1 => ?_⟩
    have few := ok.few
    refine ⟨_, rfl, l, _, rfl, hl.keep s1, fun J G wk hG D hD => ?_⟩
    have lz : (zs.map V.str).length = zs.length := List.length_map ..
    refine dc_it wk (fun i H2 => Same H1 H2 ∧ ∃ fk, fk.length ≤ i ∧ WholeOf H2 D fk (zs.take i) an) ?_ ?_ ?_ ?_
    · exact ⟨Same.new hD, [], Nat.le_refl _, upd_same, fun z hz => by simp at hz⟩
    · exact fun i H2 _ h2 => hG H2 (sqL_keep h2.1) (sqT_keep h2.1)
    · rintro i x H2 H2' hi ⟨s2, fk, lf, wo⟩ ⟨rfl, hx⟩
      rw [List.getElem?_map] at hx
      obtain ⟨z, hz, rfl⟩ := Option.map_eq_some_iff.mp hx
      have mz := List.mem_of_getElem? hz
      refine ⟨rfl, ?_⟩
      unfold tYes
      dsimp only
      rw [if_pos rfl]
      have ha2 := ha.same (s1.trans s2)
      obtain ⟨v, ev, av⟩ := ha2.is z mz
      refine ⟨_, rfl, _, rfl, _, rfl, z, d, kvs, v, rfl, ha2.d, ev, v, an z, rfl, av, fun T H3 s3 eT => ?_⟩
      refine ⟨fk, Sum.inr z, rfl, s3 _ _ wo.d, small1000 (by omega), fun c o e => (upd_ne (ne_of_none e hD)).trans (s3 _ _ (s2 _ _ e)), _, Nat.le_trans (length_putK _ _ _) (Nat.succ_le_succ lf), upd_same, fun y hy => ?_⟩
      rw [take_snoc hz] at hy
      have nD : ∀ {c : Addr} {xs : List V}, H3 c = some (.tup xs) → upd H3 D (.dK (putK fk (Sum.inr z) (.ref T))) c = some (.tup xs) := fun {c xs} e => by
        rw [upd_ne (ne_of e (s3 _ _ wo.d) (fun z => nomatch z))]
        exact e
      by_cases ey : y = z
      · subst ey
        exact ⟨T, by rw [valV_put, if_pos rfl], nD eT⟩
      · have my : y ∈ zs.take i := by
          rcases List.mem_append.mp hy with h | h
          · exact h
          · exact (ey (List.mem_singleton.mp h)).elim
        obtain ⟨T', e1, e2⟩ := wo.is y my
        exact ⟨T', by rw [valV_put, if_neg fun h => ey (Sum.inr.inj h)]; exact e1, nD (s3 _ _ e2)⟩
    · rintro H2 ⟨s2, fk, lf, wo⟩
      rw [lz, List.take_length] at wo
      exact q D H2 fk (s1.trans s2) (s1.free hD) wo
theorem ok_first {f fA : Addr} {fd fdA : FuncData} (F : Fun K "first_ones" "first_ones" sFirst f fd) (GA : FnOk P w K mg base CX0 5 fA fdA ["rows", "answers"] (spFullAs K)) (gA : mg "full_answers" = some (.ref fA)) (kA : PySem.W.keepIn K (.ref fA) = true) (bA : Binds K fdA ["rows", "answers"] [])
    (mL : mg "list" = none) : FnOk P w K mg base CX0 6 f fd ["rows", "answers"] (spFirst K) := by
  refine F.ok scFirst (fun vs H Q E h => ?_) (fun cdv A outer s H vs Q E hr h => ?_)
  · obtain ⟨l, d, zs, kvs, an, rfl, _⟩ := h
    rfl
  · obtain ⟨l, d, zs, kvs, an, rfl, hl, ok, ha, q⟩ := h
    have hu2 : (A.deeper (envOfC "first_ones" (defScope sFirst) s.heap.objs.size f cdv)).units + 2 < cLine := by have := hr.units; omega
    refine ⟨_, pss_cons (ps_set (i := 2) scFirst.nd rfl (.inl rfl) (pe_call GA hr rfl gA kA bA .nil pass0 (pa_cons (pv 0) (pa_cons (pv 1) pa_nil))))
      (pss_cons (ps_set (i := 3) scFirst.nd rfl (.inl rfl) pe_dnewT)
      (pss_cons (ps_for PassesOwn.never rfl (pi_lw (pv 0)) (pg_name (i := 4) scFirst.nd rfl (.inl rfl))
        (pss_one (ps_expr (pe_setdT hu2 (pv 3) (pe_dget (hu_of hr) (pv 2) (pv 4) (fun _ _ => rfl)) (pv 4) ⟨by rfl, by rfl, by rfl, by rfl⟩))))
      (pss_one (ps_ret (pe_valsT rfl (pv 3) (by rfl) mL (by decide +kernel)))))), ?_⟩
    refine ⟨_, rfl, _, rfl, l, d, zs, kvs, an, rfl, hl, ok, ha, fun p H1 fk s1 np wo => ?_⟩
    intro D hD
    have few := ok.few
    have lz : (zs.map V.str).length = zs.length := List.length_map ..
    have sD := Same.new (o := .dT []) hD
    refine ⟨_, rfl, l, _, rfl, (hl.keep s1).keep sD, fun J G wk hG => ?_⟩
    refine for_it wk (fun i σ H2 => Same H1 H2 ∧ H2 D = some (.dT (accK (accF an (zs.take i)))) ∧ ∃ x4 : Option V, σ = [some (.ref l), some (.ref d), some (.ref p), some (.ref D), x4]) ?_ ?_ ?_ ?_
    · exact ⟨sD, upd_same, none, rfl⟩
    · rintro i σ H2 _ ⟨s2, _, _⟩
      have kp : ∀ c o, c ≠ D → upd H1 D (.dT []) c = some o → H2 c = some o := fun c o n e => s2 c o ((upd_ne n).symm.trans e)
      exact hG H2 (sqL_off upd_same kp) (sqT_off upd_same kp)
    · rintro i x σ H2 H2' hi ⟨s2, e2, x4, rfl⟩ ⟨rfl, hx⟩
      rw [List.getElem?_map] at hx
      obtain ⟨z, hz, rfl⟩ := Option.map_eq_some_iff.mp hx
      have mz := List.mem_of_getElem? hz
      have wo2 := wo.same s2
      obtain ⟨T, e1, eT⟩ := wo2.is z mz
      have g := DGet.k (k := Sum.inr z) wo2.d
      rw [e1] at g
      have hlen : (accK (accF an (zs.take i))).length < sizeLine := by
        have := accF_len an (zs.take i) []
        unfold accK
        rw [List.length_map]
        have h2 : (zs.take i).length ≤ 40 := by
          rw [List.length_take]
          omega
        have h3 : (accF an (zs.take i)).length ≤ 40 := by
          unfold accF
          rw [List.length_nil] at this
          omega
        exact small1000 (by omega)
      refine ⟨_, rfl, D, rfl, .inr ⟨_, .inl e2⟩, _, rfl, _, rfl, p, _, rfl, g, _, rfl, _, kI (an z), T, e2, rfl, by rw [kI_V]; exact eT, hlen, fun v hv => ?_, fun hv => ?_⟩
      · refine ⟨s2, ?_, _, rfl⟩
        rw [e2, take_snoc hz, accF_snoc]
        unfold addF
        by_cases hm : an z ∈ (accF an (zs.take i)).map (·.1)
        · rw [if_pos hm]
        · rw [accK_out hm] at hv
          cases hv
      · refine ⟨fun c o e => (upd_ne (ne_of_none e hD)).trans (s2 _ _ e), ?_, _, rfl⟩
        rw [upd_same, take_snoc hz, accF_snoc]
        unfold addF
        by_cases hm : an z ∈ (accF an (zs.take i)).map (·.1)
        · obtain ⟨v, ev⟩ := accK_in hm
          rw [ev] at hv
          cases hv
        · rw [if_neg hm, putK_new _ hv]
          unfold accK
          rw [List.map_append]
          rfl
    · rintro σ H2 ⟨s2, e2, x4, rfl⟩
      rw [lz, List.take_length] at e2
      refine ⟨_, rfl, D, _, rfl, e2, fun r hr0 => ?_⟩
      have s3 : Same H H2 := s1.trans s2
      refine q r _ (s3.trans (Same.new hr0)) (s3.free hr0) ?_
      rw [upd_same, accK_vals]
      rfl
end
end G
set_option Elab.async false
set_option linter.all false
set_option maxRecDepth 100000
set_option maxHeartbeats 2000000
/-! O4: dicts of ints compared; a list compared with an empty one; things in a drawn order. -/
namespace G
open PySem PySem.Spec PyProof.Rows L2
def dEq (ks ls : List (Key × V)) : Bool := ks.length == ls.length && ks.all fun p => decide (valV ls p.1 = some p.2)
def AllInt (ks : List (Key × V)) : Prop := ∀ p ∈ ks, ∃ i, p.2 = V.int i
theorem int_valV {ls : List (Key × V)} (h : AllInt ls) {k : Key} {v : V} (e : valV ls k = some v) : ∃ i, v = V.int i := by
  have h2 : Option.map (fun p : Key × V => p.2) (ls.find? fun kv => decide (kv.1 = k)) = some v := e
  obtain ⟨p, hp, rfl⟩ := Option.map_eq_some_iff.mp h2
  exact h p (List.mem_of_find?_eq_some hp)
theorem hits_int {A : Around} {s : Shared} {ls : List (Key × V)} {vb : List (Key × Value)} (rb : KV ls vb) (hl : AllInt ls) {ks : List (Key × V)} {va : List (Key × Value)} (ra : KV ks va) :
    AllInt ks → PySem.W.KeqHits A s vb va (ks.all fun p => decide (valV ls p.1 = some p.2)) := by
  unfold KV at ra
  induction ra with
  | nil => intro _; exact .nil
  | @cons p q ps qs h t ih =>
    intro hp
    obtain ⟨h1, h2⟩ := h
    obtain ⟨i, ei⟩ := hp p List.mem_cons_self
    have ih' := ih fun p' hm => hp p' (List.mem_cons_of_mem _ hm)
    obtain ⟨k, v⟩ := q
    have h1' : p.1 = k := h1
    subst h1'
    rw [ei] at h2
    obtain ⟨t1, rfl⟩ := (show ∃ t, v = Value.int i t from h2)
    rw [List.all_cons]
    cases e : valV ls p.1 with
    | none =>
      have rr : RelO none (valueAt vb p.1) := by rw [← e]; exact rb.val p.1
      have hn : valueAt vb p.1 = none := by
        cases z : valueAt vb p.1 with
        | none => rfl
        | some y =>
          rw [z] at rr
          exact rr.elim
      rw [decide_eq_false (show ¬ (none = some p.2) from fun z => nomatch z), Bool.false_and]
      exact .miss hn
    | some x =>
      obtain ⟨j, rfl⟩ := int_valV hl e
      have rr : RelO (some (.int j)) (valueAt vb p.1) := by rw [← e]; exact rb.val p.1
      obtain ⟨y, hy, ry⟩ := rr.some_of
      obtain ⟨t2, rfl⟩ := (show ∃ t, y = Value.int j t from ry)
      rw [ei]
      have q := SeqAt.EqAt.int_int (A := A) (s := s) i t1 j t2
      have e2 : decide (some (V.int j) = some (V.int i)) = (i == j) := by
        by_cases z : i = j
        · rw [z, decide_eq_true rfl]
          exact (beq_self_eq_true _).symm
        · rw [decide_eq_false fun h => z (V.int.inj (Option.some.inj h)).symm]
          exact (Bool.eq_false_iff.mpr fun h => z (beq_iff_eq.mp h)).symm
      rw [e2]
      exact .hit hy q ih'
section
variable {X : Cx}
def rNeDI : R2 := fun x y H Q => ∃ a b ks ls, x = .ref a ∧ y = .ref b ∧ H a = some (.dK ks) ∧ H b = some (.dK ls) ∧ AllInt ks ∧ AllInt ls ∧ Q (.bl (!dEq ks ls)) H
theorem op_neDI (hu : X.A.units < cLine) : OpR X (compareOp .NotEq) rNeDI := by
  intro pins s σ H x y v u Q I rx ry h
  obtain ⟨a, b, ks, ls, rfl, rfl, ea, eb, ik, il, q⟩ := h
  obtain rfl : v = Value.ref a := rx
  obtain rfl : u = Value.ref b := ry
  obtain ⟨_, ya, va, ra, da⟩ := (show ObjOk X.prog X.w H s.heap a (.dK ks) from I.hok a _ ea)
  obtain ⟨_, yb, vb, rb, db⟩ := (show ObjOk X.prog X.w H s.heap b (.dK ls) from I.hok b _ eb)
  have e : dEq ks ls = (va.length == vb.length && ks.all fun p => decide (valV ls p.1 = some p.2)) := by
    rw [← ra.length, ← rb.length]
    rfl
  exact PySem.W.keq_ne (knd := mixKind X.prog X.w) ya yb da db hu (fun _ => hits_int rb il ra ik) (fin_bl I q (by rw [e]))
def rNeNil (K : PySem.W.Frag) : R2 := fun x y H Q => ∃ a b xs, x = .ref a ∧ y = .ref b ∧ SqL K H a xs ∧ SqL K H b [] ∧ Q (.bl (!xs.isEmpty)) H
theorem op_neNil (hu : X.A.units < cLine) : OpR X (compareOp .NotEq) (rNeNil X.K) := by
  intro pins s σ H x y v u Q I rx ry h
  obtain ⟨a, b, xs, rfl, rfl, ha, hb, q⟩ := h
  cases (show v = Value.ref a from rx)
  cases (show u = Value.ref b from ry)
  obtain ⟨us, r1, p1, _⟩ := I.list ha
  obtain ⟨ws, r2, p2, _⟩ := I.list hb
  cases r2
  cases xs with
  | nil =>
    cases r1
    refine SeqAt.RcNeAt.lists (e := fun _ => true) p1.isList p2.isList rfl hu (fun j h1 h2 => absurd h1 (Nat.not_lt_zero j)) X.prog X.w _ _ ?_
    exact ⟨.bl false, H, I, rfl, q⟩
  | cons x xs =>
    refine SeqAt.RcNeAt.lists_lengths p1.isList p2.isList ?_ hu X.prog X.w _ _ ?_
    · have := r1.length
      rw [List.length_cons] at this
      rw [List.size_toArray, List.size_toArray, ← this]
      rfl
    · exact ⟨.bl true, H, I, rfl, q⟩
end
/-- things in a drawn order -/
def spMixR (K : PySem.W.Frag) : Sp := fun vs H Q _ => ∃ (b a : Addr) (n : Nat) (xs : List V), vs = [.ref b, .ref a] ∧ BoxAt H b n ∧ n + xs.length ≤ 100000 ∧ SqL K H a xs ∧
  ∀ (p : Addr) (H' : Hp) (ys : List V), ys.Perm xs → H p = none → H' p = some (.lst ys) → BoxAt H' b (n + xs.length) → But b H H' → Q (.ref p) H'
section
variable {P : Program} {w : World} {K : PySem.W.Frag} {mg : Str → Option Value} {base : Heap}
theorem ok_mixR {f fT : Addr} {fd fdT : FuncData} (F : Fun K "_law_mixed" "_law_mixed" sMixed f fd) (T : Fun K "_law_take" "_law_take" sTake fT fdT) (bT : Binds K fdT ["_law_box_here", "_law_many"] []) (gT : mg "_law_take" = some (.ref fT))
    (ml : mg "len" = none) (mL : mg "list" = none) : FnOk P w K mg base CX0 2 f fd ["_law_box_here", "_law_some"] (spMixR K) := by
  refine F.ok scMixed (fun vs H Q E h => ?_) (fun cdv A outer s H vs Q E hr h => ?_)
  · obtain ⟨b, a, n, ps, rfl, _⟩ := h
    rfl
  · obtain ⟨b, a, n, ps, rfl, B, hn, hS, q⟩ := h
    have big : ∀ {k : Nat}, k ≤ 100000 → k < sizeLine := fun {k} h => by
      rw [sizeLine_eq]
      omega
    refine ⟨_, pss_cons (ps_par (i := 2) (j := 3) (by rfl) scMixed.nd rfl rfl (by decide) rfl rfl (pa_cons (pe_callTy call_list_of (by rfl) mL (by decide +kernel) (pa_cons (pv 1) pa_nil)) (pa_cons (pe_lst pa_nil) pa_nil)) (by rfl))
      (pss_cons (ps_while PassesOwn.never (pt_cmpR (op_neNil (Nat.lt_of_succ_lt (hu_of hr))) (pv 2) (pe_lst pa_nil) (nomark _))
        (pss_one (ps_expr (pe_bm PySem.F.plainAttrs_list PySem.F.slot_list_append PySem.F.type_list_append mt_append (pv 3) (pa_cons
          (pe_bm PySem.F.plainAttrs_list PySem.F.slot_list_pop PySem.F.type_list_pop mt_popAt (pv 2)
            (pa_cons (pe_call (ok_take T) hr rfl gT T.kp bT .nil pass0 (pa_cons (pv 0) (pa_cons (pe_callB call_len_seq (by rfl) ml PySem.boot_len (pa_cons (pv 2) pa_nil)) pa_nil))) pa_nil)) pa_nil)))))
      (pss_one (ps_ret (pv 3)))), ?_⟩
    refine ⟨_, rfl, a, _, rfl, .inl hS, fun l hl => ⟨by decide, fun p hp0 => ⟨_, _, rfl, ?_⟩⟩⟩
    have nlp : l ≠ p := fun z => by
      rw [z, upd_same] at hp0
      cases hp0
    have hpn : H p = none := (upd_ne nlp.symm).symm.trans hp0
    have nbl : b ≠ l := by
      obtain ⟨_, _, _, e, _⟩ := B
      exact ne_of_none e hl
    have nbp : b ≠ p := by
      obtain ⟨_, _, _, e, _⟩ := B
      exact ne_of_none e hpn
    refine ⟨fun m σ H1 => ∃ qs rs : List V, m = qs.length ∧ σ = [some (.ref b), some (.ref a), some (.ref l), some (.ref p)] ∧ H1 l = some (.lst qs) ∧ H1 p = some (.lst rs) ∧
        (rs ++ qs).Perm ps ∧ BoxAt H1 b (n + rs.length) ∧ But b H H1, ⟨ps.length, ps, [], rfl, rfl, ?_, upd_same, .refl _, ?_, ?_⟩, ?_⟩
    · rw [upd_ne nlp, upd_same]
    · exact (B.keep fun o e => by rw [upd_ne nbp, upd_ne nbl]; exact e).mono (Nat.le_add_right _ _)
    · exact (But.new hl).trans (But.new hp0)
    · rintro m σ H1 ⟨qs, rs, rfl, rfl, el, ep, pm, B1, s1⟩
      have hlen : rs.length + qs.length = ps.length := by
        rw [← List.length_append]
        exact pm.length_eq
      refine ⟨_, rfl, by decide, fun t ht => ?_⟩
      have nlt : l ≠ t := ne_of_none el ht
      have s2 : But b H (upd H1 t (.lst [])) := s1.trans (But.new ht)
      refine ⟨l, t, qs, rfl, rfl, .of ((upd_ne nlt).trans el), .of upd_same, _, rfl, ?_⟩
      · cases qs with
        | nil =>
          refine iteF ?_
          refine ⟨_, rfl, ?_⟩
          rw [List.append_nil] at pm
          refine q p _ rs pm hpn ?_ ?_ s2
          · rw [upd_ne (ne_of_none ep ht)]
            exact ep
          · have e : rs.length = ps.length := pm.length_eq
            rw [← e]
            exact B1.keep fun o e => by rw [upd_ne (ne_of_none e ht)]; exact e
        | cons y ys =>
          refine iteT ?_
          have hlen' : rs.length + (ys.length + 1) = ps.length := hlen
          refine ⟨fun σ' H' => ∃ m', m' < (y :: ys).length ∧ ∃ qs rs : List V, m' = qs.length ∧ σ' = [some (.ref b), some (.ref a), some (.ref l), some (.ref p)] ∧ H' l = some (.lst qs) ∧ H' p = some (.lst rs) ∧
            (rs ++ qs).Perm ps ∧ BoxAt H' b (n + rs.length) ∧ But b H H', fun _ _ h => h, ?_⟩
          have ep2 : upd H1 t (.lst []) p = some (.lst rs) := by
            rw [upd_ne (ne_of_none ep ht)]
            exact ep
          have el2 : upd H1 t (.lst []) l = some (.lst (y :: ys)) := by
            rw [upd_ne nlt]
            exact el
          have B2 : BoxAt (upd H1 t (.lst [])) b (n + rs.length) := B1.keep fun o e => by rw [upd_ne (ne_of_none e ht)]; exact e
          refine ⟨_, rfl, .inl ⟨rfl, _, .of ep2⟩, _, rfl, .inl ⟨rfl, _, .of el2⟩, _, rfl, _, rfl, l, _, rfl, .inl (.of el2), b, _, n + rs.length, rfl, B2, by omega, ?_, ?_, fun r H3 r0 r1 B3 s3 => ?_⟩
          · show (0 : Int) < ((ys.length + 1 : Nat) : Int)
            omega
          · show ((ys.length + 1 : Nat) : Int) < _
            have : ys.length + 1 ≤ 100000 := by omega
            omega
          · obtain ⟨j, rfl, hj⟩ := draw_at r0 r1 (n := (y :: ys).length) rfl
            have el3 : H3 l = some (.lst (y :: ys)) := s3 _ _ nbl.symm el2
            have ep3 : H3 p = some (.lst rs) := s3 _ _ nbp.symm ep2
            have hj5 : j < 100000 := by
              have e : (y :: ys).length = ys.length + 1 := rfl
              omega
            refine ⟨l, _, (j : Int), j, (y :: ys)[j], rfl, rfl, el3, by omega, by omega, ?_, ?_, ?_⟩
            · have := PySem.seqIndex_of (k := (j : Int)) (n := (y :: ys).length) (by omega) (by omega)
              rw [this]
              rfl
            · exact List.getElem?_eq_getElem hj
            · refine ⟨p, _, _, rfl, rfl, by rw [upd_ne nlp.symm]; exact ep3, ?_, ?_⟩
              · exact big (by omega)
              · refine ⟨((y :: ys).eraseIdx j).length, ?_, (y :: ys).eraseIdx j, rs ++ [(y :: ys)[j]], rfl, rfl, ?_, ?_, ?_, ?_, ?_⟩
                · rw [List.length_eraseIdx, if_pos hj]
                  show (ys.length + 1) - 1 < ys.length + 1
                  omega
                · rw [upd_ne nlp, upd_same]
                · rw [upd_same]
                · rw [List.append_assoc]
                  refine List.Perm.trans (List.Perm.append_left rs ?_) pm
                  exact erase_perm hj
                · rw [List.length_append, List.length_singleton]
                  exact B3.keep fun o e => by rw [upd_ne nbp, upd_ne nbl]; exact e
                · intro c o nc e
                  have e3 := (s2.trans s3) c o nc e
                  rw [upd_ne (ne_of_none e hpn), upd_ne (ne_of_none e hl)]
                  exact e3
end
end G
set_option Elab.async false
set_option linter.all false
set_option maxRecDepth 100000
set_option maxHeartbeats 4000000
/-! VN: drawn names differ. -/
namespace G
open PySem PySem.Spec PyProof.Rows L2
def Cop (st : Nat) : Prop := st ∈ [1, 3, 5, 7, 9, 11, 15, 17]
theorem cop_le {st : Nat} (h : Cop st) : st ≤ 17 := by
  unfold Cop at h
  simp at h
  omega
theorem cop_inj {st bg i j : Nat} (h : Cop st) (e : (bg + st * i) % 26 = (bg + st * j) % 26) : i % 26 = j % 26 := by
  unfold Cop at h
  simp only [List.mem_cons, List.not_mem_nil, or_false] at h
  rcases h with rfl | rfl | rfl | rfl | rfl | rfl | rfl | rfl <;> omega
theorem abc_is : ∀ j : Fin 26, abc.cps[(j : Nat)]? = some (97 + (j : Nat)) := by decide +kernel
theorem abc_code {j c n : Nat} (hj : j < 26) (hc : abc.cps[j]? = some c) (e : j = n) : cs (⟨#[c]⟩ : Str) = [97 + n] := by
  have z := abc_is ⟨j, hj⟩
  rw [hc] at z
  rw [← e, ← Option.some.inj z]
theorem abc_code2 {j c : Nat} (hj : j < 26) (hc : abc.cps[j]? = some c) : cs (⟨#[c]⟩ : Str) = [97 + j] := abc_code hj hc rfl
/-- how the i-th name is written -/
def BaseF (md : Bool) (P : List Nat) (bg st i : Nat) (y : Str) : Prop := (md = true ∧ ∃ R, cs y = (97 + (bg + st * i) % 26) :: R) ∨ (md = false ∧ cs y = P ++ [97 + (bg + st * i) % 26])
def Form (md : Bool) (P : List Nat) (bg st i : Nat) (y : Str) : Prop := (md = true ∧ i < 26 ∧ ∃ R, cs y = (97 + (bg + st * i) % 26) :: R) ∨ (md = false ∧ i < 26 ∧ cs y = P ++ [97 + (bg + st * i) % 26]) ∨ (md = false ∧ 26 ≤ i ∧ cs y = P ++ [97 + (bg + st * i) % 26, 97 + i / 26])
theorem form_lt {md : Bool} {P : List Nat} {bg st i : Nat} {y : Str} (h : BaseF md P bg st i y) (hi : i < 26) : Form md P bg st i y := by
  rcases h with ⟨e, r⟩ | ⟨e, r⟩
  · exact .inl ⟨e, hi, r⟩
  · exact .inr (.inl ⟨e, hi, r⟩)
theorem form_ge {md : Bool} {P : List Nat} {bg st i : Nat} {y u : Str} (h : BaseF md P bg st i y) (hi : 26 ≤ i) (hm : md = true → i < 26) (e : cs u = cs y ++ [97 + i / 26]) : Form md P bg st i u := by
  rcases h with ⟨em, r⟩ | ⟨em, r⟩
  · have := hm em
    omega
  · refine .inr (.inr ⟨em, hi, ?_⟩)
    rw [e, r, List.append_assoc]
    rfl
theorem form_app {G : Nat → Str → Prop} {zs : List Str} {u : Str} {i : Nat} (hl : zs.length = i) (hf : ∀ (k : Nat) (y : Str), zs[k]? = some y → G k y) (hu : G i u) : ∀ (k : Nat) (y : Str), (zs ++ [u])[k]? = some y → G k y := fun k y h => by
  rcases Nat.lt_or_ge k zs.length with hk | hk
  · rw [List.getElem?_append_left hk] at h
    exact hf k y h
  · rw [List.getElem?_append_right hk] at h
    have hk0 : k - zs.length = 0 := by
      rcases Nat.eq_zero_or_pos (k - zs.length) with e | e
      · exact e
      · rw [List.getElem?_eq_none (by rw [List.length_singleton]; omega)] at h
        cases h
    rw [hk0] at h
    have e : u = y := Option.some.inj h
    have ek : k = i := by omega
    rw [ek, ← e]
    exact hu
theorem app_two {P : List Nat} {a b c d : Nat} (h : P ++ [a, b] = P ++ [c, d]) : a = c ∧ b = d := by
  have := List.append_cancel_left h
  injection this with e1 e2
  injection e2 with e3 _
  exact ⟨e1, e3⟩
theorem form_inj {md : Bool} {P : List Nat} {bg st i j : Nat} {y : Str} (hc : Cop st) (h1 : Form md P bg st i y) (h2 : Form md P bg st j y) : i = j := by
  rcases h1 with ⟨m1, l1, R1, e1⟩ | ⟨m1, l1, e1⟩ | ⟨m1, l1, e1⟩
  · rcases h2 with ⟨m2, l2, R2, e2⟩ | ⟨m2, l2, e2⟩ | ⟨m2, l2, e2⟩
    · rw [e1] at e2
      injection e2 with e3 _
      have := cop_inj (i := i) (j := j) hc (by omega : (bg + st * i) % 26 = (bg + st * j) % 26)
      omega
    · rw [m1] at m2
      cases m2
    · rw [m1] at m2
      cases m2
  · rcases h2 with ⟨m2, l2, R2, e2⟩ | ⟨m2, l2, e2⟩ | ⟨m2, l2, e2⟩
    · rw [m1] at m2
      cases m2
    · rw [e1] at e2
      have e3 := List.append_cancel_left e2
      injection e3 with e4 _
      have := cop_inj (i := i) (j := j) hc (by omega : (bg + st * i) % 26 = (bg + st * j) % 26)
      omega
    · rw [e1] at e2
      have e3 := List.append_cancel_left e2
      injection e3 with _ e4
      cases e4
  · rcases h2 with ⟨m2, l2, R2, e2⟩ | ⟨m2, l2, e2⟩ | ⟨m2, l2, e2⟩
    · rw [m1] at m2
      cases m2
    · rw [e1] at e2
      have e3 := List.append_cancel_left e2
      injection e3 with _ e4
      cases e4
    · rw [e1] at e2
      obtain ⟨e3, e4⟩ := app_two e2
      have := cop_inj (i := i) (j := j) hc (by omega : (bg + st * i) % 26 = (bg + st * j) % 26)
      omega
theorem nodup_at {zs : List Str} (h : ∀ (i j : Nat) (y : Str), zs[i]? = some y → zs[j]? = some y → i = j) : zs.Nodup := by
  rw [List.nodup_iff_pairwise_ne, List.pairwise_iff_getElem]
  intro i j hi hj hij e
  have h1 : zs[i]? = some zs[i] := List.getElem?_eq_getElem hi
  have h2 : zs[j]? = some zs[i] := by rw [List.getElem?_eq_getElem hj, e]
  have := h i j _ h1 h2
  omega
theorem form_nodup {md : Bool} {P : List Nat} {bg st : Nat} {zs : List Str} (hc : Cop st) (hf : ∀ (k : Nat) (y : Str), zs[k]? = some y → Form md P bg st k y) (_ : zs.length ≤ 600) : zs.Nodup :=
  nodup_at fun i j y h1 h2 => form_inj hc (hf i y h1) (hf j y h2)
theorem len_nodup {zs : List Str} (hf : ∀ (k : Nat) (y : Str), zs[k]? = some y → y.length = k + 1) : zs.Nodup :=
  nodup_at fun i j y h1 h2 => by
    have := hf i y h1
    have := hf j y h2
    omega
theorem perm_nodup {ys us : List Str} {qs : List Vd} (pm : qs.Perm (ys.map fun z => (V.str z, PyData.str z))) (e : qs.map (·.1) = us.map V.str) (h : ys.Nodup) : us.Nodup := by
  have p1 : (qs.map (·.1)).Perm ((ys.map fun z => (V.str z, PyData.str z)).map (·.1)) := pm.map _
  rw [e, List.map_map] at p1
  have h2 : (ys.map V.str).Nodup := h.map V.str fun a b hab hn => hab (V.str.inj hn)
  have h3 : (us.map V.str).Nodup := p1.nodup_iff.mpr h2
  unfold List.Nodup at *
  rw [List.pairwise_map] at h3
  exact h3.imp fun hne e => hne (congrArg V.str e)
def spNamesD : Sp := fun vs H Q _ => ∃ (b : Addr) (m n : Nat), vs = [.ref b, .int (m : Int)] ∧ BoxAt H b n ∧ n ≤ 50000 ∧ m ≤ 100 ∧
  ∀ (p : Addr) (H' : Hp) (zs : List Str), zs.length = m → (∀ z ∈ zs, NameZ z) → zs.Nodup → H p = none → H' p = some (.lst (zs.map V.str)) → BoxAt H' b (n + 11 + m) → But b H H' → Q (.ref p) H'
section
variable {P : Program} {w : World} {K : PySem.W.Frag} {mg : Str → Option Value} {base : Heap}
theorem ok_namesD {f fT fM : Addr} {fd fdT fdM : FuncData} (F : Fun K "_law_names" "_law_names" sNames f fd) (T : Fun K "_law_take" "_law_take" sTake fT fdT) (bT : Binds K fdT ["_law_box_here", "_law_many"] []) (gT : mg "_law_take" = some (.ref fT))
    (M : Fun K "_law_mixed" "_law_mixed" sMixed fM fdM) (bM : Binds K fdM ["_law_box_here", "_law_some"] []) (gM : mg "_law_mixed" = some (.ref fM)) (ml : mg "len" = none) (mL : mg "list" = none) (mr : mg "range" = none) :
    FnOk P w K mg base CX0 3 f fd ["_law_box_here", "_law_many"] spNamesD := by
  have GT : FnOk P w K mg base CX0 1 fT fdT ["_law_box_here", "_law_many"] spTake := ok_take T
  have GM : FnOk P w K mg base CX0 2 fM fdM ["_law_box_here", "_law_some"] (spMixed K) := ok_mixed M T bT gT ml mL
  refine F.ok scNames (fun vs H Q E h => ?_) (fun cdv A outer s H vs Q E hr h => ?_)
  · obtain ⟨b, m, n, rfl, _⟩ := h
    rfl
  · obtain ⟨b, m, n, rfl, B, hn, hm, q⟩ := h
    have hr1 := hr.mono (show 1 ≤ 2 by decide)
    obtain ⟨ts, psl, qsl⟩ : ∃ t, PSs (cxOf CX0 P w K mg base nNames "_law_names" (defScope sNames) f cdv A outer s H E).nox ((defBody sNames).drop 5) t ∧
        ∀ (way cut bg st : Nat) (z : Str) (x8 : Option V) (H1 : Hp), cut ≤ 7 → (26 < m → cut ≤ 6) → bg < 26 → Cop st → LowZ z → z.length = 7 → BoxAt H1 b (n + 11) → But b H H1 → t { nx := fun _ H' => Q .non H', rt := Q } [some (.ref b), some (.int (m : Int)), some (.str abc), some (.int (way : Int)), some (.int (cut : Int)), some (.int (bg : Int)), some (.int (st : Int)), some (.str z), x8, none, none, none] H1 := by
      refine ⟨_, pss_cons (ps_set (i := 9) scNames.nd rfl (.inl rfl) (pe_lst pa_nil))
      (pss_cons (ps_for PassesOwn.never rfl (pi_range1 rfl mr (pa_cons (pv 1) pa_nil)) (pg_name (i := 8) scNames.nd rfl (.inl rfl))
        (pss_cons (ps_set (i := 10) scNames.nd rfl (.inl rfl) (pe_item_str (pv 2) (pe_op op_mod (pe_op op_add (pv 5) (pe_op op_mul (pv 6) (pv 8))) pe_int) (fun _ _ => rfl)))
        (pss_cons (ps_set (i := 11) scNames.nd rfl (.inl rfl) (pe_op op_add_str (pe_slice sl_str (pv 7) po_none (po_some (pv 4))) (pv 10)))
        (pss_cons (ps_if (PW.pt (pw_and (pt_cmpR op_eq (pv 3) pe_int (nomark _)) (pw_and1 (pt_cmpR op_lt (pv 1) pe_int (nomark _)))))
          (pss_one (ps_set (i := 11) scNames.nd rfl (.inl rfl) (pe_op op_add_str (pv 10) (pe_slice sl_str (pv 7) po_none (po_some (pe_op op_mod (pe_op op_add (pv 4) (pe_op op_mul pe_int (pv 8))) pe_int)))))) pss_nil)
        (pss_one (ps_expr (pe_bm PySem.F.plainAttrs_list PySem.F.slot_list_append PySem.F.type_list_append mt_append (pv 9) (pa_cons
          (pe_ifExp (pt_cmpR op_lt (pv 8) pe_int (nomark _)) (pv 11) (pe_op op_add_str (pv 11) (pe_item_str (pv 2) (pe_op op_fdiv (pv 8) pe_int) (fun _ _ => rfl)))) pa_nil))))))))
      (pss_one (ps_ret (pv 9)))), ?_⟩
      intro way cut bg st z x8 H1 hcut hcut2 hbg hcop hz hl B1 k1
      have hst := cop_le hcop
      generalize hmd : (decide (V.int (way : Int) = V.int 1) && decide ((m : Int) < 27)) = md
      have hm26 : md = true → m < 27 := fun e => by
        rw [e] at hmd
        have := of_decide_eq_true (Bool.and_eq_true_iff.mp hmd).2
        omega
      refine ⟨Nat.zero_le _, fun D hD => ?_⟩
      have nD := box_ne B1 hD
      have fD := free_of k1 nD hD
      refine ⟨_, rfl, _, rfl, by omega, by omega, ?_⟩
      rw [Int.toNat_natCast m]
      refine for_range (lo := 0) (n := m) (fun i σ H2 => ∃ (zs : List Str) (x8 x10 x11 : Option V), σ = [some (.ref b), some (.int (m : Int)), some (.str abc), some (.int (way : Int)), some (.int (cut : Int)), some (.int (bg : Int)), some (.int (st : Int)), some (.str z), x8, some (.ref D), x10, x11] ∧
        H2 D = some (.lst (zs.map V.str)) ∧ zs.length = i ∧ (∀ y ∈ zs, NameZ y) ∧ (∀ (k : Nat) (y : Str), zs[k]? = some y → Form md (cs (cutS z none (some (cut : Int)))) bg st k y) ∧ BoxAt H2 b (n + 11) ∧ But b H H2) ?_ ?_ ?_
      · exact ⟨[], x8, none, none, rfl, upd_same, rfl, (fun y h => nomatch h), (fun k y h => by simp at h), box_new B1 hD, but_upd k1 fD⟩
      · rintro i σ H2 hi ⟨zs, x8, x10, x11, rfl, e2, hlz, hy, hf, B2, k2⟩
        have r := emod_in ((bg : Int) + (st : Int) * (0 + (i : Int))) 26 (by decide)
        obtain ⟨j, ej, hj⟩ := draw_at r.1 r.2 (n := 26) rfl
        obtain ⟨c, hc, c97⟩ := abc_at hj
        refine ⟨_, rfl, _, rfl, _, rfl, _, rfl, _, _, rfl, rfl, .inl ⟨by omega, by omega⟩, _, _, rfl, rfl, _, _, rfl, rfl, (by show (0 : Int) < 26; decide), _, _, c, rfl, rfl, r.1, by omega, (show _ < ((26 : Nat) : Int) by omega), (by rw [ej]; exact hc), ?_⟩
        have lo := low_one c97
        have len1 : (⟨#[c]⟩ : Str).length = 1 := rfl
        have ec : cs (⟨#[c]⟩ : Str) = [97 + (bg + st * i) % 26] := abc_code hj hc (by have ej2 := ej; rw [Int.zero_add] at ej2; omega)
        generalize (⟨#[c]⟩ : Str) = lt at lo len1 ec
        have cl := cut_len z cut
        refine ⟨_, rfl, _, rfl, _, rfl, z, rfl, small_size (by omega), _, rfl, _, _, rfl, rfl, small_size (by omega), ?_⟩
        have Y0 : LowZ (cutS z none (some (cut : Int)) ++ lt) ∧ 1 ≤ (cutS z none (some (cut : Int)) ++ lt).length ∧ (cutS z none (some (cut : Int)) ++ lt).length ≤ 8 ∧ (26 ≤ i → (cutS z none (some (cut : Int)) ++ lt).length ≤ 7) := by
          rw [app_len]
          exact ⟨(hz.cut _ _).app lo, by omega, by omega, fun _ => by omega⟩
        have r8 := emod_in ((cut : Int) + 3 * (0 + (i : Int))) 8 (by decide)
        refine ⟨_, rfl, rfl, _, rfl, ite2 (fun hw => ?_) (fun hw => ?_)⟩
        · refine ⟨_, rfl, _, _, rfl, rfl, _, rfl, ite2 (fun h27 => ?_) (fun h27 => ?_)⟩
          · have hm27 : (m : Int) < 27 := of_decide_eq_true h27
            obtain ⟨j8, ej8, hj8⟩ := draw_at r8.1 r8.2 (n := 8) rfl
            have cl8 := cut_len z j8
            refine ⟨_, rfl, _, rfl, _, rfl, _, rfl, _, _, rfl, rfl, .inl ⟨by decide, by decide⟩, _, _, rfl, rfl, _, _, rfl, rfl, (by show (0 : Int) < 8; decide), _, rfl, z, rfl, small_size (by omega), _, _, rfl, rfl, ?_, ?_⟩
            · rw [ej8, len1]
              exact small_size (by omega)
            have Y : NameI (lt ++ cutS z none (some (((cut : Int) + 3 * (0 + (i : Int))) % 8))) i ∧ BaseF md (cs (cutS z none (some (cut : Int)))) bg st i (lt ++ cutS z none (some (((cut : Int) + 3 * (0 + (i : Int))) % 8))) := by
              refine ⟨?_, .inl ⟨?_, cs (cutS z none (some (((cut : Int) + 3 * (0 + (i : Int))) % 8))), by rw [cs_app, ec]; rfl⟩⟩
              · unfold NameI
                rw [ej8, app_len]
                exact ⟨lo.app (hz.cut _ _), by omega, by omega, fun h => by omega⟩
              · rw [← hmd, hw, h27]
                rfl
            revert Y
            generalize (lt ++ cutS z none (some (((cut : Int) + 3 * (0 + (i : Int))) % 8))) = y
            intro Y
            obtain ⟨⟨y1, y2, y3, y4⟩, y5⟩ := Y
            have done : ∀ (u : Str) (x8 x10 x11 : Option V), NameZ u → Form md (cs (cutS z none (some (cut : Int)))) bg st i u → ∃ (zs' : List Str) (x8' x10' x11' : Option V), [some (V.ref b), some (.int (m : Int)), some (.str abc), some (.int (way : Int)), some (.int (cut : Int)), some (.int (bg : Int)), some (.int (st : Int)), some (.str z), x8, some (.ref D), x10, x11] = [some (.ref b), some (.int (m : Int)), some (.str abc), some (.int (way : Int)), some (.int (cut : Int)), some (.int (bg : Int)), some (.int (st : Int)), some (.str z), x8', some (.ref D), x10', x11'] ∧
                upd H2 D (.lst (zs.map V.str ++ [.str u])) D = some (.lst (zs'.map V.str)) ∧ zs'.length = i + 1 ∧ (∀ y ∈ zs', NameZ y) ∧ (∀ (k : Nat) (y : Str), zs'[k]? = some y → Form md (cs (cutS z none (some (cut : Int)))) bg st k y) ∧ BoxAt (upd H2 D (.lst (zs.map V.str ++ [.str u]))) b (n + 11) ∧ But b H (upd H2 D (.lst (zs.map V.str ++ [.str u]))) := fun u x8 x10 x11 hu hu2 => by
              refine ⟨zs ++ [u], x8, x10, x11, rfl, ?_, ?_, fun v hv => ?_, form_app hlz hf hu2, box_upd B2 nD, but_upd k2 fD⟩
              · rw [upd_same, List.map_append]
                rfl
              · rw [List.length_append, hlz]
                rfl
              · rcases List.mem_append.mp hv with hv | hv
                · exact hy v hv
                · rw [List.mem_singleton.mp hv]
                  exact hu
            have room : (zs.map V.str).length < sizeLine := by
              rw [List.length_map]
              exact small1000 (by omega)
            refine ⟨_, rfl, .inl ⟨rfl, _, .of e2⟩, _, rfl, _, _, rfl, rfl, _, rfl, ite2 (fun h26 => ?_) (fun h26 => ?_)⟩
            · exact ⟨_, rfl, D, _, _, rfl, rfl, e2, room, done y _ _ _ ⟨y1, y2, y3⟩ (form_lt y5 (by have := of_decide_eq_true h26; omega))⟩
            · have h26' : ¬ ((0 + (i : Int)) < 26) := fun h => h26 (decide_eq_true h)
              have yl := y4 (by omega)
              have hd : (0 + (i : Int)) / 26 = ((i / 26 : Nat) : Int) := by omega
              obtain ⟨c2, hc2, c297⟩ := abc_at (j := i / 26) (by omega)
              refine ⟨_, rfl, _, rfl, _, rfl, _, _, rfl, rfl, ⟨by decide, by decide⟩, _, _, c2, rfl, rfl, by omega, by omega, (show _ < ((26 : Nat) : Int) by omega), (by rw [hd]; exact hc2), _, _, rfl, rfl, ?_, D, _, _, rfl, rfl, e2, room, ?_⟩
              · show y.length + 1 ≤ sizeLine
                exact small_size (by omega)
              · have l2 : (y ++ (⟨#[c2]⟩ : Str)).length = y.length + 1 := app_len y ⟨#[c2]⟩
                exact done (y ++ ⟨#[c2]⟩) _ _ _ ⟨y1.app (low_one c297), by omega, by omega⟩ (form_ge y5 (by omega) (fun e => by have := hm26 e; omega) (by rw [cs_app, abc_code2 (by omega) hc2]))
          · have Y : NameI (cutS z none (some (cut : Int)) ++ lt) i ∧ BaseF md (cs (cutS z none (some (cut : Int)))) bg st i (cutS z none (some (cut : Int)) ++ lt) := ⟨Y0, .inr ⟨by rw [← hmd, Bool.eq_false_iff.mpr h27, Bool.and_false], by rw [cs_app, ec]⟩⟩
            revert Y
            generalize (cutS z none (some (cut : Int)) ++ lt) = y
            intro Y
            obtain ⟨⟨y1, y2, y3, y4⟩, y5⟩ := Y
            have done : ∀ (u : Str) (x8 x10 x11 : Option V), NameZ u → Form md (cs (cutS z none (some (cut : Int)))) bg st i u → ∃ (zs' : List Str) (x8' x10' x11' : Option V), [some (V.ref b), some (.int (m : Int)), some (.str abc), some (.int (way : Int)), some (.int (cut : Int)), some (.int (bg : Int)), some (.int (st : Int)), some (.str z), x8, some (.ref D), x10, x11] = [some (.ref b), some (.int (m : Int)), some (.str abc), some (.int (way : Int)), some (.int (cut : Int)), some (.int (bg : Int)), some (.int (st : Int)), some (.str z), x8', some (.ref D), x10', x11'] ∧
                upd H2 D (.lst (zs.map V.str ++ [.str u])) D = some (.lst (zs'.map V.str)) ∧ zs'.length = i + 1 ∧ (∀ y ∈ zs', NameZ y) ∧ (∀ (k : Nat) (y : Str), zs'[k]? = some y → Form md (cs (cutS z none (some (cut : Int)))) bg st k y) ∧ BoxAt (upd H2 D (.lst (zs.map V.str ++ [.str u]))) b (n + 11) ∧ But b H (upd H2 D (.lst (zs.map V.str ++ [.str u]))) := fun u x8 x10 x11 hu hu2 => by
              refine ⟨zs ++ [u], x8, x10, x11, rfl, ?_, ?_, fun v hv => ?_, form_app hlz hf hu2, box_upd B2 nD, but_upd k2 fD⟩
              · rw [upd_same, List.map_append]
                rfl
              · rw [List.length_append, hlz]
                rfl
              · rcases List.mem_append.mp hv with hv | hv
                · exact hy v hv
                · rw [List.mem_singleton.mp hv]
                  exact hu
            have room : (zs.map V.str).length < sizeLine := by
              rw [List.length_map]
              exact small1000 (by omega)
            refine ⟨_, rfl, .inl ⟨rfl, _, .of e2⟩, _, rfl, _, _, rfl, rfl, _, rfl, ite2 (fun h26 => ?_) (fun h26 => ?_)⟩
            · exact ⟨_, rfl, D, _, _, rfl, rfl, e2, room, done y _ _ _ ⟨y1, y2, y3⟩ (form_lt y5 (by have := of_decide_eq_true h26; omega))⟩
            · have h26' : ¬ ((0 + (i : Int)) < 26) := fun h => h26 (decide_eq_true h)
              have yl := y4 (by omega)
              have hd : (0 + (i : Int)) / 26 = ((i / 26 : Nat) : Int) := by omega
              obtain ⟨c2, hc2, c297⟩ := abc_at (j := i / 26) (by omega)
              refine ⟨_, rfl, _, rfl, _, rfl, _, _, rfl, rfl, ⟨by decide, by decide⟩, _, _, c2, rfl, rfl, by omega, by omega, (show _ < ((26 : Nat) : Int) by omega), (by rw [hd]; exact hc2), _, _, rfl, rfl, ?_, D, _, _, rfl, rfl, e2, room, ?_⟩
              · show y.length + 1 ≤ sizeLine
                exact small_size (by omega)
              · have l2 : (y ++ (⟨#[c2]⟩ : Str)).length = y.length + 1 := app_len y ⟨#[c2]⟩
                exact done (y ++ ⟨#[c2]⟩) _ _ _ ⟨y1.app (low_one c297), by omega, by omega⟩ (form_ge y5 (by omega) (fun e => by have := hm26 e; omega) (by rw [cs_app, abc_code2 (by omega) hc2]))
        · have Y : NameI (cutS z none (some (cut : Int)) ++ lt) i ∧ BaseF md (cs (cutS z none (some (cut : Int)))) bg st i (cutS z none (some (cut : Int)) ++ lt) := ⟨Y0, .inr ⟨by rw [← hmd, Bool.eq_false_iff.mpr hw, Bool.false_and], by rw [cs_app, ec]⟩⟩
          revert Y
          generalize (cutS z none (some (cut : Int)) ++ lt) = y
          intro Y
          obtain ⟨⟨y1, y2, y3, y4⟩, y5⟩ := Y
          have done : ∀ (u : Str) (x8 x10 x11 : Option V), NameZ u → Form md (cs (cutS z none (some (cut : Int)))) bg st i u → ∃ (zs' : List Str) (x8' x10' x11' : Option V), [some (V.ref b), some (.int (m : Int)), some (.str abc), some (.int (way : Int)), some (.int (cut : Int)), some (.int (bg : Int)), some (.int (st : Int)), some (.str z), x8, some (.ref D), x10, x11] = [some (.ref b), some (.int (m : Int)), some (.str abc), some (.int (way : Int)), some (.int (cut : Int)), some (.int (bg : Int)), some (.int (st : Int)), some (.str z), x8', some (.ref D), x10', x11'] ∧
              upd H2 D (.lst (zs.map V.str ++ [.str u])) D = some (.lst (zs'.map V.str)) ∧ zs'.length = i + 1 ∧ (∀ y ∈ zs', NameZ y) ∧ (∀ (k : Nat) (y : Str), zs'[k]? = some y → Form md (cs (cutS z none (some (cut : Int)))) bg st k y) ∧ BoxAt (upd H2 D (.lst (zs.map V.str ++ [.str u]))) b (n + 11) ∧ But b H (upd H2 D (.lst (zs.map V.str ++ [.str u]))) := fun u x8 x10 x11 hu hu2 => by
            refine ⟨zs ++ [u], x8, x10, x11, rfl, ?_, ?_, fun v hv => ?_, form_app hlz hf hu2, box_upd B2 nD, but_upd k2 fD⟩
            · rw [upd_same, List.map_append]
              rfl
            · rw [List.length_append, hlz]
              rfl
            · rcases List.mem_append.mp hv with hv | hv
              · exact hy v hv
              · rw [List.mem_singleton.mp hv]
                exact hu
          have room : (zs.map V.str).length < sizeLine := by
            rw [List.length_map]
            exact small1000 (by omega)
          refine ⟨_, rfl, .inl ⟨rfl, _, .of e2⟩, _, rfl, _, _, rfl, rfl, _, rfl, ite2 (fun h26 => ?_) (fun h26 => ?_)⟩
          · exact ⟨_, rfl, D, _, _, rfl, rfl, e2, room, done y _ _ _ ⟨y1, y2, y3⟩ (form_lt y5 (by have := of_decide_eq_true h26; omega))⟩
          · have h26' : ¬ ((0 + (i : Int)) < 26) := fun h => h26 (decide_eq_true h)
            have yl := y4 (by omega)
            have hd : (0 + (i : Int)) / 26 = ((i / 26 : Nat) : Int) := by omega
            obtain ⟨c2, hc2, c297⟩ := abc_at (j := i / 26) (by omega)
            refine ⟨_, rfl, _, rfl, _, rfl, _, _, rfl, rfl, ⟨by decide, by decide⟩, _, _, c2, rfl, rfl, by omega, by omega, (show _ < ((26 : Nat) : Int) by omega), (by rw [hd]; exact hc2), _, _, rfl, rfl, ?_, D, _, _, rfl, rfl, e2, room, ?_⟩
            · show y.length + 1 ≤ sizeLine
              exact small_size (by omega)
            · have l2 : (y ++ (⟨#[c2]⟩ : Str)).length = y.length + 1 := app_len y ⟨#[c2]⟩
              exact done (y ++ ⟨#[c2]⟩) _ _ _ ⟨y1.app (low_one c297), by omega, by omega⟩ (form_ge y5 (by omega) (fun e => by have := hm26 e; omega) (by rw [cs_app, abc_code2 (by omega) hc2]))
      · rintro σ H2 ⟨zs, x8, x10, x11, rfl, e2, hlz, hy, hf, B2, k2⟩
        exact ⟨_, rfl, q D H2 zs hlz hy (form_nodup hcop hf (by omega)) fD e2 (B2.mono (by omega)) k2⟩
    obtain ⟨tl, pl, ql⟩ : ∃ t, PSs (cxOf CX0 P w K mg base nNames "_law_names" (defScope sNames) f cdv A outer s H E).nox ((defBody sNames).drop 2) t ∧
        ∀ (way cut bg : Nat) (H1 : Hp), cut ≤ 7 → (26 < m → cut ≤ 6) → bg < 26 → BoxAt H1 b (n + 3) → But b H H1 → t { nx := fun _ H' => Q .non H', rt := Q } [some (.ref b), some (.int (m : Int)), some (.str abc), some (.int (way : Int)), some (.int (cut : Int)), some (.int (bg : Int)), none, none, none, none, none, none] H1 := by
      refine ⟨_, pss_cons (ps_asg (pe_tup (pa_cons (pe_ix ix_list (pe_lst (pa_cons pe_int (pa_cons pe_int (pa_cons pe_int (pa_cons pe_int (pa_cons pe_int (pa_cons pe_int (pa_cons pe_int (pa_cons pe_int pa_nil)))))))))
          (pe_call GT hr1 rfl gT T.kp bT .nil pass0 (pa_cons (pv 0) (pa_cons pe_int pa_nil))) (fun _ _ => rfl)) (pa_cons pe_str pa_nil)))
        (pg_tup (by rfl) (pgs_cons (pg_name (i := 6) scNames.nd rfl (.inl rfl)) (pgs_cons (pg_name (i := 7) scNames.nd rfl (.inr rfl)) pgs_nil))))
      (pss_cons (ps_for PassesOwn.never rfl (pi_range1 rfl mr (pa_cons pe_int pa_nil)) (pg_name (i := 8) scNames.nd rfl (.inl rfl))
        (pss_one (ps_set (i := 7) scNames.nd rfl (.inr rfl) (pe_op op_add_str (pv 7) (pe_item_str (pv 2) (pe_call GT hr1 rfl gT T.kp bT .nil pass0 (pa_cons (pv 0) (pa_cons pe_int pa_nil))) (fun _ _ => rfl))))))
      (pss_cons (ps_if (PW.pt (pw_and (pt_cmpR op_eq (pv 3) pe_int (nomark _)) (pw_and1 (pt_cmpR op_lt (pv 1) pe_int (nomark _)))))
        (pss_one (ps_ret (pe_call GM hr rfl gM M.kp bM .nil pass0 (pa_cons (pv 0) (pa_cons (pe_lc (own := [("_law_k", 8)]) (g := gName 8) (tt := tYes) (by rfl) scNames.nd (pi_range1 rfl mr (pa_cons (pv 1) pa_nil))
          (blkOk_by (own := [("_law_k", 8)]) (N := nNames) (sc := defScope sNames) (by decide +kernel)) (fun _ _ _ _ _ => pg_name (i := 8) scNames.nd rfl (.inl rfl)) (fun _ _ _ _ _ => pts_nil)
          (fun _ _ _ _ _ => pe_slice sl_str (pe_op op_add_str (pv 7) (pe_item_str (pv 2) (pv 5) (fun _ _ => rfl))) po_none (po_some (pe_op op_add (pv 8) pe_int)))) pa_nil))))) pss_nil)
      psl)), ?_⟩
      intro way cut bg H1 hcut hcut2 hbg B1 k1
      refine ⟨(by show 8 ≤ sizeLine; decide), fun p1 hp1 => ?_⟩
      have np1 := box_ne B1 hp1
      refine ⟨_, rfl, b, 8, n + 3, rfl, box_new B1 hp1, by omega, by decide, by decide, fun r H2 r0 r1 B2 k2 => ?_⟩
      obtain ⟨j, rfl, hj⟩ := draw_at (n := 8) r0 r1 rfl
      have e2 := k2 _ _ np1 upd_same
      have kk2 : But b H H2 := (k1.trans (But.new hp1)).trans k2
      obtain ⟨st, hst, hst17⟩ : ∃ st : Nat, ([.int 1, .int 3, .int 5, .int 7, .int 9, .int 11, .int 15, .int 17] : List V)[j]? = some (.int (st : Int)) ∧ Cop st := by
        match j, hj with
        | 0, _ => exact ⟨1, rfl, by unfold Cop; decide⟩
        | 1, _ => exact ⟨3, rfl, by unfold Cop; decide⟩
        | 2, _ => exact ⟨5, rfl, by unfold Cop; decide⟩
        | 3, _ => exact ⟨7, rfl, by unfold Cop; decide⟩
        | 4, _ => exact ⟨9, rfl, by unfold Cop; decide⟩
        | 5, _ => exact ⟨11, rfl, by unfold Cop; decide⟩
        | 6, _ => exact ⟨15, rfl, by unfold Cop; decide⟩
        | 7, _ => exact ⟨17, rfl, by unfold Cop; decide⟩
      refine ⟨p1, _, _, .int (st : Int), rfl, rfl, .of e2, atI_nat hst, (by show 2 ≤ sizeLine; decide), fun p2 hp2 => ?_⟩
      have np2 := box_ne B2 hp2
      refine ⟨p2, _, rfl, .of upd_same, rfl, _, _, rfl, _, _, rfl, rfl, ?_⟩
      have B3 : BoxAt (upd H2 p2 (.tup [.int (st : Int), .str ""])) b (n + 4) := box_new B2 hp2
      have k3 : But b H (upd H2 p2 (.tup [.int (st : Int), .str ""])) := kk2.trans (But.new hp2)
      generalize upd H2 p2 (.tup [.int (st : Int), .str ""]) = H3 at B3 k3
      -- the stem
      refine ⟨_, rfl, by decide, by decide, ?_⟩
      refine for_range (lo := 0) (n := 7) (fun i σ H4 => ∃ (z : Str) (x8 : Option V), σ = [some (.ref b), some (.int (m : Int)), some (.str abc), some (.int (way : Int)), some (.int (cut : Int)), some (.int (bg : Int)), some (.int (st : Int)), some (.str z), x8, none, none, none] ∧ LowZ z ∧ z.length = i ∧ BoxAt H4 b (n + 4 + i) ∧ But b H H4) ?_ ?_ ?_
      · exact ⟨"", none, rfl, (fun c h => nomatch h), rfl, B3, k3⟩
      · rintro i σ H4 hi ⟨z, x8, rfl, hz, hl, B4, k4⟩
        refine ⟨_, rfl, _, rfl, _, rfl, b, 26, n + 4 + i, rfl, B4, by omega, by decide, by decide, fun r H5 r0 r1 B5 k5 => ?_⟩
        obtain ⟨j, rfl, hj⟩ := draw_at (n := 26) r0 r1 rfl
        obtain ⟨c, hc, c97⟩ := abc_at hj
        refine ⟨_, _, c, rfl, rfl, by omega, by omega, (show ((j : Nat) : Int) < ((26 : Nat) : Int) by omega), hc, ?_⟩
        refine ⟨_, _, rfl, rfl, ?_, ?_⟩
        · show z.length + 1 ≤ sizeLine
          rw [sizeLine_eq]
          omega
        · refine ⟨z ++ ⟨#[c]⟩, _, rfl, hz.app (low_one c97), ?_, B5, k4.trans k5⟩
          rw [app_len, hl]
          rfl
      · rintro σ H4 ⟨z, x8, rfl, hz, hl, B4, k4⟩
        -- from here on two ways
        have namesOf : ∀ (zs : List Str) (qs : List Vd), qs.Perm (zs.map fun z => (V.str z, PyData.str z)) → (∀ z ∈ zs, NameZ z) →
            ∃ ys : List Str, qs.map (·.1) = ys.map V.str ∧ ys.length = zs.length ∧ ∀ y ∈ ys, NameZ y := fun zs qs pm hz => by
          have each : ∀ x ∈ qs, ∃ y, x = (V.str y, PyData.str y) ∧ NameZ y := fun x hx => by
            obtain ⟨y, hy, e⟩ := List.mem_map.mp (pm.mem_iff.mp hx)
            exact ⟨y, e.symm, hz y hy⟩
          have hlen : qs.length = zs.length := by
            rw [pm.length_eq, List.length_map]
          rw [← hlen]
          clear pm hlen
          induction qs with
          | nil => exact ⟨[], rfl, rfl, fun y hy => nomatch hy⟩
          | cons x qs ih =>
            obtain ⟨y, rfl, hy⟩ := each x List.mem_cons_self
            obtain ⟨ys, e1, e2, e3⟩ := ih fun x hx => each x (List.mem_cons_of_mem _ hx)
            refine ⟨y :: ys, ?_, congrArg (· + 1) e2, fun u hu => ?_⟩
            · rw [List.map_cons, e1]
              rfl
            · rcases List.mem_cons.mp hu with rfl | hu
              · exact hy
              · exact e3 u hu
        have mInt : (m : Int).toNat = m := Int.toNat_natCast m
        refine ⟨_, rfl, rfl, _, rfl, ite2 (fun _ => ?_) (fun _ => ?_)⟩
        · refine ⟨_, rfl, _, _, rfl, rfl, _, rfl, ite2 (fun h9 => ?_) (fun _ => ?_)⟩
          · have hm9 : (m : Int) < 9 := of_decide_eq_true h9
            refine ⟨_, rfl, _, rfl, _, rfl, by omega, by omega, fun D hD => ?_⟩
            have nD := box_ne B4 hD
            have fD := free_of k4 nD hD
            rw [mInt]
            refine lc_range (lo := 0) (n := m) (fun i H5 => ∃ ys : List Str, H5 D = some (.lst (ys.map V.str)) ∧ ys.length = i ∧ (∀ y ∈ ys, NameZ y) ∧ (∀ (k : Nat) (y : Str), ys[k]? = some y → y.length = k + 1) ∧ BoxAt H5 b (n + 11) ∧ But b H H5) ?_ ?_ ?_
            · exact ⟨[], upd_same, rfl, (fun y h => nomatch h), (fun k y h => by simp at h), box_new B4 hD, but_upd k4 fD⟩
            · rintro i H5 hi ⟨ys, e5, hl5, hy, hf5, B5, k5⟩
              refine ⟨rfl, ?_⟩
              unfold tYes
              dsimp only
              rw [if_pos rfl]
              obtain ⟨c, hc, c97⟩ := abc_at hbg
              refine ⟨_, rfl, _, rfl, _, rfl, _, _, c, rfl, rfl, by omega, by omega, (show ((bg : Nat) : Int) < ((26 : Nat) : Int) by omega), hc, _, _, rfl, rfl, ?_, ?_⟩
              · show z.length + 1 ≤ sizeLine
                rw [sizeLine_eq]
                omega
              have lz : (z ++ ⟨#[c]⟩).length = 8 := by
                rw [app_len, hl]
                rfl
              refine ⟨_, rfl, _, _, rfl, rfl, _, rfl, _, rfl, small_size (by omega), ?_⟩
              have e0 : (0 + (i : Int) + 1 : Int) = ((i + 1 : Nat) : Int) := by omega
              rw [e0]
              have cl := cut_len (z ++ ⟨#[c]⟩) (i + 1)
              refine ⟨_, e5, ?_, ys ++ [cutS (z ++ ⟨#[c]⟩) none (some ((i + 1 : Nat) : Int))], ?_, ?_, ?_, form_app (G := fun k y => y.length = k + 1) hl5 hf5 (by show (cutS (z ++ ⟨#[c]⟩) none (some ((i + 1 : Nat) : Int))).length = i + 1; omega), ?_, ?_⟩
              · rw [List.length_map]
                exact small1000 (by omega)
              · rw [upd_same, List.map_append]
                rfl
              · rw [List.length_append, hl5]
                rfl
              · intro y h
                rcases List.mem_append.mp h with h | h
                · exact hy y h
                · rw [List.mem_singleton.mp h]
                  exact ⟨(hz.app (low_one c97)).cut _ _, by omega, by omega⟩
              · exact box_upd B5 nD
              · exact but_upd k5 fD
            · rintro H5 ⟨ys, e5, hl5, hy, hf5, B5, k5⟩
              refine ⟨b, D, n + 11, ys.map fun z => (V.str z, PyData.str z), rfl, B5, ?_, .inl (.of ?_), ?_, fun p H6 qs pm np e6 B6 k6 => ?_⟩
              · rw [List.length_map]
                omega
              · rw [e5, List.map_map]
                rfl
              · intro x hx
                obtain ⟨y, hyy, rfl⟩ := List.mem_map.mp hx
                exact ⟨(hy y hyy).1.lay, fun H' _ => .str y⟩
              · obtain ⟨us, u1, u2, u3⟩ := namesOf ys qs pm hy
                rw [u1] at e6
                rw [List.length_map, hl5] at B6
                exact q p H6 us (u2.trans hl5) u3 (perm_nodup pm u1 (len_nodup hf5)) (free_of k5 (box_ne B5 np) np) e6 B6 (k5.trans k6)
          · exact qsl way cut bg st z x8 H4 hcut hcut2 hbg hst17 hz hl B4 k4
        · exact qsl way cut bg st z x8 H4 hcut hcut2 hbg hst17 hz hl B4 k4
    refine ⟨_, pss_cons (ps_set (i := 2) scNames.nd rfl (.inr rfl) pe_str)
      (pss_cons (ps_asg (pe_tup (pa_cons (pe_call GT hr1 rfl gT T.kp bT .nil pass0 (pa_cons (pv 0) (pa_cons pe_int pa_nil)))
          (pa_cons (pe_call GT hr1 rfl gT T.kp bT .nil pass0 (pa_cons (pv 0) (pa_cons (pe_ifExp (pt_cmpR op_lt (pv 1) pe_int (nomark _)) pe_int pe_int) pa_nil)))
          (pa_cons (pe_call GT hr1 rfl gT T.kp bT .nil pass0 (pa_cons (pv 0) (pa_cons pe_int pa_nil))) pa_nil))))
        (pg_tup (by rfl) (pgs_cons (pg_name (i := 3) scNames.nd rfl (.inl rfl)) (pgs_cons (pg_name (i := 4) scNames.nd rfl (.inl rfl)) (pgs_cons (pg_name (i := 5) scNames.nd rfl (.inr rfl)) pgs_nil))))) pl), ?_⟩
    refine ⟨_, rfl, b, 4, n, rfl, B, by omega, by decide, by decide, fun way H1 w0 w1 B1 k1 => ?_⟩
    obtain ⟨way, rfl, _⟩ := draw_at (n := 4) w0 w1 rfl
    refine ⟨_, rfl, _, rfl, _, _, rfl, rfl, _, rfl, ite2 (fun hm27 => ?_) (fun hm27 => ?_)⟩
    · refine ⟨b, 8, n + 1, rfl, B1, by omega, by decide, by decide, fun cut H2 c0 c1 B2 k2 => ?_⟩
      obtain ⟨cut, rfl, hcut⟩ := draw_at (n := 8) c0 c1 rfl
      refine ⟨_, rfl, b, 26, n + 2, rfl, B2, by omega, by decide, by decide, fun bg H3 g0 g1 B3 k3 => ?_⟩
      obtain ⟨bg, rfl, hbg⟩ := draw_at (n := 26) g0 g1 rfl
      refine ⟨(by show 3 ≤ sizeLine; decide), fun p hp => ⟨p, _, rfl, .of upd_same, rfl, _, _, rfl, _, _, rfl, _, _, rfl, rfl, ?_⟩⟩
      have hm' : (m : Int) < 27 := of_decide_eq_true hm27
      exact ql way cut bg _ (by omega) (by omega) hbg (box_new B3 hp) (((k1.trans k2).trans k3).trans (But.new hp))
    · refine ⟨b, 7, n + 1, rfl, B1, by omega, by decide, by decide, fun cut H2 c0 c1 B2 k2 => ?_⟩
      obtain ⟨cut, rfl, hcut⟩ := draw_at (n := 7) c0 c1 rfl
      refine ⟨_, rfl, b, 26, n + 2, rfl, B2, by omega, by decide, by decide, fun bg H3 g0 g1 B3 k3 => ?_⟩
      obtain ⟨bg, rfl, hbg⟩ := draw_at (n := 26) g0 g1 rfl
      refine ⟨(by show 3 ≤ sizeLine; decide), fun p hp => ⟨p, _, rfl, .of upd_same, rfl, _, _, rfl, _, _, rfl, _, _, rfl, rfl, ?_⟩⟩
      exact ql way cut bg _ (by omega) (by omega) hbg (box_new B3 hp) (((k1.trans k2).trans k3).trans (But.new hp))
end
end G
set_option Elab.async false
set_option linter.all false
set_option maxRecDepth 100000
set_option maxHeartbeats 4000000
/-! SH3: drawn answers. -/
namespace G
open PySem PySem.Spec PyProof.Rows L2 NdefX DvT
abbrev sFullL : Stmt := topS 47
theorem scFullL : FnScope ["_law_answer"] ["_law_answer"] (defScope sFullL) := ⟨rfl, rfl, rfl, by decide +kernel, rfl, by decide +kernel, by decide +kernel⟩
theorem perm_map_inv {α β : Type} {f : α → β} : ∀ {xs zs : List β}, xs.Perm zs → ∀ as : List α, zs = as.map f → ∃ us : List α, xs = us.map f ∧ us.Perm as := by
  intro xs zs h
  induction h with
  | nil =>
    intro as e
    cases as with
    | nil => exact ⟨[], rfl, .nil⟩
    | cons a as => cases e
  | cons x _ ih =>
    intro as e
    cases as with
    | nil => cases e
    | cons a as =>
      injection e with e1 e2
      obtain ⟨us, rfl, p⟩ := ih as e2
      exact ⟨a :: us, by rw [e1]; rfl, p.cons a⟩
  | swap x y l =>
    intro as e
    match as, e with
    | a :: b :: as, e =>
      injection e with e1 e2
      injection e2 with e2 e3
      exact ⟨b :: a :: as, by rw [e1, e2, e3]; rfl, .swap a b as⟩
  | trans _ _ ih1 ih2 =>
    intro as e
    obtain ⟨us, e1, p1⟩ := ih2 as e
    obtain ⟨vs, e2, p2⟩ := ih1 us e1
    exact ⟨vs, e2, p2.trans p1⟩
/-- answers in a dict, by the rows ys -/
structure FewAt (H : Hp) (d : Addr) (kvs : List (Key × V)) (ys : List Str) (an : Str → List Int) : Prop where
  d : H d = some (.dK kvs)
  keys : kvs.map (·.1) = ys.map Sum.inr
  is : ∀ q ∈ kvs, ∃ z ∈ ys, q.1 = Sum.inr z ∧ AnsAt H q.2 (an z)
theorem valV_mem {κ : Type} [DecidableEq κ] {k : κ} : ∀ {kvs : List (κ × V)}, k ∈ kvs.map (·.1) → ∃ v, valV kvs k = some v ∧ (k, v) ∈ kvs
  | [], h => nomatch h
  | p :: kvs, h => by
    by_cases e : p.1 = k
    · exact ⟨p.2, valV_pos e, by rw [← e]; exact List.mem_cons_self⟩
    · rcases List.mem_cons.mp h with z | z
      · exact (e z.symm).elim
      · obtain ⟨v, e1, e2⟩ := valV_mem (kvs := kvs) z
        exact ⟨v, (valV_neg e).trans e1, List.mem_cons_of_mem _ e2⟩
theorem valV_not_mem {κ : Type} [DecidableEq κ] {k : κ} : ∀ {kvs : List (κ × V)}, k ∉ kvs.map (·.1) → valV kvs k = none
  | [], _ => rfl
  | p :: kvs, h => by
    have e : ¬ p.1 = k := fun z => h (by rw [← z]; exact List.mem_cons_self)
    exact (valV_neg e).trans (valV_not_mem fun z => h (List.mem_cons_of_mem _ z))
theorem FewAt.ans {H : Hp} {d : Addr} {kvs : List (Key × V)} {ys zs : List Str} {an : Str → List Int} (h : FewAt H d kvs ys an) (sub : ∀ z ∈ zs, z ∈ ys) : AnsOf H d kvs zs an :=
  ⟨h.d, fun z hz => by
    have m : (Sum.inr z : Key) ∈ kvs.map (·.1) := by
      rw [h.keys]
      exact List.mem_map.mpr ⟨z, sub z hz, rfl⟩
    obtain ⟨v, e1, e2⟩ := valV_mem m
    obtain ⟨z', _, e3, a⟩ := h.is _ e2
    have e4 : z = z' := Sum.inr.inj e3
    rw [← e4] at a
    exact ⟨v, e1, a⟩⟩
theorem FewAt.same {H H' : Hp} {d : Addr} {kvs : List (Key × V)} {ys : List Str} {an : Str → List Int} (h : FewAt H d kvs ys an) (s : Same H H') : FewAt H' d kvs ys an :=
  ⟨s _ _ h.d, h.keys, fun q hq => let ⟨z, m, e, a⟩ := h.is q hq; ⟨z, m, e, a.same s⟩⟩
theorem tup_ne {H : Hp} {b a : Addr} {n : Nat} {xs : List V} (B : BoxAt H b n) (e : H a = some (.tup xs)) : a ≠ b := fun z => by
  obtain ⟨_, _, _, eb, _⟩ := B
  rw [z, eb] at e
  cases e
theorem lst_ne {K : PySem.W.Frag} {H : Hp} {b a : Addr} {n : Nat} {zs : List Str} (B : BoxAt H b n) (e : H a = some (.lst (zs.map V.str))) : a ≠ b := fun z => by
  obtain ⟨_, _, _, eb, _⟩ := B
  rw [z, eb] at e
  cases zs with
  | nil => cases e
  | cons y ys => cases e
theorem sqL_box {K : PySem.W.Frag} {H H' : Hp} {b a : Addr} {n : Nat} {zs : List Str} (k : But b H H') (B : BoxAt H b n) : SqL K H a (zs.map V.str) → SqL K H' a (zs.map V.str)
  | .inl (.inl h) => .inl (.inl (k _ _ (lst_ne (K := K) B h) h))
  | .inl (.inr ⟨o, h⟩) => .inl (.inr ⟨o, k _ _ (fun z => by
      obtain ⟨_, _, _, eb, _⟩ := B
      rw [z, eb] at h
      cases h) h⟩)
  | .inr h => .inr h
theorem nodup_take {ys : List Str} {i : Nat} {z : Str} (nd : ys.Nodup) (hz : ys[i]? = some z) : z ∉ ys.take i := fun h => by
  obtain ⟨k, hk, e⟩ := List.mem_iff_getElem.mp h
  rw [List.length_take] at hk
  rw [List.getElem_take] at e
  obtain ⟨hi, ei⟩ := List.getElem?_eq_some_iff.mp hz
  have := (List.getElem_inj (i := k) (j := i) (h₀ := by omega) (h₁ := hi) nd).mp (e.trans ei.symm)
  omega
def Small (H : Hp) (v : V) : Prop := ∃ ns, AnsAt H v ns
theorem small_int {H : Hp} {i : Int} (h : OkI i) : Small H (.int i) := ⟨[i], .inl ⟨i, rfl, rfl⟩, fun n hn => by
  rw [List.mem_singleton.mp hn]
  exact h⟩
theorem small_tup {H : Hp} {t : Addr} {ns : List Int} (e : H t = some (.tup (ns.map V.int))) (l1 : 1 ≤ ns.length) (l3 : ns.length ≤ 3) (h : ∀ n ∈ ns, OkI n) : Small H (.ref t) := ⟨ns, .inr ⟨t, rfl, e, l1, l3⟩, h⟩
theorem Small.same {H H' : Hp} {v : V} (h : Small H v) (s : Same H H') : Small H' v := let ⟨ns, a⟩ := h; ⟨ns, a.same s⟩
theorem Small.at {H H' : Hp} {v : V} (h : Small H v) (k : ∀ a xs, H a = some (.tup xs) → H' a = some (.tup xs)) : Small H' v := let ⟨ns, a⟩ := h; ⟨ns, a.at k⟩
theorem ok_all {ns : List Int} (h : ns.all (fun n => decide (-9999 ≤ n) && decide (n ≤ 9999)) = true) : ∀ n ∈ ns, OkI n := fun n hn => by
  have := List.all_eq_true.mp h n hn
  simp only [Bool.and_eq_true, decide_eq_true_eq] at this
  exact this
def spFullL (K : PySem.W.Frag) : Sp := fun vs H Q _ => ∃ (v : V) (ns : List Int), vs = [v] ∧ AnsAt H v ns ∧ ∀ (T : Addr) (H' : Hp), Same H H' → H' T = some (.tup (ns.map V.int)) → Q (.ref T) H'
section
variable {P : Program} {w : World} {K : PySem.W.Frag} {mg : Str → Option Value} {base : Heap}
theorem ok_fullL {f : Addr} {fd : FuncData} (F : Fun K "_law_full" "_law_full" sFullL f fd) (mi : mg "isinstance" = none) (mt : mg "tuple" = none) : FnOk P w K mg base CX0 1 f fd ["_law_answer"] (spFullL K) := by
  refine F.ok scFullL (fun vs H Q E h => ?_) (fun cdv A outer s H vs Q E hr h => ?_)
  · obtain ⟨v, ns, rfl, _⟩ := h
    rfl
  · obtain ⟨v, ns, rfl, ⟨k, ok⟩, q⟩ := h
    refine ⟨_, pss_one (ps_ret (pe_ifExp (pt_val (pt_isi "tuple" (pv 0) (hm := mi) (mn := mt))) (pv 0) (pe_tup (pa_cons (pv 0) pa_nil)))), ?_⟩
    rcases k with ⟨i, rfl, rfl⟩ | ⟨a, rfl, ha, l1, l3⟩
    · have hR : Rp K H (.int i) (.int i) := .int i
      refine ⟨_, rfl, _, _, _, _, _, rfl, .ty _, rp_ty hR, kit_t (.int i), _, rfl, iteF ?_⟩
      exact ⟨_, rfl, (by show 1 ≤ sizeLine; decide), fun T hT => q T _ (Same.new hT) upd_same⟩
    · have hR : Rp K H (.ref a) (.tuple (ns.map PyData.int)) := .tup ha (rpAll_ints ns)
      refine ⟨_, rfl, _, _, _, _, _, rfl, .ty _, rp_ty hR, kit_t (.tuple (ns.map PyData.int)), _, rfl, iteT ?_⟩
      exact ⟨_, rfl, q a H (Same.refl H) ha⟩
end
end G
set_option Elab.async false
set_option linter.all false
set_option maxRecDepth 100000
set_option maxHeartbeats 2000000
/-! SK1: sorted(xs, key=f) of a list or a tuple over the heap; the call of a lambda whose body is d[a]. -/
namespace SkL
open PySem PySem.Spec PyProof.Rows L2 LamX PySem.W
section
variable {prog : Program} {w : World} {A : Around} {E : Value → Shared → Prop} {s : Shared} {β : Type} {vs : List Value} {bs : List β} {R : Value → β → Prop}
/-- the items of a list or a tuple, taken into a new list: so much the heap grows -/
theorem collect_sized {Q : List Value → Shared → Prop} {it : Addr} {T : String} {o : Obj} {items : Array Value} {n : Nat} (hT : T = "list" ∨ T = "tuple") (ho : s.heap.get? it = some o) (hc : o.cls = .type T) (hd : o.data = .seq items n) (hsz : items.size ≤ sizeLine)
    (hQ : ∀ h', h'.objs.size = s.heap.objs.size + 1 → (∀ b u, s.heap.get? b = some u → h'.get? b = some u) → Q items.toList { s with heap := h' }) : wpAny (model prog w) A (collect (.ref it)) Q E s := by
  let g : Heap := s.heap.push { cls := .type "list", data := .seq ([] : List Value).toArray }
  let g2 : Heap := g.update s.heap.objs.size (Obj.mapSeq (· ++ items))
  have new : g.get? s.heap.objs.size = some { cls := .type "list", data := .seq #[] 0 } := Heap.get?_push_size _ rfl
  have put := Heap.get?_update_self (Obj.mapSeq (· ++ items)) new rfl
  have size2 : g2.objs.size = s.heap.objs.size + 1 := by
    show (g.update _ _).objs.size = _
    rw [Heap.size_update, Heap.size_push]
  have keep2 : ∀ b u, s.heap.get? b = some u → g2.get? b = some u := fun b u e => (Heap.get?_update_other _ _ (Nat.ne_of_gt (Heap.lt_size e))).trans (Heap.get?_push_of_some _ e)
  have last : wpAny (model prog w) A (load s.heap.objs.size >>= fun o => match o.data with
      | .seq xs _ => pure xs.toList
      | _ => unsupported "internal:collect") Q E { s with heap := g2 } := by
    refine wpAny_bind (wpAny_load put (wpAny_pure ?_))
    rw [show ((#[] : Array Value) ++ items).toList = items.toList from by simp]
    exact hQ g2 size2 keep2
  unfold collect
  refine wpAny_bind (wpAny_runValue (codeAny_builtin PySem.F.entry_proto_collect ?_))
  rw [Around.under_plainId PySem.F.plain_proto_collect _]
  show wpAny _ A.in1 (newList [] >>= fun l => again (.builtin "list.__iadd__" ⟨[l, .ref it], []⟩)) _ _ s
  refine wpAny_bind (wpAny_newObj_type (wpAny_pure ⟨plainId_quiet PySem.F.plain_list_iadd _, codeAny_builtin PySem.F.entry_list_iadd ?_⟩))
  rw [Around.under_plainId PySem.F.plain_list_iadd _]
  show wpAny _ A.in1 (Builtin.List.listExtendWith (.ref s.heap.objs.size) (.ref it) (.ref s.heap.objs.size)) _ _ { s with heap := g }
  refine wpAny_mono (wpAny_extend_seq (hsz := hsz) (A := A) (R := fun r s' => r = .ok (.ret (.ref s.heap.objs.size)) ∧ s' = { s with heap := g2 }) (s := { s with heap := g }) _ it _ 0 hT new (Heap.get?_push_of_some _ ho) hc hd ⟨rfl, rfl⟩) (fun fin s' h => ?_) fun e s' h => absurd h.1 (by simp)
  cases fin with
  | done f =>
    obtain ⟨e, rfl⟩ := h
    cases e
    exact last
  | again c' =>
    refine ⟨h.1, codeAny_mono h.2 fun r s'' hr => ?_⟩
    obtain ⟨rfl, rfl⟩ := hr
    exact last
/-- sorted(xs, key=f), xs a list or a tuple -/
theorem sorted_key_seq {l : Addr} {o : Obj} {n : Nat} {T : String} {f : Value} {kw : List (Str × Value)} {Q : Value → Shared → Prop} (k : β → PyData) (hT : T = "list" ∨ T = "tuple") (ho : s.heap.get? l = some o) (hc : o.cls = .type T) (hd : o.data = .seq vs.toArray n)
    (e : EachIs R vs bs) (hal : AllAlike (bs.map k)) (hk : Sortable (bs.map k)) (hL : bs.length ≤ sizeLine)
    (hu : ∀ x, x ∈ bs → A.units + 2 + (k x).depth < cLine) (ha1 : argsOk "sorted" ⟨[.ref l], kw⟩) (ha2 : ∀ x, argsOk "list.sort" ⟨[.ref x], kw⟩) (ht : ∀ x, Builtin.«list.sort» ⟨[.ref x], kw⟩ = ksk_tree x f false)
    (turn : ∀ (v : Value) (x : β), R v x → x ∈ bs → ∀ (h : Heap) (tk : Nat), (∀ b o, s.heap.get? b = some o → h.get? b = some o) →
      wpAny (model prog w) A.in1.in1 (call f [v]) (KeyPure (k x) { s with heap := h, toks := tk }) (fun _ _ => False) { s with heap := h, toks := tk })
    (h : ∀ p out c h' tk, s.heap.objs.size ≤ p → (∀ b o, s.heap.get? b = some o → h'.get? b = some o) → h'.get? p = some (seqObj "list" (List.toArray out) c) → out.length = bs.length → EachIs R out (bs.mergeSort (dataLe false k)) →
      Q (.ref p) { s with heap := h', toks := tk }) :
    wpAny (model prog w) A (call (.builtin "sorted") [.ref l] kw) Q E s := by
  have hlen : vs.length ≤ sizeLine := by rw [e.length]; exact hL
  refine call_function_entry_kw kind_sorted plain_sorted entry_sorted ha1 ?_
  unfold Builtin.«sorted»
  refine wpAny_bind (m := checkCount "sorted" 1 1 _) (wpAny_pure ?_)
  refine wpAny_bind (collect_sized hT ho hc hd (by rw [List.size_toArray]; exact hlen) fun h1 z1 k1 => ?_)
  refine wpAny_bind (wpAny_newList ?_ hlen)
  have k2 : ∀ b u, s.heap.get? b = some u → (h1.push (seqObj "list" vs.toArray 0)).get? b = some u := fun b u q => Heap.get?_push_of_some _ (k1 b u q)
  have at1 : (h1.push (seqObj "list" vs.toArray 0)).get? h1.objs.size = some (seqObj "list" vs.toArray 0) := Heap.get?_push_size _ rfl
  have le1 : s.heap.objs.size ≤ h1.objs.size := by omega
  refine wpAny_bind (wpAny_holding (wpAny_call_entry_kw slot_list_sort ⟨_, at1, rfl⟩ entry_list_sort ?body (ha2 _)))
  case body =>
    show wpAny (model prog w) A.in1.in1 (Builtin.«list.sort» ⟨[.ref h1.objs.size], kw⟩) _ _ { s with heap := h1.push (seqObj "list" vs.toArray 0) }
    rw [ht]
    have up : ∀ {g : Heap}, KeepsBut h1.objs.size (h1.push (seqObj "list" vs.toArray 0)) g → ∀ b u, s.heap.get? b = some u → g.get? b = some u := fun {g} kp b u q =>
      kp b u (Nat.ne_of_lt (Nat.lt_of_lt_of_le (Heap.lt_size q) le1)) (k2 b u q)
    refine keyH_tree (b := false) (kz := bs.map k) (s := { s with heap := h1.push (seqObj "list" vs.toArray 0) }) at1 (by rw [List.length_map]; exact e.length.symm) hlen hal hk (bound_map (A := A.in1.in1) hu)
      (keyH_turns (s := { s with heap := h1.push (seqObj "list" vs.toArray 0) }) e fun v x hR hx g tk kp => turn v x hR hx g tk (up kp)) fun h' tk out c kp hD ko => ?_
    exact ⟨_, rfl, wpAny_pure ⟨_, rfl, h _ out c h' tk le1 (up kp) hD ((ko.length (by rw [List.length_map]; exact e.length.symm)).trans e.length) (keyedOut_each k ko e)⟩⟩
end
section
variable {P : Program} {w : World} {A : Around} {s : Shared} {f c' cc : Addr} {pm ctv v dv : Value} {params : Arguments} {scope : Scope} {cl : List (Str × Addr)} {q d a : Str} {p1 p2 p3 : Pos} {Q : Value → Shared → Prop}
/-- a lambda's call, its body d[a], d captured -/
theorem sub_call (hd : A.depth < recursionLimit) (lim : s.heap.NoLimit) (hf : s.heap.get? f = some (kla_obj "<lambda>" q params (.Subscript (.Name d p1) (.Name a p2) p3) scope cl pm c' ctv)) (hrec : s.heap.CodeRec (.ref c') q)
    (hk : scope.kind = .function) (co : scope.isCoroutine = false) (gen : scope.isGenerator = false) (nocell : ∀ y ∈ scope.names, y.2 ≠ .cell) (la : scope.names.lookup a = some .local) (ld : scope.names.lookup d = some .free)
    (hb : bindArgs (kla_fn "<lambda>" q params (.Subscript (.Name d p1) (.Name a p2) p3) scope cl pm (.ref c') ctv) ⟨[v], []⟩ = pure [(a, v)])
    (hc : cl.lookup d = some cc) (hcell : s.heap.IsCell cc (some dv)) (h1 : (a == ("__debug__" : Str)) = false) (h2 : (d == ("__debug__" : Str)) = false) (h3 : (d == ("__classdict__" : Str)) = false)
    (h : ∀ h₁ tk, (∀ b o, s.heap.get? b = some o → h₁.get? b = some o) → wpAny (model P w) (A.deeper (envX q scope s.heap.objs.size f (.ref c') cl)) (subscriptTail (.Name d p1) (.Name a p2) dv v) Q (fun _ _ => False) { s with heap := h₁, toks := tk }) :
    wpAny (model P w) A (call (.ref f) [v]) Q (fun _ _ => False) s := by
  refine wpAny_call ?_
  refine kla_callFunE hd hf rfl co gen rfl hrec ?_
  rw [hb]
  refine wpAny_pure (wpAny_newFunctionEnv nocell (fun y hy => ?_) (fun h₁ hns hsb => ⟨lim.fresh _ hsb, ?_⟩) hk)
  · rw [List.mem_singleton.mp hy]
    exact la
  show codeAny _ _ (.expr _ (envX q scope s.heap.objs.size f (.ref c') cl)) _ _
  have kp : ∀ b o, s.heap.get? b = some o → h₁.get? b = some o := fun b o e => hsb.extBut b o (Nat.ne_of_lt (Heap.lt_size e)) (Heap.get?_push_of_some _ e)
  obtain ⟨oc, ho, hdc⟩ := hcell
  refine kla_codeExpr (wpAny_mono (show wpAny _ _ _ Q (fun _ _ => False) _ from ?_) (fun v s' hq => hq) fun e s' (hq : False) => False.elim hq)
  refine Subscript_ (wpAny_Name (wpAny_loadName_free hk ld hc ⟨oc, kp _ _ ho, hdc⟩ (wpAny_Name (wpAny_loadName_local hk la hns (show List.lookup a [(a, v)].reverse = some v from by simp) ?_) h1) h3) h2)
  exact h _ _ kp
end
end SkL
set_option Elab.async false
set_option linter.all false
set_option maxRecDepth 100000
set_option maxHeartbeats 4000000
/-! SK2: sorted(xs, key=lambda a: d[a]), xs a list or a tuple of texts, d a captured dict of tuples of ints. -/
namespace SkL
open PySem PySem.Spec PyProof.Rows L2 LamX PySem.W
/-- a tuple of ints is read -/
theorem reads_ints {h : Heap} : ∀ {ns : List Int} {us : List Value}, Vals (ns.map V.int) us → ReadsAll h us (ns.map .int) []
  | [], _, .nil => .nil
  | n :: ns, _, .cons r rr => by
    obtain ⟨t, rfl⟩ := r
    exact ReadsAll.cons (.int n t) (reads_ints rr)
theorem reads_tup {P : Program} {w : World} {H : Hp} {h : Heap} {t : Addr} {ns : List Int} (ok : HOk P w H h) (e : H t = some (.tup (ns.map V.int))) : Reads h (.ref t) (.tuple (ns.map .int)) [] := by
  obtain ⟨_, us, rv, o, h1, h2, n, h3⟩ := (show ObjOk P w H h t (.tup (ns.map V.int)) from ok t _ e)
  exact .tuple h1 h2 h3 (by simpa using reads_ints rv)
section
variable {P : Program} {w : World} {A : Around} {s : Shared} {f c' cc dd t : Addr} {pm ctv v : Value} {params : Arguments} {scope : Scope} {cl : List (Str × Addr)} {q d a z : Str} {tz : Tok} {p1 p2 p3 : Pos} {H : Hp} {kvs : List (Key × V)} {ns : List Int}
/-- .. of a dict of tuples of ints: the key -/
theorem key_call (hd : A.depth < recursionLimit) (lim : s.heap.NoLimit) (hf : s.heap.get? f = some (kla_obj "<lambda>" q params (.Subscript (.Name d p1) (.Name a p2) p3) scope cl pm c' ctv)) (hrec : s.heap.CodeRec (.ref c') q)
    (hk : scope.kind = .function) (co : scope.isCoroutine = false) (gen : scope.isGenerator = false) (nocell : ∀ y ∈ scope.names, y.2 ≠ .cell) (la : scope.names.lookup a = some .local) (ld : scope.names.lookup d = some .free)
    (hb : bindArgs (kla_fn "<lambda>" q params (.Subscript (.Name d p1) (.Name a p2) p3) scope cl pm (.ref c') ctv) ⟨[.str z tz], []⟩ = pure [(a, .str z tz)])
    (hc : cl.lookup d = some cc) (hcell : s.heap.IsCell cc (some (.ref dd))) (h1 : (a == ("__debug__" : Str)) = false) (h2 : (d == ("__debug__" : Str)) = false) (h3 : (d == ("__classdict__" : Str)) = false) (hs : NoSl (.Name a p2))
    (ok : HOk P w H s.heap) (ed : Rd H dd (.dK kvs)) (ez : valV kvs (Sum.inr z : Key) = some (.ref t)) (et : H t = some (.tup (ns.map V.int))) :
    wpAny (model P w) A (call (.ref f) [.str z tz]) (KeyPure (.tuple (ns.map .int)) s) (fun _ _ => False) s := by
  refine wpAny_call ?_
  refine kla_callFunE hd hf rfl co gen rfl hrec ?_
  rw [hb]
  refine wpAny_pure (wpAny_newFunctionEnv nocell (fun y hy => ?_) (fun h₁ hns hsb => ⟨lim.fresh _ hsb, ?_⟩) hk)
  · rw [List.mem_singleton.mp hy]
    exact la
  show codeAny _ _ (.expr _ (envX q scope s.heap.objs.size f (.ref c') cl)) _ _
  have kp : ∀ b o, s.heap.get? b = some o → h₁.get? b = some o := fun b o e => hsb.extBut b o (Nat.ne_of_lt (Heap.lt_size e)) (Heap.get?_push_of_some _ e)
  obtain ⟨oc, ho, hdc⟩ := hcell
  have ok1 : HOk P w H h₁ := ok.kept kp
  obtain ⟨_, _, vs, rel, dct⟩ := dk_rd ok1 ed
  obtain ⟨w', hw, rw'⟩ := RelO.some_of (v := .ref t) (o := valueAt vs (Sum.inr z : Key)) (by rw [← ez]; exact rel.val _)
  obtain rfl : w' = Value.ref t := rw'
  refine kla_codeExpr (wpAny_mono (show wpAny _ _ _ (KeyPure (.tuple (ns.map .int)) s) (fun _ _ => False) _ from ?_) (fun v s' hq => hq) fun e s' (hq : False) => False.elim hq)
  refine subD_of PySem.F.slot_dict_getitem.lookup hs (wpAny_Name (wpAny_loadName_free hk ld hc ⟨oc, kp _ _ ho, hdc⟩ (wpAny_Name (wpAny_loadName_local hk la hns (show List.lookup a [(a, Value.str z tz)].reverse = some (.str z tz) from by simp) ⟨dct.typeIs, ?_⟩) h1) h3) h2)
  exact wpAny_getItem_of (kV_is (k := Sum.inr z) ⟨tz, rfl⟩) dct.mapOf hw ⟨h₁, _, rfl, kp, reads_tup ok1 et⟩
end
/-- a lambda of one parameter: it, captured names and globals -/
structure LamS1 (sc scope : Scope) (a d : Str) : Prop where
  kind : scope.kind = .function
  co : scope.isCoroutine = false
  gen : scope.isGenerator = false
  nocell : ∀ y ∈ scope.names, y.2 ≠ .cell
  la : scope.names.lookup a = some .local
  ld : scope.names.lookup d = some .free
  free : ∀ y ∈ scope.names, y.2 = .free → sc.names.lookup y.1 = some .cell ∨ sc.names.lookup y.1 = some .free
  own : sc.names.lookup d = some .cell ∨ sc.names.lookup d = some .free
/-- what the keys are -/
def intK (key : Str → List Int) (z : Str) : PyData := .tuple ((key z).map .int)
def sortedBy (key : Str → List Int) (zs : List Str) : List Str := zs.mergeSort (dataLe false (intK key))
theorem vals_strs : ∀ {zs : List Str} {us : List Value}, Vals (zs.map V.str) us → EachIs (fun v z => ∃ t, v = Value.str z t) us zs
  | [], _, .nil => .nil
  | _ :: _, _, .cons r rr => .cons r (vals_strs rr)
theorem strs_vals : ∀ {zs : List Str} {us : List Value}, EachIs (fun v z => ∃ t, v = Value.str z t) us zs → Vals (zs.map V.str) us
  | _, _, .nil => .nil
  | _, _, .cons r rr => .cons r (strs_vals rr)
/-- sorted(xs, key=lambda a: d[a]): d stands in the slot i -/
def tSortL (K : PySem.W.Frag) (T : List (Addr × Str)) (i : Nat) (t : TA) : TE := fun σ H Q => t σ H fun vs H1 => Tabs T H1 ∧ ∃ (l dd : Addr) (zs : List Str) (kvs : List (Key × V)) (key : Str → List Int), vs = [.ref l] ∧ (SqL K H1 l (zs.map V.str) ∨ SqT K H1 l (zs.map V.str)) ∧ σ[i]? = some (some (.ref dd)) ∧ H1 dd = some (.dK kvs) ∧
  zs.length ≤ 900 ∧ (∀ z ∈ zs, key z ≠ [] ∧ ∃ t, valV kvs (Sum.inr z : Key) = some (.ref t) ∧ H1 t = some (.tup ((key z).map V.int))) ∧
  ∀ p H2, ExtN H1 H2 → Tabs T H2 → H2 p = none → Q (.ref p) (upd H2 p (.lst ((sortedBy key zs).map V.str)))
section
variable {X : Cx} {T : List (Addr × Str)} {c P : Addr} {e : Expr} {t : TA} {params : Arguments} {scope : Scope} {a d : Str} {i : Nat} {p pos p1 p2 p3 lp kp : Pos}
theorem pe_sortLam (TB : TabB X.base X.mg c P) (hcode : X.env.code = .ref c) (hm : (P, X.env.qual ++ "<lambda>") ∈ T) (hu : ∀ p ∈ T, p.1 = P → p.2 = X.env.qual ++ "<lambda>") (L : LamS1 X.env.scope scope a d)
    (ha : PA X [e] t) (hg : Gl X "sorted") (hmg : X.mg "sorted" = none) (hr : X.A.units + 4 < cLine) (hdp : X.A.depth + 4 < recursionLimit) (hN : X.N[i]? = some d)
    (hdef : defaultsOf params X.env = ([], [])) (hbd : ∀ (q : Str) (body : Expr) (cl : List (Str × Addr)) (pm cdv ctv v : Value), bindArgs (kla_fn "<lambda>" q params body scope cl pm cdv ctv) ⟨[v], []⟩ = pure [(a, v)])
    (h1 : (a == ("__debug__" : Str)) = false) (h2 : (d == ("__debug__" : Str)) = false) (h3 : (d == ("__classdict__" : Str)) = false) (hs : NoSl (.Name a p2))
    (he1 : backTo pos (starEach [e] X.env) = (false, eval e X.env) :: backTo pos (starEach [] X.env) := by rfl) (hpl : (backTo pos (starEach [e] X.env)).any (·.1) = false := by rfl) :
    PE X (.Call (.Name "sorted" p) [e] [⟨some "key", .Lambda params (.Subscript (.Name d p1) (.Name a p2) p3) scope lp, kp⟩] pos) (tSortL X.K T i t) := by
  refine ⟨fun pins s σ H Q I h => ?_⟩
  refine wpAny_Call_Name_kw (ld_blt I hg hmg (u := .builtin "sorted") (by decide +kernel) ?_)
  refine PyProof.Rows.callWith_kw (thn (ha.run pos pins s σ H _ I h) fun us s1 ⟨vs, H1, I1, r1, q1⟩ => ?_) he1 hpl (by rfl) (by rfl)
  obtain ⟨hT, l, dd, zs, kvs, key, rfl, hseq, hdd, edd, l900, hkeys, q⟩ := q1
  obtain rfl := Vals.ref1 r1
  show wpAny _ _ (evalAll [do let v ← eval (.Lambda params (.Subscript (.Name d p1) (.Name a p2) p3) scope lp) X.env; standAt pos; pure v]) _ _ s1
  have hfree : ∀ y ∈ scope.names, y.2 = .free → ∃ c, X.env.cells.lookup y.1 = some c := fun y hy e => by
    rcases L.free y hy e with k | k
    · exact I1.ok.has _ (.inl k)
    · exact I1.ok.has _ (.inr k)
  refine wpAny_evalAll_cons (wpAny_bind (lam_make2 I1 TB hcode hm hu hT hdef hfree fun f c' pm ctv H2 s2 I2 hE hT2 hf hfn hfr hc' => wpAny_bind (wpAny_standAt (wpAny_pure (wpAny_evalAll_nil ?_)))))
  show wpAny _ _ (call (.builtin "sorted") [.ref l] [(Str.ofString "key", .ref f)]) _ _ s2
  have hf0 := I2.hok c' _ hc'
  obtain ⟨⟨oc, vs, t, hoc, hdc, hvc⟩, _, _⟩ := hf0
  -- the captured name
  obtain ⟨m, hn, hl⟩ := I2.loc
  have vis : Vis X.env.scope d := L.own.elim (fun k => .inr (.inl k)) fun k => .inr (.inr k)
  obtain ⟨w', rw', look⟩ := hl i d (.ref dd) hN hdd vis
  obtain rfl : w' = Value.ref dd := rw'
  obtain ⟨cc, hcc, hcell⟩ : ∃ cc, X.env.cells.lookup d = some cc ∧ s2.heap.IsCell cc (some (.ref dd)) := by
    rcases look with ⟨k', _⟩ | ⟨_, c3, e', z⟩
    · have k' : X.env.scope.names.lookup d = some .local := k'
      rcases L.own with k2 | k2 <;> rw [show X.env.scope.names.lookup d = _ from k2] at k' <;> cases k'
    · exact ⟨c3, e', z⟩
  obtain ⟨c2, hc2⟩ := mem_lookup (cloFrom_has (cells := X.env.cells) (acc := []) (PySem.mem_of_lookup L.ld))
  have ec2 : c2 = cc := by
    rcases cloFrom_mem (PySem.mem_of_lookup hc2) with hm | ⟨_, h2⟩
    · cases hm
    · rw [h2, hcc] <;> rfl
  rw [ec2] at hc2
  have ed2 : H2 dd = some (.dK kvs) := hE _ _ edd fun ps z => nomatch z
  -- what is sorted
  obtain ⟨its, T1, o, n, hT1, hlo, hlc, hld, rv⟩ : ∃ (its : List Value) (T1 : String) (o : Obj) (n : Nat), (T1 = "list" ∨ T1 = "tuple") ∧ s2.heap.get? l = some o ∧ o.cls = .type T1 ∧ o.data = .seq its.toArray n ∧ Vals (zs.map V.str) its := by
    rcases hseq with hs | hs
    · obtain ⟨its, rv, ⟨o, n, g1, g2, g3, g4⟩, _⟩ := I2.list (show SqL X.K H2 l (zs.map V.str) from match hs with
        | .inl (.inl h) => .inl (.inl (hE _ _ h fun ps z => nomatch z))
        | .inl (.inr ⟨o, h⟩) => .inl (.inr ⟨o, hE _ _ h fun ps z => nomatch z⟩)
        | .inr h => .inr h)
      exact ⟨its, _, o, n, .inl rfl, g1, g2, by assumption, rv⟩
    · obtain ⟨its, rv, ⟨o, g1, g2, n, g3⟩, _⟩ := I2.tuple (show SqT X.K H2 l (zs.map V.str) from match hs with
        | .inl (.inl h) => .inl (.inl (hE _ _ h fun ps z => nomatch z))
        | .inl (.inr ⟨o, h⟩) => .inl (.inr ⟨o, hE _ _ h fun ps z => nomatch z⟩)
        | .inr h => .inr h)
      exact ⟨its, _, o, n, .inr rfl, g1, g2, g3, rv⟩
  have dep : ∀ z, (intK key z).depth = 1 := fun z => by
    show (PyData.tuple ((key z).map .int)).depth = 1
    simp [PyData.depth, depth_ints]
  refine sorted_key_seq (k := intK key) hT1 hlo hlc hld (vals_strs rv) (AllAlike.of fun _ _ => by simp [intK, alike, alike_ints]) (.inl fun dt hdt => ?_) (by rw [sizeLine_eq]; omega) (fun z _ => by rw [dep]; omega) (ksk_s1 _ _) (fun _ => ksk_l1 _ _) (fun _ => ksk_t1 _ _)
    (fun v z hR hz h tk kp => ?_) fun p out c h' tk hsz kp hD hlen eo => ?_
  · obtain ⟨z, hz, rfl⟩ := List.mem_map.mp hdt
    obtain ⟨ne, _⟩ := hkeys z hz
    unfold intK
    cases e : key z with
    | nil => exact absurd e ne
    | cons n ns => exact ⟨_, _, rfl⟩
  · obtain ⟨tz, rfl⟩ := hR
    obtain ⟨_, t, e1, e2⟩ := hkeys z hz
    refine key_call (s := { s2 with heap := h, toks := tk }) (H := H2) (by show X.A.depth < _; omega) (I2.nolimit.keeps kp) (kp _ _ hf) ⟨c', oc, vs, _, rfl, kp _ _ hoc, hdc, hvc⟩ L.kind L.co L.gen L.nocell L.la L.ld (hbd _ _ _ _ _ _ _) hc2 ?_ h1 h2 h3 hs (I2.hok.kept kp) (.inl ed2) e1 (hE _ _ e2 fun ps z => nomatch z)
    obtain ⟨ob, g1, g2⟩ := hcell
    exact ⟨ob, kp _ _ g1, g2⟩
  · have rv2 := strs_vals eo
    refine ⟨.ref p, upd H2 p (.lst ((sortedBy key zs).map V.str)), I2.laid (t' := tk) kp hsz ⟨?_, out, c, rv2, hD⟩, rfl, q p H2 hE hT2 (I2.hok.fresh hsz)⟩
    rw [sizeLine_eq, List.length_map]
    unfold sortedBy
    rw [List.length_mergeSort]
    omega
end
end SkL
set_option Elab.async false
set_option linter.all false
set_option maxRecDepth 100000
set_option maxHeartbeats 2000000
/-! SM: putting each item ahead of the first one that must come behind it is the stable sort; <= of tuples of ints. -/
namespace SkL
open PySem PySem.Spec PyProof.Rows L2 LamX PySem.W
section
variable {α : Type} {le : α → α → Bool}
/-- acc is l in order, equal ones as they stood -/
def Stb (le : α → α → Bool) (l acc : List α) : Prop := ∃ L : List (α × Nat), L.map (·.1) = acc ∧ L.Perm l.zipIdx ∧ L.Pairwise fun a b => List.zipIdxLE le a b = true
theorem Stb.nil : Stb le [] [] := ⟨[], rfl, .refl _, .nil⟩
theorem zle_of {a b : α × Nat} (h : le a.1 b.1 = true) (i : a.2 ≤ b.2) : List.zipIdxLE le a b = true := by
  unfold List.zipIdxLE
  rw [if_pos h]
  split
  · exact decide_eq_true i
  · rfl
theorem zle_of2 {a b : α × Nat} (h : le a.1 b.1 = true) (n : le b.1 a.1 = false) : List.zipIdxLE le a b = true := by
  unfold List.zipIdxLE
  rw [if_pos h, if_neg (by rw [n]; exact Bool.false_ne_true)]
theorem zle_le {a b : α × Nat} (h : List.zipIdxLE le a b = true) : le a.1 b.1 = true := by
  unfold List.zipIdxLE at h
  by_cases z : le a.1 b.1 = true
  · exact z
  · rw [if_neg z] at h
    cases h
theorem Stb.len {l acc : List α} (h : Stb le l acc) : acc.length = l.length := by
  obtain ⟨L, e, pm, _⟩ := h
  rw [← e, List.length_map, pm.length_eq, List.length_zipIdx]
theorem Stb.put {l acc : List α} {z : α} {p : Nat} (T : TotalLe le) (h : Stb le l acc) (hp : p ≤ acc.length) (h1 : ∀ j x, j < p → acc[j]? = some x → le x z = true) (h2 : p = acc.length ∨ ∃ y, acc[p]? = some y ∧ le y z = false) :
    Stb le (l ++ [z]) (acc.take p ++ z :: acc.drop p) := by
  obtain ⟨L, e, pm, pw⟩ := h
  have lL : L.length = acc.length := by rw [← e, List.length_map]
  have idx : ∀ q ∈ L, q.2 < l.length := fun q hq => by
    have := List.mem_zipIdx (pm.mem_iff.mp hq)
    simpa using this.2.1
  refine ⟨L.take p ++ (z, l.length) :: L.drop p, ?_, ?_, ?_⟩
  · rw [List.map_append, List.map_cons, List.map_take, List.map_drop, e]
  · rw [List.zipIdx_append]
    have e9 : [z].zipIdx (0 + l.length) = [(z, l.length)] := by simp
    rw [e9]
    refine List.perm_middle.trans ?_
    rw [List.take_append_drop]
    exact (pm.cons _).trans (List.perm_append_singleton _ _).symm
  · have pws := pw
    rw [← List.take_append_drop p L, List.pairwise_append] at pws
    obtain ⟨q1, q2, q3⟩ := pws
    have before : ∀ x ∈ L.take p, List.zipIdxLE le x (z, l.length) = true := fun x hx => by
      obtain ⟨j, hj⟩ := List.mem_iff_getElem?.mp hx
      rw [List.getElem?_take] at hj
      split at hj
      · rename_i lt
        refine zle_of (h1 j x.1 lt ?_) (Nat.le_of_lt (idx x (List.mem_of_mem_take hx)))
        rw [← e, List.getElem?_map, hj]
        rfl
      · cases hj
    have behind : ∀ y ∈ L.drop p, List.zipIdxLE le (z, l.length) y = true := fun y hy => by
      rcases h2 with h2 | ⟨y0, hy0, n0⟩
      · rw [List.drop_of_length_le (by omega)] at hy
        cases hy
      · rw [← e, List.getElem?_map] at hy0
        obtain ⟨q0, hq0, rfl⟩ := Option.map_eq_some_iff.mp hy0
        have ed : L.drop p = q0 :: L.drop (p + 1) := by
          obtain ⟨lt, eq⟩ := List.getElem?_eq_some_iff.mp hq0
          rw [← eq]
          exact List.drop_eq_getElem_cons lt
        have zq : le z q0.1 = true := (T.total z q0.1).resolve_right (by rw [n0]; exact Bool.false_ne_true)
        have qy : le q0.1 y.1 = true := by
          rw [ed] at hy q2
          rcases List.mem_cons.mp hy with rfl | hy
          · exact (T.total _ _).elim id id
          · exact zle_le (List.rel_of_pairwise_cons q2 hy)
        refine zle_of2 (T.trans _ _ _ zq qy) ?_
        show le y.1 z = false
        cases c : le y.1 z with
        | false => rfl
        | true =>
          have := T.trans _ _ _ qy c
          rw [n0] at this
          cases this
    refine List.pairwise_append.mpr ⟨q1, List.pairwise_cons.mpr ⟨behind, q2⟩, fun a ha b hb => ?_⟩
    rcases List.mem_cons.mp hb with rfl | hb
    · exact before a ha
    · exact q3 a ha b hb
theorem Stb.eq {l acc : List α} (T : TotalLe le) (h : Stb le l acc) : acc = l.mergeSort le := by
  obtain ⟨L, e, pm, pw⟩ := h
  have tr := List.zipIdxLE_trans (le := le) T.trans
  have to := List.zipIdxLE_total (le := le) fun a b => by
    rcases T.total a b with h | h <;> simp [h]
  have eL : L = l.zipIdx.mergeSort (List.zipIdxLE le) := by
    refine List.Perm.eq_of_pairwise (le := fun a b => List.zipIdxLE le a b = true) (fun a b ha hb hab hba => ?_) pw (List.pairwise_mergeSort tr to _) (pm.trans (List.mergeSort_perm _ _).symm)
    have ia := List.mem_zipIdx (pm.mem_iff.mp ha)
    have ib := List.mem_zipIdx ((List.mergeSort_perm _ _).mem_iff.mp hb)
    have l1 := zle_le hab
    have l2 := zle_le hba
    unfold List.zipIdxLE at hab hba
    rw [if_pos l1, if_pos l2] at hab
    rw [if_pos l2, if_pos l1] at hba
    have e2 : a.2 = b.2 := Nat.le_antisymm (of_decide_eq_true hab) (of_decide_eq_true hba)
    refine Prod.ext ?_ e2
    rw [ia.2.2, ib.2.2]
    simp only [e2]
  rw [← e, eL]
  exact List.mergeSort_zipIdx
end
/-- the order of tuples of ints -/
def leI (ns ms : List Int) : Bool := !dataLt (.tuple (ms.map .int)) (.tuple (ns.map .int))
theorem leI_total (key : Str → List Int) : TotalLe fun a b => leI (key a) (key b) := sortLe_total (listOrd itemOrd) false fun z => keyToks (intK key z)
theorem sortedBy_of {key : Str → List Int} {zs acc : List Str} (h : Stb (fun a b => leI (key a) (key b)) zs acc) : acc = sortedBy key zs := h.eq (leI_total key)
def rLeI (K : PySem.W.Frag) : R2 := fun x y H Q => ∃ (a b : Addr) (ns ms : List Int), x = .ref a ∧ y = .ref b ∧ H a = some (.tup (ns.map V.int)) ∧ H b = some (.tup (ms.map V.int)) ∧ Q (.bl (leI ns ms)) H
theorem op_leI {X : Cx} (hu : X.A.units + 4 < cLine) : OpR X (compareOp .LtE) (rLeI X.K) := by
  intro pins s σ H x y v u Q I rx ry h
  obtain ⟨a, b, ns, ms, rfl, rfl, ha, hb, q⟩ := h
  cases rx
  cases ry
  have d1 : ∀ xs : List Int, (PyData.tuple (xs.map .int)).depth = 1 := fun xs => by simp [PyData.depth, depth_ints]
  have r := rcLe_alike (.tuple (ns.map .int)) (.tuple (ms.map .int)) X.A s _ _ _ _ (reads_tup I.hok ha) (reads_tup I.hok hb) (by simp [alike, alike_ints]) (fun z => nomatch z) (by rw [d1, d1]; show X.A.units + 1 < _; omega)
  exact r X.prog X.w _ _ ⟨.bl _, H, I, rfl, q⟩
end SkL
set_option Elab.async false
set_option linter.all false
set_option maxRecDepth 100000
set_option maxHeartbeats 4000000
/-! SD: sorted(xs) of a list of tuples of ints. -/
namespace SkL
open PySem PySem.Spec PyProof.Rows L2 PySem.W
/-- a tuple's place, its ints -/
abbrev TI := Addr × List Int
abbrev encT (p : TI) : PyData := .tuple (p.2.map .int)
abbrev sortT (ts : List TI) : List TI := ts.mergeSort (dataLe false encT)
def rSortedT (K : PySem.W.Frag) : List V → Hp → VK → Prop := fun vs H Q => ∃ (a : Addr) (ts : List TI), vs = [V.ref a] ∧ SqL K H a (ts.map fun p => V.ref p.1) ∧ (∀ p ∈ ts, H p.1 = some (.tup (p.2.map V.int)) ∧ 1 ≤ p.2.length ∧ p.2.length ≤ 100) ∧ ts.length ≤ sizeLine ∧
  ∀ p, H p = none → Q (.ref p) (upd H p (.lst ((sortT ts).map fun q => V.ref q.1)))
theorem each_refs : ∀ {ts : List TI} {us : List Value}, Vals (ts.map fun p => V.ref p.1) us → EachIs (fun v (p : TI) => v = Value.ref p.1) us ts
  | [], _, r => by
    cases r
    exact .nil
  | p :: ts, _, r => by
    cases r with
    | cons h t => exact .cons h (each_refs t)
theorem refs_each : ∀ {ts : List TI} {us : List Value}, EachIs (fun v (p : TI) => v = Value.ref p.1) us ts → Vals (ts.map fun p => V.ref p.1) us
  | _, _, .nil => .nil
  | _, _, .cons h t => .cons h (refs_each t)
theorem each_with {α β : Type} {R S : α → β → Prop} : ∀ {l : List α} {m : List β}, EachIs R l m → (∀ a b, b ∈ m → R a b → S a b) → EachIs S l m
  | _, _, .nil, _ => .nil
  | _, _, .cons h t, f => .cons (f _ _ List.mem_cons_self h) (each_with t fun a b hb r => f a b (List.mem_cons_of_mem _ hb) r)
theorem dp_ints {K : PySem.W.Frag} {H : Hp} : ∀ ns : List Int, DpAll K H (ns.map V.int) (ns.map PyData.int)
  | [] => .nil
  | n :: ns => .cons (.int n) (dp_ints ns)
section
variable {X : Cx}
theorem cr_sortedT (hu : X.A.units + 8 < cLine) : CallR X (.builtin "sorted") (rSortedT X.K) := by
  intro pins s σ H vs us Q I r h
  obtain ⟨a, ts, rfl, hs, ht, hz, q⟩ := h
  obtain ⟨its, rv, hl, _⟩ := I.list hs
  obtain ⟨u, rfl, ru⟩ := vals1 r
  obtain rfl : u = Value.ref a := ru
  have e := each_refs rv
  have dep : ∀ ns : List Int, (PyData.tuple (ns.map .int)).depth = 1 := fun ns => by simp [PyData.depth, depth_ints]
  refine sorted_data (enc := encT) hl.isList e (each_with e fun v p hp ev => ?_) ?_ (.inl fun d hd => ?_) hz (fun b hb => ?_) fun out ho hout => ?_
  · subst ev
    exact Dp.reads I _ _ _ (Dp.tup (.of (ht p hp).1) (dp_ints p.2)) rfl
  · exact AllAlike.of fun _ _ => by simp [encT, alike, alike_ints]
  · obtain ⟨p, hp, rfl⟩ := List.mem_map.mp hd
    obtain ⟨_, l1, _⟩ := ht p hp
    match hp2 : p.2, l1 with
    | n :: r, _ => exact ⟨.int n, r.map .int, by show PyData.tuple (p.2.map .int) = _; rw [hp2]; rfl⟩
  · have := dep b.2
    show X.A.units + 2 + (PyData.tuple (b.2.map .int)).depth < cLine
    omega
  · obtain ⟨c, hc⟩ := sortedAll_at s.heap its (List.toArray out)
    have fr : s.heap.objs.size ≤ s.heap.objs.size + 1 := Nat.le_succ _
    refine ⟨.ref (s.heap.objs.size + 1), upd H (s.heap.objs.size + 1) (.lst ((sortT ts).map fun q => V.ref q.1)), I.laid (t' := s.toks) (fun b o hb => sortedAll_old hb) fr ⟨?_, out, c, refs_each hout, hc⟩, rfl, q _ (I.hok.fresh fr)⟩
    rw [List.length_map, List.length_mergeSort]
    exact hz
end
end SkL
set_option Elab.async false
set_option linter.all false
set_option maxRecDepth 100000
set_option maxHeartbeats 2000000
/-! CO: a def's code object, told of its body. -/
namespace G
open PySem PySem.Spec PyProof.Rows L2 NdefX LamX
/-- the code object of the def at a -/
def cdOf (K : PySem.W.Frag) (a : Addr) : Addr := match K.lookup a with
  | some ⟨_, _, .func fd, _⟩ => (match fd.code with
    | .ref c => c
    | _ => 0)
  | _ => 0
theorem cdOf_eq {K : PySem.W.Frag} {f : Addr} {oc : Value} {od : Option Addr} {fd : FuncData} {osl : Array (Option Value)} {q : Str} (lk : K.lookup f = some ⟨oc, od, .func fd, osl⟩) (h : PySem.W.codeIn K fd.code q = true) : fd.code = .ref (cdOf K f) := by
  unfold cdOf
  rw [lk]
  show fd.code = .ref (match fd.code with | .ref c => c | _ => 0)
  cases e : fd.code with
  | ref c => rfl
  | _ =>
    rw [e] at h
    cases h
section
variable {P : Program} {w : World} {K : PySem.W.Frag} {mg : Str → Option Value} {base : Heap}
/-- as Fun.ok, the code object known -/
theorem fun_okC {x qual : Str} {st : Stmt} {f : Addr} {fd : FuncData} {N ps : List Str} {k : Nat} {sp : Sp} (F : Fun K x qual st f fd) (S : FnScope N ps (defScope st)) (len : ∀ vs H Q E, sp vs H Q E → vs.length = ps.length)
    (hbody : ∀ (A : Around) (outer : List Env) (s : Shared) (H : Hp) (vs : List V) (Q : VK) (E : XK), Room k (A.deeper (envOfC qual (defScope st) s.heap.objs.size f (.ref (cdOf K f)))) → sp vs H Q E →
      ∃ t, PSs (cxOf CX0 P w K mg base N qual (defScope st) f (.ref (cdOf K f)) A outer s H E).nox (defBody st) t ∧ t { nx := fun _ H' => Q .non H', rt := Q } (start N vs) H) : FnOk P w K mg base CX0 (k + 1) f fd ps sp := by
  obtain ⟨oc, od, kV, doc, pm, an, cdv, ct, osl, rfl, lk, hcd⟩ := F.ex
  have e : cdv = .ref (cdOf K f) := cdOf_eq lk hcd
  subst e
  refine fn_of lk hcd S len fun A outer s H vs Q E hr hsp => ?_
  obtain ⟨t, h, q⟩ := hbody A outer s H vs Q E hr hsp
  exact ⟨t, h.nox, q⟩
end
end G
set_option Elab.async false
set_option linter.all false
set_option maxRecDepth 100000
set_option maxHeartbeats 4000000
/-! DN: dicts whose keys are nested tuples: new, stored in, asked. -/
namespace G
open PySem PySem.Spec PyProof.Rows L2
/-- a key, its tuple's place, what stands there -/
abbrev Ent := NestedKey × Addr × V
abbrev EntR : Ent → NestedKey × Addr × Value → Prop := fun p q => p.1 = q.1 ∧ p.2.1 = q.2.1 ∧ RelV p.2.2 q.2.2
def dnAt (P : Program) (w : World) (a : Addr) (ks : List Ent) (h : Heap) : Prop := ks.length ≤ sizeLine ∧ (a == sysModules) = false ∧ ∃ xs : List (NestedKey × Addr × Value), Paired EntR ks xs ∧
  ∃ o es ep, h.get? a = some o ∧ o.ExactDict ∧ o.data = .dict es ep ∧ es.toList = xs.map (entryOfKey (nestedKind P w)) ∧ (xs.map (·.1)).Nodup
/-- such a dict, its entries from the oldest -/
def dnO (P : Program) (w : World) (a : Addr) (ks : List Ent) : HO := .ext (dnAt P w a ks)
mutual
/-- v is the key k -/
inductive NV (H : Hp) : V → NestedKey → Prop
  | non : NV H .non .none
  | int (i : Int) : NV H (.int i) (.num i)
  | str (x : Str) : NV H (.str x) (.text x)
  | tup {a : Addr} {xs : List V} {ks : List NestedKey} : H a = some (.tup xs) → NVs H xs ks → NV H (.ref a) (.tup ks)
inductive NVs (H : Hp) : List V → List NestedKey → Prop
  | nil : NVs H [] []
  | cons {v : V} {vs : List V} {k : NestedKey} {ks : List NestedKey} : NV H v k → NVs H vs ks → NVs H (v :: vs) (k :: ks)
end
mutual
theorem NV.same {H H' : Hp} (s : ∀ a xs, H a = some (.tup xs) → H' a = some (.tup xs)) : ∀ {v : V} {k : NestedKey}, NV H v k → NV H' v k
  | _, _, .non => .non
  | _, _, .int i => .int i
  | _, _, .str x => .str x
  | _, _, .tup e h => .tup (s _ _ e) (NVs.same s h)
theorem NVs.same {H H' : Hp} (s : ∀ a xs, H a = some (.tup xs) → H' a = some (.tup xs)) : ∀ {vs : List V} {ks : List NestedKey}, NVs H vs ks → NVs H' vs ks
  | _, _, .nil => .nil
  | _, _, .cons h t => .cons (NV.same s h) (NVs.same s t)
end
section
variable {P : Program} {w : World} {H : Hp} {h : Heap} {a : Addr} {ks : List Ent} {k : NestedKey}
mutual
theorem nv_is (ok : HOk P w H h) : ∀ {v : V} {k : NestedKey} {u : Value}, NV H v k → RelV v u → NestedIs h k u
  | _, _, _, .non, r => by
    cases r
    exact .none
  | _, _, _, .int i, r => by
    obtain ⟨t, rfl⟩ := r
    exact .int i t
  | _, _, _, .str x, r => by
    obtain ⟨t, rfl⟩ := r
    exact .text x t
  | _, _, _, .tup (a := a) (xs := xs) e hs, r => by
    cases r
    obtain ⟨_, its, rv, o, h1, h2, n, h3⟩ := (show ObjOk P w H h a (.tup xs) from ok a _ e)
    exact .tup h1 h2 h3 (by simpa using nvs_is ok hs rv)
theorem nvs_is (ok : HOk P w H h) : ∀ {vs : List V} {ks : List NestedKey} {us : List Value}, NVs H vs ks → Vals vs us → NestedAll h ks us
  | _, _, _, .nil, r => by
    cases r
    exact .nil
  | _, _, _, .cons h1 t, r => by
    cases r with
    | cons r1 rs => exact .cons (nv_is ok h1 r1) (nvs_is ok t rs)
end
/-- its keys stand -/
def KsN (H : Hp) (ks : List Ent) : Prop := ∀ e ∈ ks, NV H (.ref e.2.1) e.1 ∧ e.1.depth ≤ 8
theorem KsN.same {H' : Hp} (x : KsN H ks) (s : ∀ a xs, H a = some (.tup xs) → H' a = some (.tup xs)) : KsN H' ks := fun e he => ⟨(x e he).1.same s, (x e he).2⟩
theorem dn_of (ok : HOk P w H h) (e : H a = some (dnO P w a ks)) (hk : KsN H ks) : ks.length ≤ sizeLine ∧ (a == sysModules) = false ∧ ∃ xs, Paired EntR ks xs ∧ h.DictOfH (nestedKind P w) a xs := by
  obtain ⟨⟨z, y, xs, r, o, es, ep, h1, h2, h3, h4, h5⟩, _⟩ := (show ObjOk P w H h a (.ext (dnAt P w a ks)) from ok a _ e)
  refine ⟨z, y, xs, r, o, es, ep, h1, h2, h3, h4, ?_, h5⟩
  have all : ∀ {l : List Ent} {m : List (NestedKey × Addr × Value)}, Paired EntR l m → KsN H l → ∀ x ∈ m, (nestedKind P w).is h x.1 x.2.1 := by
    intro l m q
    induction q with
    | nil => intro _ x hx; exact nomatch hx
    | @cons p q ps qs hq t ih =>
      intro hl x hx
      rcases List.mem_cons.mp hx with e | hx
      · subst e
        obtain ⟨g1, g2⟩ := hl p List.mem_cons_self
        obtain ⟨e1, e2, _⟩ := hq
        rw [← e1, ← e2]
        exact ⟨nv_is ok g1 rfl, g2⟩
      · exact ih (fun e he => hl e (List.mem_cons_of_mem _ he)) x hx
  exact all r hk
theorem dn_ok (z : dnAt P w a ks h) : ObjOk P w H h a (dnO P w a ks) := by
  refine ⟨z, ?_, ?_⟩
  · obtain ⟨_, _, _, _, o, _, _, h1, _⟩ := z
    exact ⟨o, h1⟩
  · rintro h1 h2 ⟨z1, z2, xs, r, o, es, ep, e1, e2⟩ hk
    exact ⟨z1, z2, xs, r, o, es, ep, hk _ e1, e2⟩
theorem dn_empty (h : Heap) (hb : sysModules < h.objs.size) : ObjOk P w H (h.push { cls := .type "dict", data := .dict #[] }) h.objs.size (dnO P w h.objs.size []) :=
  dn_ok ⟨Nat.zero_le _, beq_eq_false_iff_ne.mpr (Ne.symm (Nat.ne_of_lt hb)), [], .nil, _, #[], 0, Heap.get?_push_size _ rfl, ⟨rfl, rfl, rfl⟩, rfl, rfl, List.nodup_nil⟩
end
def hasN (ks : List Ent) (k : NestedKey) : Bool := ks.any fun e => decide (e.1 = k)
def storeN (ks : List Ent) (k : NestedKey) (b : Addr) (v : V) : List Ent := if hasN ks k = true then ks.map fun e => if e.1 = k then (e.1, e.2.1, v) else e else ks ++ [(k, b, v)]
theorem has_at {ks : List Ent} {xs : List (NestedKey × Addr × Value)} (r : Paired EntR ks xs) (k : NestedKey) : hasN ks k = (atKey xs k).isSome := by
  unfold hasN
  induction r with
  | nil => rfl
  | @cons p q ps qs h t ih =>
    rw [List.any_cons]
    by_cases e : p.1 = k
    · have e' : q.1 = k := h.1.symm.trans e
      rw [decide_eq_true e, Bool.true_or]
      simp [atKey, List.find?_cons, e']
    · have e' : ¬ q.1 = k := fun z => e (h.1.trans z)
      have b : atKey (q :: qs) k = atKey qs k := by simp [atKey, List.find?_cons, e']
      rw [decide_eq_false e, Bool.false_or, b]
      exact ih
theorem store_rel {ks : List Ent} {xs : List (NestedKey × Addr × Value)} (r : Paired EntR ks xs) (k : NestedKey) (b : Addr) {v : V} {u : Value} (rv : RelV v u) : Paired EntR (storeN ks k b v) (storedH xs k b u) := by
  unfold storeN storedH
  rw [has_at r k]
  by_cases q : (atKey xs k).isSome = true
  · rw [if_pos q, if_pos q]
    clear q
    induction r with
    | nil => exact .nil
    | @cons p q ps qs h t ih =>
      rw [List.map_cons, List.map_cons]
      refine .cons ?_ ih
      obtain ⟨h1, h2, h3⟩ := h
      unfold putAt
      by_cases e : p.1 = k
      · rw [if_pos e, if_pos (h1.symm.trans e)]
        exact ⟨h1, h2, rv⟩
      · rw [if_neg e, if_neg (fun z => e (h1.trans z))]
        exact ⟨h1, h2, h3⟩
  · rw [if_neg q, if_neg q]
    exact Paired.snoc r ⟨rfl, rfl, rv⟩
theorem storeN_len (ks : List Ent) (k : NestedKey) (b : Addr) (v : V) : (storeN ks k b v).length ≤ ks.length + 1 := by
  unfold storeN
  split
  · rw [List.length_map]
    omega
  · rw [List.length_append]
    exact Nat.le_refl _
section
variable {X : Cx} {pos pos' : Pos} {o i value : Expr} {td ty tv : TE}
/-- {}, to be such a dict -/
def tDNewN (P : Program) (w : World) : TE := fun _ H Q => ∀ p, H p = none → Q (.ref p) (upd H p (dnO P w p []))
theorem pe_dnewN : PE X (.Dict [] [] pos) (tDNewN X.prog X.w) := by
  constructor
  intro pins s σ H Q I h
  refine wpAny_Dict_empty ⟨.ref s.heap.objs.size, upd H s.heap.objs.size (dnO X.prog X.w s.heap.objs.size []), ?_, rfl, h _ (I.hok.fresh (Nat.le_refl _))⟩
  exact I.laid (t' := s.toks) (fun _ _ q => Heap.get?_push_of_some _ q) (Nat.le_refl _) (dn_empty s.heap I.big)
/-- d[k] = v -/
def sDPutN (P : Program) (w : World) (td ty tv : TE) : TS := fun D σ H => tv σ H fun v H1 => td σ H1 fun x H2 => ty σ H2 fun y H3 => ∃ (a b : Addr) (k : NestedKey) (ks : List Ent), x = .ref a ∧ y = .ref b ∧
  H3 a = some (dnO P w a ks) ∧ KsN H3 ks ∧ NV H3 (.ref b) k ∧ k.depth ≤ 8 ∧ ks.length < sizeLine ∧ D.nx σ (upd H3 a (dnO P w a (storeN ks k b v)))
theorem ps_dputN (hu : X.A.units + 16 < cLine) (ho : PE X o td) (hi : PE X i ty) (hv : PE X value tv) (hs : swapsWith value (some (.Subscript o i pos')) pos.line X.env = pure false := by rfl) :
    PS X (.Assign [.Subscript o i pos'] value pos) (sDPutN X.prog X.w td ty tv) := by
  constructor
  intro pins s σ H D I h
  refine wpAny_Assign_Subscript (thn (hv.run pins s σ H _ I h) ?_) hs
  rintro r s1 ⟨v, H1, I1, rv, q1⟩
  refine thn (ho.run pins s1 σ H1 _ I1 q1) ?_
  rintro u s2 ⟨x, H2, I2, rx, q2⟩
  refine thn (hi.run pins s2 σ H2 _ I2 q2) ?_
  rintro iv s3 ⟨y, H3, I3, ry, a, b, k, ks, rfl, rfl, ea, hk, nk, dk, hl, q3⟩
  obtain rfl : u = Value.ref a := rx
  obtain rfl : iv = Value.ref b := ry
  obtain ⟨z, hd, xs, rel, dd⟩ := dn_of I3.hok ea hk
  have hz : xs.length ≤ sizeLine := by
    rw [← Paired.length rel]
    exact z
  have room : (nestedKind X.prog X.w).room X.A.in1 := by
    show X.A.in1.units + 8 < cLine
    have : X.A.in1.units ≤ X.A.units + 8 := by
      show X.A.units + _ ≤ _
      omega
    omega
  refine wpAny_setItem_heap (hsz := hz) room ⟨nv_is I3.hok nk rfl, dk⟩ dd fun h' dd' hsb => ⟨σ, _, ?_, q3⟩
  obtain ⟨q, es, ep, hq, h2, h3, h4, _, h5⟩ := dd'
  refine d_write I3 (by rw [ea]; exact True.intro) hsb ⟨q, hq⟩ (dn_ok ⟨?_, hd, _, store_rel rel k b rv, q, es, ep, hq, h2, h3, h4, h5⟩)
  have := storeN_len ks k b v
  omega
end
end G
set_option Elab.async false
set_option linter.all false
set_option maxRecDepth 100000
set_option maxHeartbeats 4000000
/-! OR: filtered, ordered. -/
namespace G
open PySem PySem.Spec PyProof.Rows L2 NdefX LamX SkL
/-- the name of the lambda in ordered -/
abbrev lamQ : Str := (("ordered" : Str) ++ (".<locals>." : Str)) ++ ("<lambda>" : Str)
abbrev sFil : Stmt := topS 29
abbrev sOrd : Stmt := topS 30
theorem scFil : FnScope ["rows", "answers", "row"] ["rows", "answers"] (defScope sFil) := ⟨rfl, rfl, rfl, by decide +kernel, rfl, by decide +kernel, by decide +kernel⟩
theorem scOrd : FnScope ["rows", "answers", "found"] ["rows", "answers"] (defScope sOrd) := ⟨rfl, rfl, rfl, by decide +kernel, rfl, by decide +kernel, by decide +kernel⟩
/-- rows by their answers: the table of the lambda's code grows -/
def spOrd (K : PySem.W.Frag) (T : List (Addr × Str)) : Sp := fun vs H Q _ => ∃ (l d : Addr) (zs : List Str) (kvs : List (Key × V)) (an : Str → List Int), vs = [.ref l, .ref d] ∧ SqLT K H l (zs.map V.str) ∧ RowsOk zs ∧ AnsOf H d kvs zs an ∧ Tabs T H ∧
  ∀ (p : Addr) (H' : Hp), ExtN H H' → Tabs T H' → H' p = none → Q (.ref p) (upd H' p (.lst ((sortedBy an zs).map V.str)))
/-- True of each row or not -/
structure BoolOf (H : Hp) (d : Addr) (kvs : List (Key × V)) (zs : List Str) (bo : Str → Bool) : Prop where
  d : H d = some (.dK kvs)
  is : ∀ z ∈ zs, valV kvs (Sum.inr z) = some (.bl (bo z))
theorem BoolOf.same {H H' : Hp} {d : Addr} {kvs : List (Key × V)} {zs : List Str} {bo : Str → Bool} (h : BoolOf H d kvs zs bo) (s : Same H H') : BoolOf H' d kvs zs bo := ⟨s _ _ h.d, h.is⟩
def spFil (K : PySem.W.Frag) : Sp := fun vs H Q _ => ∃ (l d : Addr) (zs : List Str) (kvs : List (Key × V)) (bo : Str → Bool), vs = [.ref l, .ref d] ∧ SqLT K H l (zs.map V.str) ∧ RowsOk zs ∧ BoolOf H d kvs zs bo ∧
  ∀ (p : Addr) (H' : Hp), Same H H' → H p = none → H' p = some (.lst ((zs.filter bo).map V.str)) → Q (.ref p) H'
section
variable {P : Program} {w : World} {K : PySem.W.Frag} {mg : Str → Option Value} {base : Heap}
theorem ok_ord {f fA Pt : Addr} {fd fdA : FuncData} (F : Fun K "ordered" "ordered" sOrd f fd) (TB : TabB base mg (cdOf K f) Pt) {T : List (Addr × Str)} (hm : (Pt, lamQ) ∈ T) (hu : ∀ p ∈ T, p.1 = Pt → p.2 = lamQ)
    (GA : FnOk P w K mg base CX0 5 fA fdA ["rows", "answers"] (spFullAs K)) (gA : mg "full_answers" = some (.ref fA)) (kA : PySem.W.keepIn K (.ref fA) = true) (bA : Binds K fdA ["rows", "answers"] []) (ms : mg "sorted" = none) :
    FnOk P w K mg base CX0 6 f fd ["rows", "answers"] (spOrd K T) := by
  refine fun_okC F scOrd (fun vs H Q E h => ?_) (fun A outer s H vs Q E hr h => ?_)
  · obtain ⟨l, d, zs, kvs, an, rfl, _⟩ := h
    rfl
  · obtain ⟨l, d, zs, kvs, an, rfl, hl, ro, ha, hT, q⟩ := h
    have hu4 : (A.deeper (envOfC "ordered" (defScope sOrd) s.heap.objs.size f (.ref (cdOf K f)))).units + 4 < cLine := by have := hr.units; omega
    have hdp : (A.deeper (envOfC "ordered" (defScope sOrd) s.heap.objs.size f (.ref (cdOf K f)))).depth + 4 < recursionLimit := by have := hr.dp; omega
    refine ⟨_, pss_cons (ps_set (i := 2) scOrd.nd rfl (.inr rfl) (pe_call GA hr rfl gA kA bA .nil pass0 (pa_cons (pv 0) (pa_cons (pv 1) pa_nil))))
      (pss_one (ps_ret (pe_sortLam (T := T) (i := 2) (a := "row") (d := "found") TB rfl hm hu (show LamS1 (defScope sOrd) _ "row" "found" from ⟨rfl, rfl, rfl, by decide +kernel, by decide +kernel, by decide +kernel, by decide +kernel, by decide +kernel⟩) (pa_cons (pv 0) pa_nil) (by rfl) ms hu4 hdp rfl rfl (fun _ _ _ _ _ _ _ => rfl) (by decide) (by decide) (by decide) (fun _ _ => rfl)))), ?_⟩
    refine ⟨_, rfl, _, rfl, l, d, zs, kvs, an, rfl, hl, ro, ha, fun fk H1 kf s1 hf1 hw => ?_⟩
    have hl1 := hl.keep s1
    refine ⟨_, rfl, hT.ext s1, l, fk, zs, kf, an, rfl, hl1, rfl, hw.d, by have := ro.few; omega, fun z hz => ?_, fun p H2 hE hT2 hp => ?_⟩
    · obtain ⟨T1, e1, e2⟩ := hw.is z hz
      obtain ⟨v, _, av, _⟩ := ha.is z hz
      refine ⟨fun e => ?_, T1, e1, e2⟩
      rcases av with ⟨i, _, e3⟩ | ⟨_, _, _, l1, _⟩
      · rw [e] at e3
        cases e3
      · rw [e] at l1
        exact absurd l1 (by decide)
    · exact q p H2 ((ExtN.of s1).trans hE) hT2 hp
theorem ok_fil {f fN fA : Addr} {fd fdN fdA : FuncData} (F : Fun K "filtered" "filtered" sFil f fd) (GN : FnOk P w K mg base CX0 2 fN fdN ["rows", "answers"] (spNeedRows K)) (gN : mg "need_rows_with_answers" = some (.ref fN)) (kN : PySem.W.keepIn K (.ref fN) = true) (bN : Binds K fdN ["rows", "answers"] [])
    (GA : FnOk P w K mg base CX0 1 fA fdA ["row", "answers"] spAnsFor) (gA : mg "answer_for" = some (.ref fA)) (kA : PySem.W.keepIn K (.ref fA) = true) (bA : Binds K fdA ["row", "answers"] []) (mi : mg "isinstance" = none) (mb : mg "bool" = none) :
    FnOk P w K mg base CX0 3 f fd ["rows", "answers"] (spFil K) := by
  refine F.ok scFil (fun vs H Q E h => ?_) (fun cdv A outer s H vs Q E hr h => ?_)
  · obtain ⟨l, d, zs, kvs, bo, rfl, _⟩ := h
    rfl
  · obtain ⟨l, d, zs, kvs, bo, rfl, hl, ro, hb, q⟩ := h
    have hr1 := hr.mono (show 1 ≤ 2 by decide)
    have hu1 : (A.deeper (envOfC "filtered" (defScope sFil) s.heap.objs.size f cdv)).units + 1 < cLine := by have := hr.units; omega
    refine ⟨_, pss_cons (ps_expr (pe_call GN hr rfl gN kN bN .nil pass0 (pa_cons (pv 0) (pa_cons (pv 1) pa_nil))))
      (pss_cons (ps_for PassesOwn.never rfl (pi_lw (pv 0)) (pg_name (i := 2) scFil.nd rfl (.inl rfl))
        (pss_one (ps_if (pt_not (pt_val (pe_callB call_isi (by rfl) mi (by decide +kernel) (pa_cons (pe_call GA hr1 rfl gA kA bA .nil pass0 (pa_cons (pv 2) (pa_cons (pv 1) pa_nil))) (pa_cons (pe_bltn (v := .ty "bool") (u := .type "bool") (by rfl) mb (by decide +kernel) rfl) pa_nil))))) (pss_one ps_never) pss_nil)))
      (pss_one (ps_ret (pe_lc (own := [("row", 2)]) (g := gName 2) (by rfl) scFil.nd (pi_lw (pv 0))
        (blkOk_by (own := [("row", 2)]) (N := ["rows", "answers", "row"]) (sc := defScope sFil) (by decide +kernel)) (fun _ _ _ _ _ => pg_name (i := 2) scFil.nd rfl (.inl rfl))
        (fun _ _ _ _ _ => pts_one (pt_val (pe_dget hu1 (pv 1) (pv 2) (fun _ _ => rfl)))) (fun _ _ _ _ _ => pv 2))))), ?_⟩
    refine ⟨_, rfl, _, rfl, l, d, zs, kvs, rfl, hl, ro, hb.d, fun H1 s1 => ?_⟩
    have hl1 := hl.keep s1
    have hb1 := hb.same s1
    refine ⟨_, rfl, l, zs.map V.str, rfl, hl1, fun J G wk hG => ?_⟩
    refine for_it wk (fun i σ H2 => Same H1 H2 ∧ ∃ x2 : Option V, σ = [some (.ref l), some (.ref d), x2]) ?_ ?_ ?_ ?_
    · exact ⟨.refl _, none, rfl⟩
    · rintro i σ H2 _ ⟨s2, _⟩
      exact hG H2 (sqL_keep s2) (sqT_keep s2)
    · rintro i x σ H2 H2' hi ⟨s2, x2, rfl⟩ ⟨rfl, hx⟩
      rw [List.getElem?_map] at hx
      obtain ⟨z, hz, rfl⟩ := Option.map_eq_some_iff.mp hx
      have hb2 := hb1.same s2
      refine ⟨_, rfl, _, rfl, z, d, kvs, _, rfl, hb2.d, hb2.is z (List.mem_of_getElem? hz), ?_⟩
      refine ⟨_, _, _, _, _, rfl, .ty _, .base (.bl _), kit_b (.bool (bo z)), _, rfl, iteF ?_⟩
      exact ⟨s2, _, rfl⟩
    · rintro σ H2 ⟨s2, x2, rfl⟩
      have hl2 := hl1.keep s2
      have hb2 := hb1.same s2
      refine ⟨_, rfl, l, zs.map V.str, rfl, hl2, fun J G wk hG => ?_⟩
      intro D hD
      have few := ro.few
      refine lc_it wk (fun i H3 => Same H2 H3 ∧ H3 D = some (.lst (((zs.take i).filter bo).map V.str))) ?_ ?_ ?_ ?_
      · exact ⟨Same.new hD, upd_same⟩
      · rintro i H3 _ ⟨s3, _⟩
        exact hG H3 (sqL_keep s3) (sqT_keep s3)
      · rintro i x H3 H3' hi ⟨s3, e3⟩ ⟨rfl, hx⟩
        rw [List.getElem?_map] at hx
        obtain ⟨z, hz, rfl⟩ := Option.map_eq_some_iff.mp hx
        have hb3 := hb2.same s3
        have g := DGet.k (k := Sum.inr z) hb3.d
        rw [hb3.is z (List.mem_of_getElem? hz)] at g
        have e9 : (zs.take (i + 1)).filter bo = if bo z = true then (zs.take i).filter bo ++ [z] else (zs.take i).filter bo := by
          rw [take_snoc hz, List.filter_append, List.filter_cons, List.filter_nil]
          split
          · rfl
          · rw [List.append_nil]
        refine ⟨rfl, ?_⟩
        refine ⟨_, rfl, _, rfl, d, _, rfl, g, _, rfl, ?_⟩
        refine ite2 (fun c => ?_) (fun c => ?_)
        · rw [if_pos c] at e9
          refine ⟨_, rfl, _, e3, ?_, fun c o eo => (upd_ne (ne_of_none eo hD)).trans (s3 _ _ eo), ?_⟩
          · rw [List.length_map]
            have := List.length_filter_le bo (zs.take i)
            rw [List.length_take] at this
            exact small1000 (by omega)
          · rw [upd_same, e9, List.map_append]
            rfl
        · rw [if_neg c] at e9
          exact ⟨s3, by rw [e9]; exact e3⟩
      · rintro H3 ⟨s3, e3⟩
        rw [List.length_map, List.take_length] at e3
        exact q D H3 ((s1.trans s2).trans s3) ((s1.trans s2).free hD) e3
end
end G
set_option Elab.async false
set_option linter.all false
set_option maxRecDepth 100000
set_option maxHeartbeats 8000000
/-! GR: grouped. -/
namespace G
open PySem PySem.Spec PyProof.Rows L2 NdefX DvT StX SkL
abbrev sGrp : Stmt := topS 32
abbrev nGrp : List Str := ["rows", "answers", "found", "groups", "row", "with_headers", "counts", "answer", "header"]
theorem scGrp : FnScope nGrp ["rows", "answers"] (defScope sGrp) := ⟨rfl, rfl, rfl, by decide +kernel, rfl, by decide +kernel, by decide +kernel⟩
/-- an answer and its rows -/
abbrev Grp := List Int × List Str
def addG (an : Str → List Int) (acc : List Grp) (z : Str) : List Grp := if an z ∈ acc.map (·.1) then acc.map fun p => if p.1 = an z then (p.1, p.2 ++ [z]) else p else acc ++ [(an z, [z])]
def groupsF (an : Str → List Int) (zs : List Str) : List Grp := zs.foldl (addG an) []
theorem groupsF_snoc (an : Str → List Int) (zs : List Str) (z : Str) : groupsF an (zs ++ [z]) = addG an (groupsF an zs) z := by
  unfold groupsF
  rw [List.foldl_append]
  rfl
theorem addG_keys (an : Str → List Int) (acc : List Grp) (z : Str) : (addG an acc z).map (·.1) = if an z ∈ acc.map (·.1) then acc.map (·.1) else acc.map (·.1) ++ [an z] := by
  unfold addG
  split
  · rw [List.map_map]
    refine List.map_congr_left fun p _ => ?_
    show (if p.1 = an z then (p.1, p.2 ++ [z]) else p).1 = p.1
    split <;> rfl
  · rw [List.map_append]
    rfl
theorem addG_nd {an : Str → List Int} {acc : List Grp} {z : Str} (h : (acc.map (·.1)).Nodup) : ((addG an acc z).map (·.1)).Nodup := by
  rw [addG_keys]
  split
  · exact h
  · rename_i n
    exact List.nodup_append.mpr ⟨h, (by simp), fun a ha b hb => by
      rw [List.mem_singleton.mp hb]
      rintro rfl
      exact n ha⟩
theorem groupsF_nd (an : Str → List Int) (zs : List Str) : ((groupsF an zs).map (·.1)).Nodup := by
  unfold groupsF
  have : ∀ (l : List Str) (acc : List Grp), (acc.map (·.1)).Nodup → ((l.foldl (addG an) acc).map (·.1)).Nodup := by
    intro l
    induction l with
    | nil => exact fun _ h => h
    | cons z l ih => exact fun acc h => ih _ (addG_nd h)
  exact this zs [] List.nodup_nil
theorem addG_len (an : Str → List Int) (acc : List Grp) (z : Str) : (addG an acc z).length ≤ acc.length + 1 := by
  unfold addG
  split
  · rw [List.length_map]
    omega
  · rw [List.length_append]
    exact Nat.le_refl _
theorem groupsF_len (an : Str → List Int) (zs : List Str) : (groupsF an zs).length ≤ zs.length := by
  have : ∀ (l : List Str) (acc : List Grp), (l.foldl (addG an) acc).length ≤ acc.length + l.length := by
    intro l
    induction l with
    | nil => exact fun _ => Nat.le_refl _
    | cons z l ih =>
      intro acc
      have h1 := ih (addG an acc z)
      have h2 := addG_len an acc z
      rw [List.foldl_cons, List.length_cons]
      omega
  have := this zs []
  unfold groupsF
  rw [List.length_nil] at this
  omega
/-- no group grows beyond the rows -/
theorem addG_size {an : Str → List Int} {acc : List Grp} {z : Str} {n : Nat} (h : ∀ g ∈ acc, g.2.length ≤ n) : ∀ g ∈ addG an acc z, g.2.length ≤ n + 1 := by
  intro g hg
  unfold addG at hg
  split at hg
  · obtain ⟨p, hp, rfl⟩ := List.mem_map.mp hg
    have := h p hp
    by_cases e : p.1 = an z
    · rw [if_pos e]
      show (p.2 ++ [z]).length ≤ _
      rw [List.length_append]
      exact Nat.succ_le_succ this
    · rw [if_neg e]
      omega
  · rcases List.mem_append.mp hg with hg | hg
    · have := h g hg
      omega
    · rw [List.mem_singleton.mp hg]
      exact Nat.le_add_left _ _
theorem groupsF_size (an : Str → List Int) (zs : List Str) : ∀ g ∈ groupsF an zs, g.2.length ≤ zs.length := by
  have : ∀ (l : List Str) (acc : List Grp) (n : Nat), (∀ g ∈ acc, g.2.length ≤ n) → ∀ g ∈ l.foldl (addG an) acc, g.2.length ≤ n + l.length := by
    intro l
    induction l with
    | nil => exact fun _ _ h => h
    | cons z l ih =>
      intro acc n h g hg
      have := ih _ (n + 1) (addG_size h) g hg
      rw [List.length_cons]
      omega
  intro g hg
  have := this zs [] 0 (fun g h => nomatch h) g hg
  omega
/-! ### the dict of the groups -/
def gK (acc : List Grp) (ls : List Addr) : List (List Key × V) := (acc.zip ls).map fun p => (kI p.1.1, V.ref p.2)
/-- the lists of the groups -/
abbrev GL (H : Hp) : List Grp → List Addr → Prop := Paired fun g l => H l = some (.lst (g.2.map V.str))
theorem GL.at {H H' : Hp} {acc : List Grp} {ls : List Addr} (h : GL H acc ls) (k : ∀ l ∈ ls, ∀ xs, H l = some (.lst xs) → H' l = some (.lst xs)) : GL H' acc ls := by
  induction h with
  | nil => exact .nil
  | cons h t ih => exact .cons (k _ List.mem_cons_self _ h) (ih fun l hl => k l (List.mem_cons_of_mem _ hl))
theorem gK_len {H : Hp} {acc : List Grp} {ls : List Addr} (h : GL H acc ls) : (gK acc ls).length = acc.length := by
  unfold gK
  have := Paired.length h
  rw [List.length_map, List.length_zip]
  omega
theorem gK_snoc {H : Hp} {acc : List Grp} {ls : List Addr} (h : GL H acc ls) (g : Grp) (l : Addr) : gK (acc ++ [g]) (ls ++ [l]) = gK acc ls ++ [(kI g.1, V.ref l)] := by
  unfold gK
  rw [List.zip_append (Paired.length h), List.map_append]
  rfl
theorem gK_out {H : Hp} {acc : List Grp} {ls : List Addr} (h : GL H acc ls) {ns : List Int} (n : ns ∉ acc.map (·.1)) : valV (gK acc ls) (kI ns) = none := by
  induction h with
  | nil => rfl
  | @cons g l acc ls h t ih =>
    have e : ¬ kI g.1 = kI ns := fun z => n (List.mem_cons.mpr (.inl (kI_inj z).symm))
    exact (valV_neg (p := (kI g.1, V.ref l)) e).trans (ih fun z => n (List.mem_cons_of_mem _ z))
theorem gK_in {H : Hp} {acc : List Grp} {ls : List Addr} (h : GL H acc ls) {ns : List Int} (m : ns ∈ acc.map (·.1)) : ∃ l rs, valV (gK acc ls) (kI ns) = some (.ref l) ∧ l ∈ ls ∧ (ns, rs) ∈ acc ∧ H l = some (.lst (rs.map V.str)) := by
  induction h with
  | nil => exact nomatch m
  | @cons g l acc ls h t ih =>
    by_cases e : kI g.1 = kI ns
    · refine ⟨l, g.2, valV_pos (p := (kI g.1, V.ref l)) e, List.mem_cons_self, ?_, h⟩
      rw [← kI_inj e]
      exact List.mem_cons_self
    · rcases List.mem_cons.mp m with z | z
      · exact absurd (by rw [z]) e
      · obtain ⟨l2, rs, h1, h2, h3, h4⟩ := ih z
        exact ⟨l2, rs, (valV_neg (p := (kI g.1, V.ref l)) e).trans h1, List.mem_cons_of_mem _ h2, List.mem_cons_of_mem _ h3, h4⟩
/-- one group grows -/
theorem GL.grow {H : Hp} {an : Str → List Int} {z : Str} {acc : List Grp} {ls : List Addr} (h : GL H acc ls) (nd : (acc.map (·.1)).Nodup) (nl : ls.Nodup) (m : an z ∈ acc.map (·.1)) :
    ∃ l rs, valV (gK acc ls) (kI (an z)) = some (.ref l) ∧ l ∈ ls ∧ (an z, rs) ∈ acc ∧ H l = some (.lst (rs.map V.str)) ∧ GL (upd H l (.lst ((rs ++ [z]).map V.str))) (acc.map fun p => if p.1 = an z then (p.1, p.2 ++ [z]) else p) ls := by
  induction h with
  | nil => exact nomatch m
  | @cons g l acc ls h t ih =>
    rw [List.map_cons] at nd
    obtain ⟨n1, nd2⟩ := List.nodup_cons.mp nd
    obtain ⟨n2, nl2⟩ := List.nodup_cons.mp nl
    by_cases e : g.1 = an z
    · refine ⟨l, g.2, valV_pos (p := (kI g.1, V.ref l)) (by rw [e]), List.mem_cons_self, by rw [← e]; exact List.mem_cons_self, h, ?_⟩
      rw [List.map_cons, if_pos e]
      refine .cons upd_same ?_
      have same : (acc.map fun p => if p.1 = an z then (p.1, p.2 ++ [z]) else p) = acc := by
        refine (List.map_congr_left fun p hp => ?_).trans (List.map_id acc)
        rw [if_neg]
        · rfl
        · intro z2
          exact n1 (by rw [e, ← z2]; exact List.mem_map.mpr ⟨p, hp, rfl⟩)
      rw [same]
      exact GL.at t fun l2 h2 xs ex => (upd_ne fun z3 => n2 (by rw [← z3]; exact h2)).trans ex
    · have m2 : an z ∈ acc.map (·.1) := by
        rcases List.mem_cons.mp m with z2 | z2
        · exact absurd z2.symm e
        · exact z2
      obtain ⟨l2, rs, h1, h2, h3, h4, h5⟩ := ih nd2 nl2 m2
      refine ⟨l2, rs, (valV_neg (p := (kI g.1, V.ref l)) fun z2 => e (kI_inj z2)).trans h1, List.mem_cons_of_mem _ h2, List.mem_cons_of_mem _ h3, h4, ?_⟩
      rw [List.map_cons, if_neg e]
      exact .cons ((upd_ne fun z3 => n2 (by rw [z3]; exact h2)).trans h) h5
theorem gK_map (an : Str → List Int) (z : Str) : ∀ (acc : List Grp) (ls : List Addr), gK (acc.map fun p => if p.1 = an z then (p.1, p.2 ++ [z]) else p) ls = gK acc ls
  | [], _ => rfl
  | _ :: _, [] => by simp [gK]
  | g :: acc, l :: ls => by
    have ih := gK_map an z acc ls
    unfold gK at ih ⊢
    rw [List.map_cons, List.zip_cons_cons, List.zip_cons_cons, List.map_cons, List.map_cons, ih]
    congr 1
    dsimp only
    split <;> rfl
end G
set_option Elab.async false
set_option linter.all false
set_option maxRecDepth 100000
set_option maxHeartbeats 8000000
/-! GS: what stands in each group; the order of the groups. -/
namespace G
open PySem PySem.Spec PyProof.Rows L2 NdefX DvT StX SkL
abbrev rowsA (an : Str → List Int) (zs : List Str) (k : List Int) : List Str := zs.filter fun z => decide (an z = k)
theorem rowsA_snoc (an : Str → List Int) (zs : List Str) (z : Str) (k : List Int) : rowsA an (zs ++ [z]) k = if an z = k then rowsA an zs k ++ [z] else rowsA an zs k := by
  unfold rowsA
  rw [List.filter_append]
  by_cases e : an z = k
  · rw [if_pos e]
    simp [e]
  · rw [if_neg e]
    simp [e]
theorem mem_addG {an : Str → List Int} {acc : List Grp} {z : Str} {k : List Int} : k ∈ (addG an acc z).map (·.1) ↔ k ∈ acc.map (·.1) ∨ k = an z := by
  rw [addG_keys]
  split
  · rename_i h
    exact ⟨.inl, fun h2 => h2.elim id fun e => by rw [e]; exact h⟩
  · rw [List.mem_append, List.mem_singleton]
/-- each group: its rows in their order; each answer has a group -/
structure GrpIs (an : Str → List Int) (zs : List Str) (gs : List Grp) : Prop where
  keys : ∀ k, k ∈ gs.map (·.1) ↔ ∃ z ∈ zs, an z = k
  rows : ∀ g ∈ gs, g.2 = rowsA an zs g.1
theorem grpIs_snoc {an : Str → List Int} {zs : List Str} {gs : List Grp} (h : GrpIs an zs gs) (z : Str) : GrpIs an (zs ++ [z]) (addG an gs z) := by
  refine ⟨fun k => ?_, fun g hg => ?_⟩
  · rw [mem_addG, h.keys k]
    constructor
    · rintro (⟨y, hy, e⟩ | e)
      · exact ⟨y, List.mem_append_left _ hy, e⟩
      · exact ⟨z, List.mem_append_right _ (List.mem_singleton.mpr rfl), e.symm⟩
    · rintro ⟨y, hy, e⟩
      rcases List.mem_append.mp hy with hy | hy
      · exact .inl ⟨y, hy, e⟩
      · rw [List.mem_singleton.mp hy] at e
        exact .inr e.symm
  · rw [rowsA_snoc]
    unfold addG at hg
    split at hg
    · obtain ⟨p, hp, rfl⟩ := List.mem_map.mp hg
      have e := h.rows p hp
      by_cases q : p.1 = an z
      · rw [if_pos q]
        show p.2 ++ [z] = if an z = p.1 then _ else _
        rw [if_pos q.symm, e]
      · rw [if_neg q, if_neg (fun z => q z.symm)]
        exact e
    · rename_i n
      rcases List.mem_append.mp hg with hg | hg
      · have ne : ¬ an z = g.1 := fun e => n (by rw [e]; exact List.mem_map.mpr ⟨g, hg, rfl⟩)
        rw [if_neg ne]
        exact h.rows g hg
      · rw [List.mem_singleton.mp hg]
        show [z] = if an z = an z then _ else _
        rw [if_pos rfl]
        have : rowsA an zs (an z) = [] := List.filter_eq_nil_iff.mpr fun y hy => by
          intro e
          exact n ((h.keys _).mpr ⟨y, hy, of_decide_eq_true e⟩)
        show [z] = rowsA an zs (an z) ++ [z]
        rw [this]
        rfl
theorem grpIs (an : Str → List Int) (zs : List Str) : GrpIs an zs (groupsF an zs) := by
  have : ∀ (l pre : List Str) (gs : List Grp), GrpIs an pre gs → GrpIs an (pre ++ l) (l.foldl (addG an) gs) := by
    intro l
    induction l with
    | nil => intro pre gs h; rw [List.append_nil]; exact h
    | cons z l ih =>
      intro pre gs h
      have := ih (pre ++ [z]) _ (grpIs_snoc h z)
      rw [List.append_assoc] at this
      exact this
  exact this zs [] [] ⟨fun k => ⟨fun h => (nomatch h), fun ⟨_, h, _⟩ => (nomatch h)⟩, fun _ h => nomatch h⟩
abbrev encK (ns : List Int) : PyData := .tuple (ns.map .int)
abbrev keysS (an : Str → List Int) (zs : List Str) : List (List Int) := ((groupsF an zs).map (·.1)).mergeSort (PySem.W.dataLe false encK)
/-- the groups by ascending answers -/
def dueG (an : Str → List Int) (zs : List Str) : List Grp := (keysS an zs).map fun k => (k, rowsA an zs k)
theorem keysS_mem {an : Str → List Int} {zs : List Str} {k : List Int} : k ∈ keysS an zs ↔ ∃ z ∈ zs, an z = k := by
  rw [List.mem_mergeSort]
  exact (grpIs an zs).keys k
theorem keysS_nd (an : Str → List Int) (zs : List Str) : (keysS an zs).Nodup := ((List.mergeSort_perm _ _).nodup_iff).mpr (groupsF_nd an zs)
theorem keysS_len (an : Str → List Int) (zs : List Str) : (keysS an zs).length ≤ zs.length := by
  rw [List.length_mergeSort, List.length_map]
  exact groupsF_len an zs
theorem sortT_keys (ts : List SkL.TI) : (sortT ts).map (·.2) = (ts.map (·.2)).mergeSort (PySem.W.dataLe false encK) := List.map_mergeSort fun a _ b _ => rfl
/-! ### the answer of grouped -/
/-- a header, its answer's tuple, the group -/
abbrev Hd := Addr × Addr × Grp
def wlV (ys : List Hd) : List V := ys.flatMap fun y => V.ref y.1 :: y.2.2.2.map V.str
def hdK (k : List Int) : NestedKey := .tup [.text "group", .tup (k.map .num)]
def cdE (ys : List Hd) : List Ent := ys.map fun y => (hdK y.2.2.1, y.1, V.int (y.2.2.2.length : Int))
structure HdsAt (H : Hp) (ys : List Hd) : Prop where
  hd : ∀ y ∈ ys, H y.1 = some (.tup [.str "group", .ref y.2.1]) ∧ H y.2.1 = some (.tup (y.2.2.1.map V.int))
theorem HdsAt.at {H H' : Hp} {ys : List Hd} (h : HdsAt H ys) (k : ∀ a xs, H a = some (.tup xs) → H' a = some (.tup xs)) : HdsAt H' ys := ⟨fun y hy => ⟨k _ _ (h.hd y hy).1, k _ _ (h.hd y hy).2⟩⟩
theorem nvs_ints {H : Hp} : ∀ ns : List Int, NVs H (ns.map V.int) (ns.map NestedKey.num)
  | [] => .nil
  | n :: ns => .cons (.int n) (nvs_ints ns)
theorem hdK_nv {H : Hp} {h a : Addr} {k : List Int} (eh : H h = some (.tup [.str "group", .ref a])) (ea : H a = some (.tup (k.map V.int))) : NV H (.ref h) (hdK k) := .tup eh (.cons (.str "group") (.cons (.tup ea (nvs_ints k)) .nil))
theorem hdK_depth (k : List Int) : (hdK k).depth ≤ 8 := by
  have : ∀ ns : List Int, NestedKey.depthAll (ns.map NestedKey.num) = 0 := by
    intro ns
    induction ns with
    | nil => rfl
    | cons n ns ih => simp [NestedKey.depthAll, NestedKey.depth, ih]
  simp [hdK, NestedKey.depthAll, NestedKey.depth, this]
theorem cdE_ks {H : Hp} {ys : List Hd} (h : HdsAt H ys) : KsN H (cdE ys) := by
  intro e he
  obtain ⟨y, hy, rfl⟩ := List.mem_map.mp he
  exact ⟨hdK_nv (h.hd y hy).1 (h.hd y hy).2, hdK_depth _⟩
theorem hdK_inj {j k : List Int} (h : hdK j = hdK k) : j = k := by
  unfold hdK at h
  injection h with h
  injection h with _ h
  injection h with h _
  injection h with h
  have : ∀ j k : List Int, j.map NestedKey.num = k.map NestedKey.num → j = k := by
    intro j
    induction j with
    | nil => intro k h; cases k with
      | nil => rfl
      | cons _ _ => cases h
    | cons a j ih => intro k h; cases k with
      | nil => cases h
      | cons b k =>
        injection h with h1 h2
        injection h1 with h1
        rw [h1, ih k h2]
  exact this j k h
theorem hasN_not {ys : List Hd} {k : List Int} (h : k ∉ ys.map (·.2.2.1)) : hasN (cdE ys) (hdK k) = false := by
  unfold hasN cdE
  rw [List.any_map]
  refine List.any_eq_false.mpr fun y hy => ?_
  simp only [Function.comp, decide_eq_true_eq]
  intro e
  exact h (List.mem_map.mpr ⟨y, hy, hdK_inj e⟩)
theorem cdE_snoc {ys : List Hd} {y : Hd} (h : y.2.2.1 ∉ ys.map (·.2.2.1)) : storeN (cdE ys) (hdK y.2.2.1) y.1 (V.int (y.2.2.2.length : Int)) = cdE (ys ++ [y]) := by
  unfold storeN
  rw [if_neg (by rw [hasN_not h]; decide)]
  unfold cdE
  rw [List.map_append]
  rfl
end G
set_option Elab.async false
set_option linter.all false
set_option maxRecDepth 100000
set_option maxHeartbeats 8000000
/-! GT: grouped, walked. -/
namespace G
open PySem PySem.Spec PyProof.Rows L2 NdefX DvT StX SkL
/-- what grouped answers -/
structure GrpAt (P : Program) (w : World) (H : Hp) (T W C : Addr) (an : Str → List Int) (zs : List Str) (ys : List Hd) : Prop where
  tt : H T = some (.tup [.ref W, .ref C])
  wl : H W = some (.lst (wlV ys))
  c : H C = some (dnO P w C (cdE ys))
  h : HdsAt H ys
  g : ys.map (·.2.2) = dueG an zs
def spGrp (P : Program) (w : World) (K : PySem.W.Frag) : Sp := fun vs H Q _ => ∃ (l d : Addr) (zs : List Str) (kvs : List (Key × V)) (an : Str → List Int), vs = [.ref l, .ref d] ∧ SqLT K H l (zs.map V.str) ∧ RowsOk zs ∧ AnsOf H d kvs zs an ∧
  ∀ (T W C : Addr) (ys : List Hd) (H' : Hp), Same H H' → H T = none → H W = none → H C = none → GrpAt P w H' T W C an zs ys → Q (.ref T) H'
/-- the dict of the groups under way -/
structure GrA (H0 H : Hp) (D : Addr) (acc : List Grp) (ls : List Addr) : Prop where
  s : Same H0 H
  d : H D = some (.dT (gK acc ls))
  l : GL H acc ls
  nd : ls.Nodup
  off : ∀ l ∈ ls, l ≠ D ∧ H0 l = none
theorem keysZ {H H' : Hp} {gs : List Grp} {ls bs : List Addr} (h : GL H gs ls) (k : IsKeys H' (gK gs ls) bs) : (bs.zip (gs.map (·.1))).map (fun p => V.ref p.1) = bs.map V.ref ∧ (bs.zip (gs.map (·.1))).map (·.2) = gs.map (·.1) ∧ ∀ p ∈ bs.zip (gs.map (·.1)), H' p.1 = some (.tup (p.2.map V.int)) := by
  induction h generalizing bs with
  | nil =>
    cases k
    exact ⟨rfl, rfl, fun _ h => nomatch h⟩
  | @cons g l gs ls h t ih =>
    cases k with
    | @cons _ b _ bs e r =>
      obtain ⟨h1, h2, h3⟩ := ih r
      refine ⟨congrArg (V.ref b :: ·) h1, congrArg (g.1 :: ·) h2, fun p hp => ?_⟩
      rcases List.mem_cons.mp hp with z | z
      · rw [z]
        exact e.trans (by rw [kI_V])
      · exact h3 p z
theorem wlV_len {ys : List Hd} (h : ∀ y ∈ ys, y.2.2.2.length ≤ 40) : (wlV ys).length ≤ 41 * ys.length := by
  induction ys with
  | nil => exact Nat.le_refl _
  | cons y ys ih =>
    have h1 := ih fun z hz => h z (List.mem_cons_of_mem _ hz)
    have h2 := h y List.mem_cons_self
    unfold wlV at h1 ⊢
    rw [List.flatMap_cons, List.length_append, List.length_cons, List.length_map, List.length_cons]
    omega
theorem wlV_snoc (ys : List Hd) (y : Hd) : wlV (ys ++ [y]) = wlV ys ++ V.ref y.1 :: y.2.2.2.map V.str := by
  unfold wlV
  rw [List.flatMap_append]
  simp
section
variable {X : Cx} {P : Program} {w : World} {pos pos' : Pos} {o i value : Expr} {td ty tv : TE}
theorem pe_dnewP (hP : X.prog = P) (hw : X.w = w) : PE X (.Dict [] [] pos) (tDNewN P w) := by
  subst hP hw
  exact pe_dnewN
theorem ps_dputP (hP : X.prog = P) (hw : X.w = w) (hu : X.A.units + 16 < cLine) (ho : PE X o td) (hi : PE X i ty) (hv : PE X value tv) (hs : swapsWith value (some (.Subscript o i pos')) pos.line X.env = pure false := by rfl) :
    PS X (.Assign [.Subscript o i pos'] value pos) (sDPutN P w td ty tv) := by
  subst hP hw
  exact ps_dputN hu ho hi hv hs
end
section
variable {P : Program} {w : World} {K : PySem.W.Frag} {mg : Str → Option Value} {base : Heap}
theorem ok_grp {f fA : Addr} {fd fdA : FuncData} (F : Fun K "grouped" "grouped" sGrp f fd) (GA : FnOk P w K mg base CX0 5 fA fdA ["rows", "answers"] (spFullAs K)) (gA : mg "full_answers" = some (.ref fA)) (kA : PySem.W.keepIn K (.ref fA) = true) (bA : Binds K fdA ["rows", "answers"] [])
    (mL : mg "list" = none) (mS : mg "sorted" = none) (ml : mg "len" = none) : FnOk P w K mg base CX0 6 f fd ["rows", "answers"] (spGrp P w K) := by
  refine F.ok scGrp (fun vs H Q E h => ?_) (fun cdv A outer s H vs Q E hr h => ?_)
  · obtain ⟨l, d, zs, kvs, an, rfl, _⟩ := h
    rfl
  · obtain ⟨l, d, zs, kvs, an, rfl, hl, ok, ha, q⟩ := h
    have hu2 : (A.deeper (envOfC "grouped" (defScope sGrp) s.heap.objs.size f cdv)).units + 2 < cLine := by have := hr.units; omega
    have hu8 : (A.deeper (envOfC "grouped" (defScope sGrp) s.heap.objs.size f cdv)).units + 8 < cLine := by have := hr.units; omega
    have hu16 : (A.deeper (envOfC "grouped" (defScope sGrp) s.heap.objs.size f cdv)).units + 16 < cLine := by have := hr.units; omega
    refine ⟨_, pss_cons (ps_set (i := 2) scGrp.nd rfl (.inl rfl) (pe_call GA hr rfl gA kA bA .nil pass0 (pa_cons (pv 0) (pa_cons (pv 1) pa_nil))))
      (pss_cons (ps_set (i := 3) scGrp.nd rfl (.inl rfl) pe_dnewT)
      (pss_cons (ps_for PassesOwn.never rfl (pi_lw (pv 0)) (pg_name (i := 4) scGrp.nd rfl (.inl rfl))
        (pss_one (ps_expr (pe_bm PySem.F.plainAttrs_list PySem.F.slot_list_append PySem.F.type_list_append mt_append
          (pe_setdT hu2 (pv 3) (pe_dget (hu_of hr) (pv 2) (pv 4) (fun _ _ => rfl)) (pe_lst pa_nil) ⟨by rfl, by rfl, by rfl, by rfl⟩) (pa_cons (pv 4) pa_nil)))))
      (pss_cons (ps_set (i := 5) scGrp.nd rfl (.inl rfl) (pe_lst pa_nil))
      (pss_cons (ps_set (i := 6) scGrp.nd rfl (.inl rfl) (pe_dnewP (P := P) (w := w) rfl rfl))
      (pss_cons (ps_for PassesOwn.never rfl (pi_list (pe_callB (cr_sortedT hu8) (by rfl) mS (by decide +kernel) (pa_cons (pe_callTy (call_list_dT rfl) (by rfl) mL (by decide +kernel) (pa_cons (pv 3) pa_nil)) pa_nil))) (pg_name (i := 7) scGrp.nd rfl (.inl rfl))
        (pss_cons (ps_set (i := 8) scGrp.nd rfl (.inl rfl) (pe_tup (pa_cons pe_str (pa_cons (pv 7) pa_nil))))
        (pss_cons (ps_expr (pe_bm PySem.F.plainAttrs_list PySem.F.slot_list_extend PySem.F.type_list_extend mt_extend (pv 5) (pa_cons (pe_lst (pa_cons (pv 8) (StX.pa_star (pe_dget (hu_of hr) (pv 3) (pv 7) (fun _ _ => rfl)) pa_nil))) pa_nil)))
        (pss_one (ps_dputP (P := P) (w := w) rfl rfl hu16 (pv 6) (pv 8) (pe_callB call_len_seq (by rfl) ml PySem.boot_len (pa_cons (pe_dget (hu_of hr) (pv 3) (pv 7) (fun _ _ => rfl)) pa_nil)))))))
      (pss_one (ps_ret (pe_tup (pa_cons (pv 5) (pa_cons (pv 6) pa_nil)))))))))), ?_⟩
    refine ⟨_, rfl, _, rfl, l, d, zs, kvs, an, rfl, hl, ok, ha, fun p H1 fk s1 np wo => ?_⟩
    intro D hD
    have few := ok.few
    have lz : (zs.map V.str).length = zs.length := List.length_map ..
    have sD := Same.new (o := .dT []) hD
    have kl : ∀ {k : List Int}, (∃ z ∈ zs, an z = k) → 1 ≤ k.length ∧ k.length ≤ 3 := by
      rintro k ⟨z, hz, rfl⟩
      obtain ⟨v, _, h2, _⟩ := ha.is z hz
      rcases h2 with ⟨i, _, e⟩ | ⟨a, _, _, h3⟩
      · rw [e]
        exact ⟨Nat.le_refl _, Nat.le_of_ble_eq_true rfl⟩
      · exact h3
    refine ⟨_, rfl, l, _, rfl, (hl.keep s1).keep sD, fun J G wk hG => ?_⟩
    refine for_it wk (fun i σ H2 => ∃ ls, GrA H1 H2 D (groupsF an (zs.take i)) ls ∧ ∃ x4 : Option V, σ = [some (.ref l), some (.ref d), some (.ref p), some (.ref D), x4, none, none, none, none]) ?_ ?_ ?_ ?_
    · exact ⟨[], ⟨sD, upd_same, .nil, List.nodup_nil, fun _ h => nomatch h⟩, none, rfl⟩
    · rintro i σ H2 _ ⟨ls, gr, _⟩
      have kp : ∀ c o, c ≠ D → upd H1 D (.dT []) c = some o → H2 c = some o := fun c o n e => gr.s c o ((upd_ne n).symm.trans e)
      exact hG H2 (sqL_off upd_same kp) (sqT_off upd_same kp)
    · rintro i x σ H2 H2' hi ⟨ls, gr, x4, rfl⟩ ⟨rfl, hx⟩
      rw [List.getElem?_map] at hx
      obtain ⟨z, hz, rfl⟩ := Option.map_eq_some_iff.mp hx
      have mz := List.mem_of_getElem? hz
      have wo2 := wo.same gr.s
      obtain ⟨T, e1, eT⟩ := wo2.is z mz
      have g := DGet.k (k := Sum.inr z) wo2.d
      rw [e1] at g
      have hg40 : (groupsF an (zs.take i)).length ≤ 40 := by
        have := groupsF_len an (zs.take i)
        rw [List.length_take] at this
        omega
      have hlen : (gK (groupsF an (zs.take i)) ls).length < sizeLine := by
        rw [gK_len gr.l]
        exact small1000 (by omega)
      have hnd := groupsF_nd an (zs.take i)
      refine ⟨_, rfl, D, rfl, .inr ⟨_, .inl gr.d⟩, _, rfl, _, rfl, p, _, rfl, g, by decide, fun b hb => ?_⟩
      have sb := Same.new (o := .lst []) hb
      have nbD : b ≠ D := fun e => by
        rw [e, gr.d] at hb
        cases hb
      have n1b : H1 b = none := gr.s.free hb
      have nbl : b ∉ ls := fun hm => by
        obtain ⟨g0, e0⟩ := Paired.right gr.l b hm
        rw [hb] at e0
        cases e0
      refine ⟨_, kI (an z), T, (sb _ _ gr.d), rfl, by rw [kI_V]; exact sb _ _ eT, hlen, fun v hv => ?_, fun hv => ?_⟩
      · by_cases hm : an z ∈ (groupsF an (zs.take i)).map (·.1)
        · have g2 : GL (upd H2' b (.lst [])) (groupsF an (zs.take i)) ls := GL.at gr.l fun l0 h0 xs e => sb _ _ e
          obtain ⟨l0, rs, h1, h2, h3, h4, h5⟩ := GL.grow g2 hnd gr.nd hm
          obtain rfl : v = .ref l0 := Option.some.inj (hv.symm.trans h1)
          obtain ⟨o1, o2⟩ := gr.off l0 h2
          have hrs := groupsF_size an (zs.take i) _ h3
          have hrs2 : rs.length ≤ 40 := by
            have h0 : rs.length ≤ (zs.take i).length := hrs
            rw [List.length_take] at h0
            omega
          refine ⟨.inl ⟨rfl, _, .of h4⟩, _, rfl, l0, rs.map V.str, _, rfl, rfl, h4, small1000 (by rw [List.length_map]; omega), ls, ?_, _, rfl⟩
          rw [take_snoc hz, groupsF_snoc]
          refine ⟨fun c o e => (upd_ne (ne_of_none e o2)).trans (sb _ _ (gr.s _ _ e)), ?_, ?_, gr.nd, gr.off⟩
          · unfold addG
            rw [if_pos hm, gK_map]
            exact (upd_ne o1.symm).trans (sb _ _ gr.d)
          · unfold addG
            rw [if_pos hm]
            rw [List.map_append] at h5
            exact h5
        · rw [gK_out gr.l hm] at hv
          cases hv
      · have hm : an z ∉ (groupsF an (zs.take i)).map (·.1) := fun hm => by
          obtain ⟨l0, rs, h1, _⟩ := gK_in gr.l hm
          rw [h1] at hv
          cases hv
        refine ⟨.inl ⟨rfl, _, .of ((upd_ne nbD).trans upd_same)⟩, _, rfl, b, [], _, rfl, rfl, (upd_ne nbD).trans upd_same, small1000 (Nat.zero_le _), ls ++ [b], ?_, _, rfl⟩
        rw [take_snoc hz, groupsF_snoc]
        unfold addG
        rw [if_neg hm]
        refine ⟨fun c o e => ?_, ?_, ?_, ?_, ?_⟩
        · rw [upd_ne (ne_of_none e n1b), upd_ne (ne_of_none e hD), upd_ne (ne_of_none e n1b)]
          exact gr.s _ _ e
        · rw [upd_ne nbD.symm, upd_same, putK_new _ hv, gK_snoc gr.l]
        · refine Paired.snoc (GL.at gr.l fun l0 h0 xs e => ?_) upd_same
          have nb : l0 ≠ b := fun z => nbl (by rw [← z]; exact h0)
          rw [upd_ne nb, upd_ne (gr.off l0 h0).1, upd_ne nb]
          exact e
        · exact List.nodup_append.mpr ⟨gr.nd, by simp, fun a ha b' hb' => by
            rw [List.mem_singleton.mp hb']
            rintro rfl
            exact nbl ha⟩
        · intro l0 h0
          rcases List.mem_append.mp h0 with h0 | h0
          · exact gr.off l0 h0
          · rw [List.mem_singleton.mp h0]
            exact ⟨nbD, n1b⟩
    · rintro σ H2 ⟨ls, gr, x4, rfl⟩
      rw [lz, List.take_length] at gr
      refine ⟨by decide, fun W hW => ?_⟩
      intro C hC
      have nWC : W ≠ C := fun e => by
        rw [e, upd_same] at hC
        cases hC
      have hC2 : H2 C = none := (upd_ne nWC.symm).symm.trans hC
      have nDW : D ≠ W := ne_of_none gr.d hW
      have nDC : D ≠ C := ne_of_none gr.d hC2
      have s3 : Same H2 (upd (upd H2 W (.lst [])) C (dnO P w C [])) := (Same.new hW).trans (Same.new hC)
      refine ⟨_, rfl, D, _, rfl, .of (s3 _ _ gr.d), fun p2 bs hp2 ik => ?_⟩
      obtain ⟨z1, z2, z3⟩ := keysZ gr.l ik
      have s4 := s3.trans (Same.new (o := .lst (bs.map V.ref)) hp2)
      refine ⟨p2, bs.zip ((groupsF an zs).map (·.1)), rfl, ?_, ?_, ?_, fun p3 hp3 => ?_⟩
      · rw [z1]
        exact .of upd_same
      · intro p hp
        have hk : p.2 ∈ (groupsF an zs).map (·.1) := by
          rw [← z2]
          exact List.mem_map.mpr ⟨p, hp, rfl⟩
        obtain ⟨k1, k3⟩ := kl (((grpIs an zs).keys _).mp hk)
        refine ⟨?_, k1, by omega⟩
        rw [upd_ne (ne_of_none (z3 p hp) hp2)]
        exact z3 p hp
      · have h1 : (bs.zip ((groupsF an zs).map (·.1))).length = (groupsF an zs).length := by
          rw [← List.length_map (f := (·.2)), z2, List.length_map]
        have h2 := groupsF_len an zs
        exact Nat.le_of_lt (small1000 (by omega))
      · have eK : (sortT (bs.zip ((groupsF an zs).map (·.1)))).map (·.2) = keysS an zs := by rw [sortT_keys, z2]
        have tA : ∀ u ∈ sortT (bs.zip ((groupsF an zs).map (·.1))), upd (upd (upd H2 W (.lst [])) C (dnO P w C [])) p2 (.lst (bs.map V.ref)) u.1 = some (.tup (u.2.map V.int)) := fun u hu => by
          have hp := (List.mergeSort_perm _ _).mem_iff.mp hu
          rw [upd_ne (ne_of_none (z3 u hp) hp2)]
          exact z3 u hp
        revert eK tA
        generalize hus : sortT (bs.zip ((groupsF an zs).map (·.1))) = us
        intro eK tA
        have s5 := s4.trans (Same.new (o := .lst (us.map fun q => V.ref q.1)) hp3)
        have s12 := gr.s.trans s5
        have nW : H1 W = none := gr.s.free hW
        have nC : H1 C = none := gr.s.free hC2
        have W3 : upd (upd (upd H2 W (.lst [])) C (dnO P w C [])) p2 (.lst (bs.map V.ref)) W = some (.lst []) := by
          have e : upd (upd H2 W (.lst [])) C (dnO P w C []) W = some (.lst []) := (upd_ne nWC).trans upd_same
          rw [upd_ne (ne_of_none e hp2)]
          exact e
        have C3 : upd (upd (upd H2 W (.lst [])) C (dnO P w C [])) p2 (.lst (bs.map V.ref)) C = some (dnO P w C []) := by
          rw [upd_ne (ne_of_none upd_same hp2), upd_same]
        have D3 := s5 _ _ gr.d
        have L3 : GL (upd (upd (upd (upd H2 W (.lst [])) C (dnO P w C [])) p2 (.lst (bs.map V.ref))) p3 (.lst (us.map fun q => V.ref q.1))) (groupsF an zs) ls := GL.at gr.l fun l0 _ xs e => s5 _ _ e
        have T3 : ∀ u ∈ us, upd (upd (upd (upd H2 W (.lst [])) C (dnO P w C [])) p2 (.lst (bs.map V.ref))) p3 (.lst (us.map fun q => V.ref q.1)) u.1 = some (.tup (u.2.map V.int)) := fun u hu => by
          rw [upd_ne (ne_of_none (tA u hu) hp3)]
          exact tA u hu
        have WW : upd (upd (upd (upd H2 W (.lst [])) C (dnO P w C [])) p2 (.lst (bs.map V.ref))) p3 (.lst (us.map fun q => V.ref q.1)) W = some (.lst []) := by
          rw [upd_ne (ne_of_none W3 hp3)]
          exact W3
        have CC : upd (upd (upd (upd H2 W (.lst [])) C (dnO P w C [])) p2 (.lst (bs.map V.ref))) p3 (.lst (us.map fun q => V.ref q.1)) C = some (dnO P w C []) := by
          rw [upd_ne (ne_of_none C3 hp3)]
          exact C3
        have n3W : p3 ≠ W := fun e => by
          rw [e, W3] at hp3
          cases hp3
        have n3C : p3 ≠ C := fun e => by
          rw [e, C3] at hp3
          cases hp3
        refine ⟨p3, rfl, ⟨_, .of upd_same⟩, ?_⟩
        have P3 : upd (upd (upd (upd H2 W (.lst [])) C (dnO P w C [])) p2 (.lst (bs.map V.ref))) p3 (.lst (us.map fun q => V.ref q.1)) p3 = some (.lst (us.map fun q => V.ref q.1)) := upd_same
        revert s12 D3 L3 T3 WW CC P3
        generalize upd (upd (upd (upd H2 W (.lst [])) C (dnO P w C [])) p2 (.lst (bs.map V.ref))) p3 (.lst (us.map fun q => V.ref q.1)) = H4
        intro s12 D3 L3 T3 WW CC P3
        have lU : (us.map fun q => V.ref q.1).length = us.length := List.length_map ..
        have lK : us.length = (keysS an zs).length := by rw [← eK, List.length_map]
        have nl0 : ∀ l0 ∈ ls, l0 ≠ W ∧ l0 ≠ C := fun l0 h0 => by
          obtain ⟨g0, e0⟩ := Paired.right gr.l l0 h0
          exact ⟨ne_of_none e0 hW, ne_of_none e0 hC2⟩
        refine for_list (xs := us.map fun q => V.ref q.1) (fun i σ H5 => ∃ ys : List Hd, ys.map (·.2.2) = (dueG an zs).take i ∧ H5 W = some (.lst (wlV ys)) ∧ H5 C = some (dnO P w C (cdE ys)) ∧ HdsAt H5 ys ∧ (∀ c o, c ≠ W → c ≠ C → H4 c = some o → H5 c = some o) ∧
          ∃ x7 x8 : Option V, σ = [some (.ref l), some (.ref d), some (.ref p), some (.ref D), x4, some (.ref W), some (.ref C), x7, x8]) ?_ ?_ ?_ ?_
        · exact ⟨[], rfl, WW, CC, ⟨fun _ h => nomatch h⟩, fun _ _ _ _ e => e, none, none, rfl⟩
        · rintro i σ H5 _ ⟨ys, _, _, _, _, k5, _⟩
          exact .of (k5 _ _ n3W n3C P3)
        · rintro i x σ H5 hx ⟨ys, ey, eW, eC, hh2, k5, x7, x8, rfl⟩
          rw [List.getElem?_map] at hx
          obtain ⟨u, hu, rfl⟩ := Option.map_eq_some_iff.mp hx
          have mu := List.mem_of_getElem? hu
          obtain ⟨a, k⟩ := u
          have ea : H5 a = some (.tup (k.map V.int)) := by
            have e := T3 _ mu
            exact k5 _ _ (ne_of e WW (fun z => nomatch z)) (ne_of e CC (fun z => nomatch z)) e
          have hk : (keysS an zs)[i]? = some k := by rw [← eK, List.getElem?_map, hu]; rfl
          have ek : k ∈ (groupsF an zs).map (·.1) := List.mem_mergeSort.mp (List.mem_of_getElem? hk)
          obtain ⟨l0, rs, g1, g2, g3, g4⟩ := gK_in L3 ek
          have er : rs = rowsA an zs k := (grpIs an zs).rows _ g3
          have hrs : rs.length ≤ 40 := Nat.le_trans (groupsF_size an zs _ g3) few
          have e4 : H5 l0 = some (.lst (rs.map V.str)) := k5 _ _ (nl0 l0 g2).1 (nl0 l0 g2).2 g4
          have e3 : H5 D = some (.dT (gK (groupsF an zs) ls)) := k5 _ _ nDW nDC D3
          have kt : (dueG an zs).take (i + 1) = (dueG an zs).take i ++ [(k, rs)] := by
            rw [List.take_add_one]
            unfold dueG
            rw [List.getElem?_map, hk, er]
            rfl
          have kn : k ∉ ys.map (·.2.2.1) := by
            have e1 : ys.map (·.2.2.1) = (keysS an zs).take i := by
              have : ys.map (·.2.2.1) = (ys.map (·.2.2)).map (·.1) := by rw [List.map_map]; rfl
              rw [this, ey, List.map_take]
              unfold dueG
              rw [List.map_map]
              exact congrArg _ (List.map_id _)
            have e2 : (keysS an zs).take (i + 1) = (keysS an zs).take i ++ [k] := by rw [List.take_add_one, hk]; rfl
            have nd := (List.take_sublist (i + 1) (keysS an zs)).nodup (keysS_nd an zs)
            rw [e2] at nd
            rw [e1]
            intro hm
            exact (List.nodup_append.mp nd).2.2 _ hm _ (List.mem_singleton.mpr rfl) rfl
          have yl : ys.length ≤ 40 := by
            have : (ys.map (·.2.2)).length = ((dueG an zs).take i).length := by rw [ey]
            rw [List.length_map, List.length_take] at this
            have h2 : (dueG an zs).length = (keysS an zs).length := by unfold dueG; rw [List.length_map]
            have h3 := keysS_len an zs
            omega
          have yr : ∀ y ∈ ys, y.2.2.2.length ≤ 40 := fun y hy => by
            have hm : y.2.2 ∈ dueG an zs := List.mem_of_mem_take (by rw [← ey]; exact List.mem_map.mpr ⟨y, hy, rfl⟩)
            unfold dueG at hm
            obtain ⟨k2, _, e2⟩ := List.mem_map.mp hm
            rw [← e2]
            exact Nat.le_trans (List.length_filter_le _ _) few
          have wl := wlV_len yr
          have big : ∀ {k : Nat}, k ≤ 100000 → k < sizeLine := fun {k} h => by
            rw [sizeLine_eq]
            omega
          refine ⟨_, rfl, Nat.le_of_lt (big (show 2 ≤ 100000 by decide)), fun h hh => ?_⟩
          have nhW : W ≠ h := ne_of_none eW hh
          have nhC : C ≠ h := ne_of_none eC hh
          have s6 : Same H5 (upd H5 h (.tup [.str "group", .ref a])) := Same.new hh
          have eh6 : upd H5 h (.tup [.str "group", .ref a]) h = some (.tup [.str "group", .ref a]) := upd_same
          refine ⟨_, rfl, .inl ⟨rfl, _, .of (s6 _ _ eW)⟩, _, rfl, _, rfl, _, rfl, D, _, rfl, by rw [← g1]; exact DGet.t (s6 _ _ e3) (by rw [kI_V]; exact s6 _ _ ea), l0, _, rfl, .inr (.of (s6 _ _ e4)), ?_, fun q0 hq0 => ?_⟩
          · show (V.ref h :: (rs.map V.str ++ [])).length ≤ sizeLine
            rw [List.length_cons, List.length_append, List.length_map, List.length_nil]
            exact Nat.le_of_lt (big (by omega))
          have s7 : Same (upd H5 h (.tup [.str "group", .ref a])) (upd (upd H5 h (.tup [.str "group", .ref a])) q0 (.lst (V.ref h :: (rs.map V.str ++ [])))) := Same.new hq0
          have s57 := s6.trans s7
          have hq5 : H5 q0 = none := s6.free hq0
          refine ⟨W, q0, _, _, rfl, rfl, s57 _ _ eW, upd_same, ?_, ?_⟩
          · rw [List.length_cons, List.length_append, List.length_map, List.length_nil]
            exact Nat.le_of_lt (big (by omega))
          have s8 : ∀ c o, c ≠ W → H5 c = some o → upd (upd (upd H5 h (.tup [.str "group", .ref a])) q0 (.lst (V.ref h :: (rs.map V.str ++ [])))) W (.lst (wlV ys ++ (V.ref h :: (rs.map V.str ++ [])))) c = some o := fun c o n e => (upd_ne n).trans (s57 _ _ e)
          have tupNW : ∀ {c : Addr} {xs : List V}, H5 c = some (.tup xs) → c ≠ W := fun e => ne_of e eW (fun z => nomatch z)
          have hhW : h ≠ W := nhW.symm
          have eh8 : upd (upd (upd H5 h (.tup [.str "group", .ref a])) q0 (.lst (V.ref h :: (rs.map V.str ++ [])))) W (.lst (wlV ys ++ (V.ref h :: (rs.map V.str ++ [])))) h = some (.tup [.str "group", .ref a]) := (upd_ne hhW).trans (s7 _ _ eh6)
          have W8 : upd (upd (upd H5 h (.tup [.str "group", .ref a])) q0 (.lst (V.ref h :: (rs.map V.str ++ [])))) W (.lst (wlV ys ++ (V.ref h :: (rs.map V.str ++ [])))) W = some (.lst (wlV ys ++ (V.ref h :: (rs.map V.str ++ [])))) := upd_same
          revert s8 eh8 W8
          generalize upd (upd (upd H5 h (.tup [.str "group", .ref a])) q0 (.lst (V.ref h :: (rs.map V.str ++ [])))) W (.lst (wlV ys ++ (V.ref h :: (rs.map V.str ++ [])))) = H8
          intro s8 eh8 W8
          have ea8 := s8 _ _ (tupNW ea) ea
          have C8 := s8 _ _ nWC.symm eC
          have hh8 : HdsAt H8 ys := hh2.at fun c xs e => s8 _ _ (tupNW e) e
          refine ⟨_, rfl, _, rfl, D, _, rfl, by rw [← g1]; exact DGet.t (s8 _ _ nDW e3) (by rw [kI_V]; exact ea8), l0, _, rfl, .inl (.of (s8 _ _ (nl0 l0 g2).1 e4)), _, rfl, _, rfl, C, h, hdK k, cdE ys, rfl, rfl, C8, cdE_ks hh8, hdK_nv eh8 ea8, hdK_depth k, ?_, ?_⟩
          · unfold cdE
            rw [List.length_map]
            exact big (by omega)
          rw [show V.int ((rs.map V.str).length : Int) = V.int ((h, a, (k, rs)).2.2.2.length : Int) from by rw [List.length_map]]
          have e9 := cdE_snoc (ys := ys) (y := (h, a, (k, rs))) kn
          refine ⟨ys ++ [(h, a, (k, rs))], ?_, ?_, ?_, ?_, fun c o n1 n2 e => ?_, _, _, rfl⟩
          · rw [List.map_append, ey, kt]
            rfl
          · rw [upd_ne nWC, W8, wlV_snoc, List.append_nil]
          · rw [upd_same]
            exact congrArg (fun z => some (dnO P w C z)) e9
          · refine ⟨fun y hy => ?_⟩
            have off : ∀ {c : Addr} {xs : List V}, H8 c = some (.tup xs) → upd H8 C (dnO P w C (storeN (cdE ys) (hdK k) h (V.int ((h, a, (k, rs)).2.2.2.length : Int)))) c = some (.tup xs) := fun e => (upd_ne (ne_of e C8 (fun z => nomatch z))).trans e
            rcases List.mem_append.mp hy with hy | hy
            · exact ⟨off (hh8.hd y hy).1, off (hh8.hd y hy).2⟩
            · rw [List.mem_singleton.mp hy]
              exact ⟨off eh8, off ea8⟩
          · exact (upd_ne n2).trans (s8 _ _ n1 (k5 _ _ n1 n2 e))
        · rintro σ H5 ⟨ys, ey, eW, eC, hh, k5, x7, x8, rfl⟩
          refine ⟨_, rfl, _, rfl, Nat.le_of_lt (small1000 (show 2 ≤ 1000 by decide)), fun T hT => ?_⟩
          have sT : Same H5 (upd H5 T (.tup [.ref W, .ref C])) := Same.new hT
          have s15 : Same H1 H5 := fun c o e => k5 _ _ (ne_of_none e nW) (ne_of_none e nC) (s12 _ _ e)
          refine q T W C ys _ ((s1.trans s15).trans sT) ((s1.trans s15).free hT) (s1.free nW) (s1.free nC) ⟨upd_same, sT _ _ eW, sT _ _ eC, hh.at fun _ _ e => sT _ _ e, ?_⟩
          rw [ey, lU, lK]
          unfold dueG
          rw [← List.length_map (as := keysS an zs) (f := fun k => (k, rowsA an zs k)), List.take_length]
end
end G
set_option Elab.async false
set_option linter.all false
set_option maxRecDepth 100000
set_option maxHeartbeats 2000000
/-! SP: how many steps lead from one list to another: the mathematics. -/
namespace Stp
section
variable {α : Type} [DecidableEq α]
def idx (old : List α) (x : α) : Nat := old.findIdx fun y => decide (y = x)
theorem idx_at {old : List α} {x : α} (h : x ∈ old) : old[idx old x]? = some x := by
  have hx : idx old x < old.length := List.findIdx_lt_length_of_exists ⟨x, h, decide_eq_true rfl⟩
  have := List.findIdx_getElem (w := hx)
  rw [List.getElem?_eq_getElem hx]
  exact congrArg some (of_decide_eq_true this)
def kept (old new : List α) : List Int := (new.filter fun x => decide (x ∈ old)).map fun x => Int.ofNat (idx old x)
/-- one more than the most of those that are less -/
def bst (acc : List (Int × Nat)) (p : Int) : Nat := 1 + ((acc.filter fun q => decide (q.1 < p)).map (·.2)).foldl max 0
def run : List Int → List (Int × Nat) → List (Int × Nat)
  | [], acc => acc
  | p :: ps, acc => run ps (acc ++ [(p, bst acc p)])
def lis (ks : List Int) : Nat := ((run ks []).map (·.2)).foldl max 0
def stp (old new : List α) : Int := (old.length : Int) + new.length - (kept old new).length - lis (kept old new)
theorem max_ge : ∀ (l : List Nat) (a : Nat), a ≤ l.foldl max a ∧ ∀ x ∈ l, x ≤ l.foldl max a
  | [], a => ⟨Nat.le_refl _, fun _ h => nomatch h⟩
  | y :: l, a => by
    rw [List.foldl_cons]
    obtain ⟨h1, h2⟩ := max_ge l (max a y)
    refine ⟨by omega, fun x hx => ?_⟩
    rcases List.mem_cons.mp hx with rfl | hx
    · omega
    · exact h2 x hx
theorem run_sub : ∀ (ks : List Int) (acc : List (Int × Nat)), ∀ q ∈ acc, q ∈ run ks acc
  | [], _, q, h => h
  | p :: ps, acc, q, h => run_sub ps _ q (List.mem_append_left _ h)
/-- what stands of an ascent -/
def Cov (acc : List (Int × Nat)) (C : List Int) : Prop := ∀ x, C.getLast? = some x → ∃ b, (x, b) ∈ acc ∧ C.length ≤ b
theorem run_cov : ∀ (ks : List Int) (acc : List (Int × Nat)) (C1 C2 : List Int), Cov acc C1 → C2.Sublist ks → (C1 ++ C2).Pairwise (· < ·) → Cov (run ks acc) (C1 ++ C2)
  | [], acc, C1, C2, h, hs, _ => by
    cases hs
    rw [List.append_nil]
    exact h
  | p :: ps, acc, C1, C2, h, hs, ha => by
    have grow : ∀ C, Cov acc C → Cov (acc ++ [(p, bst acc p)]) C := fun C hc x hx => by
      obtain ⟨b, h1, h2⟩ := hc x hx
      exact ⟨b, List.mem_append_left _ h1, h2⟩
    cases hs with
    | cons _ hs => exact run_cov ps _ C1 C2 (grow _ h) hs ha
    | cons_cons _ hs =>
      rename_i C2
      rw [show C1 ++ p :: C2 = (C1 ++ [p]) ++ C2 by rw [List.append_assoc]; rfl] at ha ⊢
      refine run_cov ps _ (C1 ++ [p]) C2 ?_ hs ha
      intro x hx
      rw [List.getLast?_append] at hx
      obtain rfl : p = x := by
        have : some p = some x := hx
        exact Option.some.inj this
      refine ⟨bst acc p, List.mem_append_right _ List.mem_cons_self, ?_⟩
      rw [List.length_append]
      show C1.length + 1 ≤ bst acc p
      have hb : C1.length ≤ ((acc.filter fun q => decide (q.1 < p)).map (·.2)).foldl max 0 := by
        rcases List.eq_nil_or_concat C1 with e | ⟨C0, y, e⟩
        · rw [e]
          exact Nat.zero_le _
        · rw [List.concat_eq_append] at e
          obtain ⟨b, h1, h2⟩ := h y (by rw [e, List.getLast?_append]; rfl)
          have lt : y < p := by
            have h3 := (List.pairwise_append.mp ha).1
            rw [e] at h3
            exact (List.pairwise_append.mp h3).2.2 y (List.mem_append_right _ List.mem_cons_self) p List.mem_cons_self
          refine Nat.le_trans h2 ((max_ge _ 0).2 b ?_)
          exact List.mem_map.mpr ⟨(y, b), List.mem_filter.mpr ⟨h1, decide_eq_true lt⟩, rfl⟩
      unfold bst
      omega
theorem lis_ge {ks C : List Int} (h : C.Sublist ks) (a : C.Pairwise (· < ·)) : C.length ≤ lis ks := by
  have hc := run_cov ks [] [] C (fun x hx => by cases hx) h a
  rcases List.eq_nil_or_concat C with e | ⟨C0, y, e⟩
  · rw [e]
    exact Nat.zero_le _
  · rw [List.concat_eq_append] at e
    obtain ⟨b, h1, h2⟩ := hc y (by rw [e, List.nil_append, List.getLast?_append]; rfl)
    exact Nat.le_trans h2 ((max_ge _ 0).2 b (List.mem_map.mpr ⟨(y, b), h1, rfl⟩))
theorem idx_asc {old : List α} (nd : old.Nodup) : ∀ {C : List α}, C.Sublist old → (C.map fun x => Int.ofNat (idx old x)).Pairwise (· < ·) := fun {C} h => by
  rw [List.pairwise_map]
  have all : old.Pairwise fun x y => idx old x < idx old y := by
    rw [List.pairwise_iff_getElem]
    intro i j hi hj hij
    have e : ∀ k (hk : k < old.length), idx old old[k] = k := fun k hk => by
      obtain ⟨h1, h2⟩ := List.getElem?_eq_some_iff.mp (idx_at (List.getElem_mem hk))
      exact (List.getElem_inj nd).mp h2
    rw [e i hi, e j hj]
    exact hij
  exact (all.sublist h).imp fun h => Int.ofNat_lt.mpr h
theorem stp_le {old new C : List α} (no : old.Nodup) (h1 : C.Sublist old) (h2 : C.Sublist new) : stp old new ≤ (old.length : Int) + new.length - (kept old new).length - C.length := by
  have hs : (C.map fun x => Int.ofNat (idx old x)).Sublist (kept old new) := by
    refine List.Sublist.map _ ?_
    have := h2.filter fun x => decide (x ∈ old)
    rwa [List.filter_eq_self.mpr fun x hx => decide_eq_true (h1.subset hx)] at this
  have := lis_ge hs (idx_asc no h1)
  rw [List.length_map] at this
  unfold stp
  omega
theorem cnt_swap {xs ys : List α} (nx : xs.Nodup) (ny : ys.Nodup) : (xs.filter fun x => decide (x ∈ ys)).length = (ys.filter fun x => decide (x ∈ xs)).length := by
  refine List.Perm.length_eq ((List.perm_ext_iff_of_nodup (nx.sublist List.filter_sublist) (ny.sublist List.filter_sublist)).mpr fun x => ?_)
  rw [List.mem_filter, List.mem_filter]
  exact ⟨fun ⟨a, b⟩ => ⟨of_decide_eq_true b, decide_eq_true a⟩, fun ⟨a, b⟩ => ⟨of_decide_eq_true b, decide_eq_true a⟩⟩
theorem cnt_split (p : α → Bool) (xs : List α) : (xs.filter p).length + (xs.filter fun x => !p x).length = xs.length := by
  induction xs with
  | nil => rfl
  | cons x xs ih =>
    by_cases c : p x = true
    · rw [List.filter_cons_of_pos c, List.filter_cons_of_neg (by rw [c]; decide), List.length_cons, List.length_cons]
      omega
    · rw [List.filter_cons_of_neg c, List.filter_cons_of_pos (by rw [Bool.eq_false_iff.mpr c]; rfl), List.length_cons, List.length_cons]
      omega
theorem cnt_or (p q : α → Bool) (xs : List α) : (xs.filter p).length + (xs.filter q).length ≤ xs.length + (xs.filter fun x => p x && q x).length := by
  induction xs with
  | nil => exact Nat.le_refl _
  | cons x xs ih =>
    simp only [List.filter_cons]
    cases p x <;> cases q x <;> simp <;> omega
/-- but for those of D the lists are the same: as many steps at most -/
theorem stp_D {old new D : List α} (no : old.Nodup) (nn : new.Nodup) (nd : D.Nodup) (e : (old.filter fun x => !decide (x ∈ D)) = new.filter fun x => !decide (x ∈ D)) : stp old new ≤ D.length := by
  have h := stp_le no (C := old.filter fun x => !decide (x ∈ D)) List.filter_sublist (by rw [e]; exact List.filter_sublist)
  have a1 := cnt_split (fun x => decide (x ∈ D)) old
  have a2 := cnt_split (fun x => decide (x ∈ D)) new
  have lk : (kept old new).length = (new.filter fun x => decide (x ∈ old)).length := List.length_map ..
  have a3 := cnt_split (fun x => decide (x ∈ D)) (new.filter fun x => decide (x ∈ old))
  rw [List.filter_filter, List.filter_filter] at a3
  have b1 := cnt_swap no nd
  have b2 := cnt_swap nn nd
  have b3 := cnt_or (fun x => decide (x ∈ old)) (fun x => decide (x ∈ new)) D
  -- those of D in both
  have b4 : (D.filter fun x => decide (x ∈ old) && decide (x ∈ new)).length = (new.filter fun x => decide (x ∈ D) && decide (x ∈ old)).length := by
    refine List.Perm.length_eq ((List.perm_ext_iff_of_nodup (nd.sublist List.filter_sublist) (nn.sublist List.filter_sublist)).mpr fun x => ?_)
    rw [List.mem_filter, List.mem_filter, Bool.and_eq_true, Bool.and_eq_true, decide_eq_true_iff, decide_eq_true_iff, decide_eq_true_iff]
    exact ⟨fun ⟨a, b, c⟩ => ⟨c, a, b⟩, fun ⟨a, b, c⟩ => ⟨b, c, a⟩⟩
  -- those not of D are in both
  have b5 : (new.filter fun x => (!decide (x ∈ D)) && decide (x ∈ old)) = new.filter fun x => !decide (x ∈ D) := by
    refine List.filter_congr fun x hx => ?_
    by_cases c : x ∈ D
    · rw [decide_eq_true c]
      rfl
    · have : x ∈ old.filter fun x => !decide (x ∈ D) := by
        rw [e]
        exact List.mem_filter.mpr ⟨hx, by rw [decide_eq_false c]; rfl⟩
      rw [decide_eq_true (List.mem_filter.mp this).1, Bool.and_true]
  rw [b5] at a3
  rw [e] at a1 h
  omega
theorem stp_same {old : List α} (no : old.Nodup) : stp old old ≤ 0 := stp_D no no List.nodup_nil rfl
end
end Stp
set_option Elab.async false
set_option linter.all false
set_option maxRecDepth 100000
set_option maxHeartbeats 2000000
/-! SQ: stable sorts and filters. -/
namespace Stp
section
variable {α : Type} {le le' : α → α → Bool}
/-- a total order, ties allowed -/
structure Tot (le : α → α → Bool) : Prop where
  tr : ∀ a b c : α, le a b = true → le b c = true → le a c = true
  tot : ∀ a b : α, (le a b || le b a) = true
theorem stab (T : Tot le) {zs : List α} {q : α → Bool} (h : ∀ x ∈ zs, ∀ y ∈ zs, q x = true → q y = true → le x y = true) : (zs.mergeSort le).filter q = zs.filter q := by
  have pw : (zs.filter q).Pairwise fun a b => le a b = true := by
    refine List.pairwise_iff_forall_sublist.mpr fun {a b} s => ?_
    have ha := List.mem_filter.mp (s.subset List.mem_cons_self)
    have hb := List.mem_filter.mp (s.subset (List.mem_cons_of_mem _ List.mem_cons_self))
    exact h a ha.1 b hb.1 ha.2 hb.2
  have s1 := (List.sublist_mergeSort T.tr T.tot pw List.filter_sublist).filter q
  rw [List.filter_filter] at s1
  have e : (zs.filter fun a => q a && q a) = zs.filter q := by
    congr 1
    funext a
    exact Bool.and_self _
  rw [e] at s1
  refine (s1.eq_of_length ?_).symm
  exact ((List.mergeSort_perm zs le).symm.filter q).length_eq
theorem uniq (T : Tot le) : ∀ {xs ys : List α}, (xs.Pairwise fun a b => le a b = true) → (ys.Pairwise fun a b => le a b = true) → (∀ a, (xs.filter fun x => le a x && le x a) = ys.filter fun x => le a x && le x a) → xs = ys
  | [], [], _, _, _ => rfl
  | [], y :: ys, _, _, h => by
    have := h y
    have r : le y y = true := by
      have := T.tot y y
      rwa [Bool.or_self] at this
    rw [List.filter_nil, List.filter_cons_of_pos (by rw [r]; rfl)] at this
    cases this
  | x :: xs, [], _, _, h => by
    have := h x
    have r : le x x = true := by
      have := T.tot x x
      rwa [Bool.or_self] at this
    rw [List.filter_nil, List.filter_cons_of_pos (by rw [r]; rfl)] at this
    cases this
  | x :: xs, y :: ys, hx, hy, h => by
    have r : ∀ z, le z z = true := fun z => by
      have := T.tot z z
      rwa [Bool.or_self] at this
    have mx : x ∈ y :: ys := by
      have : x ∈ (x :: xs).filter fun z => le x z && le z x := List.mem_filter.mpr ⟨List.mem_cons_self, by rw [r]; rfl⟩
      rw [h x] at this
      exact (List.mem_filter.mp this).1
    have my : y ∈ x :: xs := by
      have : y ∈ (y :: ys).filter fun z => le y z && le z y := List.mem_filter.mpr ⟨List.mem_cons_self, by rw [r]; rfl⟩
      rw [← h y] at this
      exact (List.mem_filter.mp this).1
    have l1 : le y x = true := by
      rcases List.mem_cons.mp mx with rfl | m
      · exact r _
      · exact (List.pairwise_cons.mp hy).1 x m
    have l2 : le x y = true := by
      rcases List.mem_cons.mp my with rfl | m
      · exact r _
      · exact (List.pairwise_cons.mp hx).1 y m
    have hh := h x
    rw [List.filter_cons_of_pos (by rw [r]; rfl), List.filter_cons_of_pos (by rw [l1, l2]; rfl)] at hh
    injection hh with e1 e2
    subst e1
    congr 1
    refine uniq T (List.pairwise_cons.mp hx).2 (List.pairwise_cons.mp hy).2 fun a => ?_
    have := h a
    rw [List.filter_cons, List.filter_cons] at this
    split at this
    · injection this
    · exact this
theorem sort_filter (T : Tot le) (zs : List α) (p : α → Bool) : (zs.mergeSort le).filter p = (zs.filter p).mergeSort le := by
  refine uniq T ((List.pairwise_mergeSort T.tr T.tot zs).sublist List.filter_sublist) (List.pairwise_mergeSort T.tr T.tot _) fun a => ?_
  have cls : ∀ l : List α, ∀ x ∈ l, ∀ y ∈ l, (le a x && le x a) = true → (le a y && le y a) = true → le x y = true := fun l x _ y _ hx hy => by
    rw [Bool.and_eq_true] at hx hy
    exact T.tr _ _ _ hx.2 hy.1
  rw [stab T (cls _), List.filter_filter, List.filter_filter]
  have h1 : ((zs.mergeSort le).filter fun x => (le a x && le x a) && p x) = ((zs.mergeSort le).filter fun x => le a x && le x a).filter p := by
    rw [List.filter_filter]
    congr 1
    funext x
    exact Bool.and_comm _ _
  rw [h1, stab T (cls _), List.filter_filter]
  congr 1
  funext x
  exact Bool.and_comm _ _
theorem sort_congr (T : Tot le) (T' : Tot le') {zs : List α} (h : ∀ x ∈ zs, ∀ y ∈ zs, le x y = le' x y) : zs.mergeSort le = zs.mergeSort le' := by
  have pm := List.mergeSort_perm zs le'
  refine uniq T (List.pairwise_mergeSort T.tr T.tot zs) ?_ fun a => ?_
  · refine List.Pairwise.imp_of_mem (fun {x y} hx hy k => ?_) (List.pairwise_mergeSort T'.tr T'.tot zs)
    rw [h x (pm.mem_iff.mp hx) y (pm.mem_iff.mp hy)]
    exact k
  · have cls : ∀ x ∈ zs, ∀ y ∈ zs, (le a x && le x a) = true → (le a y && le y a) = true → le x y = true := fun x _ y _ hx hy => by
      rw [Bool.and_eq_true] at hx hy
      exact T.tr _ _ _ hx.2 hy.1
    rw [stab T cls, stab T' fun x hx y hy h1 h2 => by rw [← h x hx y hy]; exact cls x hx y hy h1 h2]
/-- sorted by other answers, of other rows: the same, but for what differs -/
theorem sort_D [DecidableEq α] (T : Tot le) (T' : Tot le') {zs zs' D : List α} (e : (zs.filter fun x => !decide (x ∈ D)) = zs'.filter fun x => !decide (x ∈ D)) (h : ∀ x ∈ zs, ∀ y ∈ zs, x ∉ D → y ∉ D → le x y = le' x y) :
    ((zs.mergeSort le).filter fun x => !decide (x ∈ D)) = (zs'.mergeSort le').filter fun x => !decide (x ∈ D) := by
  rw [sort_filter T, sort_filter T', ← e]
  refine sort_congr T T' fun x hx y hy => ?_
  obtain ⟨a1, a2⟩ := List.mem_filter.mp hx
  obtain ⟨b1, b2⟩ := List.mem_filter.mp hy
  refine h x a1 y b1 (fun c => ?_) fun c => ?_
  · rw [decide_eq_true c] at a2
    cases a2
  · rw [decide_eq_true c] at b2
    cases b2
end
end Stp
set_option Elab.async false
set_option linter.all false
set_option maxRecDepth 100000
set_option maxHeartbeats 2000000
/-! SR: first rows of each answer; windows. -/
namespace Stp
section
variable {α κ : Type} [DecidableEq α] [DecidableEq κ]
/-- those of the answer k -/
def cls (an : α → κ) (zs : List α) (k : κ) : List α := zs.filter fun y => decide (an y = k)
/-- the first ones -/
def fsts (an : α → κ) (zs : List α) : List α := zs.filter fun z => decide ((cls an zs (an z)).head? = some z)
def off (r : α) (zs : List α) : List α := zs.filter fun x => !decide (x ∈ [r])
theorem mem_off {r x : α} {zs : List α} : x ∈ off r zs ↔ x ∈ zs ∧ x ≠ r := by
  unfold off
  rw [List.mem_filter]
  constructor
  · rintro ⟨h1, h2⟩
    refine ⟨h1, fun e => ?_⟩
    rw [decide_eq_true (List.mem_singleton.mpr e)] at h2
    cases h2
  · rintro ⟨h1, h2⟩
    exact ⟨h1, by rw [decide_eq_false fun c => h2 (List.mem_singleton.mp c)]; rfl⟩
theorem off_out {r : α} {zs : List α} (h : r ∉ zs) : off r zs = zs := List.filter_eq_self.mpr fun x hx => by
  rw [decide_eq_false fun c => h (by rw [← List.mem_singleton.mp c]; exact hx)]
  rfl
/-- the class without r -/
theorem cls_off (an : α → κ) (r : α) (zs : List α) (k : κ) : off r (cls an zs k) = cls an (off r zs) k := by
  unfold off cls
  rw [List.filter_filter, List.filter_filter]
  congr 1
  funext x
  exact Bool.and_comm _ _
theorem cls_congr {an an' : α → κ} {zs : List α} (h : ∀ x ∈ zs, an x = an' x) (k : κ) : cls an zs k = cls an' zs k := List.filter_congr fun x hx => by rw [h x hx]
/-- a first one that is not r: the first of the class without r -/
theorem head_off {r x : α} {l : List α} (nd : l.Nodup) (n : x ≠ r) (h : l.head? = some x) : (off r l).head? = some x := by
  cases l with
  | nil => cases h
  | cons y l =>
    cases h
    unfold off
    rw [List.filter_cons_of_pos (by rw [decide_eq_false fun c => n (List.mem_singleton.mp c)]; rfl)]
    rfl
theorem head_on {r x : α} {l : List α} (h : (off r l).head? = some x) : l.head? = some x ∨ l.head? = some r := by
  cases l with
  | nil => cases h
  | cons y l =>
    by_cases c : y = r
    · rw [c]
      exact .inr rfl
    · unfold off at h
      rw [List.filter_cons_of_pos (by rw [decide_eq_false fun z => c (List.mem_singleton.mp z)]; rfl)] at h
      exact .inl h
theorem mem_fsts {an : α → κ} {zs : List α} {x : α} : x ∈ fsts an zs ↔ x ∈ zs ∧ (cls an zs (an x)).head? = some x := by
  unfold fsts
  rw [List.mem_filter, decide_eq_true_iff]
/-- which first ones differ: r itself, and the first ones of its classes without it -/
theorem fst_iff {an an' : α → κ} {zs zs' : List α} {r x : α} (no : zs.Nodup) (nn : zs'.Nodup) (e : off r zs = off r zs') (ha : ∀ y, y ≠ r → an y = an' y) (n : x ≠ r) (hx : x ∈ zs)
    (d0 : (cls an zs (an r)).head? = some r → r ∈ zs → (cls an (off r zs) (an r)).head? ≠ some x) (d1 : (cls an' zs' (an' r)).head? = some r → r ∈ zs' → (cls an (off r zs) (an' r)).head? ≠ some x) :
    (cls an zs (an x)).head? = some x ↔ (cls an' zs' (an' x)).head? = some x := by
  have hc : ∀ k, cls an' (off r zs') k = cls an (off r zs) k := fun k => by
    rw [← e]
    exact (cls_congr (fun y hy => ha y (mem_off.mp hy).2) k).symm
  have hk := ha x n
  have nd : ∀ (b : α → κ) (l : List α) (k : κ), l.Nodup → (cls b l k).Nodup := fun b l k h => h.sublist List.filter_sublist
  constructor
  · intro h
    have h1 := head_off (nd an zs _ no) n h
    rw [cls_off, ← hc, ← cls_off, hk] at h1
    rcases head_on h1 with h2 | h2
    · exact h2
    · exfalso
      have mr : r ∈ cls an' zs' (an' x) := List.mem_of_mem_head? h2
      obtain ⟨m1, m2⟩ := List.mem_filter.mp mr
      have er : an' r = an' x := of_decide_eq_true m2
      refine d1 (by rw [er]; exact h2) m1 ?_
      rw [er, ← hc, ← cls_off]
      exact h1
  · intro h
    have h1 := head_off (nd an' zs' _ nn) n h
    rw [cls_off, hc, ← cls_off, ← hk] at h1
    rcases head_on h1 with h2 | h2
    · exact h2
    · exfalso
      have mr : r ∈ cls an zs (an x) := List.mem_of_mem_head? h2
      obtain ⟨m1, m2⟩ := List.mem_filter.mp mr
      have er : an r = an x := of_decide_eq_true m2
      refine d0 (by rw [er]; exact h2) m1 ?_
      rw [er, ← cls_off]
      exact h1
/-- filters of lists that are the same but for r -/
theorem filt_D {zs zs' D : List α} {r : α} {p p' : α → Bool} (e : off r zs = off r zs') (rD : r ∈ D) (h : ∀ x ∈ zs, x ∉ D → p x = p' x) : ((zs.filter p).filter fun x => !decide (x ∈ D)) = (zs'.filter p').filter fun x => !decide (x ∈ D) := by
  have key : ∀ (l : List α) (q : α → Bool), ((l.filter q).filter fun x => !decide (x ∈ D)) = (off r l).filter fun x => !decide (x ∈ D) && q x := fun l q => by
    unfold off
    rw [List.filter_filter, List.filter_filter]
    refine List.filter_congr fun x hx => ?_
    by_cases c : x ∈ D
    · rw [decide_eq_true c]
      rfl
    · rw [decide_eq_false c, decide_eq_false fun z => c (by rw [List.mem_singleton.mp z]; exact rD)]
      cases q x <;> rfl
  rw [key, key, ← e]
  refine List.filter_congr fun x hx => ?_
  by_cases c : x ∈ D
  · rw [decide_eq_true c]
    rfl
  · rw [h x (mem_off.mp hx).1 c]
end
end Stp
set_option Elab.async false
set_option linter.all false
set_option maxRecDepth 100000
set_option maxHeartbeats 2000000
/-! SS: two that differ at most: first rows, windows. -/
namespace Stp
section
variable {α κ : Type} [DecidableEq α] [DecidableEq κ]
/-- the lists are the same, but for n at most -/
def Near (n : Nat) (xs ys : List α) : Prop := ∃ D : List α, D.Nodup ∧ D.length ≤ n ∧ (xs.filter fun x => !decide (x ∈ D)) = ys.filter fun x => !decide (x ∈ D)
theorem Near.stp {n : Nat} {old new : List α} (h : Near n old new) (no : old.Nodup) (nn : new.Nodup) : stp old new ≤ n := by
  obtain ⟨D, d1, d2, e⟩ := h
  have := stp_D no nn d1 e
  omega
theorem near_refl (n : Nat) (xs : List α) : Near n xs xs := ⟨[], List.nodup_nil, Nat.zero_le _, rfl⟩
theorem Near.mono {m n : Nat} {xs ys : List α} (h : Near m xs ys) (l : m ≤ n) : Near n xs ys := let ⟨D, d1, d2, e⟩ := h; ⟨D, d1, Nat.le_trans d2 l, e⟩
theorem near_off {xs ys : List α} {r : α} (e : off r xs = off r ys) : Near 1 xs ys := ⟨[r], by simp, Nat.le_refl _, e⟩
theorem near_filt {zs zs' : List α} {r : α} {p p' : α → Bool} (e : off r zs = off r zs') (h : ∀ x, x ≠ r → p x = p' x) : Near 1 (zs.filter p) (zs'.filter p') :=
  ⟨[r], by simp, Nat.le_refl _, filt_D e List.mem_cons_self fun x _ hx => h x fun z => hx (List.mem_singleton.mpr z)⟩
theorem near_sort {le le' : α → α → Bool} (T : Tot le) (T' : Tot le') {zs zs' : List α} {r : α} (e : off r zs = off r zs') (h : ∀ x y, x ≠ r → y ≠ r → le x y = le' x y) : Near 1 (zs.mergeSort le) (zs'.mergeSort le') :=
  ⟨[r], by simp, Nat.le_refl _, sort_D T T' e fun x _ y _ hx hy => h x y (fun z => hx (List.mem_singleton.mpr z)) fun z => hy (List.mem_singleton.mpr z)⟩
/-- the first ones: at most two differ -/
theorem near_fsts {an an' : α → κ} {zs zs' : List α} {r : α} (no : zs.Nodup) (nn : zs'.Nodup) (e : off r zs = off r zs') (ha : ∀ y, y ≠ r → an y = an' y) (one : r ∉ zs ∨ r ∉ zs' ∨ an r = an' r ∨ zs = zs') : Near 2 (fsts an zs) (fsts an' zs') := by
  have mk : ∀ o : Option α, (∀ w, o = some w → w ≠ r) → (∀ x, x ≠ r → x ∈ zs → o ≠ some x → ((cls an zs (an x)).head? = some x ↔ (cls an' zs' (an' x)).head? = some x)) → Near 2 (fsts an zs) (fsts an' zs') := by
    intro o ho h
    refine ⟨r :: o.toList, ?_, ?_, filt_D e List.mem_cons_self fun x hx hD => ?_⟩
    · cases o with
      | none => simp
      | some w =>
        have := ho w rfl
        simp [this.symm]
    · cases o <;> simp
    · have n : x ≠ r := fun z => hD (by rw [z]; exact List.mem_cons_self)
      have := h x n hx fun z => hD (by rw [z]; simp)
      exact decide_eq_decide.mpr this
  have hd : ∀ k w, (cls an (off r zs) k).head? = some w → w ≠ r ∧ an w = k := fun k w h => by
    obtain ⟨h1, h2⟩ := List.mem_filter.mp (List.mem_of_mem_head? h)
    exact ⟨(mem_off.mp h1).2, of_decide_eq_true h2⟩
  have base := fun x n hx d0 d1 => fst_iff (x := x) no nn e ha n hx d0 d1
  by_cases c0 : (cls an zs (an r)).head? = some r ∧ r ∈ zs
  · by_cases c1 : (cls an' zs' (an' r)).head? = some r ∧ r ∈ zs'
    · by_cases ek : an r = an' r
      · refine mk (cls an (off r zs) (an r)).head? (fun w h => (hd _ w h).1) fun x n hx hw => base x n hx (fun _ _ => hw) fun _ _ => by rw [← ek]; exact hw
      · have ez : zs = zs' := by
          rcases one with h | h | h | h
          · exact absurd c0.2 h
          · exact absurd c1.2 h
          · exact absurd h ek
          · exact h
        subst ez
        refine ⟨(cls an (off r zs) (an r)).head?.toList ++ (cls an (off r zs) (an' r)).head?.toList, ?_, ?_, ?_⟩
        · cases h0 : (cls an (off r zs) (an r)).head? with
          | none =>
            cases h1 : (cls an (off r zs) (an' r)).head? <;> simp
          | some w0 =>
            cases h1 : (cls an (off r zs) (an' r)).head? with
            | none => simp
            | some w1 =>
              have : w0 ≠ w1 := fun z => ek (by rw [← (hd _ _ h0).2, ← (hd _ _ h1).2, z])
              simp [this]
        · cases (cls an (off r zs) (an r)).head? <;> cases (cls an (off r zs) (an' r)).head? <;> simp
        · unfold fsts
          rw [List.filter_filter, List.filter_filter]
          refine List.filter_congr fun x hx => ?_
          by_cases cD : x ∈ (cls an (off r zs) (an r)).head?.toList ++ (cls an (off r zs) (an' r)).head?.toList
          · rw [decide_eq_true cD]
            rfl
          · congr 1
            refine decide_eq_decide.mpr ?_
            by_cases n : x = r
            · subst n
              exact ⟨fun _ => c1.1, fun _ => c0.1⟩
            · refine base x n hx (fun _ _ z => cD ?_) fun _ _ z => cD ?_
              · rw [z]
                simp
              · rw [z]
                simp
    · exact mk (cls an (off r zs) (an r)).head? (fun w h => (hd _ w h).1) fun x n hx hw => base x n hx (fun _ _ => hw) fun a b => absurd ⟨a, b⟩ c1
  · exact mk (cls an (off r zs) (an' r)).head? (fun w h => (hd _ w h).1) fun x n hx hw => base x n hx (fun a b => absurd ⟨a, b⟩ c0) fun _ _ => hw
/-! ### windows -/
def win (s c : Nat) (l : List α) : List α := (l.drop s).take c
theorem filt_not {l : List α} {x : α} (h : x ∉ l) : (l.filter fun y => !decide (y ∈ (some x).toList)) = l := List.filter_eq_self.mpr fun y hy => by
  rw [decide_eq_false fun c => h (by rw [← List.mem_singleton.mp (show y ∈ [x] from c)]; exact hy)]
  rfl
/-- a list of which B stays, but for one -/
def Core (B V : List α) : Prop := ∃ o : Option α, (V.filter fun y => !decide (y ∈ o.toList)) = B
theorem near_core {B V V' : List α} (h : Core B V) (h' : Core B V') : Near 2 V V' := by
  obtain ⟨o, e⟩ := h
  obtain ⟨o', e'⟩ := h'
  have both : ∀ D : List α, (∀ x ∈ o.toList, x ∈ D) → (∀ x ∈ o'.toList, x ∈ D) → (V.filter fun x => !decide (x ∈ D)) = V'.filter fun x => !decide (x ∈ D) := fun D h1 h2 => by
    have key : ∀ (l : List α) (q : Option α), (∀ x ∈ q.toList, x ∈ D) → (l.filter fun x => !decide (x ∈ D)) = (l.filter fun y => !decide (y ∈ q.toList)).filter fun x => !decide (x ∈ D) := fun l q hq => by
      rw [List.filter_filter]
      refine List.filter_congr fun x _ => ?_
      by_cases c : x ∈ D
      · rw [decide_eq_true c]
        rfl
      · rw [decide_eq_false c, decide_eq_false fun z => c (hq x z)]
        rfl
    rw [key V o h1, key V' o' h2, e, e']
  by_cases c : o = o'
  · subst c
    refine ⟨o.toList, ?_, ?_, both _ (fun _ h => h) fun _ h => h⟩ <;> cases o <;> simp
  · refine ⟨o.toList ++ o'.toList, ?_, ?_, both _ (fun _ h => List.mem_append_left _ h) fun _ h => List.mem_append_right _ h⟩
    · cases o with
      | none => cases o' <;> simp
      | some x =>
        cases o' with
        | none => simp
        | some y =>
          have : x ≠ y := fun z => c (by rw [z])
          simp [this]
    · cases o <;> cases o' <;> simp
theorem core_last {l : List α} (nd : l.Nodup) (c : Nat) : Core (l.take c) (l.take (c + 1)) := by
  refine ⟨l[c]?, ?_⟩
  rw [List.take_add_one, List.filter_append]
  cases h : l[c]? with
  | none =>
    simp
  | some x =>
    have out : x ∉ l.take c := fun z => by
      obtain ⟨j, hj, e⟩ := List.mem_iff_getElem.mp z
      rw [List.length_take] at hj
      rw [List.getElem_take] at e
      have := (List.getElem_inj nd).mp (e.trans (List.getElem?_eq_some_iff.mp h).2.symm)
      omega
    have e1 := filt_not out
    show (l.take c).filter (fun y => !decide (y ∈ (some x).toList)) ++ [x].filter (fun y => !decide (y ∈ (some x).toList)) = _
    rw [e1, List.filter_cons_of_neg (by simp), List.filter_nil, List.append_nil]
theorem core_first {l : List α} {s c : Nat} (nd : l.Nodup) : Core (win (s + 1) c l) (win s (c + 1) l) := by
  unfold win
  by_cases h : s < l.length
  · refine ⟨some l[s], ?_⟩
    rw [List.drop_eq_getElem_cons h, List.take_succ_cons]
    have out : l[s] ∉ (l.drop (s + 1)).take c := fun z => by
      have z2 := List.mem_of_mem_take z
      obtain ⟨j, hj, e⟩ := List.mem_iff_getElem.mp z2
      rw [List.getElem_drop] at e
      have := (List.getElem_inj nd).mp e
      omega
    have e1 := filt_not out
    rw [List.filter_cons_of_neg (by simp), e1]
  · refine ⟨none, ?_⟩
    rw [List.drop_eq_nil_of_le (by omega), List.drop_eq_nil_of_le (by omega)]
    simp
/-- a window of rows, of them with one more -/
theorem core_win {W : List α} {r : α} {i s c : Nat} (nd : W.Nodup) (out : r ∉ W) (hi : i ≤ W.length) : Core (win s c W) (win s (c + 1) (W.take i ++ r :: W.drop i)) := by
  by_cases h1 : i < s
  · have e : win s (c + 1) (W.take i ++ r :: W.drop i) = win (s - 1) (c + 1) W := by
      unfold win
      congr 1
      rw [List.drop_append, List.length_take, Nat.min_eq_left hi, List.drop_of_length_le (by rw [List.length_take]; omega), List.nil_append]
      obtain ⟨d, rfl⟩ : ∃ d, s = i + 1 + d := ⟨s - (i + 1), by omega⟩
      rw [show i + 1 + d - i = d + 1 by omega, List.drop_succ_cons, List.drop_drop]
      congr 1
      omega
    rw [e]
    have := core_first (l := W) (s := s - 1) (c := c) nd
    rwa [show s - 1 + 1 = s by omega] at this
  · by_cases h2 : s + c < i
    · have e : win s (c + 1) (W.take i ++ r :: W.drop i) = win s (c + 1) W := by
        unfold win
        rw [List.drop_append, List.length_take, Nat.min_eq_left hi, List.take_append, List.length_drop, List.length_take, Nat.min_eq_left hi]
        rw [show c + 1 - (i - s) = 0 by omega, List.take_zero, List.append_nil, List.drop_take, List.take_take]
        congr 1
        omega
      rw [e]
      exact core_last ((List.drop_sublist _ _).nodup nd) c
    · refine ⟨some r, ?_⟩
      have e : win s (c + 1) (W.take i ++ r :: W.drop i) = (W.take i).drop s ++ r :: (W.drop i).take (c - (i - s)) := by
        unfold win
        rw [List.drop_append, List.length_take, Nat.min_eq_left hi, show s - i = 0 by omega, List.drop_zero, List.take_append, List.length_drop, List.length_take, Nat.min_eq_left hi]
        rw [List.take_of_length_le (by rw [List.length_drop, List.length_take]; omega)]
        congr 1
        obtain ⟨d, hd⟩ : ∃ d, c + 1 - (i - s) = d + 1 := ⟨c - (i - s), by omega⟩
        rw [hd, List.take_succ_cons]
        congr 2
        omega
      rw [e]
      have o1 : r ∉ (W.take i).drop s := fun z => out (List.mem_of_mem_take (List.mem_of_mem_drop z))
      have o2 : r ∉ (W.drop i).take (c - (i - s)) := fun z => out (List.mem_of_mem_drop (List.mem_of_mem_take z))
      have e1 := filt_not o1
      have e2 := filt_not o2
      rw [List.filter_append, List.filter_cons_of_neg (by simp), e1, e2]
      unfold win
      have e3 : W.drop s = (W.take i).drop s ++ W.drop i := by
        conv => lhs; rw [← List.take_append_drop i W]
        rw [List.drop_append, List.length_take, Nat.min_eq_left hi, show s - i = 0 by omega, List.drop_zero]
      rw [e3, List.take_append, List.length_drop, List.length_take, Nat.min_eq_left hi, List.take_of_length_le (i := c) (l := (W.take i).drop s) (by rw [List.length_drop, List.length_take]; omega)]
theorem core_win0 {W : List α} {s c : Nat} (nd : W.Nodup) : Core (win s c W) (win s (c + 1) W) := core_last ((List.drop_sublist _ _).nodup nd) c
end
end Stp
set_option Elab.async false
set_option linter.all false
set_option maxRecDepth 100000
set_option maxHeartbeats 2000000
/-! SU: groups under headers. -/
namespace Stp
section
variable {α κ : Type} [DecidableEq α] [DecidableEq κ]
/-- a header or a row -/
inductive Itm (κ α : Type) where
  | hd (k : κ)
  | row (x : α)
  deriving DecidableEq
/-- the rows under the headers of their answers -/
def grp (an : α → κ) (zs : List α) (ks : List κ) : List (Itm κ α) := ks.flatMap fun k => Itm.hd k :: (cls an zs k).map Itm.row
/-- the answers, in order -/
structure Keys (le : κ → κ → Bool) (an : α → κ) (zs : List α) (ks : List κ) : Prop where
  pw : ks.Pairwise fun a b => le a b = true
  nd : ks.Nodup
  mem : ∀ k, k ∈ ks ↔ ∃ z ∈ zs, an z = k
theorem flat_filter {β : Type} (g : κ → List β) (q : κ → Bool) : ∀ (ks : List κ), (∀ k ∈ ks, q k = false → g k = []) → ks.flatMap g = (ks.filter q).flatMap g
  | [], _ => rfl
  | k :: ks, h => by
    have ih := flat_filter g q ks fun x hx => h x (List.mem_cons_of_mem _ hx)
    cases c : q k with
    | true => rw [List.filter_cons_of_pos c, List.flatMap_cons, List.flatMap_cons, ih]
    | false => rw [List.filter_cons_of_neg (by rw [c]; decide), List.flatMap_cons, h k List.mem_cons_self c, ih]; rfl
theorem near_grp {le : κ → κ → Bool} (anti : ∀ a b, le a b = true → le b a = true → a = b) {an an' : α → κ} {zs zs' : List α} {ks ks' : List κ} {r : α} (K : Keys le an zs ks) (K' : Keys le an' zs' ks') (e : off r zs = off r zs') (ha : ∀ y, y ≠ r → an y = an' y) :
    Near (if an r = an' r then 2 else 3) (grp an zs ks) (grp an' zs' ks') := by
  have gen : ∀ D : List (Itm κ α), Itm.row r ∈ D → Itm.hd (an r) ∈ D → Itm.hd (an' r) ∈ D → (∀ x ∈ D, x = Itm.row r ∨ x = Itm.hd (an r) ∨ x = Itm.hd (an' r)) → ((grp an zs ks).filter fun x => !decide (x ∈ D)) = (grp an' zs' ks').filter fun x => !decide (x ∈ D) := by
    intro D d0 d1 d2 dD
    have step : ∀ (b : α → κ) (l : List α) (qs : List κ), ((grp b l qs).filter fun x => !decide (x ∈ D)) = qs.flatMap fun k => (if (Itm.hd k : Itm κ α) ∈ D then [] else [Itm.hd k]) ++ (cls b (off r l) k).map Itm.row := by
      intro b l qs
      unfold grp
      rw [List.filter_flatMap]
      congr 1
      funext k
      have rows : (((cls b l k).map Itm.row).filter fun x : Itm κ α => !decide (x ∈ D)) = (cls b (off r l) k).map Itm.row := by
        rw [← cls_off, List.filter_map]
        unfold off
        congr 1
        refine List.filter_congr fun x _ => ?_
        show (!decide ((Itm.row x : Itm κ α) ∈ D)) = !decide (x ∈ [r])
        congr 1
        refine decide_eq_decide.mpr ⟨fun h => ?_, fun h => ?_⟩
        · rcases dD _ h with z | z | z
          · exact List.mem_singleton.mpr (Itm.row.inj z)
          · cases z
          · cases z
        · rw [List.mem_singleton.mp h]
          exact d0
      by_cases c : (Itm.hd k : Itm κ α) ∈ D
      · rw [if_pos c, List.filter_cons_of_neg (by rw [decide_eq_true c]; decide), rows]
        rfl
      · rw [if_neg c, List.filter_cons_of_pos (by rw [decide_eq_false c]; rfl), rows]
        rfl
    have hc : ∀ k, cls an' (off r zs') k = cls an (off r zs) k := fun k => by
      rw [← e]
      exact (cls_congr (fun y hy => ha y (mem_off.mp hy).2) k).symm
    rw [step, step]
    have eg : (fun k => (if (Itm.hd k : Itm κ α) ∈ D then [] else [Itm.hd k]) ++ (cls an' (off r zs') k).map Itm.row) = fun k => (if (Itm.hd k : Itm κ α) ∈ D then [] else [Itm.hd k]) ++ (cls an (off r zs) k).map Itm.row := by
      funext k
      rw [hc k]
    rw [eg]
    have q0 : ∀ (qs : List κ), ∀ k ∈ qs, (!(cls an (off r zs) k).isEmpty || !decide ((Itm.hd k : Itm κ α) ∈ D)) = false → ((if (Itm.hd k : Itm κ α) ∈ D then ([] : List (Itm κ α)) else [Itm.hd k]) ++ (cls an (off r zs) k).map Itm.row) = [] := by
      intro qs k _ h
      rw [Bool.or_eq_false_iff, Bool.not_eq_false', Bool.not_eq_false', decide_eq_true_iff] at h
      rw [if_pos h.2, List.isEmpty_iff.mp h.1]
      rfl
    rw [flat_filter _ (fun k => !(cls an (off r zs) k).isEmpty || !decide ((Itm.hd k : Itm κ α) ∈ D)) ks (q0 ks), flat_filter _ (fun k => !(cls an (off r zs) k).isEmpty || !decide ((Itm.hd k : Itm κ α) ∈ D)) ks' (q0 ks')]
    congr 1
    have full : ∀ k, (∃ z ∈ off r zs, an z = k) → (k ∈ ks ∧ k ∈ ks') := fun k ⟨z, hz, ez⟩ => by
      refine ⟨(K.mem k).mpr ⟨z, (mem_off.mp hz).1, ez⟩, (K'.mem k).mpr ⟨z, (mem_off.mp (e ▸ hz)).1, ?_⟩⟩
      rw [← ha z (mem_off.mp hz).2]
      exact ez
    have has : ∀ k, (!(cls an (off r zs) k).isEmpty) = true → ∃ z ∈ off r zs, an z = k := fun k h => by
      cases c : cls an (off r zs) k with
      | nil =>
        rw [c] at h
        cases h
      | cons z l =>
        have mz : z ∈ cls an (off r zs) k := by
          rw [c]
          exact List.mem_cons_self
        obtain ⟨h1, h2⟩ := List.mem_filter.mp mz
        exact ⟨z, h1, of_decide_eq_true h2⟩
    have both : ∀ k, (k ∈ ks ∧ (!(cls an (off r zs) k).isEmpty || !decide ((Itm.hd k : Itm κ α) ∈ D)) = true) ↔ (k ∈ ks' ∧ (!(cls an (off r zs) k).isEmpty || !decide ((Itm.hd k : Itm κ α) ∈ D)) = true) := fun k => by
      constructor
      · rintro ⟨h1, h2⟩
        refine ⟨?_, h2⟩
        rcases Bool.or_eq_true _ _ ▸ h2 with h3 | h3
        · exact (full k (has k h3)).2
        · obtain ⟨z, hz, ez⟩ := (K.mem k).mp h1
          have n : z ≠ r := fun c => by
            rw [c] at ez
            rw [← ez, decide_eq_true d1] at h3
            cases h3
          exact (full k ⟨z, mem_off.mpr ⟨hz, n⟩, ez⟩).2
      · rintro ⟨h1, h2⟩
        refine ⟨?_, h2⟩
        rcases Bool.or_eq_true _ _ ▸ h2 with h3 | h3
        · exact (full k (has k h3)).1
        · obtain ⟨z, hz, ez⟩ := (K'.mem k).mp h1
          have n : z ≠ r := fun c => by
            rw [c] at ez
            rw [← ez, decide_eq_true d2] at h3
            cases h3
          refine (full k ⟨z, ?_, by rw [ha z n]; exact ez⟩).1
          rw [e]
          exact mem_off.mpr ⟨hz, n⟩
    refine List.Perm.eq_of_pairwise (le := fun a b => le a b = true) (fun a b _ _ h1 h2 => anti a b h1 h2) (K.pw.sublist List.filter_sublist) (K'.pw.sublist List.filter_sublist) ?_
    refine (List.perm_ext_iff_of_nodup (K.nd.sublist List.filter_sublist) (K'.nd.sublist List.filter_sublist)).mpr fun k => ?_
    rw [List.mem_filter, List.mem_filter]
    exact both k
  by_cases c : an r = an' r
  · rw [if_pos c]
    refine ⟨[Itm.row r, Itm.hd (an r)], by simp, Nat.le_refl _, gen _ (by simp) (by simp) (by rw [← c]; simp) fun x hx => ?_⟩
    rcases List.mem_cons.mp hx with z | z
    · exact .inl z
    · exact .inr (.inl (List.mem_singleton.mp z))
  · rw [if_neg c]
    refine ⟨[Itm.row r, Itm.hd (an r), Itm.hd (an' r)], by simp [c], Nat.le_refl _, gen _ (by simp) (by simp) (by simp) fun x hx => ?_⟩
    rcases List.mem_cons.mp hx with z | z
    · exact .inl z
    · rcases List.mem_cons.mp z with z | z
      · exact .inr (.inl z)
      · exact .inr (.inr (List.mem_singleton.mp z))
end
end Stp
set_option Elab.async false
set_option linter.all false
set_option maxRecDepth 100000
set_option maxHeartbeats 8000000
/-! SA: rows and headers as data. -/
namespace G
open PySem PySem.Spec PyProof.Rows L2 NdefX DvT StX SkL LamX PySem.W
theorem name_strOk {z : Str} (h : NameZ z) : PyData.strOk z = true := by
  unfold PyData.strOk
  rw [Array.all_eq_true]
  intro i hi
  have := h.1 _ (show z.cps[i] ∈ z.cps.toList from Array.mem_toList_iff.mpr (Array.getElem_mem hi))
  exact decide_eq_true (Nat.lt_of_le_of_lt this.2 (by decide))
theorem lay_ints (k : List Int) : PyData.canLayAll0 (k.map PyData.int) = true := by
  induction k with
  | nil => simp [PyData.canLayAll0]
  | cons a k ih => simp [PyData.canLayAll0, PyData.canLay0, ih]
theorem str_beqM (a b : Str) : (a == b) = decide (a = b) := by
  by_cases h : a = b
  · rw [decide_eq_true h, h]
    exact beq_self_eq_true _
  · rw [decide_eq_false h]
    exact Bool.eq_false_iff.mpr fun e => h (beq_iff_eq.mp e)
abbrev Im := Stp.Itm (List Int) Str
def encM : Im → PyData
  | .hd k => .tuple [.str "group", encK k]
  | .row z => .str z
theorem encM_eqv : ∀ a b : Im, PyData.eqv (encM a) (encM b) = decide (a = b)
  | .hd j, .hd k => by
    have eqi : ∀ ns ms : List Int, PyData.eqvAll (ns.map PyData.int) (ms.map PyData.int) = decide (ns = ms) := fun ns => by
      induction ns with
      | nil =>
        intro ms
        cases ms with
        | nil => simp [PyData.eqvAll]
        | cons m ms => simp [PyData.eqvAll]
      | cons n ns ih =>
        intro ms
        cases ms with
        | nil => simp [PyData.eqvAll]
        | cons m ms =>
          simp only [List.map_cons, PyData.eqvAll, PyData.eqv, ih]
          by_cases h : n = m
          · subst h
            simp
          · simp [h]
    simp only [encM, encK, PyData.eqv, PyData.eqvAll, eqi]
    simp
  | .hd j, .row z => by simp [encM, PyData.eqv]
  | .row z, .hd j => by simp [encM, PyData.eqv]
  | .row y, .row z => by
    simp only [encM, PyData.eqv]
    rw [str_beqM]
    simp
def ImOk (x : Im) : Prop := ∀ z, x = .row z → NameZ z
theorem encM_lay {x : Im} (h : ImOk x) : (encM x).canLay0 = true ∧ (encM x).depth ≤ 2 := by
  have e2 : PyData.strOk (Str.ofString "group") = true := by decide +kernel
  cases x with
  | hd k =>
    constructor
    · simp [encM, encK, PyData.canLayAll0, PyData.canLay0, lay_ints, e2]
    · simp [PyData.depthAll, encM, encK, PyData.depth, PySem.W.depth_ints]
  | row z =>
    constructor
    · simp [encM, PyData.canLay0, name_strOk (h z rfl)]
    · simp [encM, PyData.depth]
theorem encM_layAll : ∀ xs : List Im, (∀ x ∈ xs, ImOk x) → PyData.canLayAll0 (xs.map encM) = true ∧ PyData.depthAll (xs.map encM) ≤ 2
  | [], _ => by simp [PyData.canLayAll0, PyData.depthAll]
  | x :: xs, h => by
    obtain ⟨h1, h2⟩ := encM_layAll xs fun y hy => h y (List.mem_cons_of_mem _ hy)
    obtain ⟨h3, h4⟩ := encM_lay (h x List.mem_cons_self)
    constructor
    · simp [PyData.canLayAll0, h1, h3]
    · simp only [List.map_cons, PyData.depthAll]
      omega
theorem encM_shaped {x : Im} (h : ImOk x) : SeqAt.shaped (encM x) = true := by
  obtain ⟨h1, h2⟩ := encM_lay h
  show ((encM x).canLay0 && decide ((encM x).depth ≤ 64)) = true
  rw [Bool.and_eq_true]
  exact ⟨h1, decide_eq_true (by omega)⟩
theorem encMs_shaped {xs : List Im} (h : ∀ x ∈ xs, ImOk x) : SeqAt.shaped (.list (xs.map encM)) = true := by
  obtain ⟨h1, h2⟩ := encM_layAll xs h
  have h3 : PyData.depth (.list (xs.map encM)) ≤ 64 := by
    simp only [PyData.depth]
    omega
  show (PyData.canLay0 (.list (xs.map encM)) && decide (PyData.depth (.list (xs.map encM)) ≤ 64)) = true
  rw [Bool.and_eq_true]
  exact ⟨by simp only [PyData.canLay0]; exact h1, decide_eq_true h3⟩
theorem encM_any (x : Im) : ∀ xs : List Im, ((xs.map encM).any fun z => PyData.eqv z (encM x)) = decide (x ∈ xs)
  | [] => by simp
  | y :: ys => by
    rw [List.map_cons, List.any_cons, encM_any x ys, encM_eqv]
    by_cases h : y = x
    · subst h
      simp
    · rw [decide_eq_false h, Bool.false_or]
      refine decide_eq_decide.mpr ⟨fun h2 => List.mem_cons_of_mem _ h2, fun h2 => ?_⟩
      rcases List.mem_cons.mp h2 with z | z
      · exact absurd z.symm h
      · exact z
theorem rIndexM {K : PySem.W.Frag} {H : Hp} {l : Addr} {v : V} {xs : List Im} {x : Im} {Q : VK} (hl : Dp K H (.ref l) (.list (xs.map encM))) (hv : Dp K H v (encM x)) (ok : ∀ x ∈ xs, ImOk x) (hx : x ∈ xs) (nd : xs.Nodup) (q : Q (.int (Stp.idx xs x : Nat)) H) : rIndexD K (.ref l) [v] H Q := by
  have at_ := Stp.idx_at hx
  refine ⟨l, v, encM x, xs.map encM, Stp.idx xs x, encM x, rfl, rfl, hl, hv, encMs_shaped ok, encM_shaped (ok x hx), ?_, by rw [encM_eqv]; exact decide_eq_true rfl, fun m z' hm hz => ?_, q⟩
  · rw [List.getElem?_map, at_]
    rfl
  · rw [List.getElem?_map] at hz
    obtain ⟨y, hy, rfl⟩ := Option.map_eq_some_iff.mp hz
    rw [encM_eqv]
    refine decide_eq_false fun e => ?_
    subst e
    obtain ⟨h1, e1⟩ := List.getElem?_eq_some_iff.mp hy
    obtain ⟨h2, e2⟩ := List.getElem?_eq_some_iff.mp at_
    have := (List.getElem_inj nd).mp (e1.trans e2.symm)
    omega
/-! ### max of a list of ints -/
theorem readsI {h : Heap} : ∀ {ns : List Int} {us : List Value}, Vals (ns.map V.int) us → ReadsAll h us (ns.map .int) []
  | [], _, .nil => .nil
  | n :: ns, _, .cons r rr => by
    obtain ⟨t, rfl⟩ := r
    exact ReadsAll.cons (.int n t) (readsI rr)
theorem depthAll_I : ∀ ns : List Int, PyData.depthAll (ns.map .int) = 0
  | [] => by simp [PyData.depthAll]
  | n :: ns => by
    have := depthAll_I ns
    simp only [List.map_cons, PyData.depthAll, PyData.depth]
    omega
def rMaxI (K : PySem.W.Frag) : List V → Hp → VK → Prop := fun vs H Q => ∃ (a : Addr) (n : Int) (ns : List Int), vs = [V.ref a] ∧ SqL K H a ((n :: ns).map V.int) ∧ Q (.int (ns.foldl max n)) H
theorem cr_maxI {X : Cx} (hc : X.calm = true) (hu : X.A.units + 8 < cLine) : CallR X (.builtin "max") (rMaxI X.K) := by
  intro pins s σ H vs us Q I r h
  obtain ⟨a, n, ns, rfl, hs, q⟩ := h
  obtain ⟨its, rv, hl, hz⟩ := I.list hs
  obtain ⟨u, rfl, ru⟩ := r.one
  obtain rfl : u = Value.ref a := ru
  have rs := readsI (h := s.heap) rv
  refine max_list_data (x := .int n) (xs := ns.map .int) (as := []) (I.ok.hd hc) hl.isList (by simpa using rs) ⟨fun d hd d' hd' => ?_, fun d hd => ?_⟩ ?_ fun i v h' tk bs hi rd hk => ?_
  · obtain ⟨p, _, rfl⟩ := List.mem_map.mp (show d ∈ (n :: ns).map PyData.int from hd)
    obtain ⟨p', _, rfl⟩ := List.mem_map.mp (show d' ∈ (n :: ns).map PyData.int from hd')
    rfl
  · obtain ⟨p, _, rfl⟩ := List.mem_map.mp (show d ∈ (n :: ns).map PyData.int from hd)
    exact fun z => nomatch z
  · have := depthAll_I (n :: ns)
    show X.A.units + 1 + PyData.depthAll ((n :: ns).map PyData.int) < cLine
    omega
  · rw [maxD_ints] at rd
    obtain ⟨t, rfl⟩ : ∃ t, v = Value.int (ns.foldl max n) t := by
      cases rd
      exact ⟨_, rfl⟩
    exact ⟨.int (ns.foldl max n), H, I.kept hk, ⟨_, rfl⟩, q⟩
end G
set_option Elab.async false
set_option linter.all false
set_option maxRecDepth 100000
set_option maxHeartbeats 8000000
/-! SB: _law_steps. -/
namespace G
open PySem PySem.Spec PyProof.Rows L2 NdefX DvT StX SkL LamX PySem.W
abbrev sLStp : Stmt := topS 48
abbrev nLStp : List Str := ["_law_old", "_law_new", "_law_kept", "_law_best", "_law_at", "_law_place", "_law_row", "_law_k"]
theorem scLStp : FnScope nLStp ["_law_old", "_law_new"] (defScope sLStp) := ⟨rfl, rfl, rfl, by decide +kernel, rfl, by decide +kernel, by decide +kernel⟩
/-- a list of rows and headers -/
def ImAt (K : PySem.W.Frag) (H : Hp) (l : Addr) (xs : List Im) : Prop := ∃ vs : List V, SqL K H l vs ∧ DpAll K H vs (xs.map encM)
theorem ImAt.dp {K : PySem.W.Frag} {H : Hp} {l : Addr} {xs : List Im} (h : ImAt K H l xs) : Dp K H (.ref l) (.list (xs.map encM)) := let ⟨_, a, b⟩ := h; .lst a b
def spLStp (K : PySem.W.Frag) : Sp := fun vs H Q _ => ∃ (a b : Addr) (xs ys : List Im), vs = [.ref a, .ref b] ∧ ImAt K H a xs ∧ ImAt K H b ys ∧ xs.Nodup ∧ ys.Nodup ∧ xs.length ≤ 100 ∧ ys.length ≤ 100 ∧ (∀ x ∈ xs, ImOk x) ∧ (∀ x ∈ ys, ImOk x) ∧ ∀ H', Same H H' → Q (.int (Stp.stp xs ys)) H'
mutual
theorem dp_same {K : PySem.W.Frag} {H H' : Hp} (s : Same H H') : ∀ {v : V} {d : PyData}, Dp K H v d → Dp K H' v d
  | _, _, .non => .non
  | _, _, .bl b => .bl b
  | _, _, .int i => .int i
  | _, _, .str x => .str x
  | _, _, .lst a b => .lst (sqL_keep s a) (dpAll_same s b)
  | _, _, .tup a b => .tup (sqT_keep s a) (dpAll_same s b)
theorem dpAll_same {K : PySem.W.Frag} {H H' : Hp} (s : Same H H') : ∀ {vs : List V} {ds : List PyData}, DpAll K H vs ds → DpAll K H' vs ds
  | _, _, .nil => .nil
  | _, _, .cons a b => .cons (dp_same s a) (dpAll_same s b)
end
theorem ImAt.same {K : PySem.W.Frag} {H H' : Hp} {l : Addr} {xs : List Im} (h : ImAt K H l xs) (s : Same H H') : ImAt K H' l xs := let ⟨vs, a, b⟩ := h; ⟨vs, sqL_keep s a, dpAll_same s b⟩
theorem dpAll_at {K : PySem.W.Frag} {H : Hp} : ∀ {vs : List V} {xs : List Im} {i : Nat} {v : V}, DpAll K H vs (xs.map encM) → vs[i]? = some v → ∃ x, xs[i]? = some x ∧ Dp K H v (encM x)
  | [], [], i, v, _, e => by simp at e
  | w :: vs, x :: xs, 0, v, h, e => by
    cases h with
    | cons h1 h2 =>
      cases e
      exact ⟨x, rfl, h1⟩
  | w :: vs, x :: xs, i + 1, v, h, e => by
    cases h with
    | cons h1 h2 => exact dpAll_at (xs := xs) h2 e
theorem dpAll_len {K : PySem.W.Frag} {H : Hp} : ∀ {vs : List V} {ds : List PyData}, DpAll K H vs ds → vs.length = ds.length
  | _, _, .nil => rfl
  | _, _, .cons _ b => congrArg (· + 1) (dpAll_len b)
theorem take_snocB {α : Type} {xs : List α} {i : Nat} {x : α} (h : xs[i]? = some x) : xs.take (i + 1) = xs.take i ++ [x] := by
  rw [List.take_add_one, h]
  rfl
theorem filt_snocB {α : Type} {p : α → Bool} {xs : List α} {x : α} : (xs ++ [x]).filter p = if p x = true then xs.filter p ++ [x] else xs.filter p := by
  rw [List.filter_append]
  by_cases h : p x = true
  · rw [if_pos h, List.filter_cons_of_pos h, List.filter_nil]
  · rw [if_neg h, List.filter_cons_of_neg h, List.filter_nil, List.append_nil]
theorem kept_snoc (xs ys : List Im) (y : Im) : Stp.kept xs (ys ++ [y]) = if decide (y ∈ xs) = true then Stp.kept xs ys ++ [Int.ofNat (Stp.idx xs y)] else Stp.kept xs ys := by
  unfold Stp.kept
  rw [filt_snocB]
  split
  · rw [List.map_append]
    rfl
  · rfl
theorem run_snoc : ∀ (ps : List Int) (p : Int) (acc : List (Int × Nat)), Stp.run (ps ++ [p]) acc = Stp.run ps acc ++ [(p, Stp.bst (Stp.run ps acc) p)]
  | [], _, _ => rfl
  | q :: ps, p, acc => run_snoc ps p _
theorem run_fst : ∀ (ps : List Int) (acc : List (Int × Nat)), (Stp.run ps acc).map (·.1) = acc.map (·.1) ++ ps
  | [], acc => by rw [List.append_nil]; rfl
  | q :: ps, acc => by
    show (Stp.run ps (acc ++ [(q, Stp.bst acc q)])).map (·.1) = _
    rw [run_fst ps, List.map_append, List.append_assoc]
    rfl
theorem foldl_cast : ∀ (l : List Nat) (a : Nat), (l.map Int.ofNat).foldl max (Int.ofNat a) = Int.ofNat (l.foldl max a)
  | [], _ => rfl
  | x :: l, a => by
    rw [List.map_cons, List.foldl_cons, List.foldl_cons, ← foldl_cast l]
    congr 1
    show max (a : Int) (x : Int) = ((max a x : Nat) : Int)
    omega
def natV (ns : List Nat) : List V := ns.map fun n => V.int (Int.ofNat n)
theorem natV_I (ns : List Nat) : natV ns = (ns.map Int.ofNat).map V.int := by
  unfold natV
  rw [List.map_map]
  rfl
section
variable {P : Program} {w : World} {K : PySem.W.Frag} {mg : Str → Option Value} {base : Heap} {f : Addr} {fd : FuncData}
theorem ok_lstp (F : Fun K "_law_steps" "_law_steps" sLStp f fd) (ml : mg "len" = none) (mx : mg "max" = none) (me : mg "enumerate" = none) (mr : mg "range" = none) : FnOk P w K mg base CX0 1 f fd ["_law_old", "_law_new"] (spLStp K) := by
  refine F.ok scLStp (fun vs H Q E h => ?_) (fun cdv A outer s H vs Q E hr h => ?_)
  · obtain ⟨a, b, xs, ys, rfl, _⟩ := h
    rfl
  · obtain ⟨a, b, xs, ys, rfl, ha, hb, nx, ny, lx, ly, okx, oky, q⟩ := h
    have hu65 : (A.deeper (envOfC "_law_steps" (defScope sLStp) s.heap.objs.size f cdv)).units + 65 < cLine := by have := hr.un; omega
    have hu8 : (A.deeper (envOfC "_law_steps" (defScope sLStp) s.heap.objs.size f cdv)).units + 8 < cLine := by have := hr.units; omega
    refine ⟨_, pss_cons (ps_set (i := 2) scLStp.nd rfl (.inr rfl) (by exact pe_lc (own := [("_law_row", 6)]) (g := gName 6) (tt := tTest (tOp (rInD K) (tVar 6) (tVar 0))) (te := tBM K "list" (rIndexD K) (tVar 0) (tCons (tVar 6) tNil)) (by rfl) scLStp.nd (pi_list (pv 1)) (blkOk_by (own := [("_law_row", 6)]) (N := nLStp) (sc := defScope sLStp) (by decide +kernel)) (fun _ _ _ _ _ => pg_name (i := 6) scLStp.nd rfl (.inl rfl)) (fun _ _ _ _ _ => pts_one (pt_cmpR (r := rInD K) (op_inD (by exact hu65)) (pv 6) (pv 0) (by rfl))) (fun _ _ _ _ _ => by exact pe_bm PySem.F.plainAttrs_list PySem.F.slot_list_index PySem.F.type_list_index (mt_indexD (by exact hu65)) (pv 0) (pa_cons (pv 6) pa_nil))))
      (pss_cons (ps_set (i := 3) scLStp.nd rfl (.inr rfl) (pe_lst pa_nil))
      (pss_cons (ps_for PassesOwn.never rfl (pi_enum (by rfl) me (pa_cons (pv 2) pa_nil)) (pg_tup rfl (pgs_cons (pg_name (i := 4) scLStp.nd rfl (.inl rfl)) (pgs_cons (pg_name (i := 5) scLStp.nd rfl (.inr rfl)) pgs_nil)))
        (pss_one (ps_expr (pe_bm PySem.F.plainAttrs_list PySem.F.slot_list_append PySem.F.type_list_append mt_append (pv 3) (pa_cons (pe_op op_add pe_int (pe_callB (cr_maxI rfl hu8) (by rfl) mx (by decide +kernel) (pa_cons (pe_op op_cat (pe_lst (pa_cons pe_int pa_nil))
          (by exact pe_lc (own := [("_law_k", 7)]) (g := gName 7) (tt := tTest (tOp (rI0 fun i j => V.bl (decide (i < j))) (tOp (rIxL K) (tVar 2) (tVar 7)) (tVar 5))) (te := tOp (rIxL K) (tVar 3) (tVar 7)) (by rfl) scLStp.nd (pi_range1 rfl mr (pa_cons (pv 4) pa_nil)) (blkOk_by (own := [("_law_k", 7)]) (N := nLStp) (sc := defScope sLStp) (by decide +kernel)) (fun _ _ _ _ _ => pg_name (i := 7) scLStp.nd rfl (.inl rfl)) (fun _ _ _ _ _ => pts_one (by exact pt_cmpR op_lt (pe_ix ix_list (pv 2) (pv 7) (fun _ _ => rfl)) (pv 5) (nomark _))) (fun _ _ _ _ _ => by exact pe_ix ix_list (pv 3) (pv 7) (fun _ _ => rfl)))) pa_nil))) pa_nil)))))
      (pss_one (ps_ret (pe_op op_sub (pe_op op_sub (pe_op op_add (pe_callB call_len_seq (by rfl) ml PySem.boot_len (pa_cons (pv 0) pa_nil)) (pe_callB call_len_seq (by rfl) ml PySem.boot_len (pa_cons (pv 1) pa_nil))) (pe_callB call_len_seq (by rfl) ml PySem.boot_len (pa_cons (pv 2) pa_nil)))
        (pe_callB (cr_maxI rfl hu8) (by rfl) mx (by decide +kernel) (pa_cons (pe_op op_cat (pe_lst (pa_cons pe_int pa_nil)) (pv 3)) pa_nil))))))), ?_⟩
    obtain ⟨ws, hbs, dbs⟩ := id hb
    obtain ⟨us, hus, dus⟩ := id ha
    have lws : ws.length = ys.length := by rw [dpAll_len dbs, List.length_map]
    have lus : us.length = xs.length := by rw [dpAll_len dus, List.length_map]
    refine ⟨_, rfl, b, rfl, ⟨_, hbs⟩, fun D hD => ?_⟩
    refine lc_list (xs := ws) (fun i H3 => Same H H3 ∧ H3 D = some (.lst ((Stp.kept xs (ys.take i)).map V.int))) ?_ ?_ ?_ ?_
    · exact ⟨Same.new hD, upd_same⟩
    · exact fun _ _ _ z => sqL_keep z.1 hbs
    · rintro i v H3 hv ⟨s3, e3⟩
      obtain ⟨y, hy, dv⟩ := dpAll_at dbs hv
      have my := List.mem_of_getElem? hy
      have iy := (List.getElem?_eq_some_iff.mp hy).1
      refine ⟨rfl, ?_⟩
      refine ⟨_, rfl, _, rfl, encM y, xs.map encM, dp_same s3 dv, (ha.same s3).dp, encM_shaped (oky y my), encMs_shaped okx, _, rfl, ?_⟩
      rw [encM_any, take_snocB hy, kept_snoc]
      by_cases c : y ∈ xs
      · rw [decide_eq_true c, if_pos rfl]
        refine iteT ⟨_, rfl, .inl ⟨rfl, _, sqL_keep s3 hus⟩, _, rfl, ?_⟩
        dsimp only [tNil]
        refine rIndexM (ha.same s3).dp (dp_same s3 dv) okx c nx ⟨_, e3, ?_, fun c o e => (upd_ne (ne_of_none e hD)).trans (s3 _ _ e), ?_⟩
        · rw [List.length_map]
          unfold Stp.kept
          have := List.length_filter_le (fun x => decide (x ∈ xs)) (ys.take i)
          rw [List.length_take] at this
          rw [List.length_map]
          exact small1000 (by omega)
        · rw [upd_same, List.map_append]
          rfl
      · rw [decide_eq_false c, if_neg (by decide)]
        exact iteF ⟨s3, e3⟩
    rintro H1 ⟨s1, e1⟩
    rw [lws, List.take_length] at e1
    have lk : (Stp.kept xs ys).length ≤ ys.length := by
      unfold Stp.kept
      rw [List.length_map]
      exact List.length_filter_le _ _
    generalize hks : Stp.kept xs ys = ks at e1 lk
    refine ⟨(by show 0 ≤ sizeLine; decide), fun B hB => ?_⟩
    have t1 := Same.new (o := .lst []) hB
    have eD := t1 _ _ e1
    have eB : (upd H1 B (.lst [])) B = some (.lst []) := upd_same
    have s2 := s1.trans t1
    have hB0 : H B = none := s1.free hB
    have nDB : D ≠ B := fun z => by
      rw [← z, e1] at hB
      cases hB
    generalize upd H1 B (.lst []) = H2 at eD eB s2 ⊢
    refine ⟨_, rfl, D, _, rfl, .of eD, ?_⟩
    refine for_it (walk_enum (xs := ks.map V.int)) (fun i σ H3 => Same H H3 ∧ H3 D = some (.lst (ks.map V.int)) ∧ H3 B = some (.lst (natV ((Stp.run (ks.take i) []).map (·.2)))) ∧ ∃ x4 x5 : Option V, σ = [some (.ref a), some (.ref b), some (.ref D), some (.ref B), x4, x5, none, none]) ?_ ?_ ?_ ?_
    · exact ⟨s2, eD, eB, none, none, rfl⟩
    · exact fun i σ H3 _ h => .of h.2.1
    · rintro i v σ H3 H4 hi ⟨s3, eD3, eB3, x4, x5, rfl⟩ ⟨T, x, y, rfl, hT, rfl, hx, hy⟩
      cases hx
      replace hy : (ks.map V.int)[i]? = some y := hy
      rw [List.getElem?_map] at hy
      obtain ⟨p, hp, rfl⟩ := Option.map_eq_some_iff.mp hy
      have iy := (List.getElem?_eq_some_iff.mp hp).1
      have sT := Same.new (o := .tup [.int (i : Nat), .int p]) hT
      have eT : (upd H3 T (.tup [.int (i : Nat), .int p])) T = some (.tup [.int (i : Nat), .int p]) := upd_same
      have eD4 := sT _ _ eD3
      have eB4 := sT _ _ eB3
      have s4 := s3.trans sT
      generalize upd H3 T (.tup [.int (i : Nat), .int p]) = H4 at eT eD4 eB4 s4 ⊢
      refine ⟨T, _, rfl, .of eT, rfl, _, _, rfl, _, _, rfl, rfl, ?_⟩
      have hfst := run_fst (ks.take i) []
      rw [List.map_nil, List.nil_append] at hfst
      have e9 : Stp.run (ks.take (i + 1)) [] = Stp.run (ks.take i) [] ++ [(p, Stp.bst (Stp.run (ks.take i) []) p)] := by rw [take_snocB hp, run_snoc]
      rw [e9]
      generalize Stp.run (ks.take i) [] = acc at eB4 hfst ⊢
      have lacc : acc.length = i := by
        have := congrArg List.length hfst
        rw [List.length_map, List.length_take] at this
        omega
      refine ⟨_, rfl, .inl ⟨rfl, _, .of eB4⟩, ?_⟩
      refine ⟨(by show 1 ≤ sizeLine; decide), fun z0 hz0 => ?_⟩
      have t0 := Same.new (o := .lst [.int 0]) hz0
      have ez0 : (upd H4 z0 (.lst [.int 0])) z0 = some (.lst [.int 0]) := upd_same
      have eD5 := t0 _ _ eD4
      have eB5 := t0 _ _ eB4
      have s5 := s4.trans t0
      have t45 := t0
      generalize upd H4 z0 (.lst [.int 0]) = H5 at ez0 eD5 eB5 s5 t45 ⊢
      refine ⟨_, rfl, (i : Int), rfl, by omega, by omega, fun C hC => ?_⟩
      rw [Int.toNat_natCast]
      refine lc_it (walk_range (lo := 0) (n := i)) (fun k H6 => Same H5 H6 ∧ H6 C = some (.lst (natV (((acc.take k).filter fun q => decide (q.1 < p)).map (·.2))))) ?_ ?_ ?_ ?_
      · exact ⟨Same.new hC, upd_same⟩
      · exact fun _ _ _ _ => trivial
      · rintro k v H6 H7 hk ⟨s6, e6⟩ ⟨rfl, ev⟩
        replace ev : v = V.int (0 + (k : Nat)) := ev
        rw [Int.zero_add] at ev
        subst ev
        have hq : acc[k]? = some acc[k] := List.getElem?_eq_getElem (by omega)
        generalize acc[k] = qk at hq
        have hkk : ks[k]? = some qk.1 := by
          have h1 : (acc.map (·.1))[k]? = some qk.1 := by rw [List.getElem?_map, hq] <;> rfl
          rw [hfst, List.getElem?_take, if_pos hk] at h1
          exact h1
        refine ⟨rfl, ?_⟩
        refine ⟨_, rfl, _, rfl, D, _, _, .int qk.1, rfl, rfl, .of (s6 _ _ eD5), atI_nat (j := k) (by rw [List.getElem?_map, hkk] <;> rfl), ?_⟩
        refine ⟨_, rfl, _, _, rfl, rfl, _, rfl, ?_⟩
        rw [take_snocB hq, filt_snocB]
        by_cases c : qk.1 < p
        · rw [decide_eq_true c, if_pos rfl]
          refine iteT ⟨_, rfl, _, rfl, B, _, _, .int (Int.ofNat qk.2), rfl, rfl, .of (s6 _ _ eB5), atI_nat (j := k) (by unfold natV; rw [List.getElem?_map, List.getElem?_map, hq] <;> rfl), _, e6, ?_, fun c o e => (upd_ne (ne_of_none e hC)).trans (s6 _ _ e), ?_⟩
          · unfold natV
            rw [List.length_map, List.length_map]
            have := List.length_filter_le (fun q => decide (q.1 < p)) (acc.take k)
            rw [List.length_take] at this
            exact small1000 (by omega)
          · rw [upd_same]
            unfold natV
            rw [List.map_append, List.map_append]
            rfl
        · rw [decide_eq_false c, if_neg (by decide)]
          exact iteF ⟨s6, e6⟩
      rintro H6 ⟨s6, e6⟩
      rw [show acc.take i = acc by rw [← lacc]; exact List.take_length] at e6
      have lf := List.length_filter_le (fun q : Int × Nat => decide (q.1 < p)) acc
      refine ⟨z0, C, _, _, rfl, rfl, s6 _ _ ez0, e6, ?_, fun c hc => ?_⟩
      · unfold natV
        rw [List.length_map, List.length_map]
        exact Nat.le_of_lt (small1000 (by show 1 + _ ≤ 1000; omega))
      have tc := Same.new (o := .lst ([V.int 0] ++ natV ((acc.filter fun q => decide (q.1 < p)).map (·.2)))) hc
      refine ⟨c, 0, ((acc.filter fun q => decide (q.1 < p)).map (·.2)).map Int.ofNat, rfl, .of (by rw [upd_same, natV_I] <;> rfl), _, _, rfl, rfl, ?_⟩
      have s56 := Same.trans (show Same H5 H6 from s6) tc
      have eB7 := s56 _ _ eB5
      have eD7 := s56 _ _ eD5
      have s7 := s5.trans s56
      refine ⟨B, _, _, rfl, rfl, eB7, ?_, ?_⟩
      · unfold natV
        rw [List.length_map, List.length_map, lacc]
        exact small1000 (by omega)
      refine ⟨fun c o e => (upd_ne (ne_of_none e hB0)).trans (s7 _ _ e), (upd_ne nDB).trans eD7, ?_, _, _, rfl⟩
      rw [upd_same]
      unfold natV
      rw [List.map_append, List.map_append]
      have hm := foldl_cast ((acc.filter fun q => decide (q.1 < p)).map (·.2)) 0
      rw [show (Int.ofNat 0) = (0 : Int) from rfl] at hm
      congr 3
      show [V.int (1 + (((acc.filter fun q => decide (q.1 < p)).map (·.2)).map Int.ofNat).foldl max 0)] = _
      rw [hm]
      unfold Stp.bst
      rfl
    · rintro σ H3 ⟨s3, eD3, eB3, x4, x5, rfl⟩
      rw [List.length_map, List.take_length] at eB3
      refine ⟨_, rfl, a, _, rfl, .inl (sqL_keep s3 hus), _, rfl, b, _, rfl, .inl (sqL_keep s3 hbs), _, _, rfl, rfl, _, rfl, D, _, rfl, .inl (.of eD3), _, _, rfl, rfl, ?_⟩
      refine ⟨(by show 1 ≤ sizeLine; decide), fun z0 hz0 => ?_⟩
      have t0 := Same.new (o := .lst [.int 0]) hz0
      have lr : ((Stp.run ks []).map (·.2)).length = ks.length := by
        have := congrArg List.length (run_fst ks [])
        rw [List.length_map, List.length_append] at this
        rw [List.length_map]
        simpa using this
      refine ⟨_, rfl, z0, B, _, _, rfl, rfl, upd_same, t0 _ _ eB3, ?_, fun c hc => ?_⟩
      · unfold natV
        rw [List.length_map, lr]
        exact Nat.le_of_lt (small1000 (by show 1 + _ ≤ 1000; omega))
      have tc := t0.trans (Same.new (o := .lst ([V.int 0] ++ natV ((Stp.run ks []).map (·.2)))) hc)
      refine ⟨c, 0, ((Stp.run ks []).map (·.2)).map Int.ofNat, rfl, .of (by rw [upd_same, natV_I] <;> rfl), _, _, rfl, rfl, ?_⟩
      have ev : ((us.length : Nat) : Int) + ((ws.length : Nat) : Int) - (((ks.map V.int).length : Nat) : Int) - (((Stp.run ks []).map (·.2)).map Int.ofNat).foldl max 0 = Stp.stp xs ys := by
        have := foldl_cast ((Stp.run ks []).map (·.2)) 0
        unfold Stp.stp Stp.lis
        rw [hks, List.length_map, lus, lws]
        rw [show (Int.ofNat 0) = (0 : Int) from rfl] at this
        rw [this]
        rfl
      have fin := q _ (s3.trans tc)
      rw [← ev] at fin
      exact fin
end
end G
set_option Elab.async false
set_option linter.all false
set_option maxRecDepth 100000
set_option maxHeartbeats 8000000
/-! SC: kinds of views, their factors. -/
namespace G
open PySem PySem.Spec PyProof.Rows L2 NdefX DvT StX SkL LamX PySem.W
abbrev sIsKind : Stmt := topS 37
abbrev sNeedKind : Stmt := topS 36
abbrev sFactor : Stmt := topS 34
abbrev sKinds : Stmt := topS 51
theorem scIsKind : FnScope ["value"] ["value"] (defScope sIsKind) := ⟨rfl, rfl, rfl, by decide +kernel, rfl, by decide +kernel, by decide +kernel⟩
theorem scNeedKind : FnScope ["value"] ["value"] (defScope sNeedKind) := ⟨rfl, rfl, rfl, by decide +kernel, rfl, by decide +kernel, by decide +kernel⟩
theorem scFactor : FnScope ["kind"] ["kind"] (defScope sFactor) := ⟨rfl, rfl, rfl, by decide +kernel, rfl, by decide +kernel, by decide +kernel⟩
theorem scKinds : FnScope [] [] (defScope sKinds) := ⟨rfl, rfl, rfl, by decide +kernel, rfl, by decide +kernel, by decide +kernel⟩
def facs : List (Str × Int) := [("filtered", 1), ("ordered", 1), ("unique", 2), ("window", 2), ("grouped", 3), ("mapped", 1)]
/-- the module's dict -/
structure FacD (K : PySem.W.Frag) (w : World) (mg : Str → Option Value) (d : Addr) : Prop where
  D : ∃ es n, KDict K w d es n
  v : ∀ p ∈ facs, ∃ u, PySem.W.nsIn K d p.1 = some (some u) ∧ RelV (.int p.2) u
  g : mg "FACTORS" = some (.ref d)
def spIsKind : Sp := fun vs H Q _ => ∃ p ∈ facs, vs = [.str p.1] ∧ Q (.bl true) H
def spNeedKind : Sp := fun vs H Q _ => ∃ p ∈ facs, vs = [.str p.1] ∧ Q .non H
def spFactor : Sp := fun vs H Q _ => ∃ p ∈ facs, vs = [.str p.1] ∧ Q (.int p.2) H
def spKinds : Sp := fun vs H Q _ => vs = [] ∧ ∀ p, H p = none → Q (.ref p) (upd H p (.lst ((facs.map (·.1)).map V.str)))
section
variable {P : Program} {w : World} {K : PySem.W.Frag} {mg : Str → Option Value} {base : Heap} {f d : Addr} {fd : FuncData}
theorem ok_iskind (F : Fun K "is_kind" "is_kind" sIsKind f fd) (fc : FacD K w mg d) (mi : mg "isinstance" = none) (ms : mg "str" = none) : FnOk P w K mg base CX0 1 f fd ["value"] spIsKind := by
  obtain ⟨es, n, D⟩ := fc.D
  refine F.ok scIsKind (fun vs H Q E h => ?_) (fun cdv A outer s H vs Q E hr h => ?_)
  · obtain ⟨p, _, rfl, _⟩ := h
    rfl
  · obtain ⟨p, hp, rfl, q⟩ := h
    obtain ⟨u, hu, ru⟩ := fc.v p hp
    refine ⟨_, pss_one (ps_ret (pe_and (pt_isi "str" (pv 0) (hm := mi) (mn := ms)) (pe_one (pe_cmpR (op_in_kd (X := _) D) (pv 0) (pe_glob (v := .ref d) rfl fc.g rfl) (by rfl))))), ?_⟩
    have hR : Rp K H (.str p.1) (.str p.1) := .str p.1
    exact ⟨_, rfl, _, _, _, _, _, rfl, .ty _, rp_ty hR, kit_s (.str p.1), _, rfl, iteT ⟨_, rfl, p.1, _, rfl, rfl, hu, q⟩⟩
theorem ok_needkind {fI : Addr} {fdI : FuncData} (F : Fun K "need_kind" "need_kind" sNeedKind f fd) (GI : FnOk P w K mg base CX0 1 fI fdI ["value"] spIsKind) (gI : mg "is_kind" = some (.ref fI)) (kI : PySem.W.keepIn K (.ref fI) = true) (bI : Binds K fdI ["value"] []) : FnOk P w K mg base CX0 2 f fd ["value"] spNeedKind := by
  refine F.ok scNeedKind (fun vs H Q E h => ?_) (fun cdv A outer s H vs Q E hr h => ?_)
  · obtain ⟨p, _, rfl, _⟩ := h
    rfl
  · obtain ⟨p, hp, rfl, q⟩ := h
    refine ⟨_, pss_one (ps_if (pt_not (pt_val (pe_call GI hr rfl gI kI bI .nil pass0 (pa_cons (pv 0) pa_nil)))) (pss_one ps_never) pss_nil), ?_⟩
    exact ⟨_, rfl, p, hp, rfl, _, rfl, iteF q⟩
theorem ok_factor {fI : Addr} {fdI : FuncData} (F : Fun K "factor" "factor" sFactor f fd) (fc : FacD K w mg d) (GI : FnOk P w K mg base CX0 2 fI fdI ["value"] spNeedKind) (gI : mg "need_kind" = some (.ref fI)) (kI : PySem.W.keepIn K (.ref fI) = true) (bI : Binds K fdI ["value"] []) : FnOk P w K mg base CX0 3 f fd ["kind"] spFactor := by
  obtain ⟨es, n, D⟩ := fc.D
  refine F.ok scFactor (fun vs H Q E h => ?_) (fun cdv A outer s H vs Q E hr h => ?_)
  · obtain ⟨p, _, rfl, _⟩ := h
    rfl
  · obtain ⟨p, hp, rfl, q⟩ := h
    obtain ⟨u, hu, ru⟩ := fc.v p hp
    refine ⟨_, pss_cons (ps_expr (pe_call GI hr rfl gI kI bI .nil pass0 (pa_cons (pv 0) pa_nil)))
      (pss_one (ps_ret (pe_ix ix_kdict (pe_glob (v := .ref d) rfl fc.g rfl) (pv 0) (fun _ _ => rfl)))), ?_⟩
    exact ⟨_, rfl, p, hp, rfl, _, rfl, d, p.1, .int p.2, rfl, rfl, ⟨es, n, u, D.at_, D.lit, hu, ru⟩, q⟩
theorem ok_kinds (F : Fun K "_law_kinds" "_law_kinds" sKinds f fd) : FnOk P w K mg base CX0 1 f fd [] spKinds := by
  refine F.ok scKinds (fun vs H Q E h => ?_) (fun cdv A outer s H vs Q E hr h => ?_)
  · obtain ⟨rfl, _⟩ := h
    rfl
  · obtain ⟨rfl, q⟩ := h
    refine ⟨_, pss_one (ps_ret (pe_lst (pa_cons pe_str (pa_cons pe_str (pa_cons pe_str (pa_cons pe_str (pa_cons pe_str (pa_cons pe_str pa_nil)))))))), ?_⟩
    exact ⟨(by show 6 ≤ sizeLine; decide), fun p hp => q p hp⟩
end
abbrev sNeedInt : Stmt := topS 23
abbrev sMost : Stmt := topS 35
abbrev sBound : Stmt := topS 50
theorem scNeedInt : FnScope ["value", "low", "high"] ["value", "low", "high"] (defScope sNeedInt) := ⟨rfl, rfl, rfl, by decide +kernel, rfl, by decide +kernel, by decide +kernel⟩
theorem scMost : FnScope ["kind", "steps", "differing"] ["kind", "steps", "differing"] (defScope sMost) := ⟨rfl, rfl, rfl, by decide +kernel, rfl, by decide +kernel, by decide +kernel⟩
def spNeedInt : Sp := fun vs H Q _ => ∃ v lo hi : Int, vs = [.int v, .int lo, .int hi] ∧ lo ≤ v ∧ v ≤ hi ∧ Q .non H
theorem facs_find : ∀ p ∈ facs, ((facs.find? fun q => decide (q.1 = p.1)).map (·.2)).getD 0 = p.2 := by decide +kernel
/-- the most steps of a kind of view -/
def most (z : Str) (s d : Int) : Int := if z = "mapped" then s else if z = "window" then 2 * s else if z = "grouped" then 2 * s + 3 * d else ((facs.find? fun p => decide (p.1 = z)).map (·.2)).getD 0 * (s + d)
def spMost : Sp := fun vs H Q _ => ∃ p ∈ facs, ∃ s d : Int, vs = [.str p.1, .int s, .int d] ∧ 0 ≤ s ∧ s ≤ 999 ∧ 0 ≤ d ∧ d ≤ 999 ∧ Q (.int (most p.1 s d)) H
section
variable {P : Program} {w : World} {K : PySem.W.Frag} {mg : Str → Option Value} {base : Heap} {f d : Addr} {fd : FuncData}
theorem ok_needint {fI : Addr} {fdI : FuncData} (F : Fun K "need_integer" "need_integer" sNeedInt f fd) (gI : mg "is_integer" = some (.ref fI)) (kI : PySem.W.keepIn K (.ref fI) = true) (bI : Binds K fdI ["value", "low", "high"] []) (GI : FnOk P w K mg base CX0 1 fI fdI ["value", "low", "high"] spIsInt) :
    FnOk P w K mg base CX0 2 f fd ["value", "low", "high"] spNeedInt := by
  refine F.ok scNeedInt (fun vs H Q E h => ?_) (fun cdv A outer s H vs Q E hr h => ?_)
  · obtain ⟨v, lo, hi, rfl, _⟩ := h
    rfl
  · obtain ⟨v, lo, hi, rfl, h1, h2, q⟩ := h
    refine ⟨_, pss_one (ps_if (pt_not (pt_val (pe_call GI hr rfl gI kI bI .nil pass0 (pa_cons (pv 0) (pa_cons (pv 1) (pa_cons (pv 2) pa_nil)))))) (pss_one ps_never) pss_nil), ?_⟩
    refine ⟨_, rfl, _, rfl, _, rfl, v, lo, hi, rfl, _, rfl, ?_⟩
    rw [decide_eq_true h1, decide_eq_true h2]
    exact iteF q
theorem ok_most {fI fK : Addr} {fdI fdK : FuncData} {t1 : Tok} (F : Fun K "most_steps" "most_steps" sMost f fd) (fc : FacD K w mg d) (GK : FnOk P w K mg base CX0 2 fK fdK ["value"] spNeedKind) (gK : mg "need_kind" = some (.ref fK)) (kK : PySem.W.keepIn K (.ref fK) = true) (bK : Binds K fdK ["value"] [])
    (GI : FnOk P w K mg base CX0 2 fI fdI ["value", "low", "high"] spNeedInt) (gI : mg "need_integer" = some (.ref fI)) (kI : PySem.W.keepIn K (.ref fI) = true) (bI : Binds K fdI ["value", "low", "high"] []) (gM : mg "MOST_STEPS_ASKED" = some (.int 999 t1)) : FnOk P w K mg base CX0 3 f fd ["kind", "steps", "differing"] spMost := by
  obtain ⟨es, n, D⟩ := fc.D
  refine F.ok scMost (fun vs H Q E h => ?_) (fun cdv A outer s H vs Q E hr h => ?_)
  · obtain ⟨p, _, s, d, rfl, _⟩ := h
    rfl
  · obtain ⟨p, hp, s, dd, rfl, s0, s1, d0, d1, q⟩ := h
    obtain ⟨u, hu, ru⟩ := fc.v p hp
    refine ⟨_, pss_cons (ps_expr (pe_call GK hr rfl gK kK bK .nil pass0 (pa_cons (pv 0) pa_nil)))
      (pss_cons (ps_expr (pe_call GI hr rfl gI kI bI .nil pass0 (pa_cons (pv 1) (pa_cons pe_int (pa_cons (pe_glob (v := .int 999) rfl gM ⟨_, rfl⟩) pa_nil)))))
      (pss_cons (ps_expr (pe_call GI hr rfl gI kI bI .nil pass0 (pa_cons (pv 2) (pa_cons pe_int (pa_cons (pe_glob (v := .int 999) rfl gM ⟨_, rfl⟩) pa_nil)))))
      (pss_cons (ps_if (pt_cmpR op_eq (pv 0) pe_str (nomark _)) (pss_one (ps_ret (pv 1))) pss_nil)
      (pss_cons (ps_if (pt_cmpR op_eq (pv 0) pe_str (nomark _)) (pss_one (ps_ret (pe_op op_mul pe_int (pv 1)))) pss_nil)
      (pss_cons (ps_if (pt_cmpR op_eq (pv 0) pe_str (nomark _)) (pss_one (ps_ret (pe_op op_add (pe_op op_mul pe_int (pv 1)) (pe_op op_mul pe_int (pv 2))))) pss_nil)
      (pss_one (ps_ret (pe_op op_mul (pe_ix ix_kdict (pe_glob (v := .ref d) rfl fc.g rfl) (pv 0) (fun _ _ => rfl)) (pe_op op_add (pv 1) (pv 2)))))))))), ?_⟩
    refine ⟨_, rfl, p, hp, rfl, ?_⟩
    refine ⟨_, rfl, s, 0, 999, rfl, s0, s1, ?_⟩
    refine ⟨_, rfl, dd, 0, 999, rfl, d0, d1, ?_⟩
    unfold most at q
    refine ⟨_, rfl, rfl, _, rfl, ite2 (fun c => ?_) (fun c => ?_)⟩
    · rw [if_pos (V.str.inj (of_decide_eq_true c))] at q
      exact ⟨_, rfl, q⟩
    rw [if_neg fun z => c (decide_eq_true (congrArg V.str z))] at q
    refine ⟨_, rfl, rfl, _, rfl, ite2 (fun c => ?_) (fun c => ?_)⟩
    · rw [if_pos (V.str.inj (of_decide_eq_true c))] at q
      exact ⟨_, rfl, _, _, rfl, rfl, .inl ⟨by decide, by decide⟩, q⟩
    rw [if_neg fun z => c (decide_eq_true (congrArg V.str z))] at q
    refine ⟨_, rfl, rfl, _, rfl, ite2 (fun c => ?_) (fun c => ?_)⟩
    · rw [if_pos (V.str.inj (of_decide_eq_true c))] at q
      exact ⟨_, rfl, _, _, rfl, rfl, .inl ⟨by decide, by decide⟩, _, rfl, _, _, rfl, rfl, .inl ⟨by decide, by decide⟩, _, _, rfl, rfl, q⟩
    rw [if_neg fun z => c (decide_eq_true (congrArg V.str z))] at q
    rw [facs_find p hp] at q
    exact ⟨_, rfl, d, p.1, .int p.2, rfl, rfl, ⟨es, n, u, D.at_, D.lit, hu, ru⟩, _, rfl, _, rfl, _, _, rfl, rfl, _, _, rfl, rfl, .inr ⟨by omega, by omega⟩, q⟩
end
end G
set_option Elab.async false
set_option linter.all false
set_option maxRecDepth 100000
set_option maxHeartbeats 4000000
/-! SE: rows checked; windows. -/
namespace G
open PySem PySem.Spec PyProof.Rows L2 NdefX DvT StX SkL LamX PySem.W
abbrev sIsRow : Stmt := topS 16
abbrev sIsRows : Stmt := topS 17
abbrev sNeedRw : Stmt := topS 24
theorem scIsRow : FnScope ["value"] ["value"] (defScope sIsRow) := ⟨rfl, rfl, rfl, by decide +kernel, rfl, by decide +kernel, by decide +kernel⟩
theorem scIsRows : FnScope ["value", "row"] ["value"] (defScope sIsRows) := ⟨rfl, rfl, rfl, by decide +kernel, rfl, by decide +kernel, by decide +kernel⟩
theorem scNeedRw : FnScope ["value"] ["value"] (defScope sNeedRw) := ⟨rfl, rfl, rfl, by decide +kernel, rfl, by decide +kernel, by decide +kernel⟩
theorem ne_ifI {A B : Prop} {x y : V} (e : x = y) (h : B) : if (!decide (x = y)) = true then A else B := by
  rw [decide_eq_true e]
  exact iteF h
/-- names that may be the rows of a change -/
structure NmOk (zs : List Str) : Prop where
  few : zs.length ≤ 80
  nd : zs.Nodup
  nm : ∀ z ∈ zs, NameZ z
def spIsRows (K : PySem.W.Frag) : Sp := fun vs H Q _ => ∃ (l : Addr) (zs : List Str), vs = [.ref l] ∧ SqL K H l (zs.map V.str) ∧ NmOk zs ∧ ∀ H', Same H H' → Q (.bl true) H'
def spNeedRw (K : PySem.W.Frag) : Sp := fun vs H Q _ => ∃ (l : Addr) (zs : List Str), vs = [.ref l] ∧ SqL K H l (zs.map V.str) ∧ NmOk zs ∧ ∀ H', Same H H' → Q .non H'
section
variable {P : Program} {w : World} {K : PySem.W.Frag} {mg : Str → Option Value} {base : Heap} {f : Addr} {fd : FuncData}
theorem ok_isrow {fN : Addr} {fdN : FuncData} (F : Fun K "is_row" "is_row" sIsRow f fd) (GN : FnOk P w K mg base CX0 1 fN fdN ["value"] spIsName) (gN : mg "is_name" = some (.ref fN)) (kN : PySem.W.keepIn K (.ref fN) = true) (bN : Binds K fdN ["value"] []) (mi : mg "isinstance" = none) (mt : mg "tuple" = none) :
    FnOk P w K mg base CX0 2 f fd ["value"] spIsName := by
  refine F.ok scIsRow (fun vs H Q E h => ?_) (fun cdv A outer s H vs Q E hr h => ?_)
  · obtain ⟨z, rfl, _⟩ := h
    rfl
  · obtain ⟨z, rfl, hz, q⟩ := h
    refine ⟨_, pss_cons (ps_if (pt_val (pt_isi "tuple" (pv 0) (hm := mi) (mn := mt))) (pss_one ps_never) pss_nil) (pss_one (ps_ret (pe_call GN hr rfl gN kN bN .nil pass0 (pa_cons (pv 0) pa_nil)))), ?_⟩
    exact ⟨_, rfl, _, _, _, _, _, rfl, .ty _, .base (.str z), kit_t (.str z), _, rfl, iteF ⟨_, rfl, z, rfl, hz, q⟩⟩
theorem ok_isrows {fL fR : Addr} {fdL fdR : FuncData} {t1 : Tok} (F : Fun K "is_rows" "is_rows" sIsRows f fd) (GL : FnOk P w K mg base CX0 1 fL fdL ["value", "most"] (spIsList K)) (gL : mg "is_list" = some (.ref fL)) (kL : PySem.W.keepIn K (.ref fL) = true) (bL : Binds K fdL ["value", "most"] [])
    (GR : FnOk P w K mg base CX0 2 fR fdR ["value"] spIsName) (gR : mg "is_row" = some (.ref fR)) (kR : PySem.W.keepIn K (.ref fR) = true) (bR : Binds K fdR ["value"] []) (gM : mg "MOST_ROWS" = some (.int 80 t1))
    (ml : mg "len" = none) (ma : mg "all" = none) (ms : mg "set" = none) : FnOk P w K mg base CX0 3 f fd ["value"] (spIsRows K) := by
  refine F.ok scIsRows (fun vs H Q E h => ?_) (fun cdv A outer s H vs Q E hr h => ?_)
  · obtain ⟨l, zs, rfl, _⟩ := h
    rfl
  · obtain ⟨l, zs, rfl, hl, ok, q⟩ := h
    have hr1 := hr.mono (show 1 ≤ 2 by decide)
    have few := ok.few
    refine ⟨_, pss_cons (ps_if (pt_not (pt_val (pe_call GL hr1 rfl gL kL bL .nil pass0 (pa_cons (pv 0) (pa_cons (pe_glob (v := .int 80) rfl gM ⟨_, rfl⟩) pa_nil))))) (pss_one ps_never) pss_nil)
      (pss_one (ps_ret (pe_and (pe_callB (cr_all rfl) (by rfl) ma (by decide +kernel) (pa_cons (pe_lc (own := [("row", 1)]) (g := gName 1) (tt := tYes) (by rfl) scIsRows.nd (pi_list (pv 0))
          (blkOk_by (own := [("row", 1)]) (N := ["value", "row"]) (sc := defScope sIsRows) (by decide +kernel)) (fun _ _ _ _ _ => pg_name (i := 1) scIsRows.nd rfl (.inl rfl)) (fun _ _ _ _ _ => pts_nil)
          (fun _ _ _ _ _ => pe_call GR hr rfl gR kR bR .nil pass0 (pa_cons (pv 1) pa_nil))) pa_nil))
        (pe_one (pe_cmpR op_eq (pe_callB GS.cr_lenKs (by rfl) ml PySem.boot_len (pa_cons (pe_callTy (GS.cr_setKs rfl) (by rfl) ms (by decide +kernel) (pa_cons (pv 0) pa_nil)) pa_nil)) (pe_callB call_len_seq (by rfl) ml PySem.boot_len (pa_cons (pv 0) pa_nil)) (nomark _)))))), ?_⟩
    refine ⟨_, rfl, l, 80, _, rfl, .inl hl, by rw [List.length_map]; exact few, fun H1 s1 => ⟨_, rfl, iteF ?_⟩⟩
    have hl1 := sqL_keep s1 hl
    have all1 : ∀ n, (List.replicate n true).all id = true := fun n => List.all_eq_true.mpr fun x hx => by
      rw [(List.mem_replicate.mp hx).2]
      rfl
    refine ⟨_, rfl, l, rfl, ⟨_, hl1⟩, fun D hD => ?_⟩
    refine lc_list (xs := zs.map V.str) (fun i H3 => Same H1 H3 ∧ H3 D = some (.lst ((List.replicate i true).map V.bl))) ?_ ?_ ?_ ?_
    · exact ⟨Same.new hD, upd_same⟩
    · exact fun _ _ _ z => sqL_keep z.1 hl1
    · rintro i x H3 hx ⟨s3, e3⟩
      rw [List.getElem?_map] at hx
      obtain ⟨z, hz, rfl⟩ := Option.map_eq_some_iff.mp hx
      have hi : i < zs.length := (List.getElem?_eq_some_iff.mp hz).1
      refine ⟨rfl, ?_⟩
      unfold tYes
      dsimp only
      rw [if_pos rfl]
      refine ⟨_, rfl, z, rfl, ok.nm z (List.mem_of_getElem? hz), fun H4 s4 => ⟨_, s4 _ _ e3, ?_, fun c o e => (upd_ne (ne_of_none e hD)).trans (s4 _ _ (s3 _ _ e)), ?_⟩⟩
      · rw [List.length_map, List.length_replicate]
        exact small1000 (by omega)
      · rw [upd_same, List.replicate_succ', List.map_append]
        rfl
    · rintro H3 ⟨s3, e3⟩
      refine ⟨D, _, rfl, .of e3, ?_⟩
      rw [all1]
      refine ⟨_, rfl, iteT ?_⟩
      have hl3 := sqL_keep s3 hl1
      have lk : (txK zs).length = zs.length := List.length_map ..
      refine ⟨_, rfl, l, txK zs, rfl, .inl (by rw [txK_V]; exact hl3), txK_nd ok.nd, by omega, fun p hp => ?_⟩
      have s4 := Same.new (o := SetK P w p (GS.inK (txK zs)) (txK zs).length) hp
      refine ⟨p, _, _, rfl, upd_same, by omega, _, rfl, l, _, rfl, .inl (sqL_keep s4 hl3), rfl, ?_⟩
      rw [show decide (V.int ((txK zs).length : Nat) = V.int ((zs.map V.str).length : Nat)) = true from decide_eq_true (by rw [List.length_map, lk])]
      exact q _ (s1.trans (s3.trans s4))
theorem ok_needrw {fR : Addr} {fdR : FuncData} (F : Fun K "need_rows" "need_rows" sNeedRw f fd) (GR : FnOk P w K mg base CX0 3 fR fdR ["value"] (spIsRows K)) (gR : mg "is_rows" = some (.ref fR)) (kR : PySem.W.keepIn K (.ref fR) = true) (bR : Binds K fdR ["value"] []) :
    FnOk P w K mg base CX0 4 f fd ["value"] (spNeedRw K) := by
  refine F.ok scNeedRw (fun vs H Q E h => ?_) (fun cdv A outer s H vs Q E hr h => ?_)
  · obtain ⟨l, zs, rfl, _⟩ := h
    rfl
  · obtain ⟨l, zs, rfl, hl, ok, q⟩ := h
    refine ⟨_, pss_one (ps_if (pt_not (pt_val (pe_call GR hr rfl gR kR bR .nil pass0 (pa_cons (pv 0) pa_nil)))) (pss_one ps_never) pss_nil), ?_⟩
    exact ⟨_, rfl, l, zs, rfl, hl, ok, fun H1 s1 => ⟨_, rfl, iteF (q H1 s1)⟩⟩
end
abbrev sWin : Stmt := topS 33
theorem scWin : FnScope ["rows", "start", "count"] ["rows", "start", "count"] (defScope sWin) := ⟨rfl, rfl, rfl, by decide +kernel, rfl, by decide +kernel, by decide +kernel⟩
def spWin (K : PySem.W.Frag) : Sp := fun vs H Q _ => ∃ (l : Addr) (zs : List Str) (a b : Nat), vs = [.ref l, .int (a : Nat), .int (b : Nat)] ∧ SqL K H l (zs.map V.str) ∧ NmOk zs ∧ a ≤ 80 ∧ b ≤ 80 ∧
  ∀ (p : Addr) (H' : Hp), H p = none → Same H H' → H' p = some (.lst ((Stp.win a b zs).map V.str)) → Q (.ref p) H'
theorem cut_win (zs : List Str) (a b : Nat) : cutV (zs.map V.str) (some (a : Int)) (some ((a : Int) + (b : Int))) = (Stp.win a b zs).map V.str := by
  rw [show ((a : Int) + (b : Int)) = ((a + b : Nat) : Int) by omega]
  unfold cutV Stp.win
  rw [HT.sIx_nat, HT.sIx_nat, List.map_take, List.map_drop]
  have lz : (zs.map V.str).length = zs.length := List.length_map ..
  rw [lz]
  by_cases h : a ≤ zs.length
  · rw [Nat.min_eq_left h]
    by_cases h2 : a + b ≤ zs.length
    · rw [Nat.min_eq_left h2]
      congr 1
      omega
    · rw [Nat.min_eq_right (by omega), List.take_of_length_le (by rw [List.length_drop, lz]; exact Nat.le_refl _), List.take_of_length_le (by rw [List.length_drop, lz]; omega)]
  · rw [Nat.min_eq_right (by omega), Nat.min_eq_right (by omega), List.drop_of_length_le (by rw [lz]; exact Nat.le_refl _), List.drop_of_length_le (by rw [lz]; omega), List.take_nil, List.take_nil]
section
variable {P : Program} {w : World} {K : PySem.W.Frag} {mg : Str → Option Value} {base : Heap} {f : Addr} {fd : FuncData}
theorem ok_win {fR fI : Addr} {fdR fdI : FuncData} {t1 : Tok} (F : Fun K "window" "window" sWin f fd) (GR : FnOk P w K mg base CX0 4 fR fdR ["value"] (spNeedRw K)) (gR : mg "need_rows" = some (.ref fR)) (kR : PySem.W.keepIn K (.ref fR) = true) (bR : Binds K fdR ["value"] [])
    (GI : FnOk P w K mg base CX0 2 fI fdI ["value", "low", "high"] spNeedInt) (gI : mg "need_integer" = some (.ref fI)) (kI : PySem.W.keepIn K (.ref fI) = true) (bI : Binds K fdI ["value", "low", "high"] []) (gM : mg "MOST_ROWS" = some (.int 80 t1)) (mL : mg "list" = none) : FnOk P w K mg base CX0 5 f fd ["rows", "start", "count"] (spWin K) := by
  refine F.ok scWin (fun vs H Q E h => ?_) (fun cdv A outer s H vs Q E hr h => ?_)
  · obtain ⟨l, zs, a, b, rfl, _⟩ := h
    rfl
  · obtain ⟨l, zs, a, b, rfl, hl, ok, ha, hb, q⟩ := h
    have hr2 := hr.mono (show 2 ≤ 4 by decide)
    refine ⟨_, pss_cons (ps_expr (pe_call GR hr rfl gR kR bR .nil pass0 (pa_cons (pv 0) pa_nil)))
      (pss_cons (ps_expr (pe_call GI hr2 rfl gI kI bI .nil pass0 (pa_cons (pv 1) (pa_cons pe_int (pa_cons (pe_glob (v := .int 80) rfl gM ⟨_, rfl⟩) pa_nil)))))
      (pss_cons (ps_expr (pe_call GI hr2 rfl gI kI bI .nil pass0 (pa_cons (pv 2) (pa_cons pe_int (pa_cons (pe_glob (v := .int 80) rfl gM ⟨_, rfl⟩) pa_nil)))))
      (pss_one (ps_ret (pe_callTy call_list_of (by rfl) mL (by decide +kernel) (pa_cons (pe_slice (r := rSlL K) sl_list (pv 0) (po_some (pv 1)) (po_some (pe_op op_add (pv 1) (pv 2)))) pa_nil)))))), ?_⟩
    refine ⟨_, rfl, l, zs, rfl, hl, ok, fun H1 s1 => ?_⟩
    refine ⟨_, rfl, (a : Int), 0, 80, rfl, by omega, by omega, ?_⟩
    refine ⟨_, rfl, (b : Int), 0, 80, rfl, by omega, by omega, ?_⟩
    refine ⟨_, rfl, _, rfl, _, rfl, _, rfl, _, rfl, _, _, rfl, rfl, _, rfl, l, _, rfl, sqL_keep s1 hl, fun p hp => ?_⟩
    rw [cut_win]
    have tp := Same.new (o := .lst ((Stp.win a b zs).map V.str)) hp
    refine ⟨p, _, rfl, .inl (.of upd_same), fun p2 hp2 => ?_⟩
    have t2 := s1.trans (tp.trans (Same.new (o := .lst ((Stp.win a b zs).map V.str)) hp2))
    exact q p2 _ ((s1.trans tp).free hp2) t2 upd_same
end
end G
set_option Elab.async false
set_option linter.all false
set_option maxRecDepth 100000
set_option maxHeartbeats 4000000
/-! UP: d.update(a dict). -/
namespace G
open PySem PySem.Spec PyProof.Rows L2 PySem.W
section
variable {prog : Program} {w : World} {A : Around} {E : Value → Shared → Prop} {s : Shared} {κ : Type} [DecidableEq κ] {knd : KeyKind prog w κ}
theorem updateFrom_dictX {R : Result → Shared → Prop} {nm : String} {d o : Addr} {kvs more : List (κ × Value)} (res : Value) (hdo : d ≠ o) (hoS : (o == sysModules) = false)
    (hd : s.heap.DictOf knd d kvs) (ho : s.heap.DictOf knd o more) (hsz : kvs.length + more.length ≤ sizeLine)
    (hR : ∀ h', h'.DictOf knd d (merged kvs more) → h'.DictOf knd o more → Heap.SameBut d s.heap h' → R (.ok (.ret res)) { s with heap := h' }) :
    wpAny (model prog w) A.in1 (Builtin.Dict.updateFrom nm d (.ref o) [] res)
      (fun fin s' => match fin with | .done f => R (.ok f) s' | .again c' => c'.quiet = true ∧ codeAny (model prog w) A c' R s') (fun e s' => R (.error e) s') s := by
  unfold Builtin.Dict.updateFrom
  refine wpAny_bind (wpAny_typeOf ho.typeIs ?_)
  rw [if_neg (by decide)]
  refine wpAny_bind ?_
  unfold Builtin.Dict.merge
  refine wpAny_bind ?_
  · unfold Builtin.Dict.readDirectly
    refine wpAny_bind (wpAny_isInstance ho.typeIs isSubtype_dict_dict ?_)
    simp only [Bool.not_true, Bool.false_eq_true, if_false]
    refine wpAny_bind (wpAny_specialOf ho.typeIs PySem.F.slot_dict_iter.lookup (wpAny_pure ?_))
    simp only [beq_self_eq_true, if_true]
    refine wpAny_bind (wpAny_pure ?_)
    refine wpAny_mergeDict hdo hoS hd ho (fun h' hd' ho' hs' => ?_) hsz
    show wpAny _ _ (Builtin.Dict.addKeywords d [] >>= _) _ _ _
    exact wpAny_bind (wpAny_pure (wpAny_pure (hR h' hd' ho' hs')))
theorem call_update_dictX {d o : Addr} {kvs more : List (κ × Value)} {Q : Value → Shared → Prop} (hdo : d ≠ o) (hoS : (o == sysModules) = false)
    (hd : s.heap.DictOf knd d kvs) (ho : s.heap.DictOf knd o more) (hsz : kvs.length + more.length ≤ sizeLine)
    (h : ∀ h', h'.DictOf knd d (merged kvs more) → h'.DictOf knd o more → Heap.SameBut d s.heap h' → Q .none { s with heap := h' }) :
    wpAny (model prog w) A (call (.builtin "dict.update") [.ref d, .ref o]) Q E s :=
  call_meetsIn PySem.F.slot_dict_update hd.typeIs PySem.F.entry_dict_update (PySem.F.args_dict_update_2 _ _)
    (S := fun A' R s' => A' = A ∧ s' = s ∧ ∀ h', h'.DictOf knd d (merged kvs more) → h'.DictOf knd o more → Heap.SameBut d s.heap h' → R (.ok (.ret .none)) { s with heap := h' })
    (fun A' R s' hS => by obtain ⟨rfl, rfl, hq⟩ := hS; exact meets_dict_update_arg hd.typeIs (updateFrom_dictX .none hdo hoS hd ho hsz hq)) ⟨rfl, rfl, h⟩
end
def rUpd : V → List V → Hp → VK → Prop := fun x xs H Q => ∃ (d o : Addr) (ks ls : List (Key × V)), x = .ref d ∧ xs = [.ref o] ∧ H d = some (.dK ks) ∧ H o = some (.dK ls) ∧ d ≠ o ∧ ks.length + ls.length ≤ sizeLine ∧ Q .non (upd H d (.dK (mergeK ks ls)))
theorem mt_upd {X : Cx} : MtR X "dict.update" rUpd := by
  intro pins s σ H x xs v us Q I rx rv h
  obtain ⟨d, o, ks, ls, rfl, rfl, hd, ho, ne, hz, q⟩ := h
  cases rx
  obtain ⟨u, rfl, ru⟩ := rv.one
  cases ru
  obtain ⟨z1, hd1, vs, rel, dd⟩ := dk_of I.hok hd
  obtain ⟨z2, hd2, ws, rel2, dd2⟩ := dk_of I.hok ho
  refine call_update_dictX ne hd2 dd dd2 (by rw [← rel.length, ← rel2.length]; exact hz) fun h' dd' _ hs => ?_
  have he : ∃ q, h'.get? d = some q := let ⟨q, _, _, hq, _⟩ := dd'; ⟨q, hq⟩
  exact ⟨.non, _, d_write (t' := s.toks) I (by rw [hd]; exact True.intro) hs he (dk_new (Nat.le_trans (length_mergeK ls ks) hz) hd1 (KV.merge rel2 rel) dd'), rfl, q⟩
end G
set_option Elab.async false
set_option linter.all false
set_option maxRecDepth 100000
set_option maxHeartbeats 8000000
/-! SF: _law_bound. -/
namespace G
open PySem PySem.Spec PyProof.Rows L2 NdefX DvT StX SkL LamX PySem.W
abbrev nBound : List Str := ["_law_kind", "_law_steps_here", "_law_rows", "_law_some"]
theorem scBound : FnScope nBound ["_law_kind", "_law_steps_here", "_law_rows"] (defScope sBound) := ⟨rfl, rfl, rfl, by decide +kernel, rfl, by decide +kernel, by decide +kernel⟩
def spBound : Sp := fun vs H Q _ => ∃ p ∈ facs, ∃ s d : Int, vs = [.str p.1, .int s, .int d] ∧ ∀ H', Same H H' → Q (.int (most p.1 s d)) H'
def bndA (s d : Int) : List (Key × V) := [(.inr "filtered", .int (s + d)), (.inr "ordered", .int (s + d)), (.inr "mapped", .int s), (.inr "unique", .int (2 * (s + d)))]
def bndB (s d : Int) : List (Key × V) := [(.inr "window", .int (2 * s)), (.inr "grouped", .int (2 * s + 3 * d))]
theorem bnd_at (s d : Int) : ∀ p ∈ facs, valV (mergeK (mergeK [] (bndA s d)) (mergeK [] (bndB s d))) (Sum.inr p.1 : Key) = some (.int (most p.1 s d)) := by
  intro p hp
  have e1 : (1 : Int) * (s + d) = s + d := Int.one_mul _
  simp only [facs, List.mem_cons, List.not_mem_nil, or_false] at hp
  rcases hp with rfl | rfl | rfl | rfl | rfl | rfl
  · show some (V.int (s + d)) = some (V.int (1 * (s + d)))
    rw [e1]
  · show some (V.int (s + d)) = some (V.int (1 * (s + d)))
    rw [e1]
  · rfl
  · rfl
  · rfl
  · rfl
section
variable {P : Program} {w : World} {K : PySem.W.Frag} {mg : Str → Option Value} {base : Heap} {f : Addr} {fd : FuncData}
theorem ok_bound (F : Fun K "_law_bound" "_law_bound" sBound f fd) : FnOk P w K mg base CX0 1 f fd ["_law_kind", "_law_steps_here", "_law_rows"] spBound := by
  refine F.ok scBound (fun vs H Q E h => ?_) (fun cdv A outer s H vs Q E hr h => ?_)
  · obtain ⟨p, _, s, d, rfl, _⟩ := h
    rfl
  · obtain ⟨p, hp, s, d, rfl, q⟩ := h
    have hu := hu_of hr
    refine ⟨_, pss_cons (ps_set (i := 3) scBound.nd rfl (.inl rfl) (pe_disp (pps_cons pe_str (pe_op op_add (pv 1) (pv 2)) (pps_cons pe_str (pe_op op_add (pv 1) (pv 2)) (pps_cons pe_str (pv 1) (pps_cons pe_str (pe_op op_mul pe_int (pe_op op_add (pv 1) (pv 2))) pps_nil)))) rfl rfl (fun z => nomatch z) (by decide)))
      (pss_cons (ps_expr (pe_bm PySem.F.plainAttrs_dict PySem.F.slot_dict_update PySem.F.type_dict_update mt_upd (pv 3) (pa_cons (pe_disp (pps_cons pe_str (pe_op op_mul pe_int (pv 1)) (pps_cons pe_str (pe_op op_add (pe_op op_mul pe_int (pv 1)) (pe_op op_mul pe_int (pv 2))) pps_nil)) rfl rfl (fun z => nomatch z) (by decide)) pa_nil)))
      (pss_one (ps_ret (pe_dget hu (pv 3) (pv 0) (fun _ _ => rfl))))), ?_⟩
    have m2 : ∀ i : Int, CMul 2 i := fun i => .inl ⟨by decide, by decide⟩
    have m3 : ∀ i : Int, CMul 3 i := fun i => .inl ⟨by decide, by decide⟩
    intro D hD
    refine ⟨_, rfl, _, rfl, _, _, rfl, rfl, _, rfl, _, rfl, _, _, rfl, rfl, _, rfl, _, rfl, _, rfl, _, _, rfl, rfl, _, _, rfl, rfl, m2 _, upd_same, bndA s d, rfl, (by show 4 ≤ 15; decide), ?_⟩
    have sD : Same H (upd (upd H D (.dK [])) D (.dK (mergeK [] (bndA s d)))) := fun c o e => (upd_ne (ne_of_none e hD)).trans ((upd_ne (ne_of_none e hD)).trans e)
    have eD : (upd (upd H D (.dK [])) D (.dK (mergeK [] (bndA s d)))) D = some (.dK (mergeK [] (bndA s d))) := upd_same
    generalize upd (upd H D (.dK [])) D (.dK (mergeK [] (bndA s d))) = H1 at sD eD ⊢
    refine ⟨_, rfl, .inr (.inr (.inl ⟨rfl, .inl ⟨_, eD⟩⟩)), fun o ho => ?_⟩
    have nDo : D ≠ o := fun z => by
      rw [← z, eD] at ho
      cases ho
    refine ⟨_, rfl, _, _, rfl, rfl, m2 _, _, rfl, _, _, rfl, rfl, m2 _, _, rfl, _, _, rfl, rfl, m3 _, _, _, rfl, rfl, upd_same, bndB s d, rfl, (by show 2 ≤ 15; decide), ?_⟩
    have so : Same H1 (upd (upd H1 o (.dK [])) o (.dK (mergeK [] (bndB s d)))) := fun c x e => (upd_ne (ne_of_none e ho)).trans ((upd_ne (ne_of_none e ho)).trans e)
    have eo : (upd (upd H1 o (.dK [])) o (.dK (mergeK [] (bndB s d)))) o = some (.dK (mergeK [] (bndB s d))) := upd_same
    have eD2 := so _ _ eD
    have s2 := sD.trans so
    generalize upd (upd H1 o (.dK [])) o (.dK (mergeK [] (bndB s d))) = H2 at eo eD2 s2 ⊢
    refine ⟨D, o, _, _, rfl, rfl, eD2, eo, nDo, ?_, ?_⟩
    · rw [sizeLine_eq]
      have h1 := length_mergeK (bndA s d) []
      have h2 := length_mergeK (bndB s d) []
      have h3 : (bndA s d).length = 4 := rfl
      have h4 : (bndB s d).length = 2 := rfl
      rw [List.length_nil] at h1 h2
      omega
    have g := DGet.k (k := Sum.inr p.1) (upd_same (H := H2) (a := D) (o := .dK (mergeK (mergeK [] (bndA s d)) (mergeK [] (bndB s d)))))
    rw [bnd_at s d p hp] at g
    refine ⟨_, rfl, _, rfl, D, _, rfl, g, ?_⟩
    exact q _ fun c x e => (upd_ne (ne_of_none e hD)).trans (s2 _ _ e)
end
end G
set_option Elab.async false
set_option linter.all false
set_option maxRecDepth 100000
set_option maxHeartbeats 4000000
/-! SJ: the views' rows, as the mathematics has them. -/
namespace G
open PySem PySem.Spec PyProof.Rows L2 NdefX DvT StX SkL LamX PySem.W
theorem snocInd {α : Type} {p : List α → Prop} (h0 : p []) (h1 : ∀ xs x, p xs → p (xs ++ [x])) (xs : List α) : p xs := by
  have gen : ∀ (n : Nat) (xs : List α), xs.length = n → p xs := by
    intro n
    induction n with
    | zero =>
      intro xs h
      rw [List.length_eq_zero_iff.mp h]
      exact h0
    | succ n ih =>
      intro xs h
      rcases List.eq_nil_or_concat xs with e | ⟨ys, y, e⟩
      · rw [e]
        exact h0
      · rw [List.concat_eq_append] at e
        subst e
        rw [List.length_append, List.length_singleton] at h
        exact h1 ys y (ih ys (by omega))
  exact gen xs.length xs rfl
theorem accF_keys (an : Str → List Int) : ∀ (zs : List Str) (k : List Int), k ∈ (accF an zs).map (·.1) ↔ ∃ y ∈ zs, an y = k := by
  refine snocInd (fun k => ⟨(fun h => nomatch h), fun ⟨_, h, _⟩ => nomatch h⟩) fun zs z ih => ?_
  · intro k
    rw [accF_snoc]
    unfold addF
    by_cases c : an z ∈ (accF an zs).map (·.1)
    · rw [if_pos c, ih]
      constructor
      · rintro ⟨y, hy, e⟩
        exact ⟨y, List.mem_append_left _ hy, e⟩
      · rintro ⟨y, hy, e⟩
        rcases List.mem_append.mp hy with hy | hy
        · exact ⟨y, hy, e⟩
        · rw [List.mem_singleton.mp hy] at e
          exact (ih k).mp (by rw [← e]; exact c)
    · rw [if_neg c, List.map_append, List.mem_append, ih]
      constructor
      · rintro (⟨y, hy, e⟩ | h)
        · exact ⟨y, List.mem_append_left _ hy, e⟩
        · exact ⟨z, List.mem_append_right _ List.mem_cons_self, (List.mem_singleton.mp h).symm⟩
      · rintro ⟨y, hy, e⟩
        rcases List.mem_append.mp hy with hy | hy
        · exact .inl ⟨y, hy, e⟩
        · rw [List.mem_singleton.mp hy] at e
          exact .inr (List.mem_singleton.mpr e.symm)
theorem fsts_snoc (an : Str → List Int) {zs : List Str} {z : Str} (h : z ∉ zs) : Stp.fsts an (zs ++ [z]) = if (Stp.cls an zs (an z)) = [] then Stp.fsts an zs ++ [z] else Stp.fsts an zs := by
  have cs : ∀ k, Stp.cls an (zs ++ [z]) k = Stp.cls an zs k ++ if an z = k then [z] else [] := fun k => by
    unfold Stp.cls
    rw [List.filter_append]
    congr 1
    by_cases c : an z = k
    · rw [if_pos c, List.filter_cons_of_pos (by exact decide_eq_true c), List.filter_nil]
    · rw [if_neg c, List.filter_cons_of_neg (by rw [decide_eq_false c]; decide), List.filter_nil]
  have old : (zs.filter fun x => decide ((Stp.cls an (zs ++ [z]) (an x)).head? = some x)) = Stp.fsts an zs := by
    unfold Stp.fsts
    refine List.filter_congr fun x hx => ?_
    have mx : x ∈ Stp.cls an zs (an x) := List.mem_filter.mpr ⟨hx, decide_eq_true rfl⟩
    rw [cs]
    cases e : Stp.cls an zs (an x) with
    | nil =>
      rw [e] at mx
      cases mx
    | cons y l => rfl
  show (zs ++ [z]).filter _ = _
  rw [List.filter_append, old]
  by_cases c : Stp.cls an zs (an z) = []
  · rw [if_pos c, List.filter_cons_of_pos (by rw [cs, c, if_pos rfl]; exact decide_eq_true rfl), List.filter_nil]
  · rw [if_neg c, List.filter_cons_of_neg ?_, List.filter_nil, List.append_nil]
    intro t
    have t2 := of_decide_eq_true t
    rw [cs] at t2
    cases e : Stp.cls an zs (an z) with
    | nil => exact c e
    | cons y l =>
      rw [e] at t2
      have ey : y = z := Option.some.inj t2
      have my : y ∈ Stp.cls an zs (an z) := by
        rw [e]
        exact List.mem_cons_self
      rw [ey] at my
      exact h (List.mem_filter.mp my).1
theorem firsts_fsts (an : Str → List Int) : ∀ {zs : List Str}, zs.Nodup → firstsOf an zs = Stp.fsts an zs := by
  refine fun {zs} => snocInd (p := fun zs => zs.Nodup → firstsOf an zs = Stp.fsts an zs) (fun _ => rfl) (fun zs z ih => ?_) zs
  · intro nd
    rw [List.nodup_append] at nd
    have out : z ∉ zs := fun h => nd.2.2 z h z List.mem_cons_self rfl
    rw [fsts_snoc an out, ← ih nd.1]
    unfold firstsOf
    rw [accF_snoc]
    unfold addF
    by_cases c : an z ∈ (accF an zs).map (·.1)
    · obtain ⟨y, hy, e⟩ := (accF_keys an zs _).mp c
      have : Stp.cls an zs (an z) ≠ [] := fun z0 => by
        have my : y ∈ Stp.cls an zs (an z) := List.mem_filter.mpr ⟨hy, decide_eq_true e⟩
        rw [z0] at my
        cases my
      rw [if_pos c, if_neg this]
    · have : Stp.cls an zs (an z) = [] := by
        refine List.filter_eq_nil_iff.mpr fun y hy t => ?_
        exact c ((accF_keys an zs _).mpr ⟨y, hy, of_decide_eq_true t⟩)
      rw [if_neg c, if_pos this, List.map_append]
      rfl
theorem tot_key (key : Str → List Int) : Stp.Tot (dataLe false (intK key)) :=
  have T : TotalLe (dataLe false (intK key)) := leI_total key
  ⟨T.trans, fun a b => by rcases T.total a b with h | h <;> simp [h]⟩
/-- groups under headers -/
def grpM (gs : List Grp) : List Im := gs.flatMap fun g => Stp.Itm.hd g.1 :: g.2.map Stp.Itm.row
theorem grpM_due (an : Str → List Int) (zs : List Str) : grpM (dueG an zs) = Stp.grp an zs (keysS an zs) := by
  unfold grpM dueG Stp.grp
  rw [List.flatMap_map]
  rfl
end G
set_option Elab.async false
set_option linter.all false
set_option maxRecDepth 100000
set_option maxHeartbeats 4000000
/-! SL: the answers in order; what one operation does to each view. -/
namespace G
open PySem PySem.Spec PyProof.Rows L2 NdefX DvT StX SkL LamX PySem.W
theorem dataLe_encK : PySem.W.dataLe false encK = fun j k => decide (j ≤ k) := by
  rw [← PySem.W.dataLe_rows (fun k : List Int => k)]
  funext j k
  show (!dataLt (encK k) (encK j)) = !dataLt (.list (k.map .int)) (.list (j.map .int))
  rw [dataLt_tuple, dataLt_list]
theorem tot_encK : Stp.Tot (dataLe false encK) := by
  rw [dataLe_encK]
  refine ⟨fun a b c h1 h2 => decide_eq_true (List.le_trans (of_decide_eq_true h1) (of_decide_eq_true h2)), fun a b => ?_⟩
  rcases List.le_total a b with h | h
  · rw [decide_eq_true h]
    rfl
  · rw [decide_eq_true h, Bool.or_true]
theorem anti_encK : ∀ a b : List Int, dataLe false encK a b = true → dataLe false encK b a = true → a = b := by
  rw [dataLe_encK]
  exact fun a b h1 h2 => List.le_antisymm (of_decide_eq_true h1) (of_decide_eq_true h2)
theorem keys_of (an : Str → List Int) (zs : List Str) : Stp.Keys (dataLe false encK) an zs (keysS an zs) := by
  refine ⟨List.pairwise_mergeSort tot_encK.tr tot_encK.tot _, keysS_nd an zs, fun k => keysS_mem⟩
/-- the views' rows -/
def shownM (kind : Str) (zs : List Str) (an : Str → List Int) (ev : Str → Bool) (a b : Nat) : List Im :=
  if kind = "filtered" then (zs.filter ev).map .row else if kind = "ordered" then (sortedBy an zs).map .row else if kind = "unique" then (firstsOf an zs).map .row
  else if kind = "grouped" then grpM (dueG an zs) else if kind = "window" then (Stp.win a b zs).map .row else zs.map .row
end G
set_option Elab.async false
set_option linter.all false
set_option maxRecDepth 100000
set_option maxHeartbeats 4000000
/-! SN: one operation, seen by each view. -/
namespace G
open PySem PySem.Spec PyProof.Rows L2 NdefX DvT StX SkL LamX PySem.W
theorem near_map {α β : Type} [DecidableEq α] [DecidableEq β] {f : α → β} (inj : ∀ a b, f a = f b → a = b) {n : Nat} {xs ys : List α} (h : Stp.Near n xs ys) : Stp.Near n (xs.map f) (ys.map f) := by
  obtain ⟨D, d1, d2, e⟩ := h
  have key : ∀ l : List α, ((l.map f).filter fun x => !decide (x ∈ D.map f)) = (l.filter fun x => !decide (x ∈ D)).map f := fun l => by
    rw [List.filter_map]
    congr 1
    refine List.filter_congr fun x _ => ?_
    show (!decide (f x ∈ D.map f)) = !decide (x ∈ D)
    congr 1
    refine decide_eq_decide.mpr ⟨fun h => ?_, fun h => List.mem_map_of_mem h⟩
    obtain ⟨y, hy, ey⟩ := List.mem_map.mp h
    rw [← inj _ _ ey]
    exact hy
  refine ⟨D.map f, ?_, by rw [List.length_map]; exact d2, by rw [key, key, e]⟩
  unfold List.Nodup at d1 ⊢
  rw [List.pairwise_map]
  exact d1.imp fun h e => h (inj _ _ e)
theorem row_inj : ∀ a b : Str, (Stp.Itm.row a : Im) = .row b → a = b := fun _ _ e => Stp.Itm.row.inj e
/-- W, or W with r in it -/
def With (r : Str) (W zs : List Str) : Prop := zs = W ∨ ∃ i, i ≤ W.length ∧ zs = W.take i ++ r :: W.drop i
theorem With.off {r : Str} {W zs : List Str} (h : With r W zs) (out : r ∉ W) : Stp.off r zs = W := by
  rcases h with rfl | ⟨i, hi, rfl⟩
  · exact Stp.off_out out
  · have h1 : r ∉ W.take i := fun z => out (List.mem_of_mem_take z)
    have h2 : r ∉ W.drop i := fun z => out (List.mem_of_mem_drop z)
    have e1 := Stp.off_out h1
    have e2 := Stp.off_out h2
    unfold Stp.off at e1 e2 ⊢
    rw [List.filter_append, List.filter_cons_of_neg (by simp), e1, e2, List.take_append_drop]
theorem With.nd {r : Str} {W zs : List Str} (h : With r W zs) (out : r ∉ W) (nW : W.Nodup) : zs.Nodup := by
  rcases h with rfl | ⟨i, hi, rfl⟩
  · exact nW
  · have pm : (W.take i ++ r :: W.drop i).Perm (r :: W) := List.perm_middle.trans (by rw [List.take_append_drop])
    exact pm.nodup_iff.mpr (List.nodup_cons.mpr ⟨out, nW⟩)
theorem With.core {r : Str} {W zs : List Str} (h : With r W zs) (out : r ∉ W) (nW : W.Nodup) (s c : Nat) : Stp.Core (Stp.win s c W) (Stp.win s (c + 1) zs) := by
  rcases h with rfl | ⟨i, hi, rfl⟩
  · exact Stp.core_win0 nW
  · exact Stp.core_win nW out hi
theorem near_win {r : Str} {W zs zs' : List Str} (h : With r W zs) (h' : With r W zs') (out : r ∉ W) (nW : W.Nodup) (s c : Nat) : Stp.Near 2 (Stp.win s c zs) (Stp.win s c zs') := by
  cases c with
  | zero =>
    unfold Stp.win
    rw [List.take_zero, List.take_zero]
    exact Stp.near_refl _ _
  | succ c => exact Stp.near_core (h.core out nW s c) (h'.core out nW s c)
/-- what one operation on the row r does -/
structure OneOp (r : Str) (W zs zs' : List Str) (an an' : Str → List Int) : Prop where
  nW : W.Nodup
  out : r ∉ W
  a : With r W zs
  b : With r W zs'
  ha : ∀ y, y ≠ r → an y = an' y
  one : r ∉ zs ∨ r ∉ zs' ∨ an r = an' r ∨ zs = zs'
theorem OneOp.off {r : Str} {W zs zs' : List Str} {an an' : Str → List Int} (h : OneOp r W zs zs' an an') : Stp.off r zs = Stp.off r zs' := (h.a.off h.out).trans (h.b.off h.out).symm
theorem OneOp.filtered {r : Str} {W zs zs' : List Str} {an an' : Str → List Int} (h : OneOp r W zs zs' an an') (g : List Int → Bool) : Stp.Near 1 ((zs.filter fun z => g (an z)).map (Stp.Itm.row (κ := List Int))) ((zs'.filter fun z => g (an' z)).map Stp.Itm.row) :=
  near_map row_inj (Stp.near_filt h.off fun x n => by rw [h.ha x n])
theorem OneOp.mapped {r : Str} {W zs zs' : List Str} {an an' : Str → List Int} (h : OneOp r W zs zs' an an') : Stp.Near 1 (zs.map (Stp.Itm.row (κ := List Int))) (zs'.map Stp.Itm.row) := near_map row_inj (Stp.near_off h.off)
theorem OneOp.ordered {r : Str} {W zs zs' : List Str} {an an' : Str → List Int} (h : OneOp r W zs zs' an an') : Stp.Near 1 ((sortedBy an zs).map (Stp.Itm.row (κ := List Int))) ((sortedBy an' zs').map Stp.Itm.row) :=
  near_map row_inj (Stp.near_sort (tot_key an) (tot_key an') h.off fun x y nx ny => by
    show dataLe false (intK an) x y = dataLe false (intK an') x y
    have ex := h.ha x nx
    have ey := h.ha y ny
    simp only [dataLe, sortLe, intK, ex, ey])
theorem OneOp.unique {r : Str} {W zs zs' : List Str} {an an' : Str → List Int} (h : OneOp r W zs zs' an an') : Stp.Near 2 ((firstsOf an zs).map (Stp.Itm.row (κ := List Int))) ((firstsOf an' zs').map Stp.Itm.row) := by
  have n1 := h.a.nd h.out h.nW
  have n2 := h.b.nd h.out h.nW
  rw [firsts_fsts an n1, firsts_fsts an' n2]
  exact near_map row_inj (Stp.near_fsts n1 n2 h.off h.ha h.one)
theorem OneOp.grouped {r : Str} {W zs zs' : List Str} {an an' : Str → List Int} (h : OneOp r W zs zs' an an') : Stp.Near (if an r = an' r then 2 else 3) (grpM (dueG an zs)) (grpM (dueG an' zs')) := by
  rw [grpM_due, grpM_due]
  exact Stp.near_grp anti_encK (keys_of an zs) (keys_of an' zs') h.off h.ha
theorem OneOp.window {r : Str} {W zs zs' : List Str} {an an' : Str → List Int} (h : OneOp r W zs zs' an an') (s c : Nat) : Stp.Near 2 ((Stp.win s c zs).map (Stp.Itm.row (κ := List Int))) ((Stp.win s c zs').map Stp.Itm.row) := near_map row_inj (near_win h.a h.b h.out h.nW s c)
end G
set_option Elab.async false
set_option linter.all false
set_option maxRecDepth 100000
set_option maxHeartbeats 4000000
/-! SO: lists of rows, of rows and headers, as _law_steps wants them. -/
namespace G
open PySem PySem.Spec PyProof.Rows L2 NdefX DvT StX SkL LamX PySem.W
theorem dp_rows {K : PySem.W.Frag} {H : Hp} : ∀ zs : List Str, DpAll K H (zs.map V.str) ((zs.map (Stp.Itm.row (κ := List Int))).map encM)
  | [] => .nil
  | z :: zs => .cons (.str z) (dp_rows zs)
theorem imAt_rows {K : PySem.W.Frag} {H : Hp} {l : Addr} {zs : List Str} (h : SqL K H l (zs.map V.str)) : ImAt K H l (zs.map .row) := ⟨_, h, dp_rows zs⟩
theorem dp_intsM {K : PySem.W.Frag} {H : Hp} : ∀ ns : List Int, DpAll K H (ns.map V.int) (ns.map PyData.int)
  | [] => .nil
  | n :: ns => .cons (.int n) (dp_intsM ns)
theorem dp_appM {K : PySem.W.Frag} {H : Hp} : ∀ {vs ws : List V} {ds es : List PyData}, DpAll K H vs ds → DpAll K H ws es → DpAll K H (vs ++ ws) (ds ++ es)
  | _, _, _, _, .nil, h => h
  | _, _, _, _, .cons a b, h => .cons a (dp_appM b h)
theorem dp_grp {K : PySem.W.Frag} {H : Hp} : ∀ {ys : List Hd}, HdsAt H ys → DpAll K H (wlV ys) ((grpM (ys.map (·.2.2))).map encM)
  | [], _ => .nil
  | y :: ys, h => by
    obtain ⟨h1, h2⟩ := h.hd y List.mem_cons_self
    have ih := dp_grp (K := K) (ys := ys) ⟨fun z hz => h.hd z (List.mem_cons_of_mem _ hz)⟩
    have e1 : wlV (y :: ys) = (V.ref y.1 :: y.2.2.2.map V.str) ++ wlV ys := rfl
    have e2 : (grpM ((y :: ys).map (·.2.2))).map encM = (encM (.hd y.2.2.1) :: (y.2.2.2.map (Stp.Itm.row (κ := List Int))).map encM) ++ (grpM (ys.map (·.2.2))).map encM := by
      show (grpM (y.2.2 :: ys.map (·.2.2))).map encM = _
      unfold grpM
      rw [List.flatMap_cons, List.map_append]
      rfl
    rw [e1, e2]
    exact dp_appM (.cons (.tup (.of h1) (.cons (.str "group") (.cons (.tup (.of h2) (dp_intsM _)) .nil))) (dp_rows _)) ih
theorem imAt_grp {P : Program} {w : World} {K : PySem.W.Frag} {H : Hp} {T W C : Addr} {an : Str → List Int} {zs : List Str} {ys : List Hd} (h : GrpAt P w H T W C an zs ys) : ImAt K H W (grpM (dueG an zs)) := by
  rw [← h.g]
  exact ⟨_, .of h.wl, dp_grp h.h⟩
theorem imOk_rows {zs : List Str} (h : ∀ z ∈ zs, NameZ z) : ∀ x ∈ (zs.map Stp.Itm.row : List Im), ImOk x := fun x hx z e => by
  obtain ⟨y, hy, rfl⟩ := List.mem_map.mp hx
  rw [← Stp.Itm.row.inj e]
  exact h y hy
theorem imOk_grp {an : Str → List Int} {zs : List Str} (h : ∀ z ∈ zs, NameZ z) : ∀ x ∈ grpM (dueG an zs), ImOk x := fun x hx z e => by
  subst e
  obtain ⟨g, hg, hx⟩ := List.mem_flatMap.mp hx
  obtain ⟨k, hk, rfl⟩ := List.mem_map.mp hg
  rcases List.mem_cons.mp hx with h1 | h1
  · cases h1
  · obtain ⟨y, hy, e⟩ := List.mem_map.mp h1
    rw [← Stp.Itm.row.inj e]
    exact h y (List.mem_filter.mp hy).1
end G
set_option Elab.async false
set_option linter.all false
set_option maxRecDepth 100000
set_option maxHeartbeats 4000000
/-! SV: the views' rows differ from each other; how many they are. -/
namespace G
open PySem PySem.Spec PyProof.Rows L2 NdefX DvT StX SkL LamX PySem.W
theorem nd_rows {zs : List Str} (nd : zs.Nodup) : (zs.map (Stp.Itm.row (κ := List Int))).Nodup := by
  unfold List.Nodup at nd ⊢
  rw [List.pairwise_map]
  exact nd.imp fun h e => h (Stp.Itm.row.inj e)
theorem grp_hd {an : Str → List Int} {zs : List Str} {ks : List (List Int)} {k : List Int} : (Stp.Itm.hd k : Im) ∈ Stp.grp an zs ks ↔ k ∈ ks := by
  unfold Stp.grp
  rw [List.mem_flatMap]
  constructor
  · rintro ⟨j, hj, h⟩
    rcases List.mem_cons.mp h with h | h
    · rw [Stp.Itm.hd.inj h]
      exact hj
    · obtain ⟨_, _, e⟩ := List.mem_map.mp h
      cases e
  · exact fun h => ⟨k, h, List.mem_cons_self⟩
theorem grp_row {an : Str → List Int} {zs : List Str} {ks : List (List Int)} {x : Str} (h : (Stp.Itm.row x : Im) ∈ Stp.grp an zs ks) : x ∈ zs ∧ an x ∈ ks := by
  unfold Stp.grp at h
  obtain ⟨j, hj, h⟩ := List.mem_flatMap.mp h
  rcases List.mem_cons.mp h with h | h
  · cases h
  · obtain ⟨y, hy, e⟩ := List.mem_map.mp h
    rw [← Stp.Itm.row.inj e]
    obtain ⟨h1, h2⟩ := List.mem_filter.mp hy
    refine ⟨h1, ?_⟩
    rw [of_decide_eq_true h2]
    exact hj
theorem grp_nd {an : Str → List Int} {zs : List Str} (nz : zs.Nodup) : ∀ {ks : List (List Int)}, ks.Nodup → (Stp.grp an zs ks).Nodup
  | [], _ => List.nodup_nil
  | k :: ks, nk => by
    rw [List.nodup_cons] at nk
    have e : Stp.grp an zs (k :: ks) = ((Stp.Itm.hd k : Im) :: (Stp.cls an zs k).map Stp.Itm.row) ++ Stp.grp an zs ks := rfl
    rw [e, List.nodup_append]
    refine ⟨List.nodup_cons.mpr ⟨fun h => ?_, nd_rows (nz.sublist List.filter_sublist)⟩, grp_nd nz nk.2, fun a ha b hb eab => ?_⟩
    · obtain ⟨_, _, e⟩ := List.mem_map.mp h
      cases e
    · subst eab
      rcases List.mem_cons.mp ha with h | h
      · subst h
        exact nk.1 (grp_hd.mp hb)
      · obtain ⟨y, hy, e⟩ := List.mem_map.mp h
        subst e
        have h2 := (grp_row hb).2
        rw [of_decide_eq_true (List.mem_filter.mp hy).2] at h2
        exact nk.1 h2
theorem grpM_nd {an : Str → List Int} {zs : List Str} (nz : zs.Nodup) : (grpM (dueG an zs)).Nodup := by
  rw [grpM_due]
  exact grp_nd nz (keysS_nd an zs)
theorem grp_len (an : Str → List Int) (zs : List Str) : ∀ ks : List (List Int), ks.Nodup → (Stp.grp an zs ks).length = ks.length + (zs.filter fun z => decide (an z ∈ ks)).length
  | [], _ => by
    show 0 = 0 + _
    rw [List.filter_eq_nil_iff.mpr fun z _ => by simp]
    rfl
  | k :: ks, nk => by
    rw [List.nodup_cons] at nk
    have e : Stp.grp an zs (k :: ks) = ((Stp.Itm.hd k : Im) :: (Stp.cls an zs k).map Stp.Itm.row) ++ Stp.grp an zs ks := rfl
    rw [e, List.length_append, grp_len an zs ks nk.2, List.length_cons, List.length_map, List.length_cons]
    have h : (zs.filter fun z => decide (an z ∈ k :: ks)).length = (Stp.cls an zs k).length + (zs.filter fun z => decide (an z ∈ ks)).length := by
      unfold Stp.cls
      induction zs with
      | nil => rfl
      | cons z zs ih =>
        have nk1 := nk.1
        simp only [List.filter_cons]
        by_cases c : an z = k
        · subst c
          have h1 : an z ∈ an z :: ks := List.mem_cons_self
          rw [if_pos (decide_eq_true h1), if_pos (decide_eq_true rfl), if_neg (by rw [decide_eq_false nk1]; decide), List.length_cons, List.length_cons, ih rfl]
          omega
        · by_cases d : an z ∈ ks
          · rw [if_pos (decide_eq_true (List.mem_cons_of_mem _ d)), if_neg (by rw [decide_eq_false c]; decide), if_pos (decide_eq_true d), List.length_cons, List.length_cons, ih rfl]
            omega
          · rw [if_neg (by rw [decide_eq_false fun h => (List.mem_cons.mp h).elim c d]; decide), if_neg (by rw [decide_eq_false c]; decide), if_neg (by rw [decide_eq_false d]; decide), ih rfl]
    rw [h]
    omega
theorem grpM_len (an : Str → List Int) (zs : List Str) : (grpM (dueG an zs)).length ≤ 2 * zs.length := by
  rw [grpM_due, grp_len an zs _ (keysS_nd an zs)]
  have h1 := keysS_len an zs
  have h2 := List.length_filter_le (fun z => decide (an z ∈ keysS an zs)) zs
  omega
end G
set_option Elab.async false
set_option linter.all false
set_option maxRecDepth 100000
set_option maxHeartbeats 4000000
/-! SW: one operation takes at most the told number of steps, whatever the view. -/
namespace G
open PySem PySem.Spec PyProof.Rows L2 NdefX DvT StX SkL LamX PySem.W
theorem shown_nd {kind : Str} {zs : List Str} {an : Str → List Int} {ev : Str → Bool} {a b : Nat} (nz : zs.Nodup) : (shownM kind zs an ev a b).Nodup := by
  unfold shownM
  split
  · exact nd_rows (nz.sublist List.filter_sublist)
  split
  · refine nd_rows ?_
    unfold sortedBy
    exact (List.mergeSort_perm _ _).nodup_iff.mpr nz
  split
  · rw [firsts_fsts an nz]
    exact nd_rows (nz.sublist List.filter_sublist)
  split
  · exact grpM_nd nz
  split
  · refine nd_rows (nz.sublist ?_)
    unfold Stp.win
    exact (List.take_sublist _ _).trans (List.drop_sublist _ _)
  · exact nd_rows nz
theorem view_bound {r : Str} {W zs zs' : List Str} {an an' : Str → List Int} (op : OneOp r W zs zs' an an') (g : List Int → Bool) (a b : Nat) (s d : Int) (s0 : 0 ≤ s) (d0 : 0 ≤ d) (h1 : 1 ≤ s + d) (hg : an r = an' r ∧ 1 ≤ s ∨ 1 ≤ d) (hw : 1 ≤ s ∨ zs = zs') :
    ∀ p ∈ facs, Stp.stp (shownM p.1 zs an (fun z => g (an z)) a b) (shownM p.1 zs' an' (fun z => g (an' z)) a b) ≤ most p.1 s d := by
  intro p hp
  have n1 := op.a.nd op.out op.nW
  have n2 := op.b.nd op.out op.nW
  have k1 := shown_nd (kind := p.1) (an := an) (ev := fun z => g (an z)) (a := a) (b := b) n1
  have k2 := shown_nd (kind := p.1) (an := an') (ev := fun z => g (an' z)) (a := a) (b := b) n2
  simp only [facs, List.mem_cons, List.not_mem_nil, or_false] at hp
  rcases hp with rfl | rfl | rfl | rfl | rfl | rfl
  · have h := (op.filtered g).stp k1 k2
    refine Int.le_trans h ?_
    show ((1 : Nat) : Int) ≤ 1 * (s + d)
    omega
  · have h := op.ordered.stp k1 k2
    refine Int.le_trans h ?_
    show ((1 : Nat) : Int) ≤ 1 * (s + d)
    omega
  · have h := op.unique.stp k1 k2
    refine Int.le_trans h ?_
    show ((2 : Nat) : Int) ≤ 2 * (s + d)
    omega
  · show Stp.stp ((Stp.win a b zs).map Stp.Itm.row) ((Stp.win a b zs').map Stp.Itm.row) ≤ 2 * s
    rcases hw with hw | hw
    · have h := (op.window a b).stp k1 k2
      refine Int.le_trans h ?_
      show ((2 : Nat) : Int) ≤ 2 * s
      omega
    · rw [hw]
      have h := Stp.stp_same k2
      have h2 : Stp.stp ((Stp.win a b zs').map (Stp.Itm.row (κ := List Int))) ((Stp.win a b zs').map Stp.Itm.row) ≤ 0 := h
      omega
  · have h := op.grouped.stp k1 k2
    refine Int.le_trans h ?_
    show (((if an r = an' r then 2 else 3 : Nat)) : Int) ≤ 2 * s + 3 * d
    rcases hg with ⟨e, hs⟩ | hd
    · rw [if_pos e]
      omega
    · split <;> omega
  · show Stp.stp (zs.map Stp.Itm.row) (zs'.map Stp.Itm.row) ≤ s
    rcases hw with hw | hw
    · have h := op.mapped.stp k1 k2
      refine Int.le_trans h ?_
      show ((1 : Nat) : Int) ≤ s
      omega
    · rw [hw]
      have h := Stp.stp_same k2
      have h2 : Stp.stp (zs'.map (Stp.Itm.row (κ := List Int))) (zs'.map Stp.Itm.row) ≤ 0 := h
      omega
end G
set_option Elab.async false
set_option linter.all false
set_option maxRecDepth 100000
set_option maxHeartbeats 8000000
/-! SX: _law_shown. -/
namespace G
open PySem PySem.Spec PyProof.Rows L2 NdefX DvT StX SkL LamX PySem.W
abbrev sShown : Stmt := topS 49
abbrev nShown : List Str := ["_law_kind", "_law_rows", "_law_answers", "_law_span", "_law_row"]
theorem scShown : FnScope nShown ["_law_kind", "_law_rows", "_law_answers", "_law_span"] (defScope sShown) := ⟨rfl, rfl, rfl, by decide +kernel, rfl, by decide +kernel, by decide +kernel⟩
/-- even, by the first number -/
def evn (ns : List Int) : Bool := decide (V.int (ns.headD 0 % 2) = V.int 0)
theorem AnsOf.ext {H H' : Hp} {d : Addr} {kvs : List (Key × V)} {zs : List Str} {an : Str → List Int} (h : AnsOf H d kvs zs an) (x : ExtN H H') : AnsOf H' d kvs zs an := by
  refine ⟨x _ _ h.d (fun _ z => nomatch z), fun z hz => ?_⟩
  obtain ⟨v, e, a⟩ := h.is z hz
  exact ⟨v, e, a.at fun a xs e => x _ _ e fun _ z => nomatch z⟩
theorem RowsOk.nmOk {zs : List Str} (h : RowsOk zs) : NmOk zs := ⟨by have := h.few; omega, h.nd, h.nm⟩
theorem ans_ne {H : Hp} {v : V} {ns : List Int} (h : AnsAt H v ns) : ∃ n ms, ns = n :: ms := by
  obtain ⟨⟨i, _, e⟩ | ⟨a, _, _, l1, _⟩, _⟩ := h
  · exact ⟨i, [], e⟩
  · cases ns with
    | nil => exact absurd l1 (by decide)
    | cons n ms => exact ⟨n, ms, rfl⟩
theorem merge_ndX : ∀ (more acc : List (Key × V)), ((acc ++ more).map (·.1)).Nodup → mergeK acc more = acc ++ more
  | [], acc, _ => by
    rw [List.append_nil]
    rfl
  | p :: r, acc, h => by
    have e : acc ++ p :: r = (acc ++ [p]) ++ r := by rw [List.append_assoc]; rfl
    have hn : p.1 ∉ acc.map (·.1) := by
      rw [List.map_append, List.map_cons, List.nodup_append] at h
      intro hm
      exact h.2.2 _ hm _ List.mem_cons_self rfl
    show mergeK (putK acc p.1 p.2) r = _
    rw [putK_new _ (valV_not_mem hn), e]
    rw [e] at h
    exact merge_ndX r (acc ++ [p]) h
theorem paired_impX {α β : Type} {F G : α → β → Prop} (h : ∀ a b, F a b → G a b) : ∀ {l : List α} {m : List β}, Paired F l m → Paired G l m
  | [], _, .nil => .nil
  | _ :: _, _, .cons a b => .cons (h _ _ a) (paired_impX h b)
/-- a dict over rows, each row's value told -/
def kvOf (f : Str → V) (zs : List Str) : List (Key × V) := zs.map fun z => (Sum.inr z, f z)
theorem kvOf_keys (f : Str → V) (zs : List Str) : (kvOf f zs).map (·.1) = zs.map Sum.inr := by
  unfold kvOf
  rw [List.map_map]
  rfl
theorem kvOf_nd (f : Str → V) {zs : List Str} (h : zs.Nodup) : ((kvOf f zs).map (·.1)).Nodup := by
  rw [kvOf_keys]
  exact List.Pairwise.map _ (fun a b h e => h (Sum.inr.inj e)) h
theorem kvOf_at (f : Str → V) : ∀ {zs : List Str} {z : Str}, z ∈ zs → valV (kvOf f zs) (Sum.inr z : Key) = some (f z)
  | y :: zs, z, h => by
    by_cases e : y = z
    · subst e
      exact valV_pos (p := ((Sum.inr y : Key), f y)) rfl
    · refine (valV_neg (p := ((Sum.inr y : Key), f y)) (fun q => e (Sum.inr.inj q))).trans (kvOf_at f ?_)
      rcases List.mem_cons.mp h with q | q
      · exact absurd q.symm e
      · exact q
theorem kvOf_snoc (f : Str → V) {zs : List Str} {i : Nat} {z : Str} (h : zs[i]? = some z) : kvOf f (zs.take (i + 1)) = kvOf f (zs.take i) ++ [(Sum.inr z, f z)] := by
  unfold kvOf
  rw [take_snoc h, List.map_append]
  rfl
def spShown (K : PySem.W.Frag) (T : List (Addr × Str)) : Sp := fun vs H Q _ => ∃ (kind : Str) (l d S : Addr) (zs : List Str) (kvs : List (Key × V)) (an : Str → List Int) (a b : Nat), vs = [.str kind, .ref l, .ref d, .ref S] ∧ SqL K H l (zs.map V.str) ∧ RowsOk zs ∧ (kind ≠ "window" → kind ≠ "mapped" → AnsOf H d kvs zs an) ∧
  H S = some (.tup [.int (a : Nat), .int (b : Nat)]) ∧ a ≤ 80 ∧ b ≤ 80 ∧ kind ∈ facs.map (·.1) ∧ Tabs T H ∧ ∀ p H', ExtN H H' → Tabs T H' → ImAt K H' p (shownM kind zs an (fun z => evn (an z)) a b) → Q (.ref p) H'
section
variable {P : Program} {w : World} {K : PySem.W.Frag} {mg : Str → Option Value} {base : Heap} {f : Addr} {fd : FuncData}
theorem ok_shown {fF fO fU fG fW fL : Addr} {fdF fdO fdU fdG fdW fdL : FuncData} {T : List (Addr × Str)} (F : Fun K "_law_shown" "_law_shown" sShown f fd)
    (GF : FnOk P w K mg base CX0 3 fF fdF ["rows", "answers"] (spFil K)) (gF : mg "filtered" = some (.ref fF)) (kF : PySem.W.keepIn K (.ref fF) = true) (bF : Binds K fdF ["rows", "answers"] [])
    (GO : FnOk P w K mg base CX0 6 fO fdO ["rows", "answers"] (spOrd K T)) (gO : mg "ordered" = some (.ref fO)) (kO : PySem.W.keepIn K (.ref fO) = true) (bO : Binds K fdO ["rows", "answers"] [])
    (GU : FnOk P w K mg base CX0 6 fU fdU ["rows", "answers"] (spFirst K)) (gU : mg "first_ones" = some (.ref fU)) (kU : PySem.W.keepIn K (.ref fU) = true) (bU : Binds K fdU ["rows", "answers"] [])
    (GG : FnOk P w K mg base CX0 6 fG fdG ["rows", "answers"] (spGrp P w K)) (gG : mg "grouped" = some (.ref fG)) (kG : PySem.W.keepIn K (.ref fG) = true) (bG : Binds K fdG ["rows", "answers"] [])
    (GW : FnOk P w K mg base CX0 5 fW fdW ["rows", "start", "count"] (spWin K)) (gW : mg "window" = some (.ref fW)) (kW : PySem.W.keepIn K (.ref fW) = true) (bW : Binds K fdW ["rows", "start", "count"] [])
    (GL : FnOk P w K mg base CX0 1 fL fdL ["_law_answer"] (spFullL K)) (gL : mg "_law_full" = some (.ref fL)) (kL : PySem.W.keepIn K (.ref fL) = true) (bL : Binds K fdL ["_law_answer"] [])
    (md : mg "dict" = none) (mL : mg "list" = none) : FnOk P w K mg base CX0 7 f fd ["_law_kind", "_law_rows", "_law_answers", "_law_span"] (spShown K T) := by
  refine F.ok scShown (fun vs H Q E h => ?_) (fun cdv A outer s H vs Q E hr h => ?_)
  · obtain ⟨kind, l, d, S, zs, kvs, an, a, b, rfl, _⟩ := h
    rfl
  · obtain ⟨kind, l, d, S, zs, kvs, an, a, b, rfl, hl, ro, ha, hS, ha80, hb80, hk, hT, q⟩ := h
    have hr1 := hr.mono (show 1 ≤ 6 by decide)
    have hr3 := hr.mono (show 3 ≤ 6 by decide)
    have hr5 := hr.mono (show 5 ≤ 6 by decide)
    have hu1 : (A.deeper (envOfC "_law_shown" (defScope sShown) s.heap.objs.size f cdv)).units + 1 < cLine := by have := hr.units; omega
    have few := ro.few
    refine ⟨_, pss_cons (ps_if (pt_cmpR op_eq (pv 0) pe_str (nomark _)) (pss_one (ps_ret (pe_call GF hr3 rfl gF kF bF .nil pass0 (pa_cons (pv 1) (pa_cons (pe_callTy (call_dictP rfl) (by rfl) md (by decide +kernel) (pa_cons
          (pe_lc (own := [("_law_row", 4)]) (g := gName 4) (tt := tYes) (by rfl) scShown.nd (pi_list (pv 1)) (blkOk_by (own := [("_law_row", 4)]) (N := nShown) (sc := defScope sShown) (by decide +kernel)) (fun _ _ _ _ _ => pg_name (i := 4) scShown.nd rfl (.inl rfl)) (fun _ _ _ _ _ => pts_nil)
            (fun _ _ _ _ _ => pe_tup (pa_cons (pv 4) (pa_cons (pe_cmpR op_eq (pe_op op_mod (pe_ix (r := rIxT K) ix_tup (pe_call GL hr1 rfl gL kL bL .nil pass0 (pa_cons (pe_dget hu1 (pv 2) (pv 4) (fun _ _ => rfl)) pa_nil)) pe_int (fun _ _ => rfl)) pe_int) pe_int (nomark _)) pa_nil)))) pa_nil)) pa_nil))))) pss_nil)
      (pss_cons (ps_if (pt_cmpR op_eq (pv 0) pe_str (nomark _)) (pss_one (ps_ret (pe_call GO hr rfl gO kO bO .nil pass0 (pa_cons (pv 1) (pa_cons (pv 2) pa_nil))))) pss_nil)
      (pss_cons (ps_if (pt_cmpR op_eq (pv 0) pe_str (nomark _)) (pss_one (ps_ret (pe_call GU hr rfl gU kU bU .nil pass0 (pa_cons (pv 1) (pa_cons (pv 2) pa_nil))))) pss_nil)
      (pss_cons (ps_if (pt_cmpR op_eq (pv 0) pe_str (nomark _)) (pss_one (ps_ret (pe_ix (r := rIxT K) ix_tup (pe_call GG hr rfl gG kG bG .nil pass0 (pa_cons (pv 1) (pa_cons (pv 2) pa_nil))) pe_int (fun _ _ => rfl)))) pss_nil)
      (pss_one (ps_ret (pe_ifExp (pt_cmpR op_eq (pv 0) pe_str (nomark _))
        (pe_call GW hr5 rfl gW kW bW .nil pass0 (pa_cons (pv 1) (pa_cons (pe_ix (r := rIxT K) ix_tup (pv 3) pe_int (fun _ _ => rfl)) (pa_cons (pe_ix (r := rIxT K) ix_tup (pv 3) pe_int (fun _ _ => rfl)) pa_nil))))
        (pe_callTy call_list_of (by rfl) mL (by decide +kernel) (pa_cons (pv 1) pa_nil)))))))), ?_⟩
    have st : ∀ z : Str, decide (V.str kind = V.str z) = true → kind = z := fun z c => V.str.inj (of_decide_eq_true c)
    refine ⟨_, rfl, rfl, _, rfl, ite2 (fun c => ?_) (fun c1 => ?_)⟩
    · obtain rfl := st _ c
      have ha := ha (by decide +kernel) (by decide +kernel)
      refine ⟨_, rfl, _, rfl, l, rfl, ⟨_, hl⟩, fun D hD => ?_⟩
      refine lc_list (xs := zs.map V.str) (fun i H3 => Same H H3 ∧ ∃ qs : List Addr, H3 D = some (.lst (qs.map V.ref)) ∧ qs.length = i ∧ Paired (fun p (kv : Key × V) => H3 p = some (.tup [kV kv.1, kv.2])) qs (kvOf (fun z => .bl (evn (an z))) (zs.take i))) ?_ ?_ ?_ ?_
      · exact ⟨Same.new hD, [], upd_same, rfl, .nil⟩
      · exact fun _ _ _ z => sqL_keep z.1 hl
      · rintro i x H3 hx ⟨s3, qs, e3, lq, pr⟩
        rw [List.getElem?_map] at hx
        obtain ⟨z, hz, rfl⟩ := Option.map_eq_some_iff.mp hx
        have lti := (List.getElem?_eq_some_iff.mp hz).1
        refine ⟨rfl, ?_⟩
        unfold tYes
        dsimp only
        rw [if_pos rfl]
        have ha3 := ha.same s3
        obtain ⟨v, gv, av⟩ := ha3.is z (List.mem_of_getElem? hz)
        have dg := DGet.k (k := Sum.inr z) ha3.d
        rw [gv] at dg
        obtain ⟨n, ms, en⟩ := ans_ne av
        refine ⟨_, rfl, _, rfl, _, rfl, d, v, rfl, dg, v, an z, rfl, av, fun T1 H4 s4 eT1 => ?_⟩
        refine ⟨T1, _, (0 : Nat), .int n, rfl, rfl, .of eT1, atI_nat (by rw [en] <;> rfl), _, _, rfl, rfl, (show (0:Int) < 2 by decide), rfl, ?_⟩
        have ev : decide (V.int (n % 2) = V.int 0) = evn (an z) := by
          rw [en]
          rfl
        rw [ev]
        refine ⟨(by show 2 ≤ sizeLine; decide), fun t ht => ?_⟩
        have ta := Same.new (o := .tup [.str z, .bl (evn (an z))]) ht
        have et : upd H4 t (.tup [.str z, .bl (evn (an z))]) t = some (.tup [.str z, .bl (evn (an z))]) := upd_same
        have s5 := s4.trans ta
        have eD := s5 _ _ e3
        generalize upd H4 t (.tup [.str z, .bl (evn (an z))]) = H5 at et s5 eD ⊢
        have off : ∀ c xs o, H5 c = some (.tup xs) → upd H5 D o c = some (.tup xs) := fun c xs o e => (upd_ne (ne_of e eD (fun z => nomatch z))).trans e
        refine ⟨_, eD, ?_, fun c o e => (upd_ne (ne_of_none e hD)).trans (s5 _ _ (s3 _ _ e)), qs ++ [t], ?_, ?_, ?_⟩
        · rw [List.length_map, lq]
          exact small1000 (by omega)
        · rw [upd_same, List.map_append]
          rfl
        · rw [List.length_append, lq]
          rfl
        · rw [kvOf_snoc _ hz]
          exact Paired.snoc (paired_impX (fun p kv e => off _ _ _ (s5 _ _ e)) pr) (off _ _ _ et)
      · rintro H3 ⟨s3, qs, e3, lq, pr⟩
        rw [List.length_map] at lq
        rw [List.length_map, List.take_length] at pr
        refine ⟨D, qs, _, rfl, .of e3, paired_impX (fun p kv e => .of e) pr, fun bd hbd => ?_⟩
        rw [merge_ndX _ [] (by rw [List.nil_append]; exact kvOf_nd _ ro.nd), List.nil_append]
        have ta := Same.new (o := .dK (kvOf (fun z => .bl (evn (an z))) zs)) hbd
        have ebd : upd H3 bd (.dK (kvOf (fun z => .bl (evn (an z))) zs)) bd = some (.dK (kvOf (fun z => .bl (evn (an z))) zs)) := upd_same
        have s4 := s3.trans ta
        refine ⟨l, bd, zs, _, fun z => evn (an z), rfl, .inl (sqL_keep s4 hl), ro, ⟨ebd, fun z hz => kvOf_at _ hz⟩, fun p H5 s5 np e5 => ?_⟩
        have s6 := s4.trans s5
        refine q p H5 (.of s6) (hT.ext s6) ?_
        have := imAt_rows (K := K) (.of e5)
        exact this
    have n1 : kind ≠ "filtered" := fun z => c1 (decide_eq_true (congrArg V.str z))
    unfold shownM at q
    rw [if_neg n1] at q
    refine ⟨_, rfl, rfl, _, rfl, ite2 (fun c => ?_) (fun c2 => ?_)⟩
    · obtain rfl := st _ c
      rw [if_pos rfl] at q
      have ha := ha (by decide +kernel) (by decide +kernel)
      refine ⟨_, rfl, _, rfl, l, d, zs, kvs, an, rfl, .inl hl, ro, ha, hT, fun p H2 x2 T2 np => ?_⟩
      have s3 := Same.new (o := .lst ((sortedBy an zs).map V.str)) np
      exact q p _ (x2.trans (.of s3)) (T2.ext s3) (imAt_rows (.of upd_same))
    rw [if_neg fun z => c2 (decide_eq_true (congrArg V.str z))] at q
    refine ⟨_, rfl, rfl, _, rfl, ite2 (fun c => ?_) (fun c3 => ?_)⟩
    · obtain rfl := st _ c
      rw [if_pos rfl] at q
      have ha := ha (by decide +kernel) (by decide +kernel)
      refine ⟨_, rfl, _, rfl, l, d, zs, kvs, an, rfl, .inl hl, ro, ha, fun p H2 s2 np e2 => ?_⟩
      exact q p _ (.of s2) (hT.ext s2) (imAt_rows (.of e2))
    rw [if_neg fun z => c3 (decide_eq_true (congrArg V.str z))] at q
    refine ⟨_, rfl, rfl, _, rfl, ite2 (fun c => ?_) (fun c4 => ?_)⟩
    · obtain rfl := st _ c
      rw [if_pos rfl] at q
      have ha := ha (by decide +kernel) (by decide +kernel)
      refine ⟨_, rfl, _, rfl, l, d, zs, kvs, an, rfl, .inl hl, ro, ha, fun T W C ys H2 s2 _ _ _ g => ?_⟩
      exact ⟨T, _, (0 : Nat), .ref W, rfl, rfl, .of g.tt, atI_nat rfl, q W _ (.of s2) (hT.ext s2) (imAt_grp g)⟩
    rw [if_neg fun z => c4 (decide_eq_true (congrArg V.str z))] at q
    refine ⟨_, rfl, rfl, _, rfl, ite2 (fun c => ?_) (fun c5 => ?_)⟩
    · obtain rfl := st _ c
      rw [if_pos rfl] at q
      refine ⟨_, rfl, _, rfl, S, _, (0 : Nat), .int (a : Nat), rfl, rfl, .of hS, atI_nat rfl, _, rfl, S, _, (1 : Nat), .int (b : Nat), rfl, rfl, .of hS, atI_nat rfl, ?_⟩
      refine ⟨l, zs, a, b, rfl, hl, ro.nmOk, ha80, hb80, fun p H2 _ s2 e2 => ?_⟩
      exact q p _ (.of s2) (hT.ext s2) (imAt_rows (.of e2))
    · rw [if_neg fun z => c5 (decide_eq_true (congrArg V.str z))] at q
      refine ⟨_, rfl, l, _, rfl, .inl hl, fun p np => ?_⟩
      have s2 := Same.new (o := .lst (zs.map V.str)) np
      exact q p _ (.of s2) (hT.ext s2) (imAt_rows (.of upd_same))
end
end G
set_option Elab.async false
set_option linter.all false
set_option maxRecDepth 100000
set_option maxHeartbeats 4000000
/-! SY: what one operation makes of rows and answers; how it fits the count. -/
namespace G
open PySem PySem.Spec PyProof.Rows L2 NdefX DvT StX SkL LamX PySem.W
/-- zs, an become zs', an' by one operation of s steps and d differing answers; an0 is an on zs -/
structure Fit (zs : List Str) (an : Str → List Int) (zs' : List Str) (an0 an' : Str → List Int) (s d : Int) : Prop where
  ok : ∀ z ∈ zs, an0 z = an z
  nd : zs.Nodup
  fs : 0 ≤ s ∧ s ≤ 1
  fe : 0 ≤ d ∧ d ≤ 1
  k : (zs' = zs ∧ an' = an0) ∨ ∃ r W, OneOp r W zs zs' an0 an' ∧ 1 ≤ s + d ∧ (an0 r = an' r ∧ 1 ≤ s ∨ 1 ≤ d) ∧ (1 ≤ s ∨ zs = zs')
theorem most_nn {s d : Int} (s0 : 0 ≤ s) (d0 : 0 ≤ d) : ∀ p ∈ facs, 0 ≤ most p.1 s d := by
  intro p hp
  simp only [facs, List.mem_cons, List.not_mem_nil, or_false] at hp
  rcases hp with rfl | rfl | rfl | rfl | rfl | rfl
  · show 0 ≤ 1 * (s + d)
    omega
  · show 0 ≤ 1 * (s + d)
    omega
  · show 0 ≤ 2 * (s + d)
    omega
  · show 0 ≤ 2 * s
    omega
  · show 0 ≤ 2 * s + 3 * d
    omega
  · show 0 ≤ s
    omega
theorem most_fac {s d : Int} (s0 : 0 ≤ s) (d0 : 0 ≤ d) : ∀ p ∈ facs, most p.1 s d ≤ p.2 * (s + d) := by
  intro p hp
  simp only [facs, List.mem_cons, List.not_mem_nil, or_false] at hp
  rcases hp with rfl | rfl | rfl | rfl | rfl | rfl
  · show 1 * (s + d) ≤ 1 * (s + d)
    omega
  · show 1 * (s + d) ≤ 1 * (s + d)
    omega
  · show 2 * (s + d) ≤ 2 * (s + d)
    omega
  · show 2 * s ≤ 2 * (s + d)
    omega
  · show 2 * s + 3 * d ≤ 3 * (s + d)
    omega
  · show s ≤ 1 * (s + d)
    omega
theorem Fit.bound {zs zs' : List Str} {an an0 an' : Str → List Int} {s d : Int} (h : Fit zs an zs' an0 an' s d) (g : List Int → Bool) (a b : Nat) :
    ∀ p ∈ facs, Stp.stp (shownM p.1 zs an0 (fun z => g (an0 z)) a b) (shownM p.1 zs' an' (fun z => g (an' z)) a b) ≤ most p.1 s d := by
  rcases h.k with ⟨e1, e2⟩ | ⟨r, W, op, h1, hg, hw⟩
  · intro p hp
    rw [e1, e2]
    have h1 := Stp.stp_same (shown_nd (kind := p.1) (an := an0) (ev := fun z => g (an0 z)) (a := a) (b := b) h.nd)
    have h2 := most_nn h.fs.1 h.fe.1 p hp
    omega
  · exact view_bound op g a b s d h.fs.1 h.fe.1 h1 hg hw
theorem at_split {zs : List Str} {i : Nat} {r : Str} (h : zs[i]? = some r) : i ≤ (zs.take i ++ zs.drop (i + 1)).length ∧ zs = (zs.take i ++ zs.drop (i + 1)).take i ++ r :: (zs.take i ++ zs.drop (i + 1)).drop i := by
  obtain ⟨lt, e⟩ := List.getElem?_eq_some_iff.mp h
  have lt2 : (zs.take i).length = i := by rw [List.length_take]; omega
  refine ⟨by rw [List.length_append]; omega, ?_⟩
  have e1 : (zs.take i ++ zs.drop (i + 1)).take i = zs.take i := by
    rw [List.take_append_of_le_length (by omega), List.take_of_length_le (by omega)]
  have e2 : (zs.take i ++ zs.drop (i + 1)).drop i = zs.drop (i + 1) := by
    rw [List.drop_append_of_le_length (by omega), List.drop_of_length_le (by omega), List.nil_append]
  rw [e1, e2, ← e, ← List.drop_eq_getElem_cons lt, List.take_append_drop]
theorem out_of {zs : List Str} {i : Nat} {r : Str} (nd : zs.Nodup) (h : zs[i]? = some r) : r ∉ zs.take i ++ zs.drop (i + 1) ∧ (zs.take i ++ zs.drop (i + 1)).Nodup := by
  obtain ⟨lt, e⟩ := List.getElem?_eq_some_iff.mp h
  have e1 : zs = zs.take i ++ r :: zs.drop (i + 1) := by
    rw [← e, ← List.drop_eq_getElem_cons lt, List.take_append_drop]
  have pm : zs.Perm (r :: (zs.take i ++ zs.drop (i + 1))) := by
    have p2 : (zs.take i ++ r :: zs.drop (i + 1)).Perm (r :: (zs.take i ++ zs.drop (i + 1))) := List.perm_middle
    rwa [← e1] at p2
  exact List.nodup_cons.mp (pm.nodup_iff.mp nd)
theorem with_at {zs : List Str} {i : Nat} {r : Str} (h : zs[i]? = some r) : With r (zs.take i ++ zs.drop (i + 1)) zs := .inr ⟨i, (at_split h).1, (at_split h).2⟩
theorem fit_out {zs : List Str} {an : Str → List Int} {i : Nat} {r : Str} (nd : zs.Nodup) (h : zs[i]? = some r) : Fit zs an (zs.take i ++ zs.drop (i + 1)) an an 1 0 := by
  obtain ⟨o, n⟩ := out_of nd h
  exact ⟨fun _ _ => rfl, nd, by decide, by decide, .inr ⟨r, _, ⟨n, o, with_at h, .inl rfl, fun _ _ => rfl, .inr (.inl o)⟩, by decide, .inl ⟨rfl, by decide⟩, .inl (by decide)⟩⟩
def setA (an : Str → List Int) (r : Str) (ns : List Int) : Str → List Int := fun z => if z = r then ns else an z
theorem setA_at (an : Str → List Int) (r : Str) (ns : List Int) : setA an r ns r = ns := if_pos rfl
theorem setA_ne {an : Str → List Int} {r z : Str} {ns : List Int} (h : z ≠ r) : setA an r ns z = an z := if_neg h
theorem fit_in {zs : List Str} {an : Str → List Int} {i : Nat} {r : Str} {ns : List Int} (nd : zs.Nodup) (out : r ∉ zs) (h : i ≤ zs.length) : Fit zs an (zs.take i ++ r :: zs.drop i) (setA an r ns) (setA an r ns) 1 0 :=
  ⟨fun z hz => setA_ne fun e => out (by rw [← e]; exact hz), nd, by decide, by decide, .inr ⟨r, zs, ⟨nd, out, .inl rfl, .inr ⟨i, h, rfl⟩, fun _ _ => rfl, .inl out⟩, by decide, .inl ⟨rfl, by decide⟩, .inl (by decide)⟩⟩
theorem fit_move {zs : List Str} {an : Str → List Int} {i j : Nat} {r : Str} (nd : zs.Nodup) (h : zs[i]? = some r) (hj : j ≤ (zs.take i ++ zs.drop (i + 1)).length) :
    Fit zs an ((zs.take i ++ zs.drop (i + 1)).take j ++ r :: (zs.take i ++ zs.drop (i + 1)).drop j) an an (if decide (j = i) = true then 0 else 1) 0 := by
  obtain ⟨o, n⟩ := out_of nd h
  by_cases e : j = i
  · subst e
    rw [decide_eq_true rfl, if_pos rfl, ← (at_split h).2]
    exact ⟨fun _ _ => rfl, nd, by decide, by decide, .inl ⟨rfl, rfl⟩⟩
  · rw [decide_eq_false e, if_neg (by decide)]
    exact ⟨fun _ _ => rfl, nd, by decide, by decide, .inr ⟨r, _, ⟨n, o, with_at h, .inr ⟨j, hj, rfl⟩, fun _ _ => rfl, .inr (.inr (.inl rfl))⟩, by decide, .inl ⟨rfl, by decide⟩, .inl (by decide)⟩⟩
theorem fit_ans {zs : List Str} {an : Str → List Int} {i : Nat} {r : Str} {ns : List Int} (nd : zs.Nodup) (h : zs[i]? = some r) : Fit zs an zs an (setA an r ns) 0 (if decide (ns = an r) = true then 0 else 1) := by
  obtain ⟨o, n⟩ := out_of nd h
  by_cases e : ns = an r
  · rw [decide_eq_true e, if_pos rfl]
    refine ⟨fun _ _ => rfl, nd, by decide, by decide, .inl ⟨rfl, ?_⟩⟩
    funext z
    by_cases c : z = r
    · rw [c, setA_at, e]
    · exact setA_ne c
  · rw [decide_eq_false e, if_neg (by decide)]
    exact ⟨fun _ _ => rfl, nd, by decide, by decide, .inr ⟨r, _, ⟨n, o, with_at h, with_at h, fun y hy => (setA_ne hy).symm, .inr (.inr (.inr rfl))⟩, by decide, .inr (by decide), .inr rfl⟩⟩
/-- rows and answers behind an operation, its steps, its differing answers -/
def OpAt (G : Hp) (zs : List Str) (an : Str → List Int) (t : Addr) : Prop := ∃ (l d : Addr) (zs' : List Str) (kvs : List (Key × V)) (an0 an' : Str → List Int) (s e : Int),
  G t = some (.tup [.ref l, .ref d, .int s, .int e]) ∧ G l = some (.lst (zs'.map V.str)) ∧ RowsOk zs' ∧ AnsOf G d kvs zs' an' ∧ Fit zs an zs' an0 an' s e
theorem OpAt.ext {H H' : Hp} {zs : List Str} {an : Str → List Int} {t : Addr} (h : OpAt H zs an t) (x : ExtN H H') : OpAt H' zs an t := by
  obtain ⟨l, d, zs', kvs, an0, an', s, e, h1, h2, h3, h4, h5⟩ := h
  exact ⟨l, d, zs', kvs, an0, an', s, e, x _ _ h1 (fun _ z => nomatch z), x _ _ h2 (fun _ z => nomatch z), h3, h4.ext x, h5⟩
theorem OpAt.same {H H' : Hp} {zs : List Str} {an : Str → List Int} {t : Addr} (h : OpAt H zs an t) (x : Same H H') : OpAt H' zs an t := h.ext (.of x)
/-- but for the box and the list under way -/
def hid (D b : Addr) (H : Hp) : Hp := hide b (hide D H)
theorem hid_at {D b a : Addr} {H : Hp} {o : HO} (e : H a = some o) (n1 : a ≠ b) (n2 : a ≠ D) : hid D b H a = some o := by
  unfold hid
  rw [hide_ne n1, hide_ne n2]
  exact e
theorem hid_but {D b : Addr} {H H' : Hp} (k : But b H H') : Same (hid D b H) (hid D b H') := fun a o e => by
  unfold hid at e ⊢
  have n1 : a ≠ b := fun z => by rw [z, hide_at] at e; cases e
  rw [hide_ne n1] at e ⊢
  have n2 : a ≠ D := fun z => by rw [z, hide_at] at e; cases e
  rw [hide_ne n2] at e ⊢
  exact k a o n1 e
theorem hid_upd {D b : Addr} {H : Hp} {o : HO} : hid D b (upd H D o) = hid D b H := by
  unfold hid
  rw [hide_upd]
/-- the operations found so far -/
structure OpsI (b D : Addr) (n : Nat) (zs : List Str) (an : Str → List Int) (H0 H : Hp) (ts : List Addr) : Prop where
  h0 : H0 D = none
  nb : D ≠ b
  k : But b H0 H
  B : BoxAt H b n
  eD : H D = some (.lst (ts.map V.ref))
  ok : ∀ t ∈ ts, OpAt (hid D b H) zs an t
theorem OpsI.old {b D : Addr} {n : Nat} {zs : List Str} {an : Str → List Int} {H0 H : Hp} {ts : List Addr} (h : OpsI b D n zs an H0 H ts) {a : Addr} {o : HO} (e : H0 a = some o) (na : a ≠ b) : H a = some o ∧ hid D b H a = some o :=
  ⟨h.k _ _ na e, hid_at (h.k _ _ na e) na (ne_of_none e h.h0)⟩
theorem OpsI.ans {b D d : Addr} {n : Nat} {zs ys : List Str} {an an2 : Str → List Int} {H0 H : Hp} {ts : List Addr} {kvs : List (Key × V)} (h : OpsI b D n zs an H0 H ts) (a : AnsOf (hide b H0) d kvs ys an2) : AnsOf (hid D b H) d kvs ys an2 := by
  refine a.same fun c o e => ?_
  have n1 : c ≠ b := fun z => by rw [z, hide_at] at e; cases e
  rw [hide_ne n1] at e
  exact (h.old e n1).2
theorem OpsI.same {b D : Addr} {n : Nat} {zs : List Str} {an : Str → List Int} {H0 H H' : Hp} {ts : List Addr} (h : OpsI b D n zs an H0 H ts) (s : Same H H') : OpsI b D n zs an H0 H' ts :=
  ⟨h.h0, h.nb, h.k.trans (.same s), h.B.keep fun o e => s _ _ e, s _ _ h.eD, fun t ht => (h.ok t ht).same (hid_but (.same s))⟩
theorem OpsI.but {b D : Addr} {n m : Nat} {zs : List Str} {an : Str → List Int} {H0 H H' : Hp} {ts : List Addr} (h : OpsI b D n zs an H0 H ts) (s : But b H H') (B : BoxAt H' b m) : OpsI b D m zs an H0 H' ts :=
  ⟨h.h0, h.nb, h.k.trans s, B, s _ _ h.nb h.eD, fun t ht => (h.ok t ht).same (hid_but s)⟩
theorem OpsI.put {b D : Addr} {n : Nat} {zs : List Str} {an : Str → List Int} {H0 H : Hp} {ts : List Addr} {t : Addr} (h : OpsI b D n zs an H0 H ts) (ht : OpAt (hid D b H) zs an t) : OpsI b D n zs an H0 (upd H D (.lst (ts.map V.ref ++ [V.ref t]))) (ts ++ [t]) := by
  refine ⟨h.h0, h.nb, but_upd h.k h.h0, box_upd h.B h.nb, ?_, fun t' ht' => ?_⟩
  · rw [upd_same, List.map_append]
    rfl
  · rw [hid_upd]
    rcases List.mem_append.mp ht' with z | z
    · exact h.ok t' z
    · rw [List.mem_singleton.mp z]
      exact ht
theorem rows_out {zs : List Str} {i : Nat} (h : RowsOk zs) : RowsOk (zs.take i ++ zs.drop (i + 1)) := by
  have sb : (zs.take i ++ zs.drop (i + 1)).Sublist zs := by
    conv => rhs; rw [← List.take_append_drop i zs]
    refine List.Sublist.append (List.Sublist.refl _) ?_
    rw [← List.drop_drop]
    exact List.drop_sublist _ _
  exact ⟨Nat.le_trans sb.length_le h.few, sb.nodup h.nd, fun z hz => h.nm z (sb.subset hz)⟩
theorem rows_in {zs : List Str} {i : Nat} {r : Str} (h : RowsOk zs) (l : zs.length < 40) (hr : NameZ r) (out : r ∉ zs) : RowsOk (zs.take i ++ r :: zs.drop i) := by
  have pm : (zs.take i ++ r :: zs.drop i).Perm (r :: zs) := List.perm_middle.trans (by rw [List.take_append_drop])
  refine ⟨by rw [pm.length_eq, List.length_cons]; omega, pm.nodup_iff.mpr (List.nodup_cons.mpr ⟨out, h.nd⟩), fun z hz => ?_⟩
  rcases List.mem_cons.mp (pm.mem_iff.mp hz) with e | e
  · rw [e]
    exact hr
  · exact h.nm z e
theorem ans_put {H H' : Hp} {d d2 : Addr} {kvs : List (Key × V)} {zs : List Str} {an : Str → List Int} {r : Str} {v : V} {ns : List Int} (h : AnsOf H d kvs zs an) (s : Same H H') (e : H' d2 = some (.dK (putK kvs (Sum.inr r) v))) (hv : AnsAt H' v ns) {ys : List Str} (sub : ∀ y ∈ ys, y = r ∨ y ∈ zs) : AnsOf H' d2 (putK kvs (Sum.inr r) v) ys (setA an r ns) := by
  refine ⟨e, fun y hy => ?_⟩
  by_cases c : y = r
  · subst c
    exact ⟨v, by rw [valV_put, if_pos rfl], by rw [setA_at]; exact hv⟩
  · obtain ⟨v2, e2, a2⟩ := h.is y ((sub y hy).resolve_left c)
    refine ⟨v2, ?_, ?_⟩
    · rw [valV_put, if_neg fun z => c (Sum.inr.inj z)]
      exact e2
    · rw [setA_ne c]
      exact a2.same s
end G
set_option Elab.async false
set_option linter.all false
set_option maxRecDepth 100000
set_option maxHeartbeats 8000000
/-! SZ: _law_operations. -/
namespace G
open PySem PySem.Spec PyProof.Rows L2 NdefX DvT StX SkL LamX PySem.W
abbrev sOps : Stmt := topS 52
abbrev nOps : List Str := ["_law_box_here", "_law_rows", "_law_answers", "_law_fresh", "_law_at", "_law_found", "_law_more", "_law_rest", "_law_to", "_law_answer", "_law_other"]
theorem scOps : FnScope nOps ["_law_box_here", "_law_rows", "_law_answers", "_law_fresh"] (defScope sOps) := ⟨rfl, rfl, rfl, by decide +kernel, rfl, by decide +kernel, by decide +kernel⟩
theorem cutV_takeZ (xs : List V) (k : Nat) : cutV xs none (some (k : Int)) = xs.take k := by
  unfold cutV
  rw [HT.sIx_none, HT.sIx_nat]
  simp only [Option.getD, List.drop_zero, Nat.sub_zero]
  rw [List.take_eq_take_iff]
  omega
theorem cutV_fromZ (xs : List V) (k : Nat) (h : k ≤ xs.length) : cutV xs (some (k : Int)) none = xs.drop k := by
  unfold cutV
  rw [HT.sIx_none, HT.sIx_nat, Nat.min_eq_left h, List.take_of_length_le]
  rw [List.length_drop]
  exact Nat.le_refl _
theorem ite_bnot {p : Prop} [Decidable p] : (if (!decide p) = true then (1 : Int) else 0) = if decide p = true then 0 else 1 := by
  by_cases h : p
  · rw [decide_eq_true h]
    rfl
  · rw [decide_eq_false h]
    rfl
theorem intT_eqv (ns ms : List Int) : PyData.eqv (.tuple (ns.map .int)) (.tuple (ms.map .int)) = decide (ns = ms) := by
  have eqi : ∀ ns ms : List Int, PyData.eqvAll (ns.map PyData.int) (ms.map PyData.int) = decide (ns = ms) := fun ns => by
    induction ns with
    | nil =>
      intro ms
      cases ms with
      | nil => simp [PyData.eqvAll]
      | cons m ms => simp [PyData.eqvAll]
    | cons n ns ih =>
      intro ms
      cases ms with
      | nil => simp [PyData.eqvAll]
      | cons m ms =>
        simp only [List.map_cons, PyData.eqvAll, PyData.eqv, ih]
        by_cases h : n = m
        · subst h
          simp
        · simp [h]
  simp only [PyData.eqv, eqi]
theorem intT_shaped (k : List Int) : SeqAt.shaped (.tuple (k.map .int)) = true := by
  have lay : ∀ k : List Int, PyData.canLayAll0 (k.map PyData.int) = true := fun k => by
    induction k with
    | nil => simp [PyData.canLayAll0]
    | cons a k ih => simp [PyData.canLayAll0, PyData.canLay0, ih]
  show ((PyData.tuple (k.map .int)).canLay0 && decide ((PyData.tuple (k.map .int)).depth ≤ 64)) = true
  rw [Bool.and_eq_true]
  refine ⟨?_, decide_eq_true ?_⟩
  · simp [PyData.canLay0, lay]
  · simp [PyData.depth, PySem.W.depth_ints]
theorem dp_intT {K : PySem.W.Frag} {H : Hp} {t : Addr} {ns : List Int} (e : H t = some (.tup (ns.map V.int))) : Dp K H (.ref t) (.tuple (ns.map .int)) := .tup (.of e) (dp_intsM ns)
theorem ne_lst {H : Hp} {a D : Addr} {o : HO} (h : H a = none) (e : H D = some o) : a ≠ D := fun z => by
  rw [z, e] at h
  cases h
def spOps (K : PySem.W.Frag) : Sp := fun vs H Q _ => ∃ (b l d : Addr) (n : Nat) (zs : List Str) (kvs : List (Key × V)) (an : Str → List Int) (r : Str), vs = [.ref b, .ref l, .ref d, .str r] ∧ BoxAt H b n ∧ n ≤ 60000 ∧ H l = some (.lst (zs.map V.str)) ∧ l ≠ b ∧ d ≠ b ∧ AnsOf (hide b H) d kvs zs an ∧ kvs.length ≤ 100 ∧
  RowsOk zs ∧ 1 ≤ zs.length ∧ zs.length ≤ 20 ∧ NameZ r ∧ r ∉ zs ∧ ∀ (p : Addr) (H' : Hp) (ts : List Addr), H p = none → H' p = some (.lst (ts.map V.ref)) → (∀ t ∈ ts, OpAt (hid p b H') zs an t) → But b H H' → Q (.ref p) H'
section
variable {P : Program} {w : World} {K : PySem.W.Frag} {mg : Str → Option Value} {base : Heap} {f : Addr} {fd : FuncData}
/-- the changed answers -/
theorem ops_tail {fL : Addr} {fdL : FuncData} {cdv : Value} {A : Around} {outer : List Env} {s : Shared} {H : Hp} {E : XK}
    (GL : FnOk P w K mg base CX0 1 fL fdL ["_law_answer"] (spFullL K)) (gL : mg "_law_full" = some (.ref fL)) (kL : PySem.W.keepIn K (.ref fL) = true) (bL : Binds K fdL ["_law_answer"] [])
    (mr : mg "range" = none) (mI : mg "int" = none) (md : mg "dict" = none) (hr : Room 1 (A.deeper (envOfC "_law_operations" (defScope sOps) s.heap.objs.size f cdv))) :
    ∃ t, PSs (cxOf CX0 P w K mg base nOps "_law_operations" (defScope sOps) f cdv A outer s H E).nox ((defBody sOps).drop 7) t ∧
      ∀ (De : Ends) (x6 x7 x8 x9 x10 : Option V) (b l d D : Addr) (n j : Nat) (r y : Str) (zs : List Str) (kvs : List (Key × V)) (an : Str → List Int) (H0 H1 : Hp) (ts : List Addr), OpsI b D n zs an H0 H1 ts → H0 l = some (.lst (zs.map V.str)) → l ≠ b → d ≠ b → AnsOf (hide b H0) d kvs zs an → kvs.length ≤ 100 → RowsOk zs → zs[j]? = some y → ts.length ≤ 100 →
        (∀ (H' : Hp) (ts' : List Addr), OpsI b D n zs an H0 H' ts' → De.rt (.ref D) H') →
        t De [some (.ref b), some (.ref l), some (.ref d), some (.str r), some (.int (j : Nat)), some (.ref D), x6, x7, x8, x9, x10] H1 := by
  have hu1 : (A.deeper (envOfC "_law_operations" (defScope sOps) s.heap.objs.size f cdv)).units + 1 < cLine := by have := hr.units; omega
  have hu80 : (A.deeper (envOfC "_law_operations" (defScope sOps) s.heap.objs.size f cdv)).units + 64 < cLine := by have := hr.un; omega
  refine ⟨_, pss_cons (ps_for PassesOwn.never rfl (pi_range1 rfl mr (pa_cons pe_int pa_nil)) (pg_name (i := 9) scOps.nd rfl (.inl rfl))
      (pss_cons (ps_set (i := 10) scOps.nd rfl (.inl rfl) (pe_callTy call_dictD (by rfl) md (by decide +kernel) (pa_cons (pv 2) pa_nil)))
      (pss_cons (ps_dput hu1 (pv 10) (pe_ix (r := rIxL K) ix_list (pv 1) (pv 4) (fun _ _ => rfl)) (pv 9) rfl)
      (pss_one (ps_expr (pe_bm PySem.F.plainAttrs_list PySem.F.slot_list_append PySem.F.type_list_append mt_append (pv 5) (pa_cons (pe_tup (pa_cons (pv 1) (pa_cons (pv 10) (pa_cons pe_int (pa_cons
          (pe_callTy call_int1 (by rfl) mI (by decide +kernel) (pa_cons (pe_cmpR (r := rNeD K) (op_neD (by exact hu80)) (pe_call GL hr rfl gL kL bL .nil pass0 (pa_cons (pv 9) pa_nil))
            (pe_call GL hr rfl gL kL bL .nil pass0 (pa_cons (pe_dget hu1 (pv 2) (pe_ix (r := rIxL K) ix_list (pv 1) (pv 4) (fun _ _ => rfl)) (fun _ _ => rfl)) pa_nil)) (nomark _)) pa_nil)) pa_nil))))) pa_nil)))))))
    (pss_one (ps_ret (pv 5))), ?_⟩
  intro De x6 x7 x8 x9 x10 b l d D n j r y zs kvs an H0 H1 ts I el nl nd ha lk ro hy lts q
  refine ⟨4, rfl, by decide, by decide, ?_⟩
  refine for_range (lo := 0) (n := 4) (fun i σ H2 => (∃ ts2 : List Addr, OpsI b D n zs an H0 H2 ts2 ∧ ts2.length ≤ 100 + i) ∧ ∃ y9 y10 : Option V, σ = [some (.ref b), some (.ref l), some (.ref d), some (.str r), some (.int (j : Nat)), some (.ref D), x6, x7, x8, y9, y10]) ?_ ?_ ?_
  · exact ⟨⟨ts, I, lts⟩, _, _, rfl⟩
  · rintro i σ H2 hi ⟨⟨ts2, I2, l2⟩, y9, y10, rfl⟩
    obtain ⟨el2, eh2⟩ := I2.old el nl
    have ha2 := I2.ans ha
    have ed0 : H0 d = some (.dK kvs) := by
      have := ha.d
      rwa [hide_ne nd] at this
    obtain ⟨ed2, _⟩ := I2.old ed0 nd
    refine ⟨_, rfl, d, kvs, rfl, .inl ed2, fun o ho => ?_⟩
    have so := Same.new (o := .dK kvs) ho
    have eo : upd H2 o (.dK kvs) o = some (.dK kvs) := upd_same
    have noD : o ≠ D := fun z => by
      rw [z, I2.eD] at ho
      cases ho
    have nob := box_ne I2.B ho
    have I3 := I2.same so
    generalize upd H2 o (.dK kvs) = H3 at so eo I3 ⊢
    have el3 := so _ _ el2
    have mi : OkI (0 + (i : Int)) := ⟨by omega, by omega⟩
    -- the other answer
    refine ⟨_, rfl, _, rfl, _, rfl, _, rfl, l, _, _, .str y, rfl, rfl, .of el3, atI_nat (by rw [List.getElem?_map, hy] <;> rfl), o, _, rfl, DPut.k (k := Sum.inr y) eo (small1000 (by omega)), ?_⟩
    have kO : But o H3 (upd H3 o (.dK (putK kvs (Sum.inr y) (.int (0 + (i : Int)))))) := But.upd
    have eo4 : upd H3 o (.dK (putK kvs (Sum.inr y) (.int (0 + (i : Int))))) o = some (.dK (putK kvs (Sum.inr y) (.int (0 + (i : Int))))) := upd_same
    have s24 : Same H2 (upd H3 o (.dK (putK kvs (Sum.inr y) (.int (0 + (i : Int)))))) := fun c x e => kO c x (ne_of_none e ho) (so _ _ e)
    generalize upd H3 o (.dK (putK kvs (Sum.inr y) (.int (0 + (i : Int))))) = H4 at eo4 s24 ⊢
    have I4 := I2.same s24
    obtain ⟨el4, eh4⟩ := I4.old el nl
    obtain ⟨ed4, _⟩ := I4.old ed0 nd
    have ha4 := I4.ans ha
    have my := List.mem_of_getElem? hy
    obtain ⟨v, gv, av⟩ := ha4.is y my
    have dg := DGet.k (k := Sum.inr y) ed4
    rw [gv] at dg
    have hs : Same (hid D b H4) H4 := (hide_same _ _).trans (hide_same _ _)
    -- the tuple
    refine ⟨_, rfl, .inl ⟨rfl, _, .of I4.eD⟩, _, rfl, _, rfl, _, rfl, .int (0 + (i : Int)), [0 + (i : Int)], rfl, ⟨.inl ⟨_, rfl, rfl⟩, fun m hm => by rw [List.mem_singleton.mp hm]; exact mi⟩, fun T1 H5 s5 e1 => ?_⟩
    refine ⟨_, rfl, _, rfl, _, rfl, l, _, _, .str y, rfl, rfl, .of (s5 _ _ el4), atI_nat (by rw [List.getElem?_map, hy] <;> rfl), d, v, rfl, ?_, v, an y, rfl, (av.same hs).same s5, fun T2 H6 s6 e2 => ?_⟩
    · have g5 := DGet.k (k := Sum.inr y) (s5 _ _ ed4)
      rw [gv] at g5
      exact g5
    refine ⟨_, _, dp_intT (s6 _ _ e1), dp_intT e2, intT_shaped _, intT_shaped _, .inr ⟨_, rfl, ?_⟩⟩
    rw [intT_eqv]
    have s46 := s5.trans s6
    have I6 := I4.same s46
    have eo6 := s46 _ _ eo4
    have el6 := s46 _ _ el4
    refine ⟨(by show 4 ≤ sizeLine; decide), fun t ht => ?_⟩
    have st := Same.new (o := .tup [.ref l, .ref o, .int 0, .int (if (!decide ([0 + (i : Int)] = an y)) = true then 1 else 0)]) ht
    have et : upd H6 t (.tup [.ref l, .ref o, .int 0, .int (if (!decide ([0 + (i : Int)] = an y)) = true then 1 else 0)]) t = some (.tup [.ref l, .ref o, .int 0, .int (if (!decide ([0 + (i : Int)] = an y)) = true then 1 else 0)]) := upd_same
    have I7 := I6.same st
    have eo7 := st _ _ eo6
    have nt := tup_ne I7.B et
    have ntD : t ≠ D := ne_lst ht I6.eD
    obtain ⟨el7, eh7⟩ := I7.old el nl
    generalize upd H6 t (.tup [.ref l, .ref o, .int 0, .int (if (!decide ([0 + (i : Int)] = an y)) = true then 1 else 0)]) = H7 at st et I7 eo7 nt el7 eh7 ⊢
    refine ⟨D, _, _, rfl, rfl, I7.eD, ?_, ?_⟩
    · rw [List.length_map]
      exact small1000 (by omega)
    · refine ⟨⟨ts2 ++ [t], I7.put ⟨l, o, zs, putK kvs (Sum.inr y) (.int (0 + (i : Int))), an, setA an y [0 + (i : Int)], 0, _, hid_at et nt ntD, eh7, ro, ?_, ?_⟩, by rw [List.length_append, List.length_singleton]; omega⟩, _, _, rfl⟩
      · exact ans_put (I7.ans ha) (Same.refl _) (hid_at eo7 nob noD) ⟨.inl ⟨_, rfl, rfl⟩, fun m hm => by rw [List.mem_singleton.mp hm]; exact mi⟩ fun y hy => .inr hy
      · have f := fit_ans (an := an) (ns := [0 + (i : Int)]) ro.nd hy
        rwa [ite_bnot] 
  · rintro σ H2 ⟨⟨ts2, I2, l2⟩, y9, y10, rfl⟩
    exact ⟨_, rfl, q H2 ts2 I2⟩
end
end G
set_option Elab.async false
set_option linter.all false
set_option maxRecDepth 100000
set_option maxHeartbeats 8000000
/-! S0: _law_operations, from the moves on; the whole. -/
namespace G
open PySem PySem.Spec PyProof.Rows L2 NdefX DvT StX SkL LamX PySem.W
theorem cat_rows {ys zs : List Str} {y : Str} : ys.map V.str ++ [V.str y] ++ zs.map V.str = (ys ++ y :: zs).map V.str := by
  rw [List.map_append, List.map_cons, List.append_assoc]
  rfl
section
variable {P : Program} {w : World} {K : PySem.W.Frag} {mg : Str → Option Value} {base : Heap} {f : Addr} {fd : FuncData}
/-- the moves, the changed answers -/
theorem ops_mid {fL fT : Addr} {fdL fdT : FuncData} {cdv : Value} {A : Around} {outer : List Env} {s : Shared} {H : Hp} {E : XK}
    (GL : FnOk P w K mg base CX0 1 fL fdL ["_law_answer"] (spFullL K)) (gL : mg "_law_full" = some (.ref fL)) (kL : PySem.W.keepIn K (.ref fL) = true) (bL : Binds K fdL ["_law_answer"] [])
    (FT : Fun K "_law_take" "_law_take" sTake fT fdT) (bT : Binds K fdT ["_law_box_here", "_law_many"] []) (gT : mg "_law_take" = some (.ref fT))
    (ml : mg "len" = none) (mr : mg "range" = none) (mI : mg "int" = none) (md : mg "dict" = none) (hr : Room 1 (A.deeper (envOfC "_law_operations" (defScope sOps) s.heap.objs.size f cdv))) :
    ∃ t, PSs (cxOf CX0 P w K mg base nOps "_law_operations" (defScope sOps) f cdv A outer s H E).nox ((defBody sOps).drop 4) t ∧
      ∀ (De : Ends) (x4 x6 x7 x8 x9 x10 : Option V) (b l d D : Addr) (n : Nat) (r : Str) (zs : List Str) (kvs : List (Key × V)) (an : Str → List Int) (H0 H1 : Hp) (ts : List Addr), OpsI b D n zs an H0 H1 ts → n ≤ 90000 → H0 l = some (.lst (zs.map V.str)) → l ≠ b → d ≠ b → AnsOf (hide b H0) d kvs zs an → kvs.length ≤ 100 → RowsOk zs → 1 ≤ zs.length → ts.length ≤ 60 → zs.length ≤ 20 →
        (∀ (H' : Hp) (ts' : List Addr) (n' : Nat), OpsI b D n' zs an H0 H' ts' → De.rt (.ref D) H') →
        t De [some (.ref b), some (.ref l), some (.ref d), some (.str r), x4, some (.ref D), x6, x7, x8, x9, x10] H1 := by
  have GT : FnOk P w K mg base CX0 1 fT fdT ["_law_box_here", "_law_many"] spTake := ok_take FT
  obtain ⟨tz, pz, qz⟩ := ops_tail (P := P) (w := w) (base := base) (outer := outer) (H := H) (E := E) (cdv := cdv) (s := s) (f := f) GL gL kL bL mr mI md hr
  refine ⟨_, pss_cons (ps_set (i := 4) scOps.nd rfl (.inl rfl) (pe_call GT hr rfl gT FT.kp bT .nil pass0 (pa_cons (pv 0) (pa_cons (pe_callB call_len_seq (by rfl) ml PySem.boot_len (pa_cons (pv 1) pa_nil)) pa_nil))))
      (pss_cons (ps_set (i := 7) scOps.nd rfl (.inl rfl) (pe_op op_cat (pe_slice (r := rSlL K) sl_list (pv 1) po_none (po_some (pv 4))) (pe_slice (r := rSlL K) sl_list (pv 1) (po_some (pe_op op_add (pv 4) pe_int)) po_none)))
      (pss_cons (ps_for PassesOwn.never rfl (pi_range1 rfl mr (pa_cons (pe_callB call_len_seq (by rfl) ml PySem.boot_len (pa_cons (pv 1) pa_nil)) pa_nil)) (pg_name (i := 8) scOps.nd rfl (.inl rfl))
        (pss_one (ps_expr (pe_bm PySem.F.plainAttrs_list PySem.F.slot_list_append PySem.F.type_list_append mt_append (pv 5) (pa_cons (pe_tup (pa_cons
          (pe_op op_cat (pe_op op_cat (pe_slice (r := rSlL K) sl_list (pv 7) po_none (po_some (pv 8))) (pe_lst (pa_cons (pe_ix (r := rIxL K) ix_list (pv 1) (pv 4) (fun _ _ => rfl)) pa_nil))) (pe_slice (r := rSlL K) sl_list (pv 7) (po_some (pv 8)) po_none))
          (pa_cons (pv 2) (pa_cons (pe_callTy call_int1 (by rfl) mI (by decide +kernel) (pa_cons (pe_cmpR op_ne (pv 8) (pv 4) (nomark _)) pa_nil)) (pa_cons pe_int pa_nil))))) pa_nil)))))
      pz)), ?_⟩
  intro De x4 x6 x7 x8 x9 x10 b l d D n r zs kvs an H0 H1 ts I hn el nl nd ha lk ro l1 lts l20 q
  obtain ⟨el1, eh1⟩ := I.old el nl
  refine ⟨_, rfl, _, rfl, l, _, rfl, .inl (.of el1), b, _, n, rfl, I.B, by omega, ?_, ?_, fun j0 H2 j00 j01 B2 k2 => ?_⟩
  · rw [List.length_map]
    omega
  · rw [List.length_map]
    exact Int.lt_of_le_of_lt (show ((zs.length : Nat) : Int) ≤ 20 by omega) (by decide)
  obtain ⟨j, rfl, hj⟩ := draw_at (n := zs.length) j00 j01 (by rw [List.length_map])
  obtain ⟨y, hy⟩ : ∃ y, zs[j]? = some y := ⟨_, List.getElem?_eq_getElem hj⟩
  have I2 := I.but k2 B2
  obtain ⟨el2, eh2⟩ := I2.old el nl
  -- the rest
  refine ⟨_, rfl, _, rfl, _, rfl, l, _, rfl, .of el2, fun c1 hc1 => ?_⟩
  rw [cutV_takeZ, ← List.map_take]
  have s3 := Same.new (o := .lst ((zs.take j).map V.str)) hc1
  have e3 : upd H2 c1 (.lst ((zs.take j).map V.str)) c1 = some (.lst ((zs.take j).map V.str)) := upd_same
  generalize upd H2 c1 (.lst ((zs.take j).map V.str)) = H3 at s3 e3 ⊢
  refine ⟨_, rfl, _, rfl, _, _, rfl, rfl, _, rfl, l, _, rfl, .of (s3 _ _ el2), fun c2 hc2 => ?_⟩
  rw [show ((j : Int) + 1) = ((j + 1 : Nat) : Int) by omega, cutV_fromZ _ _ (by rw [List.length_map]; omega), ← List.map_drop]
  have s4 := Same.new (o := .lst ((zs.drop (j + 1)).map V.str)) hc2
  have e4 : upd H3 c2 (.lst ((zs.drop (j + 1)).map V.str)) c2 = some (.lst ((zs.drop (j + 1)).map V.str)) := upd_same
  generalize upd H3 c2 (.lst ((zs.drop (j + 1)).map V.str)) = H4 at s4 e4 ⊢
  refine ⟨c1, c2, _, _, rfl, rfl, s4 _ _ e3, e4, ?_, fun R hR => ?_⟩
  · rw [List.length_map, List.length_map, List.length_take, List.length_drop]
    exact Nat.le_of_lt (small1000 (by omega))
  have s5 := Same.new (o := .lst ((zs.take j).map V.str ++ (zs.drop (j + 1)).map V.str)) hR
  have e5 : upd H4 R (.lst ((zs.take j).map V.str ++ (zs.drop (j + 1)).map V.str)) R = some (.lst ((zs.take j ++ zs.drop (j + 1)).map V.str)) := by rw [upd_same, List.map_append]
  have s25 := s3.trans (s4.trans s5)
  generalize upd H4 R (.lst ((zs.take j).map V.str ++ (zs.drop (j + 1)).map V.str)) = H5 at s5 e5 s25 ⊢
  have I5 := I2.same s25
  have nRD : R ≠ D := fun z => by
    have := (s3.trans s4) _ _ I2.eD
    rw [← z, hR] at this
    cases this
  have lR : (zs.take j ++ zs.drop (j + 1)).length + 1 = zs.length := by
    rw [List.length_append, List.length_take, List.length_drop]
    omega
  obtain ⟨el5, eh5⟩ := I5.old el nl
  refine ⟨_, rfl, l, _, rfl, .inl (.of el5), (((zs.map V.str).length : Nat) : Int), rfl, by rw [List.length_map]; omega, by rw [List.length_map]; omega, ?_⟩
  rw [List.length_map, Int.toNat_natCast]
  refine for_range (lo := 0) (n := zs.length) (fun i σ H6 => (∃ ts2 : List Addr, OpsI b D (n + 1) zs an H0 H6 ts2 ∧ ts2.length ≤ 60 + i ∧ H6 R = some (.lst ((zs.take j ++ zs.drop (j + 1)).map V.str))) ∧ ∃ y8 : Option V, σ = [some (.ref b), some (.ref l), some (.ref d), some (.str r), some (.int (j : Nat)), some (.ref D), x6, some (.ref R), y8, x9, x10]) ?_ ?_ ?_
  · exact ⟨⟨ts, I5, by omega, e5⟩, _, rfl⟩
  · rintro i σ H6 hi ⟨⟨ts2, I6, l2, e6⟩, y8, rfl⟩
    rw [Int.zero_add]
    obtain ⟨el6, eh6⟩ := I6.old el nl
    refine ⟨_, rfl, .inl ⟨rfl, _, .of I6.eD⟩, ?_⟩
    refine ⟨_, rfl, _, rfl, _, rfl, R, _, rfl, .of e6, fun a1 ha1 => ?_⟩
    rw [cutV_takeZ, ← List.map_take]
    have t7 := Same.new (o := .lst (((zs.take j ++ zs.drop (j + 1)).take i).map V.str)) ha1
    have e7 : upd H6 a1 (.lst (((zs.take j ++ zs.drop (j + 1)).take i).map V.str)) a1 = some (.lst (((zs.take j ++ zs.drop (j + 1)).take i).map V.str)) := upd_same
    generalize upd H6 a1 (.lst (((zs.take j ++ zs.drop (j + 1)).take i).map V.str)) = H7 at t7 e7 ⊢
    refine ⟨_, rfl, _, rfl, l, _, _, .str y, rfl, rfl, .of (t7 _ _ el6), atI_nat (by rw [List.getElem?_map, hy] <;> rfl), (by show 1 ≤ sizeLine; decide), fun a2 ha2 => ?_⟩
    have t8 := Same.new (o := .lst [.str y]) ha2
    have e8 : upd H7 a2 (.lst [.str y]) a2 = some (.lst [.str y]) := upd_same
    generalize upd H7 a2 (.lst [.str y]) = H8 at t8 e8 ⊢
    refine ⟨a1, a2, _, _, rfl, rfl, t8 _ _ e7, e8, ?_, fun a3 ha3 => ?_⟩
    · rw [List.length_map, List.length_take]
      exact Nat.le_of_lt (small1000 (by show _ + 1 ≤ 1000; omega))
    have t9 := Same.new (o := .lst (((zs.take j ++ zs.drop (j + 1)).take i).map V.str ++ [.str y])) ha3
    have e9 : upd H8 a3 (.lst (((zs.take j ++ zs.drop (j + 1)).take i).map V.str ++ [.str y])) a3 = some (.lst (((zs.take j ++ zs.drop (j + 1)).take i).map V.str ++ [.str y])) := upd_same
    have s69 := t7.trans (t8.trans t9)
    generalize upd H8 a3 (.lst (((zs.take j ++ zs.drop (j + 1)).take i).map V.str ++ [.str y])) = H9 at t9 e9 s69 ⊢
    refine ⟨_, rfl, _, rfl, _, rfl, R, _, rfl, .of (s69 _ _ e6), fun a4 ha4 => ?_⟩
    rw [cutV_fromZ _ _ (by rw [List.length_map]; omega), ← List.map_drop]
    have t10 := Same.new (o := .lst (((zs.take j ++ zs.drop (j + 1)).drop i).map V.str)) ha4
    have e10 : upd H9 a4 (.lst (((zs.take j ++ zs.drop (j + 1)).drop i).map V.str)) a4 = some (.lst (((zs.take j ++ zs.drop (j + 1)).drop i).map V.str)) := upd_same
    have s610 := s69.trans t10
    generalize upd H9 a4 (.lst (((zs.take j ++ zs.drop (j + 1)).drop i).map V.str)) = Ha at t10 e10 s610 ⊢
    refine ⟨a3, a4, _, _, rfl, rfl, t10 _ _ e9, e10, ?_, fun L hL => ?_⟩
    · rw [List.length_append, List.length_map, List.length_map, List.length_take, List.length_drop]
      exact Nat.le_of_lt (small1000 (by show _ + 1 + _ ≤ 1000; omega))
    rw [cat_rows]
    have t11 := Same.new (o := .lst (((zs.take j ++ zs.drop (j + 1)).take i ++ y :: (zs.take j ++ zs.drop (j + 1)).drop i).map V.str)) hL
    have e11 : upd Ha L (.lst (((zs.take j ++ zs.drop (j + 1)).take i ++ y :: (zs.take j ++ zs.drop (j + 1)).drop i).map V.str)) L = some (.lst (((zs.take j ++ zs.drop (j + 1)).take i ++ y :: (zs.take j ++ zs.drop (j + 1)).drop i).map V.str)) := upd_same
    have Ia := I6.same s610
    have nLb := box_ne Ia.B hL
    have nLD : L ≠ D := ne_lst hL Ia.eD
    have s6b := s610.trans t11
    generalize upd Ha L (.lst (((zs.take j ++ zs.drop (j + 1)).take i ++ y :: (zs.take j ++ zs.drop (j + 1)).drop i).map V.str)) = Hb at t11 e11 s6b ⊢
    have Ib := I6.same s6b
    refine ⟨_, rfl, _, rfl, _, rfl, rfl, .inr ⟨_, rfl, (by show 4 ≤ sizeLine; decide), fun t ht => ?_⟩⟩
    have ntD : t ≠ D := ne_lst ht Ib.eD
    have nt := box_ne Ib.B ht
    have t12 := Same.new (o := .tup [.ref L, .ref d, .int (if (!decide (V.int (i : Nat) = V.int (j : Nat))) = true then 1 else 0), .int 0]) ht
    have et : upd Hb t (.tup [.ref L, .ref d, .int (if (!decide (V.int (i : Nat) = V.int (j : Nat))) = true then 1 else 0), .int 0]) t = some (.tup [.ref L, .ref d, .int (if (!decide (V.int (i : Nat) = V.int (j : Nat))) = true then 1 else 0), .int 0]) := upd_same
    have Ic := Ib.same t12
    have e12 := t12 _ _ e11
    have s6c := s6b.trans t12
    generalize upd Hb t (.tup [.ref L, .ref d, .int (if (!decide (V.int (i : Nat) = V.int (j : Nat))) = true then 1 else 0), .int 0]) = Hc at et Ic e12 s6c ⊢
    have fm := fit_move (an := an) ro.nd hy (j := i) (by omega)
    have ei : (if (!decide (V.int (i : Nat) = V.int (j : Nat))) = true then (1 : Int) else 0) = if decide (i = j) = true then 0 else 1 := by
      rw [ite_bnot, decide_eq_decide.mpr (show V.int (i : Nat) = V.int (j : Nat) ↔ i = j from ⟨fun h => by have := V.int.inj h; omega, fun h => by rw [h]⟩)]
    rw [ei] at et
    refine ⟨D, _, _, rfl, rfl, Ic.eD, ?_, ?_⟩
    · rw [List.length_map]
      exact small1000 (by omega)
    refine ⟨⟨ts2 ++ [t], Ic.put ⟨L, d, _, kvs, an, an, _, 0, hid_at et nt ntD, hid_at e12 nLb nLD, ?_, ?_, fm⟩, by rw [List.length_append, List.length_singleton]; omega, ?_⟩, _, rfl⟩
    · have o := out_of ro.nd hy
      exact rows_in (rows_out ro) (by omega) (ro.nm y (List.mem_of_getElem? hy)) o.1
    · obtain ⟨h1, h2⟩ := Ic.ans ha
      refine ⟨h1, fun z hz => h2 z ?_⟩
      have o := List.perm_middle (a := y) (l₁ := (zs.take j ++ zs.drop (j + 1)).take i) (l₂ := (zs.take j ++ zs.drop (j + 1)).drop i)
      rcases List.mem_cons.mp (o.mem_iff.mp hz) with e | e
      · rw [e]
        exact List.mem_of_getElem? hy
      · rw [List.take_append_drop] at e
        rcases List.mem_append.mp e with e | e
        · exact List.mem_of_mem_take e
        · exact List.mem_of_mem_drop e
    · exact (upd_ne nRD).trans (s6c _ _ e6)
  · rintro σ H6 ⟨⟨ts2, I6, l2, e6⟩, y8, rfl⟩
    exact qz De x6 _ y8 x9 x10 b l d D (n + 1) j r y zs kvs an H0 H6 ts2 I6 el nl nd ha lk ro hy (by omega) fun H' ts' I' => q H' ts' (n + 1) I'
end
end G
set_option Elab.async false
set_option linter.all false
set_option maxRecDepth 100000
set_option maxHeartbeats 8000000
/-! S1: _law_operations. -/
namespace G
open PySem PySem.Spec PyProof.Rows L2 NdefX DvT StX SkL LamX PySem.W
section
variable {P : Program} {w : World} {K : PySem.W.Frag} {mg : Str → Option Value} {base : Heap} {f : Addr} {fd : FuncData}
theorem ok_ops {fL fT : Addr} {fdL fdT : FuncData} (F : Fun K "_law_operations" "_law_operations" sOps f fd)
    (GL : FnOk P w K mg base CX0 1 fL fdL ["_law_answer"] (spFullL K)) (gL : mg "_law_full" = some (.ref fL)) (kL : PySem.W.keepIn K (.ref fL) = true) (bL : Binds K fdL ["_law_answer"] [])
    (FT : Fun K "_law_take" "_law_take" sTake fT fdT) (bT : Binds K fdT ["_law_box_here", "_law_many"] []) (gT : mg "_law_take" = some (.ref fT))
    (ml : mg "len" = none) (mr : mg "range" = none) (mI : mg "int" = none) (md : mg "dict" = none) : FnOk P w K mg base CX0 2 f fd ["_law_box_here", "_law_rows", "_law_answers", "_law_fresh"] (spOps K) := by
  have GT : FnOk P w K mg base CX0 1 fT fdT ["_law_box_here", "_law_many"] spTake := ok_take FT
  refine F.ok scOps (fun vs H Q E h => ?_) (fun cdv A outer s H vs Q E hr h => ?_)
  · obtain ⟨b, l, d, n, zs, kvs, an, r, rfl, _⟩ := h
    rfl
  · obtain ⟨b, l, d, n, zs, kvs, an, r, rfl, B, hn, el, nl, nd, ha, lk, ro, l1, l20, hz, out, q⟩ := h
    have hu1 : (A.deeper (envOfC "_law_operations" (defScope sOps) s.heap.objs.size f cdv)).units + 1 < cLine := by have := hr.units; omega
    obtain ⟨tz, pz, qz⟩ := ops_mid (P := P) (w := w) (base := base) (outer := outer) (H := H) (E := E) (cdv := cdv) (s := s) (f := f) GL gL kL bL FT bT gT ml mr mI md hr
    refine ⟨_, pss_cons (ps_setLc (i := 5) (own := [("_law_at", 4)]) (g := gName 4) (tt := tYes) (by rfl) scOps.nd rfl rfl (sw_true rfl rfl rfl (by decide +kernel)) (pi_range1 rfl mr (pa_cons (pe_callB call_len_seq (by rfl) ml PySem.boot_len (pa_cons (pv 1) pa_nil)) pa_nil))
        (blkOk_by (own := [("_law_at", 4)]) (N := nOps) (sc := defScope sOps) (by decide +kernel)) (fun _ _ _ _ _ => pg_name (i := 4) scOps.nd rfl (.inl rfl)) (fun _ _ _ _ _ => pts_nil)
        (fun _ _ _ _ _ => pe_tup (pa_cons (pe_op op_cat (pe_slice (r := rSlL K) sl_list (pv 1) po_none (po_some (pv 4))) (pe_slice (r := rSlL K) sl_list (pv 1) (po_some (pe_op op_add (pv 4) pe_int)) po_none)) (pa_cons (pv 2) (pa_cons pe_int (pa_cons pe_int pa_nil))))))
      (pss_cons (ps_set (i := 6) scOps.nd rfl (.inl rfl) (pe_callTy call_dictD (by rfl) md (by decide +kernel) (pa_cons (pv 2) pa_nil)))
      (pss_cons (ps_dput hu1 (pv 6) (pv 3) (pe_call GT hr rfl gT FT.kp bT .nil pass0 (pa_cons (pv 0) (pa_cons pe_int pa_nil))) rfl)
      (pss_cons (ps_for PassesOwn.never rfl (pi_range1 rfl mr (pa_cons (pe_op op_add (pe_callB call_len_seq (by rfl) ml PySem.boot_len (pa_cons (pv 1) pa_nil)) pe_int) pa_nil)) (pg_name (i := 4) scOps.nd rfl (.inl rfl))
        (pss_one (ps_expr (pe_bm PySem.F.plainAttrs_list PySem.F.slot_list_append PySem.F.type_list_append mt_append (pv 5) (pa_cons (pe_tup (pa_cons
          (pe_op op_cat (pe_op op_cat (pe_slice (r := rSlL K) sl_list (pv 1) po_none (po_some (pv 4))) (pe_lst (pa_cons (pv 3) pa_nil))) (pe_slice (r := rSlL K) sl_list (pv 1) (po_some (pv 4)) po_none))
          (pa_cons (pv 6) (pa_cons pe_int (pa_cons pe_int pa_nil))))) pa_nil)))))
      pz))), ?_⟩
    have ed : H d = some (.dK kvs) := by
      have := ha.d
      rwa [hide_ne nd] at this
    refine ⟨_, rfl, l, _, rfl, .inl (.of el), (((zs.map V.str).length : Nat) : Int), rfl, by rw [List.length_map]; omega, by rw [List.length_map]; omega, fun D hD => ?_⟩
    rw [List.length_map, Int.toNat_natCast]
    have nDb := box_ne B hD
    refine lc_range (lo := 0) (n := zs.length) (fun i H1 => ∃ ts : List Addr, OpsI b D n zs an H H1 ts ∧ ts.length = i) ?_ ?_ ?_
    · exact ⟨[], ⟨hD, nDb, But.new hD, box_new B hD, upd_same, fun _ h => nomatch h⟩, rfl⟩
    · rintro i H1 hi ⟨ts, I, lts⟩
      rw [Int.zero_add]
      obtain ⟨el1, eh1⟩ := I.old el nl
      obtain ⟨y, hy⟩ : ∃ y, zs[i]? = some y := ⟨_, List.getElem?_eq_getElem hi⟩
      refine ⟨rfl, ?_⟩
      unfold tYes
      dsimp only
      rw [if_pos rfl]
      refine ⟨_, rfl, _, rfl, _, rfl, l, _, rfl, .of el1, fun c1 hc1 => ?_⟩
      rw [cutV_takeZ, ← List.map_take]
      have s3 := Same.new (o := .lst ((zs.take i).map V.str)) hc1
      have e3 : upd H1 c1 (.lst ((zs.take i).map V.str)) c1 = some (.lst ((zs.take i).map V.str)) := upd_same
      generalize upd H1 c1 (.lst ((zs.take i).map V.str)) = H3 at s3 e3 ⊢
      refine ⟨_, rfl, _, rfl, _, _, rfl, rfl, _, rfl, l, _, rfl, .of (s3 _ _ el1), fun c2 hc2 => ?_⟩
      rw [show ((i : Int) + 1) = ((i + 1 : Nat) : Int) by omega, cutV_fromZ _ _ (by rw [List.length_map]; omega), ← List.map_drop]
      have s4 := Same.new (o := .lst ((zs.drop (i + 1)).map V.str)) hc2
      have e4 : upd H3 c2 (.lst ((zs.drop (i + 1)).map V.str)) c2 = some (.lst ((zs.drop (i + 1)).map V.str)) := upd_same
      generalize upd H3 c2 (.lst ((zs.drop (i + 1)).map V.str)) = H4 at s4 e4 ⊢
      refine ⟨c1, c2, _, _, rfl, rfl, s4 _ _ e3, e4, ?_, fun L hL => ?_⟩
      · rw [List.length_map, List.length_map, List.length_take, List.length_drop]
        exact Nat.le_of_lt (small1000 (by omega))
      have s5 := Same.new (o := .lst ((zs.take i).map V.str ++ (zs.drop (i + 1)).map V.str)) hL
      have e5 : upd H4 L (.lst ((zs.take i).map V.str ++ (zs.drop (i + 1)).map V.str)) L = some (.lst ((zs.take i ++ zs.drop (i + 1)).map V.str)) := by rw [upd_same, List.map_append]
      have s35 := s3.trans (s4.trans s5)
      have I4 := I.same (s3.trans s4)
      have nLb := box_ne I4.B hL
      have nLD : L ≠ D := ne_lst hL I4.eD
      generalize upd H4 L (.lst ((zs.take i).map V.str ++ (zs.drop (i + 1)).map V.str)) = H5 at s5 e5 s35 ⊢
      have I5 := I.same s35
      refine ⟨_, rfl, (by show 4 ≤ sizeLine; decide), fun t ht => ?_⟩
      have ntD : t ≠ D := ne_lst ht I5.eD
      have nt := box_ne I5.B ht
      have t12 := Same.new (o := .tup [.ref L, .ref d, .int 1, .int 0]) ht
      have et : upd H5 t (.tup [.ref L, .ref d, .int 1, .int 0]) t = some (.tup [.ref L, .ref d, .int 1, .int 0]) := upd_same
      have I6 := I5.same t12
      have e6 := t12 _ _ e5
      generalize upd H5 t (.tup [.ref L, .ref d, .int 1, .int 0]) = H6 at et I6 e6 ⊢
      refine ⟨_, I6.eD, ?_, ts ++ [t], I6.put ⟨L, d, _, kvs, an, an, 1, 0, hid_at et nt ntD, hid_at e6 nLb nLD, rows_out ro, ?_, fit_out ro.nd hy⟩, by rw [List.length_append, List.length_singleton, lts]⟩
      · rw [List.length_map]
        exact small1000 (by omega)
      · obtain ⟨h1, h2⟩ := I6.ans ha
        refine ⟨h1, fun z hz => h2 z ?_⟩
        rcases List.mem_append.mp hz with e | e
        · exact List.mem_of_mem_take e
        · exact List.mem_of_mem_drop e
    rintro H1 ⟨ts, I1, lts⟩
    -- the fresh row's answer
    obtain ⟨ed1, _⟩ := I1.old ed nd
    refine ⟨_, rfl, d, kvs, rfl, .inl ed1, fun m hm => ?_⟩
    have s2 := Same.new (o := .dK kvs) hm
    have em : upd H1 m (.dK kvs) m = some (.dK kvs) := upd_same
    have nmb := box_ne I1.B hm
    have nmD : m ≠ D := ne_lst hm I1.eD
    generalize upd H1 m (.dK kvs) = H2 at s2 em ⊢
    have I2 := I1.same s2
    refine ⟨_, rfl, b, 3, n, rfl, I2.B, by omega, by decide, by decide, fun a H3 a0 a1 B3 k3 => ?_⟩
    have em3 := k3 _ _ nmb em
    refine ⟨_, rfl, _, rfl, m, _, rfl, DPut.k (k := Sum.inr r) em3 (small1000 (by omega)), ?_⟩
    have kO : But m H3 (upd H3 m (.dK (putK kvs (Sum.inr r) (.int a)))) := But.upd
    have em4 : upd H3 m (.dK (putK kvs (Sum.inr r) (.int a))) m = some (.dK (putK kvs (Sum.inr r) (.int a))) := upd_same
    have k14 : But b H1 (upd H3 m (.dK (putK kvs (Sum.inr r) (.int a)))) := fun c x nc e => kO c x (ne_of_none e hm) (k3 _ _ nc (s2 _ _ e))
    have B4 : BoxAt (upd H3 m (.dK (putK kvs (Sum.inr r) (.int a)))) b (n + 1) := box_upd B3 nmb
    generalize upd H3 m (.dK (putK kvs (Sum.inr r) (.int a))) = H4 at em4 k14 B4 ⊢
    have I4 := I1.but k14 B4
    obtain ⟨el4, eh4⟩ := I4.old el nl
    -- the row comes
    refine ⟨_, rfl, l, _, rfl, .inl (.of el4), _, _, rfl, rfl, (((zs.map V.str).length : Nat) : Int) + 1, rfl, by rw [List.length_map]; omega, by rw [List.length_map]; omega, ?_⟩
    rw [List.length_map, show (((zs.length : Nat) : Int) + 1).toNat = zs.length + 1 by omega]
    refine for_range (lo := 0) (n := zs.length + 1) (fun i σ H6 => (∃ ts2 : List Addr, OpsI b D (n + 1) zs an H H6 ts2 ∧ ts2.length = zs.length + i ∧ H6 m = some (.dK (putK kvs (Sum.inr r) (.int a)))) ∧ ∃ y4 : Option V, σ = [some (.ref b), some (.ref l), some (.ref d), some (.str r), y4, some (.ref D), some (.ref m), none, none, none, none]) ?_ ?_ ?_
    · exact ⟨⟨ts, I4, lts, em4⟩, _, rfl⟩
    · rintro i σ H6 hi ⟨⟨ts2, I6, l2, e6⟩, y4, rfl⟩
      rw [Int.zero_add]
      obtain ⟨el6, eh6⟩ := I6.old el nl
      refine ⟨_, rfl, .inl ⟨rfl, _, .of I6.eD⟩, ?_⟩
      refine ⟨_, rfl, _, rfl, _, rfl, l, _, rfl, .of el6, fun a1 ha1 => ?_⟩
      rw [cutV_takeZ, ← List.map_take]
      have t7 := Same.new (o := .lst ((zs.take i).map V.str)) ha1
      have e7 : upd H6 a1 (.lst ((zs.take i).map V.str)) a1 = some (.lst ((zs.take i).map V.str)) := upd_same
      generalize upd H6 a1 (.lst ((zs.take i).map V.str)) = H7 at t7 e7 ⊢
      refine ⟨_, rfl, (by show 1 ≤ sizeLine; decide), fun a2 ha2 => ?_⟩
      have t8 := Same.new (o := .lst [.str r]) ha2
      have e8 : upd H7 a2 (.lst [.str r]) a2 = some (.lst [.str r]) := upd_same
      generalize upd H7 a2 (.lst [.str r]) = H8 at t8 e8 ⊢
      refine ⟨a1, a2, _, _, rfl, rfl, t8 _ _ e7, e8, ?_, fun a3 ha3 => ?_⟩
      · rw [List.length_map, List.length_take]
        exact Nat.le_of_lt (small1000 (by show _ + 1 ≤ 1000; omega))
      have t9 := Same.new (o := .lst ((zs.take i).map V.str ++ [.str r])) ha3
      have e9 : upd H8 a3 (.lst ((zs.take i).map V.str ++ [.str r])) a3 = some (.lst ((zs.take i).map V.str ++ [.str r])) := upd_same
      have s69 := t7.trans (t8.trans t9)
      generalize upd H8 a3 (.lst ((zs.take i).map V.str ++ [.str r])) = H9 at t9 e9 s69 ⊢
      refine ⟨_, rfl, _, rfl, _, rfl, l, _, rfl, .of (s69 _ _ el6), fun a4 ha4 => ?_⟩
      rw [cutV_fromZ _ _ (by rw [List.length_map]; omega), ← List.map_drop]
      have t10 := Same.new (o := .lst ((zs.drop i).map V.str)) ha4
      have e10 : upd H9 a4 (.lst ((zs.drop i).map V.str)) a4 = some (.lst ((zs.drop i).map V.str)) := upd_same
      have s610 := s69.trans t10
      generalize upd H9 a4 (.lst ((zs.drop i).map V.str)) = Ha at t10 e10 s610 ⊢
      refine ⟨a3, a4, _, _, rfl, rfl, t10 _ _ e9, e10, ?_, fun L hL => ?_⟩
      · rw [List.length_append, List.length_map, List.length_map, List.length_take, List.length_drop]
        exact Nat.le_of_lt (small1000 (by show _ + 1 + _ ≤ 1000; omega))
      rw [cat_rows]
      have t11 := Same.new (o := .lst ((zs.take i ++ r :: zs.drop i).map V.str)) hL
      have e11 : upd Ha L (.lst ((zs.take i ++ r :: zs.drop i).map V.str)) L = some (.lst ((zs.take i ++ r :: zs.drop i).map V.str)) := upd_same
      have Ia := I6.same s610
      have nLb := box_ne Ia.B hL
      have nLD : L ≠ D := ne_lst hL Ia.eD
      have s6b := s610.trans t11
      generalize upd Ha L (.lst ((zs.take i ++ r :: zs.drop i).map V.str)) = Hb at t11 e11 s6b ⊢
      have Ib := I6.same s6b
      refine ⟨_, rfl, (by show 4 ≤ sizeLine; decide), fun t ht => ?_⟩
      have ntD : t ≠ D := ne_lst ht Ib.eD
      have nt := box_ne Ib.B ht
      have t12 := Same.new (o := .tup [.ref L, .ref m, .int 1, .int 0]) ht
      have et : upd Hb t (.tup [.ref L, .ref m, .int 1, .int 0]) t = some (.tup [.ref L, .ref m, .int 1, .int 0]) := upd_same
      have Ic := Ib.same t12
      have e12 := t12 _ _ e11
      have s6c := s6b.trans t12
      generalize upd Hb t (.tup [.ref L, .ref m, .int 1, .int 0]) = Hc at et Ic e12 s6c ⊢
      refine ⟨D, _, _, rfl, rfl, Ic.eD, ?_, ?_⟩
      · rw [List.length_map]
        exact small1000 (by omega)
      refine ⟨⟨ts2 ++ [t], Ic.put ⟨L, m, _, putK kvs (Sum.inr r) (.int a), setA an r [a], setA an r [a], 1, 0, hid_at et nt ntD, hid_at e12 nLb nLD, rows_in ro (by omega) hz out, ans_put (Ic.ans ha) (Same.refl _) (hid_at (s6c _ _ e6) nmb nmD) ⟨.inl ⟨_, rfl, rfl⟩, fun x hx => by rw [List.mem_singleton.mp hx]; exact ⟨by omega, by omega⟩⟩ ?_, fit_in ro.nd out (by omega)⟩, by rw [List.length_append, List.length_singleton]; omega, ?_⟩, _, rfl⟩
      · intro z hz
        rcases List.mem_append.mp hz with e | e
        · exact .inr (List.mem_of_mem_take e)
        · rcases List.mem_cons.mp e with e | e
          · exact .inl e
          · exact .inr (List.mem_of_mem_drop e)
      · exact (upd_ne nmD).trans (s6c _ _ e6)
    · rintro σ H6 ⟨⟨ts2, I6, l2, e6⟩, y4, rfl⟩
      exact qz _ y4 _ none none none none b l d D (n + 1) r zs kvs an H H6 ts2 I6 (by omega) el nl nd ha lk ro l1 (by omega) l20 fun H' ts' n' I' => q D H' ts' hD I'.eD I'.ok I'.k
end
end G
set_option Elab.async false
set_option linter.all false
set_option maxRecDepth 100000
set_option maxHeartbeats 4000000
/-! S2: what _law_right asks of the views; its inner body. -/
namespace G
open PySem PySem.Spec PyProof.Rows L2 NdefX DvT StX SkL LamX PySem.W
theorem sqL_extX {K : PySem.W.Frag} {H H' : Hp} {l : Addr} {xs : List V} (s : ExtN H H') : SqL K H l xs → SqL K H' l xs
  | .inl (.inl h) => .inl (.inl (s _ _ h fun _ z => nomatch z))
  | .inl (.inr ⟨o, h⟩) => .inl (.inr ⟨o, s _ _ h fun _ z => nomatch z⟩)
  | .inr h => .inr h
theorem sqT_extX {K : PySem.W.Frag} {H H' : Hp} {l : Addr} {xs : List V} (s : ExtN H H') : SqT K H l xs → SqT K H' l xs
  | .inl (.inl h) => .inl (.inl (s _ _ h fun _ z => nomatch z))
  | .inl (.inr ⟨o, h⟩) => .inl (.inr ⟨o, s _ _ h fun _ z => nomatch z⟩)
  | .inr h => .inr h
mutual
theorem dp_extX {K : PySem.W.Frag} {H H' : Hp} (s : ExtN H H') : ∀ {v : V} {d : PyData}, Dp K H v d → Dp K H' v d
  | _, _, .non => .non
  | _, _, .bl b => .bl b
  | _, _, .int i => .int i
  | _, _, .str x => .str x
  | _, _, .lst a b => .lst (sqL_extX s a) (dpAll_extX s b)
  | _, _, .tup a b => .tup (sqT_extX s a) (dpAll_extX s b)
theorem dpAll_extX {K : PySem.W.Frag} {H H' : Hp} (s : ExtN H H') : ∀ {vs : List V} {ds : List PyData}, DpAll K H vs ds → DpAll K H' vs ds
  | _, _, .nil => .nil
  | _, _, .cons a b => .cons (dp_extX s a) (dpAll_extX s b)
end
theorem ImAt.ext {K : PySem.W.Frag} {H H' : Hp} {l : Addr} {xs : List Im} (h : ImAt K H l xs) (s : ExtN H H') : ImAt K H' l xs := let ⟨vs, a, b⟩ := h; ⟨vs, sqL_extX s a, dpAll_extX s b⟩
theorem sorted_mem {an : Str → List Int} {zs : List Str} {z : Str} (h : z ∈ sortedBy an zs) : z ∈ zs := (List.mergeSort_perm _ _).mem_iff.mp h
theorem sorted_len (an : Str → List Int) (zs : List Str) : (sortedBy an zs).length = zs.length := (List.mergeSort_perm _ _).length_eq
theorem win_sub (a b : Nat) (zs : List Str) : (Stp.win a b zs).Sublist zs := by
  unfold Stp.win
  exact (List.take_sublist _ _).trans (List.drop_sublist _ _)
theorem shown_ok {kind : Str} {zs : List Str} {an : Str → List Int} {ev : Str → Bool} {a b : Nat} (ro : RowsOk zs) : (∀ x ∈ shownM kind zs an ev a b, ImOk x) ∧ (shownM kind zs an ev a b).length ≤ 100 := by
  have few := ro.few
  have nm := ro.nm
  unfold shownM
  split
  · refine ⟨imOk_rows fun z hz => nm z (List.mem_filter.mp hz).1, ?_⟩
    have := List.length_filter_le ev zs
    rw [List.length_map]
    omega
  split
  · refine ⟨imOk_rows fun z hz => nm z (sorted_mem hz), ?_⟩
    rw [List.length_map, sorted_len]
    omega
  split
  · have sb : (firstsOf an zs).Sublist zs := by
      rw [firsts_fsts an ro.nd]
      exact List.filter_sublist
    refine ⟨imOk_rows fun z hz => nm z (sb.subset hz), ?_⟩
    have := sb.length_le
    rw [List.length_map]
    omega
  split
  · refine ⟨imOk_grp nm, ?_⟩
    have := grpM_len an zs
    omega
  split
  · refine ⟨imOk_rows fun z hz => nm z ((win_sub a b zs).subset hz), ?_⟩
    have := (win_sub a b zs).length_le
    rw [List.length_map]
    omega
  · refine ⟨imOk_rows nm, ?_⟩
    rw [List.length_map]
    omega
theorem AnsOf.on {H : Hp} {d : Addr} {kvs : List (Key × V)} {zs : List Str} {an an2 : Str → List Int} (h : AnsOf H d kvs zs an) (e : ∀ z ∈ zs, an2 z = an z) : AnsOf H d kvs zs an2 :=
  ⟨h.d, fun z hz => by
    rw [e z hz]
    exact h.is z hz⟩
abbrev sRgt : Stmt := topS 53
abbrev nRgt : List Str := ["_law_box_here", "_law_names_here", "_law_rows", "_law_answers", "_law_span", "_law_other", "_law_more", "_law_steps_here", "_law_unlike", "_law_kind", "_law_told", "_law_bound_here", "_law_row"]
theorem scRgt : FnScope nRgt ["_law_box_here", "_law_names_here"] (defScope sRgt) := ⟨rfl, rfl, rfl, by decide +kernel, rfl, by decide +kernel, by decide +kernel⟩
def forBodyR : Stmt → List Stmt
  | .For _ _ b _ _ => b
  | _ => []
abbrev loopR : List Stmt := forBodyR ((defBody sRgt).getD 3 (.Pass ⟨0, 0, 0, 0⟩))
abbrev loopI : List Stmt := forBodyR (loopR.getD 0 (.Pass ⟨0, 0, 0, 0⟩))
section
variable {P : Program} {w : World} {K : PySem.W.Frag} {mg : Str → Option Value} {base : Heap} {f : Addr} {fd : FuncData}
/-- one kind of view, before and after one operation -/
theorem right_in {fS fH fB fM fF : Addr} {fdS fdH fdB fdM fdF : FuncData} {T : List (Addr × Str)} {cdv : Value} {A : Around} {outer : List Env} {s : Shared} {H : Hp} {E : XK}
    (GS : FnOk P w K mg base CX0 1 fS fdS ["_law_old", "_law_new"] (spLStp K)) (gS : mg "_law_steps" = some (.ref fS)) (kS : PySem.W.keepIn K (.ref fS) = true) (bS : Binds K fdS ["_law_old", "_law_new"] [])
    (GH : FnOk P w K mg base CX0 7 fH fdH ["_law_kind", "_law_rows", "_law_answers", "_law_span"] (spShown K T)) (gH : mg "_law_shown" = some (.ref fH)) (kH : PySem.W.keepIn K (.ref fH) = true) (bH : Binds K fdH ["_law_kind", "_law_rows", "_law_answers", "_law_span"] [])
    (GB : FnOk P w K mg base CX0 1 fB fdB ["_law_kind", "_law_steps_here", "_law_rows"] spBound) (gB : mg "_law_bound" = some (.ref fB)) (kB : PySem.W.keepIn K (.ref fB) = true) (bB : Binds K fdB ["_law_kind", "_law_steps_here", "_law_rows"] [])
    (GM : FnOk P w K mg base CX0 3 fM fdM ["kind", "steps", "differing"] spMost) (gM : mg "most_steps" = some (.ref fM)) (kM : PySem.W.keepIn K (.ref fM) = true) (bM : Binds K fdM ["kind", "steps", "differing"] [])
    (GF : FnOk P w K mg base CX0 3 fF fdF ["kind"] spFactor) (gF : mg "factor" = some (.ref fF)) (kF : PySem.W.keepIn K (.ref fF) = true) (bF : Binds K fdF ["kind"] [])
    (hr : Room 7 (A.deeper (envOfC "_law_right" (defScope sRgt) s.heap.objs.size f cdv))) :
    ∃ t, PSs (cxOf CX0 P w K mg base nRgt "_law_right" (defScope sRgt) f cdv A outer s H E).nox loopI t ∧
      ∀ (De : Ends) (x0 x1 x10 x11 x12 : Option V) (l d S l2 d2 : Addr) (zs zs2 : List Str) (kvs kvs2 : List (Key × V)) (an an0 an2 : Str → List Int) (a b : Nat) (st e : Int) (p : Str × Int) (H1 : Hp), p ∈ facs →
        H1 l = some (.lst (zs.map V.str)) → RowsOk zs → AnsOf H1 d kvs zs an → H1 S = some (.tup [.int (a : Nat), .int (b : Nat)]) → a ≤ 80 → b ≤ 80 →
        H1 l2 = some (.lst (zs2.map V.str)) → RowsOk zs2 → AnsOf H1 d2 kvs2 zs2 an2 → Fit zs an zs2 an0 an2 st e → Tabs T H1 →
        (∀ (y10 y11 : Option V) (H' : Hp), ExtN H1 H' → Tabs T H' → De.nx [x0, x1, some (.ref l), some (.ref d), some (.ref S), some (.ref l2), some (.ref d2), some (.int st), some (.int e), some (.str p.1), y10, y11, x12] H') →
        t De [x0, x1, some (.ref l), some (.ref d), some (.ref S), some (.ref l2), some (.ref d2), some (.int st), some (.int e), some (.str p.1), x10, x11, x12] H1 := by
  have hr1 := hr.mono (show 1 ≤ 7 by decide)
  have hr3 := hr.mono (show 3 ≤ 7 by decide)
  refine ⟨_, pss_cons (ps_set (i := 10) scRgt.nd rfl (.inl rfl) (pe_call GS hr1 rfl gS kS bS .nil pass0 (pa_cons (pe_call GH hr rfl gH kH bH .nil pass0 (pa_cons (pv 9) (pa_cons (pv 2) (pa_cons (pv 3) (pa_cons (pv 4) pa_nil)))))
        (pa_cons (pe_call GH hr rfl gH kH bH .nil pass0 (pa_cons (pv 9) (pa_cons (pv 5) (pa_cons (pv 6) (pa_cons (pv 4) pa_nil))))) pa_nil))))
    (pss_cons (ps_set (i := 11) scRgt.nd rfl (.inl rfl) (pe_call GB hr1 rfl gB kB bB .nil pass0 (pa_cons (pv 9) (pa_cons (pv 7) (pa_cons (pv 8) pa_nil)))))
    (pss_cons (ps_if (PW.pt (pw_or (pt_cmpR op_gt (pv 10) (pv 11) (nomark _)) (pw_or1 (pt_cmpR op_ne (pe_call GM hr3 rfl gM kM bM .nil pass0 (pa_cons (pv 9) (pa_cons (pv 7) (pa_cons (pv 8) pa_nil)))) (pv 11) (nomark _))))) (pss_one ps_never) pss_nil)
    (pss_one (ps_if (pt_cmpR op_gt (pv 11) (pe_op op_mul (pe_call GF hr3 rfl gF kF bF .nil pass0 (pa_cons (pv 9) pa_nil)) (pe_op op_add (pv 7) (pv 8))) (nomark _)) (pss_one ps_never) pss_nil)))), ?_⟩
  intro De x0 x1 x10 x11 x12 l d S l2 d2 zs zs2 kvs kvs2 an an0 an2 a b st e p H1 hp el ro ha eS a80 b80 el2 ro2 ha2 fit hT q
  have hk : p.1 ∈ facs.map (·.1) := List.mem_map.mpr ⟨p, hp, rfl⟩
  refine ⟨_, rfl, _, rfl, _, rfl, _, rfl, p.1, l, d, S, zs, kvs, an0, a, b, rfl, .of el, ro, fun _ _ => ha.on fit.ok, eS, a80, b80, hk, hT, fun p1 H2 x2 T2 im1 => ?_⟩
  have n1 : ∀ {o : HO} {c : Addr}, H1 c = some o → (∀ ps, o ≠ .tbl ps) → H2 c = some o := fun e n => x2 _ _ e n
  refine ⟨_, rfl, _, rfl, _, rfl, _, rfl, p.1, l2, d2, S, zs2, kvs2, an2, a, b, rfl, .of (n1 el2 fun _ z => nomatch z), ro2, fun _ _ => ha2.ext x2, n1 eS (fun _ z => nomatch z), a80, b80, hk, T2, fun p2 H3 x3 T3 im2 => ?_⟩
  obtain ⟨ok1, l1⟩ := shown_ok (kind := p.1) (an := an0) (ev := fun z => evn (an0 z)) (a := a) (b := b) ro
  obtain ⟨ok2, l2'⟩ := shown_ok (kind := p.1) (an := an2) (ev := fun z => evn (an2 z)) (a := a) (b := b) ro2
  refine ⟨p1, p2, _, _, rfl, im1.ext x3, im2, shown_nd ro.nd, shown_nd ro2.nd, l1, l2', ok1, ok2, fun H4 s4 => ?_⟩
  have bd := fit.bound evn a b p hp
  generalize Stp.stp (shownM p.1 zs an0 (fun z => evn (an0 z)) a b) (shownM p.1 zs2 an2 (fun z => evn (an2 z)) a b) = told at bd ⊢
  refine ⟨_, rfl, _, rfl, _, rfl, p, hp, st, e, rfl, fun H5 s5 => ?_⟩
  have x15 : ExtN H1 H5 := (x2.trans x3).trans (.of (s4.trans s5))
  have T5 : Tabs T H5 := T3.ext (s4.trans s5)
  have fs := fit.fs
  have fe := fit.fe
  refine ⟨_, rfl, _, rfl, _, _, rfl, rfl, _, rfl, ?_⟩
  rw [decide_eq_false (by omega)]
  refine iteF ⟨_, rfl, _, rfl, _, rfl, p, hp, st, e, rfl, fs.1, by omega, fe.1, by omega, _, rfl, rfl, _, rfl, ne_ifI rfl ?_⟩
  have mf := most_fac fs.1 fe.1 p hp
  refine ⟨_, rfl, _, rfl, p, hp, rfl, _, rfl, _, rfl, _, _, rfl, rfl, _, _, rfl, rfl, .inr ⟨by omega, by omega⟩, _, _, rfl, rfl, _, rfl, ?_⟩
  rw [decide_eq_false (by omega)]
  exact iteF (q _ _ H5 x15 T5)
end
end G
set_option Elab.async false
set_option linter.all false
set_option maxRecDepth 100000
set_option maxHeartbeats 8000000
/-! S3: _law_right. -/
namespace G
open PySem PySem.Spec PyProof.Rows L2 NdefX DvT StX SkL LamX PySem.W
theorem valV_inX {kvs : List (Key × V)} {k : Key} {v : V} (nd : (kvs.map (·.1)).Nodup) (h : (k, v) ∈ kvs) : valV kvs k = some v := by
  induction kvs with
  | nil => exact nomatch h
  | cons p r ih =>
    rw [List.map_cons, List.nodup_cons] at nd
    rcases List.mem_cons.mp h with e | h
    · rw [← e]
      exact valV_pos rfl
    · have ne : ¬ p.1 = k := fun e => nd.1 (by rw [e]; exact List.mem_map.mpr ⟨_, h, rfl⟩)
      exact (valV_neg ne).trans (ih nd.2 h)
theorem Tabs.butX {T : List (Addr × Str)} {b : Addr} {n : Nat} {H H' : Hp} (t : Tabs T H) (B : BoxAt H b n) (k : But b H H') : Tabs T H' := fun p hp => by
  obtain ⟨x, y, z, eb, _⟩ := B
  obtain ⟨ps, h1, h2, h3⟩ := t p hp
  refine ⟨ps, k _ _ (fun q => by rw [q, eb] at h1; cases h1) h1, h2, fun pos cv hc => ?_⟩
  obtain ⟨c, e1, e2⟩ := h3 pos cv hc
  refine ⟨c, e1, k _ _ (fun q => ?_) e2⟩
  rw [q, eb] at e2
  unfold CodeO at e2
  cases e2
theorem AnsOf.hideB {H : Hp} {b d : Addr} {n : Nat} {kvs : List (Key × V)} {zs : List Str} {an : Str → List Int} (h : AnsOf H d kvs zs an) (B : BoxAt H b n) (nd : d ≠ b) : AnsOf (hide b H) d kvs zs an :=
  ⟨by rw [hide_ne nd]; exact h.d, fun z hz => by
    obtain ⟨v, e, a⟩ := h.is z hz
    exact ⟨v, e, a.at fun c xs e => by rw [hide_ne (tup_ne B e)]; exact e⟩⟩
def spRight (T : List (Addr × Str)) : Sp := fun vs H Q _ => ∃ (b nl : Addr) (n : Nat) (ys : List Str), vs = [.ref b, .ref nl] ∧ BoxAt H b n ∧ n ≤ 50000 ∧ H nl = some (.lst (ys.map V.str)) ∧ nl ≠ b ∧ ys.length = 10 ∧ ys.Nodup ∧ (∀ z ∈ ys, NameZ z) ∧ Tabs T H ∧
  ∀ H1 H', But b H H1 → ExtN H1 H' → Tabs T H' → Q (.bl true) H'
section
variable {P : Program} {w : World} {K : PySem.W.Frag} {mg : Str → Option Value} {base : Heap} {f : Addr} {fd : FuncData}
theorem ok_right {fS fH fB fM fF fO fT fK : Addr} {fdS fdH fdB fdM fdF fdO fdT fdK : FuncData} {T : List (Addr × Str)} (F : Fun K "_law_right" "_law_right" sRgt f fd)
    (GS : FnOk P w K mg base CX0 1 fS fdS ["_law_old", "_law_new"] (spLStp K)) (gS : mg "_law_steps" = some (.ref fS)) (kS : PySem.W.keepIn K (.ref fS) = true) (bS : Binds K fdS ["_law_old", "_law_new"] [])
    (GH : FnOk P w K mg base CX0 7 fH fdH ["_law_kind", "_law_rows", "_law_answers", "_law_span"] (spShown K T)) (gH : mg "_law_shown" = some (.ref fH)) (kH : PySem.W.keepIn K (.ref fH) = true) (bH : Binds K fdH ["_law_kind", "_law_rows", "_law_answers", "_law_span"] [])
    (GB : FnOk P w K mg base CX0 1 fB fdB ["_law_kind", "_law_steps_here", "_law_rows"] spBound) (gB : mg "_law_bound" = some (.ref fB)) (kB : PySem.W.keepIn K (.ref fB) = true) (bB : Binds K fdB ["_law_kind", "_law_steps_here", "_law_rows"] [])
    (GM : FnOk P w K mg base CX0 3 fM fdM ["kind", "steps", "differing"] spMost) (gM : mg "most_steps" = some (.ref fM)) (kM : PySem.W.keepIn K (.ref fM) = true) (bM : Binds K fdM ["kind", "steps", "differing"] [])
    (GF : FnOk P w K mg base CX0 3 fF fdF ["kind"] spFactor) (gF : mg "factor" = some (.ref fF)) (kF : PySem.W.keepIn K (.ref fF) = true) (bF : Binds K fdF ["kind"] [])
    (GO : FnOk P w K mg base CX0 2 fO fdO ["_law_box_here", "_law_rows", "_law_answers", "_law_fresh"] (spOps K)) (gO : mg "_law_operations" = some (.ref fO)) (kO : PySem.W.keepIn K (.ref fO) = true) (bO : Binds K fdO ["_law_box_here", "_law_rows", "_law_answers", "_law_fresh"] [])
    (GK : FnOk P w K mg base CX0 1 fK fdK [] spKinds) (gK : mg "_law_kinds" = some (.ref fK)) (kK : PySem.W.keepIn K (.ref fK) = true) (bK : Binds K fdK [] [])
    (FT : Fun K "_law_take" "_law_take" sTake fT fdT) (bT : Binds K fdT ["_law_box_here", "_law_many"] []) (gT : mg "_law_take" = some (.ref fT))
    (ml : mg "len" = none) (md : mg "dict" = none) : FnOk P w K mg base CX0 8 f fd ["_law_box_here", "_law_names_here"] (spRight T) := by
  have GT : FnOk P w K mg base CX0 1 fT fdT ["_law_box_here", "_law_many"] spTake := ok_take FT
  refine F.ok scRgt (fun vs H Q E h => ?_) (fun cdv A outer s H vs Q E hr h => ?_)
  · obtain ⟨b, nl, n, ys, rfl, _⟩ := h
    rfl
  · obtain ⟨b, nl, n, ys, rfl, B, hn, en, nnb, l10, ynd, ynm, hT, q⟩ := h
    have hr1 := hr.mono (show 1 ≤ 7 by decide)
    have hr2 := hr.mono (show 2 ≤ 7 by decide)
    obtain ⟨tz, pz, qz⟩ := right_in (P := P) (w := w) (base := base) (outer := outer) (H := H) (E := E) (cdv := cdv) (s := s) (f := f) GS gS kS bS GH gH kH bH GB gB kB bB GM gM kM bM GF gF kF bF hr
    refine ⟨_, pss_cons (ps_set (i := 2) scRgt.nd rfl (.inl rfl) (pe_slice (r := rSlL K) sl_list (pv 1) po_none (po_some (pe_op op_add pe_int (pe_call GT hr1 rfl gT FT.kp bT .nil pass0 (pa_cons (pv 0) (pa_cons pe_int pa_nil)))))))
      (pss_cons (ps_set (i := 3) scRgt.nd rfl (.inl rfl) (pe_callTy (call_dictP rfl) (by rfl) md (by decide +kernel) (pa_cons (pe_lc (own := [("_law_row", 12)]) (g := gName 12) (tt := tYes) (by rfl) scRgt.nd (pi_list (pv 2)) (blkOk_by (own := [("_law_row", 12)]) (N := nRgt) (sc := defScope sRgt) (by decide +kernel)) (fun _ _ _ _ _ => pg_name (i := 12) scRgt.nd rfl (.inl rfl)) (fun _ _ _ _ _ => pts_nil)
          (fun _ _ _ _ _ => by exact pe_tup (pa_cons (pv 12) (pa_cons (pe_ix (r := rIxL K) ix_list (pe_lst (pa_cons pe_int (pa_cons pe_int (pa_cons pe_int (pa_cons pe_int (pa_cons (pe_tup (pa_cons pe_int pa_nil)) (pa_cons (pe_tup (pa_cons pe_int pa_nil)) pa_nil)))))))
            (pe_call GT hr1 rfl gT FT.kp bT .nil pass0 (pa_cons (pv 0) (pa_cons pe_int pa_nil))) (fun _ _ => rfl)) pa_nil)))) pa_nil)))
      (pss_cons (ps_set (i := 4) scRgt.nd rfl (.inl rfl) (pe_tup (pa_cons (pe_call GT hr1 rfl gT FT.kp bT .nil pass0 (pa_cons (pv 0) (pa_cons (pe_op op_add (pe_callB call_len_seq (by rfl) ml PySem.boot_len (pa_cons (pv 2) pa_nil)) pe_int) pa_nil)))
          (pa_cons (pe_call GT hr1 rfl gT FT.kp bT .nil pass0 (pa_cons (pv 0) (pa_cons (pe_op op_add (pe_callB call_len_seq (by rfl) ml PySem.boot_len (pa_cons (pv 2) pa_nil)) pe_int) pa_nil))) pa_nil))))
      (pss_cons (ps_for PassesOwn.never rfl (pi_list (pe_call GO hr2 rfl gO kO bO .nil pass0 (pa_cons (pv 0) (pa_cons (pv 2) (pa_cons (pv 3) (pa_cons (pe_ix (r := rIxL K) ix_list (pv 1) pe_int (fun _ _ => rfl)) pa_nil))))))
          (pg_tup rfl (pgs_cons (pg_name (i := 5) scRgt.nd rfl (.inl rfl)) (pgs_cons (pg_name (i := 6) scRgt.nd rfl (.inl rfl)) (pgs_cons (pg_name (i := 7) scRgt.nd rfl (.inl rfl)) (pgs_cons (pg_name (i := 8) scRgt.nd rfl (.inl rfl)) pgs_nil)))))
          (pss_one (ps_for PassesOwn.never rfl (pi_list (pe_call0 GK hr1 rfl gK kK bK .nil pass0)) (pg_name (i := 9) scRgt.nd rfl (.inl rfl)) pz)))
      (pss_one (ps_ret pe_bl))))), ?_⟩
    -- the rows
    refine ⟨_, rfl, _, rfl, b, 9, n, rfl, B, by omega, by decide, by decide, fun j0 H1 j00 j01 B1 k1 => ⟨_, _, rfl, rfl, _, rfl, nl, _, rfl, .of (k1 _ _ nnb en), fun l hl => ?_⟩⟩
    obtain ⟨j, rfl, hj⟩ := draw_at (n := 9) j00 j01 rfl
    rw [show ((1 : Int) + (j : Nat)) = ((1 + j : Nat) : Int) by omega, cutV_takeZ, ← List.map_take]
    have t2 := Same.new (o := .lst ((ys.take (1 + j)).map V.str)) hl
    have el : upd H1 l (.lst ((ys.take (1 + j)).map V.str)) l = some (.lst ((ys.take (1 + j)).map V.str)) := upd_same
    have nlb := box_ne B1 hl
    have B2 := B1.keep fun o e => t2 _ _ e
    have k2 : But b H (upd H1 l (.lst ((ys.take (1 + j)).map V.str))) := k1.trans (.same t2)
    generalize upd H1 l (.lst ((ys.take (1 + j)).map V.str)) = H2 at el B2 k2 ⊢
    have ro : RowsOk (ys.take (1 + j)) := ⟨by rw [List.length_take]; omega, (List.take_sublist _ _).nodup ynd, fun z hz => ynm z (List.mem_of_mem_take hz)⟩
    have lz1 : 1 ≤ (ys.take (1 + j)).length := by rw [List.length_take]; omega
    have lz9 : (ys.take (1 + j)).length ≤ 9 := by rw [List.length_take]; omega
    obtain ⟨r, hr9⟩ : ∃ r, ys[9]? = some r := ⟨_, List.getElem?_eq_getElem (by omega)⟩
    have out : r ∉ ys.take (1 + j) := fun h => nodup_take ynd hr9 ((List.take_subset_take_left ys (show 1 + j ≤ 9 by omega)) h)
    generalize ys.take (1 + j) = zs at el ro lz1 lz9 out ⊢
    -- the answers
    refine ⟨_, rfl, l, rfl, ⟨_, .of el⟩, fun D hD => ?_⟩
    have nDb := box_ne B2 hD
    refine lc_list (xs := zs.map V.str) (fun i H3 => ∃ (qs : List Addr) (kb : List (Key × V)) (an : Str → List Int), H3 D = some (.lst (qs.map V.ref)) ∧ qs.length = i ∧ Paired (fun p (kv : Key × V) => H3 p = some (.tup [kV kv.1, kv.2])) qs kb ∧ kb.map (·.1) = (zs.take i).map Sum.inr ∧ (∀ z ∈ zs.take i, ∃ v, (Sum.inr z, v) ∈ kb ∧ AnsAt H3 v (an z)) ∧ BoxAt H3 b (n + 1 + i) ∧ But b H2 H3) ?_ ?_ ?_ ?_
    · exact ⟨[], [], fun _ => [], upd_same, rfl, .nil, rfl, (fun _ h => nomatch h), box_new B2 hD, But.new hD⟩
    · rintro i H3 _ ⟨_, _, _, _, _, _, _, _, _, k3⟩
      exact .of (k3 _ _ nlb el)
    · rintro i x H3 hx ⟨qs, kb, an, e3, lq, pr, nk, is, B3, k3⟩
      rw [List.getElem?_map] at hx
      obtain ⟨z, hz, rfl⟩ := Option.map_eq_some_iff.mp hx
      have lti := (List.getElem?_eq_some_iff.mp hz).1
      refine ⟨rfl, ?_⟩
      unfold tYes
      dsimp only
      rw [if_pos rfl]
      refine ⟨_, rfl, (by show 1 ≤ sizeLine; decide), fun t1 ht1 => ?_⟩
      have u4 := Same.new (o := .tup [.int 1]) ht1
      have et1 : upd H3 t1 (.tup [.int 1]) t1 = some (.tup [.int 1]) := upd_same
      generalize upd H3 t1 (.tup [.int 1]) = H4 at u4 et1 ⊢
      refine ⟨(by show 1 ≤ sizeLine; decide), fun t2 ht2 => ?_⟩
      have u5 := Same.new (o := .tup [.int 0]) ht2
      have et2 : upd H4 t2 (.tup [.int 0]) t2 = some (.tup [.int 0]) := upd_same
      generalize upd H4 t2 (.tup [.int 0]) = H5 at u5 et2 ⊢
      refine ⟨(by show 6 ≤ sizeLine; decide), fun m hm => ?_⟩
      have u6 := Same.new (o := .lst [.int 0, .int 1, .int 2, .int 3, .ref t1, .ref t2]) hm
      have em : upd H5 m (.lst [.int 0, .int 1, .int 2, .int 3, .ref t1, .ref t2]) m = some (.lst [.int 0, .int 1, .int 2, .int 3, .ref t1, .ref t2]) := upd_same
      have s36 := u4.trans (u5.trans u6)
      have et16 := u6 _ _ (u5 _ _ et1)
      have et26 := u6 _ _ et2
      have B6 := B3.keep fun o e => s36 _ _ e
      generalize upd H5 m (.lst [.int 0, .int 1, .int 2, .int 3, .ref t1, .ref t2]) = H6 at em s36 et16 et26 B6 ⊢
      have nmb : m ≠ b := fun z => by
        obtain ⟨_, _, _, eb, _⟩ := B6
        rw [z, eb] at em
        cases em
      refine ⟨_, rfl, b, 6, n + 1 + i, rfl, B6, by omega, by decide, by decide, fun c0 H7 c00 c01 B7 k7 => ?_⟩
      obtain ⟨c, rfl, hc⟩ := draw_at (n := 6) c00 c01 rfl
      have em7 := k7 _ _ nmb em
      have et17 := k7 _ _ (tup_ne B6 et16) et16
      have et27 := k7 _ _ (tup_ne B6 et26) et26
      have k37 : But b H3 H7 := (But.same s36).trans k7
      have eD7 := k37 _ _ nDb e3
      obtain ⟨v, ns, hv, av⟩ : ∃ v ns, ([.int 0, .int 1, .int 2, .int 3, .ref t1, .ref t2] : List V)[c]? = some v ∧ AnsAt H7 v ns := by
        have okI : ∀ i : Int, 0 ≤ i → i ≤ 3 → AnsAt H7 (.int i) [i] := fun i h0 h1 => ⟨.inl ⟨i, rfl, rfl⟩, fun x hx => by rw [List.mem_singleton.mp hx]; exact ⟨by omega, by omega⟩⟩
        match c, hc with
        | 0, _ => exact ⟨_, _, rfl, okI 0 (by decide) (by decide)⟩
        | 1, _ => exact ⟨_, _, rfl, okI 1 (by decide) (by decide)⟩
        | 2, _ => exact ⟨_, _, rfl, okI 2 (by decide) (by decide)⟩
        | 3, _ => exact ⟨_, _, rfl, okI 3 (by decide) (by decide)⟩
        | 4, _ => exact ⟨_, [1], rfl, .inr ⟨t1, rfl, et17, by decide, by decide⟩, fun x hx => by rw [List.mem_singleton.mp hx]; exact ⟨by decide, by decide⟩⟩
        | 5, _ => exact ⟨_, [0], rfl, .inr ⟨t2, rfl, et27, by decide, by decide⟩, fun x hx => by rw [List.mem_singleton.mp hx]; exact ⟨by decide, by decide⟩⟩
      refine ⟨m, _, _, v, rfl, rfl, .of em7, atI_nat hv, (by show 2 ≤ sizeLine; decide), fun t ht => ?_⟩
      clear em em7 hv
      have ta := Same.new (o := .tup [.str z, v]) ht
      have et : upd H7 t (.tup [.str z, v]) t = some (.tup [.str z, v]) := upd_same
      have k38 : But b H3 (upd H7 t (.tup [.str z, v])) := k37.trans (.same ta)
      have B8 := B7.keep fun o e => ta _ _ e
      have eD := ta _ _ eD7
      have av8 := av.same ta
      generalize upd H7 t (.tup [.str z, v]) = H8 at et k38 B8 eD av8 ⊢
      have off : ∀ c xs o, H8 c = some (.tup xs) → upd H8 D o c = some (.tup xs) := fun c xs o e => (upd_ne (ne_of e eD (fun z => nomatch z))).trans e
      refine ⟨_, eD, ?_, qs ++ [t], kb ++ [(Sum.inr z, v)], setA an z ns, ?_, ?_, ?_, ?_, ?_, ?_, ?_⟩
      · rw [List.length_map, lq]
        exact small1000 (by omega)
      · rw [upd_same, List.map_append]
        rfl
      · rw [List.length_append, lq]
        rfl
      · exact Paired.snoc (paired_impX (fun p kv e => off _ _ _ (k38 _ _ (tup_ne B3 e) e)) pr) (off _ _ _ et)
      · rw [List.map_append, nk, take_snoc hz, List.map_append]
        rfl
      · rw [take_snoc hz]
        intro y hy
        rcases List.mem_append.mp hy with e | e
        · obtain ⟨v2, m2, a2⟩ := is y e
          have nyz : y ≠ z := fun h => nodup_take ro.nd hz (by rw [← h]; exact e)
          refine ⟨v2, List.mem_append_left _ m2, ?_⟩
          rw [setA_ne nyz]
          exact a2.at fun c xs e => off _ _ _ (k38 _ _ (tup_ne B3 e) e)
        · rw [List.mem_singleton.mp e]
          refine ⟨v, List.mem_append_right _ List.mem_cons_self, ?_⟩
          rw [setA_at]
          exact av8.at fun c xs e => off _ _ _ e
      · exact box_upd B8 nDb
      · exact but_upd (k3.trans k38) hD
    rintro H3 ⟨qs, kb, an, e3, lq, pr, nk, is, B3, k3⟩
    rw [List.length_map] at lq B3
    rw [List.length_map, List.take_length] at nk is
    have ndk : (kb.map (·.1)).Nodup := by
      rw [nk]
      exact List.Pairwise.map _ (fun a b h e => h (Sum.inr.inj e)) ro.nd
    refine ⟨D, qs, kb, rfl, .of e3, paired_impX (fun p kv e => .of e) pr, fun d hd => ?_⟩
    rw [merge_ndX kb [] ndk, List.nil_append]
    have t4 := Same.new (o := .dK kb) hd
    have ed : upd H3 d (.dK kb) d = some (.dK kb) := upd_same
    have ndb := box_ne B3 hd
    have B4 := B3.keep fun o e => t4 _ _ e
    have k4 : But b H2 (upd H3 d (.dK kb)) := k3.trans (.same t4)
    have is4 : ∀ z ∈ zs, ∃ v, (Sum.inr z, v) ∈ kb ∧ AnsAt (upd H3 d (.dK kb)) v (an z) := fun z hz => by
      obtain ⟨v, m, a⟩ := is z hz
      exact ⟨v, m, a.same t4⟩
    have lkb : kb.length = zs.length := by
      have := congrArg List.length nk
      rw [List.length_map, List.length_map] at this
      exact this
    generalize upd H3 d (.dK kb) = H4 at ed B4 k4 is4 ⊢
    have ha : AnsOf H4 d kb zs an := ⟨ed, fun z hz => by
      obtain ⟨v, m, a⟩ := is4 z hz
      exact ⟨v, valV_inX ndk m, a⟩⟩
    have el4 := k4 _ _ nlb el
    -- the span
    refine ⟨_, rfl, _, rfl, l, _, rfl, .inl (.of el4), _, _, rfl, rfl, b, _, _, rfl, B4, by omega, ?_, ?_, fun a0 H5 a00 a01 B5 k5 => ?_⟩
    · rw [List.length_map]
      omega
    · rw [List.length_map]
      exact Int.lt_of_le_of_lt (show ((zs.length : Nat) : Int) + 1 ≤ 10 by omega) (by decide)
    rw [List.length_map] at a01
    have el5 := k5 _ _ nlb el4
    refine ⟨_, rfl, _, rfl, l, _, rfl, .inl (.of el5), _, _, rfl, rfl, b, _, _, rfl, B5, by omega, ?_, ?_, fun b0 H6 b00 b01 B6 k6 => ?_⟩
    · rw [List.length_map]
      omega
    · rw [List.length_map]
      exact Int.lt_of_le_of_lt (show ((zs.length : Nat) : Int) + 2 ≤ 11 by omega) (by decide)
    rw [List.length_map] at b01
    obtain ⟨a, rfl, ha80⟩ := draw_at (n := zs.length + 1) a00 a01 (by omega)
    obtain ⟨b', rfl, hb80⟩ := draw_at (n := zs.length + 2) b00 b01 (by omega)
    refine ⟨(by show 2 ≤ sizeLine; decide), fun S hS => ?_⟩
    have t7 := Same.new (o := .tup [.int (a : Nat), .int (b' : Nat)]) hS
    have eS : upd H6 S (.tup [.int (a : Nat), .int (b' : Nat)]) S = some (.tup [.int (a : Nat), .int (b' : Nat)]) := upd_same
    have B7 := B6.keep fun o e => t7 _ _ e
    have k27 : But b H2 (upd H6 S (.tup [.int (a : Nat), .int (b' : Nat)])) := k4.trans ((k5.trans k6).trans (.same t7))
    have k47 : But b H4 (upd H6 S (.tup [.int (a : Nat), .int (b' : Nat)])) := (k5.trans k6).trans (.same t7)
    generalize upd H6 S (.tup [.int (a : Nat), .int (b' : Nat)]) = H7 at eS B7 k27 k47 ⊢
    have el7 := k27 _ _ nlb el
    have en7 := (k2.trans k27) _ _ nnb en
    have ha7 : AnsOf (hide b H7) d kb zs an := (ha.hideB B4 ndb).same (hide_but k47)
    have nSb := tup_ne B7 eS
    -- the operations
    refine ⟨_, rfl, _, rfl, _, rfl, _, rfl, nl, _, (9 : Nat), .str r, rfl, rfl, .of en7, atI_nat (by rw [List.getElem?_map, hr9] <;> rfl), ?_⟩
    refine ⟨b, l, d, _, zs, kb, an, r, rfl, B7, by omega, el7, nlb, ndb, ha7, by omega, ro, lz1, by omega, ynm r (List.mem_of_getElem? hr9), out, fun p H8 ts np ep ok8 k8 => ?_⟩
    have el8 := k8 _ _ nlb el7
    have eS8 := k8 _ _ nSb eS
    have ha8 : AnsOf H8 d kb zs an := (ha7.same (hide_but k8)).same (hide_same _ _)
    have ops8 : ∀ t ∈ ts, OpAt H8 zs an t := fun t ht => (ok8 t ht).same ((hide_same _ _).trans (hide_same _ _))
    have k08 : But b H H8 := k2.trans (k27.trans k8)
    have T8 : Tabs T H8 := Tabs.butX hT B k08
    refine ⟨p, rfl, ⟨_, .of ep⟩, ?_⟩
    refine for_list (xs := ts.map V.ref) (fun i σ H9 => ExtN H8 H9 ∧ Tabs T H9 ∧ ∃ y5 y6 y7 y8 y9 y10 y11 : Option V, σ = [some (.ref b), some (.ref nl), some (.ref l), some (.ref d), some (.ref S), y5, y6, y7, y8, y9, y10, y11, none]) ?_ ?_ ?_ ?_
    · exact ⟨.refl _, T8, _, _, _, _, _, _, _, rfl⟩
    · rintro i σ H9 _ ⟨x9, _⟩
      exact .of (x9 _ _ ep fun _ z => nomatch z)
    · rintro i x σ H9 hx ⟨x9, T9, y5, y6, y7, y8, y9, y10, y11, rfl⟩
      rw [List.getElem?_map] at hx
      obtain ⟨t, ht, rfl⟩ := Option.map_eq_some_iff.mp hx
      obtain ⟨l2, d2, zs2, kvs2, an0, an2, st, e, o1, o2, o3, o4, o5⟩ := (ops8 t (List.mem_of_getElem? ht)).ext x9
      refine ⟨t, _, rfl, .of o1, rfl, _, _, rfl, _, _, rfl, _, _, rfl, _, _, rfl, rfl, ?_⟩
      refine ⟨rfl, fun kp hkp => ?_⟩
      have tk := Same.new (o := .lst ((facs.map (·.1)).map V.str)) hkp
      have ek : upd H9 kp (.lst ((facs.map (·.1)).map V.str)) kp = some (.lst ((facs.map (·.1)).map V.str)) := upd_same
      have x8a := x9.trans (.of tk)
      have Ta := T9.ext tk
      have o1a := tk _ _ o1
      have o2a := tk _ _ o2
      have o4a := o4.same tk
      generalize upd H9 kp (.lst ((facs.map (·.1)).map V.str)) = Ha at ek x8a Ta o1a o2a o4a ⊢
      refine ⟨kp, rfl, ⟨_, .of ek⟩, ?_⟩
      refine for_list (xs := (facs.map (·.1)).map V.str) (fun i σ Hb => ExtN Ha Hb ∧ Tabs T Hb ∧ ∃ y9 y10 y11 : Option V, σ = [some (.ref b), some (.ref nl), some (.ref l), some (.ref d), some (.ref S), some (.ref l2), some (.ref d2), some (.int st), some (.int e), y9, y10, y11, none]) ?_ ?_ ?_ ?_
      · exact ⟨.refl _, Ta, _, _, _, rfl⟩
      · rintro i σ Hb _ ⟨xb, _⟩
        exact .of (xb _ _ ek fun _ z => nomatch z)
      · rintro i x σ Hb hx ⟨xb, Tb, y9, y10, y11, rfl⟩
        rw [List.getElem?_map, List.getElem?_map] at hx
        obtain ⟨k, hk, rfl⟩ := Option.map_eq_some_iff.mp hx
        obtain ⟨p', hp', rfl⟩ := Option.map_eq_some_iff.mp hk
        have x8b := x8a.trans xb
        refine qz _ _ _ _ _ _ l d S l2 d2 zs zs2 kb kvs2 an an0 an2 a b' st e p' Hb (List.mem_of_getElem? hp') (x8b _ _ el8 fun _ z => nomatch z) ro (ha8.ext x8b) (x8b _ _ eS8 fun _ z => nomatch z) (by omega) (by omega) (xb _ _ o2a fun _ z => nomatch z) o3 (o4a.ext xb) o5 Tb fun y10 y11 H' x' T' => ?_
        exact ⟨xb.trans x', T', _, _, _, rfl⟩
      · rintro σ Hb ⟨xb, Tb, y9, y10, y11, rfl⟩
        exact ⟨x8a.trans xb, Tb, _, _, _, _, _, _, _, rfl⟩
    · rintro σ H9 ⟨x9, T9, _, _, _, _, _, _, _, rfl⟩
      exact q H8 H9 k08 x9 T9
end
end G
set_option Elab.async false
set_option linter.all false
set_option maxRecDepth 100000
set_option maxHeartbeats 4000000
/-! S4: the scenes, their steps. -/
namespace G
open PySem PySem.Spec PyProof.Rows L2 NdefX DvT StX SkL LamX PySem.W
/-- answers told one by one -/
def ansL (l : List (Str × Int)) : Str → List Int := fun z => [((l.find? fun p => decide (p.1 = z)).map (·.2)).getD 0]
def kvL (l : List (Str × Int)) : List (Key × V) := l.map fun p => (Sum.inr p.1, V.int p.2)
theorem ansL_in : ∀ {l : List (Str × Int)} {p : Str × Int}, (l.map (·.1)).Nodup → p ∈ l → ansL l p.1 = [p.2] ∧ valV (kvL l) (Sum.inr p.1 : Key) = some (.int p.2)
  | q :: l, p, nd, h => by
    rw [List.map_cons, List.nodup_cons] at nd
    rcases List.mem_cons.mp h with e | h
    · subst e
      constructor
      · unfold ansL
        rw [List.find?_cons_of_pos (by exact decide_eq_true rfl)]
        rfl
      · exact valV_pos (p := ((Sum.inr p.1 : Key), V.int p.2)) rfl
    · have ne : ¬ q.1 = p.1 := fun e => nd.1 (by rw [e]; exact List.mem_map.mpr ⟨_, h, rfl⟩)
      obtain ⟨h1, h2⟩ := ansL_in nd.2 h
      constructor
      · unfold ansL at h1 ⊢
        rw [List.find?_cons_of_neg (by rw [decide_eq_false ne]; decide)]
        exact h1
      · exact (valV_neg (p := ((Sum.inr q.1 : Key), V.int q.2)) fun e => ne (Sum.inr.inj e)).trans h2
theorem ansL_of {H : Hp} {d : Addr} {l : List (Str × Int)} (nd : (l.map (·.1)).Nodup) (e : H d = some (.dK (kvL l))) (ok : ∀ p ∈ l, OkI p.2) : AnsOf H d (kvL l) (l.map (·.1)) (ansL l) :=
  ⟨e, fun z hz => by
    obtain ⟨p, hp, rfl⟩ := List.mem_map.mp hz
    obtain ⟨h1, h2⟩ := ansL_in nd hp
    rw [h1]
    exact ⟨_, h2, .inl ⟨_, rfl, rfl⟩, fun n hn => by rw [List.mem_singleton.mp hn]; exact ok p hp⟩⟩
theorem sort2 (an : Str → List Int) (a b : Str) : sortedBy an [a, b] = if dataLe false (intK an) a b = true then [a, b] else [b, a] := by
  unfold sortedBy
  simp [List.mergeSort, List.MergeSort.Internal.splitInTwo, List.merge]
theorem key_is {an : Str → List Int} {zs : List Str} {ks : List (List Int)} (pw : ks.Pairwise fun a b => dataLe false encK a b = true) (nd : ks.Nodup) (m : ∀ k, k ∈ ks ↔ ∃ y ∈ zs, an y = k) : keysS an zs = ks := by
  refine List.Perm.eq_of_pairwise (le := fun a b => dataLe false encK a b = true) (fun a b _ _ h1 h2 => anti_encK a b h1 h2) (keys_of an zs).pw pw ?_
  refine (List.perm_ext_iff_of_nodup (keysS_nd an zs) nd).mpr fun k => ?_
  rw [m]
  exact keysS_mem
section
variable {a b c d : Str}
theorem sc1 (ab : a ≠ b) : Stp.stp (shownM "filtered" [a, b] (ansL [(a, 0), (b, 0)]) (fun z => evn (ansL [(a, 0), (b, 0)] z)) 0 1) (shownM "filtered" [a, b] (ansL [(a, 0), (b, 1)]) (fun z => evn (ansL [(a, 0), (b, 1)] z)) 0 1) = 1 := by
  have e0 : evn [0] = true := by decide
  have e1 : evn [1] = false := by decide
  have h1 : ansL [(a, 0), (b, 0)] a = [0] := by simp [ansL]
  have h2 : ansL [(a, 0), (b, 0)] b = [0] := by simp [ansL, ab]
  have h3 : ansL [(a, 0), (b, 1)] a = [0] := by simp [ansL]
  have h4 : ansL [(a, 0), (b, 1)] b = [1] := by simp [ansL, ab]
  have s1 : shownM "filtered" [a, b] (ansL [(a, 0), (b, 0)]) (fun z => evn (ansL [(a, 0), (b, 0)] z)) 0 1 = [.row a, .row b] := by
    unfold shownM
    rw [if_pos rfl]
    simp [h1, h2, e0]
  have s2 : shownM "filtered" [a, b] (ansL [(a, 0), (b, 1)]) (fun z => evn (ansL [(a, 0), (b, 1)] z)) 0 1 = [.row a] := by
    unfold shownM
    rw [if_pos rfl]
    simp [h3, h4, e0, e1]
  rw [s1, s2]
  have k : Stp.kept [(.row a : Im), .row b] [.row a] = [0] := by
    simp [Stp.kept, Stp.idx, List.findIdx_cons]
  unfold Stp.stp
  rw [k]
  rfl
theorem sc2 (ab : a ≠ b) : Stp.stp (shownM "ordered" [a, b] (ansL [(a, 0), (b, 1)]) (fun z => evn (ansL [(a, 0), (b, 1)] z)) 0 1) (shownM "ordered" [a, b] (ansL [(a, 2), (b, 1)]) (fun z => evn (ansL [(a, 2), (b, 1)] z)) 0 1) = 1 := by
  have h1 : ansL [(a, 0), (b, 1)] a = [0] := by simp [ansL]
  have h2 : ansL [(a, 0), (b, 1)] b = [1] := by simp [ansL, ab]
  have h3 : ansL [(a, 2), (b, 1)] a = [2] := by simp [ansL]
  have h4 : ansL [(a, 2), (b, 1)] b = [1] := by simp [ansL, ab]
  have s1 : shownM "ordered" [a, b] (ansL [(a, 0), (b, 1)]) (fun z => evn (ansL [(a, 0), (b, 1)] z)) 0 1 = [.row a, .row b] := by
    unfold shownM
    rw [if_neg (by decide +kernel), if_pos rfl, sort2, if_pos (by simp only [dataLe, sortLe, intK, h1, h2]; decide)]
    rfl
  have s2 : shownM "ordered" [a, b] (ansL [(a, 2), (b, 1)]) (fun z => evn (ansL [(a, 2), (b, 1)] z)) 0 1 = [.row b, .row a] := by
    unfold shownM
    rw [if_neg (by decide +kernel), if_pos rfl, sort2, if_neg (by simp only [dataLe, sortLe, intK, h3, h4]; decide)]
    rfl
  rw [s1, s2]
  have k : Stp.kept [(.row a : Im), .row b] [.row b, .row a] = [1, 0] := by
    simp [Stp.kept, Stp.idx, List.findIdx_cons, ab]
  unfold Stp.stp
  rw [k]
  rfl
theorem sc3 (ab : a ≠ b) (ac : a ≠ c) (bc : b ≠ c) : Stp.stp (shownM "unique" [a, b, c] (ansL [(a, 0), (b, 0), (c, 1)]) (fun z => evn (ansL [(a, 0), (b, 0), (c, 1)] z)) 0 1) (shownM "unique" [a, b, c] (ansL [(a, 1), (b, 0), (c, 1)]) (fun z => evn (ansL [(a, 1), (b, 0), (c, 1)] z)) 0 1) = 2 := by
  have h1 : ansL [(a, 0), (b, 0), (c, 1)] a = [0] := by simp [ansL]
  have h2 : ansL [(a, 0), (b, 0), (c, 1)] b = [0] := by simp [ansL, ab]
  have h3 : ansL [(a, 0), (b, 0), (c, 1)] c = [1] := by simp [ansL, ac, bc]
  have h4 : ansL [(a, 1), (b, 0), (c, 1)] a = [1] := by simp [ansL]
  have h5 : ansL [(a, 1), (b, 0), (c, 1)] b = [0] := by simp [ansL, ab]
  have h6 : ansL [(a, 1), (b, 0), (c, 1)] c = [1] := by simp [ansL, ac, bc]
  have s1 : shownM "unique" [a, b, c] (ansL [(a, 0), (b, 0), (c, 1)]) (fun z => evn (ansL [(a, 0), (b, 0), (c, 1)] z)) 0 1 = [.row a, .row c] := by
    unfold shownM
    rw [if_neg (by decide +kernel), if_neg (by decide +kernel), if_pos rfl]
    simp [firstsOf, accF, addF, h1, h2, h3]
  have s2 : shownM "unique" [a, b, c] (ansL [(a, 1), (b, 0), (c, 1)]) (fun z => evn (ansL [(a, 1), (b, 0), (c, 1)] z)) 0 1 = [.row a, .row b] := by
    unfold shownM
    rw [if_neg (by decide +kernel), if_neg (by decide +kernel), if_pos rfl]
    simp [firstsOf, accF, addF, h4, h5, h6]
  rw [s1, s2]
  have k : Stp.kept [(.row a : Im), .row c] [.row a, .row b] = [0] := by
    simp [Stp.kept, Stp.idx, List.findIdx_cons, ab.symm, bc]
  unfold Stp.stp
  rw [k]
  rfl
theorem sc4 (ab : a ≠ b) : Stp.stp (shownM "unique" [a, b] (ansL [(a, 0), (b, 0)]) (fun z => evn (ansL [(a, 0), (b, 0)] z)) 0 1) (shownM "unique" [b] (ansL [(b, 0)]) (fun z => evn (ansL [(b, 0)] z)) 0 1) = 2 := by
  have h1 : ansL [(a, 0), (b, 0)] a = [0] := by simp [ansL]
  have h2 : ansL [(a, 0), (b, 0)] b = [0] := by simp [ansL, ab]
  have s1 : shownM "unique" [a, b] (ansL [(a, 0), (b, 0)]) (fun z => evn (ansL [(a, 0), (b, 0)] z)) 0 1 = [.row a] := by
    unfold shownM
    rw [if_neg (by decide +kernel), if_neg (by decide +kernel), if_pos rfl]
    simp [firstsOf, accF, addF, h1, h2]
  have s2 : shownM "unique" [b] (ansL [(b, 0)]) (fun z => evn (ansL [(b, 0)] z)) 0 1 = [.row b] := by
    unfold shownM
    rw [if_neg (by decide +kernel), if_neg (by decide +kernel), if_pos rfl]
    simp [firstsOf, accF, addF]
  rw [s1, s2]
  have k : Stp.kept [(.row a : Im)] [.row b] = [] := by
    simp [Stp.kept, ab.symm]
  unfold Stp.stp
  rw [k]
  rfl
theorem sc5 {an an2 : Str → List Int} {ev ev2 : Str → Bool} (ab : a ≠ b) : Stp.stp (shownM "window" [a, b, c] an ev 0 1) (shownM "window" [b, c] an2 ev2 0 1) = 2 := by
  have s1 : shownM "window" [a, b, c] an ev 0 1 = [.row a] := by
    unfold shownM
    rw [if_neg (by decide +kernel), if_neg (by decide +kernel), if_neg (by decide +kernel), if_neg (by decide +kernel), if_pos rfl]
    rfl
  have s2 : shownM "window" [b, c] an2 ev2 0 1 = [.row b] := by
    unfold shownM
    rw [if_neg (by decide +kernel), if_neg (by decide +kernel), if_neg (by decide +kernel), if_neg (by decide +kernel), if_pos rfl]
    rfl
  rw [s1, s2]
  have k : Stp.kept [(.row a : Im)] [.row b] = [] := by
    simp [Stp.kept, ab.symm]
  unfold Stp.stp
  rw [k]
  rfl
theorem grp_at {zs : List Str} {an : Str → List Int} {ev : Str → Bool} : shownM "grouped" zs an ev 0 1 = Stp.grp an zs (keysS an zs) := by
  unfold shownM
  rw [if_neg (by decide +kernel), if_neg (by decide +kernel), if_neg (by decide +kernel), if_pos rfl, grpM_due]
theorem sc67 (ab : a ≠ b) : shownM "grouped" [a, b] (ansL [(a, 0), (b, 1)]) (fun z => evn (ansL [(a, 0), (b, 1)] z)) 0 1 = [.hd [0], .row a, .hd [1], .row b] := by
  have h1 : ansL [(a, 0), (b, 1)] a = [0] := by simp [ansL]
  have h2 : ansL [(a, 0), (b, 1)] b = [1] := by simp [ansL, ab]
  rw [grp_at, key_is (ks := [[0], [1]]) (by decide) (by decide) (fun k => by simp [h1, h2, eq_comm])]
  simp [Stp.grp, Stp.cls, h1, h2]
theorem sc6 (ab : a ≠ b) : Stp.stp (shownM "grouped" [a, b] (ansL [(a, 0), (b, 1)]) (fun z => evn (ansL [(a, 0), (b, 1)] z)) 0 1) (shownM "grouped" [a, b] (ansL [(a, 2), (b, 1)]) (fun z => evn (ansL [(a, 2), (b, 1)] z)) 0 1) = 3 := by
  have h3 : ansL [(a, 2), (b, 1)] a = [2] := by simp [ansL]
  have h4 : ansL [(a, 2), (b, 1)] b = [1] := by simp [ansL, ab]
  have s2 : shownM "grouped" [a, b] (ansL [(a, 2), (b, 1)]) (fun z => evn (ansL [(a, 2), (b, 1)] z)) 0 1 = [.hd [1], .row b, .hd [2], .row a] := by
    rw [grp_at, key_is (ks := [[1], [2]]) (by decide) (by decide) (fun k => by simp [h3, h4, eq_comm, or_comm])]
    simp [Stp.grp, Stp.cls, h3, h4]
  rw [sc67 ab, s2]
  have k : Stp.kept [(.hd [0] : Im), .row a, .hd [1], .row b] [.hd [1], .row b, .hd [2], .row a] = [2, 3, 1] := by
    simp [Stp.kept, Stp.idx, List.findIdx_cons, ab]
  unfold Stp.stp
  rw [k]
  rfl
theorem sc7 (ab : a ≠ b) : Stp.stp (shownM "grouped" [a, b] (ansL [(a, 0), (b, 1)]) (fun z => evn (ansL [(a, 0), (b, 1)] z)) 0 1) (shownM "grouped" [a] (ansL [(a, 0)]) (fun z => evn (ansL [(a, 0)] z)) 0 1) = 2 := by
  have h3 : ansL [(a, 0)] a = [0] := by simp [ansL]
  have s2 : shownM "grouped" [a] (ansL [(a, 0)]) (fun z => evn (ansL [(a, 0)] z)) 0 1 = [.hd [0], .row a] := by
    rw [grp_at, key_is (ks := [[0]]) (by decide) (by decide) (fun k => by simp [h3, eq_comm])]
    simp [Stp.grp, Stp.cls, h3]
  rw [sc67 ab, s2]
  have k : Stp.kept [(.hd [0] : Im), .row a, .hd [1], .row b] [.hd [0], .row a] = [0, 1] := by
    simp [Stp.kept, Stp.idx, List.findIdx_cons, ab]
  unfold Stp.stp
  rw [k]
  rfl
theorem sc8 {an an2 : Str → List Int} {ev ev2 : Str → Bool} (ab : a ≠ b) (ac : a ≠ c) (ad : a ≠ d) (bc : b ≠ c) (bd : b ≠ d) (cd : c ≠ d) : Stp.stp (shownM "mapped" [a, b, c, d] an ev 0 1) (shownM "mapped" [d, a, b, c] an2 ev2 0 1) = 1 := by
  have s1 : ∀ zs an ev, shownM "mapped" zs an ev 0 1 = zs.map .row := fun zs an ev => by
    unfold shownM
    rw [if_neg (by decide +kernel), if_neg (by decide +kernel), if_neg (by decide +kernel), if_neg (by decide +kernel), if_neg (by decide +kernel)]
  rw [s1, s1]
  have k : Stp.kept ([a, b, c, d].map (.row : Str → Im)) ([d, a, b, c].map .row) = [3, 0, 1, 2] := by
    simp [Stp.kept, Stp.idx, List.findIdx_cons, ab, ac, ad, bc, bd, cd]
  unfold Stp.stp
  rw [k]
  rfl
end
end G
set_option Elab.async false
set_option linter.all false
set_option maxRecDepth 100000
set_option maxHeartbeats 8000000
/-! S5: _law_scenes_right, its loop. -/
namespace G
open PySem PySem.Spec PyProof.Rows L2 NdefX DvT StX SkL LamX PySem.W
abbrev sScn : Stmt := topS 54
abbrev nScn : List Str := ["_law_names_here", "_law_a", "_law_b", "_law_c", "_law_d", "_law_scenes", "_law_kind", "_law_rows", "_law_answers", "_law_other", "_law_more", "_law_steps_here", "_law_unlike", "_law_told"]
theorem scScn : FnScope nScn ["_law_names_here"] (defScope sScn) := ⟨rfl, rfl, rfl, by decide +kernel, rfl, by decide +kernel, by decide +kernel⟩
/-- one scene -/
def ScAt (H : Hp) (t : Addr) : Prop := ∃ (p : Str × Int) (l d l2 d2 : Addr) (zs zs2 : List Str) (kvs kvs2 : List (Key × V)) (an an2 : Str → List Int) (s e : Int), p ∈ facs ∧ H t = some (.tup [.str p.1, .ref l, .ref d, .ref l2, .ref d2, .int s, .int e]) ∧ H l = some (.lst (zs.map V.str)) ∧ H l2 = some (.lst (zs2.map V.str)) ∧ RowsOk zs ∧ RowsOk zs2 ∧
  (p.1 ≠ "window" → p.1 ≠ "mapped" → AnsOf H d kvs zs an) ∧ (p.1 ≠ "window" → p.1 ≠ "mapped" → AnsOf H d2 kvs2 zs2 an2) ∧ Stp.stp (shownM p.1 zs an (fun z => evn (an z)) 0 1) (shownM p.1 zs2 an2 (fun z => evn (an2 z)) 0 1) = most p.1 s e ∧ 0 ≤ s ∧ s ≤ 1 ∧ 0 ≤ e ∧ e ≤ 1
theorem ScAt.ext {H H' : Hp} {t : Addr} (h : ScAt H t) (x : ExtN H H') : ScAt H' t := by
  obtain ⟨p, l, d, l2, d2, zs, zs2, kvs, kvs2, an, an2, s, e, hp, h1, h2, h3, h4, h5, h6, h7, h8⟩ := h
  exact ⟨p, l, d, l2, d2, zs, zs2, kvs, kvs2, an, an2, s, e, hp, x _ _ h1 (fun _ z => nomatch z), x _ _ h2 (fun _ z => nomatch z), x _ _ h3 (fun _ z => nomatch z), h4, h5, fun a b => (h6 a b).ext x, fun a b => (h7 a b).ext x, h8⟩
theorem ScAt.same {H H' : Hp} {t : Addr} (h : ScAt H t) (s : Same H H') : ScAt H' t := h.ext (.of s)
/-- the scenes found so far -/
structure ScI (D : Addr) (H : Hp) (ts : List Addr) : Prop where
  eD : H D = some (.lst (ts.map V.ref))
  ok : ∀ t ∈ ts, ScAt (hide D H) t
theorem ScI.same {D : Addr} {H H' : Hp} {ts : List Addr} (h : ScI D H ts) (s : Same H H') : ScI D H' ts := ⟨s _ _ h.eD, fun t ht => (h.ok t ht).same (hide_mono s)⟩
theorem ScI.put {D t : Addr} {H : Hp} {ts : List Addr} (h : ScI D H ts) (ht : ScAt (hide D H) t) : ScI D (upd H D (.lst (ts.map V.ref ++ [V.ref t]))) (ts ++ [t]) := by
  refine ⟨?_, fun t' h' => ?_⟩
  · rw [upd_same, List.map_append]
    rfl
  · rw [hide_upd]
    rcases List.mem_append.mp h' with z | z
    · exact h.ok t' z
    · rw [List.mem_singleton.mp z]
      exact ht
theorem eqv_facs : PyData.eqv (.list ((facs.map (·.2)).map .int)) (.list ([1, 1, 2, 2, 3, 1].map .int)) = true := by decide +kernel
theorem ints_shaped (k : List Int) : SeqAt.shaped (.list (k.map .int)) = true := by
  have lay : ∀ k : List Int, PyData.canLayAll0 (k.map PyData.int) = true := fun k => by
    induction k with
    | nil => simp [PyData.canLayAll0]
    | cons a k ih => simp [PyData.canLayAll0, PyData.canLay0, ih]
  show ((PyData.list (k.map .int)).canLay0 && decide ((PyData.list (k.map .int)).depth ≤ 64)) = true
  rw [Bool.and_eq_true]
  refine ⟨?_, decide_eq_true ?_⟩
  · simp [PyData.canLay0, lay]
  · simp [PyData.depth, PySem.W.depth_ints]
def spScn (T : List (Addr × Str)) : Sp := fun vs H Q _ => ∃ (nl : Addr) (ys : List Str), vs = [.ref nl] ∧ H nl = some (.lst (ys.map V.str)) ∧ ys.length = 10 ∧ ys.Nodup ∧ (∀ z ∈ ys, NameZ z) ∧ Tabs T H ∧ ∀ H', ExtN H H' → Tabs T H' → Q (.bl true) H'
section
variable {P : Program} {w : World} {K : PySem.W.Frag} {mg : Str → Option Value} {base : Heap} {f : Addr} {fd : FuncData}
theorem sc_tail {fS fH fB fM fF fK : Addr} {fdS fdH fdB fdM fdF fdK : FuncData} {T : List (Addr × Str)} {cdv : Value} {A : Around} {outer : List Env} {s : Shared} {H : Hp} {E : XK}
    (GS : FnOk P w K mg base CX0 1 fS fdS ["_law_old", "_law_new"] (spLStp K)) (gS : mg "_law_steps" = some (.ref fS)) (kS : PySem.W.keepIn K (.ref fS) = true) (bS : Binds K fdS ["_law_old", "_law_new"] [])
    (GH : FnOk P w K mg base CX0 7 fH fdH ["_law_kind", "_law_rows", "_law_answers", "_law_span"] (spShown K T)) (gH : mg "_law_shown" = some (.ref fH)) (kH : PySem.W.keepIn K (.ref fH) = true) (bH : Binds K fdH ["_law_kind", "_law_rows", "_law_answers", "_law_span"] [])
    (GB : FnOk P w K mg base CX0 1 fB fdB ["_law_kind", "_law_steps_here", "_law_rows"] spBound) (gB : mg "_law_bound" = some (.ref fB)) (kB : PySem.W.keepIn K (.ref fB) = true) (bB : Binds K fdB ["_law_kind", "_law_steps_here", "_law_rows"] [])
    (GM : FnOk P w K mg base CX0 3 fM fdM ["kind", "steps", "differing"] spMost) (gM : mg "most_steps" = some (.ref fM)) (kM : PySem.W.keepIn K (.ref fM) = true) (bM : Binds K fdM ["kind", "steps", "differing"] [])
    (GF : FnOk P w K mg base CX0 3 fF fdF ["kind"] spFactor) (gF : mg "factor" = some (.ref fF)) (kF : PySem.W.keepIn K (.ref fF) = true) (bF : Binds K fdF ["kind"] [])
    (GK : FnOk P w K mg base CX0 1 fK fdK [] spKinds) (gK : mg "_law_kinds" = some (.ref fK)) (kK : PySem.W.keepIn K (.ref fK) = true) (bK : Binds K fdK [] [])
    (hr : Room 7 (A.deeper (envOfC "_law_scenes_right" (defScope sScn) s.heap.objs.size f cdv))) :
    ∃ t, PSs (cxOf CX0 P w K mg base nScn "_law_scenes_right" (defScope sScn) f cdv A outer s H E).nox ((defBody sScn).drop 9) t ∧
      ∀ (De : Ends) (x0 x1 x2 x3 x4 x6 x7 x8 x9 x10 x11 x12 x13 : Option V) (D : Addr) (H1 : Hp) (ts : List Addr), ScI D H1 ts → Tabs T H1 →
        (∀ H', ExtN H1 H' → Tabs T H' → De.rt (.bl true) H') →
        t De [x0, x1, x2, x3, x4, some (.ref D), x6, x7, x8, x9, x10, x11, x12, x13] H1 := by
  have hr1 := hr.mono (show 1 ≤ 7 by decide)
  have hr3 := hr.mono (show 3 ≤ 7 by decide)
  have hu64 : (A.deeper (envOfC "_law_scenes_right" (defScope sScn) s.heap.objs.size f cdv)).units + 64 < cLine := by have := hr.un; omega
  refine ⟨_, pss_cons (ps_for PassesOwn.never rfl (pi_list (pv 5)) (pg_tup rfl (pgs_cons (pg_name (i := 6) scScn.nd rfl (.inl rfl)) (pgs_cons (pg_name (i := 7) scScn.nd rfl (.inl rfl)) (pgs_cons (pg_name (i := 8) scScn.nd rfl (.inl rfl)) (pgs_cons (pg_name (i := 9) scScn.nd rfl (.inl rfl)) (pgs_cons (pg_name (i := 10) scScn.nd rfl (.inl rfl)) (pgs_cons (pg_name (i := 11) scScn.nd rfl (.inl rfl)) (pgs_cons (pg_name (i := 12) scScn.nd rfl (.inl rfl)) pgs_nil))))))))
      (pss_cons (ps_set (i := 13) scScn.nd rfl (.inl rfl) (pe_call GS hr1 rfl gS kS bS .nil pass0 (pa_cons (pe_call GH hr rfl gH kH bH .nil pass0 (pa_cons (pv 6) (pa_cons (pv 7) (pa_cons (pv 8) (pa_cons (pe_tup (pa_cons pe_int (pa_cons pe_int pa_nil))) pa_nil)))))
        (pa_cons (pe_call GH hr rfl gH kH bH .nil pass0 (pa_cons (pv 6) (pa_cons (pv 9) (pa_cons (pv 10) (pa_cons (pe_tup (pa_cons pe_int (pa_cons pe_int pa_nil))) pa_nil))))) pa_nil))))
      (pss_one (ps_if (PW.pt (pw_or (pt_cmpR op_ne (pv 13) (pe_call GB hr1 rfl gB kB bB .nil pass0 (pa_cons (pv 6) (pa_cons (pv 11) (pa_cons (pv 12) pa_nil)))) (nomark _))
        (pw_or1 (pt_cmpR op_ne (pv 13) (pe_call GM hr3 rfl gM kM bM .nil pass0 (pa_cons (pv 6) (pa_cons (pv 11) (pa_cons (pv 12) pa_nil)))) (nomark _))))) (pss_one ps_never) pss_nil))))
    (pss_one (ps_ret (pe_cmpR (r := rEqD K) (op_eqD (by exact hu64)) (pe_lc (own := [("_law_kind", 6)]) (g := gName 6) (tt := tYes) (by rfl) scScn.nd (pi_list (pe_call0 GK hr1 rfl gK kK bK .nil pass0)) (blkOk_by (own := [("_law_kind", 6)]) (N := nScn) (sc := defScope sScn) (by decide +kernel)) (fun _ _ _ _ _ => pg_name (i := 6) scScn.nd rfl (.inl rfl)) (fun _ _ _ _ _ => pts_nil)
        (fun _ _ _ _ _ => pe_call GF hr3 rfl gF kF bF .nil pass0 (pa_cons (pv 6) pa_nil)))
        (pe_lst (pa_cons pe_int (pa_cons pe_int (pa_cons pe_int (pa_cons pe_int (pa_cons pe_int (pa_cons pe_int pa_nil))))))) (nomark _)))), ?_⟩
  intro De x0 x1 x2 x3 x4 x6 x7 x8 x9 x10 x11 x12 x13 D H1 ts I hT q
  refine ⟨_, rfl, D, rfl, ⟨_, .of I.eD⟩, ?_⟩
  refine for_list (xs := ts.map V.ref) (fun i σ H2 => ExtN H1 H2 ∧ Tabs T H2 ∧ ∃ y6 y7 y8 y9 y10 y11 y12 y13 : Option V, σ = [x0, x1, x2, x3, x4, some (.ref D), y6, y7, y8, y9, y10, y11, y12, y13]) ?_ ?_ ?_ ?_
  · exact ⟨.refl _, hT, _, _, _, _, _, _, _, _, rfl⟩
  · rintro i σ H2 _ ⟨x2, _⟩
    exact .of (x2 _ _ I.eD fun _ z => nomatch z)
  · rintro i x σ H2 hx ⟨e2, T2, y6, y7, y8, y9, y10, y11, y12, y13, rfl⟩
    rw [List.getElem?_map] at hx
    obtain ⟨t, ht, rfl⟩ := Option.map_eq_some_iff.mp hx
    obtain ⟨p, l, d, l2, d2, zs, zs2, kvs, kvs2, an, an2, st, e, hp, h1, h2, h3, ro, ro2, h6, h7, told, s0, s1, e0, e1⟩ := ((I.ok t (List.mem_of_getElem? ht)).same (hide_same _ _)).ext e2
    have hk : p.1 ∈ facs.map (·.1) := List.mem_map.mpr ⟨p, hp, rfl⟩
    refine ⟨t, _, rfl, .of h1, rfl, _, _, rfl, _, _, rfl, _, _, rfl, _, _, rfl, _, _, rfl, _, _, rfl, _, _, rfl, rfl, ?_⟩
    refine ⟨_, rfl, _, rfl, _, rfl, (by show 2 ≤ sizeLine; decide), fun S hS => ?_⟩
    have t3 := Same.new (o := .tup [.int 0, .int 1]) hS
    have eS : upd H2 S (.tup [.int 0, .int 1]) S = some (.tup [.int ((0 : Nat) : Int), .int ((1 : Nat) : Int)]) := upd_same
    generalize upd H2 S (.tup [.int 0, .int 1]) = H3 at t3 eS ⊢
    refine ⟨p.1, l, d, S, zs, kvs, an, 0, 1, rfl, .of (t3 _ _ h2), ro, fun a b => (h6 a b).same t3, eS, by decide, by decide, hk, T2.ext t3, fun p1 H4 x4 T4 im1 => ?_⟩
    have x24 : ExtN H2 H4 := (ExtN.of t3).trans x4
    refine ⟨_, rfl, _, rfl, _, rfl, (by show 2 ≤ sizeLine; decide), fun S2 hS2 => ?_⟩
    have t5 := Same.new (o := .tup [.int 0, .int 1]) hS2
    have eS2 : upd H4 S2 (.tup [.int 0, .int 1]) S2 = some (.tup [.int ((0 : Nat) : Int), .int ((1 : Nat) : Int)]) := upd_same
    have x25 := x24.trans (.of t5)
    generalize upd H4 S2 (.tup [.int 0, .int 1]) = H5 at t5 eS2 x25 ⊢
    refine ⟨p.1, l2, d2, S2, zs2, kvs2, an2, 0, 1, rfl, .of (x25 _ _ h3 fun _ z => nomatch z), ro2, fun a b => (h7 a b).ext x25, eS2, by decide, by decide, hk, T4.ext t5, fun p2 H6 x6 T6 im2 => ?_⟩
    obtain ⟨ok1, l1⟩ := shown_ok (kind := p.1) (an := an) (ev := fun z => evn (an z)) (a := 0) (b := 1) ro
    obtain ⟨ok2, l2'⟩ := shown_ok (kind := p.1) (an := an2) (ev := fun z => evn (an2 z)) (a := 0) (b := 1) ro2
    refine ⟨p1, p2, _, _, rfl, im1.ext ((ExtN.of t5).trans x6), im2, shown_nd ro.nd, shown_nd ro2.nd, l1, l2', ok1, ok2, fun H7 s7 => ?_⟩
    rw [told]
    refine ⟨_, rfl, _, rfl, _, rfl, _, rfl, p, hp, st, e, rfl, fun H8 s8 => ⟨rfl, _, rfl, ne_ifI rfl ?_⟩⟩
    refine ⟨_, rfl, _, rfl, _, rfl, _, rfl, p, hp, st, e, rfl, s0, by omega, e0, by omega, rfl, _, rfl, ne_ifI rfl ?_⟩
    have s78 := s7.trans s8
    exact ⟨e2.trans ((x25.trans x6).trans (.of s78)), T6.ext s78, _, _, _, _, _, _, _, _, rfl⟩
  · rintro σ H2 ⟨e2, T2, y6, y7, y8, y9, y10, y11, y12, y13, rfl⟩
    refine ⟨rfl, fun kp hkp => ?_⟩
    have tk := Same.new (o := .lst ((facs.map (·.1)).map V.str)) hkp
    have ek : upd H2 kp (.lst ((facs.map (·.1)).map V.str)) kp = some (.lst ((facs.map (·.1)).map V.str)) := upd_same
    generalize upd H2 kp (.lst ((facs.map (·.1)).map V.str)) = H3 at tk ek ⊢
    refine ⟨kp, rfl, ⟨_, .of ek⟩, fun L hL => ?_⟩
    refine lc_list (xs := (facs.map (·.1)).map V.str) (fun i H4 => Same H3 H4 ∧ H4 L = some (.lst (((facs.take i).map (·.2)).map V.int))) ?_ ?_ ?_ ?_
    · exact ⟨Same.new hL, upd_same⟩
    · exact fun i H4 _ z => .of (z.1 _ _ ek)
    · rintro i x H4 hx ⟨s4, e4⟩
      rw [List.getElem?_map, List.getElem?_map] at hx
      obtain ⟨k, hk, rfl⟩ := Option.map_eq_some_iff.mp hx
      obtain ⟨p', hp', rfl⟩ := Option.map_eq_some_iff.mp hk
      refine ⟨rfl, ?_⟩
      unfold tYes
      dsimp only
      rw [if_pos rfl]
      refine ⟨_, rfl, p', List.mem_of_getElem? hp', rfl, _, e4, ?_, fun c o e => (upd_ne (ne_of_none e hL)).trans (s4 _ _ e), ?_⟩
      · rw [List.length_map, List.length_map, List.length_take]
        have : facs.length = 6 := rfl
        exact small1000 (by omega)
      · rw [upd_same, take_snocB hp', List.map_append, List.map_append]
        rfl
    · rintro H4 ⟨s4, e4⟩
      have e4 : H4 L = some (.lst ((facs.map (·.2)).map V.int)) := e4
      refine ⟨(by show 6 ≤ sizeLine; decide), fun M hM => ?_⟩
      have t5 := Same.new (o := .lst [.int 1, .int 1, .int 2, .int 2, .int 3, .int 1]) hM
      have eM : upd H4 M (.lst [.int 1, .int 1, .int 2, .int 2, .int 3, .int 1]) M = some (.lst (([1, 1, 2, 2, 3, 1] : List Int).map V.int)) := upd_same
      have s15 : Same H2 (upd H4 M (.lst [.int 1, .int 1, .int 2, .int 2, .int 3, .int 1])) := tk.trans (Same.trans s4 t5)
      refine ⟨_, _, .lst (.of (t5 _ _ e4)) (dp_intsM _), .lst (.of eM) (dp_intsM _), ints_shaped _, ints_shaped _, ?_⟩
      rw [eqv_facs]
      exact q _ (e2.trans (.of s15)) (T2.ext s15)
end
end G
set_option Elab.async false
set_option linter.all false
set_option maxRecDepth 100000
set_option maxHeartbeats 8000000
/-! S6: the scenes. -/
namespace G
open PySem PySem.Spec PyProof.Rows L2 NdefX DvT StX SkL LamX PySem.W

structure Four (a b c d : Str) : Prop where
  ab : a ≠ b
  ac : a ≠ c
  ad : a ≠ d
  bc : b ≠ c
  bd : b ≠ d
  cd : c ≠ d
  nm : ∀ z ∈ [a, b, c, d], NameZ z
theorem Four.nd {a b c d : Str} (F : Four a b c d) : [a, b, c, d].Nodup := by simp [F.ab, F.ac, F.ad, F.bc, F.bd, F.cd]
theorem Four.nd_ab {a b c d : Str} (F : Four a b c d) : [a, b].Nodup := by simp [F.ab, F.ac, F.ad, F.bc, F.bd, F.cd, F.ad.symm, F.bd.symm, F.cd.symm]
theorem Four.nd_abc {a b c d : Str} (F : Four a b c d) : [a, b, c].Nodup := by simp [F.ab, F.ac, F.ad, F.bc, F.bd, F.cd, F.ad.symm, F.bd.symm, F.cd.symm]
theorem Four.nd_b {a b c d : Str} (F : Four a b c d) : [b].Nodup := by simp [F.ab, F.ac, F.ad, F.bc, F.bd, F.cd, F.ad.symm, F.bd.symm, F.cd.symm]
theorem Four.nd_bc {a b c d : Str} (F : Four a b c d) : [b, c].Nodup := by simp [F.ab, F.ac, F.ad, F.bc, F.bd, F.cd, F.ad.symm, F.bd.symm, F.cd.symm]
theorem Four.nd_a {a b c d : Str} (F : Four a b c d) : [a].Nodup := by simp [F.ab, F.ac, F.ad, F.bc, F.bd, F.cd, F.ad.symm, F.bd.symm, F.cd.symm]
theorem Four.nd_dabc {a b c d : Str} (F : Four a b c d) : [d, a, b, c].Nodup := by simp [F.ab, F.ac, F.ad, F.bc, F.bd, F.cd, F.ad.symm, F.bd.symm, F.cd.symm]
/-- all but the tables and the list at D stay -/
def ExtD (D : Addr) (H H' : Hp) : Prop := ∀ c o, c ≠ D → H c = some o → (∀ ps, o ≠ .tbl ps) → H' c = some o
theorem tabs_lst {T : List (Addr × Str)} {D : Addr} {H : Hp} {xs : List V} {o : HO} (t : Tabs T H) (em : H D = some (.lst xs)) : Tabs T (upd H D o) := fun p hp => by
  obtain ⟨ps, h1, h2, h3⟩ := t p hp
  refine ⟨ps, (upd_ne (fun q => by rw [q, em] at h1; cases h1)).trans h1, h2, fun pos cv hc => ?_⟩
  obtain ⟨c, e1, e2⟩ := h3 pos cv hc
  refine ⟨c, e1, (upd_ne (fun q => ?_)).trans e2⟩
  rw [q, em] at e2
  unfold CodeO at e2
  cases e2
theorem Four.rows {a b c d : Str} (F : Four a b c d) {zs : List Str} (nd : zs.Nodup) (l : zs.length ≤ 40) (sub : ∀ z ∈ zs, z ∈ [a, b, c, d]) : RowsOk zs := ⟨l, nd, fun z hz => F.nm z (sub z hz)⟩
theorem kvL_nd {l : List (Str × Int)} (nd : (l.map (·.1)).Nodup) : ((kvL l).map (·.1)).Nodup := by
  unfold kvL
  rw [List.map_map]
  have e : l.map ((fun x : Key × V => x.1) ∘ fun p : Str × Int => ((Sum.inr p.1 : Key), V.int p.2)) = (l.map (·.1)).map Sum.inr := by
    rw [List.map_map]
    rfl
  rw [e]
  exact List.Pairwise.map _ (fun a b h e => h (Sum.inr.inj e)) nd

section
variable {P : Program} {w : World} {K : PySem.W.Frag} {mg : Str → Option Value} {base : Heap} {f : Addr} {fd : FuncData}
theorem sc_app7 {fS fH fB fM fF fK : Addr} {fdS fdH fdB fdM fdF fdK : FuncData} {T : List (Addr × Str)} {cdv : Value} {A : Around} {outer : List Env} {s : Shared} {H : Hp} {E : XK}
    (GS : FnOk P w K mg base CX0 1 fS fdS ["_law_old", "_law_new"] (spLStp K)) (gS : mg "_law_steps" = some (.ref fS)) (kS : PySem.W.keepIn K (.ref fS) = true) (bS : Binds K fdS ["_law_old", "_law_new"] [])
    (GH : FnOk P w K mg base CX0 7 fH fdH ["_law_kind", "_law_rows", "_law_answers", "_law_span"] (spShown K T)) (gH : mg "_law_shown" = some (.ref fH)) (kH : PySem.W.keepIn K (.ref fH) = true) (bH : Binds K fdH ["_law_kind", "_law_rows", "_law_answers", "_law_span"] [])
    (GB : FnOk P w K mg base CX0 1 fB fdB ["_law_kind", "_law_steps_here", "_law_rows"] spBound) (gB : mg "_law_bound" = some (.ref fB)) (kB : PySem.W.keepIn K (.ref fB) = true) (bB : Binds K fdB ["_law_kind", "_law_steps_here", "_law_rows"] [])
    (GM : FnOk P w K mg base CX0 3 fM fdM ["kind", "steps", "differing"] spMost) (gM : mg "most_steps" = some (.ref fM)) (kM : PySem.W.keepIn K (.ref fM) = true) (bM : Binds K fdM ["kind", "steps", "differing"] [])
    (GF : FnOk P w K mg base CX0 3 fF fdF ["kind"] spFactor) (gF : mg "factor" = some (.ref fF)) (kF : PySem.W.keepIn K (.ref fF) = true) (bF : Binds K fdF ["kind"] [])
    (GK : FnOk P w K mg base CX0 1 fK fdK [] spKinds) (gK : mg "_law_kinds" = some (.ref fK)) (kK : PySem.W.keepIn K (.ref fK) = true) (bK : Binds K fdK [] [])
    (hr : Room 7 (A.deeper (envOfC "_law_scenes_right" (defScope sScn) s.heap.objs.size f cdv))) :
    ∃ t, PSs (cxOf CX0 P w K mg base nScn "_law_scenes_right" (defScope sScn) f cdv A outer s H E).nox ((defBody sScn).drop 8) t ∧
      ∀ (De : Ends) (x0 x6 x7 x8 x9 x10 x11 x12 x13 : Option V) (a b c d : Str) (D : Addr) (H1 : Hp) (ts : List Addr), ScI D H1 ts → ts.length ≤ 7 → Four a b c d → Tabs T H1 →
        (∀ H', ExtD D H1 H' → Tabs T H' → De.rt (.bl true) H') →
        t De [x0, some (.str a), some (.str b), some (.str c), some (.str d), some (.ref D), x6, x7, x8, x9, x10, x11, x12, x13] H1 := by
  obtain ⟨tz, pz, qz⟩ := sc_tail (P := P) (w := w) (base := base) (outer := outer) (H := H) (E := E) (cdv := cdv) (s := s) (f := f) GS gS kS bS GH gH kH bH GB gB kB bB GM gM kM bM GF gF kF bF GK gK kK bK hr
  refine ⟨_, pss_cons (ps_expr (pe_bm PySem.F.plainAttrs_list PySem.F.slot_list_append PySem.F.type_list_append mt_append (pv 5) (pa_cons (pe_tup (pa_cons pe_str (pa_cons (pe_lst (pa_cons (pv 1) (pa_cons (pv 2) (pa_cons (pv 3) (pa_cons (pv 4) pa_nil))))) (pa_cons pe_dnewK (pa_cons (pe_lst (pa_cons (pv 4) (pa_cons (pv 1) (pa_cons (pv 2) (pa_cons (pv 3) pa_nil))))) (pa_cons pe_dnewK (pa_cons pe_int (pa_cons pe_int pa_nil)))))))) pa_nil))) pz, ?_⟩
  intro De x0 x6 x7 x8 x9 x10 x11 x12 x13 a b c d D H1 ts hs lts F hT q
  refine ⟨_, rfl, .inl ⟨rfl, _, .of hs.eD⟩, ?_⟩
  refine ⟨_, rfl, _, rfl, _, rfl, _, rfl, (by show 4 ≤ sizeLine; decide), fun l1 hl1 => ?_⟩
  have ul1 := Same.new (o := .lst [.str a, .str b, .str c, .str d]) hl1
  have el1 : upd H1 l1 (.lst [.str a, .str b, .str c, .str d]) l1 = some (.lst (([a, b, c, d] : List Str).map V.str)) := upd_same
  have nl1 := ne_lst hl1 (hs.eD)
  generalize upd H1 l1 (.lst [.str a, .str b, .str c, .str d]) = Hl71 at ul1 el1 ⊢
  have hs := hs.same ul1
  intro d1 hd1
  have ud1 := Same.new (o := .dK []) hd1
  generalize upd Hl71 d1 (.dK []) = Hd71 at ud1 ⊢
  have hs := hs.same ud1
  refine ⟨_, rfl, _, rfl, _, rfl, _, rfl, (by show 4 ≤ sizeLine; decide), fun l2 hl2 => ?_⟩
  have ul2 := Same.new (o := .lst [.str d, .str a, .str b, .str c]) hl2
  have el2 : upd Hd71 l2 (.lst [.str d, .str a, .str b, .str c]) l2 = some (.lst (([d, a, b, c] : List Str).map V.str)) := upd_same
  have nl2 := ne_lst hl2 (hs.eD)
  generalize upd Hd71 l2 (.lst [.str d, .str a, .str b, .str c]) = Hl72 at ul2 el2 ⊢
  have hs := hs.same ul2
  intro d2 hd2
  have ud2 := Same.new (o := .dK []) hd2
  generalize upd Hl72 d2 (.dK []) = Hd72 at ud2 ⊢
  have hs := hs.same ud2
  refine ⟨(by show 7 ≤ sizeLine; decide), fun t ht => ?_⟩
  have ut := Same.new (o := .tup [.str "mapped", .ref l1, .ref d1, .ref l2, .ref d2, .int 1, .int 0]) ht
  have et : upd Hd72 t (.tup [.str "mapped", .ref l1, .ref d1, .ref l2, .ref d2, .int 1, .int 0]) t = some (.tup [.str "mapped", .ref l1, .ref d1, .ref l2, .ref d2, .int 1, .int 0]) := upd_same
  have nt := ne_lst ht (hs.eD)
  generalize upd Hd72 t (.tup [.str "mapped", .ref l1, .ref d1, .ref l2, .ref d2, .int 1, .int 0]) = Ht7 at ut et ⊢
  have hs := hs.same ut
  have all := (ul1.trans (ud1.trans (ul2.trans (ud2.trans ut))))
  have sc : ScAt (hide D Ht7) t := ⟨("mapped", 1), l1, d1, l2, d2, [a, b, c, d], [d, a, b, c], [], [], fun _ => [], fun _ => [], 1, 0, by decide +kernel, (hide_ne nt).trans et, ((hide_ne nl1).trans (ut _ _ (ud2 _ _ (ul2 _ _ (ud1 _ _ el1))))), ((hide_ne nl2).trans (ut _ _ (ud2 _ _ el2))), F.rows (F.nd) (by show 4 ≤ 40; decide) (by simp), F.rows (F.nd_dabc) (by show 4 ≤ 40; decide) (by simp), fun _ h => absurd rfl h, fun _ h => absurd rfl h, (sc8 F.ab F.ac F.ad F.bc F.bd F.cd).trans (by decide +kernel), by decide, by decide, by decide, by decide⟩
  refine ⟨D, _, _, rfl, rfl, hs.eD, ?_, ?_⟩
  · rw [List.length_map]
    exact small1000 (by omega)
  exact qz De x0 _ _ _ _ x6 x7 x8 x9 x10 x11 x12 x13 D _ (ts ++ [t]) (hs.put sc) (tabs_lst (hT.ext all) hs.eD) fun H' x' T' => q H' (fun c o nc e n => x' c o ((upd_ne nc).trans (all _ _ e)) n) T'
theorem sc_app6 {fS fH fB fM fF fK : Addr} {fdS fdH fdB fdM fdF fdK : FuncData} {T : List (Addr × Str)} {cdv : Value} {A : Around} {outer : List Env} {s : Shared} {H : Hp} {E : XK}
    (GS : FnOk P w K mg base CX0 1 fS fdS ["_law_old", "_law_new"] (spLStp K)) (gS : mg "_law_steps" = some (.ref fS)) (kS : PySem.W.keepIn K (.ref fS) = true) (bS : Binds K fdS ["_law_old", "_law_new"] [])
    (GH : FnOk P w K mg base CX0 7 fH fdH ["_law_kind", "_law_rows", "_law_answers", "_law_span"] (spShown K T)) (gH : mg "_law_shown" = some (.ref fH)) (kH : PySem.W.keepIn K (.ref fH) = true) (bH : Binds K fdH ["_law_kind", "_law_rows", "_law_answers", "_law_span"] [])
    (GB : FnOk P w K mg base CX0 1 fB fdB ["_law_kind", "_law_steps_here", "_law_rows"] spBound) (gB : mg "_law_bound" = some (.ref fB)) (kB : PySem.W.keepIn K (.ref fB) = true) (bB : Binds K fdB ["_law_kind", "_law_steps_here", "_law_rows"] [])
    (GM : FnOk P w K mg base CX0 3 fM fdM ["kind", "steps", "differing"] spMost) (gM : mg "most_steps" = some (.ref fM)) (kM : PySem.W.keepIn K (.ref fM) = true) (bM : Binds K fdM ["kind", "steps", "differing"] [])
    (GF : FnOk P w K mg base CX0 3 fF fdF ["kind"] spFactor) (gF : mg "factor" = some (.ref fF)) (kF : PySem.W.keepIn K (.ref fF) = true) (bF : Binds K fdF ["kind"] [])
    (GK : FnOk P w K mg base CX0 1 fK fdK [] spKinds) (gK : mg "_law_kinds" = some (.ref fK)) (kK : PySem.W.keepIn K (.ref fK) = true) (bK : Binds K fdK [] [])
    (hr : Room 7 (A.deeper (envOfC "_law_scenes_right" (defScope sScn) s.heap.objs.size f cdv))) :
    ∃ t, PSs (cxOf CX0 P w K mg base nScn "_law_scenes_right" (defScope sScn) f cdv A outer s H E).nox ((defBody sScn).drop 7) t ∧
      ∀ (De : Ends) (x0 x6 x7 x8 x9 x10 x11 x12 x13 : Option V) (a b c d : Str) (D : Addr) (H1 : Hp) (ts : List Addr), ScI D H1 ts → ts.length ≤ 6 → Four a b c d → Tabs T H1 →
        (∀ H', ExtD D H1 H' → Tabs T H' → De.rt (.bl true) H') →
        t De [x0, some (.str a), some (.str b), some (.str c), some (.str d), some (.ref D), x6, x7, x8, x9, x10, x11, x12, x13] H1 := by
  obtain ⟨tz, pz, qz⟩ := sc_app7 (P := P) (w := w) (base := base) (outer := outer) (H := H) (E := E) (cdv := cdv) (s := s) (f := f) GS gS kS bS GH gH kH bH GB gB kB bB GM gM kM bM GF gF kF bF GK gK kK bK hr
  refine ⟨_, pss_cons (ps_expr (pe_bm PySem.F.plainAttrs_list PySem.F.slot_list_append PySem.F.type_list_append mt_append (pv 5) (pa_cons (pe_tup (pa_cons pe_str (pa_cons (pe_lst (pa_cons (pv 1) (pa_cons (pv 2) pa_nil))) (pa_cons (pe_disp (pps_cons (pv 1) pe_int (pps_cons (pv 2) pe_int pps_nil)) rfl rfl (fun z => nomatch z) (by decide)) (pa_cons (pe_lst (pa_cons (pv 1) pa_nil)) (pa_cons (pe_disp (pps_cons (pv 1) pe_int pps_nil) rfl rfl (fun z => nomatch z) (by decide)) (pa_cons pe_int (pa_cons pe_int pa_nil)))))))) pa_nil))) pz, ?_⟩
  intro De x0 x6 x7 x8 x9 x10 x11 x12 x13 a b c d D H1 ts hs lts F hT q
  refine ⟨_, rfl, .inl ⟨rfl, _, .of hs.eD⟩, ?_⟩
  refine ⟨_, rfl, _, rfl, (by show 2 ≤ sizeLine; decide), fun l1 hl1 => ?_⟩
  have ul1 := Same.new (o := .lst [.str a, .str b]) hl1
  have el1 : upd H1 l1 (.lst [.str a, .str b]) l1 = some (.lst (([a, b] : List Str).map V.str)) := upd_same
  have nl1 := ne_lst hl1 (hs.eD)
  generalize upd H1 l1 (.lst [.str a, .str b]) = Hl61 at ul1 el1 ⊢
  have hs := hs.same ul1
  intro d1 hd1
  refine ⟨_, rfl, _, rfl, upd_same, kvL [(a, 0), (b, 1)], rfl, (by show 2 ≤ 15; decide), ?_⟩
  rw [show mergeK [] (kvL [(a, 0), (b, 1)]) = kvL [(a, 0), (b, 1)] from (merge_ndX _ [] (by rw [List.nil_append]; exact kvL_nd (l := [(a, 0), (b, 1)]) (F.nd_ab))).trans (List.nil_append _)]
  have ud1 : Same Hl61 (upd (upd Hl61 d1 (.dK [])) d1 (.dK (kvL [(a, 0), (b, 1)]))) := fun c o e => (upd_ne (ne_of_none e hd1)).trans ((upd_ne (ne_of_none e hd1)).trans e)
  have ed1 : (upd (upd Hl61 d1 (.dK [])) d1 (.dK (kvL [(a, 0), (b, 1)]))) d1 = some (.dK (kvL [(a, 0), (b, 1)])) := upd_same
  have nd1 := ne_lst hd1 (hs.eD)
  generalize upd (upd Hl61 d1 (.dK [])) d1 (.dK (kvL [(a, 0), (b, 1)])) = Hd61 at ud1 ed1 ⊢
  have hs := hs.same ud1
  refine ⟨_, rfl, (by show 1 ≤ sizeLine; decide), fun l2 hl2 => ?_⟩
  have ul2 := Same.new (o := .lst [.str a]) hl2
  have el2 : upd Hd61 l2 (.lst [.str a]) l2 = some (.lst (([a] : List Str).map V.str)) := upd_same
  have nl2 := ne_lst hl2 (hs.eD)
  generalize upd Hd61 l2 (.lst [.str a]) = Hl62 at ul2 el2 ⊢
  have hs := hs.same ul2
  intro d2 hd2
  refine ⟨_, rfl, upd_same, kvL [(a, 0)], rfl, (by show 1 ≤ 15; decide), ?_⟩
  rw [show mergeK [] (kvL [(a, 0)]) = kvL [(a, 0)] from (merge_ndX _ [] (by rw [List.nil_append]; exact kvL_nd (l := [(a, 0)]) (F.nd_a))).trans (List.nil_append _)]
  have ud2 : Same Hl62 (upd (upd Hl62 d2 (.dK [])) d2 (.dK (kvL [(a, 0)]))) := fun c o e => (upd_ne (ne_of_none e hd2)).trans ((upd_ne (ne_of_none e hd2)).trans e)
  have ed2 : (upd (upd Hl62 d2 (.dK [])) d2 (.dK (kvL [(a, 0)]))) d2 = some (.dK (kvL [(a, 0)])) := upd_same
  have nd2 := ne_lst hd2 (hs.eD)
  generalize upd (upd Hl62 d2 (.dK [])) d2 (.dK (kvL [(a, 0)])) = Hd62 at ud2 ed2 ⊢
  have hs := hs.same ud2
  refine ⟨(by show 7 ≤ sizeLine; decide), fun t ht => ?_⟩
  have ut := Same.new (o := .tup [.str "grouped", .ref l1, .ref d1, .ref l2, .ref d2, .int 1, .int 0]) ht
  have et : upd Hd62 t (.tup [.str "grouped", .ref l1, .ref d1, .ref l2, .ref d2, .int 1, .int 0]) t = some (.tup [.str "grouped", .ref l1, .ref d1, .ref l2, .ref d2, .int 1, .int 0]) := upd_same
  have nt := ne_lst ht (hs.eD)
  generalize upd Hd62 t (.tup [.str "grouped", .ref l1, .ref d1, .ref l2, .ref d2, .int 1, .int 0]) = Ht6 at ut et ⊢
  have hs := hs.same ut
  have all := (ul1.trans (ud1.trans (ul2.trans (ud2.trans ut))))
  have sc : ScAt (hide D Ht6) t := ⟨("grouped", 3), l1, d1, l2, d2, [a, b], [a], kvL [(a, 0), (b, 1)], kvL [(a, 0)], ansL [(a, 0), (b, 1)], ansL [(a, 0)], 1, 0, by decide +kernel, (hide_ne nt).trans et, ((hide_ne nl1).trans (ut _ _ (ud2 _ _ (ul2 _ _ (ud1 _ _ el1))))), ((hide_ne nl2).trans (ut _ _ (ud2 _ _ el2))), F.rows (F.nd_ab) (by show 2 ≤ 40; decide) (by simp), F.rows (F.nd_a) (by show 1 ≤ 40; decide) (by simp), fun _ _ => ansL_of (l := [(a, 0), (b, 1)]) (F.nd_ab) ((hide_ne nd1).trans (ut _ _ (ud2 _ _ (ul2 _ _ ed1)))) (by intro p hp; simp only [List.mem_cons, List.not_mem_nil, or_false] at hp; rcases hp with rfl | rfl <;> (unfold OkI; dsimp only; omega)), fun _ _ => ansL_of (l := [(a, 0)]) (F.nd_a) ((hide_ne nd2).trans (ut _ _ ed2)) (by intro p hp; simp only [List.mem_cons, List.not_mem_nil, or_false] at hp; rcases hp with rfl <;> (unfold OkI; dsimp only; omega)), (sc7 F.ab).trans (by decide +kernel), by decide, by decide, by decide, by decide⟩
  refine ⟨D, _, _, rfl, rfl, hs.eD, ?_, ?_⟩
  · rw [List.length_map]
    exact small1000 (by omega)
  exact qz De x0 x6 x7 x8 x9 x10 x11 x12 x13 a b c d D _ (ts ++ [t]) (hs.put sc) (by rw [List.length_append, List.length_singleton]; omega) F (tabs_lst (hT.ext all) hs.eD) fun H' x' T' => q H' (fun c o nc e n => x' c o nc ((upd_ne nc).trans (all _ _ e)) n) T'
theorem sc_app5 {fS fH fB fM fF fK : Addr} {fdS fdH fdB fdM fdF fdK : FuncData} {T : List (Addr × Str)} {cdv : Value} {A : Around} {outer : List Env} {s : Shared} {H : Hp} {E : XK}
    (GS : FnOk P w K mg base CX0 1 fS fdS ["_law_old", "_law_new"] (spLStp K)) (gS : mg "_law_steps" = some (.ref fS)) (kS : PySem.W.keepIn K (.ref fS) = true) (bS : Binds K fdS ["_law_old", "_law_new"] [])
    (GH : FnOk P w K mg base CX0 7 fH fdH ["_law_kind", "_law_rows", "_law_answers", "_law_span"] (spShown K T)) (gH : mg "_law_shown" = some (.ref fH)) (kH : PySem.W.keepIn K (.ref fH) = true) (bH : Binds K fdH ["_law_kind", "_law_rows", "_law_answers", "_law_span"] [])
    (GB : FnOk P w K mg base CX0 1 fB fdB ["_law_kind", "_law_steps_here", "_law_rows"] spBound) (gB : mg "_law_bound" = some (.ref fB)) (kB : PySem.W.keepIn K (.ref fB) = true) (bB : Binds K fdB ["_law_kind", "_law_steps_here", "_law_rows"] [])
    (GM : FnOk P w K mg base CX0 3 fM fdM ["kind", "steps", "differing"] spMost) (gM : mg "most_steps" = some (.ref fM)) (kM : PySem.W.keepIn K (.ref fM) = true) (bM : Binds K fdM ["kind", "steps", "differing"] [])
    (GF : FnOk P w K mg base CX0 3 fF fdF ["kind"] spFactor) (gF : mg "factor" = some (.ref fF)) (kF : PySem.W.keepIn K (.ref fF) = true) (bF : Binds K fdF ["kind"] [])
    (GK : FnOk P w K mg base CX0 1 fK fdK [] spKinds) (gK : mg "_law_kinds" = some (.ref fK)) (kK : PySem.W.keepIn K (.ref fK) = true) (bK : Binds K fdK [] [])
    (hr : Room 7 (A.deeper (envOfC "_law_scenes_right" (defScope sScn) s.heap.objs.size f cdv))) :
    ∃ t, PSs (cxOf CX0 P w K mg base nScn "_law_scenes_right" (defScope sScn) f cdv A outer s H E).nox ((defBody sScn).drop 6) t ∧
      ∀ (De : Ends) (x0 x6 x7 x8 x9 x10 x11 x12 x13 : Option V) (a b c d : Str) (D : Addr) (H1 : Hp) (ts : List Addr), ScI D H1 ts → ts.length ≤ 5 → Four a b c d → Tabs T H1 →
        (∀ H', ExtD D H1 H' → Tabs T H' → De.rt (.bl true) H') →
        t De [x0, some (.str a), some (.str b), some (.str c), some (.str d), some (.ref D), x6, x7, x8, x9, x10, x11, x12, x13] H1 := by
  obtain ⟨tz, pz, qz⟩ := sc_app6 (P := P) (w := w) (base := base) (outer := outer) (H := H) (E := E) (cdv := cdv) (s := s) (f := f) GS gS kS bS GH gH kH bH GB gB kB bB GM gM kM bM GF gF kF bF GK gK kK bK hr
  refine ⟨_, pss_cons (ps_expr (pe_bm PySem.F.plainAttrs_list PySem.F.slot_list_append PySem.F.type_list_append mt_append (pv 5) (pa_cons (pe_tup (pa_cons pe_str (pa_cons (pe_lst (pa_cons (pv 1) (pa_cons (pv 2) pa_nil))) (pa_cons (pe_disp (pps_cons (pv 1) pe_int (pps_cons (pv 2) pe_int pps_nil)) rfl rfl (fun z => nomatch z) (by decide)) (pa_cons (pe_lst (pa_cons (pv 1) (pa_cons (pv 2) pa_nil))) (pa_cons (pe_disp (pps_cons (pv 1) pe_int (pps_cons (pv 2) pe_int pps_nil)) rfl rfl (fun z => nomatch z) (by decide)) (pa_cons pe_int (pa_cons pe_int pa_nil)))))))) pa_nil))) pz, ?_⟩
  intro De x0 x6 x7 x8 x9 x10 x11 x12 x13 a b c d D H1 ts hs lts F hT q
  refine ⟨_, rfl, .inl ⟨rfl, _, .of hs.eD⟩, ?_⟩
  refine ⟨_, rfl, _, rfl, (by show 2 ≤ sizeLine; decide), fun l1 hl1 => ?_⟩
  have ul1 := Same.new (o := .lst [.str a, .str b]) hl1
  have el1 : upd H1 l1 (.lst [.str a, .str b]) l1 = some (.lst (([a, b] : List Str).map V.str)) := upd_same
  have nl1 := ne_lst hl1 (hs.eD)
  generalize upd H1 l1 (.lst [.str a, .str b]) = Hl51 at ul1 el1 ⊢
  have hs := hs.same ul1
  intro d1 hd1
  refine ⟨_, rfl, _, rfl, upd_same, kvL [(a, 0), (b, 1)], rfl, (by show 2 ≤ 15; decide), ?_⟩
  rw [show mergeK [] (kvL [(a, 0), (b, 1)]) = kvL [(a, 0), (b, 1)] from (merge_ndX _ [] (by rw [List.nil_append]; exact kvL_nd (l := [(a, 0), (b, 1)]) (F.nd_ab))).trans (List.nil_append _)]
  have ud1 : Same Hl51 (upd (upd Hl51 d1 (.dK [])) d1 (.dK (kvL [(a, 0), (b, 1)]))) := fun c o e => (upd_ne (ne_of_none e hd1)).trans ((upd_ne (ne_of_none e hd1)).trans e)
  have ed1 : (upd (upd Hl51 d1 (.dK [])) d1 (.dK (kvL [(a, 0), (b, 1)]))) d1 = some (.dK (kvL [(a, 0), (b, 1)])) := upd_same
  have nd1 := ne_lst hd1 (hs.eD)
  generalize upd (upd Hl51 d1 (.dK [])) d1 (.dK (kvL [(a, 0), (b, 1)])) = Hd51 at ud1 ed1 ⊢
  have hs := hs.same ud1
  refine ⟨_, rfl, _, rfl, (by show 2 ≤ sizeLine; decide), fun l2 hl2 => ?_⟩
  have ul2 := Same.new (o := .lst [.str a, .str b]) hl2
  have el2 : upd Hd51 l2 (.lst [.str a, .str b]) l2 = some (.lst (([a, b] : List Str).map V.str)) := upd_same
  have nl2 := ne_lst hl2 (hs.eD)
  generalize upd Hd51 l2 (.lst [.str a, .str b]) = Hl52 at ul2 el2 ⊢
  have hs := hs.same ul2
  intro d2 hd2
  refine ⟨_, rfl, _, rfl, upd_same, kvL [(a, 2), (b, 1)], rfl, (by show 2 ≤ 15; decide), ?_⟩
  rw [show mergeK [] (kvL [(a, 2), (b, 1)]) = kvL [(a, 2), (b, 1)] from (merge_ndX _ [] (by rw [List.nil_append]; exact kvL_nd (l := [(a, 2), (b, 1)]) (F.nd_ab))).trans (List.nil_append _)]
  have ud2 : Same Hl52 (upd (upd Hl52 d2 (.dK [])) d2 (.dK (kvL [(a, 2), (b, 1)]))) := fun c o e => (upd_ne (ne_of_none e hd2)).trans ((upd_ne (ne_of_none e hd2)).trans e)
  have ed2 : (upd (upd Hl52 d2 (.dK [])) d2 (.dK (kvL [(a, 2), (b, 1)]))) d2 = some (.dK (kvL [(a, 2), (b, 1)])) := upd_same
  have nd2 := ne_lst hd2 (hs.eD)
  generalize upd (upd Hl52 d2 (.dK [])) d2 (.dK (kvL [(a, 2), (b, 1)])) = Hd52 at ud2 ed2 ⊢
  have hs := hs.same ud2
  refine ⟨(by show 7 ≤ sizeLine; decide), fun t ht => ?_⟩
  have ut := Same.new (o := .tup [.str "grouped", .ref l1, .ref d1, .ref l2, .ref d2, .int 0, .int 1]) ht
  have et : upd Hd52 t (.tup [.str "grouped", .ref l1, .ref d1, .ref l2, .ref d2, .int 0, .int 1]) t = some (.tup [.str "grouped", .ref l1, .ref d1, .ref l2, .ref d2, .int 0, .int 1]) := upd_same
  have nt := ne_lst ht (hs.eD)
  generalize upd Hd52 t (.tup [.str "grouped", .ref l1, .ref d1, .ref l2, .ref d2, .int 0, .int 1]) = Ht5 at ut et ⊢
  have hs := hs.same ut
  have all := (ul1.trans (ud1.trans (ul2.trans (ud2.trans ut))))
  have sc : ScAt (hide D Ht5) t := ⟨("grouped", 3), l1, d1, l2, d2, [a, b], [a, b], kvL [(a, 0), (b, 1)], kvL [(a, 2), (b, 1)], ansL [(a, 0), (b, 1)], ansL [(a, 2), (b, 1)], 0, 1, by decide +kernel, (hide_ne nt).trans et, ((hide_ne nl1).trans (ut _ _ (ud2 _ _ (ul2 _ _ (ud1 _ _ el1))))), ((hide_ne nl2).trans (ut _ _ (ud2 _ _ el2))), F.rows (F.nd_ab) (by show 2 ≤ 40; decide) (by simp), F.rows (F.nd_ab) (by show 2 ≤ 40; decide) (by simp), fun _ _ => ansL_of (l := [(a, 0), (b, 1)]) (F.nd_ab) ((hide_ne nd1).trans (ut _ _ (ud2 _ _ (ul2 _ _ ed1)))) (by intro p hp; simp only [List.mem_cons, List.not_mem_nil, or_false] at hp; rcases hp with rfl | rfl <;> (unfold OkI; dsimp only; omega)), fun _ _ => ansL_of (l := [(a, 2), (b, 1)]) (F.nd_ab) ((hide_ne nd2).trans (ut _ _ ed2)) (by intro p hp; simp only [List.mem_cons, List.not_mem_nil, or_false] at hp; rcases hp with rfl | rfl <;> (unfold OkI; dsimp only; omega)), (sc6 F.ab).trans (by decide +kernel), by decide, by decide, by decide, by decide⟩
  refine ⟨D, _, _, rfl, rfl, hs.eD, ?_, ?_⟩
  · rw [List.length_map]
    exact small1000 (by omega)
  exact qz De x0 x6 x7 x8 x9 x10 x11 x12 x13 a b c d D _ (ts ++ [t]) (hs.put sc) (by rw [List.length_append, List.length_singleton]; omega) F (tabs_lst (hT.ext all) hs.eD) fun H' x' T' => q H' (fun c o nc e n => x' c o nc ((upd_ne nc).trans (all _ _ e)) n) T'
theorem sc_app4 {fS fH fB fM fF fK : Addr} {fdS fdH fdB fdM fdF fdK : FuncData} {T : List (Addr × Str)} {cdv : Value} {A : Around} {outer : List Env} {s : Shared} {H : Hp} {E : XK}
    (GS : FnOk P w K mg base CX0 1 fS fdS ["_law_old", "_law_new"] (spLStp K)) (gS : mg "_law_steps" = some (.ref fS)) (kS : PySem.W.keepIn K (.ref fS) = true) (bS : Binds K fdS ["_law_old", "_law_new"] [])
    (GH : FnOk P w K mg base CX0 7 fH fdH ["_law_kind", "_law_rows", "_law_answers", "_law_span"] (spShown K T)) (gH : mg "_law_shown" = some (.ref fH)) (kH : PySem.W.keepIn K (.ref fH) = true) (bH : Binds K fdH ["_law_kind", "_law_rows", "_law_answers", "_law_span"] [])
    (GB : FnOk P w K mg base CX0 1 fB fdB ["_law_kind", "_law_steps_here", "_law_rows"] spBound) (gB : mg "_law_bound" = some (.ref fB)) (kB : PySem.W.keepIn K (.ref fB) = true) (bB : Binds K fdB ["_law_kind", "_law_steps_here", "_law_rows"] [])
    (GM : FnOk P w K mg base CX0 3 fM fdM ["kind", "steps", "differing"] spMost) (gM : mg "most_steps" = some (.ref fM)) (kM : PySem.W.keepIn K (.ref fM) = true) (bM : Binds K fdM ["kind", "steps", "differing"] [])
    (GF : FnOk P w K mg base CX0 3 fF fdF ["kind"] spFactor) (gF : mg "factor" = some (.ref fF)) (kF : PySem.W.keepIn K (.ref fF) = true) (bF : Binds K fdF ["kind"] [])
    (GK : FnOk P w K mg base CX0 1 fK fdK [] spKinds) (gK : mg "_law_kinds" = some (.ref fK)) (kK : PySem.W.keepIn K (.ref fK) = true) (bK : Binds K fdK [] [])
    (hr : Room 7 (A.deeper (envOfC "_law_scenes_right" (defScope sScn) s.heap.objs.size f cdv))) :
    ∃ t, PSs (cxOf CX0 P w K mg base nScn "_law_scenes_right" (defScope sScn) f cdv A outer s H E).nox ((defBody sScn).drop 5) t ∧
      ∀ (De : Ends) (x0 x6 x7 x8 x9 x10 x11 x12 x13 : Option V) (a b c d : Str) (D : Addr) (H1 : Hp) (ts : List Addr), ScI D H1 ts → ts.length ≤ 4 → Four a b c d → Tabs T H1 →
        (∀ H', ExtD D H1 H' → Tabs T H' → De.rt (.bl true) H') →
        t De [x0, some (.str a), some (.str b), some (.str c), some (.str d), some (.ref D), x6, x7, x8, x9, x10, x11, x12, x13] H1 := by
  obtain ⟨tz, pz, qz⟩ := sc_app5 (P := P) (w := w) (base := base) (outer := outer) (H := H) (E := E) (cdv := cdv) (s := s) (f := f) GS gS kS bS GH gH kH bH GB gB kB bB GM gM kM bM GF gF kF bF GK gK kK bK hr
  refine ⟨_, pss_cons (ps_expr (pe_bm PySem.F.plainAttrs_list PySem.F.slot_list_append PySem.F.type_list_append mt_append (pv 5) (pa_cons (pe_tup (pa_cons pe_str (pa_cons (pe_lst (pa_cons (pv 1) (pa_cons (pv 2) (pa_cons (pv 3) pa_nil)))) (pa_cons pe_dnewK (pa_cons (pe_lst (pa_cons (pv 2) (pa_cons (pv 3) pa_nil))) (pa_cons pe_dnewK (pa_cons pe_int (pa_cons pe_int pa_nil)))))))) pa_nil))) pz, ?_⟩
  intro De x0 x6 x7 x8 x9 x10 x11 x12 x13 a b c d D H1 ts hs lts F hT q
  refine ⟨_, rfl, .inl ⟨rfl, _, .of hs.eD⟩, ?_⟩
  refine ⟨_, rfl, _, rfl, _, rfl, (by show 3 ≤ sizeLine; decide), fun l1 hl1 => ?_⟩
  have ul1 := Same.new (o := .lst [.str a, .str b, .str c]) hl1
  have el1 : upd H1 l1 (.lst [.str a, .str b, .str c]) l1 = some (.lst (([a, b, c] : List Str).map V.str)) := upd_same
  have nl1 := ne_lst hl1 (hs.eD)
  generalize upd H1 l1 (.lst [.str a, .str b, .str c]) = Hl41 at ul1 el1 ⊢
  have hs := hs.same ul1
  intro d1 hd1
  have ud1 := Same.new (o := .dK []) hd1
  generalize upd Hl41 d1 (.dK []) = Hd41 at ud1 ⊢
  have hs := hs.same ud1
  refine ⟨_, rfl, _, rfl, (by show 2 ≤ sizeLine; decide), fun l2 hl2 => ?_⟩
  have ul2 := Same.new (o := .lst [.str b, .str c]) hl2
  have el2 : upd Hd41 l2 (.lst [.str b, .str c]) l2 = some (.lst (([b, c] : List Str).map V.str)) := upd_same
  have nl2 := ne_lst hl2 (hs.eD)
  generalize upd Hd41 l2 (.lst [.str b, .str c]) = Hl42 at ul2 el2 ⊢
  have hs := hs.same ul2
  intro d2 hd2
  have ud2 := Same.new (o := .dK []) hd2
  generalize upd Hl42 d2 (.dK []) = Hd42 at ud2 ⊢
  have hs := hs.same ud2
  refine ⟨(by show 7 ≤ sizeLine; decide), fun t ht => ?_⟩
  have ut := Same.new (o := .tup [.str "window", .ref l1, .ref d1, .ref l2, .ref d2, .int 1, .int 0]) ht
  have et : upd Hd42 t (.tup [.str "window", .ref l1, .ref d1, .ref l2, .ref d2, .int 1, .int 0]) t = some (.tup [.str "window", .ref l1, .ref d1, .ref l2, .ref d2, .int 1, .int 0]) := upd_same
  have nt := ne_lst ht (hs.eD)
  generalize upd Hd42 t (.tup [.str "window", .ref l1, .ref d1, .ref l2, .ref d2, .int 1, .int 0]) = Ht4 at ut et ⊢
  have hs := hs.same ut
  have all := (ul1.trans (ud1.trans (ul2.trans (ud2.trans ut))))
  have sc : ScAt (hide D Ht4) t := ⟨("window", 2), l1, d1, l2, d2, [a, b, c], [b, c], [], [], fun _ => [], fun _ => [], 1, 0, by decide +kernel, (hide_ne nt).trans et, ((hide_ne nl1).trans (ut _ _ (ud2 _ _ (ul2 _ _ (ud1 _ _ el1))))), ((hide_ne nl2).trans (ut _ _ (ud2 _ _ el2))), F.rows (F.nd_abc) (by show 3 ≤ 40; decide) (by simp), F.rows (F.nd_bc) (by show 2 ≤ 40; decide) (by simp), fun h _ => absurd rfl h, fun h _ => absurd rfl h, (sc5 F.ab).trans (by decide +kernel), by decide, by decide, by decide, by decide⟩
  refine ⟨D, _, _, rfl, rfl, hs.eD, ?_, ?_⟩
  · rw [List.length_map]
    exact small1000 (by omega)
  exact qz De x0 x6 x7 x8 x9 x10 x11 x12 x13 a b c d D _ (ts ++ [t]) (hs.put sc) (by rw [List.length_append, List.length_singleton]; omega) F (tabs_lst (hT.ext all) hs.eD) fun H' x' T' => q H' (fun c o nc e n => x' c o nc ((upd_ne nc).trans (all _ _ e)) n) T'
theorem sc_app3 {fS fH fB fM fF fK : Addr} {fdS fdH fdB fdM fdF fdK : FuncData} {T : List (Addr × Str)} {cdv : Value} {A : Around} {outer : List Env} {s : Shared} {H : Hp} {E : XK}
    (GS : FnOk P w K mg base CX0 1 fS fdS ["_law_old", "_law_new"] (spLStp K)) (gS : mg "_law_steps" = some (.ref fS)) (kS : PySem.W.keepIn K (.ref fS) = true) (bS : Binds K fdS ["_law_old", "_law_new"] [])
    (GH : FnOk P w K mg base CX0 7 fH fdH ["_law_kind", "_law_rows", "_law_answers", "_law_span"] (spShown K T)) (gH : mg "_law_shown" = some (.ref fH)) (kH : PySem.W.keepIn K (.ref fH) = true) (bH : Binds K fdH ["_law_kind", "_law_rows", "_law_answers", "_law_span"] [])
    (GB : FnOk P w K mg base CX0 1 fB fdB ["_law_kind", "_law_steps_here", "_law_rows"] spBound) (gB : mg "_law_bound" = some (.ref fB)) (kB : PySem.W.keepIn K (.ref fB) = true) (bB : Binds K fdB ["_law_kind", "_law_steps_here", "_law_rows"] [])
    (GM : FnOk P w K mg base CX0 3 fM fdM ["kind", "steps", "differing"] spMost) (gM : mg "most_steps" = some (.ref fM)) (kM : PySem.W.keepIn K (.ref fM) = true) (bM : Binds K fdM ["kind", "steps", "differing"] [])
    (GF : FnOk P w K mg base CX0 3 fF fdF ["kind"] spFactor) (gF : mg "factor" = some (.ref fF)) (kF : PySem.W.keepIn K (.ref fF) = true) (bF : Binds K fdF ["kind"] [])
    (GK : FnOk P w K mg base CX0 1 fK fdK [] spKinds) (gK : mg "_law_kinds" = some (.ref fK)) (kK : PySem.W.keepIn K (.ref fK) = true) (bK : Binds K fdK [] [])
    (hr : Room 7 (A.deeper (envOfC "_law_scenes_right" (defScope sScn) s.heap.objs.size f cdv))) :
    ∃ t, PSs (cxOf CX0 P w K mg base nScn "_law_scenes_right" (defScope sScn) f cdv A outer s H E).nox ((defBody sScn).drop 4) t ∧
      ∀ (De : Ends) (x0 x6 x7 x8 x9 x10 x11 x12 x13 : Option V) (a b c d : Str) (D : Addr) (H1 : Hp) (ts : List Addr), ScI D H1 ts → ts.length ≤ 3 → Four a b c d → Tabs T H1 →
        (∀ H', ExtD D H1 H' → Tabs T H' → De.rt (.bl true) H') →
        t De [x0, some (.str a), some (.str b), some (.str c), some (.str d), some (.ref D), x6, x7, x8, x9, x10, x11, x12, x13] H1 := by
  obtain ⟨tz, pz, qz⟩ := sc_app4 (P := P) (w := w) (base := base) (outer := outer) (H := H) (E := E) (cdv := cdv) (s := s) (f := f) GS gS kS bS GH gH kH bH GB gB kB bB GM gM kM bM GF gF kF bF GK gK kK bK hr
  refine ⟨_, pss_cons (ps_expr (pe_bm PySem.F.plainAttrs_list PySem.F.slot_list_append PySem.F.type_list_append mt_append (pv 5) (pa_cons (pe_tup (pa_cons pe_str (pa_cons (pe_lst (pa_cons (pv 1) (pa_cons (pv 2) pa_nil))) (pa_cons (pe_disp (pps_cons (pv 1) pe_int (pps_cons (pv 2) pe_int pps_nil)) rfl rfl (fun z => nomatch z) (by decide)) (pa_cons (pe_lst (pa_cons (pv 2) pa_nil)) (pa_cons (pe_disp (pps_cons (pv 2) pe_int pps_nil) rfl rfl (fun z => nomatch z) (by decide)) (pa_cons pe_int (pa_cons pe_int pa_nil)))))))) pa_nil))) pz, ?_⟩
  intro De x0 x6 x7 x8 x9 x10 x11 x12 x13 a b c d D H1 ts hs lts F hT q
  refine ⟨_, rfl, .inl ⟨rfl, _, .of hs.eD⟩, ?_⟩
  refine ⟨_, rfl, _, rfl, (by show 2 ≤ sizeLine; decide), fun l1 hl1 => ?_⟩
  have ul1 := Same.new (o := .lst [.str a, .str b]) hl1
  have el1 : upd H1 l1 (.lst [.str a, .str b]) l1 = some (.lst (([a, b] : List Str).map V.str)) := upd_same
  have nl1 := ne_lst hl1 (hs.eD)
  generalize upd H1 l1 (.lst [.str a, .str b]) = Hl31 at ul1 el1 ⊢
  have hs := hs.same ul1
  intro d1 hd1
  refine ⟨_, rfl, _, rfl, upd_same, kvL [(a, 0), (b, 0)], rfl, (by show 2 ≤ 15; decide), ?_⟩
  rw [show mergeK [] (kvL [(a, 0), (b, 0)]) = kvL [(a, 0), (b, 0)] from (merge_ndX _ [] (by rw [List.nil_append]; exact kvL_nd (l := [(a, 0), (b, 0)]) (F.nd_ab))).trans (List.nil_append _)]
  have ud1 : Same Hl31 (upd (upd Hl31 d1 (.dK [])) d1 (.dK (kvL [(a, 0), (b, 0)]))) := fun c o e => (upd_ne (ne_of_none e hd1)).trans ((upd_ne (ne_of_none e hd1)).trans e)
  have ed1 : (upd (upd Hl31 d1 (.dK [])) d1 (.dK (kvL [(a, 0), (b, 0)]))) d1 = some (.dK (kvL [(a, 0), (b, 0)])) := upd_same
  have nd1 := ne_lst hd1 (hs.eD)
  generalize upd (upd Hl31 d1 (.dK [])) d1 (.dK (kvL [(a, 0), (b, 0)])) = Hd31 at ud1 ed1 ⊢
  have hs := hs.same ud1
  refine ⟨_, rfl, (by show 1 ≤ sizeLine; decide), fun l2 hl2 => ?_⟩
  have ul2 := Same.new (o := .lst [.str b]) hl2
  have el2 : upd Hd31 l2 (.lst [.str b]) l2 = some (.lst (([b] : List Str).map V.str)) := upd_same
  have nl2 := ne_lst hl2 (hs.eD)
  generalize upd Hd31 l2 (.lst [.str b]) = Hl32 at ul2 el2 ⊢
  have hs := hs.same ul2
  intro d2 hd2
  refine ⟨_, rfl, upd_same, kvL [(b, 0)], rfl, (by show 1 ≤ 15; decide), ?_⟩
  rw [show mergeK [] (kvL [(b, 0)]) = kvL [(b, 0)] from (merge_ndX _ [] (by rw [List.nil_append]; exact kvL_nd (l := [(b, 0)]) (F.nd_b))).trans (List.nil_append _)]
  have ud2 : Same Hl32 (upd (upd Hl32 d2 (.dK [])) d2 (.dK (kvL [(b, 0)]))) := fun c o e => (upd_ne (ne_of_none e hd2)).trans ((upd_ne (ne_of_none e hd2)).trans e)
  have ed2 : (upd (upd Hl32 d2 (.dK [])) d2 (.dK (kvL [(b, 0)]))) d2 = some (.dK (kvL [(b, 0)])) := upd_same
  have nd2 := ne_lst hd2 (hs.eD)
  generalize upd (upd Hl32 d2 (.dK [])) d2 (.dK (kvL [(b, 0)])) = Hd32 at ud2 ed2 ⊢
  have hs := hs.same ud2
  refine ⟨(by show 7 ≤ sizeLine; decide), fun t ht => ?_⟩
  have ut := Same.new (o := .tup [.str "unique", .ref l1, .ref d1, .ref l2, .ref d2, .int 1, .int 0]) ht
  have et : upd Hd32 t (.tup [.str "unique", .ref l1, .ref d1, .ref l2, .ref d2, .int 1, .int 0]) t = some (.tup [.str "unique", .ref l1, .ref d1, .ref l2, .ref d2, .int 1, .int 0]) := upd_same
  have nt := ne_lst ht (hs.eD)
  generalize upd Hd32 t (.tup [.str "unique", .ref l1, .ref d1, .ref l2, .ref d2, .int 1, .int 0]) = Ht3 at ut et ⊢
  have hs := hs.same ut
  have all := (ul1.trans (ud1.trans (ul2.trans (ud2.trans ut))))
  have sc : ScAt (hide D Ht3) t := ⟨("unique", 2), l1, d1, l2, d2, [a, b], [b], kvL [(a, 0), (b, 0)], kvL [(b, 0)], ansL [(a, 0), (b, 0)], ansL [(b, 0)], 1, 0, by decide +kernel, (hide_ne nt).trans et, ((hide_ne nl1).trans (ut _ _ (ud2 _ _ (ul2 _ _ (ud1 _ _ el1))))), ((hide_ne nl2).trans (ut _ _ (ud2 _ _ el2))), F.rows (F.nd_ab) (by show 2 ≤ 40; decide) (by simp), F.rows (F.nd_b) (by show 1 ≤ 40; decide) (by simp), fun _ _ => ansL_of (l := [(a, 0), (b, 0)]) (F.nd_ab) ((hide_ne nd1).trans (ut _ _ (ud2 _ _ (ul2 _ _ ed1)))) (by intro p hp; simp only [List.mem_cons, List.not_mem_nil, or_false] at hp; rcases hp with rfl | rfl <;> (unfold OkI; dsimp only; omega)), fun _ _ => ansL_of (l := [(b, 0)]) (F.nd_b) ((hide_ne nd2).trans (ut _ _ ed2)) (by intro p hp; simp only [List.mem_cons, List.not_mem_nil, or_false] at hp; rcases hp with rfl <;> (unfold OkI; dsimp only; omega)), (sc4 F.ab).trans (by decide +kernel), by decide, by decide, by decide, by decide⟩
  refine ⟨D, _, _, rfl, rfl, hs.eD, ?_, ?_⟩
  · rw [List.length_map]
    exact small1000 (by omega)
  exact qz De x0 x6 x7 x8 x9 x10 x11 x12 x13 a b c d D _ (ts ++ [t]) (hs.put sc) (by rw [List.length_append, List.length_singleton]; omega) F (tabs_lst (hT.ext all) hs.eD) fun H' x' T' => q H' (fun c o nc e n => x' c o nc ((upd_ne nc).trans (all _ _ e)) n) T'
theorem sc_app2 {fS fH fB fM fF fK : Addr} {fdS fdH fdB fdM fdF fdK : FuncData} {T : List (Addr × Str)} {cdv : Value} {A : Around} {outer : List Env} {s : Shared} {H : Hp} {E : XK}
    (GS : FnOk P w K mg base CX0 1 fS fdS ["_law_old", "_law_new"] (spLStp K)) (gS : mg "_law_steps" = some (.ref fS)) (kS : PySem.W.keepIn K (.ref fS) = true) (bS : Binds K fdS ["_law_old", "_law_new"] [])
    (GH : FnOk P w K mg base CX0 7 fH fdH ["_law_kind", "_law_rows", "_law_answers", "_law_span"] (spShown K T)) (gH : mg "_law_shown" = some (.ref fH)) (kH : PySem.W.keepIn K (.ref fH) = true) (bH : Binds K fdH ["_law_kind", "_law_rows", "_law_answers", "_law_span"] [])
    (GB : FnOk P w K mg base CX0 1 fB fdB ["_law_kind", "_law_steps_here", "_law_rows"] spBound) (gB : mg "_law_bound" = some (.ref fB)) (kB : PySem.W.keepIn K (.ref fB) = true) (bB : Binds K fdB ["_law_kind", "_law_steps_here", "_law_rows"] [])
    (GM : FnOk P w K mg base CX0 3 fM fdM ["kind", "steps", "differing"] spMost) (gM : mg "most_steps" = some (.ref fM)) (kM : PySem.W.keepIn K (.ref fM) = true) (bM : Binds K fdM ["kind", "steps", "differing"] [])
    (GF : FnOk P w K mg base CX0 3 fF fdF ["kind"] spFactor) (gF : mg "factor" = some (.ref fF)) (kF : PySem.W.keepIn K (.ref fF) = true) (bF : Binds K fdF ["kind"] [])
    (GK : FnOk P w K mg base CX0 1 fK fdK [] spKinds) (gK : mg "_law_kinds" = some (.ref fK)) (kK : PySem.W.keepIn K (.ref fK) = true) (bK : Binds K fdK [] [])
    (hr : Room 7 (A.deeper (envOfC "_law_scenes_right" (defScope sScn) s.heap.objs.size f cdv))) :
    ∃ t, PSs (cxOf CX0 P w K mg base nScn "_law_scenes_right" (defScope sScn) f cdv A outer s H E).nox ((defBody sScn).drop 3) t ∧
      ∀ (De : Ends) (x0 x6 x7 x8 x9 x10 x11 x12 x13 : Option V) (a b c d : Str) (D : Addr) (H1 : Hp) (ts : List Addr), ScI D H1 ts → ts.length ≤ 2 → Four a b c d → Tabs T H1 →
        (∀ H', ExtD D H1 H' → Tabs T H' → De.rt (.bl true) H') →
        t De [x0, some (.str a), some (.str b), some (.str c), some (.str d), some (.ref D), x6, x7, x8, x9, x10, x11, x12, x13] H1 := by
  obtain ⟨tz, pz, qz⟩ := sc_app3 (P := P) (w := w) (base := base) (outer := outer) (H := H) (E := E) (cdv := cdv) (s := s) (f := f) GS gS kS bS GH gH kH bH GB gB kB bB GM gM kM bM GF gF kF bF GK gK kK bK hr
  refine ⟨_, pss_cons (ps_expr (pe_bm PySem.F.plainAttrs_list PySem.F.slot_list_append PySem.F.type_list_append mt_append (pv 5) (pa_cons (pe_tup (pa_cons pe_str (pa_cons (pe_lst (pa_cons (pv 1) (pa_cons (pv 2) (pa_cons (pv 3) pa_nil)))) (pa_cons (pe_disp (pps_cons (pv 1) pe_int (pps_cons (pv 2) pe_int (pps_cons (pv 3) pe_int pps_nil))) rfl rfl (fun z => nomatch z) (by decide)) (pa_cons (pe_lst (pa_cons (pv 1) (pa_cons (pv 2) (pa_cons (pv 3) pa_nil)))) (pa_cons (pe_disp (pps_cons (pv 1) pe_int (pps_cons (pv 2) pe_int (pps_cons (pv 3) pe_int pps_nil))) rfl rfl (fun z => nomatch z) (by decide)) (pa_cons pe_int (pa_cons pe_int pa_nil)))))))) pa_nil))) pz, ?_⟩
  intro De x0 x6 x7 x8 x9 x10 x11 x12 x13 a b c d D H1 ts hs lts F hT q
  refine ⟨_, rfl, .inl ⟨rfl, _, .of hs.eD⟩, ?_⟩
  refine ⟨_, rfl, _, rfl, _, rfl, (by show 3 ≤ sizeLine; decide), fun l1 hl1 => ?_⟩
  have ul1 := Same.new (o := .lst [.str a, .str b, .str c]) hl1
  have el1 : upd H1 l1 (.lst [.str a, .str b, .str c]) l1 = some (.lst (([a, b, c] : List Str).map V.str)) := upd_same
  have nl1 := ne_lst hl1 (hs.eD)
  generalize upd H1 l1 (.lst [.str a, .str b, .str c]) = Hl21 at ul1 el1 ⊢
  have hs := hs.same ul1
  intro d1 hd1
  refine ⟨_, rfl, _, rfl, _, rfl, upd_same, kvL [(a, 0), (b, 0), (c, 1)], rfl, (by show 3 ≤ 15; decide), ?_⟩
  rw [show mergeK [] (kvL [(a, 0), (b, 0), (c, 1)]) = kvL [(a, 0), (b, 0), (c, 1)] from (merge_ndX _ [] (by rw [List.nil_append]; exact kvL_nd (l := [(a, 0), (b, 0), (c, 1)]) (F.nd_abc))).trans (List.nil_append _)]
  have ud1 : Same Hl21 (upd (upd Hl21 d1 (.dK [])) d1 (.dK (kvL [(a, 0), (b, 0), (c, 1)]))) := fun c o e => (upd_ne (ne_of_none e hd1)).trans ((upd_ne (ne_of_none e hd1)).trans e)
  have ed1 : (upd (upd Hl21 d1 (.dK [])) d1 (.dK (kvL [(a, 0), (b, 0), (c, 1)]))) d1 = some (.dK (kvL [(a, 0), (b, 0), (c, 1)])) := upd_same
  have nd1 := ne_lst hd1 (hs.eD)
  generalize upd (upd Hl21 d1 (.dK [])) d1 (.dK (kvL [(a, 0), (b, 0), (c, 1)])) = Hd21 at ud1 ed1 ⊢
  have hs := hs.same ud1
  refine ⟨_, rfl, _, rfl, _, rfl, (by show 3 ≤ sizeLine; decide), fun l2 hl2 => ?_⟩
  have ul2 := Same.new (o := .lst [.str a, .str b, .str c]) hl2
  have el2 : upd Hd21 l2 (.lst [.str a, .str b, .str c]) l2 = some (.lst (([a, b, c] : List Str).map V.str)) := upd_same
  have nl2 := ne_lst hl2 (hs.eD)
  generalize upd Hd21 l2 (.lst [.str a, .str b, .str c]) = Hl22 at ul2 el2 ⊢
  have hs := hs.same ul2
  intro d2 hd2
  refine ⟨_, rfl, _, rfl, _, rfl, upd_same, kvL [(a, 1), (b, 0), (c, 1)], rfl, (by show 3 ≤ 15; decide), ?_⟩
  rw [show mergeK [] (kvL [(a, 1), (b, 0), (c, 1)]) = kvL [(a, 1), (b, 0), (c, 1)] from (merge_ndX _ [] (by rw [List.nil_append]; exact kvL_nd (l := [(a, 1), (b, 0), (c, 1)]) (F.nd_abc))).trans (List.nil_append _)]
  have ud2 : Same Hl22 (upd (upd Hl22 d2 (.dK [])) d2 (.dK (kvL [(a, 1), (b, 0), (c, 1)]))) := fun c o e => (upd_ne (ne_of_none e hd2)).trans ((upd_ne (ne_of_none e hd2)).trans e)
  have ed2 : (upd (upd Hl22 d2 (.dK [])) d2 (.dK (kvL [(a, 1), (b, 0), (c, 1)]))) d2 = some (.dK (kvL [(a, 1), (b, 0), (c, 1)])) := upd_same
  have nd2 := ne_lst hd2 (hs.eD)
  generalize upd (upd Hl22 d2 (.dK [])) d2 (.dK (kvL [(a, 1), (b, 0), (c, 1)])) = Hd22 at ud2 ed2 ⊢
  have hs := hs.same ud2
  refine ⟨(by show 7 ≤ sizeLine; decide), fun t ht => ?_⟩
  have ut := Same.new (o := .tup [.str "unique", .ref l1, .ref d1, .ref l2, .ref d2, .int 0, .int 1]) ht
  have et : upd Hd22 t (.tup [.str "unique", .ref l1, .ref d1, .ref l2, .ref d2, .int 0, .int 1]) t = some (.tup [.str "unique", .ref l1, .ref d1, .ref l2, .ref d2, .int 0, .int 1]) := upd_same
  have nt := ne_lst ht (hs.eD)
  generalize upd Hd22 t (.tup [.str "unique", .ref l1, .ref d1, .ref l2, .ref d2, .int 0, .int 1]) = Ht2 at ut et ⊢
  have hs := hs.same ut
  have all := (ul1.trans (ud1.trans (ul2.trans (ud2.trans ut))))
  have sc : ScAt (hide D Ht2) t := ⟨("unique", 2), l1, d1, l2, d2, [a, b, c], [a, b, c], kvL [(a, 0), (b, 0), (c, 1)], kvL [(a, 1), (b, 0), (c, 1)], ansL [(a, 0), (b, 0), (c, 1)], ansL [(a, 1), (b, 0), (c, 1)], 0, 1, by decide +kernel, (hide_ne nt).trans et, ((hide_ne nl1).trans (ut _ _ (ud2 _ _ (ul2 _ _ (ud1 _ _ el1))))), ((hide_ne nl2).trans (ut _ _ (ud2 _ _ el2))), F.rows (F.nd_abc) (by show 3 ≤ 40; decide) (by simp), F.rows (F.nd_abc) (by show 3 ≤ 40; decide) (by simp), fun _ _ => ansL_of (l := [(a, 0), (b, 0), (c, 1)]) (F.nd_abc) ((hide_ne nd1).trans (ut _ _ (ud2 _ _ (ul2 _ _ ed1)))) (by intro p hp; simp only [List.mem_cons, List.not_mem_nil, or_false] at hp; rcases hp with rfl | rfl | rfl <;> (unfold OkI; dsimp only; omega)), fun _ _ => ansL_of (l := [(a, 1), (b, 0), (c, 1)]) (F.nd_abc) ((hide_ne nd2).trans (ut _ _ ed2)) (by intro p hp; simp only [List.mem_cons, List.not_mem_nil, or_false] at hp; rcases hp with rfl | rfl | rfl <;> (unfold OkI; dsimp only; omega)), (sc3 F.ab F.ac F.bc).trans (by decide +kernel), by decide, by decide, by decide, by decide⟩
  refine ⟨D, _, _, rfl, rfl, hs.eD, ?_, ?_⟩
  · rw [List.length_map]
    exact small1000 (by omega)
  exact qz De x0 x6 x7 x8 x9 x10 x11 x12 x13 a b c d D _ (ts ++ [t]) (hs.put sc) (by rw [List.length_append, List.length_singleton]; omega) F (tabs_lst (hT.ext all) hs.eD) fun H' x' T' => q H' (fun c o nc e n => x' c o nc ((upd_ne nc).trans (all _ _ e)) n) T'
theorem sc_app1 {fS fH fB fM fF fK : Addr} {fdS fdH fdB fdM fdF fdK : FuncData} {T : List (Addr × Str)} {cdv : Value} {A : Around} {outer : List Env} {s : Shared} {H : Hp} {E : XK}
    (GS : FnOk P w K mg base CX0 1 fS fdS ["_law_old", "_law_new"] (spLStp K)) (gS : mg "_law_steps" = some (.ref fS)) (kS : PySem.W.keepIn K (.ref fS) = true) (bS : Binds K fdS ["_law_old", "_law_new"] [])
    (GH : FnOk P w K mg base CX0 7 fH fdH ["_law_kind", "_law_rows", "_law_answers", "_law_span"] (spShown K T)) (gH : mg "_law_shown" = some (.ref fH)) (kH : PySem.W.keepIn K (.ref fH) = true) (bH : Binds K fdH ["_law_kind", "_law_rows", "_law_answers", "_law_span"] [])
    (GB : FnOk P w K mg base CX0 1 fB fdB ["_law_kind", "_law_steps_here", "_law_rows"] spBound) (gB : mg "_law_bound" = some (.ref fB)) (kB : PySem.W.keepIn K (.ref fB) = true) (bB : Binds K fdB ["_law_kind", "_law_steps_here", "_law_rows"] [])
    (GM : FnOk P w K mg base CX0 3 fM fdM ["kind", "steps", "differing"] spMost) (gM : mg "most_steps" = some (.ref fM)) (kM : PySem.W.keepIn K (.ref fM) = true) (bM : Binds K fdM ["kind", "steps", "differing"] [])
    (GF : FnOk P w K mg base CX0 3 fF fdF ["kind"] spFactor) (gF : mg "factor" = some (.ref fF)) (kF : PySem.W.keepIn K (.ref fF) = true) (bF : Binds K fdF ["kind"] [])
    (GK : FnOk P w K mg base CX0 1 fK fdK [] spKinds) (gK : mg "_law_kinds" = some (.ref fK)) (kK : PySem.W.keepIn K (.ref fK) = true) (bK : Binds K fdK [] [])
    (hr : Room 7 (A.deeper (envOfC "_law_scenes_right" (defScope sScn) s.heap.objs.size f cdv))) :
    ∃ t, PSs (cxOf CX0 P w K mg base nScn "_law_scenes_right" (defScope sScn) f cdv A outer s H E).nox ((defBody sScn).drop 2) t ∧
      ∀ (De : Ends) (x0 x6 x7 x8 x9 x10 x11 x12 x13 : Option V) (a b c d : Str) (D : Addr) (H1 : Hp) (ts : List Addr), ScI D H1 ts → ts.length ≤ 1 → Four a b c d → Tabs T H1 →
        (∀ H', ExtD D H1 H' → Tabs T H' → De.rt (.bl true) H') →
        t De [x0, some (.str a), some (.str b), some (.str c), some (.str d), some (.ref D), x6, x7, x8, x9, x10, x11, x12, x13] H1 := by
  obtain ⟨tz, pz, qz⟩ := sc_app2 (P := P) (w := w) (base := base) (outer := outer) (H := H) (E := E) (cdv := cdv) (s := s) (f := f) GS gS kS bS GH gH kH bH GB gB kB bB GM gM kM bM GF gF kF bF GK gK kK bK hr
  refine ⟨_, pss_cons (ps_expr (pe_bm PySem.F.plainAttrs_list PySem.F.slot_list_append PySem.F.type_list_append mt_append (pv 5) (pa_cons (pe_tup (pa_cons pe_str (pa_cons (pe_lst (pa_cons (pv 1) (pa_cons (pv 2) pa_nil))) (pa_cons (pe_disp (pps_cons (pv 1) pe_int (pps_cons (pv 2) pe_int pps_nil)) rfl rfl (fun z => nomatch z) (by decide)) (pa_cons (pe_lst (pa_cons (pv 1) (pa_cons (pv 2) pa_nil))) (pa_cons (pe_disp (pps_cons (pv 1) pe_int (pps_cons (pv 2) pe_int pps_nil)) rfl rfl (fun z => nomatch z) (by decide)) (pa_cons pe_int (pa_cons pe_int pa_nil)))))))) pa_nil))) pz, ?_⟩
  intro De x0 x6 x7 x8 x9 x10 x11 x12 x13 a b c d D H1 ts hs lts F hT q
  refine ⟨_, rfl, .inl ⟨rfl, _, .of hs.eD⟩, ?_⟩
  refine ⟨_, rfl, _, rfl, (by show 2 ≤ sizeLine; decide), fun l1 hl1 => ?_⟩
  have ul1 := Same.new (o := .lst [.str a, .str b]) hl1
  have el1 : upd H1 l1 (.lst [.str a, .str b]) l1 = some (.lst (([a, b] : List Str).map V.str)) := upd_same
  have nl1 := ne_lst hl1 (hs.eD)
  generalize upd H1 l1 (.lst [.str a, .str b]) = Hl11 at ul1 el1 ⊢
  have hs := hs.same ul1
  intro d1 hd1
  refine ⟨_, rfl, _, rfl, upd_same, kvL [(a, 0), (b, 1)], rfl, (by show 2 ≤ 15; decide), ?_⟩
  rw [show mergeK [] (kvL [(a, 0), (b, 1)]) = kvL [(a, 0), (b, 1)] from (merge_ndX _ [] (by rw [List.nil_append]; exact kvL_nd (l := [(a, 0), (b, 1)]) (F.nd_ab))).trans (List.nil_append _)]
  have ud1 : Same Hl11 (upd (upd Hl11 d1 (.dK [])) d1 (.dK (kvL [(a, 0), (b, 1)]))) := fun c o e => (upd_ne (ne_of_none e hd1)).trans ((upd_ne (ne_of_none e hd1)).trans e)
  have ed1 : (upd (upd Hl11 d1 (.dK [])) d1 (.dK (kvL [(a, 0), (b, 1)]))) d1 = some (.dK (kvL [(a, 0), (b, 1)])) := upd_same
  have nd1 := ne_lst hd1 (hs.eD)
  generalize upd (upd Hl11 d1 (.dK [])) d1 (.dK (kvL [(a, 0), (b, 1)])) = Hd11 at ud1 ed1 ⊢
  have hs := hs.same ud1
  refine ⟨_, rfl, _, rfl, (by show 2 ≤ sizeLine; decide), fun l2 hl2 => ?_⟩
  have ul2 := Same.new (o := .lst [.str a, .str b]) hl2
  have el2 : upd Hd11 l2 (.lst [.str a, .str b]) l2 = some (.lst (([a, b] : List Str).map V.str)) := upd_same
  have nl2 := ne_lst hl2 (hs.eD)
  generalize upd Hd11 l2 (.lst [.str a, .str b]) = Hl12 at ul2 el2 ⊢
  have hs := hs.same ul2
  intro d2 hd2
  refine ⟨_, rfl, _, rfl, upd_same, kvL [(a, 2), (b, 1)], rfl, (by show 2 ≤ 15; decide), ?_⟩
  rw [show mergeK [] (kvL [(a, 2), (b, 1)]) = kvL [(a, 2), (b, 1)] from (merge_ndX _ [] (by rw [List.nil_append]; exact kvL_nd (l := [(a, 2), (b, 1)]) (F.nd_ab))).trans (List.nil_append _)]
  have ud2 : Same Hl12 (upd (upd Hl12 d2 (.dK [])) d2 (.dK (kvL [(a, 2), (b, 1)]))) := fun c o e => (upd_ne (ne_of_none e hd2)).trans ((upd_ne (ne_of_none e hd2)).trans e)
  have ed2 : (upd (upd Hl12 d2 (.dK [])) d2 (.dK (kvL [(a, 2), (b, 1)]))) d2 = some (.dK (kvL [(a, 2), (b, 1)])) := upd_same
  have nd2 := ne_lst hd2 (hs.eD)
  generalize upd (upd Hl12 d2 (.dK [])) d2 (.dK (kvL [(a, 2), (b, 1)])) = Hd12 at ud2 ed2 ⊢
  have hs := hs.same ud2
  refine ⟨(by show 7 ≤ sizeLine; decide), fun t ht => ?_⟩
  have ut := Same.new (o := .tup [.str "ordered", .ref l1, .ref d1, .ref l2, .ref d2, .int 0, .int 1]) ht
  have et : upd Hd12 t (.tup [.str "ordered", .ref l1, .ref d1, .ref l2, .ref d2, .int 0, .int 1]) t = some (.tup [.str "ordered", .ref l1, .ref d1, .ref l2, .ref d2, .int 0, .int 1]) := upd_same
  have nt := ne_lst ht (hs.eD)
  generalize upd Hd12 t (.tup [.str "ordered", .ref l1, .ref d1, .ref l2, .ref d2, .int 0, .int 1]) = Ht1 at ut et ⊢
  have hs := hs.same ut
  have all := (ul1.trans (ud1.trans (ul2.trans (ud2.trans ut))))
  have sc : ScAt (hide D Ht1) t := ⟨("ordered", 1), l1, d1, l2, d2, [a, b], [a, b], kvL [(a, 0), (b, 1)], kvL [(a, 2), (b, 1)], ansL [(a, 0), (b, 1)], ansL [(a, 2), (b, 1)], 0, 1, by decide +kernel, (hide_ne nt).trans et, ((hide_ne nl1).trans (ut _ _ (ud2 _ _ (ul2 _ _ (ud1 _ _ el1))))), ((hide_ne nl2).trans (ut _ _ (ud2 _ _ el2))), F.rows (F.nd_ab) (by show 2 ≤ 40; decide) (by simp), F.rows (F.nd_ab) (by show 2 ≤ 40; decide) (by simp), fun _ _ => ansL_of (l := [(a, 0), (b, 1)]) (F.nd_ab) ((hide_ne nd1).trans (ut _ _ (ud2 _ _ (ul2 _ _ ed1)))) (by intro p hp; simp only [List.mem_cons, List.not_mem_nil, or_false] at hp; rcases hp with rfl | rfl <;> (unfold OkI; dsimp only; omega)), fun _ _ => ansL_of (l := [(a, 2), (b, 1)]) (F.nd_ab) ((hide_ne nd2).trans (ut _ _ ed2)) (by intro p hp; simp only [List.mem_cons, List.not_mem_nil, or_false] at hp; rcases hp with rfl | rfl <;> (unfold OkI; dsimp only; omega)), (sc2 F.ab).trans (by decide +kernel), by decide, by decide, by decide, by decide⟩
  refine ⟨D, _, _, rfl, rfl, hs.eD, ?_, ?_⟩
  · rw [List.length_map]
    exact small1000 (by omega)
  exact qz De x0 x6 x7 x8 x9 x10 x11 x12 x13 a b c d D _ (ts ++ [t]) (hs.put sc) (by rw [List.length_append, List.length_singleton]; omega) F (tabs_lst (hT.ext all) hs.eD) fun H' x' T' => q H' (fun c o nc e n => x' c o nc ((upd_ne nc).trans (all _ _ e)) n) T'
end
end G
set_option Elab.async false
set_option linter.all false
set_option maxRecDepth 100000
set_option maxHeartbeats 8000000
/-! S7: _law_scenes_right. -/
namespace G
open PySem PySem.Spec PyProof.Rows L2 NdefX DvT StX SkL LamX PySem.W

section
variable {P : Program} {w : World} {K : PySem.W.Frag} {mg : Str → Option Value} {base : Heap} {f : Addr} {fd : FuncData}
theorem ok_scn {fS fH fB fM fF fK : Addr} {fdS fdH fdB fdM fdF fdK : FuncData} {T : List (Addr × Str)} (F0 : Fun K "_law_scenes_right" "_law_scenes_right" sScn f fd)
    (GS : FnOk P w K mg base CX0 1 fS fdS ["_law_old", "_law_new"] (spLStp K)) (gS : mg "_law_steps" = some (.ref fS)) (kS : PySem.W.keepIn K (.ref fS) = true) (bS : Binds K fdS ["_law_old", "_law_new"] [])
    (GH : FnOk P w K mg base CX0 7 fH fdH ["_law_kind", "_law_rows", "_law_answers", "_law_span"] (spShown K T)) (gH : mg "_law_shown" = some (.ref fH)) (kH : PySem.W.keepIn K (.ref fH) = true) (bH : Binds K fdH ["_law_kind", "_law_rows", "_law_answers", "_law_span"] [])
    (GB : FnOk P w K mg base CX0 1 fB fdB ["_law_kind", "_law_steps_here", "_law_rows"] spBound) (gB : mg "_law_bound" = some (.ref fB)) (kB : PySem.W.keepIn K (.ref fB) = true) (bB : Binds K fdB ["_law_kind", "_law_steps_here", "_law_rows"] [])
    (GM : FnOk P w K mg base CX0 3 fM fdM ["kind", "steps", "differing"] spMost) (gM : mg "most_steps" = some (.ref fM)) (kM : PySem.W.keepIn K (.ref fM) = true) (bM : Binds K fdM ["kind", "steps", "differing"] [])
    (GF : FnOk P w K mg base CX0 3 fF fdF ["kind"] spFactor) (gF : mg "factor" = some (.ref fF)) (kF : PySem.W.keepIn K (.ref fF) = true) (bF : Binds K fdF ["kind"] [])
    (GK : FnOk P w K mg base CX0 1 fK fdK [] spKinds) (gK : mg "_law_kinds" = some (.ref fK)) (kK : PySem.W.keepIn K (.ref fK) = true) (bK : Binds K fdK [] []) : FnOk P w K mg base CX0 8 f fd ["_law_names_here"] (spScn T) := by
  refine F0.ok scScn (fun vs H Q E h => ?_) (fun cdv A outer s H vs Q E hr h => ?_)
  · obtain ⟨nl, ys, rfl, _⟩ := h
    rfl
  · obtain ⟨nl, ys, rfl, en, l10, ynd, ynm, hT, q⟩ := h
    obtain ⟨tz, pz, qz⟩ := sc_app1 (P := P) (w := w) (base := base) (outer := outer) (H := H) (E := E) (cdv := cdv) (s := s) (f := f) GS gS kS bS GH gH kH bH GB gB kB bB GM gM kM bM GF gF kF bF GK gK kK bK hr
    refine ⟨_, pss_cons (ps_asg (pe_slice (r := rSlL K) sl_list (pv 0) po_none (po_some pe_int)) (pg_unl (by rfl) (pgs_cons (pg_name (i := 1) scScn.nd rfl (.inl rfl)) (pgs_cons (pg_name (i := 2) scScn.nd rfl (.inl rfl)) (pgs_cons (pg_name (i := 3) scScn.nd rfl (.inl rfl)) (pgs_cons (pg_name (i := 4) scScn.nd rfl (.inl rfl)) pgs_nil))))))
      (pss_cons (ps_set (i := 5) scScn.nd rfl (.inl rfl) (pe_lst (pa_cons (pe_tup (pa_cons pe_str (pa_cons (pe_lst (pa_cons (pv 1) (pa_cons (pv 2) pa_nil))) (pa_cons (pe_disp (pps_cons (pv 1) pe_int (pps_cons (pv 2) pe_int pps_nil)) rfl rfl (fun z => nomatch z) (by decide)) (pa_cons (pe_lst (pa_cons (pv 1) (pa_cons (pv 2) pa_nil))) (pa_cons (pe_disp (pps_cons (pv 1) pe_int (pps_cons (pv 2) pe_int pps_nil)) rfl rfl (fun z => nomatch z) (by decide)) (pa_cons pe_int (pa_cons pe_int pa_nil)))))))) pa_nil))) pz), ?_⟩
    obtain ⟨a, b, c, d, zs, rfl⟩ : ∃ a b c d zs, ys = a :: b :: c :: d :: zs := by
      match ys, l10 with
      | a :: b :: c :: d :: zs, _ => exact ⟨a, b, c, d, zs, rfl⟩
    have F : Four a b c d := by
      simp only [List.nodup_cons, List.mem_cons, not_or] at ynd
      exact ⟨ynd.1.1, ynd.1.2.1, ynd.1.2.2.1, ynd.2.1.1, ynd.2.1.2.1, ynd.2.2.1.1, fun z hz => ynm z (by
        simp only [List.mem_cons, List.not_mem_nil, or_false] at hz ⊢
        rcases hz with h | h | h | h <;> simp [h])⟩
    refine ⟨_, rfl, _, rfl, nl, _, rfl, .of en, fun n4 hn4 => ?_⟩
    rw [show ((4 : Int)) = ((4 : Nat) : Int) from rfl, cutV_takeZ, ← List.map_take]
    have un := Same.new (o := .lst (((a :: b :: c :: d :: zs).take 4).map V.str)) hn4
    have e4 : upd H n4 (.lst (((a :: b :: c :: d :: zs).take 4).map V.str)) n4 = some (.lst [.str a, .str b, .str c, .str d]) := upd_same
    generalize upd H n4 (.lst (((a :: b :: c :: d :: zs).take 4).map V.str)) = H1 at un e4 ⊢
    refine ⟨n4, _, rfl, .of e4, rfl, _, _, rfl, _, _, rfl, _, _, rfl, _, _, rfl, rfl, ?_⟩
    refine ⟨_, rfl, _, rfl, (by show 2 ≤ sizeLine; decide), fun l1 hl1 => ?_⟩
    have ul1 := Same.new (o := .lst [.str a, .str b]) hl1
    have el1 : upd H1 l1 (.lst [.str a, .str b]) l1 = some (.lst (([a, b] : List Str).map V.str)) := upd_same
    generalize upd H1 l1 (.lst [.str a, .str b]) = Hl01 at ul1 el1 ⊢
    intro d1 hd1
    refine ⟨_, rfl, _, rfl, upd_same, kvL [(a, 0), (b, 0)], rfl, (by show 2 ≤ 15; decide), ?_⟩
    rw [show mergeK [] (kvL [(a, 0), (b, 0)]) = kvL [(a, 0), (b, 0)] from (merge_ndX _ [] (by rw [List.nil_append]; exact kvL_nd (l := [(a, 0), (b, 0)]) (F.nd_ab))).trans (List.nil_append _)]
    have ud1 : Same Hl01 (upd (upd Hl01 d1 (.dK [])) d1 (.dK (kvL [(a, 0), (b, 0)]))) := fun c o e => (upd_ne (ne_of_none e hd1)).trans ((upd_ne (ne_of_none e hd1)).trans e)
    have ed1 : (upd (upd Hl01 d1 (.dK [])) d1 (.dK (kvL [(a, 0), (b, 0)]))) d1 = some (.dK (kvL [(a, 0), (b, 0)])) := upd_same
    generalize upd (upd Hl01 d1 (.dK [])) d1 (.dK (kvL [(a, 0), (b, 0)])) = Hd01 at ud1 ed1 ⊢
    refine ⟨_, rfl, _, rfl, (by show 2 ≤ sizeLine; decide), fun l2 hl2 => ?_⟩
    have ul2 := Same.new (o := .lst [.str a, .str b]) hl2
    have el2 : upd Hd01 l2 (.lst [.str a, .str b]) l2 = some (.lst (([a, b] : List Str).map V.str)) := upd_same
    generalize upd Hd01 l2 (.lst [.str a, .str b]) = Hl02 at ul2 el2 ⊢
    intro d2 hd2
    refine ⟨_, rfl, _, rfl, upd_same, kvL [(a, 0), (b, 1)], rfl, (by show 2 ≤ 15; decide), ?_⟩
    rw [show mergeK [] (kvL [(a, 0), (b, 1)]) = kvL [(a, 0), (b, 1)] from (merge_ndX _ [] (by rw [List.nil_append]; exact kvL_nd (l := [(a, 0), (b, 1)]) (F.nd_ab))).trans (List.nil_append _)]
    have ud2 : Same Hl02 (upd (upd Hl02 d2 (.dK [])) d2 (.dK (kvL [(a, 0), (b, 1)]))) := fun c o e => (upd_ne (ne_of_none e hd2)).trans ((upd_ne (ne_of_none e hd2)).trans e)
    have ed2 : (upd (upd Hl02 d2 (.dK [])) d2 (.dK (kvL [(a, 0), (b, 1)]))) d2 = some (.dK (kvL [(a, 0), (b, 1)])) := upd_same
    generalize upd (upd Hl02 d2 (.dK [])) d2 (.dK (kvL [(a, 0), (b, 1)])) = Hd02 at ud2 ed2 ⊢
    refine ⟨(by show 7 ≤ sizeLine; decide), fun t ht => ?_⟩
    have ut := Same.new (o := .tup [.str "filtered", .ref l1, .ref d1, .ref l2, .ref d2, .int 0, .int 1]) ht
    have et : upd Hd02 t (.tup [.str "filtered", .ref l1, .ref d1, .ref l2, .ref d2, .int 0, .int 1]) t = some (.tup [.str "filtered", .ref l1, .ref d1, .ref l2, .ref d2, .int 0, .int 1]) := upd_same
    generalize upd Hd02 t (.tup [.str "filtered", .ref l1, .ref d1, .ref l2, .ref d2, .int 0, .int 1]) = Ht0 at ut et ⊢
    have all := (ul1.trans (ud1.trans (ul2.trans (ud2.trans ut))))
    have sc : ScAt Ht0 t := ⟨("filtered", 1), l1, d1, l2, d2, [a, b], [a, b], kvL [(a, 0), (b, 0)], kvL [(a, 0), (b, 1)], ansL [(a, 0), (b, 0)], ansL [(a, 0), (b, 1)], 0, 1, by decide +kernel, et, (ut _ _ (ud2 _ _ (ul2 _ _ (ud1 _ _ el1)))), (ut _ _ (ud2 _ _ el2)), F.rows (F.nd_ab) (by show 2 ≤ 40; decide) (by simp), F.rows (F.nd_ab) (by show 2 ≤ 40; decide) (by simp), fun _ _ => ansL_of (l := [(a, 0), (b, 0)]) (F.nd_ab) (ut _ _ (ud2 _ _ (ul2 _ _ ed1))) (by intro p hp; simp only [List.mem_cons, List.not_mem_nil, or_false] at hp; rcases hp with rfl | rfl <;> (unfold OkI; dsimp only; omega)), fun _ _ => ansL_of (l := [(a, 0), (b, 1)]) (F.nd_ab) (ut _ _ ed2) (by intro p hp; simp only [List.mem_cons, List.not_mem_nil, or_false] at hp; rcases hp with rfl | rfl <;> (unfold OkI; dsimp only; omega)), (sc1 F.ab).trans (by decide +kernel), by decide, by decide, by decide, by decide⟩
    refine ⟨(by show 1 ≤ sizeLine; decide), fun D hD => ?_⟩
    have uD := Same.new (o := .lst [.ref t]) hD
    have eD : upd Ht0 D (.lst [.ref t]) D = some (.lst (([t] : List Addr).map V.ref)) := upd_same
    have hd : hide D (upd Ht0 D (.lst [.ref t])) = hide D Ht0 := hide_upd
    generalize upd Ht0 D (.lst [.ref t]) = Hz at uD eD hd ⊢
    have hs : ScI D Hz [t] := ⟨eD, fun t' h' => by
      rw [List.mem_singleton.mp h', hd]
      exact sc.same (hide_new hD)⟩
    have sm := un.trans all
    have sz := un.trans (all.trans uD)
    exact qz _ _ none none none none none none none none a b c d D Hz [t] hs (Nat.le_refl 1) F (hT.ext sz) fun H' x' T' => q H' (fun c o e n => x' c o (ne_of_none (sm _ _ e) hD) (sz _ _ e) n) T'
end
end G
set_option Elab.async false
set_option linter.all false
set_option maxRecDepth 100000
set_option maxHeartbeats 8000000
/-! S8: the law keeps its promise. -/
namespace G
open PySem PySem.Spec PyProof.Rows L2 NdefX DvT StX SkL LamX PySem.W
abbrev sLaw : Stmt := topS 55
abbrev nLaw : List Str := ["_law_script", "_law_k", "_law_box_here", "_law_names_here"]
theorem scLaw : FnScope nLaw ["_law_script"] (defScope sLaw) := ⟨rfl, rfl, rfl, by decide +kernel, rfl, by decide +kernel, by decide +kernel⟩
def spLaw (K : PySem.W.Frag) (T : List (Addr × Str)) : Sp := fun vs H Q _ => ∃ (a : Addr) (ns : List Int), vs = [.ref a] ∧ SqL K H a (ns.map V.int) ∧ ns.length ≤ 63 ∧ Tabs T H ∧ ∀ H', Q (.bl true) H'
section
variable {P : Program} {w : World} {K : PySem.W.Frag} {mg : Str → Option Value} {base : Heap}
theorem ok_law {f fc fb fn fR fS : Addr} {fd fdc fdb fdn fdR fdS : FuncData} {T : List (Addr × Str)} (F : Fun K "law" "law" sLaw f fd)
    (Fc : Fun K "_law_cell" "_law_cell" sCell fc fdc) (bc : Binds K fdc ["_law_script", "_law_k"] []) (gc : mg "_law_cell" = some (.ref fc))
    (Fb : Fun K "_law_box" "_law_box" sBox fb fdb) (bb : Binds K fdb ["_law_cell_here"] []) (gb : mg "_law_box" = some (.ref fb))
    (kn : PySem.W.keepIn K (.ref fn) = true) (bn : Binds K fdn ["_law_box_here", "_law_many"] []) (gn : mg "_law_names" = some (.ref fn)) (Gn : FnOk P w K mg base CX0 3 fn fdn ["_law_box_here", "_law_many"] spNamesD)
    (GR : FnOk P w K mg base CX0 8 fR fdR ["_law_box_here", "_law_names_here"] (spRight T)) (gR : mg "_law_right" = some (.ref fR)) (kR : PySem.W.keepIn K (.ref fR) = true) (bR : Binds K fdR ["_law_box_here", "_law_names_here"] [])
    (GS : FnOk P w K mg base CX0 8 fS fdS ["_law_names_here"] (spScn T)) (gS : mg "_law_scenes_right" = some (.ref fS)) (kS : PySem.W.keepIn K (.ref fS) = true) (bS : Binds K fdS ["_law_names_here"] [])
    (mr : mg "range" = none) (mmx : mg "max" = none) (mmn : mg "min" = none) (ml : mg "len" = none) : FnG P w K mg base CX0 9 f fd ["_law_script"] (spLaw K T) := by
  have Gc : FnOk P w K mg base CX0 1 fc fdc ["_law_script", "_law_k"] (spCell' K) := ok_cell Fc ml
  have Gb : FnOk P w K mg base CX0 1 fb fdb ["_law_cell_here"] spBox := ok_box Fb mmx
  refine FnG.of_body F scLaw (fun vs H Q E h => ?_) (fun cdv A outer s H vs Q E hg hr h => ?_)
  · obtain ⟨a, ns, rfl, _⟩ := h
    rfl
  · obtain ⟨a, ns, rfl, hS, hl, hT, q⟩ := h
    have hr1 := hr.mono (show 1 ≤ 8 by decide)
    have hr3 := hr.mono (show 3 ≤ 8 by decide)
    refine ⟨_, pss_cons (ps_for PassesOwn.never rfl (pi_range1 rfl mr (pa_cons (pe_callB (call_max2 rfl) (by rfl) mmx (by decide +kernel) (pa_cons pe_int (pa_cons (pe_callB (call_min2 rfl) (by rfl) mmn (by decide +kernel)
          (pa_cons (pe_callB call_len_seq (by rfl) ml PySem.boot_len (pa_cons (pv 0) pa_nil)) (pa_cons pe_int pa_nil))) pa_nil))) pa_nil)) (pg_name (i := 1) scLaw.nd rfl (.inl rfl))
        (pss_cons (ps_set (i := 2) scLaw.nd rfl (.inl rfl) (pe_call Gb hr1 rfl gb Fb.kp bb .nil pass0 (pa_cons (pe_call Gc hr1 rfl gc Fc.kp bc .nil pass0 (pa_cons (pv 0) (pa_cons (pv 1) pa_nil))) pa_nil)))
        (pss_cons (ps_set (i := 3) scLaw.nd rfl (.inl rfl) (pe_call Gn hr3 rfl gn kn bn .nil pass0 (pa_cons (pv 2) (pa_cons pe_int pa_nil))))
        (pss_one (ps_if (PW.pt (pw_or (pt_not (pt_val (pe_call GR hr rfl gR kR bR .nil pass0 (pa_cons (pv 2) (pa_cons (pv 3) pa_nil))))) (pw_or1 (pt_not (pt_val (pe_call GS hr rfl gS kS bS .nil pass0 (pa_cons (pv 3) pa_nil))))))) (pss_one ps_never) pss_nil)))))
      (pss_one (ps_ret pe_bl)), ?_⟩
    refine ⟨_, rfl, a, _, rfl, .inl hS, _, _, rfl, _, _, rfl, ?_⟩
    generalize hm : (if (if (5 : Int) < ((ns.map V.int).length : Int) then (5 : Int) else ((ns.map V.int).length : Int)) > 2 then (if (5 : Int) < ((ns.map V.int).length : Int) then (5 : Int) else ((ns.map V.int).length : Int)) else 2) = m
    have hm8 : 0 ≤ m ∧ m ≤ 5 := by
      rw [← hm]
      split <;> split at * <;> omega
    refine ⟨m, rfl, by omega, by omega, ?_⟩
    refine for_range (lo := 0) (n := m.toNat) (fun i σ H' => SqL K H' a (ns.map V.int) ∧ Tabs T H' ∧ ∃ x1 x2 x3 : Option V, σ = [some (.ref a), x1, x2, x3]) ?_ ?_ ?_
    · exact ⟨hS, hT, none, none, none, rfl⟩
    · rintro i σ H1 hi ⟨hS1, hT1, x1, x2, x3, rfl⟩
      refine ⟨_, rfl, _, rfl, a, ns, 0 + i, rfl, hS1, by omega, by omega, fun cell => ⟨cell, rfl, fun b H2 nb s2 B2 => ?_⟩⟩
      -- the names
      refine ⟨_, rfl, b, 10, 0, rfl, B2, by decide, by decide, fun nl H3 ys ly yn ynd np3 e3 B3 k3 => ?_⟩
      have nnb := box_ne B2 np3
      have T3 : Tabs T H3 := Tabs.butX (hT1.ext s2) B2 k3
      refine ⟨_, rfl, _, rfl, b, nl, _, ys, rfl, B3, by omega, e3, nnb, ly, ynd, yn, T3, fun H4 H5 k4 x5 T5 => ⟨_, rfl, iteF ?_⟩⟩
      have e5 := x5 _ _ (k4 _ _ nnb e3) fun _ z => nomatch z
      refine ⟨_, rfl, nl, ys, rfl, e5, ly, ynd, yn, T5, fun H6 x6 T6 => ⟨_, rfl, iteF ?_⟩⟩
      refine ⟨sqL_extX (fun c o e nt => ?_) hS1, T6, _, _, _, rfl⟩
      have n1 : c ≠ b := fun z => by
        rw [z, nb] at e
        cases e
      exact x6 _ _ (x5 _ _ ((k3.trans k4) c o n1 (s2 _ _ e)) nt) nt
    · rintro σ H1 ⟨_, _, x1, x2, x3, rfl⟩
      exact q H1
end
end G
set_option Elab.async false
set_option linter.all false
set_option maxRecDepth 100000
set_option maxHeartbeats 2000000
/-! HK: the head's facts by a Hook of our own: methods that capture __class__, properties, instances that are called; the law's end over it. -/
namespace G
open PySem PySem.Spec PyProof.Rows L2 NdefX StX He

/-! ### defs by where they stand -/
/-- a def of the text: where it stands, its names, its statement, the names that it captures -/
structure Dp where
  at_ : PySem.W.Frag → Addr
  name : Str
  qual : Str
  st : Stmt
  clo : List Str
abbrev FnY : Type := Option (Str × Str × Arguments × FuncBody × Scope × Addr × List Str × Addr)
def fnY (K : PySem.W.Frag) (a : Addr) : FnY := match K.lookup a with
  | some ⟨_, _, .func fd, _⟩ => some (fd.name, fd.qualname, fd.params, fd.body, fd.scope, fd.globals, fd.closure.map (·.1), fd.builtins)
  | _ => none
def Dp.val (d : Dp) : FnY := some (d.name, d.qual, defArgs d.st, .stmts (defBody d.st), defScope d.st, mainGlobals, d.clo, builtinsNs)
def noneB : Value → Bool
  | .none => true
  | _ => false
/-- the def's code, no positional defaults -/
def codB (K : PySem.W.Frag) (a : Addr) (q : Str) : Bool := match K.lookup a with
  | some ⟨_, _, .func fd, _⟩ => PySem.W.codeIn K fd.code q && noneB fd.defaults
  | _ => false
def plainB (K : PySem.W.Frag) (a : Addr) (q : Str) : Bool := PySem.W.keepIn K (.ref a) && codB K a q
theorem fun_of {K : PySem.W.Frag} {a : Addr} {d : Dp} (e : fnY K a = d.val) (hc : d.clo = []) (c : plainB K a d.qual = true) : ∃ fd, Fun K d.name d.qual d.st a fd := by
  obtain ⟨kp, c2⟩ := ba c
  unfold fnY Dp.val at e
  rw [hc] at e
  unfold codB at c2
  cases q : K.lookup a with
  | none =>
    rw [q] at c2
    cases c2
  | some o =>
    obtain ⟨oc, od, dt, osl⟩ := o
    rw [q] at c2 e
    cases dt with
    | func fd =>
      obtain ⟨n1, n2, n3, n4, n5, n6, n7, n8, n9, n10, n11, n12, n13, n14, n15⟩ := fd
      have e2 : (some (n1, n2, n3, n4, n5, n6, n7.map (·.1), n15) : FnY) = some (d.name, d.qual, defArgs d.st, .stmts (defBody d.st), defScope d.st, mainGlobals, [], builtinsNs) := e
      simp only [Option.some.injEq, Prod.mk.injEq] at e2
      obtain ⟨h1, h2, h3, h4, h5, h6, h7, h8⟩ := e2
      have h7' : n7 = [] := List.map_eq_nil_iff.mp h7
      subst h1 h2 h3 h4 h5 h6 h7' h8
      have c3 : (PySem.W.codeIn K n13 d.qual && noneB n8) = true := c2
      obtain ⟨k1, k2⟩ := ba c3
      cases n8 with
      | none => exact ⟨_, ⟨oc, od, n9, n10, n11, n12, n13, n14, osl, rfl, q, k1⟩, kp⟩
      | _ => cases k2
    | _ => cases c2
/-- a def with one positional default, a thing in the heap -/
def dflD (K : PySem.W.Frag) (v : Value) : Bool := match v with
  | .ref T => (match K.lookup T with
    | some ⟨_, _, .seq its _, _⟩ => (match its.toList with
      | [.ref _] => true
      | _ => false)
    | _ => false)
  | _ => false
theorem dflD_ok {K : PySem.W.Frag} {v : Value} (h : dflD K v = true) : ∃ E : Addr, DflV K v [.ref E] := by
  unfold dflD at h
  split at h
  · rename_i T
    split at h
    · rename_i x1 x2 its n x3 ho
      split at h
      · rename_i E hE
        refine ⟨E, .inr ⟨(fun z => nomatch z), T, _, [.ref E], n, rfl, ho, ?_, .cons rfl .nil⟩⟩
        show Data.seq its n = _
        rw [← hE]
      · cases h
    · cases h
  · cases h
def codD (K : PySem.W.Frag) (a : Addr) (q : Str) : Bool := match K.lookup a with
  | some ⟨_, _, .func fd, _⟩ => PySem.W.codeIn K fd.code q && dflD K fd.defaults
  | _ => false
theorem fund_of {K : PySem.W.Frag} {a : Addr} {d : Dp} (e : fnY K a = d.val) (hc : d.clo = []) (c : (PySem.W.keepIn K (.ref a) && codD K a d.qual) = true) :
    ∃ (E : Addr) (fd : FuncData), FunD K d.name d.qual (defArgs d.st) (defBody d.st) (defScope d.st) [.ref E] [] a fd := by
  obtain ⟨kp, c2⟩ := ba c
  unfold fnY Dp.val at e
  rw [hc] at e
  unfold codD at c2
  cases q : K.lookup a with
  | none =>
    rw [q] at c2
    cases c2
  | some o =>
    obtain ⟨oc, od, dt, osl⟩ := o
    rw [q] at c2 e
    cases dt with
    | func fd =>
      obtain ⟨n1, n2, n3, n4, n5, n6, n7, n8, n9, n10, n11, n12, n13, n14, n15⟩ := fd
      have e2 : (some (n1, n2, n3, n4, n5, n6, n7.map (·.1), n15) : FnY) = some (d.name, d.qual, defArgs d.st, .stmts (defBody d.st), defScope d.st, mainGlobals, [], builtinsNs) := e
      simp only [Option.some.injEq, Prod.mk.injEq] at e2
      obtain ⟨h1, h2, h3, h4, h5, h6, h7, h8⟩ := e2
      have h7' : n7 = [] := List.map_eq_nil_iff.mp h7
      subst h1 h2 h3 h4 h5 h6 h7' h8
      have c3 : (PySem.W.codeIn K n13 d.qual && dflD K n8) = true := c2
      obtain ⟨k1, k2⟩ := ba c3
      obtain ⟨E, hE⟩ := dflD_ok k2
      exact ⟨E, _, ⟨oc, od, n8, n9, n10, n11, n12, n13, n14, osl, rfl, q, k1, hE, .inl rfl⟩, kp⟩
    | _ => cases c2
/-- a def with one keyword-only default, None -/
def kwN (K : PySem.W.Frag) (v : Value) (x : Str) : Bool := match v with
  | .ref D => eqO (PySem.W.nsIn K D x) (some (some .none))
  | _ => false
def codK (K : PySem.W.Frag) (a : Addr) (q x : Str) : Bool := match K.lookup a with
  | some ⟨_, _, .func fd, _⟩ => PySem.W.codeIn K fd.code q && (noneB fd.defaults && kwN K fd.kwdefaults x)
  | _ => false
theorem funk_of {K : PySem.W.Frag} {a : Addr} {d : Dp} {x : Str} (e : fnY K a = d.val) (hc : d.clo = []) (c : (PySem.W.keepIn K (.ref a) && codK K a d.qual x) = true) :
    ∃ fd : FuncData, FunD K d.name d.qual (defArgs d.st) (defBody d.st) (defScope d.st) [] [(x, .non)] a fd := by
  obtain ⟨kp, c2⟩ := ba c
  unfold fnY Dp.val at e
  rw [hc] at e
  unfold codK at c2
  cases q : K.lookup a with
  | none =>
    rw [q] at c2
    cases c2
  | some o =>
    obtain ⟨oc, od, dt, osl⟩ := o
    rw [q] at c2 e
    cases dt with
    | func fd =>
      obtain ⟨n1, n2, n3, n4, n5, n6, n7, n8, n9, n10, n11, n12, n13, n14, n15⟩ := fd
      have e2 : (some (n1, n2, n3, n4, n5, n6, n7.map (·.1), n15) : FnY) = some (d.name, d.qual, defArgs d.st, .stmts (defBody d.st), defScope d.st, mainGlobals, [], builtinsNs) := e
      simp only [Option.some.injEq, Prod.mk.injEq] at e2
      obtain ⟨h1, h2, h3, h4, h5, h6, h7, h8⟩ := e2
      have h7' : n7 = [] := List.map_eq_nil_iff.mp h7
      subst h1 h2 h3 h4 h5 h6 h7' h8
      have c3 : (PySem.W.codeIn K n13 d.qual && (noneB n8 && kwN K n9 x)) = true := c2
      obtain ⟨k1, k2⟩ := ba c3
      obtain ⟨k2, k3⟩ := ba k2
      cases n8 with
      | none =>
        cases n9 with
        | ref D =>
          refine ⟨_, ⟨oc, od, .none, .ref D, n10, n11, n12, n13, n14, osl, rfl, q, k1, .inl ⟨rfl, rfl⟩, .inr ⟨D, rfl, fun p hp => ?_⟩⟩, kp⟩
          rw [List.mem_singleton.mp hp]
          exact ⟨.none, eqO_ok k3, rfl⟩
        | _ => cases k3
      | _ => cases k2
    | _ => cases c2
/-- a method that captures __class__ -/
def celC (K : PySem.W.Frag) (cc C : Addr) : Bool := match K.lookup cc with
  | some ⟨_, _, .cell (some (.ref D)), _⟩ => decide (D = C)
  | _ => false
def cloB (K : PySem.W.Frag) (a C : Addr) : Bool := match K.lookup a with
  | some ⟨_, _, .func fd, _⟩ => (match fd.closure with
    | [(_, cc)] => celC K cc C
    | _ => false)
  | _ => false
/-- .. its code object's file -/
def filC (K : PySem.W.Frag) (c : Addr) (file : Str) : Bool := match K.lookup c with
  | some ⟨_, _, .fields vs, _⟩ => (match vs.toList[2]? with
    | some (Value.str fl _) => file == fl
    | _ => false)
  | _ => false
def filV (K : PySem.W.Frag) (v : Value) (file : Str) : Bool := match v with
  | .ref c => filC K c file
  | _ => false
def filB (K : PySem.W.Frag) (a : Addr) (file : Str) : Bool := match K.lookup a with
  | some ⟨_, _, .func fd, _⟩ => filV K fd.code file
  | _ => false
def kwV (K : PySem.W.Frag) (a : Addr) : Value := match K.lookup a with
  | some ⟨_, _, .func fd, _⟩ => fd.kwdefaults
  | _ => .none
/-- what FunX and SupOf want of the def at a, of the class at C -/
structure ClsDef (P : Program) (K : PySem.W.Frag) (d : Dp) (a C : Addr) : Prop where
  ex : ∃ (oc : Value) (od : Option Addr) (doc pm ct : Value) (an : Option Addr) (osl : Array (Option Value)) (cda cc : Addr) (oc3 : Value) (od3 : Option Addr) (sl3 : Array (Option Value)) (oc2 : Value) (od2 : Option Addr) (vs : Array Value) (sl2 : Array (Option Value)) (fl : Str) (tf : Tok),
    K.lookup a = some ⟨oc, od, .func (PySem.W.ksFn d.name d.qual (defArgs d.st) (defBody d.st) (defScope d.st) .none (kwV K a) doc pm an (.ref cda) ct cc), osl⟩ ∧ PySem.W.codeIn K (.ref cda) d.qual = true ∧
    K.lookup cc = some ⟨oc3, od3, .cell (some (.ref C)), sl3⟩ ∧ K.lookup cda = some ⟨oc2, od2, .fields vs, sl2⟩ ∧ vs.toList[2]? = some (Value.str fl tf) ∧ ((P.main.file : Str) == fl) = true
theorem clsdef_of {P : Program} {K : PySem.W.Frag} {a C : Addr} {d : Dp} (e : fnY K a = d.val) (hc : d.clo = [("__class__" : Str)]) (c : (codB K a d.qual && (cloB K a C && filB K a P.main.file)) = true) : ClsDef P K d a C := by
  obtain ⟨c1, c23⟩ := ba c
  obtain ⟨c2, c3⟩ := ba c23
  unfold fnY Dp.val at e
  rw [hc] at e
  unfold codB at c1
  unfold cloB at c2
  unfold filB at c3
  cases q : K.lookup a with
  | none =>
    rw [q] at c1
    cases c1
  | some o =>
    obtain ⟨oc, od, dt, osl⟩ := o
    rw [q] at c1 c2 c3 e
    cases dt with
    | func fd =>
      have ekw : kwV K a = fd.kwdefaults := by
        unfold kwV
        rw [q]
      obtain ⟨n1, n2, n3, n4, n5, n6, n7, n8, n9, n10, n11, n12, n13, n14, n15⟩ := fd
      have e2 : (some (n1, n2, n3, n4, n5, n6, n7.map (·.1), n15) : FnY) = some (d.name, d.qual, defArgs d.st, .stmts (defBody d.st), defScope d.st, mainGlobals, [("__class__" : Str)], builtinsNs) := e
      simp only [Option.some.injEq, Prod.mk.injEq] at e2
      obtain ⟨h1, h2, h3, h4, h5, h6, h7, h8⟩ := e2
      obtain ⟨cc, rfl⟩ : ∃ cc, n7 = [(("__class__" : Str), cc)] := by
        match n7, h7 with
        | [(y, cc)], h7 =>
          have : y = ("__class__" : Str) := by
            have h9 : [y] = [("__class__" : Str)] := h7
            exact List.head_eq_of_cons_eq h9
          exact ⟨cc, by rw [this]⟩
      subst h1 h2 h3 h4 h5 h6 h8
      have c4 : (PySem.W.codeIn K n13 d.qual && noneB n8) = true := c1
      obtain ⟨k1, k2⟩ := ba c4
      have c5 : celC K cc C = true := c2
      unfold celC at c5
      have c6 : filV K n13 P.main.file = true := c3
      obtain ⟨oc3, od3, sl3, hcell⟩ : ∃ oc3 od3 sl3, K.lookup cc = some ⟨oc3, od3, .cell (some (.ref C)), sl3⟩ := by
        split at c5
        · rename_i x1 x2 D x3 ho
          rw [of_decide_eq_true c5] at ho
          exact ⟨_, _, _, ho⟩
        · cases c5
      cases n13 with
      | ref cda =>
        have c7 : filC K cda P.main.file = true := c6
        unfold filC at c7
        obtain ⟨oc2, od2, vs, sl2, fl, tf, w1, w2, w3⟩ : ∃ oc2 od2 vs sl2 fl tf, K.lookup cda = some ⟨oc2, od2, .fields vs, sl2⟩ ∧ vs.toList[2]? = some (Value.str fl tf) ∧ ((P.main.file : Str) == fl) = true := by
          split at c7
          · rename_i x1 x2 vs x3 ho
            split at c7
            · rename_i fl tf hv
              exact ⟨_, _, vs, _, fl, tf, ho, hv, c7⟩
            · cases c7
          · cases c7
        cases n8 with
        | none =>
          refine ⟨oc, od, n10, n11, n14, n12, osl, cda, cc, oc3, od3, sl3, oc2, od2, vs, sl2, fl, tf, ?_, k1, hcell, w1, w2, w3⟩
          rw [ekw]
          exact q
        | _ => cases k2
      | _ => cases c6
    | _ => cases c1
/-- what super() rests on besides -/
def supB (K : PySem.W.Frag) (C f2 : Addr) : Bool := PySem.W.isClsIn K C && (decide (PySem.W.mroIn K C (.ref C) = some true) && (eqO (PySem.W.nsIn K cStatics "thirdparty.any") (some none) && (eqO (PySem.W.ks_superIn K C C "__init__") (some (some (.ref f2))) &&
  (decide (PySem.W.typeIn K (.ref f2) = some (.type "function")) && PySem.W.fnIn K f2))))
/-! ### properties, calls -/
def getr (K : PySem.W.Frag) (p : Addr) : Addr := match PySem.W.recIn K p "property" with
  | some (.ref g :: _) => g
  | _ => 0
def proB (K : PySem.W.Frag) (C : Addr) (f : Str) : Bool := eqO (PySem.W.findIn K (.ref C) f) (some (some (.ref (ma K C f)))) && (eqO (PySem.W.specialIn K (.ref (ma K C f)) "__get__") (some (some (.builtin "property.__get__"))) &&
  (decide (PySem.W.takesIn K (.ref (ma K C f)) = some true) && (match PySem.W.recIn K (ma K C f) "property" with
    | some (.ref _ :: _) => true
    | _ => false)))
theorem pro_ok {K : PySem.W.Frag} {C : Addr} {f : Str} (h : proB K C f = true) : PropOf K C f (ma K C f) (getr K (ma K C f)) := by
  obtain ⟨c1, c⟩ := ba h
  obtain ⟨c2, c⟩ := ba c
  obtain ⟨c3, c4⟩ := ba c
  refine ⟨eqO_ok c1, eqO_ok c2, of_decide_eq_true c3, ?_⟩
  unfold getr
  split at c4
  · rename_i g rest e
    rw [e]
    exact ⟨rest, rfl⟩
  · cases c4
def calB (K : PySem.W.Frag) (C : Addr) : Bool := eqO (PySem.W.findIn K (.ref C) "__call__") (some (some (.ref (ma K C "__call__")))) && (PySem.W.isFn K (.ref (ma K C "__call__")) && PySem.W.fnIn K (ma K C "__call__"))
theorem cal_ok {K : PySem.W.Frag} {C : Addr} (h : calB K C = true) : CallO K C (ma K C "__call__") := by
  obtain ⟨c1, c⟩ := ba h
  obtain ⟨c2, c3⟩ := ba c
  exact ⟨eqO_ok c1, c2, c3⟩
/-! ### the Hook -/
/-- what an object names, as far as the facts ask -/
def refsQ (o : Obj) : List Addr := match o.data with
  | .dict es _ => es.toList.flatMap fun e => refV e.val
  | .func fd => refV fd.code ++ (refV fd.defaults ++ (refV fd.kwdefaults ++ fd.closure.map (·.2)))
  | .cls cd => [cd.ns]
  | .fields vs => (match o.cls with
    | .type n => (match decide (n = "property") with
      | true => vs.toList.flatMap refV
      | false => [])
    | _ => [])
  | _ => []
def frL {α : Type} : List Addr → (List Addr → α) → α
  | [], k => k []
  | a :: r, k => HandSHeadRun.frNat a fun a => frL r fun r => k (a :: r)
theorem frL_eq {α : Type} : ∀ (l : List Addr) (k : List Addr → α), frL l k = k l
  | [], _ => rfl
  | a :: r, k => by
    show (HandSHeadRun.frNat a fun a => frL r fun r => k (a :: r)) = _
    rw [HandSHeadRun.frNat_eq, frL_eq r]
def lvl (g : Addr → Option Obj) (as : List Addr) : List Addr := as.flatMap fun a => match g a with
  | some o => refsQ o
  | none => []
def asQ {α : Type} (g : Addr → Option Obj) : Nat → List Addr → List Addr → (List Addr → α) → α
  | 0, fr, acc, k => k (acc ++ fr)
  | n + 1, fr, acc, k => frL (lvl g fr) fun f2 => asQ g n f2 (acc ++ fr) k
theorem asQ_ex {g : Addr → Option Obj} : ∀ (n : Nat) (fr acc : List Addr), ∃ as : List Addr, ∀ (α : Type) (k : List Addr → α), asQ g n fr acc k = k as
  | 0, fr, acc => ⟨acc ++ fr, fun _ _ => rfl⟩
  | n + 1, fr, acc => by
    obtain ⟨as, h⟩ := asQ_ex (g := g) n (lvl g fr) (acc ++ fr)
    refine ⟨as, fun α k => ?_⟩
    show (frL (lvl g fr) fun f2 => asQ g n f2 (acc ++ fr) k) = _
    rw [frL_eq]
    exact h α k
def frK {α : Type} (g : Addr → Option Obj) : List Addr → (PySem.W.Frag → α) → α
  | [], k => k []
  | a :: r, k => match g a with
    | some o => frK g r fun K => k ((a, o) :: K)
    | none => frK g r k
theorem frK_eq {α : Type} {g : Addr → Option Obj} : ∀ (as : List Addr) (k : PySem.W.Frag → α), frK g as k = k (frG g as)
  | [], _ => rfl
  | a :: r, k => by
    unfold frK frG
    rw [List.filterMap_cons]
    cases g a with
    | some o =>
      show (frK g r fun K => k ((a, o) :: K)) = _
      rw [frK_eq r]
      rfl
    | none =>
      show frK g r k = _
      rw [frK_eq r]
      rfl
abbrev AlP : Type := Bool × List FnY
abbrev Ck : Type := PySem.W.Frag → Bool
def obsP (cs : List Ck) (fn : List Dp) (K : PySem.W.Frag) : AlP := (cs.all fun c => c K, fn.map fun d => fnY K (d.at_ K))
def valP (fn : List Dp) : AlP := (true, fn.map Dp.val)
def SaysP (cs : List Ck) (fn : List Dp) (K : PySem.W.Frag) : Prop := obsP cs fn K = valP fn
def obsPG (n : Nat) (cs : List Ck) (fn : List Dp) (g : Addr → Option Obj) : AlP := asQ g n [mainGlobals, cStatics] [] fun as => frK g as fun K => obsP cs fn K
theorem obsPG_ex (n : Nat) (cs : List Ck) (fn : List Dp) (g : Addr → Option Obj) : ∃ as, obsPG n cs fn g = obsP cs fn (frG g as) := by
  obtain ⟨as, h⟩ := asQ_ex (g := g) n [mainGlobals, cStatics] []
  refine ⟨as, ?_⟩
  unfold obsPG
  rw [h, frK_eq]
def hookP (n : Nat) (cs : List Ck) (fn : List Dp) : PySem.W.Hook where
  α := AlP
  obs := fun s => obsPG n cs fn s.heap.get?
  val := fun _ => valP fn
  says := fun _ h => ∃ K : PySem.W.Frag, K.In h ∧ SaysP cs fn K
  of := fun _ s e => by
    obtain ⟨as, h⟩ := obsPG_ex n cs fn s.heap.get?
    rw [h] at e
    exact ⟨_, frG_in, e⟩
  keeps := fun _ _ _ ⟨K, hK, c⟩ k => ⟨K, PySem.W.Frag.In.keeps hK k, c⟩
theorem obsPG_eq {n : Nat} {cs : List Ck} {fn : List Dp} {g : Addr → Option Obj} {s : Shared} (h : ∀ a, g a = s.heap.get? a) : obsPG n cs fn g = (hookP n cs fn).obs s := by
  have e : g = s.heap.get? := funext h
  rw [e] <;> rfl
section
variable {cs : List Ck} {fn : List Dp} {K : PySem.W.Frag}
theorem SaysP.ck (c : SaysP cs fn K) (i : Nat) {f : Ck} (h : cs[i]? = some f := by rfl) : f K = true :=
  List.all_eq_true.mp (show (cs.all fun c => c K) = true from congrArg (fun z : AlP => z.1) c) f (List.mem_of_getElem? h)
theorem SaysP.at_ (c : SaysP cs fn K) (i : Nat) {d : Dp} (h : fn[i]? = some d := by rfl) : fnY K (d.at_ K) = d.val := by
  have e : fn.map (fun d => fnY K (d.at_ K)) = fn.map Dp.val := congrArg (fun z : AlP => z.2) c
  have e2 : (fn.map fun d => fnY K (d.at_ K))[i]? = (fn.map Dp.val)[i]? := by rw [e]
  rw [List.getElem?_map, List.getElem?_map, h] at e2
  exact Option.some.inj e2
end
/-! ### the law's end -/
theorem walk_goE {l : PySem.W.OpenLaw} {n k : Nat} {q : Program} {loose : List Str} {XP : (Str → Option Value) → Heap → Prop} {YP : World → Heap → Prop} {d : DefRec} {x : Str}
    (most : l.most = some n) (few : n ≤ sizeLine) (nodf : d.params.defaults = []) (hr : Room k callerA)
    (F : ∀ (w : World) (mg : Str → Option Value) (fa : Addr) (h : Heap), YP w h → h.Ns mainGlobals mg → mg d.name = some (.ref fa) →
      ∃ (K : PySem.W.Frag) (fd : FuncData) (sp : Sp), K.In h ∧ (∀ (s : Shared) (u : Value), BindsTo s fd ⟨[u], []⟩ [(x, u)]) ∧
        (∀ (H : Hp) (a : Addr) (ns : List Int), ns.length ≤ n → Only H → SqL K H a (ns.map V.int) → sp [.ref a] H (fun v _ => v = .bl true) fun _ _ _ => False) ∧
        ∀ base : Heap, K.In base → base.Ns mainGlobals mg → FnG l.prog w K mg base CX0 k fa fd [x] sp) :
    PySem.W.WalkO q loose XP YP l.row.toRowW d [] (fun f vs => PySem.call f vs) := by
  refine Att.attach_call most nodf
    fun w _ s₁ mg mb fa _ _ _ _ a vs ns top Y _ _ _ atF obj allInt len noG => ?_
  obtain ⟨K, fd, sp, inK, binds, hsp, keeps⟩ := F w mg fa _ Y top.T.g atF
  exact law_go inK top.T.g top.T.b top.T.builtins top.T.nolimit noG obj allInt (Nat.le_trans len few) hr keeps binds
    fun H hO hS => hsp H a ns len hO hS
end G
set_option Elab.async false
set_option linter.all false
set_option maxRecDepth 100000
set_option maxHeartbeats 2000000
/-! TK: a Hook that tells the empty tables of some code objects besides; the law's end over it. -/
namespace G
open PySem PySem.Spec PyProof.Rows L2 NdefX StX He LamX
/-- the table of the code object of the def at a -/
def tbOf (K : PySem.W.Frag) (a : Addr) : Addr := match K.lookup (cdOf K a) with
  | some ⟨_, _, .fields vs, _⟩ => (match (vs.toList[11]? : Option Value) with
    | some (.ref P) => P
    | _ => 0)
  | _ => 0
/-- the facts that a def's table wants of the written part -/
def tabB (K : PySem.W.Frag) (a : Addr) : Bool := PySem.W.codeHdIn K (cdOf K a) (tbOf K a) && !(K.lookup (tbOf K a)).isSome
abbrev AlT : Type := AlP × List (Option Obj)
def tabE : Obj := { cls := .none, data := .fields #[] }
def obsT (cs : List Ck) (fn : List Dp) (tb : List (PySem.W.Frag → Addr)) (g : Addr → Option Obj) (K : PySem.W.Frag) : AlT := (obsP cs fn K, tb.map fun t => g (tbOf K (t K)))
def valT (fn : List Dp) (tb : List (PySem.W.Frag → Addr)) : AlT := (valP fn, tb.map fun _ => some tabE)
def obsTG (n : Nat) (cs : List Ck) (fn : List Dp) (tb : List (PySem.W.Frag → Addr)) (g : Addr → Option Obj) : AlT := asQ g n [mainGlobals, cStatics] [] fun as => frK g as fun K => obsT cs fn tb g K
theorem obsTG_ex (n : Nat) (cs : List Ck) (fn : List Dp) (tb : List (PySem.W.Frag → Addr)) (g : Addr → Option Obj) : ∃ as, obsTG n cs fn tb g = obsT cs fn tb g (frG g as) := by
  obtain ⟨as, h⟩ := asQ_ex (g := g) n [mainGlobals, cStatics] []
  refine ⟨as, ?_⟩
  unfold obsTG
  rw [h, frK_eq]
/-- what the Hook says -/
def SaysT (cs : List Ck) (fn : List Dp) (tb : List (PySem.W.Frag → Addr)) (K : PySem.W.Frag) (h : Heap) : Prop := SaysP cs fn K ∧ ∀ t ∈ tb, h.get? (tbOf K (t K)) = some tabE
def hookT (n : Nat) (cs : List Ck) (fn : List Dp) (tb : List (PySem.W.Frag → Addr)) : PySem.W.Hook where
  α := AlT
  obs := fun s => obsTG n cs fn tb s.heap.get?
  val := fun _ => valT fn tb
  says := fun _ h => ∃ K : PySem.W.Frag, K.In h ∧ SaysT cs fn tb K h
  of := fun _ s e => by
    obtain ⟨as, h⟩ := obsTG_ex n cs fn tb s.heap.get?
    rw [h] at e
    obtain ⟨e1, e2⟩ := Prod.mk.inj e
    exact ⟨_, frG_in, e1, List.map_inj_left.mp e2⟩
  keeps := fun _ _ _ ⟨K, hK, c, d⟩ k => ⟨K, PySem.W.Frag.In.keeps hK k, c, fun t ht => k _ _ (d t ht)⟩
theorem obsTG_eq {n : Nat} {cs : List Ck} {fn : List Dp} {tb : List (PySem.W.Frag → Addr)} {g : Addr → Option Obj} {s : Shared} (h : ∀ a, g a = s.heap.get? a) : obsTG n cs fn tb g = (hookT n cs fn tb).obs s := by
  have e : g = s.heap.get? := funext h
  rw [e] <;> rfl
/-- nothing but the script and the tables at ts is tracked -/
def OnlyT (ts : List Addr) (H : Hp) : Prop := ∀ b, H b = none ∨ (b ∈ ts ∧ H b = some (.tbl #[])) ∨ ∃ o xs, H b = some (.frz o (.lst xs))
/-- the law's call, from the state that the top leaves, with tables -/
theorem law_goT {P : Program} {w : World} {K : PySem.W.Frag} {mg mb : Str → Option Value} {k : Nat} {fa a : Addr} {cs : List (Addr × Addr)} {fd : FuncData} {x : Str} {sp : Sp} {s₁ : Shared} {vs : List Value} {ns : List Int}
    (inK : K.In s₁.heap) (gl : s₁.heap.Ns mainGlobals mg)
    (bl : s₁.heap.Ns builtinsNs mb) (boot : ∀ y : Str, y ≠ "__name__" → mb y = bootBuiltins y)
    (lim : s₁.heap.NoLimit) (noG : s₁.gens = #[])
    (hT : ∀ p ∈ cs, s₁.heap.get? p.2 = some tabE) (nT : ∀ p ∈ cs, K.lookup p.2 = none) (C : ∀ p ∈ cs, PySem.W.codeHdIn K p.1 p.2 = true)
    (bmain : ∃ (bm : Addr) (ob : Obj), mg "__builtins__" = some (.ref bm) ∧ bm ≠ builtinsNs ∧ s₁.heap.get? bm = some ob ∧ ob.cls = .type "module" ∧ ob.dict = some builtinsNs ∧ ob.data = .plain)
    (script : s₁.heap.get? a = some { cls := .type "list", data := .seq vs.toArray })
    (allInt : IntsAre vs ns) (few : ns.length ≤ sizeLine) (hr : Room k callerA)
    (F : ∀ base : Heap, K.In base → base.Ns mainGlobals mg → (∀ p ∈ cs, TabB base mg p.1 p.2) → FnG P w K mg base CX0 k fa fd [x] sp) (hbind : ∀ (s : Shared) (u : Value), BindsTo s fd ⟨[u], []⟩ [(x, u)])
    (hsp : ∀ H : Hp, (∀ p ∈ cs, H p.2 = some (.tbl #[])) → SqL K H a (ns.map V.int) → sp [.ref a] H (fun v _ => v = .bl true) fun _ _ _ => False) :
    codeAny (model P w) callerA (.call (.ref fa) ⟨[.ref a], []⟩) (Fine s₁) s₁ := by
  have tabAt : ∀ b : Addr, b ∈ cs.map (·.2) → s₁.heap.get? b = some tabE := fun b hb => by
    obtain ⟨p, hp, e⟩ := List.mem_map.mp hb
    rw [← e]
    exact hT p hp
  have aT : a ∉ cs.map (·.2) := fun z => by
    have q := tabAt a z
    rw [script] at q
    exact nomatch (show Data.seq vs.toArray _ = Data.fields #[] from congrArg Obj.data (Option.some.inj q))
  have main : ∀ H : Hp, OnlyT (cs.map (·.2)) H → (∀ p ∈ cs, H p.2 = some (.tbl #[])) → SqL K H a (ns.map V.int) → HOk P w H s₁.heap → (∀ b, H b ≠ none → (b = a ∧ K.lookup a = none) ∨ b ∈ cs.map (·.2)) →
      codeAny (model P w) callerA (.call (.ref fa) ⟨[.ref a], []⟩) (Fine s₁) s₁ := by
    intro H hO hH hS hok hA
    have away : ∀ {b : Addr} {o : Obj}, s₁.heap.get? b = some o → (∀ us n, o.data ≠ .seq us n) → o.data ≠ .fields #[] → H b = none := fun {b o} e n1 n2 => by
      cases q : H b with
      | none => rfl
      | some u =>
        exfalso
        rcases hA b (by rw [q]; simp) with ⟨z, _⟩ | z
        · rw [z, script] at e
          rw [← Option.some.inj e] at n1
          exact n1 _ _ rfl
        · rw [tabAt b z] at e
          rw [← Option.some.inj e] at n2
          exact n2 rfl
    have nsK : ∀ {b : Addr} {m : Str → Option Value}, s₁.heap.Ns b m → (hidT s₁.heap H).Ns b m := by
      rintro b m ⟨o, es, ep, e, d, r⟩
      exact ⟨o, es, ep, hidT_get e (away e (fun us n z => by rw [d] at z; cases z) fun z => by rw [d] at z; cases z), d, r⟩
    have inB : K.In (hidT s₁.heap H) := fun b o e => hidT_get (inK b o e) (by
      cases q : H b with
      | none => rfl
      | some u =>
        exfalso
        rcases hA b (by rw [q]; simp) with ⟨e1, e2⟩ | z
        · rw [e1, e2] at e
          cases e
        · obtain ⟨p, hp, ep⟩ := List.mem_map.mp z
          rw [← ep, nT p hp] at e
          cases e)
    have hM : Mod K mg (hidT s₁.heap H) := ⟨inB, nsK gl, ⟨mb, nsK bl, boot⟩, let ⟨mc, l1, l2⟩ := lim; ⟨mc, nsK l1, l2⟩⟩
    have TB : ∀ p ∈ cs, TabB (hidT s₁.heap H) mg p.1 p.2 := fun p hp => by
      have dictNe : ∀ {b : Addr} {m : Str → Option Value}, s₁.heap.Ns b m → b ≠ p.2 := fun {b m} ⟨o, es, ep, e, d, _⟩ z => by
        rw [z, hT p hp] at e
        rw [← Option.some.inj e] at d
        cases d
      refine ⟨PySem.W.codeHd_of_K inB (C p hp), ?_, dictNe gl⟩
      obtain ⟨bm, ob, b1, b2, b3, b4, b5, b6⟩ := bmain
      refine ⟨bm, ob, b1, b2, fun z => ?_, fun z => ?_, hidT_get b3 (away b3 (fun us n z => by rw [b6] at z; cases z) fun z => by rw [b6] at z; cases z), b4, b5, b6⟩
      · obtain ⟨o, es, ep, e, d, _⟩ := gl
        rw [z, e] at b3
        rw [← Option.some.inj b3, d] at b6
        cases b6
      · rw [z, hT p hp] at b3
        rw [← Option.some.inj b3] at b6
        cases b6
    have e0 : Env0 P w K mg (hidT s₁.heap H) callerA [] s₁ H := ⟨rfl, hM, fun b o e => of_hidT e, Nat.le_of_eq (hidT_size _ _), trivial, fun b z => absurd (show b ∈ ([] : List Addr) from z) (by simp), hok, .of_eq noG⟩
    have run := (F _ inB (nsK gl) TB).go callerA [] s₁ H ⟨[.ref a], []⟩ [.ref a] [.ref a] _ _ rfl hr e0 (hbind s₁ (.ref a)) (.cons rfl .nil) (hsp H hH hS)
    refine codeAny_mono run fun r s' h => ?_
    match r, h with
    | .ok (.ret u), h =>
      obtain ⟨v, H', os, bare, un, hok', r', q⟩ := h
      obtain rfl : v = .bl true := q
      obtain rfl : u = Value.bool true := r'
      have grown : ∀ p ∈ cs, ∃ more : Array Value, s'.heap.get? p.2 = some { cls := .none, data := .fields more } := fun p hp => by
        obtain ⟨more, z⟩ := un.tbls p.2 #[] (hH p hp)
        exact ⟨_, hok' p.2 _ z⟩
      have same : ∀ b o, b ∉ cs.map (·.2) → s₁.heap.get? b = some o → s'.heap.get? b = some o := fun b o nb e => by
        rcases hO b with z | ⟨z, _⟩ | ⟨ob, xs, z⟩
        · exact un.keep b o e z (fun z => absurd (show b ∈ ([] : List Addr) from z) (by simp)) (by simp)
        · exact absurd z nb
        · obtain ⟨e1, _⟩ := hok b _ z
          obtain ⟨e2, _⟩ := hok' b _ (un.frzs b ob _ z)
          rw [e] at e1
          cases e1
          exact e2
      refine ⟨rfl, ⟨fun b o e => ?_, fun b o e => ?_⟩, os, bare⟩
      · by_cases hb : b ∈ cs.map (·.2)
        · obtain ⟨p, hp, ep⟩ := List.mem_map.mp hb
          obtain ⟨more, hm⟩ := grown p hp
          rw [← ep] at e ⊢
          rw [hT p hp] at e
          cases e
          exact .inr (.inl ⟨((PySem.W.codeHd_of_K inK (C p hp)).tab (hT p hp)).isCodeTable, rfl, #[], more, rfl, by rw [Array.empty_append]; exact hm⟩)
        · exact .inl (same b o hb e)
      · by_cases hb : b ∈ cs.map (·.2)
        · obtain ⟨p, hp, ep⟩ := List.mem_map.mp hb
          obtain ⟨more, hm⟩ := grown p hp
          rw [← ep]
          exact ⟨_, hm⟩
        · exact ⟨o, same b o hb e⟩
  let T : HO := .frz { cls := .type "list", data := .seq vs.toArray } (.lst (ns.map V.int))
  -- the tables, and the script if the written part doesn't hold it
  have over : ∀ H0 : Hp, (∀ b, H0 b = none ∨ (b = a ∧ K.lookup a = none ∧ H0 b = some T)) → SqL K (fun b => if b ∈ cs.map (·.2) then some (.tbl #[]) else H0 b) a (ns.map V.int) → codeAny (model P w) callerA (.call (.ref fa) ⟨[.ref a], []⟩) (Fine s₁) s₁ := by
    intro H0 h0 hS
    have yes : ∀ {b}, b ∈ cs.map (·.2) → (if b ∈ cs.map (·.2) then some (HO.tbl #[]) else H0 b) = some (.tbl #[]) := fun h => if_pos h
    have no : ∀ {b}, b ∉ cs.map (·.2) → (if b ∈ cs.map (·.2) then some (HO.tbl #[]) else H0 b) = H0 b := fun h => if_neg h
    refine main _ (fun b => ?_) (fun p hp => yes (List.mem_map.mpr ⟨p, hp, rfl⟩)) hS (fun b u z => ?_) fun b z => ?_
    · by_cases hb : b ∈ cs.map (·.2)
      · exact .inr (.inl ⟨hb, yes hb⟩)
      · rcases h0 b with e | ⟨_, _, e⟩
        · exact .inl ((no hb).trans e)
        · exact .inr (.inr ⟨_, _, (no hb).trans e⟩)
    · by_cases hb : b ∈ cs.map (·.2)
      · have z' := (yes hb).symm.trans z
        cases z'
        exact tabAt b hb
      · have z' := (no hb).symm.trans z
        rcases h0 b with e | ⟨eb, _, e⟩
        · rw [e] at z'
          cases z'
        · rw [e] at z'
          cases z'
          rw [eb]
          exact ⟨script, by rw [List.length_map]; exact few, vs, _, vals_ints allInt, script⟩
    · by_cases hb : b ∈ cs.map (·.2)
      · exact .inr hb
      · rcases h0 b with e | ⟨eb, ek, _⟩
        · exact absurd ((no hb).trans e) z
        · exact .inl ⟨eb, ek⟩
  cases hk : K.lookup a with
  | some o =>
    have e := inK a o hk
    rw [script] at e
    cases e
    refine over (fun _ => none) (fun _ => .inl rfl) (.inr ⟨_, vs.toArray, _, hk, rfl, rfl, rfl, ?_, ?_⟩)
    · rw [List.size_toArray, allInt.length]
      exact few
    · simpa using vals_ints allInt
  | none =>
    refine over (upd (fun _ => none) a T) (fun b => ?_) (.inl (.inr ⟨_, (if_neg aT).trans upd_same⟩))
    by_cases h : b = a
    · exact .inr ⟨h, hk, by rw [h]; exact upd_same⟩
    · exact .inl (upd_ne h)
/-- the row's walk, with tables -/
theorem walk_goT {l : PySem.W.OpenLaw} {n k : Nat} {q : Program} {loose : List Str} {XP : (Str → Option Value) → Heap → Prop} {YP : World → Heap → Prop} {d : DefRec} {x : Str}
    (most : l.most = some n) (few : n ≤ sizeLine) (nodf : d.params.defaults = []) (hr : Room k callerA)
    (F : ∀ (w : World) (mg : Str → Option Value) (fa : Addr) (h : Heap), YP w h → h.Ns mainGlobals mg → mg d.name = some (.ref fa) →
      ∃ (K : PySem.W.Frag) (fd : FuncData) (cs : List (Addr × Addr)) (sp : Sp), K.In h ∧ (∀ p ∈ cs, h.get? p.2 = some tabE) ∧ (∀ p ∈ cs, K.lookup p.2 = none) ∧ (∀ p ∈ cs, PySem.W.codeHdIn K p.1 p.2 = true) ∧ (∀ (s : Shared) (u : Value), BindsTo s fd ⟨[u], []⟩ [(x, u)]) ∧
        (∀ (H : Hp) (a : Addr) (ns : List Int), ns.length ≤ n → (∀ p ∈ cs, H p.2 = some (.tbl #[])) → SqL K H a (ns.map V.int) → sp [.ref a] H (fun v _ => v = .bl true) fun _ _ _ => False) ∧
        ∀ base : Heap, K.In base → base.Ns mainGlobals mg → (∀ p ∈ cs, TabB base mg p.1 p.2) → FnG l.prog w K mg base CX0 k fa fd [x] sp) :
    PySem.W.WalkO q loose XP YP l.row.toRowW d [] (fun f vs => PySem.call f vs) := by
  refine Att.attach_call most nodf
    fun w _ s₁ mg mb fa _ _ _ _ a vs ns top Y _ _ _ atF obj allInt len noG => ?_
  obtain ⟨K, fd, cs, sp, inK, hT, nT, C, binds, hsp, keeps⟩ := F w mg fa _ Y top.T.g atF
  exact law_goT inK top.T.g top.T.b top.T.builtins top.T.nolimit noG hT nT C top.T.bmain obj allInt (Nat.le_trans len few) hr keeps binds
    fun H hH hS => hsp H a ns len hH hS
end G
set_option Elab.async false
set_option linter.all false
set_option maxRecDepth 100000
set_option maxHeartbeats 2000000
/-! TU: TK's Hook that tells the module's dicts with text keys besides. -/
namespace G
open PySem PySem.Spec PyProof.Rows L2 NdefX StX He LamX
abbrev AlU : Type := G.AlT × List (Option (List (Option (Str × Int))))
/-- a dict of the module: where, its keys in order -/
abbrev Dk : Type := (PySem.W.Frag → Addr) × List Str
def obsU (cs : List Ck) (fn : List Dp) (tb : List (PySem.W.Frag → Addr)) (ds : List Dk) (g : Addr → Option Obj) (K : PySem.W.Frag) : AlU := (G.obsT cs fn tb g K, ds.map fun t => He.dicW K (t.1 K))
def valU (fn : List Dp) (tb : List (PySem.W.Frag → Addr)) (ds : List Dk) (w : World) : AlU := (G.valT fn tb, ds.map fun t => some (He.keysIn w.params t.2))
def obsUG (n : Nat) (cs : List Ck) (fn : List Dp) (tb : List (PySem.W.Frag → Addr)) (ds : List Dk) (g : Addr → Option Obj) : AlU := asQ g n [mainGlobals, cStatics] [] fun as => frK g as fun K => obsU cs fn tb ds g K
theorem obsUG_ex (n : Nat) (cs : List Ck) (fn : List Dp) (tb : List (PySem.W.Frag → Addr)) (ds : List Dk) (g : Addr → Option Obj) : ∃ as, obsUG n cs fn tb ds g = obsU cs fn tb ds g (frG g as) := by
  obtain ⟨as, h⟩ := asQ_ex (g := g) n [mainGlobals, cStatics] []
  refine ⟨as, ?_⟩
  unfold obsUG
  rw [h, frK_eq]
/-- what the Hook says -/
def SaysU (cs : List Ck) (fn : List Dp) (tb : List (PySem.W.Frag → Addr)) (ds : List Dk) (w : World) (K : PySem.W.Frag) (h : Heap) : Prop := G.SaysT cs fn tb K h ∧ ∀ t ∈ ds, ∃ es n, KDict K w (t.1 K) es n
def hookU (n : Nat) (cs : List Ck) (fn : List Dp) (tb : List (PySem.W.Frag → Addr)) (ds : List Dk) : PySem.W.Hook where
  α := AlU
  obs := fun s => obsUG n cs fn tb ds s.heap.get?
  val := fun w => valU fn tb ds w
  says := fun w h => ∃ K : PySem.W.Frag, K.In h ∧ SaysU cs fn tb ds w K h
  of := fun w s e => by
    obtain ⟨as, h⟩ := obsUG_ex n cs fn tb ds s.heap.get?
    rw [h] at e
    obtain ⟨e0, e3⟩ := Prod.mk.inj e
    obtain ⟨e1, e2⟩ := Prod.mk.inj e0
    exact ⟨_, frG_in, ⟨e1, List.map_inj_left.mp e2⟩, fun t ht => dicW_ok (List.map_inj_left.mp e3 t ht)⟩
  keeps := fun _ _ _ ⟨K, hK, ⟨c, d⟩, q⟩ k => ⟨K, PySem.W.Frag.In.keeps hK k, ⟨c, fun t ht => k _ _ (d t ht)⟩, q⟩
theorem obsUG_eq {n : Nat} {cs : List Ck} {fn : List Dp} {tb : List (PySem.W.Frag → Addr)} {ds : List Dk} {g : Addr → Option Obj} {s : Shared} (h : ∀ a, g a = s.heap.get? a) : obsUG n cs fn tb ds g = (hookU n cs fn tb ds).obs s := by
  have e : g = s.heap.get? := funext h
  rw [e] <;> rfl
end G
set_option Elab.async false
set_option linter.all false
set_option maxRecDepth 100000
set_option maxHeartbeats 8000000
/-! XA: what the top has written. -/
namespace G
open PySem PySem.Spec PyProof.Rows L2 NdefX StX LamX SkL
abbrev PX : Program := PySem.W.OpenLaw.prog PySem.Challenge.rw_listviews_k48_whole_single_operations
def cks0 : List Ck := [
  fun K => He.Fa.ok K (.free "isinstance"),
  fun K => He.Fa.ok K (.free "int"),
  fun K => He.Fa.ok K (.free "bool"),
  fun K => He.Fa.ok K (.free "str"),
  fun K => He.Fa.ok K (.free "dict"),
  fun K => He.Fa.ok K (.free "len"),
  fun K => He.Fa.ok K (.free "all"),
  fun K => He.Fa.ok K (.free "list"),
  fun K => He.Fa.ok K (.free "range"),
  fun K => He.Fa.ok K (.free "min"),
  fun K => He.Fa.ok K (.free "max"),
  fun K => He.Fa.ok K (.free "tuple"),
  fun K => He.Fa.ok K (.free "set"),
  fun K => He.Fa.ok K (.free "sorted"),
  fun K => He.Fa.ok K (.free "enumerate"),
  fun K => He.Fa.ok K (.str "LETTERS" "abcdefghijklmnopqrstuvwxyz"),
  fun K => He.Fa.ok K (.int "MOST_LETTERS" 8),
  fun K => He.Fa.ok K (.int "MOST_IN_ANSWER" 3),
  fun K => He.Fa.ok K (.int "GREATEST_IN_ANSWER" 9999),
  fun K => He.Fa.ok K (.int "MOST_PLAIN_ROWS" 40),
  fun K => He.Fa.ok K (.int "MOST_ROWS" 80),
  fun K => He.Fa.ok K (.int "MOST_STEPS_ASKED" 999),
  fun K => He.Fa.ok K (.glo "FACTORS"),
  fun K => plainB K (He.ga K "is_integer") "is_integer",
  fun K => He.Fa.ok K (.glo "is_integer"),
  fun K => plainB K (He.ga K "is_name") "is_name",
  fun K => He.Fa.ok K (.glo "is_name"),
  fun K => plainB K (He.ga K "is_list") "is_list",
  fun K => He.Fa.ok K (.glo "is_list"),
  fun K => plainB K (He.ga K "answer_of") "answer_of"]
def cks1 : List Ck := [
  fun K => He.Fa.ok K (.glo "answer_of"),
  fun K => plainB K (He.ga K "is_full_answer") "is_full_answer",
  fun K => He.Fa.ok K (.glo "is_full_answer"),
  fun K => plainB K (He.ga K "is_answer_item") "is_answer_item",
  fun K => He.Fa.ok K (.glo "is_answer_item"),
  fun K => plainB K (He.ga K "is_row") "is_row",
  fun K => He.Fa.ok K (.glo "is_row"),
  fun K => plainB K (He.ga K "is_rows") "is_rows",
  fun K => He.Fa.ok K (.glo "is_rows"),
  fun K => plainB K (He.ga K "need_integer") "need_integer",
  fun K => He.Fa.ok K (.glo "need_integer"),
  fun K => plainB K (He.ga K "need_rows") "need_rows",
  fun K => He.Fa.ok K (.glo "need_rows"),
  fun K => plainB K (He.ga K "is_kind") "is_kind",
  fun K => He.Fa.ok K (.glo "is_kind"),
  fun K => plainB K (He.ga K "need_kind") "need_kind",
  fun K => He.Fa.ok K (.glo "need_kind"),
  fun K => plainB K (He.ga K "factor") "factor",
  fun K => He.Fa.ok K (.glo "factor"),
  fun K => plainB K (He.ga K "most_steps") "most_steps",
  fun K => He.Fa.ok K (.glo "most_steps"),
  fun K => plainB K (He.ga K "window") "window",
  fun K => He.Fa.ok K (.glo "window"),
  fun K => plainB K (He.ga K "filtered") "filtered",
  fun K => He.Fa.ok K (.glo "filtered"),
  fun K => plainB K (He.ga K "ordered") "ordered",
  fun K => He.Fa.ok K (.glo "ordered"),
  fun K => plainB K (He.ga K "first_ones") "first_ones",
  fun K => He.Fa.ok K (.glo "first_ones"),
  fun K => plainB K (He.ga K "grouped") "grouped"]
def cks2 : List Ck := [
  fun K => He.Fa.ok K (.glo "grouped"),
  fun K => plainB K (He.ga K "need_rows_with_answers") "need_rows_with_answers",
  fun K => He.Fa.ok K (.glo "need_rows_with_answers"),
  fun K => plainB K (He.ga K "answer_for") "answer_for",
  fun K => He.Fa.ok K (.glo "answer_for"),
  fun K => plainB K (He.ga K "full_answers") "full_answers",
  fun K => He.Fa.ok K (.glo "full_answers"),
  fun K => plainB K (He.ga K "_law_cell") "_law_cell",
  fun K => He.Fa.ok K (.glo "_law_cell"),
  fun K => plainB K (He.ga K "_law_box") "_law_box",
  fun K => He.Fa.ok K (.glo "_law_box"),
  fun K => plainB K (He.ga K "_law_take") "_law_take",
  fun K => He.Fa.ok K (.glo "_law_take"),
  fun K => plainB K (He.ga K "_law_mixed") "_law_mixed",
  fun K => He.Fa.ok K (.glo "_law_mixed"),
  fun K => plainB K (He.ga K "_law_names") "_law_names",
  fun K => He.Fa.ok K (.glo "_law_names"),
  fun K => plainB K (He.ga K "_law_full") "_law_full",
  fun K => He.Fa.ok K (.glo "_law_full"),
  fun K => plainB K (He.ga K "_law_steps") "_law_steps",
  fun K => He.Fa.ok K (.glo "_law_steps"),
  fun K => plainB K (He.ga K "_law_shown") "_law_shown",
  fun K => He.Fa.ok K (.glo "_law_shown"),
  fun K => plainB K (He.ga K "_law_bound") "_law_bound",
  fun K => He.Fa.ok K (.glo "_law_bound"),
  fun K => plainB K (He.ga K "_law_kinds") "_law_kinds",
  fun K => He.Fa.ok K (.glo "_law_kinds"),
  fun K => plainB K (He.ga K "_law_operations") "_law_operations",
  fun K => He.Fa.ok K (.glo "_law_operations"),
  fun K => plainB K (He.ga K "_law_right") "_law_right"]
def cks3 : List Ck := [
  fun K => He.Fa.ok K (.glo "_law_right"),
  fun K => plainB K (He.ga K "_law_scenes_right") "_law_scenes_right",
  fun K => He.Fa.ok K (.glo "_law_scenes_right"),
  fun K => plainB K (He.ga K "law") "law",
  fun K => He.Fa.ok K (.glo "law"),
  fun K => tabB K (He.ga K "ordered"),
  fun K => He.valsB K (He.ga K "FACTORS") [("filtered", .int 1), ("ordered", .int 1), ("unique", .int 2), ("window", .int 2), ("grouped", .int 3), ("mapped", .int 1)]]
abbrev cks : List Ck := cks0 ++ cks1 ++ cks2 ++ cks3
def fns0 : List Dp := [
  ⟨fun K => He.ga K "is_integer", "is_integer", "is_integer", sIsInt, []⟩,
  ⟨fun K => He.ga K "is_name", "is_name", "is_name", sIsName, []⟩,
  ⟨fun K => He.ga K "is_list", "is_list", "is_list", sIsList, []⟩,
  ⟨fun K => He.ga K "answer_of", "answer_of", "answer_of", sAnsOf, []⟩,
  ⟨fun K => He.ga K "is_full_answer", "is_full_answer", "is_full_answer", sFullA, []⟩,
  ⟨fun K => He.ga K "is_answer_item", "is_answer_item", "is_answer_item", sItemA, []⟩,
  ⟨fun K => He.ga K "is_row", "is_row", "is_row", sIsRow, []⟩,
  ⟨fun K => He.ga K "is_rows", "is_rows", "is_rows", sIsRows, []⟩,
  ⟨fun K => He.ga K "need_integer", "need_integer", "need_integer", sNeedInt, []⟩,
  ⟨fun K => He.ga K "need_rows", "need_rows", "need_rows", sNeedRw, []⟩,
  ⟨fun K => He.ga K "is_kind", "is_kind", "is_kind", sIsKind, []⟩,
  ⟨fun K => He.ga K "need_kind", "need_kind", "need_kind", sNeedKind, []⟩,
  ⟨fun K => He.ga K "factor", "factor", "factor", sFactor, []⟩,
  ⟨fun K => He.ga K "most_steps", "most_steps", "most_steps", sMost, []⟩,
  ⟨fun K => He.ga K "window", "window", "window", sWin, []⟩,
  ⟨fun K => He.ga K "filtered", "filtered", "filtered", sFil, []⟩,
  ⟨fun K => He.ga K "ordered", "ordered", "ordered", sOrd, []⟩,
  ⟨fun K => He.ga K "first_ones", "first_ones", "first_ones", sFirst, []⟩,
  ⟨fun K => He.ga K "grouped", "grouped", "grouped", sGrp, []⟩,
  ⟨fun K => He.ga K "need_rows_with_answers", "need_rows_with_answers", "need_rows_with_answers", sNeedRows, []⟩]
def fns1 : List Dp := [
  ⟨fun K => He.ga K "answer_for", "answer_for", "answer_for", sAnsFor, []⟩,
  ⟨fun K => He.ga K "full_answers", "full_answers", "full_answers", sFullAs, []⟩,
  ⟨fun K => He.ga K "_law_cell", "_law_cell", "_law_cell", sCell, []⟩,
  ⟨fun K => He.ga K "_law_box", "_law_box", "_law_box", sBox, []⟩,
  ⟨fun K => He.ga K "_law_take", "_law_take", "_law_take", sTake, []⟩,
  ⟨fun K => He.ga K "_law_mixed", "_law_mixed", "_law_mixed", sMixed, []⟩,
  ⟨fun K => He.ga K "_law_names", "_law_names", "_law_names", sNames, []⟩,
  ⟨fun K => He.ga K "_law_full", "_law_full", "_law_full", sFullL, []⟩,
  ⟨fun K => He.ga K "_law_steps", "_law_steps", "_law_steps", sLStp, []⟩,
  ⟨fun K => He.ga K "_law_shown", "_law_shown", "_law_shown", sShown, []⟩,
  ⟨fun K => He.ga K "_law_bound", "_law_bound", "_law_bound", sBound, []⟩,
  ⟨fun K => He.ga K "_law_kinds", "_law_kinds", "_law_kinds", sKinds, []⟩,
  ⟨fun K => He.ga K "_law_operations", "_law_operations", "_law_operations", sOps, []⟩,
  ⟨fun K => He.ga K "_law_right", "_law_right", "_law_right", sRgt, []⟩,
  ⟨fun K => He.ga K "_law_scenes_right", "_law_scenes_right", "_law_scenes_right", sScn, []⟩,
  ⟨fun K => He.ga K "law", "law", "law", sLaw, []⟩]
abbrev fns : List Dp := fns0 ++ fns1
def tbs : List (PySem.W.Frag → Addr) := [fun K => (He.ga K "ordered")]
def dks : List Dk := [(fun K => He.ga K "FACTORS", ["filtered", "ordered", "unique", "window", "grouped", "mapped"])]
def tabC (K : PySem.W.Frag) : List (Addr × Addr) := [(cdOf K (He.ga K "ordered"), tbOf K (He.ga K "ordered"))]
def tabT (K : PySem.W.Frag) : List (Addr × Str) := [(tbOf K (He.ga K "ordered"), lamQ)]
theorem tab_ok {K : PySem.W.Frag} (c : SaysP cks fns K) : PySem.W.codeHdIn K (cdOf K (He.ga K "ordered")) (tbOf K (He.ga K "ordered")) = true ∧ K.lookup (tbOf K (He.ga K "ordered")) = none := by
  have h : tabB K (He.ga K "ordered") = true := c.ck 95 rfl
  unfold tabB at h
  obtain ⟨h1, h2⟩ := He.ba h
  refine ⟨h1, ?_⟩
  cases e : K.lookup (tbOf K (He.ga K "ordered")) with
  | none => rfl
  | some o =>
    rw [e] at h2
    cases h2
theorem facts {w : World} {K : PySem.W.Frag} {h : Heap} {mg : Str → Option Value} {fa : Addr} (X : K.In h) (G : h.Ns mainGlobals mg) (hfa : mg "law" = some (.ref fa)) (c : SaysP cks fns K) (dk : ∃ es n, KDict K w (He.ga K "FACTORS") es n) :
    ∃ fd : FuncData, (∀ (s : Shared) (u : Value), BindsTo s fd ⟨[u], []⟩ [("_law_script", u)]) ∧ ∀ base : Heap, K.In base → base.Ns mainGlobals mg → (∀ p ∈ tabC K, TabB base mg p.1 p.2) → FnG PX w K mg base CX0 9 fa fd ["_law_script"] (spLaw K (tabT K)) := by
  have m_isinstance : mg "isinstance" = none := He.free_ok X G (c.ck 0 rfl)
  have m_int : mg "int" = none := He.free_ok X G (c.ck 1 rfl)
  have m_bool : mg "bool" = none := He.free_ok X G (c.ck 2 rfl)
  have m_str : mg "str" = none := He.free_ok X G (c.ck 3 rfl)
  have m_dict : mg "dict" = none := He.free_ok X G (c.ck 4 rfl)
  have m_len : mg "len" = none := He.free_ok X G (c.ck 5 rfl)
  have m_all : mg "all" = none := He.free_ok X G (c.ck 6 rfl)
  have m_list : mg "list" = none := He.free_ok X G (c.ck 7 rfl)
  have m_range : mg "range" = none := He.free_ok X G (c.ck 8 rfl)
  have m_min : mg "min" = none := He.free_ok X G (c.ck 9 rfl)
  have m_max : mg "max" = none := He.free_ok X G (c.ck 10 rfl)
  have m_tuple : mg "tuple" = none := He.free_ok X G (c.ck 11 rfl)
  have m_set : mg "set" = none := He.free_ok X G (c.ck 12 rfl)
  have m_sorted : mg "sorted" = none := He.free_ok X G (c.ck 13 rfl)
  have m_enumerate : mg "enumerate" = none := He.free_ok X G (c.ck 14 rfl)
  obtain ⟨tcLet, gcLet⟩ := He.str_ok X G (x := "LETTERS") (c.ck 15 rfl)
  obtain ⟨tcML, gcML⟩ := He.int_ok X G (x := "MOST_LETTERS") (c.ck 16 rfl)
  obtain ⟨tcMA, gcMA⟩ := He.int_ok X G (x := "MOST_IN_ANSWER") (c.ck 17 rfl)
  obtain ⟨tcGA, gcGA⟩ := He.int_ok X G (x := "GREATEST_IN_ANSWER") (c.ck 18 rfl)
  obtain ⟨tcMP, gcMP⟩ := He.int_ok X G (x := "MOST_PLAIN_ROWS") (c.ck 19 rfl)
  obtain ⟨tcMR, gcMR⟩ := He.int_ok X G (x := "MOST_ROWS") (c.ck 20 rfl)
  obtain ⟨tcMS, gcMS⟩ := He.int_ok X G (x := "MOST_STEPS_ASKED") (c.ck 21 rfl)
  have gFACS : mg "FACTORS" = some (.ref (He.ga K "FACTORS")) := He.glo_ok X G (c.ck 22 rfl)
  obtain ⟨fd1, F1⟩ : ∃ fd, Fun K "is_integer" "is_integer" sIsInt (He.ga K "is_integer") fd := fun_of (c.at_ 0 rfl) rfl (c.ck 23 rfl)
  have b1 := F1.binds (ps := ["value", "low", "high"]) fun _ _ _ _ _ _ us hl => match us, hl with | [_, _, _], _ => rfl
  have g1 : mg "is_integer" = some (.ref (He.ga K "is_integer")) := He.glo_ok X G (c.ck 24 rfl)
  have k1 := F1.kp
  obtain ⟨fd2, F2⟩ : ∃ fd, Fun K "is_name" "is_name" sIsName (He.ga K "is_name") fd := fun_of (c.at_ 1 rfl) rfl (c.ck 25 rfl)
  have b2 := F2.binds (ps := ["value"]) fun _ _ _ _ _ _ us hl => match us, hl with | [_], _ => rfl
  have g2 : mg "is_name" = some (.ref (He.ga K "is_name")) := He.glo_ok X G (c.ck 26 rfl)
  have k2 := F2.kp
  obtain ⟨fd3, F3⟩ : ∃ fd, Fun K "is_list" "is_list" sIsList (He.ga K "is_list") fd := fun_of (c.at_ 2 rfl) rfl (c.ck 27 rfl)
  have b3 := F3.binds (ps := ["value", "most"]) fun _ _ _ _ _ _ us hl => match us, hl with | [_, _], _ => rfl
  have g3 : mg "is_list" = some (.ref (He.ga K "is_list")) := He.glo_ok X G (c.ck 28 rfl)
  have k3 := F3.kp
  obtain ⟨fd4, F4⟩ : ∃ fd, Fun K "answer_of" "answer_of" sAnsOf (He.ga K "answer_of") fd := fun_of (c.at_ 3 rfl) rfl (c.ck 29 rfl)
  have b4 := F4.binds (ps := ["value"]) fun _ _ _ _ _ _ us hl => match us, hl with | [_], _ => rfl
  have g4 : mg "answer_of" = some (.ref (He.ga K "answer_of")) := He.glo_ok X G (c.ck 30 rfl)
  have k4 := F4.kp
  obtain ⟨fd5, F5⟩ : ∃ fd, Fun K "is_full_answer" "is_full_answer" sFullA (He.ga K "is_full_answer") fd := fun_of (c.at_ 4 rfl) rfl (c.ck 31 rfl)
  have b5 := F5.binds (ps := ["value"]) fun _ _ _ _ _ _ us hl => match us, hl with | [_], _ => rfl
  have g5 : mg "is_full_answer" = some (.ref (He.ga K "is_full_answer")) := He.glo_ok X G (c.ck 32 rfl)
  have k5 := F5.kp
  obtain ⟨fd6, F6⟩ : ∃ fd, Fun K "is_answer_item" "is_answer_item" sItemA (He.ga K "is_answer_item") fd := fun_of (c.at_ 5 rfl) rfl (c.ck 33 rfl)
  have b6 := F6.binds (ps := ["value"]) fun _ _ _ _ _ _ us hl => match us, hl with | [_], _ => rfl
  have g6 : mg "is_answer_item" = some (.ref (He.ga K "is_answer_item")) := He.glo_ok X G (c.ck 34 rfl)
  have k6 := F6.kp
  obtain ⟨fdir, Fir⟩ : ∃ fd, Fun K "is_row" "is_row" sIsRow (He.ga K "is_row") fd := fun_of (c.at_ 6 rfl) rfl (c.ck 35 rfl)
  have bir := Fir.binds (ps := ["value"]) fun _ _ _ _ _ _ us hl => match us, hl with | [_], _ => rfl
  have gir : mg "is_row" = some (.ref (He.ga K "is_row")) := He.glo_ok X G (c.ck 36 rfl)
  have kir := Fir.kp
  obtain ⟨fdis, Fis⟩ : ∃ fd, Fun K "is_rows" "is_rows" sIsRows (He.ga K "is_rows") fd := fun_of (c.at_ 7 rfl) rfl (c.ck 37 rfl)
  have bis := Fis.binds (ps := ["value"]) fun _ _ _ _ _ _ us hl => match us, hl with | [_], _ => rfl
  have gis : mg "is_rows" = some (.ref (He.ga K "is_rows")) := He.glo_ok X G (c.ck 38 rfl)
  have kis := Fis.kp
  obtain ⟨fdni, Fni⟩ : ∃ fd, Fun K "need_integer" "need_integer" sNeedInt (He.ga K "need_integer") fd := fun_of (c.at_ 8 rfl) rfl (c.ck 39 rfl)
  have bni := Fni.binds (ps := ["value", "low", "high"]) fun _ _ _ _ _ _ us hl => match us, hl with | [_, _, _], _ => rfl
  have gni : mg "need_integer" = some (.ref (He.ga K "need_integer")) := He.glo_ok X G (c.ck 40 rfl)
  have kni := Fni.kp
  obtain ⟨fdnw, Fnw⟩ : ∃ fd, Fun K "need_rows" "need_rows" sNeedRw (He.ga K "need_rows") fd := fun_of (c.at_ 9 rfl) rfl (c.ck 41 rfl)
  have bnw := Fnw.binds (ps := ["value"]) fun _ _ _ _ _ _ us hl => match us, hl with | [_], _ => rfl
  have gnw : mg "need_rows" = some (.ref (He.ga K "need_rows")) := He.glo_ok X G (c.ck 42 rfl)
  have knw := Fnw.kp
  obtain ⟨fdik, Fik⟩ : ∃ fd, Fun K "is_kind" "is_kind" sIsKind (He.ga K "is_kind") fd := fun_of (c.at_ 10 rfl) rfl (c.ck 43 rfl)
  have bik := Fik.binds (ps := ["value"]) fun _ _ _ _ _ _ us hl => match us, hl with | [_], _ => rfl
  have gik : mg "is_kind" = some (.ref (He.ga K "is_kind")) := He.glo_ok X G (c.ck 44 rfl)
  have kik := Fik.kp
  obtain ⟨fdnk, Fnk⟩ : ∃ fd, Fun K "need_kind" "need_kind" sNeedKind (He.ga K "need_kind") fd := fun_of (c.at_ 11 rfl) rfl (c.ck 45 rfl)
  have bnk := Fnk.binds (ps := ["value"]) fun _ _ _ _ _ _ us hl => match us, hl with | [_], _ => rfl
  have gnk : mg "need_kind" = some (.ref (He.ga K "need_kind")) := He.glo_ok X G (c.ck 46 rfl)
  have knk := Fnk.kp
  obtain ⟨fdfc, Ffc⟩ : ∃ fd, Fun K "factor" "factor" sFactor (He.ga K "factor") fd := fun_of (c.at_ 12 rfl) rfl (c.ck 47 rfl)
  have bfc := Ffc.binds (ps := ["kind"]) fun _ _ _ _ _ _ us hl => match us, hl with | [_], _ => rfl
  have gfc : mg "factor" = some (.ref (He.ga K "factor")) := He.glo_ok X G (c.ck 48 rfl)
  have kfc := Ffc.kp
  obtain ⟨fdms, Fms⟩ : ∃ fd, Fun K "most_steps" "most_steps" sMost (He.ga K "most_steps") fd := fun_of (c.at_ 13 rfl) rfl (c.ck 49 rfl)
  have bms := Fms.binds (ps := ["kind", "steps", "differing"]) fun _ _ _ _ _ _ us hl => match us, hl with | [_, _, _], _ => rfl
  have gms : mg "most_steps" = some (.ref (He.ga K "most_steps")) := He.glo_ok X G (c.ck 50 rfl)
  have kms := Fms.kp
  obtain ⟨fdwi, Fwi⟩ : ∃ fd, Fun K "window" "window" sWin (He.ga K "window") fd := fun_of (c.at_ 14 rfl) rfl (c.ck 51 rfl)
  have bwi := Fwi.binds (ps := ["rows", "start", "count"]) fun _ _ _ _ _ _ us hl => match us, hl with | [_, _, _], _ => rfl
  have gwi : mg "window" = some (.ref (He.ga K "window")) := He.glo_ok X G (c.ck 52 rfl)
  have kwi := Fwi.kp
  obtain ⟨fdfi, Ffi⟩ : ∃ fd, Fun K "filtered" "filtered" sFil (He.ga K "filtered") fd := fun_of (c.at_ 15 rfl) rfl (c.ck 53 rfl)
  have bfi := Ffi.binds (ps := ["rows", "answers"]) fun _ _ _ _ _ _ us hl => match us, hl with | [_, _], _ => rfl
  have gfi : mg "filtered" = some (.ref (He.ga K "filtered")) := He.glo_ok X G (c.ck 54 rfl)
  have kfi := Ffi.kp
  obtain ⟨fdor, For⟩ : ∃ fd, Fun K "ordered" "ordered" sOrd (He.ga K "ordered") fd := fun_of (c.at_ 16 rfl) rfl (c.ck 55 rfl)
  have bor := For.binds (ps := ["rows", "answers"]) fun _ _ _ _ _ _ us hl => match us, hl with | [_, _], _ => rfl
  have gor : mg "ordered" = some (.ref (He.ga K "ordered")) := He.glo_ok X G (c.ck 56 rfl)
  have kor := For.kp
  obtain ⟨fdfo, Ffo⟩ : ∃ fd, Fun K "first_ones" "first_ones" sFirst (He.ga K "first_ones") fd := fun_of (c.at_ 17 rfl) rfl (c.ck 57 rfl)
  have bfo := Ffo.binds (ps := ["rows", "answers"]) fun _ _ _ _ _ _ us hl => match us, hl with | [_, _], _ => rfl
  have gfo : mg "first_ones" = some (.ref (He.ga K "first_ones")) := He.glo_ok X G (c.ck 58 rfl)
  have kfo := Ffo.kp
  obtain ⟨fdgr, Fgr⟩ : ∃ fd, Fun K "grouped" "grouped" sGrp (He.ga K "grouped") fd := fun_of (c.at_ 18 rfl) rfl (c.ck 59 rfl)
  have bgr := Fgr.binds (ps := ["rows", "answers"]) fun _ _ _ _ _ _ us hl => match us, hl with | [_, _], _ => rfl
  have ggr : mg "grouped" = some (.ref (He.ga K "grouped")) := He.glo_ok X G (c.ck 60 rfl)
  have kgr := Fgr.kp
  obtain ⟨fdnr, Fnr⟩ : ∃ fd, Fun K "need_rows_with_answers" "need_rows_with_answers" sNeedRows (He.ga K "need_rows_with_answers") fd := fun_of (c.at_ 19 rfl) rfl (c.ck 61 rfl)
  have bnr := Fnr.binds (ps := ["rows", "answers"]) fun _ _ _ _ _ _ us hl => match us, hl with | [_, _], _ => rfl
  have gnr : mg "need_rows_with_answers" = some (.ref (He.ga K "need_rows_with_answers")) := He.glo_ok X G (c.ck 62 rfl)
  have knr := Fnr.kp
  obtain ⟨fdaf, Faf⟩ : ∃ fd, Fun K "answer_for" "answer_for" sAnsFor (He.ga K "answer_for") fd := fun_of (c.at_ 20 rfl) rfl (c.ck 63 rfl)
  have baf := Faf.binds (ps := ["row", "answers"]) fun _ _ _ _ _ _ us hl => match us, hl with | [_, _], _ => rfl
  have gaf : mg "answer_for" = some (.ref (He.ga K "answer_for")) := He.glo_ok X G (c.ck 64 rfl)
  have kaf := Faf.kp
  obtain ⟨fdfa, Ffa⟩ : ∃ fd, Fun K "full_answers" "full_answers" sFullAs (He.ga K "full_answers") fd := fun_of (c.at_ 21 rfl) rfl (c.ck 65 rfl)
  have bfa := Ffa.binds (ps := ["rows", "answers"]) fun _ _ _ _ _ _ us hl => match us, hl with | [_, _], _ => rfl
  have gfa : mg "full_answers" = some (.ref (He.ga K "full_answers")) := He.glo_ok X G (c.ck 66 rfl)
  have kfa := Ffa.kp
  obtain ⟨fd8, F8⟩ : ∃ fd, Fun K "_law_cell" "_law_cell" sCell (He.ga K "_law_cell") fd := fun_of (c.at_ 22 rfl) rfl (c.ck 67 rfl)
  have b8 := F8.binds (ps := ["_law_script", "_law_k"]) fun _ _ _ _ _ _ us hl => match us, hl with | [_, _], _ => rfl
  have g8 : mg "_law_cell" = some (.ref (He.ga K "_law_cell")) := He.glo_ok X G (c.ck 68 rfl)
  have k8 := F8.kp
  obtain ⟨fd9, F9⟩ : ∃ fd, Fun K "_law_box" "_law_box" sBox (He.ga K "_law_box") fd := fun_of (c.at_ 23 rfl) rfl (c.ck 69 rfl)
  have b9 := F9.binds (ps := ["_law_cell_here"]) fun _ _ _ _ _ _ us hl => match us, hl with | [_], _ => rfl
  have g9 : mg "_law_box" = some (.ref (He.ga K "_law_box")) := He.glo_ok X G (c.ck 70 rfl)
  have k9 := F9.kp
  obtain ⟨fdA, FA⟩ : ∃ fd, Fun K "_law_take" "_law_take" sTake (He.ga K "_law_take") fd := fun_of (c.at_ 24 rfl) rfl (c.ck 71 rfl)
  have bA := FA.binds (ps := ["_law_box_here", "_law_many"]) fun _ _ _ _ _ _ us hl => match us, hl with | [_, _], _ => rfl
  have gA : mg "_law_take" = some (.ref (He.ga K "_law_take")) := He.glo_ok X G (c.ck 72 rfl)
  have kA := FA.kp
  obtain ⟨fdB, FB⟩ : ∃ fd, Fun K "_law_mixed" "_law_mixed" sMixed (He.ga K "_law_mixed") fd := fun_of (c.at_ 25 rfl) rfl (c.ck 73 rfl)
  have bB := FB.binds (ps := ["_law_box_here", "_law_some"]) fun _ _ _ _ _ _ us hl => match us, hl with | [_, _], _ => rfl
  have gB : mg "_law_mixed" = some (.ref (He.ga K "_law_mixed")) := He.glo_ok X G (c.ck 74 rfl)
  have kB := FB.kp
  obtain ⟨fdC, FC⟩ : ∃ fd, Fun K "_law_names" "_law_names" sNames (He.ga K "_law_names") fd := fun_of (c.at_ 26 rfl) rfl (c.ck 75 rfl)
  have bC := FC.binds (ps := ["_law_box_here", "_law_many"]) fun _ _ _ _ _ _ us hl => match us, hl with | [_, _], _ => rfl
  have gC : mg "_law_names" = some (.ref (He.ga K "_law_names")) := He.glo_ok X G (c.ck 76 rfl)
  have kC := FC.kp
  obtain ⟨fdfl, Ffl⟩ : ∃ fd, Fun K "_law_full" "_law_full" sFullL (He.ga K "_law_full") fd := fun_of (c.at_ 27 rfl) rfl (c.ck 77 rfl)
  have bfl := Ffl.binds (ps := ["_law_answer"]) fun _ _ _ _ _ _ us hl => match us, hl with | [_], _ => rfl
  have gfl : mg "_law_full" = some (.ref (He.ga K "_law_full")) := He.glo_ok X G (c.ck 78 rfl)
  have kfl := Ffl.kp
  obtain ⟨fdst, Fst⟩ : ∃ fd, Fun K "_law_steps" "_law_steps" sLStp (He.ga K "_law_steps") fd := fun_of (c.at_ 28 rfl) rfl (c.ck 79 rfl)
  have bst := Fst.binds (ps := ["_law_old", "_law_new"]) fun _ _ _ _ _ _ us hl => match us, hl with | [_, _], _ => rfl
  have gst : mg "_law_steps" = some (.ref (He.ga K "_law_steps")) := He.glo_ok X G (c.ck 80 rfl)
  have kst := Fst.kp
  obtain ⟨fdsh, Fsh⟩ : ∃ fd, Fun K "_law_shown" "_law_shown" sShown (He.ga K "_law_shown") fd := fun_of (c.at_ 29 rfl) rfl (c.ck 81 rfl)
  have bsh := Fsh.binds (ps := ["_law_kind", "_law_rows", "_law_answers", "_law_span"]) fun _ _ _ _ _ _ us hl => match us, hl with | [_, _, _, _], _ => rfl
  have gsh : mg "_law_shown" = some (.ref (He.ga K "_law_shown")) := He.glo_ok X G (c.ck 82 rfl)
  have ksh := Fsh.kp
  obtain ⟨fdbo, Fbo⟩ : ∃ fd, Fun K "_law_bound" "_law_bound" sBound (He.ga K "_law_bound") fd := fun_of (c.at_ 30 rfl) rfl (c.ck 83 rfl)
  have bbo := Fbo.binds (ps := ["_law_kind", "_law_steps_here", "_law_rows"]) fun _ _ _ _ _ _ us hl => match us, hl with | [_, _, _], _ => rfl
  have gbo : mg "_law_bound" = some (.ref (He.ga K "_law_bound")) := He.glo_ok X G (c.ck 84 rfl)
  have kbo := Fbo.kp
  obtain ⟨fdks, Fks⟩ : ∃ fd, Fun K "_law_kinds" "_law_kinds" sKinds (He.ga K "_law_kinds") fd := fun_of (c.at_ 31 rfl) rfl (c.ck 85 rfl)
  have bks := Fks.binds (ps := []) fun _ _ _ _ _ _ us hl => match us, hl with | [], _ => rfl
  have gks : mg "_law_kinds" = some (.ref (He.ga K "_law_kinds")) := He.glo_ok X G (c.ck 86 rfl)
  have kks := Fks.kp
  obtain ⟨fdop, Fop⟩ : ∃ fd, Fun K "_law_operations" "_law_operations" sOps (He.ga K "_law_operations") fd := fun_of (c.at_ 32 rfl) rfl (c.ck 87 rfl)
  have bop := Fop.binds (ps := ["_law_box_here", "_law_rows", "_law_answers", "_law_fresh"]) fun _ _ _ _ _ _ us hl => match us, hl with | [_, _, _, _], _ => rfl
  have gop : mg "_law_operations" = some (.ref (He.ga K "_law_operations")) := He.glo_ok X G (c.ck 88 rfl)
  have kop := Fop.kp
  obtain ⟨fdri, Fri⟩ : ∃ fd, Fun K "_law_right" "_law_right" sRgt (He.ga K "_law_right") fd := fun_of (c.at_ 33 rfl) rfl (c.ck 89 rfl)
  have bri := Fri.binds (ps := ["_law_box_here", "_law_names_here"]) fun _ _ _ _ _ _ us hl => match us, hl with | [_, _], _ => rfl
  have gri : mg "_law_right" = some (.ref (He.ga K "_law_right")) := He.glo_ok X G (c.ck 90 rfl)
  have kri := Fri.kp
  obtain ⟨fdsc, Fsc⟩ : ∃ fd, Fun K "_law_scenes_right" "_law_scenes_right" sScn (He.ga K "_law_scenes_right") fd := fun_of (c.at_ 34 rfl) rfl (c.ck 91 rfl)
  have bsc := Fsc.binds (ps := ["_law_names_here"]) fun _ _ _ _ _ _ us hl => match us, hl with | [_], _ => rfl
  have gsc : mg "_law_scenes_right" = some (.ref (He.ga K "_law_scenes_right")) := He.glo_ok X G (c.ck 92 rfl)
  have ksc := Fsc.kp
  obtain ⟨fdL, FL⟩ : ∃ fd, Fun K "law" "law" sLaw (He.ga K "law") fd := fun_of (c.at_ 35 rfl) rfl (c.ck 93 rfl)
  have bL := FL.binds (ps := ["_law_script"]) fun _ _ _ _ _ _ us hl => match us, hl with | [_], _ => rfl
  have gL : mg "law" = some (.ref (He.ga K "law")) := He.glo_ok X G (c.ck 94 rfl)
  have kL := FL.kp
  have e := hfa.symm.trans gL
  cases e
  obtain ⟨_, _, _, _, _, _, _, _, _, hfd, _, _⟩ := FL.ex
  refine ⟨fdL, fun s u => by rw [hfd]; exact .of_eq rfl, fun base _ _ TB => ?_⟩
  have vals : He.valsB K (He.ga K "FACTORS") _ = true := c.ck 96 rfl
  have fD : FacD K w mg (He.ga K "FACTORS") := ⟨dk, fun p hp => by
    simp only [facs, List.mem_cons, List.not_mem_nil, or_false] at hp
    rcases hp with rfl | rfl | rfl | rfl | rfl | rfl
    · exact He.valsB_ok vals (q := ("filtered", .int 1)) (by simp)
    · exact He.valsB_ok vals (q := ("ordered", .int 1)) (by simp)
    · exact He.valsB_ok vals (q := ("unique", .int 2)) (by simp)
    · exact He.valsB_ok vals (q := ("window", .int 2)) (by simp)
    · exact He.valsB_ok vals (q := ("grouped", .int 3)) (by simp)
    · exact He.valsB_ok vals (q := ("mapped", .int 1)) (by simp)
    , gFACS⟩
  have O1 : FnOk PX w K mg base CX0 1 _ _ ["value", "low", "high"] spIsInt := ok_isint F1 m_isinstance m_int m_bool
  have O2 : FnOk PX w K mg base CX0 1 _ _ ["value"] spIsName := ok_isname F2 gcML gcLet m_isinstance m_str m_len m_all
  have O3 : FnOk PX w K mg base CX0 1 _ _ ["value", "most"] (spIsList K) := ok_islist F3 m_isinstance m_len m_list m_tuple
  have O6 : FnOk PX w K mg base CX0 2 _ _ ["value"] spItemA := ok_itemA F6 O1 g1 k1 b1 gcGA
  have O5 : FnOk PX w K mg base CX0 3 _ _ ["value"] spFullA := ok_fullA F5 O6 g6 k6 b6 gcMA m_isinstance m_tuple m_len m_all
  have O4 : FnOk PX w K mg base CX0 4 _ _ ["value"] spAnsOf := ok_ansOf F4 O5 g5 k5 b5 O6 g6 k6 b6
  have Oir : FnOk PX w K mg base CX0 2 _ _ ["value"] spIsName := ok_isrow Fir O2 g2 k2 b2 m_isinstance m_tuple
  have Ois : FnOk PX w K mg base CX0 3 _ _ ["value"] (spIsRows K) := ok_isrows Fis O3 g3 k3 b3 Oir gir kir bir gcMR m_len m_all m_set
  have Onw : FnOk PX w K mg base CX0 4 _ _ ["value"] (spNeedRw K) := ok_needrw Fnw Ois gis kis bis
  have Oni : FnOk PX w K mg base CX0 2 _ _ ["value", "low", "high"] spNeedInt := ok_needint Fni g1 k1 b1 O1
  have Oik : FnOk PX w K mg base CX0 1 _ _ ["value"] spIsKind := ok_iskind Fik fD m_isinstance m_str
  have Onk : FnOk PX w K mg base CX0 2 _ _ ["value"] spNeedKind := ok_needkind Fnk Oik gik kik bik
  have Ofc : FnOk PX w K mg base CX0 3 _ _ ["kind"] spFactor := ok_factor Ffc fD Onk gnk knk bnk
  have Oms : FnOk PX w K mg base CX0 3 _ _ ["kind", "steps", "differing"] spMost := ok_most Fms fD Onk gnk knk bnk Oni gni kni bni gcMS
  have Owi : FnOk PX w K mg base CX0 5 _ _ ["rows", "start", "count"] (spWin K) := ok_win Fwi Onw gnw knw bnw Oni gni kni bni gcMR m_list
  have Onr : FnOk PX w K mg base CX0 2 _ _ ["rows", "answers"] (spNeedRows K) := ok_needrows Fnr O3 g3 k3 b3 O2 g2 k2 b2 gcMP m_isinstance m_len m_all m_set m_dict
  have Oaf : FnOk PX w K mg base CX0 1 _ _ ["row", "answers"] spAnsFor := ok_ansFor Faf
  have Ofa : FnOk PX w K mg base CX0 5 _ _ ["rows", "answers"] (spFullAs K) := ok_fullAs Ffa Onr gnr knr bnr O4 g4 k4 b4 Oaf gaf kaf baf
  have Ofi : FnOk PX w K mg base CX0 3 _ _ ["rows", "answers"] (spFil K) := ok_fil Ffi Onr gnr knr bnr Oaf gaf kaf baf m_isinstance m_bool
  have Oor : FnOk PX w K mg base CX0 6 _ _ ["rows", "answers"] (spOrd K (tabT K)) := ok_ord For (TB _ List.mem_cons_self) List.mem_cons_self (fun p hp _ => by rw [List.mem_singleton.mp hp]) Ofa gfa kfa bfa m_sorted
  have Ofo : FnOk PX w K mg base CX0 6 _ _ ["rows", "answers"] (spFirst K) := ok_first Ffo Ofa gfa kfa bfa m_list
  have Ogr : FnOk PX w K mg base CX0 6 _ _ ["rows", "answers"] (spGrp PX w K) := ok_grp Fgr Ofa gfa kfa bfa m_list m_sorted m_len
  have Nn : FnOk PX w K mg base CX0 3 _ _ ["_law_box_here", "_law_many"] spNamesD := ok_namesD FC FA bA gA FB bB gB m_len m_list m_range
  have Nl : FnOk PX w K mg base CX0 1 _ _ ["_law_answer"] (spFullL K) := ok_fullL Ffl m_isinstance m_tuple
  have Nst : FnOk PX w K mg base CX0 1 _ _ ["_law_old", "_law_new"] (spLStp K) := ok_lstp Fst m_len m_max m_enumerate m_range
  have Nsh : FnOk PX w K mg base CX0 7 _ _ ["_law_kind", "_law_rows", "_law_answers", "_law_span"] (spShown K (tabT K)) := ok_shown Fsh Ofi gfi kfi bfi Oor gor kor bor Ofo gfo kfo bfo Ogr ggr kgr bgr Owi gwi kwi bwi Nl gfl kfl bfl m_dict m_list
  have Nbo : FnOk PX w K mg base CX0 1 _ _ ["_law_kind", "_law_steps_here", "_law_rows"] spBound := ok_bound Fbo
  have Nks : FnOk PX w K mg base CX0 1 _ _ [] spKinds := ok_kinds Fks
  have Nop : FnOk PX w K mg base CX0 2 _ _ ["_law_box_here", "_law_rows", "_law_answers", "_law_fresh"] (spOps K) := ok_ops Fop Nl gfl kfl bfl FA bA gA m_len m_range m_int m_dict
  have Nri : FnOk PX w K mg base CX0 8 _ _ ["_law_box_here", "_law_names_here"] (spRight (tabT K)) := ok_right Fri Nst gst kst bst Nsh gsh ksh bsh Nbo gbo kbo bbo Oms gms kms bms Ofc gfc kfc bfc Nop gop kop bop Nks gks kks bks FA bA gA m_len m_dict
  have Nsc : FnOk PX w K mg base CX0 8 _ _ ["_law_names_here"] (spScn (tabT K)) := ok_scn Fsc Nst gst kst bst Nsh gsh ksh bsh Nbo gbo kbo bbo Oms gms kms bms Ofc gfc kfc bfc Nks gks kks bks
  exact ok_law FL F8 b8 g8 F9 b9 g9 kC bC gC Nn Nri gri kri bri Nsc gsc ksc bsc m_range m_max m_min m_len
end G
set_option Elab.async false
set_option linter.all false
set_option maxRecDepth 100000
set_option maxHeartbeats 8000000
/-! XB: the top's run. -/
namespace G
open PySem PySem.Spec PyProof.Rows L2 NdefX StX LamX SkL
abbrev hk : PySem.W.Hook := hookU 5 cks fns tbs dks
def ob (s : PySem.W.SharedT) : AlU := obsUG 5 cks fns tbs dks (HandSHeadRun.getT s)
theorem ob_eq (s : PySem.W.SharedT) : ob s = hk.obs s.abs := obsUG_eq (HandSHeadRun.getT_eq s)
def loose0 : List Str := ["BoardError", "MissingError", "InvalidInteger", "InvalidAnswer", "InvalidRows", "UnknownRow", "UnknownName", "LETTERS", "MOST_LETTERS", "MOST_ROWS", "MOST_IN_ANSWER", "GREATEST_IN_ANSWER", "is_integer", "is_name", "is_row", "is_rows", "is_list", "answer_of", "is_full_answer", "is_answer_item", "need_integer", "need_rows", "MOST_PLAIN_ROWS", "MOST_STEPS_ASKED", "FACTORS", "filtered", "ordered", "first_ones", "grouped", "window"]
def loose1 : List Str := ["factor", "most_steps", "need_kind", "is_kind", "need_rows_with_answers", "answer_for", "full_answers", "_law_cell", "_law_box", "_law_take", "_law_mixed", "_law_names", "_law_full", "_law_steps", "_law_shown", "_law_bound", "_law_kinds", "_law_operations", "_law_right", "_law_scenes_right"]
abbrev looseX : List Str := loose0 ++ loose1
/-- the world, one of its answers told apart -/
def setB (w : World) (b : Bool) : World := { w with params := { w.params with followText := fun s => if s = "special-get-raises" then b else w.params.followText s } }
theorem setB_eq (w : World) : w = setB w (w.params.followText "special-get-raises") := by
  have e : (fun s => if s = "special-get-raises" then w.params.followText "special-get-raises" else w.params.followText s) = w.params.followText := by
    funext s
    by_cases h : s = "special-get-raises"
    · rw [if_pos h, h]
    · rw [if_neg h]
  unfold setB
  rw [e]
theorem run (w : World) : HandSHeadRun.RunEq (PySem.W.OpenLaw.row PySem.Challenge.rw_listviews_k48_whole_single_operations) (PySem.W.view PX [55]) hk ob 20000 looseX w := by
  rw [setB_eq w]
  generalize w.params.followText "special-get-raises" = b
  cases b
  · intro os
    kernel_rfl
  · intro os
    kernel_rfl
end G
set_option Elab.async false
set_option linter.all false
set_option maxRecDepth 100000
set_option maxHeartbeats 8000000
/-! XC: the end. -/
open PySem PySem.W PySem.Calls PyProof.Rows
set_option maxRecDepth 100000 in
set_option maxHeartbeats 0 in
theorem PySem.Challenge.cw_listviews_k48_whole_single_operations_holds : PySem.Challenge.rw_listviews_k48_whole_single_operations.Holds := by
  w_on; o_law
  refine HandSHeadRun.head_any (r := OpenLaw.row PySem.Challenge.rw_listviews_k48_whole_single_operations) (q := view (OpenLaw.row PySem.Challenge.rw_listviews_k48_whole_single_operations).prog [55]) (H := G.hk) (ob := G.ob) (M := 20000) (loose := G.looseX) (d := HandSHeadRun.topDef (OpenLaw.row PySem.Challenge.rw_listviews_k48_whole_single_operations).prog 55) (kwd := []) G.ob_eq
    (by kernel_rfl) (fun s => by kernel_rfl) G.run (by kernel_rfl) (by kernel_rfl) (by kernel_rfl) (by rfl) (by first | assumption | decide +kernel) (by decide +kernel) ⟨rfl, rfl, rfl, rfl, rfl, by decide +kernel⟩ ?hw ?hc
  case hw => w_witness2
  case hc =>
    refine G.walk_goT (l := PySem.Challenge.rw_listviews_k48_whole_single_operations) (n := 63) (k := 9) (x := "_law_script") rfl (by decide) (by kernel_rfl) ⟨rfl, by decide, by decide⟩ ?F
    intro w mg fa h Y GX hmg0
    obtain ⟨K, KX, ⟨c, dt⟩, dk⟩ := Y
    have hmg : mg ("law" : PySem.Str) = some (.ref fa) := by
      have e : (HandSHeadRun.topDef (OpenLaw.row PySem.Challenge.rw_listviews_k48_whole_single_operations).prog 55).name = ("law" : PySem.Str) := by kernel_rfl
      rw [← e]
      exact hmg0
    obtain ⟨fd, hb, hF⟩ := G.facts (w := w) KX GX hmg c (dk _ List.mem_cons_self)
    obtain ⟨t1, t2⟩ := G.tab_ok c
    refine ⟨K, fd, G.tabC K, G.spLaw K (G.tabT K), KX, fun p hp => ?_, fun p hp => ?_, fun p hp => ?_, hb, fun H a ns hl hH hS => ⟨a, ns, rfl, hS, hl, fun p hp => ?_, fun _ => rfl⟩, hF⟩
    · rw [List.mem_singleton.mp hp]
      exact dt _ List.mem_cons_self
    · rw [List.mem_singleton.mp hp]
      exact t2
    · rw [List.mem_singleton.mp hp]
      exact t1
    · rw [List.mem_singleton.mp hp]
      exact LamX.TabS.nil (hH _ List.mem_cons_self)
