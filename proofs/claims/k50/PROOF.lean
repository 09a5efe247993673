import PyProof.Rows.All
import Wide.All
import OpenK.AllK
import Wide.FinOn
import HandS.ForMost
import HandS.ForExc
import HandS.ExcInit
import HandS.ExcField
import HandS.TryMany
import HandS.IsInst
import HandS.Wide
import HandS.Small
import HandS.RaiseMore
import PyProof.ReprRoads
import HandS.StrMore
import HandS.Walk
import KE.KSuper
import HandS.ClsMeth
import HandS.Nested
import HandS.More
import HandS.Defaults
import HandS.MakeKwOnly
import PyProof.InstNe
import HandS.SlotsOwn
import HandS.Words
import HandS.NamedTupSort
import KE.KOpsOwn
import HandS.Star
import HandS.MethStar
import OpenK.KMake
import KE.KOwnIter
import HandS.IterVal
import HandS.List
import HandS.TupSets
import HandS.DeepEq
import PyProof.CallFns
import HandS.SetKeys
import HandS.Strs
import HandS.Conv
import HandS.DictTup
import PyProof.DictMoreH
import HandS.DictComp
import KE.SortKeyHeap
import KE.KLam
import HandS.Base
import HandS.Call
import HandS.Dict
import HandS.Lambda
import HandS.SortKw
import PyProof.TupleOfSeq
import HandS.EndTab
import KE.DataCmp
import KE.SortData
import KE.KeyNested
import HandS.ListEq
import KE.KEqDict
import KE.KDictWalk
import HandS.Iter
import HandS.Zip
import KE.KDictZip
import HandS.Deep
import KE.KDictSum
import PyProof.SumAny
import HandS.Property
import HandS.Head0
import HandS.Head1
import HandS.Head2
import HandS.HeadHook1
import HandS.HeadHook2
import KE.KNestM
import PySem.Challenge.RW_listviews_k50_whole_shapes_by_their_defi
set_option Elab.async false
set_option linter.all false
set_option maxRecDepth 100000
set_option maxHeartbeats 2000000
/-! G1: what a def keeps where no guard is under way; repr of data at any depth, dicts too. -/
namespace G
open PySem PySem.Spec PyProof.Rows L2

/-! ### how long a shown text is -/
mutual
def mass : PyData → Nat
  | .none => 4
  | .bool _ => 5
  | .int _ => 1921
  | .str x => (reprText x).length
  | .list xs => 3 + massAll xs
  | .tuple xs => 4 + massAll xs
  | .dict kvs => 3 + massKv kvs
def massAll : List PyData → Nat
  | [] => 0
  | x :: xs => mass x + 2 + massAll xs
def massKv : List (PyData × PyData) → Nat
  | [] => 0
  | (k, v) :: r => mass k + mass v + 4 + massKv r
end
theorem text_from_le : ∀ (ts : List Str) (k : Nat) (acc : Str), (textFrom k acc ts).length ≤ acc.length + piled ts
  | [], k, acc => by
    show acc.length ≤ acc.length + 0
    omega
  | t :: r, k, acc => by
    have h1 := text_from_le r (k + 1) (acc ++ (if k > 0 then ", " else "" : String) ++ t)
    rw [strLen_append, strLen_append] at h1
    have h2 : (((if k > 0 then ", " else "" : String) : Str)).length ≤ 2 := by
      split <;> decide
    show (textFrom (k + 1) _ r).length ≤ _
    rw [piled_cons]
    omega
theorem list_text_le (ts : List Str) : (listText ts).length ≤ 3 + piled ts := by
  unfold listText
  rw [strLen_append]
  have h1 := text_from_le ts 0 "["
  have e1 : ((("[" : String) : Str)).length = 1 := rfl
  have e2 : ((("]" : String) : Str)).length = 1 := rfl
  rw [e1] at h1
  rw [e2]
  omega
theorem join_le (ts : List Str) : (Str.join ", " ts).length ≤ piled ts := by
  by_cases h : ts = []
  · subst h
    exact Nat.le_refl 0
  · have := join_length_add ts h
    omega
theorem tuple_text_le (ts : List Str) : (tupleText ts).length ≤ 4 + piled ts := by
  unfold tupleText
  rw [strLen_append, strLen_append]
  have h1 := join_le ts
  have e1 : ((("(" : String) : Str)).length = 1 := rfl
  have e3 : (((if ts.length == 1 then ",)" else ")" : String) : Str)).length ≤ 2 := by split <;> decide
  rw [e1]
  omega
theorem dict_text_le (ts : List Str) : (dictText ts).length ≤ 3 + piled ts := by
  unfold dictText
  rw [strLen_append, strLen_append]
  have h1 := join_le ts
  have e1 : ((("{" : String) : Str)).length = 1 := rfl
  have e3 : ((("}" : String) : Str)).length = 1 := rfl
  rw [e1, e3]
  omega
mutual
theorem shown_le : ∀ d : PyData, d.showable = true → d.shown.length ≤ mass d
  | .none, _ => by decide
  | .bool b, _ => by cases b <;> decide
  | .int i, h => by
    have h' : i.natAbs.log2 < 1920 := by simpa [PyData.showable] using h
    have h2 := int_text_length_le (by decide) h'
    show (Str.ofString (toString i)).length ≤ 1921
    rw [PySem.ofString_length]
    exact h2
  | .str x, _ => by
    simp only [PyData.shown, mass]
    exact Nat.le_refl _
  | .list xs, h => by
    have h' : PyData.showableAll xs = true := by simpa [PyData.showable] using h
    have h1 := list_text_le (PyData.shownAll xs)
    have h2 := shown_all_le xs h'
    simp only [PyData.shown, mass]
    omega
  | .tuple xs, h => by
    have h' : PyData.showableAll xs = true := by simpa [PyData.showable] using h
    have h1 := tuple_text_le (PyData.shownAll xs)
    have h2 := shown_all_le xs h'
    simp only [PyData.shown, mass]
    omega
  | .dict kvs, h => by
    have h' : PyData.showableKv kvs = true := by simpa [PyData.showable] using h
    have h1 := dict_text_le (PyData.shownKv kvs)
    have h2 := shown_kv_le kvs h'
    simp only [PyData.shown, mass]
    omega
theorem shown_all_le : ∀ xs : List PyData, PyData.showableAll xs = true → piled (PyData.shownAll xs) ≤ massAll xs
  | [], _ => by
    simp only [PyData.shownAll, massAll, piled_nil]
    exact Nat.le_refl _
  | x :: xs, h => by
    simp only [PyData.showableAll, Bool.and_eq_true] at h
    have h1 := shown_le x h.1
    have h2 := shown_all_le xs h.2
    simp only [PyData.shownAll, massAll, piled_cons]
    omega
theorem shown_kv_le : ∀ xs : List (PyData × PyData), PyData.showableKv xs = true → piled (PyData.shownKv xs) ≤ massKv xs
  | [], _ => by
    simp only [PyData.shownKv, massKv, piled_nil]
    exact Nat.le_refl _
  | (k, v) :: xs, h => by
    simp only [PyData.showableKv, Bool.and_eq_true] at h
    have h1 := shown_le k h.1.1
    have h2 := shown_le v h.1.2
    have h3 := shown_kv_le xs h.2
    have e : (((": " : String) : Str)).length = 2 := rfl
    simp only [PyData.shownKv, massKv, piled_cons, strLen_append, e]
    omega
end

/-! ### data that stands in the heap: lists, tuples, dicts by int and text keys -/
mutual
inductive Rp (K : PySem.W.Frag) (H : Hp) : V → PyData → Prop
  | non : Rp K H .non .none
  | bl (b : Bool) : Rp K H (.bl b) (.bool b)
  | int (i : Int) : Rp K H (.int i) (.int i)
  | str (x : Str) : Rp K H (.str x) (.str x)
  | lst {a : Addr} {xs : List V} {ds : List PyData} : H a = some (.lst xs) → RpAll K H xs ds → Rp K H (.ref a) (.list ds)
  | tup {a : Addr} {xs : List V} {ds : List PyData} : H a = some (.tup xs) → RpAll K H xs ds → Rp K H (.ref a) (.tuple ds)
  | dic {a : Addr} {kvs : List (Key × V)} {ds : List (PyData × PyData)} : H a = some (.dK kvs) → RpAll K H (kvs.map fun p => kV p.1) (ds.map (·.1)) → RpAll K H (kvs.map (·.2)) (ds.map (·.2)) → Rp K H (.ref a) (.dict ds)
inductive RpAll (K : PySem.W.Frag) (H : Hp) : List V → List PyData → Prop
  | nil : RpAll K H [] []
  | cons {v : V} {vs : List V} {d : PyData} {ds : List PyData} : Rp K H v d → RpAll K H vs ds → RpAll K H (v :: vs) (d :: ds)
end

/-! ### .. and how it is read -/
mutual
/-- no list in it: each address that a reading of it counts is a dict's -/
def okS : PyData → Bool
  | .none | .bool _ | .int _ | .str _ => true
  | .list _ => false
  | .tuple xs => okSAll xs
  | .dict kvs => okSKv kvs
def okSAll : List PyData → Bool
  | [] => true
  | x :: xs => okS x && okSAll xs
def okSKv : List (PyData × PyData) → Bool
  | [] => true
  | (k, v) :: r => okS k && okS v && okSKv r
end
theorem okSKv_split : ∀ {kvs : List (PyData × PyData)}, okSKv kvs = true → okSAll (kvs.map (·.1)) = true ∧ okSAll (kvs.map (·.2)) = true
  | [], _ => ⟨rfl, rfl⟩
  | (k, v) :: r, h => by
    simp only [okSKv, Bool.and_eq_true] at h
    obtain ⟨h1, h2⟩ := okSKv_split h.2
    simp only [List.map_cons, okSAll, Bool.and_eq_true]
    exact ⟨⟨h.1.1, h1⟩, h.1.2, h2⟩
theorem pairs_vals {P : Program} {w : World} : ∀ {kvs : List (Key × V)} {vs : List (Key × Value)} {es : List DictEntry}, KV kvs vs → Pairs (mixKind P w) es vs →
    Vals (kvs.map fun p => kV p.1) (es.map (·.key)) ∧ Vals (kvs.map (·.2)) (es.map (·.val))
  | _, _, _, .nil, .nil => ⟨.nil, .nil⟩
  | _, _, _, .cons r t, .cons hk hv p => by
    obtain ⟨h1, h2⟩ := pairs_vals t p
    refine ⟨.cons ?_ h1, .cons ?_ h2⟩
    · dsimp only
      rw [r.1]
      rcases keyIs_shape hk with ⟨i, tk, e1, e2⟩ | ⟨x, tk, e1, e2⟩
      · rw [e1, e2]
        exact ⟨tk, rfl⟩
      · rw [e1, e2]
        exact ⟨tk, rfl⟩
    · dsimp only
      rw [hv]
      exact r.2
section
variable {X : Cx} {pins : List (Addr × Obj)} {σ : L2.St} {H : Hp} {s : Shared}
mutual
theorem rp_reads (I : Inv X pins σ H s) : ∀ (d : PyData) (v : V) (u : Value), Rp X.K H v d → RelV v u → ∃ as, Reads s.heap u d as ∧ (okS d = true → sysModules ∉ as)
  | .none, _, _, h, r => by
    cases h
    cases r
    exact ⟨_, Reads.none, fun _ => by simp⟩
  | .bool b, _, _, h, r => by
    cases h
    cases r
    exact ⟨_, Reads.bool b, fun _ => by simp⟩
  | .int i, _, _, h, r => by
    cases h
    obtain ⟨t, rfl⟩ := r
    exact ⟨_, Reads.int i t, fun _ => by simp⟩
  | .str x, _, _, h, r => by
    cases h
    obtain ⟨t, rfl⟩ := r
    exact ⟨_, Reads.str x t, fun _ => by simp⟩
  | .list ds, _, _, h, r => by
    cases h with
    | lst hs ha =>
      cases r
      obtain ⟨its, rv, ⟨o, n, ho, hc, _, hd⟩, _⟩ := I.list (.of hs)
      obtain ⟨as, hr, _⟩ := rp_readsAll I ds _ its ha rv
      exact ⟨_, Reads.list ho hc hd hr, fun z => by simp [okS] at z⟩
  | .tuple ds, _, _, h, r => by
    cases h with
    | tup hs ha =>
      cases r
      obtain ⟨its, rv, ⟨o, ho, hc, n, hd⟩, _⟩ := I.tuple (.of hs)
      obtain ⟨as, hr, q⟩ := rp_readsAll I ds _ its ha rv
      exact ⟨_, Reads.tuple ho hc hd hr, fun z => q (by simpa [okS] using z)⟩
  | .dict ds, _, _, h, r => by
    cases h with
    | dic hs hk hv =>
      cases r
      obtain ⟨_, hm, vs, rel, o, es, ep, e1, e2, e3, e4, e5, e6⟩ := I.hok _ _ hs
      obtain ⟨r1, r2⟩ := pairs_vals rel e5
      obtain ⟨as, q1, z1⟩ := rp_readsKeys I ds _ _ hk r1
      obtain ⟨bs, q2, z2⟩ := rp_readsVals I ds _ _ hv r2
      refine ⟨_, Reads.dict e1 e2.1 e3 q1 q2, fun z => ?_⟩
      have hz : okSKv ds = true := by simpa [okS] using z
      obtain ⟨k1, k2⟩ := okSKv_split hz
      have hm' := beq_eq_false_iff_ne.mp hm
      intro hin
      rcases List.mem_cons.mp hin with hx | hx
      · exact hm' hx.symm
      · rcases List.mem_append.mp hx with hx | hx
        · exact z1 k1 hx
        · exact z2 k2 hx
theorem rp_readsAll (I : Inv X pins σ H s) : ∀ (ds : List PyData) (vs : List V) (us : List Value), RpAll X.K H vs ds → Vals vs us → ∃ as, ReadsAll s.heap us ds as ∧ (okSAll ds = true → sysModules ∉ as)
  | [], _, _, h, r => by
    cases h
    cases r
    exact ⟨_, ReadsAll.nil, fun _ => by simp⟩
  | d :: ds, _, _, h, r => by
    cases h with
    | cons h1 h2 =>
      cases r with
      | cons r1 r2 =>
        obtain ⟨as, q1, z1⟩ := rp_reads I d _ _ h1 r1
        obtain ⟨bs, q2, z2⟩ := rp_readsAll I ds _ _ h2 r2
        refine ⟨_, ReadsAll.cons q1 q2, fun z => ?_⟩
        simp only [okSAll, Bool.and_eq_true] at z
        intro hin
        rcases List.mem_append.mp hin with hx | hx
        · exact z1 z.1 hx
        · exact z2 z.2 hx
theorem rp_readsKeys (I : Inv X pins σ H s) : ∀ (ds : List (PyData × PyData)) (vs : List V) (us : List Value), RpAll X.K H vs (ds.map (·.1)) → Vals vs us → ∃ as, ReadsAll s.heap us (ds.map (·.1)) as ∧ (okSAll (ds.map (·.1)) = true → sysModules ∉ as)
  | [], _, _, h, r => by
    cases h
    cases r
    exact ⟨_, ReadsAll.nil, fun _ => by simp⟩
  | (d, _) :: ds, _, _, h, r => by
    cases h with
    | cons h1 h2 =>
      cases r with
      | cons r1 r2 =>
        obtain ⟨as, q1, z1⟩ := rp_reads I d _ _ h1 r1
        obtain ⟨bs, q2, z2⟩ := rp_readsKeys I ds _ _ h2 r2
        refine ⟨_, ReadsAll.cons q1 q2, fun z => ?_⟩
        simp only [List.map_cons, okSAll, Bool.and_eq_true] at z
        intro hin
        rcases List.mem_append.mp hin with hx | hx
        · exact z1 z.1 hx
        · exact z2 z.2 hx
theorem rp_readsVals (I : Inv X pins σ H s) : ∀ (ds : List (PyData × PyData)) (vs : List V) (us : List Value), RpAll X.K H vs (ds.map (·.2)) → Vals vs us → ∃ as, ReadsAll s.heap us (ds.map (·.2)) as ∧ (okSAll (ds.map (·.2)) = true → sysModules ∉ as)
  | [], _, _, h, r => by
    cases h
    cases r
    exact ⟨_, ReadsAll.nil, fun _ => by simp⟩
  | (_, d) :: ds, _, _, h, r => by
    cases h with
    | cons h1 h2 =>
      cases r with
      | cons r1 r2 =>
        obtain ⟨as, q1, z1⟩ := rp_reads I d _ _ h1 r1
        obtain ⟨bs, q2, z2⟩ := rp_readsVals I ds _ _ h2 r2
        refine ⟨_, ReadsAll.cons q1 q2, fun z => ?_⟩
        simp only [List.map_cons, okSAll, Bool.and_eq_true] at z
        intro hin
        rcases List.mem_append.mp hin with hx | hx
        · exact z1 z.1 hx
        · exact z2 z.2 hx
end
end

/-! ### repr of a list of such data -/
/-- a list at the top: its own address is not counted -/
theorem repr_top {prog : Program} {w : World} {A : Around} {E : Value → Shared → Prop} {s : Shared} {Q : Value → Shared → Prop} {a : Addr} {o : Obj} {vs : Array Value} {n : Nat} {xs : List PyData} {as : List Addr}
    (h1 : s.heap.get? a = some o) (h2 : o.cls = .type "list") (h3 : o.data = .seq vs n) (h4 : ReadsAll s.heap vs.toList xs as) (hs : PyData.showableAll xs = true) (hsm : PyData.hasDictAll xs = true → sysModules ∉ as)
    (hg : A.guards = some []) (hu : A.units + ((PyData.list xs).depth + 1) < cLine) (hsz : (listText (PyData.shownAll xs)).length ≤ sizeLine)
    (hQ : ∀ h' u tk, (∀ b o, s.heap.get? b = some o → h'.get? b = some o) → Q (.str (listText (PyData.shownAll xs)) u) { s with heap := h', toks := tk }) :
    wpAny (model prog w) A (call (.builtin "repr") [.ref a]) Q E s := by
  obtain ⟨bs, hb, hk⟩ := ReprAllK.of_readsAll (prog := prog) (w := w) h4 hs hsm (fun t ht => Nat.le_trans (listText_mem_le ht) hsz)
  have hna : a ∉ bs :=
    not_mem_of_deeper (.list h1 h2 h3 h4) (by simp only [PyData.depth]; omega) hb
  simp only [PyData.depth] at hu
  refine call_repr_slot (A := A) (by omega) (idr := "list.__repr__") (T := "list") (show s.TypeIs (.ref a) "list" from ⟨o, h1, h2⟩) F.slot_list_repr.toG ?_
  have hu1 : A.in1.units = A.units + 1 := rfl
  obtain ⟨l⟩ := vs
  cases l with
  | nil =>
    have h4' : ReadsAll s.heap [] xs as := h4
    cases h4'
    have ht := hQ s.heap
    rw [show listText (PyData.shownAll []) = ("[]" : Str) by simp only [PyData.shownAll]; exact listText_nil] at ht
    exact call_list_repr_empty ⟨o, h1, h2⟩ h1 h3 ⟨_, _, rfl, ht _ _ fun _ _ e => e⟩
  | cons x l =>
    refine call_list_reprK h1 h2 h3 hna (by simpa using hk.length_eq) (fun i y e => hk.item i y (by simpa using e)) (by exact hg) (fun b _ => Clear.nil b) (by rw [hu1]; omega) (fun _ _ e => e) (fun h' u tk k => ⟨_, _, rfl, hQ h' u tk k⟩) hsz
/-- repr(xs), xs a list of data -/
def rRepr (K : PySem.W.Frag) : List V → Hp → VK → Prop := fun vs H Q => ∃ (a : Addr) (xs : List V) (ds : List PyData), vs = [.ref a] ∧ H a = some (.lst xs) ∧ RpAll K H xs ds ∧ PyData.showableAll ds = true ∧ (PyData.hasDictAll ds = true → okSAll ds = true) ∧
  (PyData.list ds).depth ≤ 20 ∧ 3 + massAll ds ≤ sizeLine ∧ Q (.str (listText (PyData.shownAll ds))) H
theorem call_repr {X : Cx} (hg : X.A.guards = some []) (hu : X.A.units + 64 < cLine) : CallR X (.builtin "repr") (rRepr X.K) := by
  intro pins s σ H xs us Q I r h
  obtain ⟨a, ys, ds, rfl, ha, hr, hs, hd, hp, hm, q⟩ := h
  obtain rfl := Vals.ref1 r
  obtain ⟨its, rv, ⟨o, n, ho, hc, _, hdt⟩, _⟩ := I.list (.of ha)
  obtain ⟨as, q1, z1⟩ := rp_readsAll I ds _ its hr rv
  have hz := Nat.le_trans (list_text_le _) (Nat.le_trans (Nat.add_le_add_left (shown_all_le ds hs) 3) hm)
  exact repr_top ho hc hdt q1 hs (fun z => z1 (hd z)) hg (by omega) hz fun h' u tk k => ⟨.str _, H, I.kept k, ⟨u, rfl⟩, q⟩
end G
set_option Elab.async false
set_option linter.all false
set_option maxRecDepth 100000
set_option maxHeartbeats 2000000
/-! G2: a def that runs where no guard is under way, and the law's own call. -/
namespace G
open PySem PySem.Spec PyProof.Rows L2
/-- as FnOk, of arounds without guards -/
structure FnG (P : Program) (w : World) (K : PySem.W.Frag) (mg : Str → Option Value) (base : Heap) (CX : CXT) (k : Nat) (f : Addr) (fd : FuncData) (ps : List Str) (sp : Sp) : Prop where
  size : ∀ vs H Q E, sp vs H Q E → vs.length = ps.length
  go : ∀ (A : Around) (outer : List Env) (s : Shared) (H : Hp) (args : Args) (us : List Value) (vs : List V) (Q : VK) (E : XK),
    A.guards = some [] → Room k A → Env0 P w K mg base A outer s H → BindsTo s fd args (ps.zip us) → Vals vs us → sp vs H Q E → codeAny (model P w) A (.call (.ref f) args) (CR CX outer P w H s Q E) s
section
variable {P : Program} {w : World} {K : PySem.W.Frag} {mg : Str → Option Value} {base : Heap} {CX : CXT}
theorem FnG.of_body {x qual : Str} {st : Stmt} {f : Addr} {fd : FuncData} {N ps : List Str} {k : Nat} {sp : Sp} (F : Fun K x qual st f fd) (S : FnScope N ps (defScope st))
    (size : ∀ vs H Q E, sp vs H Q E → vs.length = ps.length)
    (body : ∀ (cdv : Value) (A : Around) (outer : List Env) (s : Shared) (H : Hp) (vs : List V) (Q : VK) (E : XK), A.guards = some [] →
      Room k (A.deeper (envOfC qual (defScope st) s.heap.objs.size f cdv)) → sp vs H Q E →
      ∃ t, PSs (cxOf CX P w K mg base N qual (defScope st) f cdv A outer s H E).nox (defBody st) t ∧ t { nx := fun _ H' => Q .non H', rt := Q } (start N vs) H) :
    FnG P w K mg base CX (k + 1) f fd ps sp := by
  obtain ⟨_, _, _, _, _, _, cdv, _, _, rfl, lk, hcd⟩ := F.ex
  refine ⟨size, fun A outer s H args us vs Q E hg hr e0 hb r h => ?_⟩
  have inS : K.In s.heap := e0.mod.kin.keeps fun b o e => (e0.bs b o e).1
  have noL : s.heap.NoLimit := e0.mod.nolimit.keeps fun b o e => (e0.bs b o e).1
  refine codeAny_call_function hr.depth (inS _ _ lk) rfl S.co S.gen rfl
    (PySem.W.codeRec_of inS hcd) (hb _ _ _ _ ?_)
  refine wpAny_newFunctionEnv_cells S.kind
    (fun ⟨n, v⟩ hy => ?_) fun env he s1 x => ?_
  · rcases S.par n (List.of_mem_zip hy).1 with q | q
    · exact Or.inl q
    · exact Or.inr ⟨q, PySem.W.cellsFrom_some _ _ _ (Or.inl q)⟩
  · subst he
    refine ⟨noL.keeps x.toInCall.keep, codeAny_func ?_⟩
    obtain ⟨t, ht, hq⟩ := body cdv A outer s H vs Q E hg (hr.deeper _) h
    have J := inv_start (CX := CX) (P := P) (w := w) (K := K) (mg := mg) (base := base) (E := E) S hr.hd e0 (size _ _ _ _ h) r x
    refine wpAny_mono (ht.nox.run [] s1 (start N vs) H _ J hq) (fun fl s' z => ?_) fun e s' z => z
    cases fl with
    | ret u =>
      obtain ⟨v, σ', H', J', rv, q⟩ := z
      exact ⟨v, H', J'.os, J'.bare, J'.base, J'.hok, rv, q⟩
    | next =>
      obtain ⟨σ', H', J', q⟩ := z
      exact ⟨.non, H', J'.os, J'.bare, J'.base, J'.hok, rfl, q⟩
    | brk =>
      obtain ⟨_, _, _, q⟩ := z
      exact q.elim
    | cont =>
      obtain ⟨_, _, _, q⟩ := z
      exact q.elim
end
section
variable {X : Cx} {CX : CXT} {k : Nat} {f : Addr} {fd : FuncData} {ps : List Str} {sp : Sp} {dvs : List V} {ds : List Value} {E : XK} {x : Str} {p pos : Pos} {e : Expr} {es : List Expr} {t : TA}
theorem FnG.run {pins : List (Addr × Obj)} {σ : L2.St} {H : Hp} {s : Shared} {Q : VK} {us : List Value} {vs : List V} (F : FnG X.prog X.w X.K X.mg X.base CX k f fd ps sp) (hg : X.A.guards = some []) (hr : Room k X.A) (hb : Binds X.K fd ps ds) (hd : Vals dvs ds)
    (hx : Passes CX X E) (I : Inv X pins σ H s) (r : Vals vs us) (h : sp (vs ++ dvs) H Q E) : wpAny (model X.prog X.w) X.A (call (.ref f) us) (EP X pins σ Q) X.xe s := by
  have both := r.append hd
  have size : (us ++ ds).length = ps.length := both.length.symm.trans (F.size _ _ _ _ h)
  refine wpAny_call (codeAny_mono (F.go X.A X.stack s H ⟨us, []⟩ (us ++ ds) (vs ++ dvs) Q E hg hr I.env0 (hb s us I.kIn size) both h) fun q s' z => ?_)
  match q, z with
  | .error er, z => exact hx pins σ H s er s' I z
  | .ok (.ret u), z => exact I.after z
/-- f(e, ..) -/
theorem pe_callG (F : FnG X.prog X.w X.K X.mg X.base CX k f fd ps sp) (hg : X.A.guards = some []) (hr : Room k X.A) (gl : Gl X x) (hm : X.mg x = some (.ref f)) (hk : PySem.W.keepIn X.K (.ref f) = true) (hb : Binds X.K fd ps ds) (hd : Vals dvs ds)
    (hx : Passes CX X E) (ha : PA X (e :: es) t) (hdb : (x == ("__debug__" : Str)) = false := by decide)
    (he : starEach (e :: es) X.env = (false, eval e X.env) :: starEach es X.env := by rfl) (hpl : (backTo pos (starEach es X.env)).any (·.1) = false := by rfl) : PE X (.Call (.Name x p) (e :: es) [] pos) (tCall sp dvs E t) := by
  constructor
  intro pins s σ H Q I h
  refine wpAny_Call_Name_kw (ld_glob I gl hm ?_ hdb)
  exact PySem.W.callWith_K (h₀ := X.base) I.ok.mod.kin hk
    (thn (ha.run pos pins s σ H _ I h) fun us s1 ⟨vs, H1, I1, r, q⟩ => ⟨I1.kIn, F.run hg hr hb hd hx I1 r q⟩) he hpl
end
/-- True comes out, what stood stands, nothing went in or out -/
def Fine (s : Shared) (r : Result) (s' : Shared) : Prop :=
  r = .ok (.ret (.bool true)) ∧ OldK s.heap s'.heap ∧ s'.os = s.os ∧ AllBare s'.gens
/-- the law's call, from the state that the top leaves -/
theorem law_go {P : Program} {w : World} {K : PySem.W.Frag} {mg mb : Str → Option Value} {k : Nat} {fa a : Addr} {fd : FuncData} {x : Str} {sp : Sp} {s₁ : Shared} {vs : List Value} {ns : List Int}
    (inK : K.In s₁.heap) (gl : s₁.heap.Ns mainGlobals mg)
    (bl : s₁.heap.Ns builtinsNs mb) (boot : ∀ y : Str, y ≠ "__name__" → mb y = bootBuiltins y)
    (lim : s₁.heap.NoLimit) (noG : s₁.gens = #[])
    (script : s₁.heap.get? a = some { cls := .type "list", data := .seq vs.toArray })
    (allInt : IntsAre vs ns) (few : ns.length ≤ sizeLine) (hr : Room k callerA)
    (F : ∀ base : Heap, K.In base → base.Ns mainGlobals mg → FnG P w K mg base CX0 k fa fd [x] sp) (hbind : ∀ (s : Shared) (u : Value), BindsTo s fd ⟨[u], []⟩ [(x, u)])
    (hsp : ∀ H : Hp, Only H → SqL K H a (ns.map V.int) → sp [.ref a] H (fun v _ => v = .bl true) fun _ _ _ => False) :
    codeAny (model P w) callerA (.call (.ref fa) ⟨[.ref a], []⟩)
      (Fine s₁) s₁ := by
  -- nothing but the script is tracked; if the written part holds the script, nothing at all
  have main : ∀ H : Hp, Only H → SqL K H a (ns.map V.int) → HOk P w H s₁.heap → (∀ b, H b ≠ none → b = a ∧ K.lookup a = none) →
      codeAny (model P w) callerA (.call (.ref fa) ⟨[.ref a], []⟩)
      (Fine s₁) s₁ := by
    intro H hO hS hok hA
    have nsK : ∀ {b : Addr} {m : Str → Option Value}, s₁.heap.Ns b m → (hidT s₁.heap H).Ns b m := by
      rintro b m ⟨o, es, ep, e, d, r⟩
      refine ⟨o, es, ep, hidT_get e ?_, d, r⟩
      cases q : H b with
      | none => rfl
      | some u =>
        exfalso
        have eb := (hA b (by rw [q]; simp)).1
        rw [eb, script] at e
        rw [← Option.some.inj e] at d
        cases d
    have inB : K.In (hidT s₁.heap H) := fun b o e => hidT_get (inK b o e) (by
      cases q : H b with
      | none => rfl
      | some u =>
        exfalso
        obtain ⟨e1, e2⟩ := hA b (by rw [q]; simp)
        rw [e1, e2] at e
        cases e)
    obtain ⟨mc, l1, l2⟩ := lim
    have hM : Mod K mg (hidT s₁.heap H) := ⟨inB, nsK gl, ⟨mb, nsK bl, boot⟩, ⟨mc, nsK l1, l2⟩⟩
    have e0 : Env0 P w K mg (hidT s₁.heap H) callerA [] s₁ H := ⟨rfl, hM, fun b o e => of_hidT e, Nat.le_of_eq (hidT_size _ _), trivial, fun b z => absurd (show b ∈ ([] : List Addr) from z) (by simp), hok, .of_eq noG⟩
    have run := (F _ inB (nsK gl)).go callerA [] s₁ H ⟨[.ref a], []⟩ [.ref a] [.ref a] _ _ rfl hr e0 (hbind s₁ (.ref a)) (.cons rfl .nil) (hsp H hO hS)
    refine codeAny_mono run fun r s' h => ?_
    match r, h with
    | .ok (.ret u), h =>
      obtain ⟨v, H', os, bare, un, hok', r', q⟩ := h
      obtain rfl : v = .bl true := q
      obtain rfl : u = Value.bool true := r'
      refine ⟨rfl, OldK.of_keep fun b o e => ?_, os, bare⟩
      rcases hO b with z | ⟨ob, xs, z⟩
      · exact un.keep b o e z (fun z => absurd (show b ∈ ([] : List Addr) from z) (by simp)) (by simp)
      · obtain ⟨e1, _⟩ := hok b _ z
        obtain ⟨e2, _⟩ := hok' b _ (un.frzs b ob _ z)
        rw [e] at e1
        cases e1
        exact e2
  cases hk : K.lookup a with
  | some o =>
    have e := inK a o hk
    rw [script] at e
    cases e
    refine main (fun _ => none) (fun _ => .inl rfl) (.inr ⟨_, vs.toArray, _, hk, rfl, rfl, rfl, ?_, ?_⟩) (fun b u z => nomatch z) fun b z => absurd rfl z
    · rw [List.size_toArray, allInt.length]
      exact few
    · simpa using vals_ints allInt
  | none =>
    let o : Obj := { cls := .type "list", data := .seq vs.toArray }
    let T : HO := .frz o (.lst (ns.map V.int))
    have at_a : upd (fun _ => none) a T a = some T := upd_same
    refine main (upd (fun _ => none) a T) (fun b => ?_) (.inl (.inr ⟨o, at_a⟩)) (fun b u z => ?_) fun b z => ?_
    · by_cases h : b = a
      · exact .inr ⟨o, _, by rw [h]; exact at_a⟩
      · exact .inl (upd_ne h)
    · by_cases h : b = a
      · subst h
        rw [at_a] at z
        cases z
        exact ⟨script, by rw [List.length_map]; exact few, vs, _, vals_ints allInt, script⟩
      · rw [upd_ne h] at z
        cases z
    · by_cases h : b = a
      · exact ⟨h, hk⟩
      · exact absurd (upd_ne h) z
/-- what k_head leaves, by the law's promise -/
theorem walk_go {l : PySem.W.OpenLaw} {n k : Nat} {q : Program} {loose : List Str} {XP : (Str → Option Value) → Heap → Prop} {YP : World → Heap → Prop} {d : DefRec} {K : Params → PySem.W.Frag} {sp : PySem.W.Frag → Sp} {x : Str}
    (most : l.most = some n) (few : n ≤ sizeLine)
    (nodf : d.params.defaults = []) (hr : Room k callerA)
    (hY : ∀ (w : World) (h : Heap), YP w h → (K w.params).In h)
    (F : ∀ (w : World) (mg : Str → Option Value) (fa : Addr) (h : Heap),
      (K w.params).In h → h.Ns mainGlobals mg → mg d.name = some (.ref fa) →
      ∃ fd : FuncData, (∀ (s : Shared) (u : Value), BindsTo s fd ⟨[u], []⟩ [(x, u)]) ∧ ∀ base : Heap, (K w.params).In base → base.Ns mainGlobals mg → FnG l.prog w (K w.params) mg base CX0 k fa fd [x] (sp (K w.params)))
    (hsp : ∀ (K : PySem.W.Frag) (H : Hp) (a : Addr) (ns : List Int), ns.length ≤ n → Only H → SqL K H a (ns.map V.int) → sp K [.ref a] H (fun v _ => v = .bl true) fun _ _ _ => False) :
    PySem.W.WalkO q loose XP YP l.row.toRowW d []
      (fun f vs => PySem.call f vs) := by
  refine Att.attach_call most nodf
    fun w _ s₁ mg mb fa _ _ _ _ a vs ns top Y _ _ _ atF obj allInt len noG => ?_
  have inK := hY w _ Y
  obtain ⟨fd, binds, keeps⟩ := F w mg fa _ inK top.T.g atF
  exact law_go inK top.T.g top.T.b top.T.builtins top.T.nolimit noG obj allInt (Nat.le_trans len few) hr keeps binds
    fun H hO hS => hsp _ H a ns len hO hS
end G
set_option Elab.async false
set_option linter.all false
set_option maxRecDepth 100000
set_option maxHeartbeats 2000000
/-! G3: a cell, its box, a draw from it. -/
namespace G
open PySem PySem.Spec PyProof.Rows L2
def topS (i : Nat) : Stmt := PySem.Challenge.pw_listviews_k50_whole_shapes_by_their_defi.main.body.getD i (.Pass ⟨0, 0, 0, 0⟩)
abbrev sCell : Stmt := topS 27
abbrev sBox : Stmt := topS 28
abbrev sTake : Stmt := topS 29
theorem scCell : FnScope ["_law_script", "_law_k"] ["_law_script", "_law_k"] (defScope sCell) := ⟨rfl, rfl, rfl, by decide +kernel, rfl, by decide +kernel, by decide +kernel⟩
theorem scBox : FnScope ["_law_cell_here"] ["_law_cell_here"] (defScope sBox) := ⟨rfl, rfl, rfl, by decide +kernel, rfl, by decide +kernel, by decide +kernel⟩
theorem scTake : FnScope ["_law_box_here", "_law_many", "_law_digit", "_law_mixed_here"] ["_law_box_here", "_law_many"] (defScope sTake) := ⟨rfl, rfl, rfl, by decide +kernel, rfl, by decide +kernel, by decide +kernel⟩
/-- all but b stands as it stood -/
def But (b : Addr) (H H' : Hp) : Prop := ∀ c o, c ≠ b → H c = some o → H' c = some o
theorem But.refl (b : Addr) (H : Hp) : But b H H := fun _ _ _ h => h
theorem But.trans {b : Addr} {H H1 H2 : Hp} (x : But b H H1) (y : But b H1 H2) : But b H H2 := fun c o n h => y c o n (x c o n h)
theorem But.upd {b : Addr} {H : Hp} {o : HO} : But b H (upd H b o) := fun c u n h => by
  rw [upd_ne n]
  exact h
theorem But.new {b p : Addr} {H : Hp} {o : HO} (h : H p = none) : But b H (L2.upd H p o) := fun c u n e => by
  rw [upd_ne (ne_of_none e h)]
  exact e
theorem But.same {b : Addr} {H H' : Hp} (h : Same H H') : But b H H' := fun c o _ e => h c o e
theorem Same.new {p : Addr} {H : Hp} {o : HO} (h : H p = none) : Same H (upd H p o) := fun c u e => by
  rw [upd_ne (ne_of_none e h)]
  exact e
/-- a box from which at most n draws were made -/
def BoxAt (H : Hp) (b : Addr) (n : Nat) : Prop := ∃ x y z : Int, H b = some (.lst [.int x, .int y, .int z]) ∧ 0 ≤ x ∧ 0 ≤ y ∧ y < 2147483629 ∧ 0 ≤ z ∧ z ≤ n
theorem BoxAt.mono {H : Hp} {b : Addr} {n m : Nat} (h : BoxAt H b n) (le : n ≤ m) : BoxAt H b m := by
  obtain ⟨x, y, z, e, h1, h2, h3, h4, h5⟩ := h
  exact ⟨x, y, z, e, h1, h2, h3, h4, by omega⟩
theorem BoxAt.keep {H H' : Hp} {b : Addr} {n : Nat} (h : BoxAt H b n) (s : ∀ o, H b = some o → H' b = some o) : BoxAt H' b n := by
  obtain ⟨x, y, z, e, r⟩ := h
  exact ⟨x, y, z, s _ e, r⟩
/-- a draw is one of so many -/
theorem draw_at {r m : Int} {n : Nat} (h0 : 0 ≤ r) (h1 : r < m) (e : m = n) : ∃ j : Nat, r = j ∧ j < n := ⟨r.toNat, by omega, by omega⟩
def spCell' (K : PySem.W.Frag) : Sp := fun vs H Q _ => ∃ (a : Addr) (ns : List Int) (z : Int), vs = [.ref a, .int z] ∧ SqL K H a (ns.map V.int) ∧ 0 ≤ z ∧ z < 1000 ∧ ∀ i : Int, Q (.int i) H
def spBox : Sp := fun vs H Q _ => ∃ i : Int, vs = [.int i] ∧ ∀ (b : Addr) (H' : Hp), H b = none → Same H H' → BoxAt H' b 0 → Q (.ref b) H'
def spTake : Sp := fun vs H Q _ => ∃ (b : Addr) (m : Int) (n : Nat), vs = [.ref b, .int m] ∧ BoxAt H b n ∧ n ≤ 100000 ∧ 0 < m ∧ m < 2 ^ 200 ∧
  ∀ (r : Int) (H' : Hp), 0 ≤ r → r < m → BoxAt H' b (n + 1) → But b H H' → Q (.int r) H'
section
variable {P : Program} {w : World} {K : PySem.W.Frag} {mg : Str → Option Value} {base : Heap}
theorem ok_cell {f : Addr} {fd : FuncData} (F : Fun K "_law_cell" "_law_cell" sCell f fd) (ml : mg "len" = none) : FnOk P w K mg base CX0 1 f fd ["_law_script", "_law_k"] (spCell' K) := by
  refine F.ok scCell (fun vs H Q E h => ?_) (fun cdv A outer s H vs Q E hr h => ?_)
  · obtain ⟨a, ns, j, rfl, _⟩ := h
    rfl
  · obtain ⟨a, ns, z, rfl, hS, z0, z1, q⟩ := h
    obtain ⟨j, rfl, hj⟩ := draw_at (n := 1000) z0 z1 rfl
    refine ⟨_, pss_cons (ps_if (pt_cmpR op_lt (pv 1) (pe_callB call_len_seq (by rfl) ml PySem.boot_len (pa_cons (pv 0) pa_nil)) (nomark _))
        (pss_one (ps_ret (pe_ix ix_list (pv 0) (pv 1) (fun _ _ => rfl)))) pss_nil)
      (pss_one (ps_ret (pe_op op_add (pe_op op_mul pe_int (pv 1)) pe_int))), ?_⟩
    refine ⟨_, rfl, _, rfl, a, _, rfl, .inl hS, _, _, rfl, rfl, _, rfl, ite2 (fun e => ?_) (fun _ => ?_)⟩
    · have e1 : (j : Int) < ((ns.map V.int).length : Nat) := of_decide_eq_true e
      have e2 : j < ns.length := by
        rw [List.length_map] at e1
        omega
      exact ⟨_, rfl, _, rfl, a, _, _, .int ns[j], rfl, rfl, hS, atI_nat (by rw [List.getElem?_map, List.getElem?_eq_getElem e2] <;> rfl), q _⟩
    · exact ⟨_, rfl, _, _, rfl, rfl, .inl ⟨by decide, by decide⟩, _, _, rfl, rfl, q _⟩
theorem ok_box {f : Addr} {fd : FuncData} (F : Fun K "_law_box" "_law_box" sBox f fd) (mm : mg "max" = none) : FnOk P w K mg base CX0 1 f fd ["_law_cell_here"] spBox := by
  refine F.ok scBox (fun vs H Q E h => ?_) (fun cdv A outer s H vs Q E hr h => ?_)
  · obtain ⟨i, rfl, _⟩ := h
    rfl
  · obtain ⟨i, rfl, q⟩ := h
    refine ⟨_, pss_one (ps_ret (pe_lst (pa_cons (pe_callB (call_max2 rfl) (by rfl) mm (by decide +kernel) (pa_cons pe_int (pa_cons (pe_op op_sub (pv 0) (pe_op op_pow pe_int pe_int)) pa_nil)))
      (pa_cons (pe_op op_mod (pv 0) pe_int) (pa_cons pe_int pa_nil))))), ?_⟩
    refine ⟨_, rfl, _, _, rfl, rfl, ⟨by decide, by decide, by decide⟩, _, _, rfl, rfl, _, _, rfl, _, rfl, _, _, rfl, rfl, (by show (0 : Int) < 2147483629; decide), (by show 3 ≤ sizeLine; decide), fun b hb => ?_⟩
    refine q b _ hb (Same.new hb) ⟨_, _, _, upd_same, ?_, Int.emod_nonneg _ (by decide), Int.emod_lt_of_pos _ (by decide), Int.le_refl _, Int.le_refl _⟩
    split <;> omega
theorem emod_in (a m : Int) (h : 0 < m) : 0 ≤ a % m ∧ a % m < m := ⟨Int.emod_nonneg _ (by omega), Int.emod_lt_of_pos _ h⟩
theorem ok_take {f : Addr} {fd : FuncData} (F : Fun K "_law_take" "_law_take" sTake f fd) : FnOk P w K mg base CX0 1 f fd ["_law_box_here", "_law_many"] spTake := by
  refine F.ok scTake (fun vs H Q E h => ?_) (fun cdv A outer s H vs Q E hr h => ?_)
  · obtain ⟨b, m, n, rfl, _⟩ := h
    rfl
  · obtain ⟨b, m, n, rfl, ⟨x, y, z, hb, hx, hy, hy2, hz, hzn⟩, hn, hm, hm2, q⟩ := h
    refine ⟨_, pss_cons (ps_if (pt_cmpR op_gt (pe_ix ix_list (pv 0) pe_int (fun _ _ => rfl)) pe_int (nomark _))
        (pss_cons (ps_set (i := 2) scTake.nd rfl (.inl rfl) (pe_op op_mod (pe_ix ix_list (pv 0) pe_int (fun _ _ => rfl)) (pv 1)))
        (pss_cons (ps_asg (pe_op op_fdivW (pe_ix ix_list (pv 0) pe_int (fun _ _ => rfl)) (pv 1)) (pg_sub (pv 0) pe_int set_list))
        (pss_one (ps_ret (pv 2))))) pss_nil)
      (pss_cons (ps_asg (pe_op op_add (pe_ix ix_list (pv 0) pe_int (fun _ _ => rfl)) pe_int) (pg_sub (pv 0) pe_int set_list))
      (pss_cons (ps_set (i := 3) scTake.nd rfl (.inl rfl) (pe_op op_mod (pe_op op_pow (pe_op op_add (pe_op op_add (pe_ix ix_list (pv 0) pe_int (fun _ _ => rfl)) (pe_op op_mul pe_int (pe_ix ix_list (pv 0) pe_int (fun _ _ => rfl)))) pe_int) pe_int) pe_int))
      (pss_cons (ps_set (i := 3) scTake.nd rfl (.inl rfl) (pe_op op_mod (pe_op op_pow (pe_op op_add (pv 3) (pe_op op_mul pe_int (pe_ix ix_list (pv 0) pe_int (fun _ _ => rfl)))) pe_int) pe_int))
      (pss_one (ps_ret (pe_op op_mod (pe_op op_fdivW (pv 3) pe_int) (pv 1))))))), ?_⟩
    -- if box[0] > 0
    refine ⟨_, rfl, b, _, 0, .int x, rfl, rfl, .of hb, rfl, _, _, rfl, rfl, _, rfl, ite2 (fun e => ?_) (fun _ => ?_)⟩
    · refine ⟨_, rfl, b, _, 0, .int x, rfl, rfl, .of hb, rfl, _, rfl, _, _, rfl, rfl, hm, ?_⟩
      refine ⟨_, rfl, b, _, 0, .int x, rfl, rfl, .of hb, rfl, _, rfl, _, _, rfl, rfl, wide_div hm (b := 200) (by omega) (by decide) (by decide), ?_⟩
      refine ⟨_, rfl, b, _, 0, 0, rfl, rfl, hb, rfl, _, rfl, ?_⟩
      have r := emod_in x m hm
      exact q _ _ r.1 r.2 ⟨_, _, _, upd_same, Int.ediv_nonneg hx (by omega), hy, hy2, hz, by omega⟩ But.upd
    · refine ⟨_, rfl, b, _, 2, .int z, rfl, rfl, .of hb, rfl, _, _, rfl, rfl, ?_⟩
      refine ⟨_, rfl, b, _, 2, 2, rfl, rfl, hb, rfl, ?_⟩
      have hb' : (upd H b (.lst [.int x, .int y, .int (z + 1)])) b = some (.lst [.int x, .int y, .int (z + 1)]) := upd_same
      refine ⟨_, rfl, b, _, 1, .int y, rfl, rfl, .of hb', rfl, _, rfl, b, _, 2, .int (z + 1), rfl, rfl, .of hb', rfl, _, _, rfl, rfl, .inl ⟨by decide, by decide⟩, _, _, rfl, rfl, _, _, rfl, rfl,
        _, _, rfl, rfl, ⟨by decide, by decide, by omega⟩, _, _, rfl, rfl, (by show (0 : Int) < 2147483647; decide), ?_⟩
      generalize h1 : ((y + 7607 * (z + 1) + 211) ^ (5 : Int).toNat : Int) = t1
      have r1 := emod_in t1 2147483647 (by decide)
      refine ⟨_, rfl, _, rfl, b, _, 2, .int (z + 1), rfl, rfl, .of hb', rfl, _, _, rfl, rfl, .inl ⟨by decide, by decide⟩, _, _, rfl, rfl, _, _, rfl, rfl, ⟨by decide, by decide, by omega⟩, _, _, rfl, rfl, (by show (0 : Int) < 2147483587; decide), ?_⟩
      generalize h2 : ((t1 % 2147483647 + 104729 * (z + 1)) ^ (3 : Int).toNat : Int) = t2
      refine ⟨_, rfl, _, _, rfl, rfl, wide_div (by decide) (b := 200) (by decide) (by decide) (by decide), _, rfl, _, _, rfl, rfl, hm, ?_⟩
      have r := emod_in (t2 % 2147483587 / 16) m hm
      exact q _ _ r.1 r.2 ⟨_, _, _, upd_same, hx, hy, hy2, by omega, by omega⟩ But.upd
end
end G
set_option Elab.async false
set_option linter.all false
set_option maxRecDepth 100000
set_option maxHeartbeats 2000000
/-! G5: what data in the heap keeps, its type, == of it. -/
namespace G
open PySem PySem.Spec PyProof.Rows L2
section
variable {K : PySem.W.Frag} {H H' : Hp}
mutual
theorem rp_same (s : Same H H') : ∀ (d : PyData) (v : V), Rp K H v d → Rp K H' v d
  | .none, _, h => by
    cases h
    exact .non
  | .bool b, _, h => by
    cases h
    exact .bl b
  | .int i, _, h => by
    cases h
    exact .int i
  | .str x, _, h => by
    cases h
    exact .str x
  | .list ds, _, h => by
    cases h with
    | lst e r => exact .lst (s _ _ e) (rp_sameAll s ds _ r)
  | .tuple ds, _, h => by
    cases h with
    | tup e r => exact .tup (s _ _ e) (rp_sameAll s ds _ r)
  | .dict ds, _, h => by
    cases h with
    | dic e r q => exact .dic (s _ _ e) (rp_sameK s ds _ r) (rp_sameV s ds _ q)
theorem rp_sameAll (s : Same H H') : ∀ (ds : List PyData) (vs : List V), RpAll K H vs ds → RpAll K H' vs ds
  | [], _, h => by
    cases h
    exact .nil
  | d :: ds, _, h => by
    cases h with
    | cons a b => exact .cons (rp_same s d _ a) (rp_sameAll s ds _ b)
theorem rp_sameK (s : Same H H') : ∀ (ds : List (PyData × PyData)) (vs : List V), RpAll K H vs (ds.map (·.1)) → RpAll K H' vs (ds.map (·.1))
  | [], _, h => by
    cases h
    exact .nil
  | (d, _) :: ds, _, h => by
    cases h with
    | cons a b => exact .cons (rp_same s d _ a) (rp_sameK s ds _ b)
theorem rp_sameV (s : Same H H') : ∀ (ds : List (PyData × PyData)) (vs : List V), RpAll K H vs (ds.map (·.2)) → RpAll K H' vs (ds.map (·.2))
  | [], _, h => by
    cases h
    exact .nil
  | (_, d) :: ds, _, h => by
    cases h with
    | cons a b => exact .cons (rp_same s d _ a) (rp_sameV s ds _ b)
end
theorem rp_len : ∀ {ds : List PyData} {vs : List V}, RpAll K H vs ds → vs.length = ds.length
  | [], _, h => by
    cases h
    rfl
  | _ :: ds, _, h => by
    cases h with
    | cons a b =>
      rw [List.length_cons, List.length_cons, rp_len b]
theorem rp_at : ∀ {ds : List PyData} {vs : List V} {i : Nat} {v : V}, RpAll K H vs ds → vs[i]? = some v → ∃ d, ds[i]? = some d ∧ Rp K H v d
  | [], _, i, v, h, e => by
    cases h
    simp at e
  | d :: ds, _, i, v, h, e => by
    cases h with
    | cons a b =>
      cases i with
      | zero =>
        have e' := Option.some.inj e
        subst e'
        exact ⟨d, rfl, a⟩
      | succ j => exact rp_at (ds := ds) (i := j) b (by simpa using e)
theorem rp_app : ∀ {ds : List PyData} {vs : List V} {v : V} {d : PyData}, RpAll K H vs ds → Rp K H v d → RpAll K H (vs ++ [v]) (ds ++ [d])
  | [], _, _, _, h, r => by
    cases h
    exact .cons r .nil
  | _ :: ds, _, _, _, h, r => by
    cases h with
    | cons a b => exact .cons a (rp_app b r)
theorem rp_set : ∀ {ds : List PyData} {vs : List V} {v : V} {d : PyData} (i : Nat), RpAll K H vs ds → Rp K H v d → RpAll K H (vs.set i v) (ds.set i d)
  | [], _, _, _, _, h, r => by
    cases h
    exact .nil
  | _ :: ds, _, _, _, i, h, r => by
    cases h with
    | cons a b =>
      cases i with
      | zero => exact .cons r b
      | succ j => exact .cons a (rp_set j b r)
theorem rp_ints : ∀ (is : List Int), RpAll K H (is.map V.int) (is.map PyData.int)
  | [] => .nil
  | i :: is => .cons (.int i) (rp_ints is)
mutual
theorem rp_dp : ∀ (d : PyData) (v : V), d.hasDict = false → Rp K H v d → Dp K H v d
  | .none, _, _, h => by
    cases h
    exact .non
  | .bool b, _, _, h => by
    cases h
    exact .bl b
  | .int i, _, _, h => by
    cases h
    exact .int i
  | .str x, _, _, h => by
    cases h
    exact .str x
  | .list ds, _, n, h => by
    cases h with
    | lst e r => exact .lst (.of e) (rp_dpAll ds _ (by simpa [PyData.hasDict] using n) r)
  | .tuple ds, _, n, h => by
    cases h with
    | tup e r => exact .tup (.of e) (rp_dpAll ds _ (by simpa [PyData.hasDict] using n) r)
  | .dict ds, _, n, h => by simp [PyData.hasDict] at n
theorem rp_dpAll : ∀ (ds : List PyData) (vs : List V), PyData.hasDictAll ds = false → RpAll K H vs ds → DpAll K H vs ds
  | [], _, _, h => by
    cases h
    exact .nil
  | d :: ds, _, n, h => by
    simp only [PyData.hasDictAll, Bool.or_eq_false_iff] at n
    cases h with
    | cons a b => exact .cons (rp_dp d _ n.1 a) (rp_dpAll ds _ n.2 b)
end
/-- the name of a thing's type -/
def tyN : PyData → String
  | .none => "NoneType"
  | .bool _ => "bool"
  | .int _ => "int"
  | .str _ => "str"
  | .list _ => "list"
  | .tuple _ => "tuple"
  | .dict _ => "dict"
theorem rp_ty {v : V} {d : PyData} (h : Rp K H v d) : TyX K H v (.type (tyN d)) := by
  cases h with
  | non => exact .base .non
  | bl b => exact .base (.bl b)
  | int i => exact .base (.int i)
  | str x => exact .base (.str x)
  | lst e r => exact .base (.lst e)
  | tup e r => exact .base (.tup e)
  | dic e r q => exact .base (.dK e)
end
/-- H without what stands at b -/
def hide (b : Addr) (H : Hp) : Hp := fun a => if a = b then none else H a
theorem hide_same (b : Addr) (H : Hp) : Same (hide b H) H := fun a o e => by
  by_cases h : a = b
  · rw [show hide b H a = none from if_pos h] at e
    cases e
  · rwa [show hide b H a = H a from if_neg h] at e
theorem hide_ne {b a : Addr} {H : Hp} (h : a ≠ b) : hide b H a = H a := if_neg h
theorem hide_at {b : Addr} {H : Hp} : hide b H b = none := if_pos rfl
theorem hide_but {b : Addr} {H H' : Hp} (h : But b H H') : Same (hide b H) (hide b H') := fun a o e => by
  have n : a ≠ b := fun z => by
    rw [z, hide_at] at e
    cases e
  rw [hide_ne n] at e ⊢
  exact h a o n e
theorem hide_upd {b : Addr} {H : Hp} {o : HO} : hide b (upd H b o) = hide b H := by
  funext a
  by_cases h : a = b
  · rw [h, hide_at, hide_at]
  · rw [hide_ne h, hide_ne h, upd_ne h]
/-- what is new is not in what stood -/
theorem hide_new {b : Addr} {H : Hp} (h : H b = none) : Same H (hide b H) := fun a o e => by
  rw [hide_ne (ne_of_none e h)]
  exact e
theorem hide_mono {b : Addr} {H H' : Hp} (h : Same H H') : Same (hide b H) (hide b H') := hide_but fun c o _ e => h c o e
theorem hide_hide {b c : Addr} {H : Hp} : hide b (hide c H) = hide c (hide b H) := by
  funext a
  unfold hide
  split <;> split <;> rfl
end G
set_option Elab.async false
set_option linter.all false
set_option maxRecDepth 100000
set_option maxHeartbeats 2000000
/-! V3: the items of a list, in a drawn order. -/
namespace G
open PySem PySem.Spec PyProof.Rows L2
abbrev sMixed : Stmt := topS 30
theorem scMixed : FnScope ["_law_box_here", "_law_some", "_law_left", "_law_found"] ["_law_box_here", "_law_some"] (defScope sMixed) := ⟨rfl, rfl, rfl, by decide +kernel, rfl, by decide +kernel, by decide +kernel⟩
/-- data that == takes: no dict, texts that can be compared, not too deep -/
def lay (d : PyData) : Prop := d.hasDict = false ∧ d.canLay0 = true ∧ d.depth ≤ 60
theorem lay_all : ∀ {ds : List PyData}, (∀ d ∈ ds, lay d) → PyData.hasDictAll ds = false ∧ PyData.canLayAll0 ds = true ∧ PyData.depthAll ds ≤ 60
  | [], _ => ⟨rfl, rfl, Nat.zero_le _⟩
  | d :: ds, h => by
    obtain ⟨a1, a2, a3⟩ := h d List.mem_cons_self
    obtain ⟨b1, b2, b3⟩ := lay_all (ds := ds) fun e he => h e (List.mem_cons_of_mem _ he)
    refine ⟨?_, ?_, ?_⟩
    · rw [PyData.hasDictAll, a1, b1]
      rfl
    · rw [PyData.canLayAll0, a2, b2]
      rfl
    · rw [PyData.depthAll]
      exact Nat.max_le.mpr ⟨a3, b3⟩
theorem lay_shaped {d : PyData} (h : lay d) : SeqAt.shaped d = true := by
  unfold SeqAt.shaped
  rw [h.2.1, decide_eq_true (Nat.le_trans h.2.2 (by decide))]
  rfl
theorem lay_list {ds : List PyData} (h : ∀ d ∈ ds, lay d) : SeqAt.shaped (.list ds) = true := by
  obtain ⟨_, b2, b3⟩ := lay_all h
  unfold SeqAt.shaped
  rw [PyData.canLay0, b2, decide_eq_true (show (PyData.list ds).depth ≤ 64 by rw [PyData.depth]; omega)]
  rfl
/-- values and what they show -/
abbrev Vd := V × PyData
theorem rp_pairs {K : PySem.W.Frag} {H : Hp} : ∀ {qs : List Vd}, (∀ p ∈ qs, Rp K H p.1 p.2) → RpAll K H (qs.map (·.1)) (qs.map (·.2))
  | [], _ => .nil
  | p :: qs, h => .cons (h p List.mem_cons_self) (rp_pairs fun q hq => h q (List.mem_cons_of_mem _ hq))
theorem dp_pairs {K : PySem.W.Frag} {H : Hp} {qs : List Vd} (h : ∀ p ∈ qs, Rp K H p.1 p.2) (l : ∀ p ∈ qs, lay p.2) : DpAll K H (qs.map (·.1)) (qs.map (·.2)) :=
  rp_dpAll _ _ (lay_all (ds := qs.map (·.2)) fun d hd => by
    obtain ⟨p, hp, rfl⟩ := List.mem_map.mp hd
    exact l p hp).1 (rp_pairs h)
theorem erase_map {α β : Type} (f : α → β) : ∀ (l : List α) (j : Nat), (l.map f).eraseIdx j = (l.eraseIdx j).map f
  | [], _ => rfl
  | _ :: _, 0 => rfl
  | x :: l, j + 1 => by
    show f x :: (l.map f).eraseIdx j = f x :: (l.eraseIdx j).map f
    rw [erase_map f l j]
theorem erase_perm {α : Type} : ∀ {l : List α} {j : Nat} (h : j < l.length), ([l[j]] ++ l.eraseIdx j).Perm l
  | _ :: _, 0, _ => .refl _
  | x :: l, j + 1, h => by
    have hj : j < l.length := by simpa using h
    have ih := erase_perm hj
    show (l[j] :: x :: l.eraseIdx j).Perm (x :: l)
    exact (List.Perm.swap x _ _).trans (List.Perm.cons x ih)
/-- some: any order of its items, in a new list -/
def spMixed (K : PySem.W.Frag) : Sp := fun vs H Q _ => ∃ (b a : Addr) (n : Nat) (ps : List Vd), vs = [.ref b, .ref a] ∧ BoxAt H b n ∧ n + ps.length ≤ 100000 ∧ (SqL K H a (ps.map (·.1)) ∨ SqT K H a (ps.map (·.1))) ∧
  (∀ p ∈ ps, lay p.2 ∧ ∀ H', But b H H' → Rp K H' p.1 p.2) ∧
  ∀ (p : Addr) (H' : Hp) (qs : List Vd), qs.Perm ps → H p = none → H' p = some (.lst (qs.map (·.1))) → BoxAt H' b (n + ps.length) → But b H H' → Q (.ref p) H'
theorem eqv_nil (ds : List PyData) : PyData.eqv (.list ds) (.list []) = ds.isEmpty := by
  cases ds with
  | nil => rfl
  | cons d ds => rfl
section
variable {P : Program} {w : World} {K : PySem.W.Frag} {mg : Str → Option Value} {base : Heap}
theorem ok_mixed {f fT : Addr} {fd fdT : FuncData} (F : Fun K "_law_mixed" "_law_mixed" sMixed f fd) (T : Fun K "_law_take" "_law_take" sTake fT fdT) (bT : Binds K fdT ["_law_box_here", "_law_many"] []) (gT : mg "_law_take" = some (.ref fT))
    (ml : mg "len" = none) (mL : mg "list" = none) : FnOk P w K mg base CX0 2 f fd ["_law_box_here", "_law_some"] (spMixed K) := by
  refine F.ok scMixed (fun vs H Q E h => ?_) (fun cdv A outer s H vs Q E hr h => ?_)
  · obtain ⟨b, a, n, ps, rfl, _⟩ := h
    rfl
  · obtain ⟨b, a, n, ps, rfl, B, hn, hS, hp, q⟩ := h
    have big : ∀ {k : Nat}, k ≤ 100000 → k < sizeLine := fun {k} h => by
      rw [sizeLine_eq]
      omega
    refine ⟨_, pss_cons (ps_par (i := 2) (j := 3) (by rfl) scMixed.nd rfl rfl (by decide) rfl rfl (pa_cons (pe_callTy call_list_of (by rfl) mL (by decide +kernel) (pa_cons (pv 1) pa_nil)) (pa_cons (pe_lst pa_nil) pa_nil)) (by rfl))
      (pss_cons (ps_while PassesOwn.never (pt_cmpR (op_neD hr.units) (pv 2) (pe_lst pa_nil) (nomark _))
        (pss_one (ps_expr (pe_bm PySem.F.plainAttrs_list PySem.F.slot_list_append PySem.F.type_list_append mt_append (pv 3) (pa_cons
          (pe_bm PySem.F.plainAttrs_list PySem.F.slot_list_pop PySem.F.type_list_pop mt_popAt (pv 2)
            (pa_cons (pe_call (ok_take T) hr rfl gT T.kp bT .nil pass0 (pa_cons (pv 0) (pa_cons (pe_callB call_len_seq (by rfl) ml PySem.boot_len (pa_cons (pv 2) pa_nil)) pa_nil))) pa_nil)) pa_nil)))))
      (pss_one (ps_ret (pv 3)))), ?_⟩
    refine ⟨_, rfl, a, _, rfl, hS, fun l hl => ⟨by decide, fun p hp0 => ⟨_, _, rfl, ?_⟩⟩⟩
    have nlp : l ≠ p := fun z => by
      rw [z, upd_same] at hp0
      cases hp0
    have hpn : H p = none := (upd_ne nlp.symm).symm.trans hp0
    have nbl : b ≠ l := by
      obtain ⟨_, _, _, e, _⟩ := B
      exact ne_of_none e hl
    have nbp : b ≠ p := by
      obtain ⟨_, _, _, e, _⟩ := B
      exact ne_of_none e hpn
    refine ⟨fun m σ H1 => ∃ qs rs : List Vd, m = qs.length ∧ σ = [some (.ref b), some (.ref a), some (.ref l), some (.ref p)] ∧ H1 l = some (.lst (qs.map (·.1))) ∧ H1 p = some (.lst (rs.map (·.1))) ∧
        (rs ++ qs).Perm ps ∧ BoxAt H1 b (n + rs.length) ∧ But b H H1, ⟨ps.length, ps, [], rfl, rfl, ?_, upd_same, .refl _, ?_, ?_⟩, ?_⟩
    · rw [upd_ne nlp, upd_same]
    · exact (B.keep fun o e => by rw [upd_ne nbp, upd_ne nbl]; exact e).mono (Nat.le_add_right _ _)
    · exact (But.new hl).trans (But.new hp0)
    · rintro m σ H1 ⟨qs, rs, rfl, rfl, el, ep, pm, B1, s1⟩
      have hq : ∀ x ∈ qs, x ∈ ps := fun x hx => pm.mem_iff.mp (List.mem_append_right _ hx)
      have hlen : rs.length + qs.length = ps.length := by
        rw [← List.length_append]
        exact pm.length_eq
      refine ⟨_, rfl, by decide, fun t ht => ?_⟩
      have nlt : l ≠ t := ne_of_none el ht
      have s2 : But b H (upd H1 t (.lst [])) := s1.trans (But.new ht)
      refine ⟨.list (qs.map fun x : Vd => x.2), .list [], .lst (xs := qs.map fun x : Vd => x.1) (.of (by rw [upd_ne nlt]; exact el)) (dp_pairs (fun x hx => (hp x (hq x hx)).2 _ s2) fun x hx => (hp x (hq x hx)).1), .lst (.of upd_same) .nil, lay_list (fun d hd => ?_), by rfl, _, rfl, ?_⟩
      · obtain ⟨x, hx, rfl⟩ := List.mem_map.mp hd
        exact (hp x (hq x hx)).1
      · rw [eqv_nil]
        cases qs with
        | nil =>
          refine iteF ?_
          refine ⟨_, rfl, ?_⟩
          rw [List.append_nil] at pm
          refine q p _ rs pm hpn ?_ ?_ s2
          · rw [upd_ne (ne_of_none ep ht)]
            exact ep
          · have e : rs.length = ps.length := pm.length_eq
            rw [← e]
            exact B1.keep fun o e => by rw [upd_ne (ne_of_none e ht)]; exact e
        | cons y ys =>
          refine iteT ?_
          have hlen' : rs.length + (ys.length + 1) = ps.length := hlen
          refine ⟨fun σ' H' => ∃ m', m' < (y :: ys).length ∧ ∃ qs rs : List Vd, m' = qs.length ∧ σ' = [some (.ref b), some (.ref a), some (.ref l), some (.ref p)] ∧ H' l = some (.lst (qs.map (·.1))) ∧ H' p = some (.lst (rs.map (·.1))) ∧
            (rs ++ qs).Perm ps ∧ BoxAt H' b (n + rs.length) ∧ But b H H', fun _ _ h => h, ?_⟩
          have ep2 : upd H1 t (.lst []) p = some (.lst (rs.map (·.1))) := by
            rw [upd_ne (ne_of_none ep ht)]
            exact ep
          have el2 : upd H1 t (.lst []) l = some (.lst ((y :: ys).map (·.1))) := by
            rw [upd_ne nlt]
            exact el
          have B2 : BoxAt (upd H1 t (.lst [])) b (n + rs.length) := B1.keep fun o e => by rw [upd_ne (ne_of_none e ht)]; exact e
          refine ⟨_, rfl, .inl ⟨rfl, _, .of ep2⟩, _, rfl, .inl ⟨rfl, _, .of el2⟩, _, rfl, _, rfl, l, _, rfl, .inl (.of el2), b, _, n + rs.length, rfl, B2, by omega, ?_, ?_, fun r H3 r0 r1 B3 s3 => ?_⟩
          · rw [List.length_map]
            show (0 : Int) < ((ys.length + 1 : Nat) : Int)
            omega
          · rw [List.length_map]
            show ((ys.length + 1 : Nat) : Int) < _
            have : ys.length + 1 ≤ 100000 := by omega
            omega
          · obtain ⟨j, rfl, hj⟩ := draw_at r0 r1 (n := (y :: ys).length) (by rw [List.length_map])
            have el3 : H3 l = some (.lst ((y :: ys).map (·.1))) := s3 _ _ nbl.symm el2
            have ep3 : H3 p = some (.lst (rs.map (·.1))) := s3 _ _ nbp.symm ep2
            have hjm : j < ((y :: ys).map (·.1)).length := by
              rw [List.length_map]
              exact hj
            have hj5 : j < 100000 := by
              have e : (y :: ys).length = ys.length + 1 := rfl
              omega
            refine ⟨l, _, (j : Int), j, ((y :: ys)[j]).1, rfl, rfl, el3, by omega, by omega, ?_, ?_, ?_⟩
            · have := PySem.seqIndex_of (k := (j : Int)) (n := ((y :: ys).map (·.1)).length) (by omega) (by omega)
              rw [this]
              rfl
            · rw [List.getElem?_map, List.getElem?_eq_getElem hj]
              rfl
            · refine ⟨p, _, _, rfl, rfl, by rw [upd_ne nlp.symm]; exact ep3, ?_, ?_⟩
              · rw [List.length_map]
                exact big (by omega)
              · refine ⟨((y :: ys).eraseIdx j).length, ?_, (y :: ys).eraseIdx j, rs ++ [(y :: ys)[j]], rfl, rfl, ?_, ?_, ?_, ?_, ?_⟩
                · rw [List.length_eraseIdx, if_pos hj]
                  show (ys.length + 1) - 1 < ys.length + 1
                  omega
                · rw [upd_ne nlp, upd_same, erase_map]
                · rw [upd_same, List.map_append]
                  rfl
                · rw [List.append_assoc]
                  refine List.Perm.trans (List.Perm.append_left rs ?_) pm
                  exact erase_perm hj
                · rw [List.length_append, List.length_singleton]
                  exact B3.keep fun o e => by rw [upd_ne nbp, upd_ne nbl]; exact e
                · intro c o nc e
                  have e3 := (s2.trans s3) c o nc e
                  rw [upd_ne (ne_of_none e hpn), upd_ne (ne_of_none e hl)]
                  exact e3
end
end G
set_option Elab.async false
set_option linter.all false
set_option maxRecDepth 100000
set_option maxHeartbeats 2000000
/-! V4: drawn names. -/
namespace G
open PySem PySem.Spec PyProof.Rows L2
abbrev sNames : Stmt := topS 31
abbrev nNames : List Str := ["_law_box_here", "_law_many", "_law_letters", "_law_way", "_law_cut", "_law_begin", "_law_step", "_law_stem", "_law_k", "_law_found", "_law_letter", "_law_name"]
theorem scNames : FnScope nNames ["_law_box_here", "_law_many"] (defScope sNames) := ⟨rfl, rfl, rfl, by decide +kernel, rfl, by decide +kernel, by decide +kernel⟩
abbrev cs (z : Str) : List Nat := z.cps.toList
theorem cs_len (z : Str) : (cs z).length = z.length := by simp [cs, Str.length]
theorem cs_app (a b : Str) : cs (a ++ b) = cs a ++ cs b := TL.tl_append a b
theorem app_len (a b : Str) : (a ++ b).length = a.length + b.length := strLen_append a b
theorem small_size {n : Nat} (h : n ≤ 7000) : n ≤ sizeLine := by
  rw [sizeLine_eq]
  omega
theorem box_new {H : Hp} {b p : Addr} {n : Nat} {o : HO} (B : BoxAt H b n) (h : H p = none) : BoxAt (upd H p o) b n := B.keep fun o' e => Same.new h b o' e
theorem box_ne {H : Hp} {b p : Addr} {n : Nat} (B : BoxAt H b n) (h : H p = none) : p ≠ b := fun z => by
  obtain ⟨_, _, _, e, _⟩ := B
  rw [← z, h] at e
  cases e
theorem box_upd {H : Hp} {b p : Addr} {n : Nat} {o : HO} (B : BoxAt H b n) (h : p ≠ b) : BoxAt (upd H p o) b n := by
  obtain ⟨x, y, z, e, r⟩ := B
  exact ⟨x, y, z, (upd_ne h.symm).trans e, r⟩
/-- a store at what was new -/
theorem but_upd {b p : Addr} {H H1 : Hp} {o : HO} (k : But b H H1) (h : H p = none) : But b H (upd H1 p o) := fun c u n e => by
  rw [upd_ne (ne_of_none e h)]
  exact k c u n e
theorem free_of {b p : Addr} {H H' : Hp} (k : But b H H') (n : p ≠ b) (h : H' p = none) : H p = none := by
  cases e : H p with
  | none => rfl
  | some o =>
    rw [k p o n e] at h
    cases h
/-! ### names -/
def LowZ (z : Str) : Prop := ∀ c ∈ cs z, 97 ≤ c ∧ c ≤ 122
def NameZ (z : Str) : Prop := LowZ z ∧ 1 ≤ z.length ∧ z.length ≤ 8
def NameI (y : Str) (i : Nat) : Prop := LowZ y ∧ 1 ≤ y.length ∧ y.length ≤ 8 ∧ (26 ≤ i → y.length ≤ 7)
theorem LowZ.app {a b : Str} (h1 : LowZ a) (h2 : LowZ b) : LowZ (a ++ b) := fun c hc => by
  rw [cs_app] at hc
  rcases List.mem_append.mp hc with h | h
  · exact h1 c h
  · exact h2 c h
theorem LowZ.cut {a : Str} (h : LowZ a) (lo hi : Option Int) : LowZ (cutS a lo hi) := fun c hc => by
  have hc' : c ∈ ((cs a).drop _).take _ := hc
  exact h c (List.mem_of_mem_drop (List.mem_of_mem_take hc'))
theorem low_one {c : Nat} (h : 97 ≤ c ∧ c ≤ 122) : LowZ ⟨#[c]⟩ := fun x hx => by
  have : x ∈ [c] := hx
  rw [List.mem_singleton.mp this]
  exact h
theorem LowZ.lay {z : Str} (h : LowZ z) : lay (.str z) := by
  refine ⟨rfl, ?_, Nat.zero_le _⟩
  show z.cps.all (· < 0x110000) = true
  rw [Array.all_eq_true]
  intro i hi
  have := h z.cps[i] (by simp [cs])
  exact decide_eq_true (by omega)
abbrev abc : Str := "abcdefghijklmnopqrstuvwxyz"
theorem abc_low : LowZ abc := by
  have h : ((cs abc).all fun c => decide (97 ≤ c ∧ c ≤ 122)) = true := by decide +kernel
  exact fun c hc => of_decide_eq_true (List.all_eq_true.mp h c hc)
theorem abc_at {j : Nat} (hj : j < 26) : ∃ c, abc.cps[j]? = some c ∧ 97 ≤ c ∧ c ≤ 122 := by
  have h1 : j < abc.cps.size := hj
  refine ⟨abc.cps[j], by simp [h1], abc_low _ ?_⟩
  simp [cs]
theorem cut_first (z : Str) (k : Nat) : cs (cutS z none (some (k : Int))) = (cs z).take k := by
  show ((cs z).drop (HT.sIx z.length 0 none)).take (HT.sIx z.length z.length (some (k : Int)) - HT.sIx z.length 0 none) = _
  rw [HT.sIx_none, HT.sIx_nat z.length z.length k, List.drop_zero, ← cs_len, Nat.sub_zero]
  by_cases h : k ≤ (cs z).length
  · rw [Nat.min_eq_left h]
  · rw [Nat.min_eq_right (by omega), List.take_length, List.take_of_length_le (by omega)]
theorem cut_len (z : Str) (k : Nat) : (cutS z none (some (k : Int))).length = min k z.length := by
  rw [← cs_len, cut_first, List.length_take, cs_len]
def spNames : Sp := fun vs H Q _ => ∃ (b : Addr) (m n : Nat), vs = [.ref b, .int (m : Int)] ∧ BoxAt H b n ∧ n ≤ 50000 ∧ m ≤ 100 ∧
  ∀ (p : Addr) (H' : Hp) (zs : List Str), zs.length = m → (∀ z ∈ zs, NameZ z) → H p = none → H' p = some (.lst (zs.map V.str)) → BoxAt H' b (n + 11 + m) → But b H H' → Q (.ref p) H'
section
variable {P : Program} {w : World} {K : PySem.W.Frag} {mg : Str → Option Value} {base : Heap}
theorem ok_names {f fT fM : Addr} {fd fdT fdM : FuncData} (F : Fun K "_law_names" "_law_names" sNames f fd) (T : Fun K "_law_take" "_law_take" sTake fT fdT) (bT : Binds K fdT ["_law_box_here", "_law_many"] []) (gT : mg "_law_take" = some (.ref fT))
    (M : Fun K "_law_mixed" "_law_mixed" sMixed fM fdM) (bM : Binds K fdM ["_law_box_here", "_law_some"] []) (gM : mg "_law_mixed" = some (.ref fM)) (ml : mg "len" = none) (mL : mg "list" = none) (mr : mg "range" = none) :
    FnOk P w K mg base CX0 3 f fd ["_law_box_here", "_law_many"] spNames := by
  have GT : FnOk P w K mg base CX0 1 fT fdT ["_law_box_here", "_law_many"] spTake := ok_take T
  have GM : FnOk P w K mg base CX0 2 fM fdM ["_law_box_here", "_law_some"] (spMixed K) := ok_mixed M T bT gT ml mL
  refine F.ok scNames (fun vs H Q E h => ?_) (fun cdv A outer s H vs Q E hr h => ?_)
  · obtain ⟨b, m, n, rfl, _⟩ := h
    rfl
  · obtain ⟨b, m, n, rfl, B, hn, hm, q⟩ := h
    have hr1 := hr.mono (show 1 ≤ 2 by decide)
    obtain ⟨ts, psl, qsl⟩ : ∃ t, PSs (cxOf CX0 P w K mg base nNames "_law_names" (defScope sNames) f cdv A outer s H E).nox ((defBody sNames).drop 5) t ∧
        ∀ (way cut bg st : Nat) (z : Str) (x8 : Option V) (H1 : Hp), cut ≤ 7 → (26 < m → cut ≤ 6) → bg < 26 → st ≤ 17 → LowZ z → z.length = 7 → BoxAt H1 b (n + 11) → But b H H1 → t { nx := fun _ H' => Q .non H', rt := Q } [some (.ref b), some (.int (m : Int)), some (.str abc), some (.int (way : Int)), some (.int (cut : Int)), some (.int (bg : Int)), some (.int (st : Int)), some (.str z), x8, none, none, none] H1 := by
      refine ⟨_, pss_cons (ps_set (i := 9) scNames.nd rfl (.inl rfl) (pe_lst pa_nil))
      (pss_cons (ps_for PassesOwn.never rfl (pi_range1 rfl mr (pa_cons (pv 1) pa_nil)) (pg_name (i := 8) scNames.nd rfl (.inl rfl))
        (pss_cons (ps_set (i := 10) scNames.nd rfl (.inl rfl) (pe_item_str (pv 2) (pe_op op_mod (pe_op op_add (pv 5) (pe_op op_mul (pv 6) (pv 8))) pe_int) (fun _ _ => rfl)))
        (pss_cons (ps_set (i := 11) scNames.nd rfl (.inl rfl) (pe_op op_add_str (pe_slice sl_str (pv 7) po_none (po_some (pv 4))) (pv 10)))
        (pss_cons (ps_if (PW.pt (pw_and (pt_cmpR op_eq (pv 3) pe_int (nomark _)) (pw_and1 (pt_cmpR op_lt (pv 1) pe_int (nomark _)))))
          (pss_one (ps_set (i := 11) scNames.nd rfl (.inl rfl) (pe_op op_add_str (pv 10) (pe_slice sl_str (pv 7) po_none (po_some (pe_op op_mod (pe_op op_add (pv 4) (pe_op op_mul pe_int (pv 8))) pe_int)))))) pss_nil)
        (pss_one (ps_expr (pe_bm PySem.F.plainAttrs_list PySem.F.slot_list_append PySem.F.type_list_append mt_append (pv 9) (pa_cons
          (pe_ifExp (pt_cmpR op_lt (pv 8) pe_int (nomark _)) (pv 11) (pe_op op_add_str (pv 11) (pe_item_str (pv 2) (pe_op op_fdiv (pv 8) pe_int) (fun _ _ => rfl)))) pa_nil))))))))
      (pss_one (ps_ret (pv 9)))), ?_⟩
      intro way cut bg st z x8 H1 hcut hcut2 hbg hst hz hl B1 k1
      refine ⟨Nat.zero_le _, fun D hD => ?_⟩
      have nD := box_ne B1 hD
      have fD := free_of k1 nD hD
      refine ⟨_, rfl, _, rfl, by omega, by omega, ?_⟩
      rw [Int.toNat_natCast m]
      refine for_range (lo := 0) (n := m) (fun i σ H2 => ∃ (zs : List Str) (x8 x10 x11 : Option V), σ = [some (.ref b), some (.int (m : Int)), some (.str abc), some (.int (way : Int)), some (.int (cut : Int)), some (.int (bg : Int)), some (.int (st : Int)), some (.str z), x8, some (.ref D), x10, x11] ∧
        H2 D = some (.lst (zs.map V.str)) ∧ zs.length = i ∧ (∀ y ∈ zs, NameZ y) ∧ BoxAt H2 b (n + 11) ∧ But b H H2) ?_ ?_ ?_
      · exact ⟨[], x8, none, none, rfl, upd_same, rfl, (fun y h => nomatch h), box_new B1 hD, but_upd k1 fD⟩
      · rintro i σ H2 hi ⟨zs, x8, x10, x11, rfl, e2, hlz, hy, B2, k2⟩
        have r := emod_in ((bg : Int) + (st : Int) * (0 + (i : Int))) 26 (by decide)
        obtain ⟨j, ej, hj⟩ := draw_at r.1 r.2 (n := 26) rfl
        obtain ⟨c, hc, c97⟩ := abc_at hj
        refine ⟨_, rfl, _, rfl, _, rfl, _, rfl, _, _, rfl, rfl, .inl ⟨by omega, by omega⟩, _, _, rfl, rfl, _, _, rfl, rfl, (by show (0 : Int) < 26; decide), _, _, c, rfl, rfl, r.1, by omega, (show _ < ((26 : Nat) : Int) by omega), (by rw [ej]; exact hc), ?_⟩
        have lo := low_one c97
        have len1 : (⟨#[c]⟩ : Str).length = 1 := rfl
        generalize (⟨#[c]⟩ : Str) = lt at lo len1
        have cl := cut_len z cut
        refine ⟨_, rfl, _, rfl, _, rfl, z, rfl, small_size (by omega), _, rfl, _, _, rfl, rfl, small_size (by omega), ?_⟩
        have Y0 : LowZ (cutS z none (some (cut : Int)) ++ lt) ∧ 1 ≤ (cutS z none (some (cut : Int)) ++ lt).length ∧ (cutS z none (some (cut : Int)) ++ lt).length ≤ 8 ∧ (26 ≤ i → (cutS z none (some (cut : Int)) ++ lt).length ≤ 7) := by
          rw [app_len]
          exact ⟨(hz.cut _ _).app lo, by omega, by omega, fun _ => by omega⟩
        have r8 := emod_in ((cut : Int) + 3 * (0 + (i : Int))) 8 (by decide)
        refine ⟨_, rfl, rfl, _, rfl, ite2 (fun _ => ?_) (fun _ => ?_)⟩
        · refine ⟨_, rfl, _, _, rfl, rfl, _, rfl, ite2 (fun h27 => ?_) (fun _ => ?_)⟩
          · have hm27 : (m : Int) < 27 := of_decide_eq_true h27
            obtain ⟨j8, ej8, hj8⟩ := draw_at r8.1 r8.2 (n := 8) rfl
            have cl8 := cut_len z j8
            refine ⟨_, rfl, _, rfl, _, rfl, _, rfl, _, _, rfl, rfl, .inl ⟨by decide, by decide⟩, _, _, rfl, rfl, _, _, rfl, rfl, (by show (0 : Int) < 8; decide), _, rfl, z, rfl, small_size (by omega), _, _, rfl, rfl, ?_, ?_⟩
            · rw [ej8, len1]
              exact small_size (by omega)
            have Y : NameI (lt ++ cutS z none (some (((cut : Int) + 3 * (0 + (i : Int))) % 8))) i := by
              unfold NameI
              rw [ej8, app_len]
              exact ⟨lo.app (hz.cut _ _), by omega, by omega, fun h => by omega⟩
            revert Y
            generalize (lt ++ cutS z none (some (((cut : Int) + 3 * (0 + (i : Int))) % 8))) = y
            intro Y
            obtain ⟨y1, y2, y3, y4⟩ := Y
            have done : ∀ (u : Str) (x8 x10 x11 : Option V), NameZ u → ∃ (zs' : List Str) (x8' x10' x11' : Option V), [some (V.ref b), some (.int (m : Int)), some (.str abc), some (.int (way : Int)), some (.int (cut : Int)), some (.int (bg : Int)), some (.int (st : Int)), some (.str z), x8, some (.ref D), x10, x11] = [some (.ref b), some (.int (m : Int)), some (.str abc), some (.int (way : Int)), some (.int (cut : Int)), some (.int (bg : Int)), some (.int (st : Int)), some (.str z), x8', some (.ref D), x10', x11'] ∧
                upd H2 D (.lst (zs.map V.str ++ [.str u])) D = some (.lst (zs'.map V.str)) ∧ zs'.length = i + 1 ∧ (∀ y ∈ zs', NameZ y) ∧ BoxAt (upd H2 D (.lst (zs.map V.str ++ [.str u]))) b (n + 11) ∧ But b H (upd H2 D (.lst (zs.map V.str ++ [.str u]))) := fun u x8 x10 x11 hu => by
              refine ⟨zs ++ [u], x8, x10, x11, rfl, ?_, ?_, fun v hv => ?_, box_upd B2 nD, but_upd k2 fD⟩
              · rw [upd_same, List.map_append]
                rfl
              · rw [List.length_append, hlz]
                rfl
              · rcases List.mem_append.mp hv with hv | hv
                · exact hy v hv
                · rw [List.mem_singleton.mp hv]
                  exact hu
            have room : (zs.map V.str).length < sizeLine := by
              rw [List.length_map]
              exact small1000 (by omega)
            refine ⟨_, rfl, .inl ⟨rfl, _, .of e2⟩, _, rfl, _, _, rfl, rfl, _, rfl, ite2 (fun h26 => ?_) (fun h26 => ?_)⟩
            · exact ⟨_, rfl, D, _, _, rfl, rfl, e2, room, done y _ _ _ ⟨y1, y2, y3⟩⟩
            · have h26' : ¬ ((0 + (i : Int)) < 26) := fun h => h26 (decide_eq_true h)
              have yl := y4 (by omega)
              have hd : (0 + (i : Int)) / 26 = ((i / 26 : Nat) : Int) := by omega
              obtain ⟨c2, hc2, c297⟩ := abc_at (j := i / 26) (by omega)
              refine ⟨_, rfl, _, rfl, _, rfl, _, _, rfl, rfl, ⟨by decide, by decide⟩, _, _, c2, rfl, rfl, by omega, by omega, (show _ < ((26 : Nat) : Int) by omega), (by rw [hd]; exact hc2), _, _, rfl, rfl, ?_, D, _, _, rfl, rfl, e2, room, ?_⟩
              · show y.length + 1 ≤ sizeLine
                exact small_size (by omega)
              · have l2 : (y ++ (⟨#[c2]⟩ : Str)).length = y.length + 1 := app_len y ⟨#[c2]⟩
                exact done (y ++ ⟨#[c2]⟩) _ _ _ ⟨y1.app (low_one c297), by omega, by omega⟩
          · have Y : NameI (cutS z none (some (cut : Int)) ++ lt) i := Y0
            revert Y
            generalize (cutS z none (some (cut : Int)) ++ lt) = y
            intro Y
            obtain ⟨y1, y2, y3, y4⟩ := Y
            have done : ∀ (u : Str) (x8 x10 x11 : Option V), NameZ u → ∃ (zs' : List Str) (x8' x10' x11' : Option V), [some (V.ref b), some (.int (m : Int)), some (.str abc), some (.int (way : Int)), some (.int (cut : Int)), some (.int (bg : Int)), some (.int (st : Int)), some (.str z), x8, some (.ref D), x10, x11] = [some (.ref b), some (.int (m : Int)), some (.str abc), some (.int (way : Int)), some (.int (cut : Int)), some (.int (bg : Int)), some (.int (st : Int)), some (.str z), x8', some (.ref D), x10', x11'] ∧
                upd H2 D (.lst (zs.map V.str ++ [.str u])) D = some (.lst (zs'.map V.str)) ∧ zs'.length = i + 1 ∧ (∀ y ∈ zs', NameZ y) ∧ BoxAt (upd H2 D (.lst (zs.map V.str ++ [.str u]))) b (n + 11) ∧ But b H (upd H2 D (.lst (zs.map V.str ++ [.str u]))) := fun u x8 x10 x11 hu => by
              refine ⟨zs ++ [u], x8, x10, x11, rfl, ?_, ?_, fun v hv => ?_, box_upd B2 nD, but_upd k2 fD⟩
              · rw [upd_same, List.map_append]
                rfl
              · rw [List.length_append, hlz]
                rfl
              · rcases List.mem_append.mp hv with hv | hv
                · exact hy v hv
                · rw [List.mem_singleton.mp hv]
                  exact hu
            have room : (zs.map V.str).length < sizeLine := by
              rw [List.length_map]
              exact small1000 (by omega)
            refine ⟨_, rfl, .inl ⟨rfl, _, .of e2⟩, _, rfl, _, _, rfl, rfl, _, rfl, ite2 (fun h26 => ?_) (fun h26 => ?_)⟩
            · exact ⟨_, rfl, D, _, _, rfl, rfl, e2, room, done y _ _ _ ⟨y1, y2, y3⟩⟩
            · have h26' : ¬ ((0 + (i : Int)) < 26) := fun h => h26 (decide_eq_true h)
              have yl := y4 (by omega)
              have hd : (0 + (i : Int)) / 26 = ((i / 26 : Nat) : Int) := by omega
              obtain ⟨c2, hc2, c297⟩ := abc_at (j := i / 26) (by omega)
              refine ⟨_, rfl, _, rfl, _, rfl, _, _, rfl, rfl, ⟨by decide, by decide⟩, _, _, c2, rfl, rfl, by omega, by omega, (show _ < ((26 : Nat) : Int) by omega), (by rw [hd]; exact hc2), _, _, rfl, rfl, ?_, D, _, _, rfl, rfl, e2, room, ?_⟩
              · show y.length + 1 ≤ sizeLine
                exact small_size (by omega)
              · have l2 : (y ++ (⟨#[c2]⟩ : Str)).length = y.length + 1 := app_len y ⟨#[c2]⟩
                exact done (y ++ ⟨#[c2]⟩) _ _ _ ⟨y1.app (low_one c297), by omega, by omega⟩
        · have Y : NameI (cutS z none (some (cut : Int)) ++ lt) i := Y0
          revert Y
          generalize (cutS z none (some (cut : Int)) ++ lt) = y
          intro Y
          obtain ⟨y1, y2, y3, y4⟩ := Y
          have done : ∀ (u : Str) (x8 x10 x11 : Option V), NameZ u → ∃ (zs' : List Str) (x8' x10' x11' : Option V), [some (V.ref b), some (.int (m : Int)), some (.str abc), some (.int (way : Int)), some (.int (cut : Int)), some (.int (bg : Int)), some (.int (st : Int)), some (.str z), x8, some (.ref D), x10, x11] = [some (.ref b), some (.int (m : Int)), some (.str abc), some (.int (way : Int)), some (.int (cut : Int)), some (.int (bg : Int)), some (.int (st : Int)), some (.str z), x8', some (.ref D), x10', x11'] ∧
              upd H2 D (.lst (zs.map V.str ++ [.str u])) D = some (.lst (zs'.map V.str)) ∧ zs'.length = i + 1 ∧ (∀ y ∈ zs', NameZ y) ∧ BoxAt (upd H2 D (.lst (zs.map V.str ++ [.str u]))) b (n + 11) ∧ But b H (upd H2 D (.lst (zs.map V.str ++ [.str u]))) := fun u x8 x10 x11 hu => by
            refine ⟨zs ++ [u], x8, x10, x11, rfl, ?_, ?_, fun v hv => ?_, box_upd B2 nD, but_upd k2 fD⟩
            · rw [upd_same, List.map_append]
              rfl
            · rw [List.length_append, hlz]
              rfl
            · rcases List.mem_append.mp hv with hv | hv
              · exact hy v hv
              · rw [List.mem_singleton.mp hv]
                exact hu
          have room : (zs.map V.str).length < sizeLine := by
            rw [List.length_map]
            exact small1000 (by omega)
          refine ⟨_, rfl, .inl ⟨rfl, _, .of e2⟩, _, rfl, _, _, rfl, rfl, _, rfl, ite2 (fun h26 => ?_) (fun h26 => ?_)⟩
          · exact ⟨_, rfl, D, _, _, rfl, rfl, e2, room, done y _ _ _ ⟨y1, y2, y3⟩⟩
          · have h26' : ¬ ((0 + (i : Int)) < 26) := fun h => h26 (decide_eq_true h)
            have yl := y4 (by omega)
            have hd : (0 + (i : Int)) / 26 = ((i / 26 : Nat) : Int) := by omega
            obtain ⟨c2, hc2, c297⟩ := abc_at (j := i / 26) (by omega)
            refine ⟨_, rfl, _, rfl, _, rfl, _, _, rfl, rfl, ⟨by decide, by decide⟩, _, _, c2, rfl, rfl, by omega, by omega, (show _ < ((26 : Nat) : Int) by omega), (by rw [hd]; exact hc2), _, _, rfl, rfl, ?_, D, _, _, rfl, rfl, e2, room, ?_⟩
            · show y.length + 1 ≤ sizeLine
              exact small_size (by omega)
            · have l2 : (y ++ (⟨#[c2]⟩ : Str)).length = y.length + 1 := app_len y ⟨#[c2]⟩
              exact done (y ++ ⟨#[c2]⟩) _ _ _ ⟨y1.app (low_one c297), by omega, by omega⟩
      · rintro σ H2 ⟨zs, x8, x10, x11, rfl, e2, hlz, hy, B2, k2⟩
        exact ⟨_, rfl, q D H2 zs hlz hy fD e2 (B2.mono (by omega)) k2⟩
    obtain ⟨tl, pl, ql⟩ : ∃ t, PSs (cxOf CX0 P w K mg base nNames "_law_names" (defScope sNames) f cdv A outer s H E).nox ((defBody sNames).drop 2) t ∧
        ∀ (way cut bg : Nat) (H1 : Hp), cut ≤ 7 → (26 < m → cut ≤ 6) → bg < 26 → BoxAt H1 b (n + 3) → But b H H1 → t { nx := fun _ H' => Q .non H', rt := Q } [some (.ref b), some (.int (m : Int)), some (.str abc), some (.int (way : Int)), some (.int (cut : Int)), some (.int (bg : Int)), none, none, none, none, none, none] H1 := by
      refine ⟨_, pss_cons (ps_asg (pe_tup (pa_cons (pe_ix ix_list (pe_lst (pa_cons pe_int (pa_cons pe_int (pa_cons pe_int (pa_cons pe_int (pa_cons pe_int (pa_cons pe_int (pa_cons pe_int (pa_cons pe_int pa_nil)))))))))
          (pe_call GT hr1 rfl gT T.kp bT .nil pass0 (pa_cons (pv 0) (pa_cons pe_int pa_nil))) (fun _ _ => rfl)) (pa_cons pe_str pa_nil)))
        (pg_tup (by rfl) (pgs_cons (pg_name (i := 6) scNames.nd rfl (.inl rfl)) (pgs_cons (pg_name (i := 7) scNames.nd rfl (.inr rfl)) pgs_nil))))
      (pss_cons (ps_for PassesOwn.never rfl (pi_range1 rfl mr (pa_cons pe_int pa_nil)) (pg_name (i := 8) scNames.nd rfl (.inl rfl))
        (pss_one (ps_set (i := 7) scNames.nd rfl (.inr rfl) (pe_op op_add_str (pv 7) (pe_item_str (pv 2) (pe_call GT hr1 rfl gT T.kp bT .nil pass0 (pa_cons (pv 0) (pa_cons pe_int pa_nil))) (fun _ _ => rfl))))))
      (pss_cons (ps_if (PW.pt (pw_and (pt_cmpR op_eq (pv 3) pe_int (nomark _)) (pw_and1 (pt_cmpR op_lt (pv 1) pe_int (nomark _)))))
        (pss_one (ps_ret (pe_call GM hr rfl gM M.kp bM .nil pass0 (pa_cons (pv 0) (pa_cons (pe_lc (own := [("_law_k", 8)]) (g := gName 8) (tt := tYes) (by rfl) scNames.nd (pi_range1 rfl mr (pa_cons (pv 1) pa_nil))
          (blkOk_by (own := [("_law_k", 8)]) (N := nNames) (sc := defScope sNames) (by decide +kernel)) (fun _ _ _ _ _ => pg_name (i := 8) scNames.nd rfl (.inl rfl)) (fun _ _ _ _ _ => pts_nil)
          (fun _ _ _ _ _ => pe_slice sl_str (pe_op op_add_str (pv 7) (pe_item_str (pv 2) (pv 5) (fun _ _ => rfl))) po_none (po_some (pe_op op_add (pv 8) pe_int)))) pa_nil))))) pss_nil)
      psl)), ?_⟩
      intro way cut bg H1 hcut hcut2 hbg B1 k1
      refine ⟨(by show 8 ≤ sizeLine; decide), fun p1 hp1 => ?_⟩
      have np1 := box_ne B1 hp1
      refine ⟨_, rfl, b, 8, n + 3, rfl, box_new B1 hp1, by omega, by decide, by decide, fun r H2 r0 r1 B2 k2 => ?_⟩
      obtain ⟨j, rfl, hj⟩ := draw_at (n := 8) r0 r1 rfl
      have e2 := k2 _ _ np1 upd_same
      have kk2 : But b H H2 := (k1.trans (But.new hp1)).trans k2
      obtain ⟨st, hst, hst17⟩ : ∃ st : Nat, ([.int 1, .int 3, .int 5, .int 7, .int 9, .int 11, .int 15, .int 17] : List V)[j]? = some (.int (st : Int)) ∧ st ≤ 17 := by
        match j, hj with
        | 0, _ => exact ⟨1, rfl, by decide⟩
        | 1, _ => exact ⟨3, rfl, by decide⟩
        | 2, _ => exact ⟨5, rfl, by decide⟩
        | 3, _ => exact ⟨7, rfl, by decide⟩
        | 4, _ => exact ⟨9, rfl, by decide⟩
        | 5, _ => exact ⟨11, rfl, by decide⟩
        | 6, _ => exact ⟨15, rfl, by decide⟩
        | 7, _ => exact ⟨17, rfl, by decide⟩
      refine ⟨p1, _, _, .int (st : Int), rfl, rfl, .of e2, atI_nat hst, (by show 2 ≤ sizeLine; decide), fun p2 hp2 => ?_⟩
      have np2 := box_ne B2 hp2
      refine ⟨p2, _, rfl, .of upd_same, rfl, _, _, rfl, _, _, rfl, rfl, ?_⟩
      have B3 : BoxAt (upd H2 p2 (.tup [.int (st : Int), .str ""])) b (n + 4) := box_new B2 hp2
      have k3 : But b H (upd H2 p2 (.tup [.int (st : Int), .str ""])) := kk2.trans (But.new hp2)
      generalize upd H2 p2 (.tup [.int (st : Int), .str ""]) = H3 at B3 k3
      -- the stem
      refine ⟨_, rfl, by decide, by decide, ?_⟩
      refine for_range (lo := 0) (n := 7) (fun i σ H4 => ∃ (z : Str) (x8 : Option V), σ = [some (.ref b), some (.int (m : Int)), some (.str abc), some (.int (way : Int)), some (.int (cut : Int)), some (.int (bg : Int)), some (.int (st : Int)), some (.str z), x8, none, none, none] ∧ LowZ z ∧ z.length = i ∧ BoxAt H4 b (n + 4 + i) ∧ But b H H4) ?_ ?_ ?_
      · exact ⟨"", none, rfl, (fun c h => nomatch h), rfl, B3, k3⟩
      · rintro i σ H4 hi ⟨z, x8, rfl, hz, hl, B4, k4⟩
        refine ⟨_, rfl, _, rfl, _, rfl, b, 26, n + 4 + i, rfl, B4, by omega, by decide, by decide, fun r H5 r0 r1 B5 k5 => ?_⟩
        obtain ⟨j, rfl, hj⟩ := draw_at (n := 26) r0 r1 rfl
        obtain ⟨c, hc, c97⟩ := abc_at hj
        refine ⟨_, _, c, rfl, rfl, by omega, by omega, (show ((j : Nat) : Int) < ((26 : Nat) : Int) by omega), hc, ?_⟩
        refine ⟨_, _, rfl, rfl, ?_, ?_⟩
        · show z.length + 1 ≤ sizeLine
          rw [sizeLine_eq]
          omega
        · refine ⟨z ++ ⟨#[c]⟩, _, rfl, hz.app (low_one c97), ?_, B5, k4.trans k5⟩
          rw [app_len, hl]
          rfl
      · rintro σ H4 ⟨z, x8, rfl, hz, hl, B4, k4⟩
        -- from here on two ways
        have namesOf : ∀ (zs : List Str) (qs : List Vd), qs.Perm (zs.map fun z => (V.str z, PyData.str z)) → (∀ z ∈ zs, NameZ z) →
            ∃ ys : List Str, qs.map (·.1) = ys.map V.str ∧ ys.length = zs.length ∧ ∀ y ∈ ys, NameZ y := fun zs qs pm hz => by
          have each : ∀ x ∈ qs, ∃ y, x = (V.str y, PyData.str y) ∧ NameZ y := fun x hx => by
            obtain ⟨y, hy, e⟩ := List.mem_map.mp (pm.mem_iff.mp hx)
            exact ⟨y, e.symm, hz y hy⟩
          have hlen : qs.length = zs.length := by
            rw [pm.length_eq, List.length_map]
          rw [← hlen]
          clear pm hlen
          induction qs with
          | nil => exact ⟨[], rfl, rfl, fun y hy => nomatch hy⟩
          | cons x qs ih =>
            obtain ⟨y, rfl, hy⟩ := each x List.mem_cons_self
            obtain ⟨ys, e1, e2, e3⟩ := ih fun x hx => each x (List.mem_cons_of_mem _ hx)
            refine ⟨y :: ys, ?_, congrArg (· + 1) e2, fun u hu => ?_⟩
            · rw [List.map_cons, e1]
              rfl
            · rcases List.mem_cons.mp hu with rfl | hu
              · exact hy
              · exact e3 u hu
        have mInt : (m : Int).toNat = m := Int.toNat_natCast m
        refine ⟨_, rfl, rfl, _, rfl, ite2 (fun _ => ?_) (fun _ => ?_)⟩
        · refine ⟨_, rfl, _, _, rfl, rfl, _, rfl, ite2 (fun h9 => ?_) (fun _ => ?_)⟩
          · have hm9 : (m : Int) < 9 := of_decide_eq_true h9
            refine ⟨_, rfl, _, rfl, _, rfl, by omega, by omega, fun D hD => ?_⟩
            have nD := box_ne B4 hD
            have fD := free_of k4 nD hD
            rw [mInt]
            refine lc_range (lo := 0) (n := m) (fun i H5 => ∃ ys : List Str, H5 D = some (.lst (ys.map V.str)) ∧ ys.length = i ∧ (∀ y ∈ ys, NameZ y) ∧ BoxAt H5 b (n + 11) ∧ But b H H5) ?_ ?_ ?_
            · exact ⟨[], upd_same, rfl, (fun y h => nomatch h), box_new B4 hD, but_upd k4 fD⟩
            · rintro i H5 hi ⟨ys, e5, hl5, hy, B5, k5⟩
              refine ⟨rfl, ?_⟩
              unfold tYes
              dsimp only
              rw [if_pos rfl]
              obtain ⟨c, hc, c97⟩ := abc_at hbg
              refine ⟨_, rfl, _, rfl, _, rfl, _, _, c, rfl, rfl, by omega, by omega, (show ((bg : Nat) : Int) < ((26 : Nat) : Int) by omega), hc, _, _, rfl, rfl, ?_, ?_⟩
              · show z.length + 1 ≤ sizeLine
                rw [sizeLine_eq]
                omega
              have lz : (z ++ ⟨#[c]⟩).length = 8 := by
                rw [app_len, hl]
                rfl
              refine ⟨_, rfl, _, _, rfl, rfl, _, rfl, _, rfl, small_size (by omega), ?_⟩
              have e0 : (0 + (i : Int) + 1 : Int) = ((i + 1 : Nat) : Int) := by omega
              rw [e0]
              have cl := cut_len (z ++ ⟨#[c]⟩) (i + 1)
              refine ⟨_, e5, ?_, ys ++ [cutS (z ++ ⟨#[c]⟩) none (some ((i + 1 : Nat) : Int))], ?_, ?_, ?_, ?_, ?_⟩
              · rw [List.length_map]
                exact small1000 (by omega)
              · rw [upd_same, List.map_append]
                rfl
              · rw [List.length_append, hl5]
                rfl
              · intro y h
                rcases List.mem_append.mp h with h | h
                · exact hy y h
                · rw [List.mem_singleton.mp h]
                  exact ⟨(hz.app (low_one c97)).cut _ _, by omega, by omega⟩
              · exact box_upd B5 nD
              · exact but_upd k5 fD
            · rintro H5 ⟨ys, e5, hl5, hy, B5, k5⟩
              refine ⟨b, D, n + 11, ys.map fun z => (V.str z, PyData.str z), rfl, B5, ?_, .inl (.of ?_), ?_, fun p H6 qs pm np e6 B6 k6 => ?_⟩
              · rw [List.length_map]
                omega
              · rw [e5, List.map_map]
                rfl
              · intro x hx
                obtain ⟨y, hyy, rfl⟩ := List.mem_map.mp hx
                exact ⟨(hy y hyy).1.lay, fun H' _ => .str y⟩
              · obtain ⟨us, u1, u2, u3⟩ := namesOf ys qs pm hy
                rw [u1] at e6
                rw [List.length_map, hl5] at B6
                exact q p H6 us (u2.trans hl5) u3 (free_of k5 (box_ne B5 np) np) e6 B6 (k5.trans k6)
          · exact qsl way cut bg st z x8 H4 hcut hcut2 hbg hst17 hz hl B4 k4
        · exact qsl way cut bg st z x8 H4 hcut hcut2 hbg hst17 hz hl B4 k4
    refine ⟨_, pss_cons (ps_set (i := 2) scNames.nd rfl (.inr rfl) pe_str)
      (pss_cons (ps_asg (pe_tup (pa_cons (pe_call GT hr1 rfl gT T.kp bT .nil pass0 (pa_cons (pv 0) (pa_cons pe_int pa_nil)))
          (pa_cons (pe_call GT hr1 rfl gT T.kp bT .nil pass0 (pa_cons (pv 0) (pa_cons (pe_ifExp (pt_cmpR op_lt (pv 1) pe_int (nomark _)) pe_int pe_int) pa_nil)))
          (pa_cons (pe_call GT hr1 rfl gT T.kp bT .nil pass0 (pa_cons (pv 0) (pa_cons pe_int pa_nil))) pa_nil))))
        (pg_tup (by rfl) (pgs_cons (pg_name (i := 3) scNames.nd rfl (.inl rfl)) (pgs_cons (pg_name (i := 4) scNames.nd rfl (.inl rfl)) (pgs_cons (pg_name (i := 5) scNames.nd rfl (.inr rfl)) pgs_nil))))) pl), ?_⟩
    refine ⟨_, rfl, b, 4, n, rfl, B, by omega, by decide, by decide, fun way H1 w0 w1 B1 k1 => ?_⟩
    obtain ⟨way, rfl, _⟩ := draw_at (n := 4) w0 w1 rfl
    refine ⟨_, rfl, _, rfl, _, _, rfl, rfl, _, rfl, ite2 (fun hm27 => ?_) (fun hm27 => ?_)⟩
    · refine ⟨b, 8, n + 1, rfl, B1, by omega, by decide, by decide, fun cut H2 c0 c1 B2 k2 => ?_⟩
      obtain ⟨cut, rfl, hcut⟩ := draw_at (n := 8) c0 c1 rfl
      refine ⟨_, rfl, b, 26, n + 2, rfl, B2, by omega, by decide, by decide, fun bg H3 g0 g1 B3 k3 => ?_⟩
      obtain ⟨bg, rfl, hbg⟩ := draw_at (n := 26) g0 g1 rfl
      refine ⟨(by show 3 ≤ sizeLine; decide), fun p hp => ⟨p, _, rfl, .of upd_same, rfl, _, _, rfl, _, _, rfl, _, _, rfl, rfl, ?_⟩⟩
      have hm' : (m : Int) < 27 := of_decide_eq_true hm27
      exact ql way cut bg _ (by omega) (by omega) hbg (box_new B3 hp) (((k1.trans k2).trans k3).trans (But.new hp))
    · refine ⟨b, 7, n + 1, rfl, B1, by omega, by decide, by decide, fun cut H2 c0 c1 B2 k2 => ?_⟩
      obtain ⟨cut, rfl, hcut⟩ := draw_at (n := 7) c0 c1 rfl
      refine ⟨_, rfl, b, 26, n + 2, rfl, B2, by omega, by decide, by decide, fun bg H3 g0 g1 B3 k3 => ?_⟩
      obtain ⟨bg, rfl, hbg⟩ := draw_at (n := 26) g0 g1 rfl
      refine ⟨(by show 3 ≤ sizeLine; decide), fun p hp => ⟨p, _, rfl, .of upd_same, rfl, _, _, rfl, _, _, rfl, _, _, rfl, rfl, ?_⟩⟩
      exact ql way cut bg _ (by omega) (by omega) hbg (box_new B3 hp) (((k1.trans k2).trans k3).trans (But.new hp))
end
end G
set_option Elab.async false
set_option linter.all false
set_option maxRecDepth 100000
set_option maxHeartbeats 2000000
/-! U1: a method that says super().__init__(..): its own activation is known while it runs. -/
namespace G
open PySem PySem.Spec PyProof.Rows L2 NdefX

/-- one statement, of a body whose activation is on top -/
structure PSa (X : Cx) (body : List Stmt) (st : Stmt) (t : TS) : Prop where
  run : ∀ (pins : List (Addr × Obj)) (s : Shared) (σ : L2.St) (H : Hp) (D : Ends), Inv X pins σ H s → t D σ H → _root_.PySem.wpAt (model X.prog X.w) X.A (.func body X.env) (exec st X.env) (SP X pins D) X.xe s
/-- .. several -/
structure PSsa (X : Cx) (body : List Stmt) (st : List Stmt) (t : TS) : Prop where
  run : ∀ (pins : List (Addr × Obj)) (s : Shared) (σ : L2.St) (H : Hp) (D : Ends), Inv X pins σ H s → t D σ H → _root_.PySem.wpAt (model X.prog X.w) X.A (.func body X.env) (execs st X.env) (SP X pins D) X.xe s
section
variable {X : Cx} {body rest : List Stmt} {st : Stmt} {t u : TS}
theorem psa (h : PS X st t) : PSa X body st t := ⟨fun pins s σ H D I q => wpAt_of_wpAny (h.run pins s σ H D I q)⟩
theorem pssa {sts : List Stmt} (h : PSs X sts t) : PSsa X body sts t := ⟨fun pins s σ H D I q => wpAt_of_wpAny (h.run pins s σ H D I q)⟩
theorem pssa_cons (h1 : PSa X body st t) (h2 : PSsa X body rest u) : PSsa X body (st :: rest) (tSeq t u) := by
  refine ⟨fun pins s σ H D I h => ks_wpAt_execs_cons (ks_wpAt_mono (h1.run pins s σ H { D with nx := u D } I h) (fun f s1 q => ?_) fun _ _ z => z)⟩
  cases f with
  | next =>
    obtain ⟨σ', H', I', q⟩ := q
    exact h2.run pins s1 σ' H' D I' q
  | ret v => exact q
  | brk => exact q
  | cont => exact q
end

/-- what of the text the words super().__init__ rest on, said in the def at f, of the class at D, to an instance of the class at C; f2: the __init__ found -/
structure SupOf (P : Program) (K : PySem.W.Frag) (f cda cc D C f2 : Addr) (x : Str) : Prop where
  fn : ∃ oc od fd sl ar, K.lookup f = some ⟨oc, od, .func fd, sl⟩ ∧ (fd.params.posonlyargs ++ fd.params.args).head? = some ar ∧ ar.arg = x
  code : ∃ oc od vs sl file tf, K.lookup cda = some ⟨oc, od, .fields vs, sl⟩ ∧ vs[2]? = some (.str file tf) ∧ ((P.main.file : Str) == file) = true
  cell : ∃ oc od sl, K.lookup cc = some ⟨oc, od, .cell (some (.ref D)), sl⟩
  isc : ∃ cd, PySem.W.clsIn K D = some cd
  isC : ∃ cd, PySem.W.clsIn K C = some cd
  sub : PySem.W.mroIn K C (.ref D) = some true
  thd : PySem.W.nsIn K cStatics "thirdparty.any" = some none
  sup : PySem.W.ks_superIn K C D "__init__" = some (some (.ref f2))
  ty : PySem.W.typeIn K (.ref f2) = some (.type "function")
  fi : PySem.W.fnIn K f2 = true
  top : (P.main.scope.names.lookup ("super" : Str)).isSome = false

/-- super().__init__(..), the instance in the slot i -/
def tSup (i : Nat) (C : Addr) (sp : Sp) (E : XK) (t : TA) : TS := fun D σ H => ∃ a dx fs, σ[i]? = some (some (.ref a)) ∧ H a = some (.ins C dx fs) ∧
  t σ H fun vs H1 => sp (.ref a :: vs) H1 (fun _ H2 => D.nx σ H2) E

section
variable {X : Cx} {CX : CXT} {k i : Nat} {f cda cc D C f2 : Addr} {x : Str} {sp : Sp} {E : XK} {body : List Stmt} {e : Expr} {es : List Expr} {t : TA} {p0 p1 apos pos spos : Pos} {pl : Sem Bool}
theorem cls_at {h : Heap} {K : PySem.W.Frag} {D : Addr} {cd : ClassData} (I : K.In h) (hD : PySem.W.clsIn K D = some cd) : ∃ o, h.get? D = some o ∧ o.data = .cls cd := by
  unfold PySem.W.clsIn at hD
  split at hD
  · rename_i c d cd' sl ho
    cases hD
    exact ⟨_, I _ _ ho, rfl⟩
  · cases hD
/-- the object super() -/
theorem super_base {pins : List (Addr × Obj)} {s : Shared} {σ : L2.St} {H : Hp} {whole : Sem Value} {a dx : Addr} {fs : List (Str × V)} {Q : Value → Shared → Prop}
    (I : Inv X pins σ H s) (S : SupOf X.prog X.K f cda cc D C f2 x) (hfu : X.env.func = some f) (hco : X.env.code = .ref cda) (hcl : X.env.cells.lookup ("__class__" : Str) = some cc)
    (hks : X.env.kindOf "super" = some .globalImplicit) (hkc : X.env.kindOf "__class__" = some .free) (hkx : X.env.kindOf x = some .local) (hm : X.mg "super" = none) (hN : X.N[i]? = some x)
    (hs : σ[i]? = some (some (.ref a))) (ha : H a = some (.ins C dx fs))
    (h : ∀ s', Inv X pins σ H s' → s'.heap.get? s.heap.objs.size = some { cls := .type "super", dict := none, data := .fields #[.ref D, .ref a, .ref C], slots := #[] } → Q (.ref s.heap.objs.size) s') :
    _root_.PySem.wpAt (model X.prog X.w) X.A (.func body X.env) (attributeBase (.Call (.Name "super" p0) [] [] p1) "__init__" X.env whole) Q X.xe s := by
  obtain ⟨oc, od, fd, sl, ar, lk, hp, hx⟩ := S.fn
  obtain ⟨oc2, od2, vs, sl2, file, tf, lk2, hv, hfile⟩ := S.code
  obtain ⟨oc3, od3, sl3, lk3⟩ := S.cell
  obtain ⟨cdD, hD⟩ := S.isc
  have inK := I.kIn
  obtain ⟨oD, hD1, hD2⟩ := cls_at inK hD
  obtain ⟨mb, b1, b2⟩ := I.mod.blt
  obtain ⟨m, hn, hl⟩ := I.loc
  obtain ⟨u, ru, hlook⟩ := hl i x _ hN hs (.inl hkx)
  obtain rfl : u = Value.ref a := ru
  have hmx : m x = some (.ref a) := by
    rcases hlook with ⟨_, z⟩ | ⟨z, _⟩
    · exact z
    · rw [hkx] at z
      rcases z with z | z <;> cases z
  have hob : s.heap.get? a = some (PySem.W.instObj C dx) := (show ObjOk X.prog X.w H s.heap a (.ins C dx fs) from I.hok a _ ha).2.2.2.1
  refine ks_wpAt_super_base hks hkc (by decide) hfu (inK _ _ lk) rfl hp hco (inK _ _ lk2) rfl hv hfile S.top ?_
  refine PySem.W.ks_loadName_global I.ok.kind hks (Calls.loadGlobal_builtin (by rw [I.ok.glob]; exact I.mod.glob.keeps I.bk) hm (by rw [I.ok.blt]; exact b1.keeps I.bk) ((b2 "super" (by decide)).trans (by first | rfl | decide +kernel)) ⟨rfl, ?_⟩)
  refine wpAny_loadName_free I.ok.kind hkc hcl ⟨_, inK _ _ lk3, rfl⟩ ?_
  rw [hx]
  refine wpAny_loadName_local I.ok.kind hkx hn hmx ?_
  obtain ⟨hh, g, d, tk, os⟩ := s
  refine ks_wpAny_isType_cls hD1 hD2 ⟨rfl, ?_⟩
  refine ks_wpAny_call_super hD1 hD2 hob rfl (fun c z => nomatch z) (PySem.W.looks_mroIn inK S.sub) fun h' e1 kp => ?_
  exact h _ (I.kept (t' := tk) kp) e1
/-- super().__init__(e, ..) -/
theorem psa_super (S : SupOf X.prog X.K f cda cc D C f2 x) (F : FnR X.prog X.w X.K X.mg X.base CX k f2 sp) (hr : Room k X.A) (hx : Passes CX X E) (hfu : X.env.func = some f) (hco : X.env.code = .ref cda) (hcl : X.env.cells.lookup ("__class__" : Str) = some cc)
    (hks : X.env.kindOf "super" = some .globalImplicit) (hkc : X.env.kindOf "__class__" = some .free) (hkx : X.env.kindOf x = some .local) (hm : X.mg "super" = none) (hN : X.N[i]? = some x) (ha : PA X (e :: es) t)
    (hst : starEach (e :: es) X.env = (false, eval e X.env) :: starEach es X.env := by rfl) (hpl : (backTo pos (starEach es X.env)).any (·.1) = false := by rfl)
    (ht : eval (.Call (.Attribute (.Call (.Name "super" p0) [] [] p1) "__init__" apos) (e :: es) [] pos) X.env = (do
      let ov ← attributeBase (.Call (.Name "super" p0) [] [] p1) "__init__" X.env (eval (.Call (.Name "super" p0) [] [] p1) X.env)
      standAt apos.atName
      let (f, first) ← holding [ov] (getMethod ov "__init__" pl)
      callWith pos f first (backTo pos (starEach (e :: es) X.env)) []) := by rfl)
    (hw : swapsWith (.Call (.Attribute (.Call (.Name "super" p0) [] [] p1) "__init__" apos) (e :: es) [] pos) none spos.line X.env = pure false := by rfl) :
    PSa X body (.Expr (.Call (.Attribute (.Call (.Name "super" p0) [] [] p1) "__init__" apos) (e :: es) [] pos) spos) (tSup i C sp E t) := by
  refine ⟨fun pins s σ H Dn I h => ?_⟩
  obtain ⟨a, dx, fs, h1, h2, q⟩ := h
  refine ks_wpAt_Expr_any (ks_wpAt_MethodCall (pl := pl) (super_base I S hfu hco hcl hks hkc hkx hm hN h1 h2 fun s1 I1 hso => ?_) ht) I.quiet hw
  obtain ⟨cdC, hC⟩ := S.isC
  have inK := I1.kIn
  have hob : s1.heap.get? a = some (PySem.W.instObj C dx) := (show ObjOk X.prog X.w H s1.heap a (.ins C dx fs) from I1.hok a _ h2).2.2.2.1
  obtain ⟨oC, hC1, hC2⟩ := cls_at inK hC
  have hne : a ≠ C := fun z => by
    rw [z, hC1] at hob
    rw [Option.some.inj hob] at hC2
    cases hC2
  obtain ⟨of, hof, hofc⟩ : ∃ of, s1.heap.get? f2 = some of ∧ of.cls = .type "function" := by
    have ht' : (X.K.lookup f2).map (·.cls) = some (.type "function") := S.ty
    cases z : X.K.lookup f2 with
    | none =>
      rw [z] at ht'
      cases ht'
    | some of =>
      rw [z] at ht'
      exact ⟨of, inK _ _ z, Option.some.inj ht'⟩
  have hsup := S.sup
  unfold PySem.W.ks_superIn at hsup
  rw [hC] at hsup
  obtain ⟨hh, g, d, tk, os⟩ := s1
  refine ks_wpAny_getMethod_super hso (PySem.W.looks_opaque inK S.thd) (l₀ := cdC.mro) ((PySem.W.looks_clsIn inK hC).andThen .now) rfl inK hsup hof hofc hne (by decide) ?_
  have I2 := ClX.met_new (g := f2) (C := a) I1
  refine ClX.callwith_cm I2 (ClX.base_none I1 (Nat.le_refl _)) S.fi (thn (ha.run pos _ _ σ H _ I2 q) fun us s3 ⟨vs, H3, I3, r3, q3⟩ => ⟨⟨ClX.pin_at I3, I3.kIn⟩, ?_⟩) hst hpl
  refine thn (ClX.run_cm F hr hx I3 r3 q3) fun _ _ y => ?_
  obtain ⟨v, H4, I4, _, q4⟩ := y
  exact ⟨σ, H4, I4, q4⟩
end

/-! ### the method -/
/-- THE RULE: a method that captures __class__ (it says super()), by its body -/
theorem fnx_of {CX : CXT} {P : Program} {w : World} {K : PySem.W.Frag} {mg : Str → Option Value} {base : Heap} {k : Nat} {f cda cc : Addr} {name qual : Str} {params : Arguments} {body : List Stmt} {scope : Scope} {dV kV doc pm ct oc : Value} {an od : Option Addr}
    {osl : Array (Option Value)} {N ps : List Str} {sp : Sp} (lk : K.lookup f = some ⟨oc, od, .func (PySem.W.ksFn name qual params body scope dV kV doc pm an (.ref cda) ct cc), osl⟩) (hcd : PySem.W.codeIn K (.ref cda) qual = true)
    (hcell : ∃ oc od sl v, K.lookup cc = some ⟨oc, od, .cell v, sl⟩) (S : NScope N ps ["__class__"] scope) (len : ∀ vs H Q E, sp vs H Q E → vs.length = ps.length)
    (hbody : ∀ (A : Around) (outer : List Env) (s : Shared) (H : Hp) (vs : List V) (Q : VK) (E : XK), Room k (A.deeper (envF ⟨name, qual, params, body, scope, [("__class__", cc)], cda⟩ f s.heap.objs.size)) → sp vs H Q E →
      ∃ t, PSsa (ncx CX P w K mg base N ⟨name, qual, params, body, scope, [("__class__", cc)], cda⟩ f A outer s H E) body body t ∧ t { nx := fun _ H' => Q .non H', rt := Q } (startF N vs [none]) H) :
    FnOk P w K mg base CX (k + 1) f (PySem.W.ksFn name qual params body scope dV kV doc pm an (.ref cda) ct cc) ps sp := by
  refine ⟨len, fun A outer s H args us vs Q E hr e0 hb r hsp => ?_⟩
  have hl := len _ _ _ _ hsp
  have inK : K.In s.heap := e0.mod.kin.keeps fun b o e => (e0.bs b o e).1
  have lim : s.heap.NoLimit := e0.mod.nolimit.keeps fun b o e => (e0.bs b o e).1
  obtain ⟨oc3, od3, sl3, v3, lk3⟩ := hcell
  have C : CellsAt [(("__class__" : Str), cc)] ["__class__"] [none] s.heap H := by
    have one : ∀ {y : Str} {c : Addr}, List.lookup y [(("__class__" : Str), cc)] = some c → y = "__class__" ∧ c = cc := fun {y c} z => by
      have z2 := PySem.mem_of_lookup z
      rw [List.mem_singleton] at z2
      exact ⟨congrArg Prod.fst z2, congrArg Prod.snd z2⟩
    refine ⟨rfl, fun y c z => ?_, fun y y' c z z' => (one z).1.trans (one z').1.symm, fun i y z => ?_⟩
    · obtain ⟨_, rfl⟩ := one z
      exact ⟨(e0.bs _ _ (e0.mod.kin _ _ lk3)).2, v3, _, inK _ _ lk3, rfl⟩
    · have hy : y = "__class__" := by
        have z2 := List.mem_of_getElem? z
        rw [List.mem_singleton] at z2
        exact z2
      subst hy
      refine ⟨cc, by simp [List.lookup], fun v z => ?_⟩
      cases i with
      | zero => cases z
      | succ j => cases z
  refine codeAny_call_function hr.depth (inK _ _ lk) rfl S.co S.gen rfl (PySem.W.codeRec_of inK hcd) (hb _ _ _ _ ?_)
  refine wpAny_newFunctionEnv S.nocell (fun ⟨n, _⟩ hy => S.par n (List.of_mem_zip hy).1) (fun h₁ hns hsb => ⟨lim.fresh _ hsb, ?_⟩) S.kind
  show codeAny _ _ (.func body (envF ⟨name, qual, params, body, scope, [("__class__", cc)], cda⟩ f s.heap.objs.size)) _ _
  refine ks_codeAny_funcAt ?_
  have kp : ∀ b o, s.heap.get? b = some o → h₁.get? b = some o := fun b o e => hsb.extBut b o (Nat.ne_of_lt (Heap.lt_size e)) (Heap.get?_push_of_some _ e)
  obtain ⟨t, ht, hq⟩ := hbody A outer s H vs Q E (hr.deeper _) hsp
  have I : Inv (ncx CX P w K mg base N ⟨name, qual, params, body, scope, [("__class__", cc)], cda⟩ f A outer s H E) [] (startF N vs [none]) H { s with heap := h₁, toks := s.toks + (ps.zip us).length } := inv_startN S hr.hd e0 hl r C hns kp
  refine ks_wpAt_mono (ht.run [] _ (startF N vs [none]) H _ I hq) (fun fl s' hs => ?_) fun e s' hs => hs
  have fin : ∀ {σ' : L2.St} {H' : Hp} {v : V} {u : Value}, Inv (ncx CX P w K mg base N ⟨name, qual, params, body, scope, [("__class__", cc)], cda⟩ f A outer s H E) [] σ' H' s' → L2.RelV v u → Q v H' → CE outer P w H s Q u s' :=
    fun {σ' H' v u} J rv q => ⟨v, H', J.os, J.bare, J.base, J.hok, rv, q⟩
  cases fl with
  | ret u =>
    obtain ⟨v, σ', H', J, rv, q⟩ := hs
    exact fin J rv q
  | next =>
    obtain ⟨σ', H', J, q⟩ := hs
    exact fin (v := V.non) (u := Value.none) J rfl q
  | brk =>
    obtain ⟨_, _, _, q⟩ := hs
    exact False.elim q
  | cont =>
    obtain ⟨_, _, _, q⟩ := hs
    exact False.elim q
end G
set_option Elab.async false
set_option linter.all false
set_option maxRecDepth 100000
set_option maxHeartbeats 2000000
/-! P0: isinstance by the kind of a thing. -/
namespace G
open PySem PySem.Spec PyProof.Rows L2
def isI : PyData → Bool
  | .int _ => true
  | .bool _ => true
  | _ => false
def isB : PyData → Bool
  | .bool _ => true
  | _ => false
def isTup : PyData → Bool
  | .tuple _ => true
  | _ => false
def isLst : PyData → Bool
  | .list _ => true
  | _ => false
def isDic : PyData → Bool
  | .dict _ => true
  | _ => false
theorem kit_i {K : PySem.W.Frag} : ∀ d : PyData, PySem.W.kitOne K (.type (tyN d)) (.type "int") = some (isI d)
  | .none => kit_ty (a := "NoneType") (b := "int") (r := false) (by decide +kernel)
  | .bool _ => kit_ty (a := "bool") (b := "int") (r := true) (by decide +kernel)
  | .int _ => kit_ty (a := "int") (b := "int") (r := true) (by decide +kernel)
  | .str _ => kit_ty (a := "str") (b := "int") (r := false) (by decide +kernel)
  | .list _ => kit_ty (a := "list") (b := "int") (r := false) (by decide +kernel)
  | .tuple _ => kit_ty (a := "tuple") (b := "int") (r := false) (by decide +kernel)
  | .dict _ => kit_ty (a := "dict") (b := "int") (r := false) (by decide +kernel)
theorem kit_b {K : PySem.W.Frag} : ∀ d : PyData, PySem.W.kitOne K (.type (tyN d)) (.type "bool") = some (isB d)
  | .none => kit_ty (a := "NoneType") (b := "bool") (r := false) (by decide +kernel)
  | .bool _ => kit_ty (a := "bool") (b := "bool") (r := true) (by decide +kernel)
  | .int _ => kit_ty (a := "int") (b := "bool") (r := false) (by decide +kernel)
  | .str _ => kit_ty (a := "str") (b := "bool") (r := false) (by decide +kernel)
  | .list _ => kit_ty (a := "list") (b := "bool") (r := false) (by decide +kernel)
  | .tuple _ => kit_ty (a := "tuple") (b := "bool") (r := false) (by decide +kernel)
  | .dict _ => kit_ty (a := "dict") (b := "bool") (r := false) (by decide +kernel)
theorem kit_t {K : PySem.W.Frag} : ∀ d : PyData, PySem.W.kitOne K (.type (tyN d)) (.type "tuple") = some (isTup d)
  | .none => kit_ty (a := "NoneType") (b := "tuple") (r := false) (by decide +kernel)
  | .bool _ => kit_ty (a := "bool") (b := "tuple") (r := false) (by decide +kernel)
  | .int _ => kit_ty (a := "int") (b := "tuple") (r := false) (by decide +kernel)
  | .str _ => kit_ty (a := "str") (b := "tuple") (r := false) (by decide +kernel)
  | .list _ => kit_ty (a := "list") (b := "tuple") (r := false) (by decide +kernel)
  | .tuple _ => kit_ty (a := "tuple") (b := "tuple") (r := true) (by decide +kernel)
  | .dict _ => kit_ty (a := "dict") (b := "tuple") (r := false) (by decide +kernel)
theorem kit_l {K : PySem.W.Frag} : ∀ d : PyData, PySem.W.kitOne K (.type (tyN d)) (.type "list") = some (isLst d)
  | .none => kit_ty (a := "NoneType") (b := "list") (r := false) (by decide +kernel)
  | .bool _ => kit_ty (a := "bool") (b := "list") (r := false) (by decide +kernel)
  | .int _ => kit_ty (a := "int") (b := "list") (r := false) (by decide +kernel)
  | .str _ => kit_ty (a := "str") (b := "list") (r := false) (by decide +kernel)
  | .list _ => kit_ty (a := "list") (b := "list") (r := true) (by decide +kernel)
  | .tuple _ => kit_ty (a := "tuple") (b := "list") (r := false) (by decide +kernel)
  | .dict _ => kit_ty (a := "dict") (b := "list") (r := false) (by decide +kernel)
theorem kit_d {K : PySem.W.Frag} : ∀ d : PyData, PySem.W.kitOne K (.type (tyN d)) (.type "dict") = some (isDic d)
  | .none => kit_ty (a := "NoneType") (b := "dict") (r := false) (by decide +kernel)
  | .bool _ => kit_ty (a := "bool") (b := "dict") (r := false) (by decide +kernel)
  | .int _ => kit_ty (a := "int") (b := "dict") (r := false) (by decide +kernel)
  | .str _ => kit_ty (a := "str") (b := "dict") (r := false) (by decide +kernel)
  | .list _ => kit_ty (a := "list") (b := "dict") (r := false) (by decide +kernel)
  | .tuple _ => kit_ty (a := "tuple") (b := "dict") (r := false) (by decide +kernel)
  | .dict _ => kit_ty (a := "dict") (b := "dict") (r := true) (by decide +kernel)
def isS : PyData → Bool
  | .str _ => true
  | _ => false
theorem kit_s {K : PySem.W.Frag} : ∀ d : PyData, PySem.W.kitOne K (.type (tyN d)) (.type "str") = some (isS d)
  | .none => kit_ty (a := "NoneType") (b := "str") (r := false) (by decide +kernel)
  | .bool _ => kit_ty (a := "bool") (b := "str") (r := false) (by decide +kernel)
  | .int _ => kit_ty (a := "int") (b := "str") (r := false) (by decide +kernel)
  | .str _ => kit_ty (a := "str") (b := "str") (r := true) (by decide +kernel)
  | .list _ => kit_ty (a := "list") (b := "str") (r := false) (by decide +kernel)
  | .tuple _ => kit_ty (a := "tuple") (b := "str") (r := false) (by decide +kernel)
  | .dict _ => kit_ty (a := "dict") (b := "str") (r := false) (by decide +kernel)
/-- isinstance(x, int), by name -/
theorem pt_isi {X : Cx} {y : Str} {py : Pos} {te : TE} {n : Str} {p q pos : Pos} (T : String) (he : PE X (.Name y py) te) (hg : Gl X "isinstance" := by rfl) (hm : X.mg "isinstance" = none) (gn : Gl X n := by rfl) (mn : X.mg n = none) (hv : bootBuiltins n = some (.type T) := by decide +kernel)
    (hn : n ≠ "__name__" := by decide) (hd : (n == ("__debug__" : Str)) = false := by decide) :
    PE X (.Call (.Name "isinstance" p) [.Name y py, .Name n q] [] pos) (tCB (rIsi X.K) (tCons te (tCons (tC (.ty T)) tNil))) :=
  pe_callB call_isi hg hm (by decide +kernel) (pa_cons he (pa_cons (pe_bltn gn mn hv rfl hn hd) pa_nil))

end G
set_option Elab.async false
set_option linter.all false
set_option maxRecDepth 100000
set_option maxHeartbeats 2000000
/-! W1: checks that pass. -/
namespace G
open PySem PySem.Spec PyProof.Rows L2 NdefX
abbrev sIsInt : Stmt := topS 11
abbrev sIsName : Stmt := topS 12
theorem scIsInt : FnScope ["value", "low", "high"] ["value", "low", "high"] (defScope sIsInt) := ⟨rfl, rfl, rfl, by decide +kernel, rfl, by decide +kernel, by decide +kernel⟩
theorem scIsName : FnScope ["value", "letter"] ["value"] (defScope sIsName) := ⟨rfl, rfl, rfl, by decide +kernel, rfl, by decide +kernel, by decide +kernel⟩
def spIsInt : Sp := fun vs H Q _ => ∃ v lo hi : Int, vs = [.int v, .int lo, .int hi] ∧ Q (.bl (decide (lo ≤ v) && decide (v ≤ hi))) H
def spIsName : Sp := fun vs H Q _ => ∃ z : Str, vs = [.str z] ∧ NameZ z ∧ ∀ H', Same H H' → Q (.bl true) H'
section
variable {P : Program} {w : World} {K : PySem.W.Frag} {mg : Str → Option Value} {base : Heap}
theorem ok_isint {f : Addr} {fd : FuncData} (F : Fun K "is_integer" "is_integer" sIsInt f fd) (mi : mg "isinstance" = none) (mn : mg "int" = none) (mb : mg "bool" = none) : FnOk P w K mg base CX0 1 f fd ["value", "low", "high"] spIsInt := by
  refine F.ok scIsInt (fun vs H Q E h => ?_) (fun cdv A outer s H vs Q E hr h => ?_)
  · obtain ⟨v, lo, hi, rfl, _⟩ := h
    rfl
  · obtain ⟨v, lo, hi, rfl, q⟩ := h
    refine ⟨_, pss_cons (ps_if (PW.pt (pw_or (pt_not (pt_val (pt_isi "int" (pv 0) (hm := mi) (mn := mn)))) (pw_or1 (pt_val (pt_isi "bool" (pv 0) (hm := mi) (mn := mb)))))) (pss_one (ps_ret pe_bl)) pss_nil)
      (pss_one (ps_ret (pe_chain op_le op_le (pv 1) (pv 0) (pv 2)))), ?_⟩
    have hR : Rp K H (.int v) (.int v) := .int v
    refine ⟨_, rfl, _, _, _, _, _, rfl, .ty _, rp_ty hR, kit_i (.int v), _, rfl, iteF ?_⟩
    refine ⟨_, rfl, _, _, _, _, _, rfl, .ty _, rp_ty hR, kit_b (.int v), _, rfl, iteF ?_⟩
    refine ⟨_, rfl, _, rfl, _, _, rfl, rfl, _, rfl, ?_⟩
    cases e : decide (lo ≤ v) with
    | false =>
      refine iteF ?_
      rw [e] at q
      exact q
    | true =>
      refine iteT ?_
      rw [e] at q
      exact ⟨_, rfl, _, _, rfl, rfl, q⟩
theorem ok_isname {f : Addr} {fd : FuncData} {t1 t2 : Tok} (F : Fun K "is_name" "is_name" sIsName f fd) (gM : mg "MOST_LETTERS" = some (.int 8 t1)) (gL : mg "LETTERS" = some (.str abc t2)) (mi : mg "isinstance" = none) (ms : mg "str" = none) (ml : mg "len" = none) (ma : mg "all" = none) :
    FnOk P w K mg base CX0 1 f fd ["value"] spIsName := by
  refine F.ok scIsName (fun vs H Q E h => ?_) (fun cdv A outer s H vs Q E hr h => ?_)
  · obtain ⟨z, rfl, _⟩ := h
    rfl
  · obtain ⟨z, rfl, ⟨hz, h1, h8⟩, q⟩ := h
    refine ⟨_, pss_cons (ps_if (PW.pt (pw_or (pt_not (pt_val (pt_isi "str" (pv 0) (hm := mi) (mn := ms)))) (pw_or1 (pt_not (pt_chain op_le op_le pe_int (pe_callB call_len_str (by rfl) ml PySem.boot_len (pa_cons (pv 0) pa_nil)) (pe_glob (v := .int 8) rfl gM ⟨_, rfl⟩))))))
        (pss_one (ps_ret pe_bl)) pss_nil)
      (pss_one (ps_ret (pe_callB (cr_all rfl) (by rfl) ma (by decide +kernel) (pa_cons (pe_lc (own := [("letter", 1)]) (g := gName 1) (tt := tYes) (by rfl) scIsName.nd (pi_str (pv 0))
        (blkOk_by (own := [("letter", 1)]) (N := ["value", "letter"]) (sc := defScope sIsName) (by decide +kernel)) (fun _ _ _ _ _ => pg_name (i := 1) scIsName.nd rfl (.inl rfl)) (fun _ _ _ _ _ => pts_nil)
        (fun _ _ _ _ _ => pe_cmpR op_in_sign (pv 1) (pe_glob (v := .str abc) rfl gL ⟨_, rfl⟩) (by rfl))) pa_nil)))), ?_⟩
    have hR : Rp K H (.str z) (.str z) := .str z
    refine ⟨_, rfl, _, _, _, _, _, rfl, .ty _, rp_ty hR, kit_s (.str z), _, rfl, iteF ?_⟩
    refine ⟨_, rfl, z, rfl, small_size (by omega), _, _, rfl, rfl, _, rfl, ?_⟩
    rw [decide_eq_true (show (1 : Int) ≤ (z.length : Int) by omega)]
    refine iteT ⟨_, _, rfl, rfl, _, rfl, ?_⟩
    rw [decide_eq_true (show (z.length : Int) ≤ 8 by omega)]
    refine iteF ?_
    refine ⟨_, rfl, z, rfl, fun D hD => ?_⟩
    refine lc_it walk_str (fun i H2 => Same H H2 ∧ H2 D = some (.lst ((List.replicate i true).map V.bl))) ?_ ?_ ?_ ?_
    · exact ⟨Same.new hD, upd_same⟩
    · exact fun _ _ _ _ => trivial
    · rintro i x H2 H3 hi ⟨s2, e2⟩ ⟨rfl, c, hc, rfl⟩
      have hc2 : (cs z)[i]? = some c := by
        rw [← hc, ← Array.getElem?_toList]
      have hzs : z.cps.size = z.length := rfl
      have c97 := hz c (List.mem_of_getElem? hc2)
      refine ⟨rfl, ?_⟩
      unfold tYes
      dsimp only
      rw [if_pos rfl]
      refine ⟨_, rfl, c, _, rfl, rfl, _, e2, ?_, fun a o e => ?_, ?_⟩
      · rw [List.length_map, List.length_replicate]
        exact Nat.lt_of_lt_of_le hi (small_size (by omega))
      · rw [upd_ne (ne_of_none e hD)]
        exact s2 _ _ e
      · have hin : decide (c ∈ abc.cps.toList) = true := decide_eq_true (by
          have e : abc.cps.toList = (List.range 26).map (97 + ·) := by decide +kernel
          rw [e]
          exact List.mem_map.mpr ⟨c - 97, List.mem_range.mpr (by omega), by omega⟩)
        rw [upd_same, hin, List.replicate_succ', List.map_append]
        rfl
    · rintro H2 ⟨s2, e2⟩
      refine ⟨D, _, rfl, .of e2, ?_⟩
      have ha : (List.replicate z.cps.size true).all id = true := by
        rw [List.all_eq_true]
        intro x hx
        rw [(List.mem_replicate.mp hx).2]
        rfl
      rw [ha]
      exact q H2 s2
end
end G
set_option Elab.async false
set_option linter.all false
set_option maxRecDepth 100000
set_option maxHeartbeats 2000000
/-! Q1: == and != by an own __eq__ with both answers, the right side of any kind. -/
namespace G
open PySem PySem.Spec PyProof.Rows L2
open Builtin in
theorem entry_ne {prog : Program} {w : World} {A : Around} {E : Value → Shared → Prop} {s : Shared} {K : PySem.W.Frag} {x C f : Addr} {ox : Obj} {od : Option Obj} {b : Value} {Q : Fin → Shared → Prop}
    (X : K.In s.heap) (I : PySem.W.InstAt s.heap x ox C od) (hu : A.units < cLine) (hs : PySem.W.findIn K (.ref C) "__eq__" = some (some (.ref f))) (hf : PySem.W.isFn K (.ref f) = true)
    (hcall : wpAny (model prog w) A (call (.ref f) [.ref x, b]) (fun v s' => ∃ k, v = .bool k ∧ Q (.done (.ret (.bool (!k)))) s') E s) :
    wpAny (model prog w) A (Builtin.«object.__ne__» ⟨[.ref x, b], []⟩) Q E s := by
  unfold Builtin.«object.__ne__»
  repeat (first
    | with_reducible refine wpAny_cRoomFor hu ?_
    | (refine wpAny_bind (m := callSpecialIfBound? (.ref x) (Str.ofString "__eq__") [b])
        (PySem.W.ifBound_K X I hs hf (wpAny_mono hcall (fun r s' hr => by
          obtain ⟨k, rfl, hq⟩ := hr
          repeat (first | exact hq | exact wpAny_pure hq | exact wpAny_truthy_bool hq | (refine wpAny_bind (m := truthy (.bool _)) (wpAny_truthy_bool ?_)) | wp_step)) fun _ _ e => e)))
    | wp_step)
/-- what == and != ask of the class at C -/
structure EqO (K : PySem.W.Frag) (C f : Addr) : Prop where
  eq : PySem.W.findIn K (.ref C) "__eq__" = some (some (.ref f))
  fn : PySem.W.isFn K (.ref f) = true
  ne : PySem.W.findIn K (.ref C) "__ne__" = some (some (.builtin "object.__ne__"))
  ob : PySem.W.mroIn K C (.type "object") = some true
theorem ne_K {prog : Program} {w : World} {A : Around} {E : Value → Shared → Prop} {s : Shared} {K : PySem.W.Frag} {x C L f : Addr} {h₀ : Heap} {m : Str → Option Value} {ox : Obj} {od : Option Obj} {b tb : Value} {Q : Value → Shared → Prop} (hu : A.units + 1 < cLine) (hFr : Fr h₀ L s.heap m) (X₀ : K.In h₀)
    (I : PySem.W.InstAt s.heap x ox C od) (hb : PySem.W.Looks (model prog w) s.heap (typeOf b) tb) (hn : PySem.W.notFirst K C tb = true) (e : EqO K C f)
    (h : wpAny (model prog w) A.in1 (call (.ref f) [.ref x, b]) (fun v s' => ∃ k, v = .bool k ∧ Q (.bool (!k)) s') E s) : wpAny (model prog w) A (richCompare .NotEq (.ref x) b) Q E s := by
  have X := X₀.keeps hFr.keep
  have sp : PySem.W.Looks (model prog w) s.heap (specialOf (.ref x) "__ne__") (some (.builtin "object.__ne__")) := I.type.andThen (PySem.W.looks_findIn X e.ne)
  have iv : PySem.W.Looks (model prog w) s.heap (isInstance (.ref x) (.type "object")) true := I.type.andThen (PySem.W.looks_mroIn X e.ob)
  have one : wpAny (model prog w) A (tryCompare (.ref x) "__ne__" b) (fun r s' => ∃ v, r = some v ∧ Q v s') E s := by
    unfold tryCompare
    refine wpAny_bind (NtL.csib sp (F.cmp_object.ne.bind _) (wpAny_call (codeAny_call_builtin F.cmp_object.ne.plain F.cmpEntry_ne
      (PySem.W.check_slot F.cmpKind_ne F.cmpSplit_ne iv (F.cmpArgs_ne _ _) (entry_ne (A := A.in1) X I hu e.eq e.fn (wpAny_mono h (fun v s' hv => ?_) fun _ _ z => z))))))
    obtain ⟨k, rfl, hq⟩ := hv
    first | exact ⟨k, rfl, wpAny_pure ⟨_, rfl, hq⟩⟩ | exact ⟨k, rfl, _, rfl, hq⟩
  unfold richCompare
  simp only [oneThing_ref]
  refine wpAny_holding (wpAny_bind (wpAny_cRoomFor (Nat.lt_of_succ_lt hu) ?_))
  rw [cmpInfo_NotEq]
  dsimp only
  refine wpAny_bind (I.type.here (wpAny_bind (hb.here ?_)))
  split
  · rename_i q
    have e : PySem.W.subIn K tb (.ref C) = some false := by
      rcases Bool.or_eq_true_iff.mp hn with e | e
      · rw [beq_iff_eq.mp e] at q; simp at q
      · exact beq_iff_eq.mp e
    refine wpAny_bind ((PySem.W.looks_subIn X e).here ?_)
    simp only [Bool.false_eq_true, if_false]
    refine wpAny_bind (wpAny_mono one (fun r s' z => ?_) fun _ _ e => e)
    obtain ⟨v, rfl, hq⟩ := z
    exact wpAny_pure hq
  · refine wpAny_bind (wpAny_pure ?_)
    simp only [Bool.false_eq_true, if_false]
    refine wpAny_bind (wpAny_mono one (fun r s' z => ?_) fun _ _ e => e)
    obtain ⟨v, rfl, hq⟩ := z
    exact wpAny_pure hq
/-- the kinds of things on the right -/
inductive Oth (H : Hp) : V → Value → Prop where
  | non : Oth H .non (.type "NoneType")
  | int (i : Int) : Oth H (.int i) (.type "int")
  | str (z : Str) : Oth H (.str z) (.type "str")
  | lst {a : Addr} {xs : List V} (e : H a = some (.lst xs)) : Oth H (.ref a) (.type "list")
  | tup {a : Addr} {xs : List V} (e : H a = some (.tup xs)) : Oth H (.ref a) (.type "tuple")
  | ins {a C dx : Addr} {fs : List (Str × V)} (e : H a = some (.ins C dx fs)) : Oth H (.ref a) (.ref C)
  | dic {a : Addr} {ks : List (Key × V)} (e : H a = some (.dK ks)) : Oth H (.ref a) (.type "dict")
theorem insX_at {X : Cx} {pins : List (Addr × Obj)} {σ : L2.St} {H : Hp} {s : Shared} {a C dx : Addr} {fs : List (Str × V)} (I : Inv X pins σ H s) (h : H a = some (.ins C dx fs)) : ∃ ox od, PySem.W.InstAt s.heap a ox C od := by
  obtain ⟨mA, O, _⟩ := ins_get I.hok h
  obtain ⟨od, J, _⟩ := O.look
  exact ⟨_, _, J⟩
theorem oth_looks {X : Cx} {pins : List (Addr × Obj)} {σ : L2.St} {H : Hp} {s : Shared} {x : V} {u t : Value} (I : Inv X pins σ H s) (rx : RelV x u) (o : Oth H x t) (M : Model) : PySem.W.Looks M s.heap (typeOf u) t := by
  cases o with
  | non => cases (show u = Value.none from rx); exact .of_pure rfl
  | int i => obtain ⟨t, q⟩ := (show ∃ t, u = Value.int i t from rx); cases q; exact .of_pure rfl
  | str y => obtain ⟨t, q⟩ := (show ∃ t, u = Value.str y t from rx); cases q; exact .of_pure rfl
  | @lst a xs ea =>
    cases (show u = Value.ref a from rx)
    obtain ⟨_, _, n, _, h1⟩ := (show ObjOk X.prog X.w H s.heap a (.lst xs) from I.hok a _ ea)
    exact (PySem.W.Looks.ld h1).andThen .now
  | @tup a xs ea =>
    cases (show u = Value.ref a from rx)
    obtain ⟨_, _, _, o, h1, h2, _⟩ := (show ObjOk X.prog X.w H s.heap a (.tup xs) from I.hok a _ ea)
    rw [← h2]
    exact (PySem.W.Looks.ld h1).andThen .now
  | @ins a C dx fs ea =>
    cases (show u = Value.ref a from rx)
    obtain ⟨ox, od, J⟩ := insX_at I ea
    exact J.type
  | @dic a ks ea =>
    cases (show u = Value.ref a from rx)
    obtain ⟨_, _, _, _, o, _, _, h1, h2, _⟩ := (show ObjOk X.prog X.w H s.heap a (.dK ks) from I.hok a _ ea)
    rw [← h2.1]
    exact (PySem.W.Looks.ld h1).andThen .now
section
variable {X : Cx} {C g : Addr} {fd : FuncData} {ps : List Str} {n : Nat} {sp : Sp} {E : XK}
def rEqB (K : PySem.W.Frag) (C : Addr) (sp : Sp) (E : XK) (pos : Bool) : R2 := fun x y H Q => ∃ a dx fs t, x = .ref a ∧ H a = some (.ins C dx fs) ∧ Oth H y t ∧ PySem.W.notFirst K C t = true ∧ sp [x, y] H (fun v H' => ∃ k : Bool, v = .bl k ∧ Q (.bl (cond pos k (!k))) H') E
theorem op_eqB (e : EqO X.K C g) (hb : Binds X.K fd ps []) (F : FnOk X.prog X.w X.K X.mg X.base CX0 n g fd ps sp) (hr : Room n X.A) (hx : Passes CX0 X E) : OpR X (compareOp .Eq) (rEqB X.K C sp E true) := by
  intro pins s σ H x y v u Q I rx ry h
  obtain ⟨a, dx, fs, t, rfl, ha, ho, hn, q⟩ := h
  cases (show v = Value.ref a from rx)
  obtain ⟨ox, od, J⟩ := insX_at I ha
  obtain ⟨m, hF⟩ := I.fr
  refine PySem.W.cmp_K (op := .Eq) hr.units0 hF I.ok.mod.kin J (oth_looks I ry ho _) hn e.eq e.fn ?_
  refine wpAny_mono (run_fn (us := [.ref a, u]) (vs := [.ref a, y]) F hr hb .nil hx I (.cons rfl (.cons ry .nil)) q) (fun w s' z => ?_) fun _ _ x => x
  obtain ⟨z', H', I', rz, k, rfl, qz⟩ := z
  exact SlX.cmpback rz ⟨.bl k, H', I', rz, qz⟩
theorem op_neB (e : EqO X.K C g) (hb : Binds X.K fd ps []) (F : FnOk X.prog X.w X.K X.mg X.base CX0 n g fd ps sp) (hr : Room (n + 1) X.A) : OpR X (compareOp .NotEq) (rEqB X.K C sp E false) := by
  intro pins s σ H x y v u Q I rx ry h
  obtain ⟨a, dx, fs, t, rfl, ha, ho, hn, q⟩ := h
  cases (show v = Value.ref a from rx)
  obtain ⟨ox, od, J⟩ := insX_at I ha
  obtain ⟨m, hF⟩ := I.fr
  refine ne_K (by have := hr.units; omega) hF I.ok.mod.kin J (oth_looks I ry ho _) hn e ?_
  have hl : ([Value.ref a, u] ++ []).length = ps.length := by
    have := F.len _ _ _ _ q
    exact this
  refine wpAny_call (codeAny_mono (F.run X.A.in1 X.stack s H ⟨[.ref a, u], []⟩ ([.ref a, u] ++ []) [.ref a, y] _ E hr.in1 I.env0.in1 (hb s [.ref a, u] I.kIn hl) (.cons rfl (.cons ry .nil)) q) fun r s' hq => ?_)
  cases r with
  | error e => exact False.elim hq
  | ok fl =>
    cases fl with
    | ret u =>
      obtain ⟨v, H', I2, rv, k, rfl, q⟩ := I.after hq
      obtain rfl : u = Value.bool k := rv
      exact ⟨k, rfl, .bl (!k), H', I2, rfl, q⟩
    | next => exact False.elim hq
    | brk => exact False.elim hq
    | cont => exact False.elim hq
end
end G
set_option Elab.async false
set_option linter.all false
set_option maxRecDepth 100000
set_option maxHeartbeats 2000000
/-! R1: methods, calls and operators of an instance whose class is not known ahead; super().__init__(*xs). -/
namespace G
open PySem PySem.Spec PyProof.Rows L2 NdefX StX

/-- the class at C keeps the promise sp for its method m -/
structure PolyM (P : Program) (w : World) (K : PySem.W.Frag) (mg : Str → Option Value) (base : Heap) (k : Nat) (C : Addr) (m : Str) (sp : Sp) : Prop where
  cl : Cls K C
  ex : ∃ (f : Addr) (fd : FuncData) (ps : List Str), Meth K C m f ∧ Binds K fd ps [] ∧ FnOk P w K mg base CX0 k f fd ps sp
/-- .. for the calls of its instances -/
structure PolyC (P : Program) (w : World) (K : PySem.W.Frag) (mg : Str → Option Value) (base : Heap) (k : Nat) (C : Addr) (sp : Sp) : Prop where
  ex : ∃ (f : Addr) (fd : FuncData) (ps : List Str), CallO K C f ∧ Binds K fd ps [] ∧ FnOk P w K mg base CX0 k f fd ps sp

/-- o.m(e, ..), o an instance of some class that keeps sp -/
def tMethV (X : Cx) (k : Nat) (m : Str) (E : XK) (ta : TE) (t : TA) : TE := fun σ H Q => ta σ H fun x H1 => ∃ (a C dx : Addr) (fs : List (Str × V)) (sp : Sp), x = .ref a ∧ H1 a = some (.ins C dx fs) ∧ PolyM X.prog X.w X.K X.mg X.base k C m sp ∧ fs.lookup m = none ∧ t σ H1 fun vs H2 => sp (.ref a :: vs) H2 Q E
/-- o(e, ..) -/
def tCallV (X : Cx) (k : Nat) (E : XK) (ta : TE) (t : TA) : TE := fun σ H Q => ta σ H fun x H1 => ∃ (a C : Addr) (sp : Sp), x = .ref a ∧ PolyC X.prog X.w X.K X.mg X.base k C sp ∧ t σ H1 fun vs H2 => InsC X H2 a C ∧ sp (.ref a :: vs) H2 Q E
section
variable {X : Cx} {k : Nat} {E : XK} {m : Str} {pos apos : Pos} {e o fe : Expr} {es : List Expr} {ta : TE} {t : TA}
theorem pe_methV {pl : Sem Bool} (he : PE X o ta) (hr : Room k X.A) (hx : Passes CX0 X E) (ha : PA X (e :: es) t)
    (hst : starEach (e :: es) X.env = (false, eval e X.env) :: starEach es X.env := by rfl) (hpl : (backTo pos (starEach es X.env)).any (·.1) = false := by rfl)
    (ht : eval (.Call (.Attribute o m apos) (e :: es) [] pos) X.env = (eval o X.env >>= fun ov => standAt apos.atName >>= fun _ => holding [ov] (getMethod ov m pl) >>= fun q => callWith pos q.1 q.2 (backTo pos (starEach (e :: es) X.env)) (backToKw pos (keywordEach [] X.env))) := by rfl) :
    PE X (.Call (.Attribute o m apos) (e :: es) [] pos) (tMethV X k m E ta t) := by
  refine ⟨fun pins s σ H Q I h => ?_⟩
  refine PySem.W.methodCall_KW (pl := pl) (thn (he.run pins s σ H _ I h) fun u s1 ⟨x, H1, I1, rx, a, C, dx, fs, sp, ex, ea, pm, l, q⟩ => ?_) ht
  subst ex
  obtain rfl : u = Value.ref a := rx
  obtain ⟨f, fd, ps, hm, hb, F⟩ := pm.ex
  refine getmeth_ok I1 ea pm.cl hm l ?_
  refine PySem.W.callWith_K (h₀ := X.base) (first := [.ref a]) I.ok.mod.kin hm.kp (thn (ha.run pos pins s1 σ H1 _ I1 q) fun us s2 ⟨vs, H2, I2, r, q2⟩ => ⟨I2.kIn, ?_⟩) hst hpl
  exact run_fn (us := .ref a :: us) (vs := .ref a :: vs) F hr hb .nil hx I2 (.cons rfl r) (by rw [List.append_nil]; exact q2)
theorem pe_methV0 {pl : Sem Bool} (he : PE X o ta) (hr : Room k X.A) (hx : Passes CX0 X E)
    (ht : eval (.Call (.Attribute o m apos) [] [] pos) X.env = (eval o X.env >>= fun ov => standAt apos.atName >>= fun _ => holding [ov] (getMethod ov m pl) >>= fun q => callWith pos q.1 q.2 (backTo pos (starEach [] X.env)) (backToKw pos (keywordEach [] X.env))) := by rfl) :
    PE X (.Call (.Attribute o m apos) [] [] pos) (tMethV X k m E ta tNil) := by
  refine ⟨fun pins s σ H Q I h => ?_⟩
  refine PySem.W.methodCall_KW (pl := pl) (thn (he.run pins s σ H _ I h) fun u s1 ⟨x, H1, I1, rx, a, C, dx, fs, sp, ex, ea, pm, l, q⟩ => ?_) ht
  subst ex
  obtain rfl : u = Value.ref a := rx
  obtain ⟨f, fd, ps, hm, hb, F⟩ := pm.ex
  refine getmeth_ok I1 ea pm.cl hm l ?_
  exact PySem.W.callWith_K0 (first := [.ref a]) I1.kIn hm.kp (run_fn (us := [.ref a]) (vs := [.ref a]) F hr hb .nil hx I1 (.cons rfl .nil) q)
theorem pe_callV (hf : PE X fe ta) (hr : Room k X.A) (hx : Passes CX0 X E) (ha : PA X (e :: es) t)
    (ht : eval (.Call fe (e :: es) [] pos) X.env = (eval fe X.env >>= fun g => callWith pos g [] (backTo pos (starEach (e :: es) X.env)) (backToKw pos (keywordEach [] X.env))) := by rfl)
    (he : starEach (e :: es) X.env = (false, eval e X.env) :: starEach es X.env := by rfl) (hpl : (backTo pos (starEach es X.env)).any (·.1) = false := by rfl) : PE X (.Call fe (e :: es) [] pos) (tCallV X k E ta t) := by
  refine ⟨fun pins s σ H Q I h => ?_⟩
  refine Call_ (thn (hf.run pins s σ H _ I h) fun u s1 ⟨y, H1, I1, ry, a, C, sp, ey, pc, q⟩ => ?_) ht
  subst ey
  obtain rfl : u = Value.ref a := ry
  obtain ⟨f, fd, ps, c, hb, F⟩ := pc.ex
  refine callO_with (thn (ha.run pos pins s1 σ H1 _ I1 q) fun us s2 ⟨vs, H2, I2, r, hi, q2⟩ => ?_) he hpl
  obtain ⟨ox, od, J, hd⟩ := insC_at I2 hi
  exact ⟨⟨C, ox, od, J, hd⟩, run_callO c (F.raw hb .nil) hr hx I2 hi r (by simpa using q2)⟩
end

/-! ### a sign between two instances of own classes -/
/-- the class at C has the sign's method (and no reflected one) -/
structure OpO (K : PySem.W.Frag) (C : Addr) (op : Operator) (f : Addr) : Prop where
  first : PySem.W.selfFirst K C = true
  at_ : PySem.W.findIn K (.ref C) (PySem.dunder op.info.2) = some (some (.ref f))
  fn : PySem.W.isFn K (.ref f) = true
  ref_ : PySem.W.findIn K (.ref C) (dunderR op.info.2) = some none
theorem bin_own {prog : Program} {w : World} {A : Around} {E : Value → Shared → Prop} {s : Shared} {K : PySem.W.Frag} {x y C C2 f g : Addr} {ox oy : Obj} {od od2 : Option Obj} {op : Operator} {Q : Value → Shared → Prop} (X : K.In s.heap)
    (I : PySem.W.InstAt s.heap x ox C od) (J : PySem.W.InstAt s.heap y oy C2 od2) (o1 : OpO K C op f) (o2 : OpO K C2 op g) (hs : C = C2 ∨ PySem.W.subIn K (.ref C2) (.ref C) = some false)
    (h : wpAny (model prog w) A (call (.ref f) [.ref x, .ref y]) (PySem.W.CmpBack Q) E s) : wpAny (model prog w) A (binaryOp op (.ref x) (.ref y)) Q E s := by
  obtain ⟨cd1, rest1, hc1, hm1⟩ := PySem.W.ksp_first o1.first
  obtain ⟨cd2, rest2, hc2, hm2⟩ := PySem.W.ksp_first o2.first
  have a1 := o1.at_
  have a2 := o2.at_
  have r1 := o1.ref_
  have r2 := o2.ref_
  rcases hi : op.info with ⟨sym, nm⟩
  rw [hi] at a1 a2 r1 r2
  dsimp only at a1 a2 r1 r2
  have one := PySem.W.ksp_try X I a1 o1.fn h
  obtain ⟨hh, gs, d, tt, os⟩ := s
  have L1 : PySem.W.Looks (model prog w) hh (typeOf (.ref x)) (.ref C) := I.type
  have L2 : PySem.W.Looks (model prog w) hh (typeOf (.ref y)) (.ref C2) := J.type
  have L3 : PySem.W.Looks (model prog w) hh (fillsNumberSlot (.ref C) nm) true := PySem.W.fills_K X hc1 hm1 a1
  have L4 : PySem.W.Looks (model prog w) hh (fillsNumberSlot (.ref C2) nm) true := PySem.W.fills_K X hc2 hm2 a2
  have L6 : PySem.W.Looks (model prog w) hh (numberSlotInPython (.ref C) nm) true := PySem.W.ksp_inPy X a1 r1 (.inl rfl)
  have L7 : PySem.W.Looks (model prog w) hh (numberSlotInPython (.ref C2) nm) true := PySem.W.ksp_inPy X a2 r2 (.inl rfl)
  simp only [binaryOp, hi]
  refine wpAny_holding (wpAny_bind ?_)
  unfold binaryOp1
  refine wpAny_bind (L1.at (wpAny_bind (L2.at (wpAny_bind (L3.at ?_)))))
  by_cases e : C = C2
  · have hne : (Value.ref C == Value.ref C2) = true := by
      rw [e]
      exact beq_self_eq_true _
    simp only [hne, if_true]
    ksp_lk
    refine wpAny_mono one (fun r s' hr' => ?_) fun _ _ z => z
    obtain ⟨v, rfl, hq⟩ := hr'
    ksp_lk
    exact hq
  · have hne : (Value.ref C == Value.ref C2) = false := Bool.eq_false_iff.mpr fun q => e (by
      have := beq_iff_eq.mp q
      injection this)
    have hs2 : PySem.W.subIn K (.ref C2) (.ref C) = some false := hs.resolve_left e
    have L5 : PySem.W.Looks (model prog w) hh (isSubtype (.ref C2) (.ref C)) false := PySem.W.looks_subIn X hs2
    simp only [hne, Bool.false_eq_true, if_false]
    ksp_lk
    refine wpAny_mono one (fun r s' hr' => ?_) fun _ _ z => z
    obtain ⟨v, rfl, hq⟩ := hr'
    ksp_lk
    exact hq
theorem insO_at {X : Cx} {pins : List (Addr × Obj)} {σ : L2.St} {H : Hp} {s : Shared} {a C dx : Addr} {fs : List (Str × V)} (I : Inv X pins σ H s) (h : H a = some (.ins C dx fs)) : ∃ ox od, PySem.W.InstAt s.heap a ox C od ∧ ox.data = .plain :=
  insC_at I (.inr ⟨dx, fs, h⟩)
/-- two classes under one sign: what the class at C does with one of the class at C2 -/
structure PolyO (P : Program) (w : World) (K : PySem.W.Frag) (mg : Str → Option Value) (base : Heap) (k : Nat) (C C2 : Addr) (op : Operator) (sp : Sp) : Prop where
  ex : ∃ (f g : Addr) (fd : FuncData) (ps : List Str), OpO K C op f ∧ OpO K C2 op g ∧ (C = C2 ∨ PySem.W.subIn K (.ref C2) (.ref C) = some false) ∧ Binds K fd ps [] ∧ FnOk P w K mg base CX0 k f fd ps sp
def rOwn (X : Cx) (k : Nat) (op : Operator) (sp : Sp) (E : XK) : R2 := fun x y H Q => ∃ a b C C2 dx dy fs gs, x = .ref a ∧ y = .ref b ∧ H a = some (.ins C dx fs) ∧ H b = some (.ins C2 dy gs) ∧ PolyO X.prog X.w X.K X.mg X.base k C C2 op sp ∧
  sp [.ref a, .ref b] H (fun v H' => (∃ r, v = .ref r) ∧ Q v H') E
theorem op_own {X : Cx} {k : Nat} {sp : Sp} {E : XK} (op : Operator) (hr : Room k X.A) (hx : Passes CX0 X E) : OpR X (binaryOp op) (rOwn X k op sp E) := by
  intro pins s σ H x y v u Q I rx ry h
  obtain ⟨a, b, C, C2, dx, dy, fs, gs, rfl, rfl, ha, hb, po, q⟩ := h
  obtain rfl : v = Value.ref a := rx
  obtain rfl : u = Value.ref b := ry
  obtain ⟨f, g, fd, ps, o1, o2, hs, hbd, F⟩ := po.ex
  obtain ⟨ox, od, J1, _⟩ := insO_at I ha
  obtain ⟨oy, od2, J2, _⟩ := insO_at I hb
  refine bin_own I.kIn J1 J2 o1 o2 hs (thn (run_fn (us := [.ref a, .ref b]) (vs := [.ref a, .ref b]) F hr hbd .nil hx I (.cons rfl (.cons rfl .nil)) q) fun r s' z => ?_)
  obtain ⟨v, H', I', rv, ⟨p, rfl⟩, q'⟩ := z
  obtain rfl : r = Value.ref p := rv
  exact ⟨V.ref p, H', I', rfl, q'⟩
/-! ### ~x -/
structure PolyU (P : Program) (w : World) (K : PySem.W.Frag) (mg : Str → Option Value) (base : Heap) (k : Nat) (C : Addr) (sp : Sp) : Prop where
  ex : ∃ (f : Addr) (fd : FuncData) (ps : List Str), PySem.W.findIn K (.ref C) "__invert__" = some (some (.ref f)) ∧ PySem.W.isFn K (.ref f) = true ∧ Binds K fd ps [] ∧ FnOk P w K mg base CX0 k f fd ps sp
def rInv (X : Cx) (k : Nat) (sp : Sp) (E : XK) : V → Hp → VK → Prop := fun x H Q => ∃ a C dx fs, x = .ref a ∧ H a = some (.ins C dx fs) ∧ PolyU X.prog X.w X.K X.mg X.base k C sp ∧ sp [.ref a] H Q E
theorem inv_own {M : Model} {A : Around} {E : Value → Shared → Prop} {s : Shared} {K : PySem.W.Frag} {x C f : Addr} {ox : Obj} {od : Option Obj} {Q : Value → Shared → Prop} (X : K.In s.heap) (I : PySem.W.InstAt s.heap x ox C od)
    (hs : PySem.W.findIn K (.ref C) "__invert__" = some (some (.ref f))) (hf : PySem.W.isFn K (.ref f) = true) (h : wpAny M A (call (.ref f) [.ref x]) Q E s) : wpAny M A (unaryOp .Invert (.ref x)) Q E s := by
  unfold unaryOp
  refine wpAny_holding (wpAny_bind (PySem.W.special_fn X I hs (beq_iff_eq.mp hf) (thn h fun _ _ z => ?_)))
  exact wpAny_pure z
theorem un_own {X : Cx} {k : Nat} {sp : Sp} {E : XK} (hr : Room k X.A) (hx : Passes CX0 X E) : UnR X (unaryOp .Invert) (rInv X k sp E) := by
  intro pins s σ H x v Q I rx h
  obtain ⟨a, C, dx, fs, rfl, ha, pu, q⟩ := h
  obtain rfl : v = Value.ref a := rx
  obtain ⟨f, fd, ps, h1, h2, hb, F⟩ := pu.ex
  obtain ⟨ox, od, J, _⟩ := insO_at I ha
  exact inv_own I.kIn J h1 h2 (run_fn (us := [.ref a]) (vs := [.ref a]) F hr hb .nil hx I (.cons rfl .nil) q)
end G
set_option Elab.async false
set_option linter.all false
set_option maxRecDepth 100000
set_option maxHeartbeats 2000000
/-! O1: x in o, o[i], for x in o, len(o) by a class's own methods. -/
namespace G
open PySem PySem.Spec PyProof.Rows L2
/-- the class at C has its own m, the def at f -/
structure OwnM (K : PySem.W.Frag) (C : Addr) (m : Str) (f : Addr) : Prop where
  at_ : PySem.W.findIn K (.ref C) m = some (some (.ref f))
  fn : PySem.W.isFn K (.ref f) = true
section
variable {prog : Program} {w : World} {A : Around} {E : Value → Shared → Prop} {s : Shared} {K : PySem.W.Frag} {x C f : Addr} {ox : Obj} {od : Option Obj} {y : Value}
theorem in_own {Q : Bool → Shared → Prop} (X : K.In s.heap) (I : PySem.W.InstAt s.heap x ox C od) (e : OwnM K C "__contains__" f) (h : wpAny (model prog w) A (call (.ref f) [.ref x, y]) (fun v s' => ∃ b, v = .bool b ∧ Q b s') E s) :
    wpAny (model prog w) A (contains (.ref x) y) Q E s := by
  have sp : PySem.W.Looks (model prog w) s.heap (specialOf (.ref x) "__contains__") (some (.ref f)) := I.type.andThen (PySem.W.looks_findIn X e.at_)
  have hf := beq_iff_eq.mp e.fn
  unfold contains
  refine wpAny_holding ?_
  show wpAny _ _ (specialOf (.ref x) "__contains__" >>= _) _ _ _
  refine wpAny_bind (sp.here ?_)
  rw [if_neg (show ¬ ((some (Value.ref f) == some Value.none) = true) from Bool.false_ne_true)]
  unfold callSpecialUnlessNone?
  refine wpAny_bind (wpAny_bind (sp.here (wpAny_holding (wpAny_bind ((PySem.W.bind_fn X _ hf).here ?_)))))
  dsimp only
  rw [if_neg (show ¬ ((Value.ref f == Value.none) = true) from Bool.false_ne_true)]
  refine wpAny_bind (wpAny_mono h (fun v s' z => ?_) fun _ _ z => z)
  obtain ⟨b, rfl, q⟩ := z
  exact wpAny_pure (wpAny_truthy_bool q)
end
end G
set_option Elab.async false
set_option linter.all false
set_option maxRecDepth 100000
set_option maxHeartbeats 2000000
/-! O2: rules of x in o, o[i], for x in o. -/
namespace G
open PySem PySem.Spec PyProof.Rows L2 ItX
section
variable {X : Cx} {C g : Addr} {fd : FuncData} {ps : List Str} {n : Nat} {sp : Sp} {E : XK}
/-- x in o -/
def rInO (C : Addr) (sp : Sp) (E : XK) (neg : Bool) : R2 := fun x y H Q => ∃ a dx fs, y = .ref a ∧ H a = some (.ins C dx fs) ∧ sp [y, x] H (fun v H' => ∃ k : Bool, v = .bl k ∧ Q (.bl (cond neg (!k) k)) H') E
theorem in_run (e : OwnM X.K C "__contains__" g) (hb : Binds X.K fd ps []) (F : FnOk X.prog X.w X.K X.mg X.base CX0 n g fd ps sp) (hr : Room n X.A) (hx : Passes CX0 X E) {pins : List (Addr × Obj)} {σ : L2.St} {H : Hp} {s : Shared} {a dx : Addr} {fs : List (Str × V)} {x : V} {v : Value} {R : Bool → V → Hp → Prop}
    (I : Inv X pins σ H s) (rx : RelV x v) (ha : H a = some (.ins C dx fs)) {Q : Bool → Shared → Prop} (q : sp [.ref a, x] H (fun v H' => ∃ k : Bool, v = .bl k ∧ R k v H') E)
    (hq : ∀ k s' H', Inv X pins σ H' s' → R k (.bl k) H' → Q k s') : wpAny (model X.prog X.w) X.A (contains (.ref a) v) Q X.xe s := by
  obtain ⟨ox, od, J⟩ := insX_at I ha
  refine in_own I.kIn J e ?_
  refine wpAny_mono (run_fn (us := [.ref a, v]) (vs := [.ref a, x]) F hr hb .nil hx I (.cons rfl (.cons rx .nil)) q) (fun w s' z => ?_) fun _ _ x => x
  obtain ⟨z', H', I', rz, k, rfl, qz⟩ := z
  obtain rfl : w = Value.bool k := rz
  exact ⟨k, rfl, hq k s' H' I' qz⟩
theorem op_inO (e : OwnM X.K C "__contains__" g) (hb : Binds X.K fd ps []) (F : FnOk X.prog X.w X.K X.mg X.base CX0 n g fd ps sp) (hr : Room n X.A) (hx : Passes CX0 X E) : OpR X (compareOp .In) (rInO C sp E false) := by
  intro pins s σ H x y v u Q I rx ry h
  obtain ⟨a, dx, fs, rfl, ha, q⟩ := h
  cases (show u = Value.ref a from ry)
  refine wpAny_bind (in_run (R := fun k v H' => Q (.bl k) H') e hb F hr hx I rx ha q fun k s' H' I' z => ?_)
  exact wpAny_pure ⟨.bl k, H', I', rfl, z⟩
theorem op_ninO (e : OwnM X.K C "__contains__" g) (hb : Binds X.K fd ps []) (F : FnOk X.prog X.w X.K X.mg X.base CX0 n g fd ps sp) (hr : Room n X.A) (hx : Passes CX0 X E) : OpR X (compareOp .NotIn) (rInO C sp E true) := by
  intro pins s σ H x y v u Q I rx ry h
  obtain ⟨a, dx, fs, rfl, ha, q⟩ := h
  cases (show u = Value.ref a from ry)
  refine wpAny_bind (in_run (R := fun k v H' => Q (.bl (!k)) H') e hb F hr hx I rx ha q fun k s' H' I' z => ?_)
  exact wpAny_pure ⟨.bl (!k), H', I', rfl, z⟩
/-- o[i] -/
def tGetO (C : Addr) (sp : Sp) (E : XK) (ta ti : TE) : TE := fun σ H Q => ta σ H fun x H1 => ti σ H1 fun y H2 => ∃ a dx fs, x = .ref a ∧ H2 a = some (.ins C dx fs) ∧ sp [x, y] H2 Q E
theorem pe_getO {e i : Expr} {pos : Pos} {ta ti : TE} (m : OwnM X.K C "__getitem__" g) (hf : PySem.W.fnIn X.K g = true) (hb : Binds X.K fd ps []) (F : FnOk X.prog X.w X.K X.mg X.base CX0 n g fd ps sp) (hr : Room (n + 1) X.A) (he : PE X e ta) (hi : PE X i ti)
    (hsl : ∀ (a : Addr) (v : Value), subscripted i true (.ref a) v = runValue (.builtin "lifetime.subscript" ⟨[.ref a, v], []⟩) := by intro _ _; with_unfolding_all rfl) : PE X (.Subscript e i pos) (tGetO C sp E0 ta ti) := by
  refine ⟨fun pins s σ H Q I h => ?_⟩
  refine Subscript_ (thn (he.run pins s σ H _ I h) fun v s1 ⟨x, H1, I1, r1, q1⟩ => thn (hi.run pins s1 σ H1 _ I1 q1) fun u s2 ⟨y, H2, I2, r2, a, dx, fs, ex, ha, q⟩ => ?_)
  subst ex
  obtain rfl : v = Value.ref a := r1
  obtain ⟨ox, od, J⟩ := insX_at I2 ha
  obtain ⟨mm, hF⟩ := I2.fr
  refine PySem.W.sub_K hF I2.ok.mod.kin J m.at_ hf m.fn ?_ (hsl a u)
  have hl : ([Value.ref a, u] ++ []).length = ps.length := by
    have := F.len _ _ _ _ q
    exact this
  refine wpAny_call (codeAny_mono (F.run X.A.in1 X.stack s2 H2 ⟨[.ref a, u], []⟩ ([.ref a, u] ++ []) [.ref a, y] _ E0 hr.in1 I2.env0.in1 (hb s2 [.ref a, u] I2.kIn hl) (.cons rfl (.cons r2 .nil)) q) fun r s' hq => ?_)
  cases r with
  | error e => exact False.elim hq
  | ok fl =>
    cases fl with
    | ret u => exact I2.after hq
    | next => exact False.elim hq
    | brk => exact False.elim hq
    | cont => exact False.elim hq
end
/-! ### for x in o -/
/-- as FnOk, its promise knows how many objects there were -/
structure FnS (P : Program) (w : World) (K : PySem.W.Frag) (mg : Str → Option Value) (base : Heap) (k : Nat) (f : Addr) (fd : FuncData) (ps : List Str) (sp : Nat → Sp) : Prop where
  go : ∀ (A : Around) (outer : List Env) (s : Shared) (H : Hp) (args : Args) (us : List Value) (vs : List V) (Q : VK) (E : XK),
    Room k A → Env0 P w K mg base A outer s H → BindsTo s fd args (ps.zip us) → Vals vs us → sp s.heap.objs.size vs H Q E → codeAny (model P w) A (.call (.ref f) args) (CR CX0 outer P w H s Q E) s
section
variable {P : Program} {w : World} {K : PySem.W.Frag} {mg : Str → Option Value} {base : Heap}
theorem FnS.of_body {x qual : Str} {st : Stmt} {f : Addr} {fd : FuncData} {N ps : List Str} {k : Nat} {sp : Nat → Sp} (F : Fun K x qual st f fd) (S : FnScope N ps (defScope st))
    (size : ∀ n vs H Q E, sp n vs H Q E → vs.length = ps.length)
    (body : ∀ (cdv : Value) (A : Around) (outer : List Env) (s : Shared) (H : Hp) (vs : List V) (Q : VK) (E : XK),
      Room k (A.deeper (envOfC qual (defScope st) s.heap.objs.size f cdv)) → sp s.heap.objs.size vs H Q E →
      ∃ t, PSs (cxOf CX0 P w K mg base N qual (defScope st) f cdv A outer s H E).nox (defBody st) t ∧ t { nx := fun _ H' => Q .non H', rt := Q } (start N vs) H) :
    FnS P w K mg base (k + 1) f fd ps sp := by
  obtain ⟨_, _, _, _, _, _, cdv, _, _, rfl, lk, hcd⟩ := F.ex
  refine ⟨fun A outer s H args us vs Q E hr e0 hb r h => ?_⟩
  have inS : K.In s.heap := e0.mod.kin.keeps fun b o e => (e0.bs b o e).1
  have noL : s.heap.NoLimit := e0.mod.nolimit.keeps fun b o e => (e0.bs b o e).1
  refine codeAny_call_function hr.depth (inS _ _ lk) rfl S.co S.gen rfl
    (PySem.W.codeRec_of inS hcd) (hb _ _ _ _ ?_)
  refine wpAny_newFunctionEnv_cells S.kind
    (fun ⟨n, v⟩ hy => ?_) fun env he s1 x => ?_
  · rcases S.par n (List.of_mem_zip hy).1 with q | q
    · exact Or.inl q
    · exact Or.inr ⟨q, PySem.W.cellsFrom_some _ _ _ (Or.inl q)⟩
  · subst he
    refine ⟨noL.keeps x.toInCall.keep, codeAny_func ?_⟩
    obtain ⟨t, ht, hq⟩ := body cdv A outer s H vs Q E (hr.deeper _) h
    have J := inv_start (CX := CX0) (P := P) (w := w) (K := K) (mg := mg) (base := base) (E := E) S hr.hd e0 (size _ _ _ _ _ h) r x
    refine wpAny_mono (ht.nox.run [] s1 (start N vs) H _ J hq) (fun fl s' z => ?_) fun e s' z => z
    cases fl with
    | ret u =>
      obtain ⟨v, σ', H', J', rv, q⟩ := z
      exact ⟨v, H', J'.os, J'.bare, J'.base, J'.hok, rv, q⟩
    | next =>
      obtain ⟨σ', H', J', q⟩ := z
      exact ⟨.non, H', J'.os, J'.bare, J'.base, J'.hok, rfl, q⟩
    | brk =>
      obtain ⟨_, _, _, q⟩ := z
      exact q.elim
    | cont =>
      obtain ⟨_, _, _, q⟩ := z
      exact q.elim
end
/-- an __iter__ that gives the iterator of the list in the field fld -/
def spIter (K : PySem.W.Frag) (C : Addr) (fld : Str) (n : Nat) : Sp := fun vs H Q _ => ∃ (a dx l : Addr) (fs : List (Str × V)) (xs : List V), vs = [.ref a] ∧ H a = some (.ins C dx fs) ∧ fs.lookup fld = some (.ref l) ∧ SqL K H l xs ∧
  ∀ it, H it = none → n ≤ it → Q (.ref it) (upd H it (ItO l it 0))
def iOwn (K : PySem.W.Frag) (C : Addr) (fld : Str) (te : TE) : TI := fun σ H R => te σ H fun x H1 => ∃ (a dx l : Addr) (fs : List (Str × V)) (xs : List V), x = .ref a ∧ H1 a = some (.ins C dx fs) ∧ fs.lookup fld = some (.ref l) ∧ SqL K H1 l xs ∧ R (Itl K l) H1
theorem pi_own {X : Cx} {C g : Addr} {fd : FuncData} {n : Nat} {fld : Str} {e tg : Expr} {te : TE} (he : PE X e te) (m : OwnM X.K C "__iter__" g) (hb : Binds X.K fd ["self"] []) (F : FnS X.prog X.w X.K X.mg X.base n g fd ["self"] (spIter X.K C fld)) (hr : Room n X.A) : PI X tg e (iOwn X.K C fld te) := by
  refine ⟨fun pins s σ H R I h => ?_⟩
  refine thn (he.run pins s σ H _ I h) fun u s1 ⟨x, H1, I1, rx, a, dx, l, fs, xs, ex, ea, lk, sq, q⟩ => ?_
  subst ex
  obtain rfl : u = Value.ref a := rx
  obtain ⟨ox, od, J⟩ := insX_at I1 ea
  obtain ⟨mm, hF⟩ := I1.fr
  refine PySem.W.owit_iter hF I1.ok.mod.kin J m.at_ m.fn ?_
  refine wpAny_call (codeAny_mono (F.go X.A X.stack s1 H1 ⟨[Value.ref a], []⟩ ([Value.ref a] ++ []) [V.ref a] (fun v H2 => ∃ it, v = .ref it ∧ H1 it = none ∧ X.s_0.heap.objs.size ≤ it ∧ H2 = upd H1 it (ItO l it 0)) E0 hr I1.env0 (hb s1 [Value.ref a] I1.kIn rfl) (show Vals [V.ref a] [Value.ref a] from .cons rfl .nil)
    ⟨a, dx, l, fs, xs, rfl, ea, lk, sq, fun it hn hs => ⟨it, rfl, hn, Nat.le_trans I1.sz hs, rfl⟩⟩) fun r s' hq => ?_)
  cases r with
  | error e => exact False.elim hq
  | ok fl =>
    cases fl with
    | ret u =>
      obtain ⟨v, H', I2, rv, it, rfl, hn, hs, rfl⟩ := I1.after hq
      cases (show u = Value.ref it from rv)
      have hi : (upd H1 it (ItO l it 0)) it = some (ItO l it 0) := upd_same
      have eo := itO_get I2 hi
      have st : s'.heap.IsListIter it l (0 : Nat) := ⟨_, eo, rfl, rfl⟩
      have hT : s'.TypeIs (.ref it) "list_iterator" := ⟨_, eo, rfl⟩
      unfold PySem.W.OwitIt
      refine wpAny_specialOf (name := Str.ofString "__next__") hT slot_listiter_next.lookup ?_
      have hi' := hi
      unfold ItO at hi'
      have ed : dropH (upd H1 it (ItO l it 0)) it = H1 := by
        funext b
        by_cases hb : b = it
        · rw [hb, hn]
          exact dropH_same
        · rw [dropH_ne hb, upd_ne hb]
      refine ⟨it, [it], _, _, dropH (upd H1 it (ItO l it 0)) it, rfl, inv_drop I2 hi', turn_list l it, st, fun b hb => ?_, ?_⟩
      · have e : b = it := by simpa using hb
        rw [e]
        exact inv_fp I2 hi hs
      · rw [ed]
        exact q
    | next => exact False.elim hq
    | brk => exact False.elim hq
    | cont => exact False.elim hq
end G
set_option Elab.async false
set_option linter.all false
set_option maxRecDepth 100000
set_option maxHeartbeats 2000000
/-! O3: xs[::-1], isinstance(x, (list, tuple)), lists of the same things compared. -/
namespace G
open PySem PySem.Spec PyProof.Rows L2 HT
theorem pick_rev (its : List Value) : slicePick its.toArray none none (some (-1)) = its.reverse.toArray := by
  have e : ∀ k, k ≤ its.length → (((List.range k).map fun (m : Nat) => (((its.length : Nat) : Int) - 1 + (-1) * (m : Int)).toNat).filterMap fun j => its.toArray[j]?) = its.reverse.take k := by
    intro k
    induction k with
    | zero =>
      intro _
      simp
    | succ k ih =>
      intro hk
      rw [List.range_succ, List.map_append, List.filterMap_append, ih (by omega), List.take_add_one]
      congr 1
      have e1 : (((its.length : Nat) : Int) - 1 + (-1) * (k : Int)).toNat = its.length - 1 - k := by omega
      have hk2 : its.length - 1 - k < its.length := by omega
      simp only [List.map_cons, List.map_nil, List.filterMap_cons, List.filterMap_nil]
      rw [e1, List.getElem?_toArray, List.getElem?_eq_getElem hk2, List.getElem?_reverse (by omega)]
      simp [hk2]
  have r : sliceRange ((its.length : Int) - 1) (-1) (-1) = (List.range its.length).map fun (m : Nat) => (((its.length : Nat) : Int) - 1 + (-1) * (m : Int)).toNat := by
    unfold sliceRange
    have c : (if (-1 : Int) > 0 then (if (its.length : Int) - 1 < -1 then ((-1) - ((its.length : Int) - 1) + (-1) - 1) / (-1) else 0) else (if (its.length : Int) - 1 > -1 then ((its.length : Int) - 1 - (-1) - (-1) - 1) / (-(-1)) else 0)).toNat = its.length := by
      rw [if_neg (by decide)]
      split
      · rw [show (-(-1) : Int) = 1 by decide, Int.ediv_one]
        omega
      · omega
    show (List.range _).map _ = _
    rw [c]
  have b : sliceBounds none none (some (-1)) its.toArray.size = ((its.length : Int) - 1, -1, -1) := by
    rw [List.size_toArray]
    rfl
  unfold slicePick
  rw [b]
  dsimp only
  rw [r, e _ (Nat.le_refl _), List.take_of_length_le (by rw [List.length_reverse]; exact Nat.le_refl _)]
def tBackL (K : PySem.W.Frag) (te : TE) (tp : TO) : TE := fun σ H Q => te σ H fun x H1 => tp σ H1 fun o H2 => ∃ a xs, x = .ref a ∧ SqL K H2 a xs ∧ o = some (-1) ∧ ∀ p, H2 p = none → Q (.ref p) (upd H2 p (.lst xs.reverse))
theorem pe_backL {X : Cx} {e st : Expr} {te : TE} {tp : TO} {p3 pos : Pos} (he : PE X e te) (hst : PO X (some st) tp)
    (hsub : ∀ a l : Addr, subscripted (.Slice none none (some st) p3) false (.ref a) (.ref l) = operate [.ref a, .ref l] (getItem (.ref a) (.ref l)) := by intro _ _; with_unfolding_all rfl) :
    PE X (.Subscript e (.Slice none none (some st) p3) pos) (tBackL X.K te tp) := by
  refine ⟨fun pins s σ H Q I h => ?_⟩
  refine Subscript_ (thn (he.run pins s σ H _ I h) fun v s1 ⟨x, H1, I1, r1, q1⟩ => ?_)
  refine wpAny_Slice (thn (po_none.run pins s1 σ H1 (fun o H2 => o = none ∧ H2 = H1) I1 ⟨rfl, rfl⟩) fun vl s2 ⟨l, H2, I2, pl, el, e2⟩ => ?_)
  subst el e2
  refine thn (po_none.run pins s2 σ H2 (fun o H3 => o = none ∧ H3 = H2) I2 ⟨rfl, rfl⟩) fun vu s3 ⟨u, H3, I3, pu, eu, e3⟩ => ?_
  subst eu e3
  refine thn (hst.run pins s3 σ H3 _ I3 q1) fun vs s4 ⟨o, H4, I4, ps, a, xs, ex, hx, eo, q⟩ => ?_
  subst ex eo
  cases r1
  have I5 : Inv X pins σ H4 { s4 with heap := s4.heap.push { cls := .type "slice", data := .fields #[vl, vu, vs] } } := I4.kept (t' := s4.toks) fun b ob q => Heap.get?_push_of_some _ q
  obtain ⟨its, r, ht, hz⟩ := I5.list hx
  have hlen : its.length = xs.length := r.length.symm
  show wpAny (model X.prog X.w) X.A (subscriptTail e (.Slice none none (some st) p3) (.ref a) (.ref s4.heap.objs.size)) (EP X pins σ Q) X.xe { s4 with heap := s4.heap.push { cls := .type "slice", data := .fields #[vl, vu, vs] } }
  refine tail_any (ops := [.ref a, .ref s4.heap.objs.size]) ht.isList.typeIs slot_list_getitem.lookup ?_ (hsub _ _)
  refine wpAny_getItem_list_slice ht.isList (Heap.IsSliceOf.new _ _ _ _) pl pu ps (by decide) ?_ (by rw [List.size_toArray]; omega)
  rw [pick_rev]
  refine ⟨.ref _, _, I5.laid (t' := s4.toks) (o := .lst xs.reverse) (fun b ob q => Heap.get?_push_of_some _ q) (Nat.le_refl _) ?_, rfl, q _ (I5.hok.fresh (Nat.le_refl _))⟩
  exact ⟨by rw [List.length_reverse]; exact hz, _, 0, Vals.reverse r, Heap.get?_push_size _ rfl⟩
/-! ### isinstance(x, (list, tuple)) -/
def tIsLT (K : PySem.W.Frag) (te : TE) : TE := fun σ H Q => te σ H fun x H1 => (∃ t xs, x = .ref t ∧ (SqL K H1 t xs ∨ SqT K H1 t xs)) ∧ ∀ T, H1 T = none → Q (.bl true) (upd H1 T (.tup [.ty "list", .ty "tuple"]))
theorem lt_list (t : Addr) : AnswersAll (fun s => s.TypeIs (.ref t) "list") (.ref t) [.type "list", .type "tuple"] [true, false] :=
  ⟨Answers.of_true PySem.F.isi_meta_list sub_list_self, Answers.of_false_list (by decide +kernel) PySem.F.isi_meta_tuple PySem.F.sub_list_tuple, True.intro⟩
theorem lt_tuple (t : Addr) : AnswersAll (fun s => s.TypeIs (.ref t) "tuple") (.ref t) [.type "list", .type "tuple"] [false, true] :=
  ⟨Answers.of_false_tuple (by decide +kernel) PySem.F.isi_meta_list PySem.F.sub_tuple_list, Answers.of_true PySem.F.isi_meta_tuple PySem.F.isi_sub_tuple, True.intro⟩
theorem pe_isiLT {X : Cx} {p pos tpos : Pos} {e : Expr} {es : List Expr} {te : TE} {k : Nat} (he : PE X e te) (hg : Gl X "isinstance") (hm : X.mg "isinstance" = none) (hes : PA X es (tCons (tC (.ty "list")) (tCons (tC (.ty "tuple")) tNil)))
    (n1 : starEach [e, .Tuple es k tpos] X.env = (false, eval e X.env) :: starEach [.Tuple es k tpos] X.env := by rfl) (n2 : starEach [.Tuple es k tpos] X.env = (false, eval (.Tuple es k tpos) X.env) :: starEach [] X.env := by rfl)
    (n3 : (backTo pos (starEach [.Tuple es k tpos] X.env)).any (·.1) = false := by rfl) : PE X (.Call (.Name "isinstance" p) [e, .Tuple es k tpos] [] pos) (tIsLT X.K te) := by
  refine ⟨fun pins s σ H Q I h => ?_⟩
  refine wpAny_Call_Name_kw (ld_blt I hg hm PyProof.Rows.boot_isinstance ?_ (by decide) (by decide))
  refine PyProof.Rows.callWith_builtin1 ?_ n1 n3
  rw [n1]
  show wpAny _ _ (spliced ((false, eval e X.env) :: backTo pos (starEach [.Tuple es k tpos] X.env))) _ _ s
  refine Calls.spliced_cons (thn (he.run pins s σ H _ I h) fun u s1 ⟨x, H1, I1, r1, ⟨t, xs, ex, hT⟩, q1⟩ => ?_)
  subst ex
  obtain rfl : u = Value.ref t := r1
  rw [n2]
  show wpAny _ _ (spliced ((false, eval (.Tuple es k tpos) X.env) :: backTo pos (starEach [] X.env))) _ _ s1
  refine Calls.spliced_cons (wpAny_Tuple_spliced (thn (hes.run tpos pins s1 σ H1 (fun ys H' => ys = [.ty "list", .ty "tuple"] ∧ H' = H1) I1 ⟨rfl, rfl⟩) fun us s2 ⟨ys, H2, I2, r2, ey, eH⟩ => ?_))
  subst ey eH
  have eu := vals_ty2 r2
  subst eu
  have two : 2 ≤ sizeLine := by rw [sizeLine_eq]; omega
  refine ⟨two, ?_⟩
  have fresh := I2.hok.fresh (Nat.le_refl s2.heap.objs.size)
  have I3 := I2.laid (a := s2.heap.objs.size) (o := .tup [.ty "list", .ty "tuple"]) (h' := s2.heap.push { cls := .type "tuple", data := .seq [Value.type "list", Value.type "tuple"].toArray }) (t' := s2.toks) (fun b u e => Heap.get?_push_of_some _ e) (Nat.le_refl _)
    ⟨two, [.type "list", .type "tuple"], r2, ⟨_, Heap.get?_push_size _ rfl, rfl, _, rfl⟩⟩
  refine Calls.spliced_nil ?_
  rcases hT with hT | hT
  · obtain ⟨its, _, pl, _⟩ := I2.list hT
    obtain ⟨o, ho, hc, _⟩ := pl.isList
    exact call_isinstance (isinstance_tuple (x := .ref t) (Tx := "list") (tp := s2.heap.objs.size) (lt_list t)) ⟨⟨o, Heap.get?_push_of_some _ ho, hc⟩, Heap.get?_push_size _ rfl, fun tk => ⟨.bl true, _, I3.tok tk, rfl, q1 _ fresh⟩⟩
  · obtain ⟨its, _, ⟨o, ho, hc, _⟩, _⟩ := I2.tuple hT
    exact call_isinstance (isinstance_tuple (x := .ref t) (Tx := "tuple") (tp := s2.heap.objs.size) (lt_tuple t)) ⟨⟨o, Heap.get?_push_of_some _ ho, hc⟩, Heap.get?_push_size _ rfl, fun tk => ⟨.bl true, _, I3.tok tk, rfl, q1 _ fresh⟩⟩
/-! ### lists of the same things -/
def sameB : V → Bool
  | .ref _ => true
  | v => flatB v
theorem items_same {A : Around} {s : Shared} : ∀ {xs : List V} {us ws : List Value}, (∀ v ∈ xs, sameB v = true) → Vals xs us → Vals xs ws → ∀ j (h1 : j < us.length) (h2 : j < ws.length), SeqAt.EqAt A s us[j] ws[j] true
  | [], _, _, _, .nil, .nil, j, h1, _ => absurd h1 (Nat.not_lt_zero j)
  | x :: xs, _, _, hf, .cons r1 t1, .cons r2 t2, 0, _, _ => by
    have f := hf x List.mem_cons_self
    cases x with
    | ref a =>
      cases r1
      cases r2
      exact SeqAt.EqAt.same _
    | _ => exact eqAt_same r1 r2 f
  | x :: xs, _, _, hf, .cons r1 t1, .cons r2 t2, j + 1, h1, h2 => items_same (fun v hv => hf v (List.mem_cons_of_mem _ hv)) t1 t2 j (Nat.lt_of_succ_lt_succ h1) (Nat.lt_of_succ_lt_succ h2)
section
variable {X : Cx}
def rNeS (K : PySem.W.Frag) : R2 := fun x y H Q => ∃ a b xs, x = .ref a ∧ y = .ref b ∧ SqL K H a xs ∧ SqL K H b xs ∧ (∀ v ∈ xs, sameB v = true) ∧ Q (.bl false) H
theorem op_neS (hu : X.A.units < cLine) : OpR X (compareOp .NotEq) (rNeS X.K) := by
  intro pins s σ H x y v u Q I rx ry h
  obtain ⟨a, b, xs, rfl, rfl, ha, hb, hf, q⟩ := h
  cases (show v = Value.ref a from rx)
  cases (show u = Value.ref b from ry)
  obtain ⟨us, r1, p1, _⟩ := I.list ha
  obtain ⟨ws, r2, p2, _⟩ := I.list hb
  have hsz : us.toArray.size = ws.toArray.size := by rw [List.size_toArray, List.size_toArray, ← r1.length, ← r2.length]
  refine SeqAt.RcNeAt.lists (e := fun _ => true) p1.isList p2.isList hsz hu (fun j h1 h2 => ?_) X.prog X.w _ _ ?_
  · have k := items_same (A := X.A.in1) (s := s) hf r1 r2 j (by simpa using h1) (by simpa using h2)
    simpa using k
  · rw [show ((List.range us.toArray.size).all fun _ => true) = true from List.all_eq_true.mpr fun _ _ => rfl]
    exact ⟨.bl false, H, I, rfl, q⟩
end
end G
set_option Elab.async false
set_option linter.all false
set_option maxRecDepth 100000
set_option maxHeartbeats 4000000
/-! ST3: set(xs) of a list of different keys (ints, texts), however many; len of such a set. -/
namespace GS
open PySem PySem.Spec PyProof.Rows L2
/-- is this one of the keys -/
def inK (ks : List Key) (c : Key) : Bool := ks.any fun y => decide (y = c)
theorem inK_of {ks : List Key} {c : Key} (h : c ∈ ks) : inK ks c = true := List.any_eq_true.mpr ⟨c, h, decide_eq_true rfl⟩
theorem inK_no {ks : List Key} {c : Key} (h : c ∉ ks) : inK ks c = false := by
  cases e : inK ks c with
  | false => rfl
  | true =>
    obtain ⟨y, hy, ey⟩ := List.any_eq_true.mp e
    exact (h (of_decide_eq_true ey ▸ hy)).elim
theorem mem_next {ks : List Key} {i : Nat} {c : Key} (h : ks[i]? = some c) (j : Key) : (inK (ks.take i) j || decide (j = c)) = inK (ks.take (i + 1)) j := by
  rw [List.take_add_one, h]
  show _ = List.any (ks.take i ++ [c]) _
  rw [List.any_append]
  show _ = (inK (ks.take i) j || (decide (c = j) || false))
  rw [Bool.or_false, decide_eq_decide.mpr (eq_comm (a := j) (b := c))]
theorem new_here {ks : List Key} (nd : ks.Nodup) {i : Nat} {c : Key} (h : ks[i]? = some c) : c ∉ ks.take i := fun hm => by
  obtain ⟨j, hj⟩ := List.mem_iff_getElem?.mp hm
  rw [List.getElem?_take] at hj
  by_cases z : j < i
  · rw [if_pos z] at hj
    obtain ⟨lj, ej⟩ := List.getElem?_eq_some_iff.mp hj
    obtain ⟨li, ei⟩ := List.getElem?_eq_some_iff.mp h
    exact List.pairwise_iff_getElem.mp nd j i lj li z (ej.trans ei.symm)
  · rw [if_neg z] at hj
    cases hj
section
variable {prog : Program} {w : World} {A : Around} {Z : Result → Shared → Prop} {it D : Addr} {fp wr : List Addr} {G : Array GenState → Array GenState → Prop} {n : Nat} {P : Nat → Value → Prop} {St : Nat → Shared → Prop}
/-- the set at D while the keys are walked -/
abbrev Upto (prog : Program) (w : World) (h : Heap) (D : Addr) (ks : List Key) (i : Nat) : Prop := h.SetOf (mixKind prog w) D (inK (ks.take i)) i
theorem upto_keep {h h' : Heap} {ks : List Key} {i : Nat} (u : Upto prog w h D ks i) (k : ∀ o, h.get? D = some o → h'.get? D = some o) : Upto prog w h' D ks i := setOf_at u k
theorem keys_loop (W : WalksS prog w A.in1 it fp wr G n P St) (out : D ∉ fp) (ks : List Key) (ln : ks.length = n) (nd : ks.Nodup) (few : n ≤ 4000) (each : ∀ i v, P i v → ∃ c, ks[i]? = some c ∧ RelV (kV c) v) :
    ∀ (m i : Nat) (s : Shared), i + m = n → St i s → Upto prog w s.heap D ks i → (∀ s', Moved (D :: wr) G s s' → Upto prog w s'.heap D ks n → Z (.ok (.ret .none)) s') →
      codeAny (model prog w) A (.builtin "set.update.loop" ⟨[.ref D, .ref it], []⟩) Z s := by
  have outw : D ∉ wr := fun z => out (W.sub _ z)
  have more : ∀ b ∈ wr, b ∈ D :: wr := fun b z => List.mem_cons_of_mem _ z
  intro m
  induction m with
  | zero =>
    intro i s em st u fin
    have e : i = n := em
    subst e
    refine codeAny_builtin PyProof.Rows.F.entry_set_update_loop ?_
    rw [Around.under_plainId PyProof.Rows.F.plain_set_update_loop _]
    show wpAny _ A.in1 (pyNext (.ref it) >>= _) _ _ s
    refine wpAny_bind (W.done s _ _ st fun s' mv => ?_)
    show wpAny _ A.in1 (ret Value.none) _ _ s'
    exact wpAny_pure (fin s' (mv.mono more) (upto_keep u fun o e => mv.heap D o outw e))
  | succ m ih =>
    intro i s em st u fin
    have lt : i < n := by omega
    refine codeAny_builtin PyProof.Rows.F.entry_set_update_loop ?_
    rw [Around.under_plainId PyProof.Rows.F.plain_set_update_loop _]
    show wpAny _ A.in1 (pyNext (.ref it) >>= _) _ _ s
    refine wpAny_bind (W.item i s _ _ lt st fun v s' pv st' mv => ?_)
    obtain ⟨c, hc, rc⟩ := each i v pv
    have u' : Upto prog w s'.heap D ks i := upto_keep u fun o e => mv.heap D o outw e
    show wpAny _ A.in1 (holding [v] (setAdd D v) >>= _) _ _ s'
    refine wpAny_bind (wpAny_holding ?_)
    unfold setAdd
    refine wpAny_holding ?_
    refine wpAny_bind ((mixKind prog w).pyHash (k := c) (kV_is rc) ?_)
    refine wpAny_setAddHashed_of (knd := mixKind prog w) (s := { s' with toks := s'.toks + 1 }) (kV_is rc) (key_scan rc) u' (by unfold scanBound; omega) fun h' sb u2 => ?_
    have u3 : Upto prog w h' D ks (i + 1) := by
      have e1 : (fun j => inK (ks.take i) j || decide (j = c)) = inK (ks.take (i + 1)) := funext (mem_next hc)
      rw [e1, inK_no (new_here nd hc)] at u2
      exact u2
    refine wpAny_pure ⟨plainId_quiet PyProof.Rows.F.plain_set_update_loop _, ih (i + 1) _ (by omega) (W.frame _ s' _ _ st' (Nat.le_succ _) fun b hb o e => ?_) u3 fun s2 mv2 u4 => ?_⟩
    · exact (sb.2 b fun z => out (z ▸ hb)).trans e
    · refine fin s2 (Moved.trans W.gtrans ((mv.mono more).then_heap (Nat.le_succ _) fun b o hb e => ?_) mv2) u4
      exact (sb.2 b fun z => hb (by rw [z]; exact List.mem_cons_self)).trans e
end
section
variable {prog : Program} {w : World} {A : Around} {E : Value → Shared → Prop} {s : Shared}
theorem set_of_list {l : Addr} {items : Array Value} {ks : List Key} {Q : Value → Shared → Prop} (calm : A.handled = none) (hl : s.heap.IsList l items) (r : Vals (ks.map kV) items.toList) (nd : ks.Nodup) (few : ks.length ≤ 4000)
    (go : ∀ (h' : Heap) (tk : Nat), h'.SetOf (mixKind prog w) s.heap.objs.size (inK ks) ks.length → (∀ b o, b < s.heap.objs.size → s.heap.get? b = some o → h'.get? b = some o) → Q (.ref s.heap.objs.size) { s with heap := h', toks := tk }) :
    wpAny (model prog w) A (call (.type "set") [.ref l]) Q E s := by
  have size : ks.length = items.size := by
    have := r.length
    rw [List.length_map] at this
    rw [this, Array.length_toList]
  obtain ⟨f1, f2, f3⟩ := PySem.F.called_set.mro
  have f4 := PySem.F.called_set.made
  have f5 := PySem.F.called_set.sub
  refine wpAny_call (codeAny_of_tree ?_)
  show wpAny _ _ (callAny (.type "set") _) _ _ _
  refine wpAny_pure ⟨Code.quiet_builtin _ (by decide +kernel), codeAny_builtin PySem.F.entry_type_call ?_⟩
  rw [Around.under_plain (weight_type_call_type "set" [.ref l] []) rfl]
  have f6 := PySem.F.called_set.notType
  have f7 := PySem.F.called_set.canCreate
  have f8 := PySem.F.typeCall_set_1 (.ref l)
  repeat (any_goals (first | assumption | wp_step))
  refine codeAny_mono (code_set_new_1 (.ref l) (E := E) (Q₁ := fun x s1 => ∃ fl : Bool, x = .ref s.heap.objs.size ∧ s1 = { s with heap := s.heap.push { cls := .type "set", dict := none, data := .set #[] 0 (.fresh 0 0 fl) } }) fun fl => ⟨fl, rfl, rfl⟩) fun rs s1 z => ?_
  rcases rs with e | (x | _ | _ | _) <;> first | exact z | exact z.elim | skip
  obtain ⟨fl, rfl, rfl⟩ := z
  have eS : (s.heap.push { cls := .type "set", dict := none, data := .set #[] 0 (.fresh 0 0 fl) }).get? s.heap.objs.size = some { cls := .type "set", dict := none, data := .set #[] 0 (.fresh 0 0 fl) } := Heap.get?_push_size _ rfl
  have tS : Shared.TypeIs { s with heap := s.heap.push { cls := .type "set", dict := none, data := .set #[] 0 (.fresh 0 0 fl) } } (.ref s.heap.objs.size) "set" := ⟨_, eS, rfl⟩
  have g1 := PySem.F.called_set.init.lookup
  have g2 := PySem.F.called_set.init.bind (.ref s.heap.objs.size)
  repeat (any_goals (first | assumption | wp_step))
  refine codeAny_mono (codeAny_call_builtin (R := wants (fun v s2 => v = .none ∧ ∃ h' tk, s2 = { s with heap := h', toks := tk } ∧ h'.SetOf (mixKind prog w) s.heap.objs.size (inK ks) ks.length ∧
      (∀ b o, b < s.heap.objs.size → s.heap.get? b = some o → h'.get? b = some o)) E) PySem.F.called_set.init.plain PySem.F.entry_set_init (check_set_init_1 tS ?_)) fun r2 s2 z => ?_
  · obtain ⟨ol, hol, hcl, nl, hdl⟩ := hl
    obtain ⟨c0, d0, dt0, sl0⟩ := ol
    simp only at hcl hdl
    subst hcl
    subst hdl
    have hol2 : (s.heap.push { cls := .type "set", dict := none, data := .set #[] 0 (.fresh 0 0 fl) }).get? l = some { cls := .type "list", dict := d0, data := .seq items nl, slots := sl0 } := Heap.get?_push_of_some _ hol
    have n1 := PySem.F.sub_list_set
    have n2 := PySem.F.sub_list_frozenset
    have n3 : (Value.type "list" == Value.type "dict") = false := by decide
    have old : (s.heap.push { cls := .type "set", dict := none, data := .set #[] 0 (.fresh 0 0 fl) }).IsList l items := ⟨_, hol2, rfl, nl, rfl⟩
    unfold Builtin.«set.__init__» noKeywords Builtin.Frozenset.updateFrom
    generalize hPI : pyIter = PI
    wp_walk
    subst hPI
    refine wpAny_pyIter_list old ?_
    refine wpAny_bind (wpAny_runValue ?_)
    have below : l < s.heap.objs.size := Heap.lt_size hol
    have calm3 : A.in1.in1.in1.handled = none := by simp [calm]
    have apart : l ≠ (s.heap.push { cls := .type "set", dict := none, data := .set #[] 0 (.fresh 0 0 fl) }).objs.size := by
      rw [Heap.size_push]
      exact Nat.ne_of_lt (Nat.lt_succ_of_lt below)
    have out : s.heap.objs.size ∉ [(s.heap.push { cls := .type "set", dict := none, data := .set #[] 0 (.fresh 0 0 fl) }).objs.size, l] := by
      rw [Heap.size_push]
      simp only [List.mem_cons, List.mem_singleton, List.not_mem_nil, or_false, not_or]
      exact ⟨Nat.ne_of_lt (Nat.lt_succ_self _), Nat.ne_of_gt below⟩
    refine keys_loop ((Walks.list calm3 _ l apart items).toS) out ks size nd (by rw [← size]; exact few) (fun i v hv => ?_) items.size 0 _ (Nat.zero_add _) ⟨⟨_, Heap.get?_push_size _ rfl, rfl, rfl⟩, ?old⟩ ?first ?last
    · rw [← Array.getElem?_toList] at hv
      obtain ⟨li, ei⟩ := List.getElem?_eq_some_iff.mp hv
      have lk : i < ks.length := by
        rw [Array.length_toList] at li
        omega
      obtain ⟨u, hu, ru⟩ := r.get (i := i) (x := kV ks[i]) (by rw [List.getElem?_map, List.getElem?_eq_getElem lk]; rfl)
      rw [hu] at hv
      cases hv
      exact ⟨_, List.getElem?_eq_getElem lk, ru⟩
    case old => exact old.push _
    case first =>
      have at0 : ((s.heap.push { cls := .type "set", dict := none, data := .set #[] 0 (.fresh 0 0 fl) }).push { cls := .type "list_iterator", data := .fields #[.ref l, .int 0 0] }).get? s.heap.objs.size = some { cls := .type "set", dict := none, data := .set #[] 0 (.fresh 0 0 fl) } := Heap.get?_push_of_some _ eS
      exact (show Heap.SetOf (mixKind prog w) _ s.heap.objs.size (fun _ => false) 0 from ⟨_, #[], 0, _, at0, ⟨rfl, rfl, rfl⟩, rfl, (fun e he => by simp at he), (fun k => by simp), (by decide), (by rfl), rfl⟩)
    case last =>
      intro s' mv u
      obtain ⟨h', g', d', tk', os'⟩ := s'
      have eg : g' = s.gens := mv.gens
      have ed : d' = s.drawn := mv.drawn
      have eo : os' = s.os := mv.os
      subst eg
      subst ed
      subst eo
      rw [← size] at u
      have u2 : h'.SetOf (mixKind prog w) s.heap.objs.size (inK (ks.take ks.length)) ks.length := u
      rw [List.take_length] at u2
      show wpAny _ _ _ _ _ _
      refine wpAny_pure ?_
      show wpAny _ _ (ret Value.none) _ _ _
      refine wpAny_pure ⟨rfl, h', tk', rfl, u2, fun b o hb e => ?_⟩
      refine mv.heap b o ?_ (Heap.get?_push_of_some _ (Heap.get?_push_of_some _ e))
      rw [Heap.size_push]
      simp only [List.mem_cons, List.mem_singleton, List.not_mem_nil, or_false, not_or]
      exact ⟨Nat.ne_of_lt hb, Nat.ne_of_lt (Nat.lt_succ_of_lt hb)⟩
  · rcases r2 with e | (x | _ | _ | _) <;> first | exact z | exact z.elim | skip
    obtain ⟨rfl, h', tk, rfl, hS, hk⟩ := z
    repeat (any_goals (first | assumption | wp_step))
    exact go _ _ hS hk
end
section
variable {prog : Program} {w : World} {A : Around} {E : Value → Shared → Prop} {s : Shared}
theorem set_of_tuple {l : Addr} {items : Array Value} {ks : List Key} {Q : Value → Shared → Prop} (calm : A.handled = none) (hl : s.heap.IsTuple l items) (r : Vals (ks.map kV) items.toList) (nd : ks.Nodup) (few : ks.length ≤ 4000)
    (go : ∀ (h' : Heap) (tk : Nat), h'.SetOf (mixKind prog w) s.heap.objs.size (inK ks) ks.length → (∀ b o, b < s.heap.objs.size → s.heap.get? b = some o → h'.get? b = some o) → Q (.ref s.heap.objs.size) { s with heap := h', toks := tk }) :
    wpAny (model prog w) A (call (.type "set") [.ref l]) Q E s := by
  have size : ks.length = items.size := by
    have := r.length
    rw [List.length_map] at this
    rw [this, Array.length_toList]
  obtain ⟨f1, f2, f3⟩ := PySem.F.called_set.mro
  have f4 := PySem.F.called_set.made
  have f5 := PySem.F.called_set.sub
  refine wpAny_call (codeAny_of_tree ?_)
  show wpAny _ _ (callAny (.type "set") _) _ _ _
  refine wpAny_pure ⟨Code.quiet_builtin _ (by decide +kernel), codeAny_builtin PySem.F.entry_type_call ?_⟩
  rw [Around.under_plain (weight_type_call_type "set" [.ref l] []) rfl]
  have f6 := PySem.F.called_set.notType
  have f7 := PySem.F.called_set.canCreate
  have f8 := PySem.F.typeCall_set_1 (.ref l)
  repeat (any_goals (first | assumption | wp_step))
  refine codeAny_mono (code_set_new_1 (.ref l) (E := E) (Q₁ := fun x s1 => ∃ fl : Bool, x = .ref s.heap.objs.size ∧ s1 = { s with heap := s.heap.push { cls := .type "set", dict := none, data := .set #[] 0 (.fresh 0 0 fl) } }) fun fl => ⟨fl, rfl, rfl⟩) fun rs s1 z => ?_
  rcases rs with e | (x | _ | _ | _) <;> first | exact z | exact z.elim | skip
  obtain ⟨fl, rfl, rfl⟩ := z
  have eS : (s.heap.push { cls := .type "set", dict := none, data := .set #[] 0 (.fresh 0 0 fl) }).get? s.heap.objs.size = some { cls := .type "set", dict := none, data := .set #[] 0 (.fresh 0 0 fl) } := Heap.get?_push_size _ rfl
  have tS : Shared.TypeIs { s with heap := s.heap.push { cls := .type "set", dict := none, data := .set #[] 0 (.fresh 0 0 fl) } } (.ref s.heap.objs.size) "set" := ⟨_, eS, rfl⟩
  have g1 := PySem.F.called_set.init.lookup
  have g2 := PySem.F.called_set.init.bind (.ref s.heap.objs.size)
  repeat (any_goals (first | assumption | wp_step))
  refine codeAny_mono (codeAny_call_builtin (R := wants (fun v s2 => v = .none ∧ ∃ h' tk, s2 = { s with heap := h', toks := tk } ∧ h'.SetOf (mixKind prog w) s.heap.objs.size (inK ks) ks.length ∧
      (∀ b o, b < s.heap.objs.size → s.heap.get? b = some o → h'.get? b = some o)) E) PySem.F.called_set.init.plain PySem.F.entry_set_init (check_set_init_1 tS ?_)) fun r2 s2 z => ?_
  · obtain ⟨ol, hol, hcl, nl, hdl⟩ := hl
    obtain ⟨c0, d0, dt0, sl0⟩ := ol
    simp only at hcl hdl
    subst hcl
    subst hdl
    have hol2 : (s.heap.push { cls := .type "set", dict := none, data := .set #[] 0 (.fresh 0 0 fl) }).get? l = some { cls := .type "tuple", dict := d0, data := .seq items nl, slots := sl0 } := Heap.get?_push_of_some _ hol
    have n1 := PySem.F.sub_tuple_set
    have n2 := PySem.F.sub_tuple_frozenset
    have n3 : (Value.type "tuple" == Value.type "dict") = false := by decide
    have old : (s.heap.push { cls := .type "set", dict := none, data := .set #[] 0 (.fresh 0 0 fl) }).IsTuple l items := ⟨_, hol2, rfl, nl, rfl⟩
    unfold Builtin.«set.__init__» noKeywords Builtin.Frozenset.updateFrom
    generalize hPI : pyIter = PI
    wp_walk
    subst hPI
    refine wpAny_pyIter_tuple old ?_
    refine wpAny_bind (wpAny_runValue ?_)
    have below : l < s.heap.objs.size := Heap.lt_size hol
    have calm3 : A.in1.in1.in1.handled = none := by simp [calm]
    have apart : l ≠ (s.heap.push { cls := .type "set", dict := none, data := .set #[] 0 (.fresh 0 0 fl) }).objs.size := by
      rw [Heap.size_push]
      exact Nat.ne_of_lt (Nat.lt_succ_of_lt below)
    have out : s.heap.objs.size ∉ [(s.heap.push { cls := .type "set", dict := none, data := .set #[] 0 (.fresh 0 0 fl) }).objs.size, l] := by
      rw [Heap.size_push]
      simp only [List.mem_cons, List.mem_singleton, List.not_mem_nil, or_false, not_or]
      exact ⟨Nat.ne_of_lt (Nat.lt_succ_self _), Nat.ne_of_gt below⟩
    refine keys_loop ((Walks.tuple calm3 _ l apart items).toS) out ks size nd (by rw [← size]; exact few) (fun i v hv => ?_) items.size 0 _ (Nat.zero_add _) ⟨⟨_, Heap.get?_push_size _ rfl, rfl, rfl⟩, ?old⟩ ?first ?last
    · rw [← Array.getElem?_toList] at hv
      obtain ⟨li, ei⟩ := List.getElem?_eq_some_iff.mp hv
      have lk : i < ks.length := by
        rw [Array.length_toList] at li
        omega
      obtain ⟨u, hu, ru⟩ := r.get (i := i) (x := kV ks[i]) (by rw [List.getElem?_map, List.getElem?_eq_getElem lk]; rfl)
      rw [hu] at hv
      cases hv
      exact ⟨_, List.getElem?_eq_getElem lk, ru⟩
    case old => exact old.push _
    case first =>
      have at0 : ((s.heap.push { cls := .type "set", dict := none, data := .set #[] 0 (.fresh 0 0 fl) }).push { cls := .type "tuple_iterator", data := .fields #[.ref l, .int 0 0] }).get? s.heap.objs.size = some { cls := .type "set", dict := none, data := .set #[] 0 (.fresh 0 0 fl) } := Heap.get?_push_of_some _ eS
      exact (show Heap.SetOf (mixKind prog w) _ s.heap.objs.size (fun _ => false) 0 from ⟨_, #[], 0, _, at0, ⟨rfl, rfl, rfl⟩, rfl, (fun e he => by simp at he), (fun k => by simp), (by decide), (by rfl), rfl⟩)
    case last =>
      intro s' mv u
      obtain ⟨h', g', d', tk', os'⟩ := s'
      have eg : g' = s.gens := mv.gens
      have ed : d' = s.drawn := mv.drawn
      have eo : os' = s.os := mv.os
      subst eg
      subst ed
      subst eo
      rw [← size] at u
      have u2 : h'.SetOf (mixKind prog w) s.heap.objs.size (inK (ks.take ks.length)) ks.length := u
      rw [List.take_length] at u2
      show wpAny _ _ _ _ _ _
      refine wpAny_pure ?_
      show wpAny _ _ (ret Value.none) _ _ _
      refine wpAny_pure ⟨rfl, h', tk', rfl, u2, fun b o hb e => ?_⟩
      refine mv.heap b o ?_ (Heap.get?_push_of_some _ (Heap.get?_push_of_some _ e))
      rw [Heap.size_push]
      simp only [List.mem_cons, List.mem_singleton, List.not_mem_nil, or_false, not_or]
      exact ⟨Nat.ne_of_lt hb, Nat.ne_of_lt (Nat.lt_succ_of_lt hb)⟩
  · rcases r2 with e | (x | _ | _ | _) <;> first | exact z | exact z.elim | skip
    obtain ⟨rfl, h', tk, rfl, hS, hk⟩ := z
    repeat (any_goals (first | assumption | wp_step))
    exact go _ _ hS hk
end
/-! ### the rules -/
section
variable {X : Cx}
/-- set(xs), xs a list or a tuple of different keys -/
def rSetKs (K : PySem.W.Frag) (P : Program) (w : World) : List V → Hp → VK → Prop := fun xs H Q => ∃ (l : Addr) (ks : List Key), xs = [.ref l] ∧ (SqL K H l (ks.map kV) ∨ SqT K H l (ks.map kV)) ∧ ks.Nodup ∧ ks.length ≤ 4000 ∧
  ∀ p, H p = none → Q (.ref p) (upd H p (SetK P w p (inK ks) ks.length))
theorem cr_setKs (calm : X.calm = true) : CallR X (.type "set") (rSetKs X.K X.prog X.w) := by
  intro pins s σ H xs us Q I r h
  obtain ⟨l, ks, rfl, hq, nd, few, q⟩ := h
  obtain ⟨u, rfl, ru⟩ := vals1 r
  cases (show u = Value.ref l from ru)
  have fin : ∀ (h' : Heap) (tk : Nat), h'.SetOf (mixKind X.prog X.w) s.heap.objs.size (inK ks) ks.length → (∀ b o, b < s.heap.objs.size → s.heap.get? b = some o → h'.get? b = some o) → EP X pins σ Q (.ref s.heap.objs.size) { s with heap := h', toks := tk } := fun h' tk hS k =>
    ⟨.ref _, upd H s.heap.objs.size (SetK X.prog X.w s.heap.objs.size (inK ks) ks.length), I.laid (t' := tk) (fun b o e => k b o (Heap.lt_size e) e) (Nat.le_refl _) (setK_new hS), rfl, q _ (I.hok.fresh (Nat.le_refl _))⟩
  rcases hq with hq | hq
  · obtain ⟨its, rv, p, _⟩ := I.list hq
    exact set_of_list (I.ok.hd calm) p.isList (by simpa using rv) nd few fin
  · obtain ⟨its, rv, p, _⟩ := I.tuple hq
    exact set_of_tuple (I.ok.hd calm) p (by simpa using rv) nd few fin
/-- len of a set of keys -/
def rLenK (P : Program) (w : World) : List V → Hp → VK → Prop := fun xs H Q => ∃ (a : Addr) (S : Key → Bool) (n : Nat), xs = [.ref a] ∧ H a = some (SetK P w a S n) ∧ n ≤ 4000 ∧ Q (.int (n : Nat)) H
theorem cr_lenKs : CallR X (.builtin "len") (rLenK X.prog X.w) := by
  intro pins s σ H xs us Q I r h
  obtain ⟨a, S, n, rfl, ha, few, q⟩ := h
  obtain ⟨u, rfl, ru⟩ := vals1 r
  cases (show u = Value.ref a from ru)
  obtain ⟨o, es, ep, t, ho, hex, hd, _, _, _, hf, hn⟩ := setK_get I ha
  exact call_len_set ho hex hd hf (by rw [hn]; omega) ⟨.int n, H, I.tok _, ⟨_, by rw [hn]⟩, q⟩
end
end GS
set_option Elab.async false
set_option linter.all false
set_option maxRecDepth 100000
set_option maxHeartbeats 4000000
/-! SH1: rows asked: is_list, need_rows_with_answers. -/
namespace G
open PySem PySem.Spec PyProof.Rows L2 NdefX
abbrev sIsList : Stmt := topS 13
abbrev sNeedRows : Stmt := topS 23
theorem scIsList : FnScope ["value", "most"] ["value", "most"] (defScope sIsList) := ⟨rfl, rfl, rfl, by decide +kernel, rfl, by decide +kernel, by decide +kernel⟩
theorem scNeedRows : FnScope ["rows", "answers", "row"] ["rows", "answers"] (defScope sNeedRows) := ⟨rfl, rfl, rfl, by decide +kernel, rfl, by decide +kernel, by decide +kernel⟩
theorem sqL_keep {K : PySem.W.Frag} {H H' : Hp} {l : Addr} {xs : List V} (s : Same H H') : SqL K H l xs → SqL K H' l xs
  | .inl (.inl h) => .inl (.inl (s _ _ h))
  | .inl (.inr ⟨o, h⟩) => .inl (.inr ⟨o, s _ _ h⟩)
  | .inr h => .inr h
theorem sqT_keep {K : PySem.W.Frag} {H H' : Hp} {l : Addr} {xs : List V} (s : Same H H') : SqT K H l xs → SqT K H' l xs
  | .inl (.inl h) => .inl (.inl (s _ _ h))
  | .inl (.inr ⟨o, h⟩) => .inl (.inr ⟨o, s _ _ h⟩)
  | .inr h => .inr h
def SqLT (K : PySem.W.Frag) (H : Hp) (l : Addr) (xs : List V) : Prop := SqL K H l xs ∨ SqT K H l xs
theorem SqLT.keep {K : PySem.W.Frag} {H H' : Hp} {l : Addr} {xs : List V} (s : Same H H') : SqLT K H l xs → SqLT K H' l xs
  | .inl h => .inl (sqL_keep s h)
  | .inr h => .inr (sqT_keep s h)
def iLT (K : PySem.W.Frag) (tl : TE) : TI := fun σ H R => tl σ H fun x H1 => ∃ a, x = .ref a ∧ (((∃ xs, SqL K H1 a xs) ∧ R (Itl K a) H1) ∨ ((∃ xs, SqT K H1 a xs) ∧ R (Itt K a) H1))
theorem pi_lt {X : Cx} {tg l : Expr} {tl : TE} (hl : PE X l tl) : PI X tg l (iLT X.K tl) := by
  refine ⟨fun pins s σ H R I h => ?_⟩
  refine thn (hl.run pins s σ H _ I h) fun v s1 ⟨x, H1, I1, r1, a, e, k⟩ => ?_
  subst e
  obtain rfl : v = Value.ref a := r1
  have fp : ∀ b ∈ [s1.heap.objs.size], _ := fun b hb => by
    obtain rfl : b = s1.heap.objs.size := by simpa using hb
    exact I1.fpOk (Nat.le_refl _) (I1.hok.fresh (Nat.le_refl _))
  rcases k with ⟨⟨xs, hq⟩, q⟩ | ⟨⟨xs, hq⟩, q⟩
  · obtain ⟨its, rv, pl, _⟩ := I1.list hq
    refine wpAny_pyIter_list pl.isList ⟨s1.heap.objs.size, [s1.heap.objs.size], _, _, H1, rfl, ?_, turn_list a _, ?_, fp, q⟩
    · exact I1.kept (t' := s1.toks) fun b o e => Heap.get?_push_of_some _ e
    · exact ⟨_, Heap.get?_push_size _ rfl, rfl, rfl⟩
  · obtain ⟨its, rv, pl, _⟩ := I1.tuple hq
    refine wpAny_pyIter_tuple (show s1.heap.IsTuple a its.toArray from pl) ⟨s1.heap.objs.size, [s1.heap.objs.size], _, _, H1, rfl, ?_, turn_tuple a _, ?_, fp, q⟩
    · exact I1.kept (t' := s1.toks) fun b o e => Heap.get?_push_of_some _ e
    · exact ⟨_, Heap.get?_push_size _ rfl, rfl, rfl⟩
theorem ne_ifL {A B : Prop} {x y : V} (e : x = y) (h : B) : if (!decide (x = y)) = true then A else B := by
  rw [decide_eq_true e]
  exact iteF h
theorem with_fin {G : Prop} (S : (Addr → Hp → Prop) → Prop) (Qd : Addr → Hp → Prop) (h1 : S Qd → G) (h2 : S Qd) : G := h1 h2
def txK (zs : List Str) : List Key := zs.map Sum.inr
theorem txK_V (zs : List Str) : (txK zs).map kV = zs.map V.str := by
  unfold txK
  rw [List.map_map]
  rfl
theorem txK_nd {zs : List Str} (h : zs.Nodup) : (txK zs).Nodup := by
  unfold txK List.Nodup
  exact List.pairwise_map.mpr (h.imp fun a e => a (Sum.inr.inj e))
def spIsList (K : PySem.W.Frag) : Sp := fun vs H Q _ => ∃ (l : Addr) (n : Nat) (xs : List V), vs = [.ref l, .int (n : Nat)] ∧ SqLT K H l xs ∧ xs.length ≤ n ∧ ∀ H', Same H H' → Q (.bl true) H'
/-- rows that may be asked of -/
structure RowsOk (zs : List Str) : Prop where
  few : zs.length ≤ 40
  nd : zs.Nodup
  nm : ∀ z ∈ zs, NameZ z
def spNeedRows (K : PySem.W.Frag) : Sp := fun vs H Q _ => ∃ (l d : Addr) (zs : List Str) (kvs : List (Key × V)), vs = [.ref l, .ref d] ∧ SqLT K H l (zs.map V.str) ∧ RowsOk zs ∧ H d = some (.dK kvs) ∧ ∀ H', Same H H' → Q .non H'
section
variable {P : Program} {w : World} {K : PySem.W.Frag} {mg : Str → Option Value} {base : Heap}
theorem ok_islist {f : Addr} {fd : FuncData} (F : Fun K "is_list" "is_list" sIsList f fd) (mi : mg "isinstance" = none) (ml : mg "len" = none) (mL : mg "list" = none) (mt : mg "tuple" = none) : FnOk P w K mg base CX0 1 f fd ["value", "most"] (spIsList K) := by
  refine F.ok scIsList (fun vs H Q E h => ?_) (fun cdv A outer s H vs Q E hr h => ?_)
  · obtain ⟨l, n, xs, rfl, _⟩ := h
    rfl
  · obtain ⟨l, n, xs, rfl, hx, hl, q⟩ := h
    refine ⟨_, pss_one (ps_ret (pe_and (pe_isiLT (pv 0) (by rfl) mi (pa_cons (pe_bltn (v := .ty "list") (u := .type "list") (by rfl) mL (by decide +kernel) rfl) (pa_cons (pe_bltn (v := .ty "tuple") (u := .type "tuple") (by rfl) mt (by decide +kernel) rfl) pa_nil)))
      (pe_one (pe_cmpR op_le (pe_callB call_len_seq (by rfl) ml PySem.boot_len (pa_cons (pv 0) pa_nil)) (pv 1) (nomark _))))), ?_⟩
    refine ⟨_, rfl, ⟨l, xs, rfl, hx⟩, fun T hT => ⟨_, rfl, iteT ?_⟩⟩
    have sT := Same.new (o := .tup [.ty "list", .ty "tuple"]) hT
    refine ⟨_, rfl, l, xs, rfl, hx.keep sT, _, rfl, _, _, rfl, rfl, ?_⟩
    have e : decide (((xs.length : Nat) : Int) ≤ (n : Int)) = true := decide_eq_true (by omega)
    show Q (.bl (decide (((xs.length : Nat) : Int) ≤ (n : Int)))) _
    rw [e]
    exact q _ sT
theorem ok_needrows {f fL fN : Addr} {fd fdL fdN : FuncData} {t1 : Tok} (F : Fun K "need_rows_with_answers" "need_rows_with_answers" sNeedRows f fd) (GL : FnOk P w K mg base CX0 1 fL fdL ["value", "most"] (spIsList K)) (gL : mg "is_list" = some (.ref fL)) (kL : PySem.W.keepIn K (.ref fL) = true) (bL : Binds K fdL ["value", "most"] [])
    (GN : FnOk P w K mg base CX0 1 fN fdN ["value"] spIsName) (gN : mg "is_name" = some (.ref fN)) (kN : PySem.W.keepIn K (.ref fN) = true) (bN : Binds K fdN ["value"] []) (gM : mg "MOST_PLAIN_ROWS" = some (.int 40 t1))
    (mi : mg "isinstance" = none) (ml : mg "len" = none) (ma : mg "all" = none) (ms : mg "set" = none) (md : mg "dict" = none) : FnOk P w K mg base CX0 2 f fd ["rows", "answers"] (spNeedRows K) := by
  refine F.ok scNeedRows (fun vs H Q E h => ?_) (fun cdv A outer s H vs Q E hr h => ?_)
  · obtain ⟨l, d, zs, kvs, rfl, _⟩ := h
    rfl
  · obtain ⟨l, d, zs, kvs, rfl, hl, ok, hd, q⟩ := h
    refine ⟨_, pss_cons (ps_if (PW.pt (pw_or (pt_not (pt_val (pe_call GL hr rfl gL kL bL .nil pass0 (pa_cons (pv 0) (pa_cons (pe_glob (v := .int 40) rfl gM ⟨_, rfl⟩) pa_nil)))))
        (pw_or1 (pt_not (pt_val (pe_callB (cr_all rfl) (by rfl) ma (by decide +kernel) (pa_cons (pe_lc (own := [("row", 2)]) (g := gName 2) (tt := tYes) (by rfl) scNeedRows.nd (pi_lt (pv 0))
          (blkOk_by (own := [("row", 2)]) (N := ["rows", "answers", "row"]) (sc := defScope sNeedRows) (by decide +kernel)) (fun _ _ _ _ _ => pg_name (i := 2) scNeedRows.nd rfl (.inl rfl)) (fun _ _ _ _ _ => pts_nil)
          (fun _ _ _ _ _ => pe_call GN hr rfl gN kN bN .nil pass0 (pa_cons (pv 2) pa_nil))) pa_nil))))))) (pss_one ps_never) pss_nil)
      (pss_cons (ps_if (pt_cmpR op_ne (pe_callB GS.cr_lenKs (by rfl) ml PySem.boot_len (pa_cons (pe_callTy (GS.cr_setKs rfl) (by rfl) ms (by decide +kernel) (pa_cons (pv 0) pa_nil)) pa_nil)) (pe_callB call_len_seq (by rfl) ml PySem.boot_len (pa_cons (pv 0) pa_nil)) (nomark _)) (pss_one ps_never) pss_nil)
      (pss_one (ps_if (pt_not (pt_val (pt_isi "dict" (pv 1) (hm := mi) (mn := md)))) (pss_one ps_never) pss_nil))), ?_⟩
    refine ⟨_, rfl, l, 40, _, rfl, hl, by rw [List.length_map]; exact ok.few, fun H1 s1 => ⟨_, rfl, iteF ?_⟩⟩
    refine ⟨_, rfl, l, rfl, ?_⟩
    have hl1 := hl.keep s1
    have all1 : ∀ n, (List.replicate n true).all id = true := fun n => List.all_eq_true.mpr fun x hx => by
      rw [(List.mem_replicate.mp hx).2]
      rfl
    refine with_fin (fun Qd : Addr → Hp → Prop => ∀ (D : Addr) (H3 : Hp) (n : Nat), Same H1 H3 → H3 D = some (.lst ((List.replicate n true).map V.bl)) → Qd D H3) ?_ (fun fin => ?_) ?_
    rotate_left
    · rcases hl1 with hl1 | hl1
      · refine .inl ⟨⟨_, hl1⟩, fun D hD => ?_⟩
        refine lc_list (xs := zs.map V.str) (fun i H3 => Same H1 H3 ∧ H3 D = some (.lst ((List.replicate i true).map V.bl))) ?_ ?_ ?_ ?_
        · exact ⟨Same.new hD, upd_same⟩
        · exact fun _ _ _ z => sqL_keep z.1 hl1
        · rintro i x H3 hx ⟨s3, e3⟩
          rw [List.getElem?_map] at hx
          obtain ⟨z, hz, rfl⟩ := Option.map_eq_some_iff.mp hx
          have hi : i < zs.length := (List.getElem?_eq_some_iff.mp hz).1
          have few := ok.few
          refine ⟨rfl, ?_⟩
          unfold tYes
          dsimp only
          rw [if_pos rfl]
          refine ⟨_, rfl, z, rfl, ok.nm z (List.mem_of_getElem? hz), fun H4 s4 => ⟨_, s4 _ _ e3, ?_, fun c o e => (upd_ne (ne_of_none e hD)).trans (s4 _ _ (s3 _ _ e)), ?_⟩⟩
          · rw [List.length_map, List.length_replicate]
            exact small1000 (by omega)
          · rw [upd_same, List.replicate_succ', List.map_append]
            rfl
        · rintro H3 ⟨s3, e3⟩
          exact fin D H3 _ s3 e3

      · refine .inr ⟨⟨_, hl1⟩, fun D hD => ?_⟩
        refine lc_tup (xs := zs.map V.str) (fun i H3 => Same H1 H3 ∧ H3 D = some (.lst ((List.replicate i true).map V.bl))) ?_ ?_ ?_ ?_
        · exact ⟨Same.new hD, upd_same⟩
        · exact fun _ _ _ z => sqT_keep z.1 hl1
        · rintro i x H3 hx ⟨s3, e3⟩
          rw [List.getElem?_map] at hx
          obtain ⟨z, hz, rfl⟩ := Option.map_eq_some_iff.mp hx
          have hi : i < zs.length := (List.getElem?_eq_some_iff.mp hz).1
          have few := ok.few
          refine ⟨rfl, ?_⟩
          unfold tYes
          dsimp only
          rw [if_pos rfl]
          refine ⟨_, rfl, z, rfl, ok.nm z (List.mem_of_getElem? hz), fun H4 s4 => ⟨_, s4 _ _ e3, ?_, fun c o e => (upd_ne (ne_of_none e hD)).trans (s4 _ _ (s3 _ _ e)), ?_⟩⟩
          · rw [List.length_map, List.length_replicate]
            exact small1000 (by omega)
          · rw [upd_same, List.replicate_succ', List.map_append]
            rfl
        · rintro H3 ⟨s3, e3⟩
          exact fin D H3 _ s3 e3

    · intro D H3 n s3 e3
      refine ⟨D, _, rfl, .of e3, ?_⟩
      rw [all1]
      refine ⟨_, rfl, iteF ?_⟩
      have few := ok.few
      have hl3 := hl1.keep s3
      have lk : (txK zs).length = zs.length := List.length_map ..
      refine ⟨_, rfl, l, txK zs, rfl, by rw [txK_V]; exact hl3, txK_nd ok.nd, by omega, fun p hp => ?_⟩
      have s4 := Same.new (o := SetK P w p (GS.inK (txK zs)) (txK zs).length) hp
      refine ⟨p, _, _, rfl, upd_same, by omega, _, rfl, l, _, rfl, hl3.keep s4, rfl, _, rfl, ne_ifL (by rw [List.length_map, lk]) ?_⟩
      exact ⟨_, rfl, _, _, _, _, _, rfl, .ty _, .base (.dK (s4 _ _ (s3 _ _ (s1 _ _ hd)))), kit_ty (a := "dict") (b := "dict") (r := true) (by decide +kernel), _, rfl, iteF (q _ (s1.trans (s3.trans s4)))⟩
end
end G
set_option Elab.async false
set_option linter.all false
set_option maxRecDepth 100000
set_option maxHeartbeats 2000000
/-! DV: dicts whose keys are tuples: setdefault, list of the values. -/
namespace DvT
open PySem PySem.Spec PyProof.Rows L2
section
variable {prog : Program} {w : World} {A : Around} {E : Value → Shared → Prop} {s : Shared} {d : Addr} {es : Array DictEntry} {ep : Nat}
theorem vals_meet (hd : (d == sysModules) = false) :
    MeetsIn prog w (Builtin.«dict.values» ⟨[.ref d], []⟩) (fun _ R s => DT.Raw s.heap d es ep ∧ R (.ok (.ret (.ref s.heap.objs.size))) { s with heap := s.heap.push { cls := .type "dict_values", data := .fields #[.ref d] } }) :=
  .of_wp fun A R s ⟨z, q⟩ => by
    refine wpAny_bind ?_
    unfold Builtin.Dict.noArgs
    refine wpAny_bind (wpAny_notOrdered_dict z.typeIs ?_)
    show wpAny _ _ (pure d) _ _ s
    refine wpAny_pure (show wpAny _ _ (Builtin.Dict.showsAll d >>= _) _ _ s from ?_)
    unfold Builtin.Dict.showsAll
    rw [if_neg (by rw [hd]; exact Bool.false_ne_true)]
    exact wpAny_bind (wpAny_pure (wpAny_bind (wpAny_newObj_type (wpAny_pure ⟨_, rfl, q⟩))))
theorem vals_iter {v : Addr} {Q : Value → Shared → Prop} (hv : s.heap.IsValuesView v d) (z : DT.Raw s.heap d es ep)
    (q : Q (.ref s.heap.objs.size) { s with heap := s.heap.push { cls := .type "dict_valueiterator", data := .fields #[.ref d, .int 0 0, .int es.size 0, .int ep 0] } }) : wpAny (model prog w) A (pyIter (.ref v)) Q E s := by
  obtain ⟨ov, o1, o2, o3⟩ := id hv
  obtain ⟨od, z1, z2, z3⟩ := id z
  refine wpAny_pyIter_slot hv.typeIs PySem.F.slot_dict_values_iter (wpAny_call_entry PySem.F.slot_dict_values_iter hv.typeIs PySem.F.entry_dict_values_iter ?_ (PySem.F.args_dict_values_iter_1 _))
  unfold Builtin.«dict_values.__iter__»
  refine wpAny_bind (wpAny_pure (wpAny_bind ?_))
  unfold Builtin.Dict_items.dictOf
  refine wpAny_bind (wpAny_field o1 o3 (x := .ref d) rfl (wpAny_pure (wpAny_bind ?_)))
  unfold Builtin.Dict_items.newIterator
  refine wpAny_bind (wpAny_dictEntries z1 z3 (wpAny_bind (wpAny_dictEpoch z1 z3 ?_)))
  have own : Builtin.Dict_items.ownsTuple "dict_valueiterator" = false := by decide
  simp only [own, Bool.false_eq_true, if_false]
  refine wpAny_newObj_type (wpAny_pure ⟨_, rfl, "dict_valueiterator", _, ⟨_, Heap.get?_push_size _ rfl, rfl⟩, PySem.F.slot_dict_valueiterator_next.lookup, ?_⟩)
  simpa [rawInt] using q
theorem vals_next {it : Addr} {i : Nat} {en : DictEntry} {Q : Option Value → Shared → Prop} (hit : s.heap.IsValIter it d i es.size ep) (z : DT.Raw s.heap d es ep) (hx : es[i]? = some en)
    (q : ∀ h', h'.IsValIter it d (i + 1) es.size ep → Heap.SameBut it s.heap h' → Q (some en.val) { s with heap := h' }) : wpAny (model prog w) A (pyNext (.ref it)) Q E s := by
  obtain ⟨oi, i1, i2, i3⟩ := id hit
  obtain ⟨od, z1, z2, z3⟩ := id z
  unfold pyNext
  refine wpAny_bind (wpAny_attempt (wpAny_callSpecial?_slot (name := Str.ofString "__next__") hit.typeIs PySem.F.slot_dict_valueiterator_next (wpAny_call_entry PySem.F.slot_dict_valueiterator_next hit.typeIs PySem.F.entry_dict_valueiterator_next ?_ (PySem.F.args_dict_valueiterator_next_1 _))))
  refine wpAny_bind (wpAny_pure (wpAny_bind (wpAny_bind ?_)))
  first | refine wpAny_bind (wpAny_typeNameOfWhole_valiter hit.typeIs (wpAny_pure (wpAny_bind (wpAny_fieldsOf i1 i3 ?_)))) | refine wpAny_bind (wpAny_typeNameOf_valiter hit.typeIs (wpAny_pure (wpAny_bind (wpAny_fieldsOf i1 i3 ?_))))
  have own : Builtin.Dict_items.ownsTuple "dict_valueiterator" = false := by decide
  simp only [own, Bool.false_eq_true, if_false]
  show wpAny _ _ (if (Value.ref d == Value.none) = true then _ else _) _ _ s
  rw [if_neg (show ¬ ((Value.ref d == Value.none) = true) from Bool.false_ne_true)]
  refine wpAny_bind (wpAny_pure (wpAny_bind (wpAny_dictEntries z1 z3 ?_)))
  rw [if_neg (by simp)]
  refine wpAny_bind (wpAny_pure (wpAny_bind (wpAny_dictEpoch z1 z3 ?_)))
  rw [if_neg (by simp)]
  obtain ⟨lt, een⟩ := Array.getElem?_eq_some_iff.mp hx
  refine wpAny_pure ?_
  simp only [show ¬ ((i : Int) < 0) from by omega, if_false, Int.toNat_natCast, Array.getElem?_eq_getElem lt]
  refine wpAny_bind ?_
  first | refine wpAny_bind (wpAny_typeNameOfWhole_valiter hit.typeIs (wpAny_pure (wpAny_bind (wpAny_isOneOf_valiter hit.typeIs ?_)))) | refine wpAny_bind (wpAny_typeNameOf_valiter hit.typeIs (wpAny_pure (wpAny_bind (wpAny_isOneOf_valiter hit.typeIs ?_))))
  show wpAny _ _ (setField (.ref it) 1 (rawInt ((i : Int) + 1)) >>= _) _ _ s
  refine wpAny_bind (wpAny_setField i1 i3 (by simp) ?_)
  have hit' : (s.heap.update it (Obj.mapFields (·.setIfInBounds 1 (rawInt ((i : Int) + 1))))).IsValIter it d (i + 1) es.size ep :=
    ⟨_, Heap.get?_update_self _ i1 (Obj.isFreed_of_fields (Obj.data_mapFields i3 _)), (Obj.cls_mapFields ..).trans i2, by rw [Obj.data_mapFields i3]; simp [rawInt]⟩
  refine wpAny_bind (wpAny_holding (wpAny_bind (wpAny_isOneOf_valiter (s := { s with heap := s.heap.update it (Obj.mapFields (·.setIfInBounds 1 (rawInt ((i : Int) + 1)))) }) hit'.typeIs ?_)))
  refine wpAny_bind (wpAny_isOneOf_valiter (s := { s with heap := s.heap.update it (Obj.mapFields (·.setIfInBounds 1 (rawInt ((i : Int) + 1)))) }) hit'.typeIs ?_)
  show wpAny _ _ (pure es[i].val) _ _ _
  exact wpAny_pure (wpAny_pure ⟨_, rfl, wpAny_pure (by rw [een]; exact q _ hit' (Heap.SameBut.update ..))⟩)
theorem vals_end {it : Addr} {i : Nat} {Q : Option Value → Shared → Prop} (hh : A.handled = none) (hit : s.heap.IsValIter it d i es.size ep) (z : DT.Raw s.heap d es ep) (hx : es.size ≤ i)
    (q : ∀ h', Heap.ExtBut it s.heap h' → Q none { s with heap := h' }) : wpAny (model prog w) A (pyNext (.ref it)) Q E s := by
  obtain ⟨oi, i1, i2, i3⟩ := id hit
  obtain ⟨od, z1, z2, z3⟩ := id z
  unfold pyNext
  refine wpAny_bind (wpAny_attempt (wpAny_callSpecial?_slot (name := Str.ofString "__next__") hit.typeIs PySem.F.slot_dict_valueiterator_next (wpAny_call_entry PySem.F.slot_dict_valueiterator_next hit.typeIs PySem.F.entry_dict_valueiterator_next ?_ (PySem.F.args_dict_valueiterator_next_1 _))))
  refine wpAny_bind (wpAny_pure (wpAny_bind (wpAny_bind ?_)))
  first | refine wpAny_bind (wpAny_typeNameOfWhole_valiter hit.typeIs (wpAny_pure (wpAny_bind (wpAny_fieldsOf i1 i3 ?_)))) | refine wpAny_bind (wpAny_typeNameOf_valiter hit.typeIs (wpAny_pure (wpAny_bind (wpAny_fieldsOf i1 i3 ?_))))
  have own : Builtin.Dict_items.ownsTuple "dict_valueiterator" = false := by decide
  simp only [own, Bool.false_eq_true, if_false]
  show wpAny _ _ (if (Value.ref d == Value.none) = true then _ else _) _ _ s
  rw [if_neg (show ¬ ((Value.ref d == Value.none) = true) from Bool.false_ne_true)]
  refine wpAny_bind (wpAny_pure (wpAny_bind (wpAny_dictEntries z1 z3 ?_)))
  rw [if_neg (by simp)]
  refine wpAny_bind (wpAny_pure (wpAny_bind (wpAny_dictEpoch z1 z3 ?_)))
  rw [if_neg (by simp)]
  refine wpAny_pure ?_
  simp only [show ¬ ((i : Int) < 0) from by omega, if_false, Int.toNat_natCast, Array.getElem?_eq_none hx]
  refine wpAny_bind ?_
  first | refine wpAny_bind (wpAny_typeNameOfWhole_valiter hit.typeIs (wpAny_pure ?_)) | refine wpAny_bind (wpAny_typeNameOf_valiter hit.typeIs (wpAny_pure ?_))
  show wpAny _ _ (setField (.ref it) 0 .none >>= _) _ _ s
  refine wpAny_bind (wpAny_setField i1 i3 (by simp) ?_)
  show wpAny _ _ (newExc (.type "StopIteration") [] >>= _) _ _ _
  refine wpAny_bind ?_
  simp only [newExc, newTuple]
  refine wpAny_bind (wpAny_newObj_type ?_ (by size_fits))
  refine wpAny_bind (m := firstArgMember _ _) (wpAny_of_eq (a := Value.none) (by first | rfl | (simp only [firstArgMember]; rfl)) (wpAny_newObj_type ?_ (by size_fits)))
  simp only [raiseNew]
  refine wpAny_bind (wpAny_handled ?_)
  rw [show A.in1.handled = none from hh]
  refine wpAny_bind (wpAny_pure (wpAny_throw ?_))
  refine wpAny_bind (wpAny_isInstance (T := "StopIteration") (b := true) ⟨_, Heap.get?_push_size _ rfl, rfl⟩ isSubtype_stop ?_)
  exact wpAny_pure (q _ (((Heap.SameBut.update ..).extBut.push _).push _))
theorem vals_walk (hh : A.handled = none) (I : Addr) (hne : d ≠ I) : Walks prog w A I [I, d] [I] es.size (fun i v => ∃ en : DictEntry, es[i]? = some en ∧ v = en.val) (fun i h => h.IsValIter I d i es.size ep ∧ DT.Raw h d es ep) where
  sub := fun b hb => by simp at hb; simp [hb]
  frame := fun _ _ _ st hk => ⟨st.1.at fun o e => hk I (by simp) o e, st.2.at' fun o e => hk d (by simp) o e⟩
  item := fun i s Q E hi st hQ => by
    have hx : es[i]? = some es[i] := Array.getElem?_eq_getElem hi
    refine vals_next st.1 st.2 hx fun h' hit' sb => ?_
    exact hQ _ h' s.toks ⟨_, hx, rfl⟩ ⟨hit', st.2.at' fun o e => (sb.2 d hne).trans e⟩ fun b ob hb e => (sb.2 b (fun z => hb (by simp [z]))).trans e
  done := fun s Q E st hQ => vals_end hh st.1 st.2 (Nat.le_refl _) fun h' he' => hQ h' s.toks fun b ob hb e => he' b ob (fun z => hb (by simp [z])) e
  self := fun _ _ _ _ st hQ => wpAny_pyIter_valiter st.1 hQ
theorem vals_src {r : Addr} : PySem.W.KdlSrc prog w "dict_values" r d es.size (fun i v => ∃ en : DictEntry, es[i]? = some en ∧ v = en.val) (fun h => h.IsValuesView r d ∧ DT.Raw h d es ep) where
  type := fun _ hm => hm.1.typeIs
  there := fun _ hm => ⟨let ⟨_, ho, _⟩ := hm.1; Heap.lt_size ho, hm.2.lt⟩
  keep := fun _ _ hm hk => ⟨let ⟨o, ho, x⟩ := hm.1; ⟨o, hk r (.inl rfl) o ho, x⟩, hm.2.at' fun o e => hk d (.inr rfl) o e⟩
  notList := by decide
  notTuple := by decide
  hint := fun _ _ _ _ hm hq => PySem.W.kdl_hint_values hm.1.typeIs hq
  iter := fun _ _ hh hm => ⟨_, _, (fun _ _ hq => vals_iter hm.1 hm.2 hq), vals_walk hh _ (Nat.ne_of_lt hm.2.lt), ⟨⟨_, Heap.get?_push_size _ rfl, rfl, rfl⟩, hm.2.push _⟩⟩
end
/-- list(e.values()), the keys tuples -/
def rValsT : V → Hp → VK → Prop := fun x H Q => ∃ (d : Addr) (kvs : List (List Key × V)), x = .ref d ∧ H d = some (.dT kvs) ∧ ∀ p, H p = none → Q (.ref p) (upd H p (.lst (kvs.map (·.2))))
def tValsT (te : TE) : TE := fun σ H Q => te σ H fun x H1 => rValsT x H1 Q
section
variable {X : Cx} {e : Expr} {te : TE} {p apos cpos pos : Pos}
theorem kt_vals {H : Hp} {kvs : List (List Key × V)} {xs : List (List Key × Addr × Value)} (r : KT H kvs xs) : Vals (kvs.map (·.2)) (xs.map fun x => x.2.2) := by
  unfold KT at r
  induction r with
  | nil => exact .nil
  | cons h t ih => exact .cons h.2.2 ih
theorem pe_valsT (hc : X.calm = true) (he : PE X e te) (hg : Gl X "list") (hm : X.mg "list" = none) (hv : bootBuiltins "list" = some (.type "list")) (hbase : attributeBase e "values" X.env (eval e X.env) = eval e X.env := by rfl) (hline : (apos.endLine == cpos.line) = true := by rfl)
    (hs : starEach [.Call (.Attribute e "values" apos) [] [] cpos] X.env = (false, eval (.Call (.Attribute e "values" apos) [] [] cpos) X.env) :: starEach [] X.env := by rfl) :
    PE X (.Call (.Name "list" p) [.Call (.Attribute e "values" apos) [] [] cpos] [] pos) (tValsT te) := by
  refine ⟨fun pins s σ H Q I hq => ?_⟩
  refine wpAny_Call_Name_kw (ld_blt I hg hm hv (PyProof.Rows.callWith_type1 ?_ hs rfl))
  rw [hs]
  show wpAny _ _ (spliced ((false, eval (.Call (.Attribute e "values" apos) [] [] cpos) X.env) :: backTo pos (starEach [] X.env))) _ _ s
  refine Calls.spliced_cons (wpAny_Call_method (T := "dict") (id := "dict.values") hbase rfl hline PySem.F.plainAttrs_dict PySem.F.slot_dict_values PySem.F.type_dict_values (thn (he.run pins s σ H _ I hq) fun u s1 ⟨x, H1, I1, rx, d, kvs, ex, hd, q⟩ => ?_))
  subst ex
  obtain rfl : u = Value.ref d := rx
  obtain ⟨z, hs0, ks, pr, o, es, ep, ho, hx, hdt, hent, hnd⟩ := (show ObjOk X.prog X.w H1 s1.heap d (.dT kvs) from I1.hok d _ hd)
  have hraw : DT.Raw s1.heap d es ep := ⟨o, ho, hx, hdt⟩
  have l1 : es.size = ks.length := size_of_entries hent
  have l2 : kvs.length = ks.length := Paired.length pr
  refine ⟨hraw.typeIs, fun b e => ?_, ?_⟩
  · cases e
    exact ⟨o, ho, hx.2.1⟩
  show wpAny _ _ (callWith cpos (.builtin "dict.values") [.ref d] [] []) _ X.xe s1
  refine method_meetsIn PySem.F.slot_dict_values PySem.F.entry_dict_values rfl (PySem.evalArgs_none ⟨rfl, hraw.typeIs, PySem.F.args_dict_values_1 _, _, vals_meet (es := es) (ep := ep) hs0, hraw, ?_⟩)
  refine Calls.spliced_nil ?_
  have I2 : Inv X pins σ H1 { s1 with heap := s1.heap.push { cls := .type "dict_values", data := .fields #[.ref d] } } := I1.kept (t' := s1.toks) fun b ob q => Heap.get?_push_of_some _ q
  refine PySem.W.kdl_call (vals_src (d := d) (es := es) (ep := ep)) (I1.ok.hd hc) ⟨⟨_, Heap.get?_push_size _ rfl, rfl, rfl⟩, hraw.push _⟩ (by omega) fun h' tk acc c' kp ge ia => ?_
  have ea : acc.toList = ks.map fun x => x.2.2 := by
    have hl : acc.toList.length = ks.length := by rw [Array.length_toList, ia.1]; exact l1
    apply List.ext_getElem?
    intro j
    rw [List.getElem?_map]
    cases hj : acc.toList[j]? with
    | none =>
      rw [List.getElem?_eq_none (by have := List.getElem?_eq_none_iff.mp hj; omega)]
      all_goals rfl
    | some v =>
      obtain ⟨en, hen, hv⟩ := ia.2 j v (by rw [← Array.getElem?_toList]; exact hj)
      have qe := entry_at hent j
      rw [hen] at qe
      cases hb : ks[j]? with
      | none =>
        rw [hb] at qe
        exact nomatch (show some en = none from qe)
      | some b =>
        rw [hb] at qe
        have e2 : en = entryOfKey (tupleKind (mixKind X.prog X.w)) b := Option.some.inj qe
        rw [hv, e2]
        all_goals rfl
  have rv : Vals (kvs.map (·.2)) acc.toList := by
    rw [ea]
    exact kt_vals pr
  refine ⟨.ref _, _, I2.laid (t' := tk) (o := .lst (kvs.map (·.2))) kp (Nat.le_refl _) ?_, rfl, q _ (I2.hok.fresh (Nat.le_refl _))⟩
  exact ⟨by rw [List.length_map]; omega, acc.toList, c', rv, by rw [Array.toArray_toList]; exact ge⟩
end
/-- d.setdefault(y, z), y a tuple -/
def tSetdT (td ty tx : TE) : TE := fun σ H Q => td σ H fun x H1 => ∃ a, x = .ref a ∧ IsD H1 a ∧ ty σ H1 fun y H2 => tx σ H2 fun z H3 => ∃ (kvs : List (List Key × V)) (k : List Key) (b : Addr), H3 a = some (.dT kvs) ∧ y = .ref b ∧ H3 b = some (.tup (k.map kV)) ∧ kvs.length < sizeLine ∧
  (∀ v, valV kvs k = some v → Q v H3) ∧ (valV kvs k = none → Q z (upd H3 a (.dT (putK kvs k z))))
section
variable {X : Cx} {pins : List (Addr × Obj)} {σ : L2.St} {H : Hp} {s : Shared} {a b : Addr} {u r : Value} {d : V} {k : List Key} {A : Around} {E : Value → Shared → Prop}
theorem setd_t {kvs : List (List Key × V)} {Q : Value → Shared → Prop} (hu : A.units + 1 < cLine) (I : Inv X pins σ H s) (e : H a = some (.dT kvs)) (eb : H b = some (.tup (k.map kV))) (rd : RelV d r) (hl : kvs.length < sizeLine)
    (h1 : ∀ v, valV kvs k = some v → ∀ (w' : Value) (s' : Shared), Inv X pins σ H s' → RelV v w' → Q w' s') (h2 : valV kvs k = none → ∀ (w' : Value) (s' : Shared), Inv X pins σ (upd H a (.dT (putK kvs k d))) s' → RelV d w' → Q w' s') :
    wpAny (model X.prog X.w) A (call (.builtin "dict.setdefault") [.ref a, .ref b, r]) Q E s := by
  obtain ⟨z, hd, xs, rel, dd⟩ := dt_of I.hok e
  have hz : xs.length ≤ sizeLine := by rw [← Paired.length rel]; exact z
  refine call_setdefault_heap (hsz := hz) (tupleKind_room_in1 hu) (key_of I.hok eb) hd dd (fun p hp => ?_) fun hn h' dd' hs => ?_
  · have rr := rel.val k
    rw [hp] at rr
    cases ev : valV kvs k with
    | none =>
      rw [ev] at rr
      exact (show False from rr).elim
    | some v0 =>
      rw [ev] at rr
      exact h1 v0 ev _ _ (I.tok _) rr
  · have rr := rel.val k
    rw [hn] at rr
    cases ev : valV kvs k with
    | some v0 =>
      rw [ev] at rr
      exact (show False from rr).elim
    | none =>
      have hl2 : (putK kvs k d).length ≤ sizeLine := by
        have := length_putK kvs k d
        omega
      obtain ⟨q, es, ep, hq, g2, g3, g4, _, g5⟩ := dd'
      refine h2 ev _ _ (d_write (t' := s.toks + (tupleKind (mixKind X.prog X.w)).draws k) I (by rw [e]; exact True.intro) hs ⟨q, hq⟩ ⟨hl2, hd, _, (rel.put k eb rd).keeps fun c ys ec => ?_, q, es, ep, hq, g2, g3, g4, g5⟩) rd
      rw [upd_ne (ne_of ec e (fun y => nomatch y))]
      exact ec
end
section
variable {X : Cx} {o e f : Expr} {td ty tx : TE} {apos cpos : Pos}
theorem pe_setdT (hu : X.A.units + 2 < cLine) (ho : PE X o td) (he : PE X e ty) (hf : PE X f tx) (m : M2 X o "setdefault" apos e f cpos) : PE X (.Call (.Attribute o "setdefault" apos) [e, f] [] cpos) (tSetdT td ty tx) := by
  refine ⟨fun pins s σ H Q I h => ?_⟩
  refine wpAny_Call_method m.base m.few m.line PySem.F.plainAttrs_dict PySem.F.slot_dict_setdefault PySem.F.type_dict_setdefault (thn (ho.run pins s σ H _ I h) fun u s1 ⟨x, H1, I1, rx, a, ex, d, q1⟩ => ?_)
  subst ex
  obtain rfl : u = Value.ref a := rx
  obtain ⟨t1, t2, _⟩ := isD_at I1 d
  refine ⟨t1, t2, ?_⟩
  rw [m.trees]
  refine Calls.callWith_builtin rfl (Calls.evalArgs_plain (Calls.spliced_cons (thn (he.run pins s1 σ H1 _ I1 q1) fun iv s2 ⟨y, H2, I2, ry, q2⟩ =>
    Calls.spliced_cons (thn (hf.run pins s2 σ H2 _ I2 q2) fun fv s3 ⟨z, H3, I3, rz, kvs, k, b, ea, ey, eb, hl, q3, q4⟩ => Calls.spliced_nil ?_))))
  subst ey
  obtain rfl : iv = Value.ref b := ry
  exact setd_t (by exact Nat.lt_of_succ_lt hu) I3 ea eb rz hl (fun v hv w' s4 I4 rw' => ⟨v, _, I4, rw', q3 v hv⟩) fun hn w' s4 I4 rw' => ⟨z, _, I4, rw', q4 hn⟩
end
end DvT
set_option Elab.async false
set_option linter.all false
set_option maxRecDepth 100000
set_option maxHeartbeats 4000000
/-! SH2: answers made whole, first_ones. -/
namespace G
open PySem PySem.Spec PyProof.Rows L2 NdefX DvT
abbrev sAnsOf : Stmt := topS 14
abbrev sFullA : Stmt := topS 15
abbrev sItemA : Stmt := topS 16
abbrev sFirst : Stmt := topS 21
abbrev sAnsFor : Stmt := topS 24
abbrev sFullAs : Stmt := topS 25
theorem scAnsOf : FnScope ["value"] ["value"] (defScope sAnsOf) := ⟨rfl, rfl, rfl, by decide +kernel, rfl, by decide +kernel, by decide +kernel⟩
theorem scFullA : FnScope ["value", "item"] ["value"] (defScope sFullA) := ⟨rfl, rfl, rfl, by decide +kernel, rfl, by decide +kernel, by decide +kernel⟩
theorem scItemA : FnScope ["value"] ["value"] (defScope sItemA) := ⟨rfl, rfl, rfl, by decide +kernel, rfl, by decide +kernel, by decide +kernel⟩
theorem scFirst : FnScope ["rows", "answers", "found", "firsts", "row"] ["rows", "answers"] (defScope sFirst) := ⟨rfl, rfl, rfl, by decide +kernel, rfl, by decide +kernel, by decide +kernel⟩
theorem scAnsFor : FnScope ["row", "answers"] ["row", "answers"] (defScope sAnsFor) := ⟨rfl, rfl, rfl, by decide +kernel, rfl, by decide +kernel, by decide +kernel⟩
theorem scFullAs : FnScope ["rows", "answers", "row"] ["rows", "answers"] (defScope sFullAs) := ⟨rfl, rfl, rfl, by decide +kernel, rfl, by decide +kernel, by decide +kernel⟩
/-! ### what is walked: a list or a tuple, one way -/
def iLW (K : PySem.W.Frag) (tl : TE) : TI := fun σ H R => tl σ H fun x H1 => ∃ a xs, x = .ref a ∧ SqLT K H1 a xs ∧ ∀ (J : It) (G : Hp → Prop), Walk J xs.length G (YAt xs) → (∀ H2, (SqL K H1 a xs → SqL K H2 a xs) → (SqT K H1 a xs → SqT K H2 a xs) → G H2) → R J H1
theorem sqL_off {K : PySem.W.Frag} {H H' : Hp} {D l : Addr} {kvs : List (List Key × V)} {xs : List V} (hd : H D = some (.dT kvs)) (k : ∀ c o, c ≠ D → H c = some o → H' c = some o) : SqL K H l xs → SqL K H' l xs
  | .inl (.inl h) => .inl (.inl (k _ _ (ne_of h hd (fun z => nomatch z)) h))
  | .inl (.inr ⟨o, h⟩) => .inl (.inr ⟨o, k _ _ (ne_of h hd (fun z => nomatch z)) h⟩)
  | .inr h => .inr h
theorem sqT_off {K : PySem.W.Frag} {H H' : Hp} {D l : Addr} {kvs : List (List Key × V)} {xs : List V} (hd : H D = some (.dT kvs)) (k : ∀ c o, c ≠ D → H c = some o → H' c = some o) : SqT K H l xs → SqT K H' l xs
  | .inl (.inl h) => .inl (.inl (k _ _ (ne_of h hd (fun z => nomatch z)) h))
  | .inl (.inr ⟨o, h⟩) => .inl (.inr ⟨o, k _ _ (ne_of h hd (fun z => nomatch z)) h⟩)
  | .inr h => .inr h
theorem pi_lw {X : Cx} {tg l : Expr} {tl : TE} (hl : PE X l tl) : PI X tg l (iLW X.K tl) := by
  refine ⟨fun pins s σ H R I h => ?_⟩
  refine thn (hl.run pins s σ H _ I h) fun v s1 ⟨x, H1, I1, r1, a, xs, e, k, q⟩ => ?_
  subst e
  obtain rfl : v = Value.ref a := r1
  have fp : ∀ b ∈ [s1.heap.objs.size], _ := fun b hb => by
    obtain rfl : b = s1.heap.objs.size := by simpa using hb
    exact I1.fpOk (Nat.le_refl _) (I1.hok.fresh (Nat.le_refl _))
  rcases k with hq | hq
  · obtain ⟨its, rv, pl, _⟩ := I1.list hq
    refine wpAny_pyIter_list pl.isList ⟨s1.heap.objs.size, [s1.heap.objs.size], _, _, H1, rfl, ?_, turn_list a _, ?_, fp, q _ _ walk_list fun H2 s2 _ => s2 hq⟩
    · exact I1.kept (t' := s1.toks) fun b o e => Heap.get?_push_of_some _ e
    · exact ⟨_, Heap.get?_push_size _ rfl, rfl, rfl⟩
  · obtain ⟨its, rv, pl, _⟩ := I1.tuple hq
    refine wpAny_pyIter_tuple (show s1.heap.IsTuple a its.toArray from pl) ⟨s1.heap.objs.size, [s1.heap.objs.size], _, _, H1, rfl, ?_, turn_tuple a _, ?_, fp, q _ _ walk_tup fun H2 _ s2 => s2 hq⟩
    · exact I1.kept (t' := s1.toks) fun b o e => Heap.get?_push_of_some _ e
    · exact ⟨_, Heap.get?_push_size _ rfl, rfl, rfl⟩
theorem dc_it {J : It} {n : Nat} {G : Hp → Prop} {Y : Nat → Hp → V → Hp → Prop} (w : Walk J n G Y) {g : TG} {tt : TT} {tk tv : TE} {vs : List Nat} {σ : L2.St} {H1 : Hp} {D : Addr} {Qd : Hp → Prop} (Pv : Nat → Hp → Prop) (h0 : Pv 0 (upd H1 D (.dK []))) (hG : ∀ i H, i ≤ n → Pv i H → G H)
    (hs : ∀ i x H H', i < n → Pv i H → Y i H x H' → g x (wipe σ vs) H' fun σ2 H2 => wipe σ2 vs = wipe σ vs ∧ tt σ2 H2 fun b H3 =>
      if b = true then tk σ2 H3 fun y H4 => tv σ2 H4 fun z H5 => ∃ kvs k, y = kV k ∧ H5 D = some (.dK kvs) ∧ kvs.length < sizeLine ∧ Pv (i + 1) (upd H5 D (.dK (putK kvs k z))) else Pv (i + 1) H3) (hd : ∀ H, Pv n H → Qd H) :
    ∃ W : Nat → Nat → Hp → Prop, (∃ m, W 0 m (upd H1 D (.dK []))) ∧ ∀ i m H, W i m H →
      (J.stop i H ∧ Qd H) ∨ (J.go i H ∧ ∃ Nx : Hp → Prop, (∀ H', Nx H' → ∃ m', m' < m ∧ W (i + 1) m' H') ∧ ∀ x H', J.yld i H x H' → g x (wipe σ vs) H' fun σ2 H2 => wipe σ2 vs = wipe σ vs ∧ tt σ2 H2 fun b H3 =>
        if b = true then tk σ2 H3 fun y H4 => tv σ2 H4 fun z H5 => ∃ kvs k, y = kV k ∧ H5 D = some (.dK kvs) ∧ kvs.length < sizeLine ∧ Nx (upd H5 D (.dK (putK kvs k z))) else Nx H3) := by
  refine ⟨fun i m H => m = n - i ∧ i ≤ n ∧ Pv i H, ⟨n, by simp, Nat.zero_le _, h0⟩, ?_⟩
  rintro i m H ⟨rfl, hi, p⟩
  have q := hG i H hi p
  by_cases hlt : i < n
  · exact .inr ⟨w.goes i H hlt q, Pv (i + 1), fun H' p' => ⟨n - (i + 1), by omega, rfl, hlt, p'⟩, fun x H' y => hs i x H H' hlt p (w.yields i H x H' hlt q y)⟩
  · have e : i = n := by omega
    subst e
    exact .inl ⟨w.stops H q, hd H p⟩
/-! ### answers -/
def OkI (n : Int) : Prop := -9999 ≤ n ∧ n ≤ 9999
/-- v is an answer, ns what it stands for -/
def AnsAt (H : Hp) (v : V) (ns : List Int) : Prop := ((∃ i, v = .int i ∧ ns = [i]) ∨ ∃ a, v = .ref a ∧ H a = some (.tup (ns.map V.int)) ∧ 1 ≤ ns.length ∧ ns.length ≤ 3) ∧ ∀ n ∈ ns, OkI n
theorem AnsAt.at {H H' : Hp} {v : V} {ns : List Int} (h : AnsAt H v ns) (k : ∀ a xs, H a = some (.tup xs) → H' a = some (.tup xs)) : AnsAt H' v ns := by
  obtain ⟨h1 | ⟨a, e, ha, l⟩, h2⟩ := h
  · exact ⟨.inl h1, h2⟩
  · exact ⟨.inr ⟨a, e, k _ _ ha, l⟩, h2⟩
theorem AnsAt.same {H H' : Hp} {v : V} {ns : List Int} (h : AnsAt H v ns) (s : Same H H') : AnsAt H' v ns := h.at fun a _ e => s a _ e
/-- an answer of each row -/
structure AnsOf (H : Hp) (d : Addr) (kvs : List (Key × V)) (zs : List Str) (an : Str → List Int) : Prop where
  d : H d = some (.dK kvs)
  is : ∀ z ∈ zs, ∃ v, valV kvs (Sum.inr z) = some v ∧ AnsAt H v (an z)
theorem AnsOf.same {H H' : Hp} {d : Addr} {kvs : List (Key × V)} {zs : List Str} {an : Str → List Int} (h : AnsOf H d kvs zs an) (s : Same H H') : AnsOf H' d kvs zs an :=
  ⟨s _ _ h.d, fun z hz => let ⟨v, e, a⟩ := h.is z hz; ⟨v, e, a.same s⟩⟩
/-- the whole answer of each row -/
structure WholeOf (H : Hp) (d : Addr) (kvs : List (Key × V)) (zs : List Str) (an : Str → List Int) : Prop where
  d : H d = some (.dK kvs)
  is : ∀ z ∈ zs, ∃ T, valV kvs (Sum.inr z) = some (.ref T) ∧ H T = some (.tup ((an z).map V.int))
theorem WholeOf.same {H H' : Hp} {d : Addr} {kvs : List (Key × V)} {zs : List Str} {an : Str → List Int} (h : WholeOf H d kvs zs an) (s : Same H H') : WholeOf H' d kvs zs an :=
  ⟨s _ _ h.d, fun z hz => let ⟨T, e, a⟩ := h.is z hz; ⟨T, e, s _ _ a⟩⟩
def spItemA : Sp := fun vs H Q _ => ∃ i : Int, vs = [.int i] ∧ OkI i ∧ Q (.bl true) H
def spFullA : Sp := fun vs H Q _ => (∃ i : Int, vs = [.int i] ∧ Q (.bl false) H) ∨ ∃ (a : Addr) (ns : List Int), vs = [.ref a] ∧ H a = some (.tup (ns.map V.int)) ∧ 1 ≤ ns.length ∧ ns.length ≤ 3 ∧ (∀ n ∈ ns, OkI n) ∧ ∀ H', Same H H' → Q (.bl true) H'
def spAnsOf : Sp := fun vs H Q _ => ∃ (v : V) (ns : List Int), vs = [v] ∧ AnsAt H v ns ∧ ∀ (T : Addr) (H' : Hp), Same H H' → H' T = some (.tup (ns.map V.int)) → Q (.ref T) H'
def spAnsFor : Sp := fun vs H Q _ => ∃ (z : Str) (d : Addr) (kvs : List (Key × V)) (v : V), vs = [.str z, .ref d] ∧ H d = some (.dK kvs) ∧ valV kvs (Sum.inr z) = some v ∧ Q v H
def spFullAs (K : PySem.W.Frag) : Sp := fun vs H Q _ => ∃ (l d : Addr) (zs : List Str) (kvs : List (Key × V)) (an : Str → List Int), vs = [.ref l, .ref d] ∧ SqLT K H l (zs.map V.str) ∧ RowsOk zs ∧ AnsOf H d kvs zs an ∧
  ∀ (p : Addr) (H' : Hp) (fk : List (Key × V)), Same H H' → H p = none → WholeOf H' p fk zs an → Q (.ref p) H'
/-! ### the first rows -/
def addF (an : Str → List Int) (acc : List (List Int × Str)) (z : Str) : List (List Int × Str) := if an z ∈ acc.map (·.1) then acc else acc ++ [(an z, z)]
def accF (an : Str → List Int) (zs : List Str) : List (List Int × Str) := zs.foldl (addF an) []
def firstsOf (an : Str → List Int) (zs : List Str) : List Str := (accF an zs).map (·.2)
theorem accF_snoc (an : Str → List Int) (zs : List Str) (z : Str) : accF an (zs ++ [z]) = addF an (accF an zs) z := by
  unfold accF
  rw [List.foldl_append]
  rfl
theorem take_snoc {zs : List Str} {i : Nat} {z : Str} (h : zs[i]? = some z) : zs.take (i + 1) = zs.take i ++ [z] := by
  rw [List.take_add_one, h]
  rfl
theorem accF_len (an : Str → List Int) : ∀ (zs : List Str) (acc : List (List Int × Str)), (zs.foldl (addF an) acc).length ≤ acc.length + zs.length
  | [], _ => Nat.le_refl _
  | z :: zs, acc => by
    have h := accF_len an zs (addF an acc z)
    have h2 : (addF an acc z).length ≤ acc.length + 1 := by
      unfold addF
      split
      · exact Nat.le_succ _
      · rw [List.length_append]
        exact Nat.le_refl _
    rw [List.foldl_cons, List.length_cons]
    omega
def kI (ns : List Int) : List Key := ns.map Sum.inl
theorem kI_V (ns : List Int) : (kI ns).map kV = ns.map V.int := by
  unfold kI
  rw [List.map_map]
  rfl
theorem kI_inj : ∀ {ns ms : List Int}, kI ns = kI ms → ns = ms
  | [], [], _ => rfl
  | [], _ :: _, h => by cases h
  | _ :: _, [], h => by cases h
  | n :: ns, m :: ms, h => by
    injection h with h1 h2
    injection h1 with h1
    rw [h1, kI_inj h2]
def accK (acc : List (List Int × Str)) : List (List Key × V) := acc.map fun p => (kI p.1, V.str p.2)
theorem accK_vals (acc : List (List Int × Str)) : (accK acc).map (·.2) = (acc.map (·.2)).map V.str := by
  unfold accK
  rw [List.map_map, List.map_map]
  rfl
theorem accK_in {ns : List Int} : ∀ {acc : List (List Int × Str)}, ns ∈ acc.map (·.1) → ∃ v, valV (accK acc) (kI ns) = some v
  | [], h => nomatch h
  | p :: acc, h => by
    by_cases e : kI p.1 = kI ns
    · exact ⟨_, valV_pos (p := (kI p.1, V.str p.2)) e⟩
    · have e2 : ns ≠ p.1 := fun z => e (by rw [z])
      rcases List.mem_cons.mp h with z | z
      · exact (e2 z).elim
      · obtain ⟨v, hv⟩ := accK_in (acc := acc) z
        exact ⟨v, (valV_neg (p := (kI p.1, V.str p.2)) e).trans hv⟩
theorem accK_out {ns : List Int} : ∀ {acc : List (List Int × Str)}, ns ∉ acc.map (·.1) → valV (accK acc) (kI ns) = none
  | [], _ => rfl
  | p :: acc, h => by
    have e : ¬ kI p.1 = kI ns := fun z => h (List.mem_cons.mpr (.inl (kI_inj z).symm))
    exact (valV_neg (p := (kI p.1, V.str p.2)) e).trans (accK_out fun z => h (List.mem_cons_of_mem _ z))
theorem same_off {H0 H H' : Hp} {D : Addr} (h0 : H0 D = none) (s : Same H0 H) (k : ∀ c, c ≠ D → H' c = H c) : Same H0 H' := fun c o e => by
  rw [k c (ne_of_none e h0)]
  exact s c o e
def spFirst (K : PySem.W.Frag) : Sp := fun vs H Q _ => ∃ (l d : Addr) (zs : List Str) (kvs : List (Key × V)) (an : Str → List Int), vs = [.ref l, .ref d] ∧ SqLT K H l (zs.map V.str) ∧ RowsOk zs ∧ AnsOf H d kvs zs an ∧
  ∀ (p : Addr) (H' : Hp), Same H H' → H p = none → H' p = some (.lst ((firstsOf an zs).map V.str)) → Q (.ref p) H'
theorem rpAll_ints {K : PySem.W.Frag} {H : Hp} : ∀ ns : List Int, RpAll K H (ns.map V.int) (ns.map PyData.int)
  | [] => .nil
  | n :: ns => .cons (.int n) (rpAll_ints ns)
section
variable {P : Program} {w : World} {K : PySem.W.Frag} {mg : Str → Option Value} {base : Heap}
theorem ok_itemA {f fI : Addr} {fd fdI : FuncData} {t : Tok} (F : Fun K "is_answer_item" "is_answer_item" sItemA f fd) (GI : FnOk P w K mg base CX0 1 fI fdI ["value", "low", "high"] spIsInt) (gI : mg "is_integer" = some (.ref fI)) (kI : PySem.W.keepIn K (.ref fI) = true) (bI : Binds K fdI ["value", "low", "high"] [])
    (gG : mg "GREATEST_IN_ANSWER" = some (.int 9999 t)) : FnOk P w K mg base CX0 2 f fd ["value"] spItemA := by
  refine F.ok scItemA (fun vs H Q E h => ?_) (fun cdv A outer s H vs Q E hr h => ?_)
  · obtain ⟨i, rfl, _⟩ := h
    rfl
  · obtain ⟨i, rfl, ⟨h1, h2⟩, q⟩ := h
    refine ⟨_, pss_one (ps_ret (pe_call GI hr rfl gI kI bI .nil pass0 (pa_cons (pv 0) (pa_cons (pe_un un_neg (pe_glob (v := .int 9999) rfl gG ⟨_, rfl⟩)) (pa_cons (pe_glob (v := .int 9999) rfl gG ⟨_, rfl⟩) pa_nil))))), ?_⟩
    refine ⟨_, rfl, _, rfl, i, -9999, 9999, rfl, ?_⟩
    rw [decide_eq_true h1, decide_eq_true h2]
    exact q
theorem ok_fullA {f fI : Addr} {fd fdI : FuncData} {t : Tok} (F : Fun K "is_full_answer" "is_full_answer" sFullA f fd) (GI : FnOk P w K mg base CX0 2 fI fdI ["value"] spItemA) (gI : mg "is_answer_item" = some (.ref fI)) (kI : PySem.W.keepIn K (.ref fI) = true) (bI : Binds K fdI ["value"] [])
    (gM : mg "MOST_IN_ANSWER" = some (.int 3 t)) (mi : mg "isinstance" = none) (mt : mg "tuple" = none) (ml : mg "len" = none) (ma : mg "all" = none) : FnOk P w K mg base CX0 3 f fd ["value"] spFullA := by
  refine F.ok scFullA (fun vs H Q E h => ?_) (fun cdv A outer s H vs Q E hr h => ?_)
  · rcases h with ⟨i, rfl, _⟩ | ⟨a, ns, rfl, _⟩ <;> rfl
  · refine ⟨_, pss_cons (ps_if (PW.pt (pw_or (pt_not (pt_val (pt_isi "tuple" (pv 0) (hm := mi) (mn := mt)))) (pw_or1 (pt_not (pt_chain op_le op_le pe_int (pe_callB call_len_seq (by rfl) ml PySem.boot_len (pa_cons (pv 0) pa_nil)) (pe_glob (v := .int 3) rfl gM ⟨_, rfl⟩))))))
        (pss_one (ps_ret pe_bl)) pss_nil)
      (pss_one (ps_ret (pe_callB (cr_all rfl) (by rfl) ma (by decide +kernel) (pa_cons (pe_lc (own := [("item", 1)]) (g := gName 1) (tt := tYes) (by rfl) scFullA.nd (pi_tup (pv 0))
        (blkOk_by (own := [("item", 1)]) (N := ["value", "item"]) (sc := defScope sFullA) (by decide +kernel)) (fun _ _ _ _ _ => pg_name (i := 1) scFullA.nd rfl (.inl rfl)) (fun _ _ _ _ _ => pts_nil)
        (fun _ _ _ _ _ => pe_call GI hr rfl gI kI bI .nil pass0 (pa_cons (pv 1) pa_nil))) pa_nil)))), ?_⟩
    rcases h with ⟨i, rfl, q⟩ | ⟨a, ns, rfl, ha, l1, l3, ok, q⟩
    · have hR : Rp K H (.int i) (.int i) := .int i
      exact ⟨_, rfl, _, _, _, _, _, rfl, .ty _, rp_ty hR, kit_t (.int i), _, rfl, iteT (iteT q)⟩
    · have hR : Rp K H (.ref a) (.tuple (ns.map PyData.int)) := .tup ha (rpAll_ints ns)
      have ll : (ns.map V.int).length = ns.length := List.length_map ..
      refine ⟨_, rfl, _, _, _, _, _, rfl, .ty _, rp_ty hR, kit_t (.tuple (ns.map PyData.int)), _, rfl, iteF ?_⟩
      refine ⟨_, rfl, a, _, rfl, .inr (.of ha), _, _, rfl, rfl, _, rfl, ?_⟩
      rw [decide_eq_true (show (1 : Int) ≤ ((ns.map V.int).length : Int) by omega)]
      refine iteT ⟨_, _, rfl, rfl, _, rfl, ?_⟩
      rw [decide_eq_true (show ((ns.map V.int).length : Int) ≤ 3 by omega)]
      refine iteF ?_
      refine ⟨_, rfl, a, rfl, ⟨_, .of ha⟩, fun D hD => ?_⟩
      refine lc_tup (a := a) (xs := ns.map V.int) (fun i H2 => Same H H2 ∧ H2 D = some (.lst ((List.replicate i true).map V.bl))) ?_ ?_ ?_ ?_
      · exact ⟨Same.new hD, upd_same⟩
      · exact fun i H2 _ h2 => .of (h2.1 _ _ ha)
      · rintro i x H2 hx ⟨s2, e2⟩
        rw [List.getElem?_map] at hx
        obtain ⟨n, hn, rfl⟩ := Option.map_eq_some_iff.mp hx
        have hi : i < ns.length := (List.getElem?_eq_some_iff.mp hn).1
        refine ⟨rfl, ?_⟩
        unfold tYes
        dsimp only
        rw [if_pos rfl]
        refine ⟨_, rfl, n, rfl, ok n (List.mem_of_getElem? hn), _, e2, ?_, fun c o e => (upd_ne (ne_of_none e hD)).trans (s2 _ _ e), ?_⟩
        · rw [List.length_map, List.length_replicate]
          exact small1000 (by omega)
        · rw [upd_same, List.replicate_succ', List.map_append]
          rfl
      · rintro H2 ⟨s2, e2⟩
        refine ⟨D, _, rfl, .of e2, ?_⟩
        rw [show (List.replicate (ns.map V.int).length true).all id = true from List.all_eq_true.mpr fun x hx => by
          rw [(List.mem_replicate.mp hx).2]
          rfl]
        exact q H2 s2
theorem ok_ansOf {f fF fI : Addr} {fd fdF fdI : FuncData} (F : Fun K "answer_of" "answer_of" sAnsOf f fd) (GF : FnOk P w K mg base CX0 3 fF fdF ["value"] spFullA) (gF : mg "is_full_answer" = some (.ref fF)) (kF : PySem.W.keepIn K (.ref fF) = true) (bF : Binds K fdF ["value"] [])
    (GI : FnOk P w K mg base CX0 2 fI fdI ["value"] spItemA) (gI : mg "is_answer_item" = some (.ref fI)) (kI : PySem.W.keepIn K (.ref fI) = true) (bI : Binds K fdI ["value"] []) : FnOk P w K mg base CX0 4 f fd ["value"] spAnsOf := by
  refine F.ok scAnsOf (fun vs H Q E h => ?_) (fun cdv A outer s H vs Q E hr h => ?_)
  · obtain ⟨v, ns, rfl, _⟩ := h
    rfl
  · obtain ⟨v, ns, rfl, ⟨k, ok⟩, q⟩ := h
    refine ⟨_, pss_cons (ps_if (pt_val (pe_call GF hr rfl gF kF bF .nil pass0 (pa_cons (pv 0) pa_nil))) (pss_one (ps_ret (pv 0))) pss_nil)
      (pss_cons (ps_if (pt_val (pe_call GI (hr.mono (by decide)) rfl gI kI bI .nil pass0 (pa_cons (pv 0) pa_nil))) (pss_one (ps_ret (pe_tup (pa_cons (pv 0) pa_nil)))) pss_nil)
      (pss_one ps_never)), ?_⟩
    rcases k with ⟨i, rfl, rfl⟩ | ⟨a, rfl, ha, l1, l3⟩
    · refine ⟨_, rfl, .inl ⟨i, rfl, _, rfl, iteF ?_⟩⟩
      refine ⟨_, rfl, i, rfl, ok i List.mem_cons_self, _, rfl, iteT ?_⟩
      exact ⟨_, rfl, (by show 1 ≤ sizeLine; decide), fun T hT => q T _ (Same.new hT) upd_same⟩
    · refine ⟨_, rfl, .inr ⟨a, ns, rfl, ha, l1, l3, ok, fun H1 s1 => ⟨_, rfl, iteT ?_⟩⟩⟩
      exact ⟨_, rfl, q a H1 s1 (s1 _ _ ha)⟩
theorem ok_ansFor {f : Addr} {fd : FuncData} (F : Fun K "answer_for" "answer_for" sAnsFor f fd) : FnOk P w K mg base CX0 1 f fd ["row", "answers"] spAnsFor := by
  refine F.ok scAnsFor (fun vs H Q E h => ?_) (fun cdv A outer s H vs Q E hr h => ?_)
  · obtain ⟨z, d, kvs, v, rfl, _⟩ := h
    rfl
  · obtain ⟨z, d, kvs, v, rfl, hd, hv, q⟩ := h
    refine ⟨_, pss_cons (ps_if (pt_cmp (pc_dnotin (hu_of hr) (pv 0) (pv 1)) rfl) (pss_one ps_never) pss_nil) (pss_one (ps_ret (pe_dget (hu_of hr) (pv 1) (pv 0) (fun _ _ => rfl)))), ?_⟩
    refine ⟨_, rfl, _, rfl, d, _, rfl, DGet.k (k := Sum.inr z) hd, _, rfl, ?_⟩
    rw [hv]
    refine iteF ?_
    refine ⟨_, rfl, _, rfl, d, v, rfl, ?_, q⟩
    have g := DGet.k (k := Sum.inr z) hd
    rw [hv] at g
    exact g
theorem ok_fullAs {f fN fA fF : Addr} {fd fdN fdA fdF : FuncData} (F : Fun K "full_answers" "full_answers" sFullAs f fd) (GN : FnOk P w K mg base CX0 2 fN fdN ["rows", "answers"] (spNeedRows K)) (gN : mg "need_rows_with_answers" = some (.ref fN)) (kN : PySem.W.keepIn K (.ref fN) = true) (bN : Binds K fdN ["rows", "answers"] [])
    (GA : FnOk P w K mg base CX0 4 fA fdA ["value"] spAnsOf) (gA : mg "answer_of" = some (.ref fA)) (kA : PySem.W.keepIn K (.ref fA) = true) (bA : Binds K fdA ["value"] [])
    (GF : FnOk P w K mg base CX0 1 fF fdF ["row", "answers"] spAnsFor) (gF : mg "answer_for" = some (.ref fF)) (kF : PySem.W.keepIn K (.ref fF) = true) (bF : Binds K fdF ["row", "answers"] []) : FnOk P w K mg base CX0 5 f fd ["rows", "answers"] (spFullAs K) := by
  refine F.ok scFullAs (fun vs H Q E h => ?_) (fun cdv A outer s H vs Q E hr h => ?_)
  · obtain ⟨l, d, zs, kvs, an, rfl, _⟩ := h
    rfl
  · obtain ⟨l, d, zs, kvs, an, rfl, hl, ok, ha, q⟩ := h
    refine ⟨_, pss_cons (ps_expr (pe_call GN (hr.mono (by decide)) rfl gN kN bN .nil pass0 (pa_cons (pv 0) (pa_cons (pv 1) pa_nil))))
      (pss_one (ps_ret (pe_dc (own := [("row", 2)]) (g := gName 2) (tt := tYes) (by rfl) scFullAs.nd (pi_lw (pv 0)) (blkOk_by (own := [("row", 2)]) (N := ["rows", "answers", "row"]) (sc := defScope sFullAs) (by decide +kernel))
        (fun _ _ _ _ _ => pg_name (i := 2) scFullAs.nd rfl (.inl rfl)) (fun _ _ _ _ _ => pts_nil) (fun _ _ _ _ _ => pv 2)
        (fun _ _ _ _ _ => pe_call GA hr rfl gA kA bA .nil pass0 (pa_cons (pe_call GF (hr.mono (by decide)) rfl gF kF bF .nil pass0 (pa_cons (pv 2) (pa_cons (pv 1) pa_nil))) pa_nil))))), ?_⟩
    refine ⟨_, rfl, _, rfl, l, d, zs, kvs, rfl, hl, ok, ha.d, fun H1 s1 => ?_⟩
    have few := ok.few
    refine ⟨_, rfl, l, _, rfl, hl.keep s1, fun J G wk hG D hD => ?_⟩
    have lz : (zs.map V.str).length = zs.length := List.length_map ..
    refine dc_it wk (fun i H2 => Same H1 H2 ∧ ∃ fk, fk.length ≤ i ∧ WholeOf H2 D fk (zs.take i) an) ?_ ?_ ?_ ?_
    · exact ⟨Same.new hD, [], Nat.le_refl _, upd_same, fun z hz => by simp at hz⟩
    · exact fun i H2 _ h2 => hG H2 (sqL_keep h2.1) (sqT_keep h2.1)
    · rintro i x H2 H2' hi ⟨s2, fk, lf, wo⟩ ⟨rfl, hx⟩
      rw [List.getElem?_map] at hx
      obtain ⟨z, hz, rfl⟩ := Option.map_eq_some_iff.mp hx
      have mz := List.mem_of_getElem? hz
      refine ⟨rfl, ?_⟩
      unfold tYes
      dsimp only
      rw [if_pos rfl]
      have ha2 := ha.same (s1.trans s2)
      obtain ⟨v, ev, av⟩ := ha2.is z mz
      refine ⟨_, rfl, _, rfl, _, rfl, z, d, kvs, v, rfl, ha2.d, ev, v, an z, rfl, av, fun T H3 s3 eT => ?_⟩
      refine ⟨fk, Sum.inr z, rfl, s3 _ _ wo.d, small1000 (by omega), fun c o e => (upd_ne (ne_of_none e hD)).trans (s3 _ _ (s2 _ _ e)), _, Nat.le_trans (length_putK _ _ _) (Nat.succ_le_succ lf), upd_same, fun y hy => ?_⟩
      rw [take_snoc hz] at hy
      have nD : ∀ {c : Addr} {xs : List V}, H3 c = some (.tup xs) → upd H3 D (.dK (putK fk (Sum.inr z) (.ref T))) c = some (.tup xs) := fun {c xs} e => by
        rw [upd_ne (ne_of e (s3 _ _ wo.d) (fun z => nomatch z))]
        exact e
      by_cases ey : y = z
      · subst ey
        exact ⟨T, by rw [valV_put, if_pos rfl], nD eT⟩
      · have my : y ∈ zs.take i := by
          rcases List.mem_append.mp hy with h | h
          · exact h
          · exact (ey (List.mem_singleton.mp h)).elim
        obtain ⟨T', e1, e2⟩ := wo.is y my
        exact ⟨T', by rw [valV_put, if_neg fun h => ey (Sum.inr.inj h)]; exact e1, nD (s3 _ _ e2)⟩
    · rintro H2 ⟨s2, fk, lf, wo⟩
      rw [lz, List.take_length] at wo
      exact q D H2 fk (s1.trans s2) (s1.free hD) wo
theorem ok_first {f fA : Addr} {fd fdA : FuncData} (F : Fun K "first_ones" "first_ones" sFirst f fd) (GA : FnOk P w K mg base CX0 5 fA fdA ["rows", "answers"] (spFullAs K)) (gA : mg "full_answers" = some (.ref fA)) (kA : PySem.W.keepIn K (.ref fA) = true) (bA : Binds K fdA ["rows", "answers"] [])
    (mL : mg "list" = none) : FnOk P w K mg base CX0 6 f fd ["rows", "answers"] (spFirst K) := by
  refine F.ok scFirst (fun vs H Q E h => ?_) (fun cdv A outer s H vs Q E hr h => ?_)
  · obtain ⟨l, d, zs, kvs, an, rfl, _⟩ := h
    rfl
  · obtain ⟨l, d, zs, kvs, an, rfl, hl, ok, ha, q⟩ := h
    have hu2 : (A.deeper (envOfC "first_ones" (defScope sFirst) s.heap.objs.size f cdv)).units + 2 < cLine := by have := hr.units; omega
    refine ⟨_, pss_cons (ps_set (i := 2) scFirst.nd rfl (.inl rfl) (pe_call GA hr rfl gA kA bA .nil pass0 (pa_cons (pv 0) (pa_cons (pv 1) pa_nil))))
      (pss_cons (ps_set (i := 3) scFirst.nd rfl (.inl rfl) pe_dnewT)
      (pss_cons (ps_for PassesOwn.never rfl (pi_lw (pv 0)) (pg_name (i := 4) scFirst.nd rfl (.inl rfl))
        (pss_one (ps_expr (pe_setdT hu2 (pv 3) (pe_dget (hu_of hr) (pv 2) (pv 4) (fun _ _ => rfl)) (pv 4) ⟨by rfl, by rfl, by rfl, by rfl⟩))))
      (pss_one (ps_ret (pe_valsT rfl (pv 3) (by rfl) mL (by decide +kernel)))))), ?_⟩
    refine ⟨_, rfl, _, rfl, l, d, zs, kvs, an, rfl, hl, ok, ha, fun p H1 fk s1 np wo => ?_⟩
    intro D hD
    have few := ok.few
    have lz : (zs.map V.str).length = zs.length := List.length_map ..
    have sD := Same.new (o := .dT []) hD
    refine ⟨_, rfl, l, _, rfl, (hl.keep s1).keep sD, fun J G wk hG => ?_⟩
    refine for_it wk (fun i σ H2 => Same H1 H2 ∧ H2 D = some (.dT (accK (accF an (zs.take i)))) ∧ ∃ x4 : Option V, σ = [some (.ref l), some (.ref d), some (.ref p), some (.ref D), x4]) ?_ ?_ ?_ ?_
    · exact ⟨sD, upd_same, none, rfl⟩
    · rintro i σ H2 _ ⟨s2, _, _⟩
      have kp : ∀ c o, c ≠ D → upd H1 D (.dT []) c = some o → H2 c = some o := fun c o n e => s2 c o ((upd_ne n).symm.trans e)
      exact hG H2 (sqL_off upd_same kp) (sqT_off upd_same kp)
    · rintro i x σ H2 H2' hi ⟨s2, e2, x4, rfl⟩ ⟨rfl, hx⟩
      rw [List.getElem?_map] at hx
      obtain ⟨z, hz, rfl⟩ := Option.map_eq_some_iff.mp hx
      have mz := List.mem_of_getElem? hz
      have wo2 := wo.same s2
      obtain ⟨T, e1, eT⟩ := wo2.is z mz
      have g := DGet.k (k := Sum.inr z) wo2.d
      rw [e1] at g
      have hlen : (accK (accF an (zs.take i))).length < sizeLine := by
        have := accF_len an (zs.take i) []
        unfold accK
        rw [List.length_map]
        have h2 : (zs.take i).length ≤ 40 := by
          rw [List.length_take]
          omega
        have h3 : (accF an (zs.take i)).length ≤ 40 := by
          unfold accF
          rw [List.length_nil] at this
          omega
        exact small1000 (by omega)
      refine ⟨_, rfl, D, rfl, .inr ⟨_, .inl e2⟩, _, rfl, _, rfl, p, _, rfl, g, _, rfl, _, kI (an z), T, e2, rfl, by rw [kI_V]; exact eT, hlen, fun v hv => ?_, fun hv => ?_⟩
      · refine ⟨s2, ?_, _, rfl⟩
        rw [e2, take_snoc hz, accF_snoc]
        unfold addF
        by_cases hm : an z ∈ (accF an (zs.take i)).map (·.1)
        · rw [if_pos hm]
        · rw [accK_out hm] at hv
          cases hv
      · refine ⟨fun c o e => (upd_ne (ne_of_none e hD)).trans (s2 _ _ e), ?_, _, rfl⟩
        rw [upd_same, take_snoc hz, accF_snoc]
        unfold addF
        by_cases hm : an z ∈ (accF an (zs.take i)).map (·.1)
        · obtain ⟨v, ev⟩ := accK_in hm
          rw [ev] at hv
          cases hv
        · rw [if_neg hm, putK_new _ hv]
          unfold accK
          rw [List.map_append]
          rfl
    · rintro σ H2 ⟨s2, e2, x4, rfl⟩
      rw [lz, List.take_length] at e2
      refine ⟨_, rfl, D, _, rfl, e2, fun r hr0 => ?_⟩
      have s3 : Same H H2 := s1.trans s2
      refine q r _ (s3.trans (Same.new hr0)) (s3.free hr0) ?_
      rw [upd_same, accK_vals]
      rfl
end
end G
set_option Elab.async false
set_option linter.all false
set_option maxRecDepth 100000
set_option maxHeartbeats 2000000
/-! O4: dicts of ints compared; a list compared with an empty one; things in a drawn order. -/
namespace G
open PySem PySem.Spec PyProof.Rows L2
def dEq (ks ls : List (Key × V)) : Bool := ks.length == ls.length && ks.all fun p => decide (valV ls p.1 = some p.2)
def AllInt (ks : List (Key × V)) : Prop := ∀ p ∈ ks, ∃ i, p.2 = V.int i
theorem int_valV {ls : List (Key × V)} (h : AllInt ls) {k : Key} {v : V} (e : valV ls k = some v) : ∃ i, v = V.int i := by
  have h2 : Option.map (fun p : Key × V => p.2) (ls.find? fun kv => decide (kv.1 = k)) = some v := e
  obtain ⟨p, hp, rfl⟩ := Option.map_eq_some_iff.mp h2
  exact h p (List.mem_of_find?_eq_some hp)
theorem hits_int {A : Around} {s : Shared} {ls : List (Key × V)} {vb : List (Key × Value)} (rb : KV ls vb) (hl : AllInt ls) {ks : List (Key × V)} {va : List (Key × Value)} (ra : KV ks va) :
    AllInt ks → PySem.W.KeqHits A s vb va (ks.all fun p => decide (valV ls p.1 = some p.2)) := by
  unfold KV at ra
  induction ra with
  | nil => intro _; exact .nil
  | @cons p q ps qs h t ih =>
    intro hp
    obtain ⟨h1, h2⟩ := h
    obtain ⟨i, ei⟩ := hp p List.mem_cons_self
    have ih' := ih fun p' hm => hp p' (List.mem_cons_of_mem _ hm)
    obtain ⟨k, v⟩ := q
    have h1' : p.1 = k := h1
    subst h1'
    rw [ei] at h2
    obtain ⟨t1, rfl⟩ := (show ∃ t, v = Value.int i t from h2)
    rw [List.all_cons]
    cases e : valV ls p.1 with
    | none =>
      have rr : RelO none (valueAt vb p.1) := by rw [← e]; exact rb.val p.1
      have hn : valueAt vb p.1 = none := by
        cases z : valueAt vb p.1 with
        | none => rfl
        | some y =>
          rw [z] at rr
          exact rr.elim
      rw [decide_eq_false (show ¬ (none = some p.2) from fun z => nomatch z), Bool.false_and]
      exact .miss hn
    | some x =>
      obtain ⟨j, rfl⟩ := int_valV hl e
      have rr : RelO (some (.int j)) (valueAt vb p.1) := by rw [← e]; exact rb.val p.1
      obtain ⟨y, hy, ry⟩ := rr.some_of
      obtain ⟨t2, rfl⟩ := (show ∃ t, y = Value.int j t from ry)
      rw [ei]
      have q := SeqAt.EqAt.int_int (A := A) (s := s) i t1 j t2
      have e2 : decide (some (V.int j) = some (V.int i)) = (i == j) := by
        by_cases z : i = j
        · rw [z, decide_eq_true rfl]
          exact (beq_self_eq_true _).symm
        · rw [decide_eq_false fun h => z (V.int.inj (Option.some.inj h)).symm]
          exact (Bool.eq_false_iff.mpr fun h => z (beq_iff_eq.mp h)).symm
      rw [e2]
      exact .hit hy q ih'
section
variable {X : Cx}
def rNeDI : R2 := fun x y H Q => ∃ a b ks ls, x = .ref a ∧ y = .ref b ∧ H a = some (.dK ks) ∧ H b = some (.dK ls) ∧ AllInt ks ∧ AllInt ls ∧ Q (.bl (!dEq ks ls)) H
theorem op_neDI (hu : X.A.units < cLine) : OpR X (compareOp .NotEq) rNeDI := by
  intro pins s σ H x y v u Q I rx ry h
  obtain ⟨a, b, ks, ls, rfl, rfl, ea, eb, ik, il, q⟩ := h
  obtain rfl : v = Value.ref a := rx
  obtain rfl : u = Value.ref b := ry
  obtain ⟨_, ya, va, ra, da⟩ := (show ObjOk X.prog X.w H s.heap a (.dK ks) from I.hok a _ ea)
  obtain ⟨_, yb, vb, rb, db⟩ := (show ObjOk X.prog X.w H s.heap b (.dK ls) from I.hok b _ eb)
  have e : dEq ks ls = (va.length == vb.length && ks.all fun p => decide (valV ls p.1 = some p.2)) := by
    rw [← ra.length, ← rb.length]
    rfl
  exact PySem.W.keq_ne (knd := mixKind X.prog X.w) ya yb da db hu (fun _ => hits_int rb il ra ik) (fin_bl I q (by rw [e]))
def rNeNil (K : PySem.W.Frag) : R2 := fun x y H Q => ∃ a b xs, x = .ref a ∧ y = .ref b ∧ SqL K H a xs ∧ SqL K H b [] ∧ Q (.bl (!xs.isEmpty)) H
theorem op_neNil (hu : X.A.units < cLine) : OpR X (compareOp .NotEq) (rNeNil X.K) := by
  intro pins s σ H x y v u Q I rx ry h
  obtain ⟨a, b, xs, rfl, rfl, ha, hb, q⟩ := h
  cases (show v = Value.ref a from rx)
  cases (show u = Value.ref b from ry)
  obtain ⟨us, r1, p1, _⟩ := I.list ha
  obtain ⟨ws, r2, p2, _⟩ := I.list hb
  cases r2
  cases xs with
  | nil =>
    cases r1
    refine SeqAt.RcNeAt.lists (e := fun _ => true) p1.isList p2.isList rfl hu (fun j h1 h2 => absurd h1 (Nat.not_lt_zero j)) X.prog X.w _ _ ?_
    exact ⟨.bl false, H, I, rfl, q⟩
  | cons x xs =>
    refine SeqAt.RcNeAt.lists_lengths p1.isList p2.isList ?_ hu X.prog X.w _ _ ?_
    · have := r1.length
      rw [List.length_cons] at this
      rw [List.size_toArray, List.size_toArray, ← this]
      rfl
    · exact ⟨.bl true, H, I, rfl, q⟩
end
/-- things in a drawn order -/
def spMixR (K : PySem.W.Frag) : Sp := fun vs H Q _ => ∃ (b a : Addr) (n : Nat) (xs : List V), vs = [.ref b, .ref a] ∧ BoxAt H b n ∧ n + xs.length ≤ 100000 ∧ SqL K H a xs ∧
  ∀ (p : Addr) (H' : Hp) (ys : List V), ys.Perm xs → H p = none → H' p = some (.lst ys) → BoxAt H' b (n + xs.length) → But b H H' → Q (.ref p) H'
section
variable {P : Program} {w : World} {K : PySem.W.Frag} {mg : Str → Option Value} {base : Heap}
theorem ok_mixR {f fT : Addr} {fd fdT : FuncData} (F : Fun K "_law_mixed" "_law_mixed" sMixed f fd) (T : Fun K "_law_take" "_law_take" sTake fT fdT) (bT : Binds K fdT ["_law_box_here", "_law_many"] []) (gT : mg "_law_take" = some (.ref fT))
    (ml : mg "len" = none) (mL : mg "list" = none) : FnOk P w K mg base CX0 2 f fd ["_law_box_here", "_law_some"] (spMixR K) := by
  refine F.ok scMixed (fun vs H Q E h => ?_) (fun cdv A outer s H vs Q E hr h => ?_)
  · obtain ⟨b, a, n, ps, rfl, _⟩ := h
    rfl
  · obtain ⟨b, a, n, ps, rfl, B, hn, hS, q⟩ := h
    have big : ∀ {k : Nat}, k ≤ 100000 → k < sizeLine := fun {k} h => by
      rw [sizeLine_eq]
      omega
    refine ⟨_, pss_cons (ps_par (i := 2) (j := 3) (by rfl) scMixed.nd rfl rfl (by decide) rfl rfl (pa_cons (pe_callTy call_list_of (by rfl) mL (by decide +kernel) (pa_cons (pv 1) pa_nil)) (pa_cons (pe_lst pa_nil) pa_nil)) (by rfl))
      (pss_cons (ps_while PassesOwn.never (pt_cmpR (op_neNil (Nat.lt_of_succ_lt (hu_of hr))) (pv 2) (pe_lst pa_nil) (nomark _))
        (pss_one (ps_expr (pe_bm PySem.F.plainAttrs_list PySem.F.slot_list_append PySem.F.type_list_append mt_append (pv 3) (pa_cons
          (pe_bm PySem.F.plainAttrs_list PySem.F.slot_list_pop PySem.F.type_list_pop mt_popAt (pv 2)
            (pa_cons (pe_call (ok_take T) hr rfl gT T.kp bT .nil pass0 (pa_cons (pv 0) (pa_cons (pe_callB call_len_seq (by rfl) ml PySem.boot_len (pa_cons (pv 2) pa_nil)) pa_nil))) pa_nil)) pa_nil)))))
      (pss_one (ps_ret (pv 3)))), ?_⟩
    refine ⟨_, rfl, a, _, rfl, .inl hS, fun l hl => ⟨by decide, fun p hp0 => ⟨_, _, rfl, ?_⟩⟩⟩
    have nlp : l ≠ p := fun z => by
      rw [z, upd_same] at hp0
      cases hp0
    have hpn : H p = none := (upd_ne nlp.symm).symm.trans hp0
    have nbl : b ≠ l := by
      obtain ⟨_, _, _, e, _⟩ := B
      exact ne_of_none e hl
    have nbp : b ≠ p := by
      obtain ⟨_, _, _, e, _⟩ := B
      exact ne_of_none e hpn
    refine ⟨fun m σ H1 => ∃ qs rs : List V, m = qs.length ∧ σ = [some (.ref b), some (.ref a), some (.ref l), some (.ref p)] ∧ H1 l = some (.lst qs) ∧ H1 p = some (.lst rs) ∧
        (rs ++ qs).Perm ps ∧ BoxAt H1 b (n + rs.length) ∧ But b H H1, ⟨ps.length, ps, [], rfl, rfl, ?_, upd_same, .refl _, ?_, ?_⟩, ?_⟩
    · rw [upd_ne nlp, upd_same]
    · exact (B.keep fun o e => by rw [upd_ne nbp, upd_ne nbl]; exact e).mono (Nat.le_add_right _ _)
    · exact (But.new hl).trans (But.new hp0)
    · rintro m σ H1 ⟨qs, rs, rfl, rfl, el, ep, pm, B1, s1⟩
      have hlen : rs.length + qs.length = ps.length := by
        rw [← List.length_append]
        exact pm.length_eq
      refine ⟨_, rfl, by decide, fun t ht => ?_⟩
      have nlt : l ≠ t := ne_of_none el ht
      have s2 : But b H (upd H1 t (.lst [])) := s1.trans (But.new ht)
      refine ⟨l, t, qs, rfl, rfl, .of ((upd_ne nlt).trans el), .of upd_same, _, rfl, ?_⟩
      · cases qs with
        | nil =>
          refine iteF ?_
          refine ⟨_, rfl, ?_⟩
          rw [List.append_nil] at pm
          refine q p _ rs pm hpn ?_ ?_ s2
          · rw [upd_ne (ne_of_none ep ht)]
            exact ep
          · have e : rs.length = ps.length := pm.length_eq
            rw [← e]
            exact B1.keep fun o e => by rw [upd_ne (ne_of_none e ht)]; exact e
        | cons y ys =>
          refine iteT ?_
          have hlen' : rs.length + (ys.length + 1) = ps.length := hlen
          refine ⟨fun σ' H' => ∃ m', m' < (y :: ys).length ∧ ∃ qs rs : List V, m' = qs.length ∧ σ' = [some (.ref b), some (.ref a), some (.ref l), some (.ref p)] ∧ H' l = some (.lst qs) ∧ H' p = some (.lst rs) ∧
            (rs ++ qs).Perm ps ∧ BoxAt H' b (n + rs.length) ∧ But b H H', fun _ _ h => h, ?_⟩
          have ep2 : upd H1 t (.lst []) p = some (.lst rs) := by
            rw [upd_ne (ne_of_none ep ht)]
            exact ep
          have el2 : upd H1 t (.lst []) l = some (.lst (y :: ys)) := by
            rw [upd_ne nlt]
            exact el
          have B2 : BoxAt (upd H1 t (.lst [])) b (n + rs.length) := B1.keep fun o e => by rw [upd_ne (ne_of_none e ht)]; exact e
          refine ⟨_, rfl, .inl ⟨rfl, _, .of ep2⟩, _, rfl, .inl ⟨rfl, _, .of el2⟩, _, rfl, _, rfl, l, _, rfl, .inl (.of el2), b, _, n + rs.length, rfl, B2, by omega, ?_, ?_, fun r H3 r0 r1 B3 s3 => ?_⟩
          · show (0 : Int) < ((ys.length + 1 : Nat) : Int)
            omega
          · show ((ys.length + 1 : Nat) : Int) < _
            have : ys.length + 1 ≤ 100000 := by omega
            omega
          · obtain ⟨j, rfl, hj⟩ := draw_at r0 r1 (n := (y :: ys).length) rfl
            have el3 : H3 l = some (.lst (y :: ys)) := s3 _ _ nbl.symm el2
            have ep3 : H3 p = some (.lst rs) := s3 _ _ nbp.symm ep2
            have hj5 : j < 100000 := by
              have e : (y :: ys).length = ys.length + 1 := rfl
              omega
            refine ⟨l, _, (j : Int), j, (y :: ys)[j], rfl, rfl, el3, by omega, by omega, ?_, ?_, ?_⟩
            · have := PySem.seqIndex_of (k := (j : Int)) (n := (y :: ys).length) (by omega) (by omega)
              rw [this]
              rfl
            · exact List.getElem?_eq_getElem hj
            · refine ⟨p, _, _, rfl, rfl, by rw [upd_ne nlp.symm]; exact ep3, ?_, ?_⟩
              · exact big (by omega)
              · refine ⟨((y :: ys).eraseIdx j).length, ?_, (y :: ys).eraseIdx j, rs ++ [(y :: ys)[j]], rfl, rfl, ?_, ?_, ?_, ?_, ?_⟩
                · rw [List.length_eraseIdx, if_pos hj]
                  show (ys.length + 1) - 1 < ys.length + 1
                  omega
                · rw [upd_ne nlp, upd_same]
                · rw [upd_same]
                · rw [List.append_assoc]
                  refine List.Perm.trans (List.Perm.append_left rs ?_) pm
                  exact erase_perm hj
                · rw [List.length_append, List.length_singleton]
                  exact B3.keep fun o e => by rw [upd_ne nbp, upd_ne nbl]; exact e
                · intro c o nc e
                  have e3 := (s2.trans s3) c o nc e
                  rw [upd_ne (ne_of_none e hpn), upd_ne (ne_of_none e hl)]
                  exact e3
end
end G
set_option Elab.async false
set_option linter.all false
set_option maxRecDepth 100000
set_option maxHeartbeats 4000000
/-! VN: drawn names differ. -/
namespace G
open PySem PySem.Spec PyProof.Rows L2
def Cop (st : Nat) : Prop := st ∈ [1, 3, 5, 7, 9, 11, 15, 17]
theorem cop_le {st : Nat} (h : Cop st) : st ≤ 17 := by
  unfold Cop at h
  simp at h
  omega
theorem cop_inj {st bg i j : Nat} (h : Cop st) (e : (bg + st * i) % 26 = (bg + st * j) % 26) : i % 26 = j % 26 := by
  unfold Cop at h
  simp only [List.mem_cons, List.not_mem_nil, or_false] at h
  rcases h with rfl | rfl | rfl | rfl | rfl | rfl | rfl | rfl <;> omega
theorem abc_is : ∀ j : Fin 26, abc.cps[(j : Nat)]? = some (97 + (j : Nat)) := by decide +kernel
theorem abc_code {j c n : Nat} (hj : j < 26) (hc : abc.cps[j]? = some c) (e : j = n) : cs (⟨#[c]⟩ : Str) = [97 + n] := by
  have z := abc_is ⟨j, hj⟩
  rw [hc] at z
  rw [← e, ← Option.some.inj z]
theorem abc_code2 {j c : Nat} (hj : j < 26) (hc : abc.cps[j]? = some c) : cs (⟨#[c]⟩ : Str) = [97 + j] := abc_code hj hc rfl
/-- how the i-th name is written -/
def BaseF (md : Bool) (P : List Nat) (bg st i : Nat) (y : Str) : Prop := (md = true ∧ ∃ R, cs y = (97 + (bg + st * i) % 26) :: R) ∨ (md = false ∧ cs y = P ++ [97 + (bg + st * i) % 26])
def Form (md : Bool) (P : List Nat) (bg st i : Nat) (y : Str) : Prop := (md = true ∧ i < 26 ∧ ∃ R, cs y = (97 + (bg + st * i) % 26) :: R) ∨ (md = false ∧ i < 26 ∧ cs y = P ++ [97 + (bg + st * i) % 26]) ∨ (md = false ∧ 26 ≤ i ∧ cs y = P ++ [97 + (bg + st * i) % 26, 97 + i / 26])
theorem form_lt {md : Bool} {P : List Nat} {bg st i : Nat} {y : Str} (h : BaseF md P bg st i y) (hi : i < 26) : Form md P bg st i y := by
  rcases h with ⟨e, r⟩ | ⟨e, r⟩
  · exact .inl ⟨e, hi, r⟩
  · exact .inr (.inl ⟨e, hi, r⟩)
theorem form_ge {md : Bool} {P : List Nat} {bg st i : Nat} {y u : Str} (h : BaseF md P bg st i y) (hi : 26 ≤ i) (hm : md = true → i < 26) (e : cs u = cs y ++ [97 + i / 26]) : Form md P bg st i u := by
  rcases h with ⟨em, r⟩ | ⟨em, r⟩
  · have := hm em
    omega
  · refine .inr (.inr ⟨em, hi, ?_⟩)
    rw [e, r, List.append_assoc]
    rfl
theorem form_app {G : Nat → Str → Prop} {zs : List Str} {u : Str} {i : Nat} (hl : zs.length = i) (hf : ∀ (k : Nat) (y : Str), zs[k]? = some y → G k y) (hu : G i u) : ∀ (k : Nat) (y : Str), (zs ++ [u])[k]? = some y → G k y := fun k y h => by
  rcases Nat.lt_or_ge k zs.length with hk | hk
  · rw [List.getElem?_append_left hk] at h
    exact hf k y h
  · rw [List.getElem?_append_right hk] at h
    have hk0 : k - zs.length = 0 := by
      rcases Nat.eq_zero_or_pos (k - zs.length) with e | e
      · exact e
      · rw [List.getElem?_eq_none (by rw [List.length_singleton]; omega)] at h
        cases h
    rw [hk0] at h
    have e : u = y := Option.some.inj h
    have ek : k = i := by omega
    rw [ek, ← e]
    exact hu
theorem app_two {P : List Nat} {a b c d : Nat} (h : P ++ [a, b] = P ++ [c, d]) : a = c ∧ b = d := by
  have := List.append_cancel_left h
  injection this with e1 e2
  injection e2 with e3 _
  exact ⟨e1, e3⟩
theorem form_inj {md : Bool} {P : List Nat} {bg st i j : Nat} {y : Str} (hc : Cop st) (h1 : Form md P bg st i y) (h2 : Form md P bg st j y) : i = j := by
  rcases h1 with ⟨m1, l1, R1, e1⟩ | ⟨m1, l1, e1⟩ | ⟨m1, l1, e1⟩
  · rcases h2 with ⟨m2, l2, R2, e2⟩ | ⟨m2, l2, e2⟩ | ⟨m2, l2, e2⟩
    · rw [e1] at e2
      injection e2 with e3 _
      have := cop_inj (i := i) (j := j) hc (by omega : (bg + st * i) % 26 = (bg + st * j) % 26)
      omega
    · rw [m1] at m2
      cases m2
    · rw [m1] at m2
      cases m2
  · rcases h2 with ⟨m2, l2, R2, e2⟩ | ⟨m2, l2, e2⟩ | ⟨m2, l2, e2⟩
    · rw [m1] at m2
      cases m2
    · rw [e1] at e2
      have e3 := List.append_cancel_left e2
      injection e3 with e4 _
      have := cop_inj (i := i) (j := j) hc (by omega : (bg + st * i) % 26 = (bg + st * j) % 26)
      omega
    · rw [e1] at e2
      have e3 := List.append_cancel_left e2
      injection e3 with _ e4
      cases e4
  · rcases h2 with ⟨m2, l2, R2, e2⟩ | ⟨m2, l2, e2⟩ | ⟨m2, l2, e2⟩
    · rw [m1] at m2
      cases m2
    · rw [e1] at e2
      have e3 := List.append_cancel_left e2
      injection e3 with _ e4
      cases e4
    · rw [e1] at e2
      obtain ⟨e3, e4⟩ := app_two e2
      have := cop_inj (i := i) (j := j) hc (by omega : (bg + st * i) % 26 = (bg + st * j) % 26)
      omega
theorem nodup_at {zs : List Str} (h : ∀ (i j : Nat) (y : Str), zs[i]? = some y → zs[j]? = some y → i = j) : zs.Nodup := by
  rw [List.nodup_iff_pairwise_ne, List.pairwise_iff_getElem]
  intro i j hi hj hij e
  have h1 : zs[i]? = some zs[i] := List.getElem?_eq_getElem hi
  have h2 : zs[j]? = some zs[i] := by rw [List.getElem?_eq_getElem hj, e]
  have := h i j _ h1 h2
  omega
theorem form_nodup {md : Bool} {P : List Nat} {bg st : Nat} {zs : List Str} (hc : Cop st) (hf : ∀ (k : Nat) (y : Str), zs[k]? = some y → Form md P bg st k y) (_ : zs.length ≤ 600) : zs.Nodup :=
  nodup_at fun i j y h1 h2 => form_inj hc (hf i y h1) (hf j y h2)
theorem len_nodup {zs : List Str} (hf : ∀ (k : Nat) (y : Str), zs[k]? = some y → y.length = k + 1) : zs.Nodup :=
  nodup_at fun i j y h1 h2 => by
    have := hf i y h1
    have := hf j y h2
    omega
theorem perm_nodup {ys us : List Str} {qs : List Vd} (pm : qs.Perm (ys.map fun z => (V.str z, PyData.str z))) (e : qs.map (·.1) = us.map V.str) (h : ys.Nodup) : us.Nodup := by
  have p1 : (qs.map (·.1)).Perm ((ys.map fun z => (V.str z, PyData.str z)).map (·.1)) := pm.map _
  rw [e, List.map_map] at p1
  have h2 : (ys.map V.str).Nodup := h.map V.str fun a b hab hn => hab (V.str.inj hn)
  have h3 : (us.map V.str).Nodup := p1.nodup_iff.mpr h2
  unfold List.Nodup at *
  rw [List.pairwise_map] at h3
  exact h3.imp fun hne e => hne (congrArg V.str e)
def spNamesD : Sp := fun vs H Q _ => ∃ (b : Addr) (m n : Nat), vs = [.ref b, .int (m : Int)] ∧ BoxAt H b n ∧ n ≤ 50000 ∧ m ≤ 100 ∧
  ∀ (p : Addr) (H' : Hp) (zs : List Str), zs.length = m → (∀ z ∈ zs, NameZ z) → zs.Nodup → H p = none → H' p = some (.lst (zs.map V.str)) → BoxAt H' b (n + 11 + m) → But b H H' → Q (.ref p) H'
section
variable {P : Program} {w : World} {K : PySem.W.Frag} {mg : Str → Option Value} {base : Heap}
theorem ok_namesD {f fT fM : Addr} {fd fdT fdM : FuncData} (F : Fun K "_law_names" "_law_names" sNames f fd) (T : Fun K "_law_take" "_law_take" sTake fT fdT) (bT : Binds K fdT ["_law_box_here", "_law_many"] []) (gT : mg "_law_take" = some (.ref fT))
    (M : Fun K "_law_mixed" "_law_mixed" sMixed fM fdM) (bM : Binds K fdM ["_law_box_here", "_law_some"] []) (gM : mg "_law_mixed" = some (.ref fM)) (ml : mg "len" = none) (mL : mg "list" = none) (mr : mg "range" = none) :
    FnOk P w K mg base CX0 3 f fd ["_law_box_here", "_law_many"] spNamesD := by
  have GT : FnOk P w K mg base CX0 1 fT fdT ["_law_box_here", "_law_many"] spTake := ok_take T
  have GM : FnOk P w K mg base CX0 2 fM fdM ["_law_box_here", "_law_some"] (spMixed K) := ok_mixed M T bT gT ml mL
  refine F.ok scNames (fun vs H Q E h => ?_) (fun cdv A outer s H vs Q E hr h => ?_)
  · obtain ⟨b, m, n, rfl, _⟩ := h
    rfl
  · obtain ⟨b, m, n, rfl, B, hn, hm, q⟩ := h
    have hr1 := hr.mono (show 1 ≤ 2 by decide)
    obtain ⟨ts, psl, qsl⟩ : ∃ t, PSs (cxOf CX0 P w K mg base nNames "_law_names" (defScope sNames) f cdv A outer s H E).nox ((defBody sNames).drop 5) t ∧
        ∀ (way cut bg st : Nat) (z : Str) (x8 : Option V) (H1 : Hp), cut ≤ 7 → (26 < m → cut ≤ 6) → bg < 26 → Cop st → LowZ z → z.length = 7 → BoxAt H1 b (n + 11) → But b H H1 → t { nx := fun _ H' => Q .non H', rt := Q } [some (.ref b), some (.int (m : Int)), some (.str abc), some (.int (way : Int)), some (.int (cut : Int)), some (.int (bg : Int)), some (.int (st : Int)), some (.str z), x8, none, none, none] H1 := by
      refine ⟨_, pss_cons (ps_set (i := 9) scNames.nd rfl (.inl rfl) (pe_lst pa_nil))
      (pss_cons (ps_for PassesOwn.never rfl (pi_range1 rfl mr (pa_cons (pv 1) pa_nil)) (pg_name (i := 8) scNames.nd rfl (.inl rfl))
        (pss_cons (ps_set (i := 10) scNames.nd rfl (.inl rfl) (pe_item_str (pv 2) (pe_op op_mod (pe_op op_add (pv 5) (pe_op op_mul (pv 6) (pv 8))) pe_int) (fun _ _ => rfl)))
        (pss_cons (ps_set (i := 11) scNames.nd rfl (.inl rfl) (pe_op op_add_str (pe_slice sl_str (pv 7) po_none (po_some (pv 4))) (pv 10)))
        (pss_cons (ps_if (PW.pt (pw_and (pt_cmpR op_eq (pv 3) pe_int (nomark _)) (pw_and1 (pt_cmpR op_lt (pv 1) pe_int (nomark _)))))
          (pss_one (ps_set (i := 11) scNames.nd rfl (.inl rfl) (pe_op op_add_str (pv 10) (pe_slice sl_str (pv 7) po_none (po_some (pe_op op_mod (pe_op op_add (pv 4) (pe_op op_mul pe_int (pv 8))) pe_int)))))) pss_nil)
        (pss_one (ps_expr (pe_bm PySem.F.plainAttrs_list PySem.F.slot_list_append PySem.F.type_list_append mt_append (pv 9) (pa_cons
          (pe_ifExp (pt_cmpR op_lt (pv 8) pe_int (nomark _)) (pv 11) (pe_op op_add_str (pv 11) (pe_item_str (pv 2) (pe_op op_fdiv (pv 8) pe_int) (fun _ _ => rfl)))) pa_nil))))))))
      (pss_one (ps_ret (pv 9)))), ?_⟩
      intro way cut bg st z x8 H1 hcut hcut2 hbg hcop hz hl B1 k1
      have hst := cop_le hcop
      generalize hmd : (decide (V.int (way : Int) = V.int 1) && decide ((m : Int) < 27)) = md
      have hm26 : md = true → m < 27 := fun e => by
        rw [e] at hmd
        have := of_decide_eq_true (Bool.and_eq_true_iff.mp hmd).2
        omega
      refine ⟨Nat.zero_le _, fun D hD => ?_⟩
      have nD := box_ne B1 hD
      have fD := free_of k1 nD hD
      refine ⟨_, rfl, _, rfl, by omega, by omega, ?_⟩
      rw [Int.toNat_natCast m]
      refine for_range (lo := 0) (n := m) (fun i σ H2 => ∃ (zs : List Str) (x8 x10 x11 : Option V), σ = [some (.ref b), some (.int (m : Int)), some (.str abc), some (.int (way : Int)), some (.int (cut : Int)), some (.int (bg : Int)), some (.int (st : Int)), some (.str z), x8, some (.ref D), x10, x11] ∧
        H2 D = some (.lst (zs.map V.str)) ∧ zs.length = i ∧ (∀ y ∈ zs, NameZ y) ∧ (∀ (k : Nat) (y : Str), zs[k]? = some y → Form md (cs (cutS z none (some (cut : Int)))) bg st k y) ∧ BoxAt H2 b (n + 11) ∧ But b H H2) ?_ ?_ ?_
      · exact ⟨[], x8, none, none, rfl, upd_same, rfl, (fun y h => nomatch h), (fun k y h => by simp at h), box_new B1 hD, but_upd k1 fD⟩
      · rintro i σ H2 hi ⟨zs, x8, x10, x11, rfl, e2, hlz, hy, hf, B2, k2⟩
        have r := emod_in ((bg : Int) + (st : Int) * (0 + (i : Int))) 26 (by decide)
        obtain ⟨j, ej, hj⟩ := draw_at r.1 r.2 (n := 26) rfl
        obtain ⟨c, hc, c97⟩ := abc_at hj
        refine ⟨_, rfl, _, rfl, _, rfl, _, rfl, _, _, rfl, rfl, .inl ⟨by omega, by omega⟩, _, _, rfl, rfl, _, _, rfl, rfl, (by show (0 : Int) < 26; decide), _, _, c, rfl, rfl, r.1, by omega, (show _ < ((26 : Nat) : Int) by omega), (by rw [ej]; exact hc), ?_⟩
        have lo := low_one c97
        have len1 : (⟨#[c]⟩ : Str).length = 1 := rfl
        have ec : cs (⟨#[c]⟩ : Str) = [97 + (bg + st * i) % 26] := abc_code hj hc (by have ej2 := ej; rw [Int.zero_add] at ej2; omega)
        generalize (⟨#[c]⟩ : Str) = lt at lo len1 ec
        have cl := cut_len z cut
        refine ⟨_, rfl, _, rfl, _, rfl, z, rfl, small_size (by omega), _, rfl, _, _, rfl, rfl, small_size (by omega), ?_⟩
        have Y0 : LowZ (cutS z none (some (cut : Int)) ++ lt) ∧ 1 ≤ (cutS z none (some (cut : Int)) ++ lt).length ∧ (cutS z none (some (cut : Int)) ++ lt).length ≤ 8 ∧ (26 ≤ i → (cutS z none (some (cut : Int)) ++ lt).length ≤ 7) := by
          rw [app_len]
          exact ⟨(hz.cut _ _).app lo, by omega, by omega, fun _ => by omega⟩
        have r8 := emod_in ((cut : Int) + 3 * (0 + (i : Int))) 8 (by decide)
        refine ⟨_, rfl, rfl, _, rfl, ite2 (fun hw => ?_) (fun hw => ?_)⟩
        · refine ⟨_, rfl, _, _, rfl, rfl, _, rfl, ite2 (fun h27 => ?_) (fun h27 => ?_)⟩
          · have hm27 : (m : Int) < 27 := of_decide_eq_true h27
            obtain ⟨j8, ej8, hj8⟩ := draw_at r8.1 r8.2 (n := 8) rfl
            have cl8 := cut_len z j8
            refine ⟨_, rfl, _, rfl, _, rfl, _, rfl, _, _, rfl, rfl, .inl ⟨by decide, by decide⟩, _, _, rfl, rfl, _, _, rfl, rfl, (by show (0 : Int) < 8; decide), _, rfl, z, rfl, small_size (by omega), _, _, rfl, rfl, ?_, ?_⟩
            · rw [ej8, len1]
              exact small_size (by omega)
            have Y : NameI (lt ++ cutS z none (some (((cut : Int) + 3 * (0 + (i : Int))) % 8))) i ∧ BaseF md (cs (cutS z none (some (cut : Int)))) bg st i (lt ++ cutS z none (some (((cut : Int) + 3 * (0 + (i : Int))) % 8))) := by
              refine ⟨?_, .inl ⟨?_, cs (cutS z none (some (((cut : Int) + 3 * (0 + (i : Int))) % 8))), by rw [cs_app, ec]; rfl⟩⟩
              · unfold NameI
                rw [ej8, app_len]
                exact ⟨lo.app (hz.cut _ _), by omega, by omega, fun h => by omega⟩
              · rw [← hmd, hw, h27]
                rfl
            revert Y
            generalize (lt ++ cutS z none (some (((cut : Int) + 3 * (0 + (i : Int))) % 8))) = y
            intro Y
            obtain ⟨⟨y1, y2, y3, y4⟩, y5⟩ := Y
            have done : ∀ (u : Str) (x8 x10 x11 : Option V), NameZ u → Form md (cs (cutS z none (some (cut : Int)))) bg st i u → ∃ (zs' : List Str) (x8' x10' x11' : Option V), [some (V.ref b), some (.int (m : Int)), some (.str abc), some (.int (way : Int)), some (.int (cut : Int)), some (.int (bg : Int)), some (.int (st : Int)), some (.str z), x8, some (.ref D), x10, x11] = [some (.ref b), some (.int (m : Int)), some (.str abc), some (.int (way : Int)), some (.int (cut : Int)), some (.int (bg : Int)), some (.int (st : Int)), some (.str z), x8', some (.ref D), x10', x11'] ∧
                upd H2 D (.lst (zs.map V.str ++ [.str u])) D = some (.lst (zs'.map V.str)) ∧ zs'.length = i + 1 ∧ (∀ y ∈ zs', NameZ y) ∧ (∀ (k : Nat) (y : Str), zs'[k]? = some y → Form md (cs (cutS z none (some (cut : Int)))) bg st k y) ∧ BoxAt (upd H2 D (.lst (zs.map V.str ++ [.str u]))) b (n + 11) ∧ But b H (upd H2 D (.lst (zs.map V.str ++ [.str u]))) := fun u x8 x10 x11 hu hu2 => by
              refine ⟨zs ++ [u], x8, x10, x11, rfl, ?_, ?_, fun v hv => ?_, form_app hlz hf hu2, box_upd B2 nD, but_upd k2 fD⟩
              · rw [upd_same, List.map_append]
                rfl
              · rw [List.length_append, hlz]
                rfl
              · rcases List.mem_append.mp hv with hv | hv
                · exact hy v hv
                · rw [List.mem_singleton.mp hv]
                  exact hu
            have room : (zs.map V.str).length < sizeLine := by
              rw [List.length_map]
              exact small1000 (by omega)
            refine ⟨_, rfl, .inl ⟨rfl, _, .of e2⟩, _, rfl, _, _, rfl, rfl, _, rfl, ite2 (fun h26 => ?_) (fun h26 => ?_)⟩
            · exact ⟨_, rfl, D, _, _, rfl, rfl, e2, room, done y _ _ _ ⟨y1, y2, y3⟩ (form_lt y5 (by have := of_decide_eq_true h26; omega))⟩
            · have h26' : ¬ ((0 + (i : Int)) < 26) := fun h => h26 (decide_eq_true h)
              have yl := y4 (by omega)
              have hd : (0 + (i : Int)) / 26 = ((i / 26 : Nat) : Int) := by omega
              obtain ⟨c2, hc2, c297⟩ := abc_at (j := i / 26) (by omega)
              refine ⟨_, rfl, _, rfl, _, rfl, _, _, rfl, rfl, ⟨by decide, by decide⟩, _, _, c2, rfl, rfl, by omega, by omega, (show _ < ((26 : Nat) : Int) by omega), (by rw [hd]; exact hc2), _, _, rfl, rfl, ?_, D, _, _, rfl, rfl, e2, room, ?_⟩
              · show y.length + 1 ≤ sizeLine
                exact small_size (by omega)
              · have l2 : (y ++ (⟨#[c2]⟩ : Str)).length = y.length + 1 := app_len y ⟨#[c2]⟩
                exact done (y ++ ⟨#[c2]⟩) _ _ _ ⟨y1.app (low_one c297), by omega, by omega⟩ (form_ge y5 (by omega) (fun e => by have := hm26 e; omega) (by rw [cs_app, abc_code2 (by omega) hc2]))
          · have Y : NameI (cutS z none (some (cut : Int)) ++ lt) i ∧ BaseF md (cs (cutS z none (some (cut : Int)))) bg st i (cutS z none (some (cut : Int)) ++ lt) := ⟨Y0, .inr ⟨by rw [← hmd, Bool.eq_false_iff.mpr h27, Bool.and_false], by rw [cs_app, ec]⟩⟩
            revert Y
            generalize (cutS z none (some (cut : Int)) ++ lt) = y
            intro Y
            obtain ⟨⟨y1, y2, y3, y4⟩, y5⟩ := Y
            have done : ∀ (u : Str) (x8 x10 x11 : Option V), NameZ u → Form md (cs (cutS z none (some (cut : Int)))) bg st i u → ∃ (zs' : List Str) (x8' x10' x11' : Option V), [some (V.ref b), some (.int (m : Int)), some (.str abc), some (.int (way : Int)), some (.int (cut : Int)), some (.int (bg : Int)), some (.int (st : Int)), some (.str z), x8, some (.ref D), x10, x11] = [some (.ref b), some (.int (m : Int)), some (.str abc), some (.int (way : Int)), some (.int (cut : Int)), some (.int (bg : Int)), some (.int (st : Int)), some (.str z), x8', some (.ref D), x10', x11'] ∧
                upd H2 D (.lst (zs.map V.str ++ [.str u])) D = some (.lst (zs'.map V.str)) ∧ zs'.length = i + 1 ∧ (∀ y ∈ zs', NameZ y) ∧ (∀ (k : Nat) (y : Str), zs'[k]? = some y → Form md (cs (cutS z none (some (cut : Int)))) bg st k y) ∧ BoxAt (upd H2 D (.lst (zs.map V.str ++ [.str u]))) b (n + 11) ∧ But b H (upd H2 D (.lst (zs.map V.str ++ [.str u]))) := fun u x8 x10 x11 hu hu2 => by
              refine ⟨zs ++ [u], x8, x10, x11, rfl, ?_, ?_, fun v hv => ?_, form_app hlz hf hu2, box_upd B2 nD, but_upd k2 fD⟩
              · rw [upd_same, List.map_append]
                rfl
              · rw [List.length_append, hlz]
                rfl
              · rcases List.mem_append.mp hv with hv | hv
                · exact hy v hv
                · rw [List.mem_singleton.mp hv]
                  exact hu
            have room : (zs.map V.str).length < sizeLine := by
              rw [List.length_map]
              exact small1000 (by omega)
            refine ⟨_, rfl, .inl ⟨rfl, _, .of e2⟩, _, rfl, _, _, rfl, rfl, _, rfl, ite2 (fun h26 => ?_) (fun h26 => ?_)⟩
            · exact ⟨_, rfl, D, _, _, rfl, rfl, e2, room, done y _ _ _ ⟨y1, y2, y3⟩ (form_lt y5 (by have := of_decide_eq_true h26; omega))⟩
            · have h26' : ¬ ((0 + (i : Int)) < 26) := fun h => h26 (decide_eq_true h)
              have yl := y4 (by omega)
              have hd : (0 + (i : Int)) / 26 = ((i / 26 : Nat) : Int) := by omega
              obtain ⟨c2, hc2, c297⟩ := abc_at (j := i / 26) (by omega)
              refine ⟨_, rfl, _, rfl, _, rfl, _, _, rfl, rfl, ⟨by decide, by decide⟩, _, _, c2, rfl, rfl, by omega, by omega, (show _ < ((26 : Nat) : Int) by omega), (by rw [hd]; exact hc2), _, _, rfl, rfl, ?_, D, _, _, rfl, rfl, e2, room, ?_⟩
              · show y.length + 1 ≤ sizeLine
                exact small_size (by omega)
              · have l2 : (y ++ (⟨#[c2]⟩ : Str)).length = y.length + 1 := app_len y ⟨#[c2]⟩
                exact done (y ++ ⟨#[c2]⟩) _ _ _ ⟨y1.app (low_one c297), by omega, by omega⟩ (form_ge y5 (by omega) (fun e => by have := hm26 e; omega) (by rw [cs_app, abc_code2 (by omega) hc2]))
        · have Y : NameI (cutS z none (some (cut : Int)) ++ lt) i ∧ BaseF md (cs (cutS z none (some (cut : Int)))) bg st i (cutS z none (some (cut : Int)) ++ lt) := ⟨Y0, .inr ⟨by rw [← hmd, Bool.eq_false_iff.mpr hw, Bool.false_and], by rw [cs_app, ec]⟩⟩
          revert Y
          generalize (cutS z none (some (cut : Int)) ++ lt) = y
          intro Y
          obtain ⟨⟨y1, y2, y3, y4⟩, y5⟩ := Y
          have done : ∀ (u : Str) (x8 x10 x11 : Option V), NameZ u → Form md (cs (cutS z none (some (cut : Int)))) bg st i u → ∃ (zs' : List Str) (x8' x10' x11' : Option V), [some (V.ref b), some (.int (m : Int)), some (.str abc), some (.int (way : Int)), some (.int (cut : Int)), some (.int (bg : Int)), some (.int (st : Int)), some (.str z), x8, some (.ref D), x10, x11] = [some (.ref b), some (.int (m : Int)), some (.str abc), some (.int (way : Int)), some (.int (cut : Int)), some (.int (bg : Int)), some (.int (st : Int)), some (.str z), x8', some (.ref D), x10', x11'] ∧
              upd H2 D (.lst (zs.map V.str ++ [.str u])) D = some (.lst (zs'.map V.str)) ∧ zs'.length = i + 1 ∧ (∀ y ∈ zs', NameZ y) ∧ (∀ (k : Nat) (y : Str), zs'[k]? = some y → Form md (cs (cutS z none (some (cut : Int)))) bg st k y) ∧ BoxAt (upd H2 D (.lst (zs.map V.str ++ [.str u]))) b (n + 11) ∧ But b H (upd H2 D (.lst (zs.map V.str ++ [.str u]))) := fun u x8 x10 x11 hu hu2 => by
            refine ⟨zs ++ [u], x8, x10, x11, rfl, ?_, ?_, fun v hv => ?_, form_app hlz hf hu2, box_upd B2 nD, but_upd k2 fD⟩
            · rw [upd_same, List.map_append]
              rfl
            · rw [List.length_append, hlz]
              rfl
            · rcases List.mem_append.mp hv with hv | hv
              · exact hy v hv
              · rw [List.mem_singleton.mp hv]
                exact hu
          have room : (zs.map V.str).length < sizeLine := by
            rw [List.length_map]
            exact small1000 (by omega)
          refine ⟨_, rfl, .inl ⟨rfl, _, .of e2⟩, _, rfl, _, _, rfl, rfl, _, rfl, ite2 (fun h26 => ?_) (fun h26 => ?_)⟩
          · exact ⟨_, rfl, D, _, _, rfl, rfl, e2, room, done y _ _ _ ⟨y1, y2, y3⟩ (form_lt y5 (by have := of_decide_eq_true h26; omega))⟩
          · have h26' : ¬ ((0 + (i : Int)) < 26) := fun h => h26 (decide_eq_true h)
            have yl := y4 (by omega)
            have hd : (0 + (i : Int)) / 26 = ((i / 26 : Nat) : Int) := by omega
            obtain ⟨c2, hc2, c297⟩ := abc_at (j := i / 26) (by omega)
            refine ⟨_, rfl, _, rfl, _, rfl, _, _, rfl, rfl, ⟨by decide, by decide⟩, _, _, c2, rfl, rfl, by omega, by omega, (show _ < ((26 : Nat) : Int) by omega), (by rw [hd]; exact hc2), _, _, rfl, rfl, ?_, D, _, _, rfl, rfl, e2, room, ?_⟩
            · show y.length + 1 ≤ sizeLine
              exact small_size (by omega)
            · have l2 : (y ++ (⟨#[c2]⟩ : Str)).length = y.length + 1 := app_len y ⟨#[c2]⟩
              exact done (y ++ ⟨#[c2]⟩) _ _ _ ⟨y1.app (low_one c297), by omega, by omega⟩ (form_ge y5 (by omega) (fun e => by have := hm26 e; omega) (by rw [cs_app, abc_code2 (by omega) hc2]))
      · rintro σ H2 ⟨zs, x8, x10, x11, rfl, e2, hlz, hy, hf, B2, k2⟩
        exact ⟨_, rfl, q D H2 zs hlz hy (form_nodup hcop hf (by omega)) fD e2 (B2.mono (by omega)) k2⟩
    obtain ⟨tl, pl, ql⟩ : ∃ t, PSs (cxOf CX0 P w K mg base nNames "_law_names" (defScope sNames) f cdv A outer s H E).nox ((defBody sNames).drop 2) t ∧
        ∀ (way cut bg : Nat) (H1 : Hp), cut ≤ 7 → (26 < m → cut ≤ 6) → bg < 26 → BoxAt H1 b (n + 3) → But b H H1 → t { nx := fun _ H' => Q .non H', rt := Q } [some (.ref b), some (.int (m : Int)), some (.str abc), some (.int (way : Int)), some (.int (cut : Int)), some (.int (bg : Int)), none, none, none, none, none, none] H1 := by
      refine ⟨_, pss_cons (ps_asg (pe_tup (pa_cons (pe_ix ix_list (pe_lst (pa_cons pe_int (pa_cons pe_int (pa_cons pe_int (pa_cons pe_int (pa_cons pe_int (pa_cons pe_int (pa_cons pe_int (pa_cons pe_int pa_nil)))))))))
          (pe_call GT hr1 rfl gT T.kp bT .nil pass0 (pa_cons (pv 0) (pa_cons pe_int pa_nil))) (fun _ _ => rfl)) (pa_cons pe_str pa_nil)))
        (pg_tup (by rfl) (pgs_cons (pg_name (i := 6) scNames.nd rfl (.inl rfl)) (pgs_cons (pg_name (i := 7) scNames.nd rfl (.inr rfl)) pgs_nil))))
      (pss_cons (ps_for PassesOwn.never rfl (pi_range1 rfl mr (pa_cons pe_int pa_nil)) (pg_name (i := 8) scNames.nd rfl (.inl rfl))
        (pss_one (ps_set (i := 7) scNames.nd rfl (.inr rfl) (pe_op op_add_str (pv 7) (pe_item_str (pv 2) (pe_call GT hr1 rfl gT T.kp bT .nil pass0 (pa_cons (pv 0) (pa_cons pe_int pa_nil))) (fun _ _ => rfl))))))
      (pss_cons (ps_if (PW.pt (pw_and (pt_cmpR op_eq (pv 3) pe_int (nomark _)) (pw_and1 (pt_cmpR op_lt (pv 1) pe_int (nomark _)))))
        (pss_one (ps_ret (pe_call GM hr rfl gM M.kp bM .nil pass0 (pa_cons (pv 0) (pa_cons (pe_lc (own := [("_law_k", 8)]) (g := gName 8) (tt := tYes) (by rfl) scNames.nd (pi_range1 rfl mr (pa_cons (pv 1) pa_nil))
          (blkOk_by (own := [("_law_k", 8)]) (N := nNames) (sc := defScope sNames) (by decide +kernel)) (fun _ _ _ _ _ => pg_name (i := 8) scNames.nd rfl (.inl rfl)) (fun _ _ _ _ _ => pts_nil)
          (fun _ _ _ _ _ => pe_slice sl_str (pe_op op_add_str (pv 7) (pe_item_str (pv 2) (pv 5) (fun _ _ => rfl))) po_none (po_some (pe_op op_add (pv 8) pe_int)))) pa_nil))))) pss_nil)
      psl)), ?_⟩
      intro way cut bg H1 hcut hcut2 hbg B1 k1
      refine ⟨(by show 8 ≤ sizeLine; decide), fun p1 hp1 => ?_⟩
      have np1 := box_ne B1 hp1
      refine ⟨_, rfl, b, 8, n + 3, rfl, box_new B1 hp1, by omega, by decide, by decide, fun r H2 r0 r1 B2 k2 => ?_⟩
      obtain ⟨j, rfl, hj⟩ := draw_at (n := 8) r0 r1 rfl
      have e2 := k2 _ _ np1 upd_same
      have kk2 : But b H H2 := (k1.trans (But.new hp1)).trans k2
      obtain ⟨st, hst, hst17⟩ : ∃ st : Nat, ([.int 1, .int 3, .int 5, .int 7, .int 9, .int 11, .int 15, .int 17] : List V)[j]? = some (.int (st : Int)) ∧ Cop st := by
        match j, hj with
        | 0, _ => exact ⟨1, rfl, by unfold Cop; decide⟩
        | 1, _ => exact ⟨3, rfl, by unfold Cop; decide⟩
        | 2, _ => exact ⟨5, rfl, by unfold Cop; decide⟩
        | 3, _ => exact ⟨7, rfl, by unfold Cop; decide⟩
        | 4, _ => exact ⟨9, rfl, by unfold Cop; decide⟩
        | 5, _ => exact ⟨11, rfl, by unfold Cop; decide⟩
        | 6, _ => exact ⟨15, rfl, by unfold Cop; decide⟩
        | 7, _ => exact ⟨17, rfl, by unfold Cop; decide⟩
      refine ⟨p1, _, _, .int (st : Int), rfl, rfl, .of e2, atI_nat hst, (by show 2 ≤ sizeLine; decide), fun p2 hp2 => ?_⟩
      have np2 := box_ne B2 hp2
      refine ⟨p2, _, rfl, .of upd_same, rfl, _, _, rfl, _, _, rfl, rfl, ?_⟩
      have B3 : BoxAt (upd H2 p2 (.tup [.int (st : Int), .str ""])) b (n + 4) := box_new B2 hp2
      have k3 : But b H (upd H2 p2 (.tup [.int (st : Int), .str ""])) := kk2.trans (But.new hp2)
      generalize upd H2 p2 (.tup [.int (st : Int), .str ""]) = H3 at B3 k3
      -- the stem
      refine ⟨_, rfl, by decide, by decide, ?_⟩
      refine for_range (lo := 0) (n := 7) (fun i σ H4 => ∃ (z : Str) (x8 : Option V), σ = [some (.ref b), some (.int (m : Int)), some (.str abc), some (.int (way : Int)), some (.int (cut : Int)), some (.int (bg : Int)), some (.int (st : Int)), some (.str z), x8, none, none, none] ∧ LowZ z ∧ z.length = i ∧ BoxAt H4 b (n + 4 + i) ∧ But b H H4) ?_ ?_ ?_
      · exact ⟨"", none, rfl, (fun c h => nomatch h), rfl, B3, k3⟩
      · rintro i σ H4 hi ⟨z, x8, rfl, hz, hl, B4, k4⟩
        refine ⟨_, rfl, _, rfl, _, rfl, b, 26, n + 4 + i, rfl, B4, by omega, by decide, by decide, fun r H5 r0 r1 B5 k5 => ?_⟩
        obtain ⟨j, rfl, hj⟩ := draw_at (n := 26) r0 r1 rfl
        obtain ⟨c, hc, c97⟩ := abc_at hj
        refine ⟨_, _, c, rfl, rfl, by omega, by omega, (show ((j : Nat) : Int) < ((26 : Nat) : Int) by omega), hc, ?_⟩
        refine ⟨_, _, rfl, rfl, ?_, ?_⟩
        · show z.length + 1 ≤ sizeLine
          rw [sizeLine_eq]
          omega
        · refine ⟨z ++ ⟨#[c]⟩, _, rfl, hz.app (low_one c97), ?_, B5, k4.trans k5⟩
          rw [app_len, hl]
          rfl
      · rintro σ H4 ⟨z, x8, rfl, hz, hl, B4, k4⟩
        -- from here on two ways
        have namesOf : ∀ (zs : List Str) (qs : List Vd), qs.Perm (zs.map fun z => (V.str z, PyData.str z)) → (∀ z ∈ zs, NameZ z) →
            ∃ ys : List Str, qs.map (·.1) = ys.map V.str ∧ ys.length = zs.length ∧ ∀ y ∈ ys, NameZ y := fun zs qs pm hz => by
          have each : ∀ x ∈ qs, ∃ y, x = (V.str y, PyData.str y) ∧ NameZ y := fun x hx => by
            obtain ⟨y, hy, e⟩ := List.mem_map.mp (pm.mem_iff.mp hx)
            exact ⟨y, e.symm, hz y hy⟩
          have hlen : qs.length = zs.length := by
            rw [pm.length_eq, List.length_map]
          rw [← hlen]
          clear pm hlen
          induction qs with
          | nil => exact ⟨[], rfl, rfl, fun y hy => nomatch hy⟩
          | cons x qs ih =>
            obtain ⟨y, rfl, hy⟩ := each x List.mem_cons_self
            obtain ⟨ys, e1, e2, e3⟩ := ih fun x hx => each x (List.mem_cons_of_mem _ hx)
            refine ⟨y :: ys, ?_, congrArg (· + 1) e2, fun u hu => ?_⟩
            · rw [List.map_cons, e1]
              rfl
            · rcases List.mem_cons.mp hu with rfl | hu
              · exact hy
              · exact e3 u hu
        have mInt : (m : Int).toNat = m := Int.toNat_natCast m
        refine ⟨_, rfl, rfl, _, rfl, ite2 (fun _ => ?_) (fun _ => ?_)⟩
        · refine ⟨_, rfl, _, _, rfl, rfl, _, rfl, ite2 (fun h9 => ?_) (fun _ => ?_)⟩
          · have hm9 : (m : Int) < 9 := of_decide_eq_true h9
            refine ⟨_, rfl, _, rfl, _, rfl, by omega, by omega, fun D hD => ?_⟩
            have nD := box_ne B4 hD
            have fD := free_of k4 nD hD
            rw [mInt]
            refine lc_range (lo := 0) (n := m) (fun i H5 => ∃ ys : List Str, H5 D = some (.lst (ys.map V.str)) ∧ ys.length = i ∧ (∀ y ∈ ys, NameZ y) ∧ (∀ (k : Nat) (y : Str), ys[k]? = some y → y.length = k + 1) ∧ BoxAt H5 b (n + 11) ∧ But b H H5) ?_ ?_ ?_
            · exact ⟨[], upd_same, rfl, (fun y h => nomatch h), (fun k y h => by simp at h), box_new B4 hD, but_upd k4 fD⟩
            · rintro i H5 hi ⟨ys, e5, hl5, hy, hf5, B5, k5⟩
              refine ⟨rfl, ?_⟩
              unfold tYes
              dsimp only
              rw [if_pos rfl]
              obtain ⟨c, hc, c97⟩ := abc_at hbg
              refine ⟨_, rfl, _, rfl, _, rfl, _, _, c, rfl, rfl, by omega, by omega, (show ((bg : Nat) : Int) < ((26 : Nat) : Int) by omega), hc, _, _, rfl, rfl, ?_, ?_⟩
              · show z.length + 1 ≤ sizeLine
                rw [sizeLine_eq]
                omega
              have lz : (z ++ ⟨#[c]⟩).length = 8 := by
                rw [app_len, hl]
                rfl
              refine ⟨_, rfl, _, _, rfl, rfl, _, rfl, _, rfl, small_size (by omega), ?_⟩
              have e0 : (0 + (i : Int) + 1 : Int) = ((i + 1 : Nat) : Int) := by omega
              rw [e0]
              have cl := cut_len (z ++ ⟨#[c]⟩) (i + 1)
              refine ⟨_, e5, ?_, ys ++ [cutS (z ++ ⟨#[c]⟩) none (some ((i + 1 : Nat) : Int))], ?_, ?_, ?_, form_app (G := fun k y => y.length = k + 1) hl5 hf5 (by show (cutS (z ++ ⟨#[c]⟩) none (some ((i + 1 : Nat) : Int))).length = i + 1; omega), ?_, ?_⟩
              · rw [List.length_map]
                exact small1000 (by omega)
              · rw [upd_same, List.map_append]
                rfl
              · rw [List.length_append, hl5]
                rfl
              · intro y h
                rcases List.mem_append.mp h with h | h
                · exact hy y h
                · rw [List.mem_singleton.mp h]
                  exact ⟨(hz.app (low_one c97)).cut _ _, by omega, by omega⟩
              · exact box_upd B5 nD
              · exact but_upd k5 fD
            · rintro H5 ⟨ys, e5, hl5, hy, hf5, B5, k5⟩
              refine ⟨b, D, n + 11, ys.map fun z => (V.str z, PyData.str z), rfl, B5, ?_, .inl (.of ?_), ?_, fun p H6 qs pm np e6 B6 k6 => ?_⟩
              · rw [List.length_map]
                omega
              · rw [e5, List.map_map]
                rfl
              · intro x hx
                obtain ⟨y, hyy, rfl⟩ := List.mem_map.mp hx
                exact ⟨(hy y hyy).1.lay, fun H' _ => .str y⟩
              · obtain ⟨us, u1, u2, u3⟩ := namesOf ys qs pm hy
                rw [u1] at e6
                rw [List.length_map, hl5] at B6
                exact q p H6 us (u2.trans hl5) u3 (perm_nodup pm u1 (len_nodup hf5)) (free_of k5 (box_ne B5 np) np) e6 B6 (k5.trans k6)
          · exact qsl way cut bg st z x8 H4 hcut hcut2 hbg hst17 hz hl B4 k4
        · exact qsl way cut bg st z x8 H4 hcut hcut2 hbg hst17 hz hl B4 k4
    refine ⟨_, pss_cons (ps_set (i := 2) scNames.nd rfl (.inr rfl) pe_str)
      (pss_cons (ps_asg (pe_tup (pa_cons (pe_call GT hr1 rfl gT T.kp bT .nil pass0 (pa_cons (pv 0) (pa_cons pe_int pa_nil)))
          (pa_cons (pe_call GT hr1 rfl gT T.kp bT .nil pass0 (pa_cons (pv 0) (pa_cons (pe_ifExp (pt_cmpR op_lt (pv 1) pe_int (nomark _)) pe_int pe_int) pa_nil)))
          (pa_cons (pe_call GT hr1 rfl gT T.kp bT .nil pass0 (pa_cons (pv 0) (pa_cons pe_int pa_nil))) pa_nil))))
        (pg_tup (by rfl) (pgs_cons (pg_name (i := 3) scNames.nd rfl (.inl rfl)) (pgs_cons (pg_name (i := 4) scNames.nd rfl (.inl rfl)) (pgs_cons (pg_name (i := 5) scNames.nd rfl (.inr rfl)) pgs_nil))))) pl), ?_⟩
    refine ⟨_, rfl, b, 4, n, rfl, B, by omega, by decide, by decide, fun way H1 w0 w1 B1 k1 => ?_⟩
    obtain ⟨way, rfl, _⟩ := draw_at (n := 4) w0 w1 rfl
    refine ⟨_, rfl, _, rfl, _, _, rfl, rfl, _, rfl, ite2 (fun hm27 => ?_) (fun hm27 => ?_)⟩
    · refine ⟨b, 8, n + 1, rfl, B1, by omega, by decide, by decide, fun cut H2 c0 c1 B2 k2 => ?_⟩
      obtain ⟨cut, rfl, hcut⟩ := draw_at (n := 8) c0 c1 rfl
      refine ⟨_, rfl, b, 26, n + 2, rfl, B2, by omega, by decide, by decide, fun bg H3 g0 g1 B3 k3 => ?_⟩
      obtain ⟨bg, rfl, hbg⟩ := draw_at (n := 26) g0 g1 rfl
      refine ⟨(by show 3 ≤ sizeLine; decide), fun p hp => ⟨p, _, rfl, .of upd_same, rfl, _, _, rfl, _, _, rfl, _, _, rfl, rfl, ?_⟩⟩
      have hm' : (m : Int) < 27 := of_decide_eq_true hm27
      exact ql way cut bg _ (by omega) (by omega) hbg (box_new B3 hp) (((k1.trans k2).trans k3).trans (But.new hp))
    · refine ⟨b, 7, n + 1, rfl, B1, by omega, by decide, by decide, fun cut H2 c0 c1 B2 k2 => ?_⟩
      obtain ⟨cut, rfl, hcut⟩ := draw_at (n := 7) c0 c1 rfl
      refine ⟨_, rfl, b, 26, n + 2, rfl, B2, by omega, by decide, by decide, fun bg H3 g0 g1 B3 k3 => ?_⟩
      obtain ⟨bg, rfl, hbg⟩ := draw_at (n := 26) g0 g1 rfl
      refine ⟨(by show 3 ≤ sizeLine; decide), fun p hp => ⟨p, _, rfl, .of upd_same, rfl, _, _, rfl, _, _, rfl, _, _, rfl, rfl, ?_⟩⟩
      exact ql way cut bg _ (by omega) (by omega) hbg (box_new B3 hp) (((k1.trans k2).trans k3).trans (But.new hp))
end
end G
set_option Elab.async false
set_option linter.all false
set_option maxRecDepth 100000
set_option maxHeartbeats 4000000
/-! SH3: drawn answers. -/
namespace G
open PySem PySem.Spec PyProof.Rows L2 NdefX DvT
abbrev sFew : Stmt := topS 32
abbrev sFullL : Stmt := topS 33
theorem scFew : FnScope ["_law_box_here", "_law_rows", "_law_some", "_law_many", "_law_found", "_law_row"] ["_law_box_here", "_law_rows"] (defScope sFew) := ⟨rfl, rfl, rfl, by decide +kernel, rfl, by decide +kernel, by decide +kernel⟩
theorem scFullL : FnScope ["_law_answer"] ["_law_answer"] (defScope sFullL) := ⟨rfl, rfl, rfl, by decide +kernel, rfl, by decide +kernel, by decide +kernel⟩
theorem perm_map_inv {α β : Type} {f : α → β} : ∀ {xs zs : List β}, xs.Perm zs → ∀ as : List α, zs = as.map f → ∃ us : List α, xs = us.map f ∧ us.Perm as := by
  intro xs zs h
  induction h with
  | nil =>
    intro as e
    cases as with
    | nil => exact ⟨[], rfl, .nil⟩
    | cons a as => cases e
  | cons x _ ih =>
    intro as e
    cases as with
    | nil => cases e
    | cons a as =>
      injection e with e1 e2
      obtain ⟨us, rfl, p⟩ := ih as e2
      exact ⟨a :: us, by rw [e1]; rfl, p.cons a⟩
  | swap x y l =>
    intro as e
    match as, e with
    | a :: b :: as, e =>
      injection e with e1 e2
      injection e2 with e2 e3
      exact ⟨b :: a :: as, by rw [e1, e2, e3]; rfl, .swap a b as⟩
  | trans _ _ ih1 ih2 =>
    intro as e
    obtain ⟨us, e1, p1⟩ := ih2 as e
    obtain ⟨vs, e2, p2⟩ := ih1 us e1
    exact ⟨vs, e2, p2.trans p1⟩
/-- answers in a dict, by the rows ys -/
structure FewAt (H : Hp) (d : Addr) (kvs : List (Key × V)) (ys : List Str) (an : Str → List Int) : Prop where
  d : H d = some (.dK kvs)
  keys : kvs.map (·.1) = ys.map Sum.inr
  is : ∀ q ∈ kvs, ∃ z ∈ ys, q.1 = Sum.inr z ∧ AnsAt H q.2 (an z)
theorem valV_mem {κ : Type} [DecidableEq κ] {k : κ} : ∀ {kvs : List (κ × V)}, k ∈ kvs.map (·.1) → ∃ v, valV kvs k = some v ∧ (k, v) ∈ kvs
  | [], h => nomatch h
  | p :: kvs, h => by
    by_cases e : p.1 = k
    · exact ⟨p.2, valV_pos e, by rw [← e]; exact List.mem_cons_self⟩
    · rcases List.mem_cons.mp h with z | z
      · exact (e z.symm).elim
      · obtain ⟨v, e1, e2⟩ := valV_mem (kvs := kvs) z
        exact ⟨v, (valV_neg e).trans e1, List.mem_cons_of_mem _ e2⟩
theorem valV_not_mem {κ : Type} [DecidableEq κ] {k : κ} : ∀ {kvs : List (κ × V)}, k ∉ kvs.map (·.1) → valV kvs k = none
  | [], _ => rfl
  | p :: kvs, h => by
    have e : ¬ p.1 = k := fun z => h (by rw [← z]; exact List.mem_cons_self)
    exact (valV_neg e).trans (valV_not_mem fun z => h (List.mem_cons_of_mem _ z))
theorem FewAt.ans {H : Hp} {d : Addr} {kvs : List (Key × V)} {ys zs : List Str} {an : Str → List Int} (h : FewAt H d kvs ys an) (sub : ∀ z ∈ zs, z ∈ ys) : AnsOf H d kvs zs an :=
  ⟨h.d, fun z hz => by
    have m : (Sum.inr z : Key) ∈ kvs.map (·.1) := by
      rw [h.keys]
      exact List.mem_map.mpr ⟨z, sub z hz, rfl⟩
    obtain ⟨v, e1, e2⟩ := valV_mem m
    obtain ⟨z', _, e3, a⟩ := h.is _ e2
    have e4 : z = z' := Sum.inr.inj e3
    rw [← e4] at a
    exact ⟨v, e1, a⟩⟩
theorem FewAt.same {H H' : Hp} {d : Addr} {kvs : List (Key × V)} {ys : List Str} {an : Str → List Int} (h : FewAt H d kvs ys an) (s : Same H H') : FewAt H' d kvs ys an :=
  ⟨s _ _ h.d, h.keys, fun q hq => let ⟨z, m, e, a⟩ := h.is q hq; ⟨z, m, e, a.same s⟩⟩
theorem tup_ne {H : Hp} {b a : Addr} {n : Nat} {xs : List V} (B : BoxAt H b n) (e : H a = some (.tup xs)) : a ≠ b := fun z => by
  obtain ⟨_, _, _, eb, _⟩ := B
  rw [z, eb] at e
  cases e
theorem lst_ne {K : PySem.W.Frag} {H : Hp} {b a : Addr} {n : Nat} {zs : List Str} (B : BoxAt H b n) (e : H a = some (.lst (zs.map V.str))) : a ≠ b := fun z => by
  obtain ⟨_, _, _, eb, _⟩ := B
  rw [z, eb] at e
  cases zs with
  | nil => cases e
  | cons y ys => cases e
theorem sqL_box {K : PySem.W.Frag} {H H' : Hp} {b a : Addr} {n : Nat} {zs : List Str} (k : But b H H') (B : BoxAt H b n) : SqL K H a (zs.map V.str) → SqL K H' a (zs.map V.str)
  | .inl (.inl h) => .inl (.inl (k _ _ (lst_ne (K := K) B h) h))
  | .inl (.inr ⟨o, h⟩) => .inl (.inr ⟨o, k _ _ (fun z => by
      obtain ⟨_, _, _, eb, _⟩ := B
      rw [z, eb] at h
      cases h) h⟩)
  | .inr h => .inr h
theorem nodup_take {ys : List Str} {i : Nat} {z : Str} (nd : ys.Nodup) (hz : ys[i]? = some z) : z ∉ ys.take i := fun h => by
  obtain ⟨k, hk, e⟩ := List.mem_iff_getElem.mp h
  rw [List.length_take] at hk
  rw [List.getElem_take] at e
  obtain ⟨hi, ei⟩ := List.getElem?_eq_some_iff.mp hz
  have := (List.getElem_inj (i := k) (j := i) (h₀ := by omega) (h₁ := hi) nd).mp (e.trans ei.symm)
  omega
def Small (H : Hp) (v : V) : Prop := ∃ ns, AnsAt H v ns
theorem small_int {H : Hp} {i : Int} (h : OkI i) : Small H (.int i) := ⟨[i], .inl ⟨i, rfl, rfl⟩, fun n hn => by
  rw [List.mem_singleton.mp hn]
  exact h⟩
theorem small_tup {H : Hp} {t : Addr} {ns : List Int} (e : H t = some (.tup (ns.map V.int))) (l1 : 1 ≤ ns.length) (l3 : ns.length ≤ 3) (h : ∀ n ∈ ns, OkI n) : Small H (.ref t) := ⟨ns, .inr ⟨t, rfl, e, l1, l3⟩, h⟩
theorem Small.same {H H' : Hp} {v : V} (h : Small H v) (s : Same H H') : Small H' v := let ⟨ns, a⟩ := h; ⟨ns, a.same s⟩
theorem Small.at {H H' : Hp} {v : V} (h : Small H v) (k : ∀ a xs, H a = some (.tup xs) → H' a = some (.tup xs)) : Small H' v := let ⟨ns, a⟩ := h; ⟨ns, a.at k⟩
theorem ok_all {ns : List Int} (h : ns.all (fun n => decide (-9999 ≤ n) && decide (n ≤ 9999)) = true) : ∀ n ∈ ns, OkI n := fun n hn => by
  have := List.all_eq_true.mp h n hn
  simp only [Bool.and_eq_true, decide_eq_true_eq] at this
  exact this
def spFew (K : PySem.W.Frag) : Sp := fun vs H Q _ => ∃ (b l : Addr) (n : Nat) (zs : List Str), vs = [.ref b, .ref l] ∧ BoxAt H b n ∧ n + 2 * zs.length + 2 ≤ 90000 ∧ SqL K H l (zs.map V.str) ∧ zs.length ≤ 100 ∧ zs.Nodup ∧
  ∀ (p : Addr) (H' : Hp) (kvs : List (Key × V)) (ys : List Str) (an : Str → List Int), H p = none → BoxAt H' b (n + 2 * zs.length + 2) → But b H H' → ys.Perm zs → FewAt H' p kvs ys an → Q (.ref p) H'
def spFullL (K : PySem.W.Frag) : Sp := fun vs H Q _ => ∃ (v : V) (ns : List Int), vs = [v] ∧ AnsAt H v ns ∧ ∀ (T : Addr) (H' : Hp), Same H H' → H' T = some (.tup (ns.map V.int)) → Q (.ref T) H'
section
variable {P : Program} {w : World} {K : PySem.W.Frag} {mg : Str → Option Value} {base : Heap}
theorem ok_fullL {f : Addr} {fd : FuncData} (F : Fun K "_law_full" "_law_full" sFullL f fd) (mi : mg "isinstance" = none) (mt : mg "tuple" = none) : FnOk P w K mg base CX0 1 f fd ["_law_answer"] (spFullL K) := by
  refine F.ok scFullL (fun vs H Q E h => ?_) (fun cdv A outer s H vs Q E hr h => ?_)
  · obtain ⟨v, ns, rfl, _⟩ := h
    rfl
  · obtain ⟨v, ns, rfl, ⟨k, ok⟩, q⟩ := h
    refine ⟨_, pss_one (ps_ret (pe_ifExp (pt_val (pt_isi "tuple" (pv 0) (hm := mi) (mn := mt))) (pv 0) (pe_tup (pa_cons (pv 0) pa_nil)))), ?_⟩
    rcases k with ⟨i, rfl, rfl⟩ | ⟨a, rfl, ha, l1, l3⟩
    · have hR : Rp K H (.int i) (.int i) := .int i
      refine ⟨_, rfl, _, _, _, _, _, rfl, .ty _, rp_ty hR, kit_t (.int i), _, rfl, iteF ?_⟩
      exact ⟨_, rfl, (by show 1 ≤ sizeLine; decide), fun T hT => q T _ (Same.new hT) upd_same⟩
    · have hR : Rp K H (.ref a) (.tuple (ns.map PyData.int)) := .tup ha (rpAll_ints ns)
      refine ⟨_, rfl, _, _, _, _, _, rfl, .ty _, rp_ty hR, kit_t (.tuple (ns.map PyData.int)), _, rfl, iteT ?_⟩
      exact ⟨_, rfl, q a H (Same.refl H) ha⟩
theorem ok_few {f fT fM : Addr} {fd fdT fdM : FuncData} (F : Fun K "_law_few_answers" "_law_few_answers" sFew f fd) (T : Fun K "_law_take" "_law_take" sTake fT fdT) (bT : Binds K fdT ["_law_box_here", "_law_many"] []) (gT : mg "_law_take" = some (.ref fT))
    (GM : FnOk P w K mg base CX0 2 fM fdM ["_law_box_here", "_law_some"] (spMixR K)) (gM : mg "_law_mixed" = some (.ref fM)) (kM : PySem.W.keepIn K (.ref fM) = true) (bM : Binds K fdM ["_law_box_here", "_law_some"] []) : FnOk P w K mg base CX0 3 f fd ["_law_box_here", "_law_rows"] (spFew K) := by
  have GT : FnOk P w K mg base CX0 1 fT fdT ["_law_box_here", "_law_many"] spTake := ok_take T
  refine F.ok scFew (fun vs H Q E h => ?_) (fun cdv A outer s H vs Q E hr h => ?_)
  · obtain ⟨b, l, n, zs, rfl, _⟩ := h
    rfl
  · obtain ⟨b, l, n, zs, rfl, B, hn, hl, few, nd, q⟩ := h
    have hr1 := hr.mono (show 1 ≤ 2 by decide)
    refine ⟨_, pss_cons (ps_set (i := 2) scFew.nd rfl (.inl rfl) (pe_lst (pa_cons pe_int (pa_cons pe_int (pa_cons (pe_tup (pa_cons pe_int pa_nil)) (pa_cons (pe_tup (pa_cons pe_int pa_nil)) (pa_cons (pe_tup (pa_cons pe_int (pa_cons pe_int pa_nil)))
        (pa_cons (pe_tup (pa_cons pe_int (pa_cons (pe_un un_neg pe_int) pa_nil))) (pa_cons (pe_un un_neg pe_int) (pa_cons pe_int (pa_cons (pe_tup (pa_cons pe_int (pa_cons pe_int (pa_cons pe_int pa_nil)))) (pa_cons (pe_tup (pa_cons pe_int (pa_cons pe_int (pa_cons pe_int pa_nil))))
        (pa_cons (pe_tup (pa_cons pe_int (pa_cons pe_int (pa_cons (pe_un un_neg pe_int) pa_nil)))) pa_nil)))))))))))))
      (pss_cons (ps_expr (pe_bm PySem.F.plainAttrs_list PySem.F.slot_list_append PySem.F.type_list_append mt_append (pv 2) (pa_cons (pe_op op_sub (pe_call GT hr1 rfl gT T.kp bT .nil pass0 (pa_cons (pv 0) (pa_cons pe_int pa_nil))) pe_int) pa_nil)))
      (pss_cons (ps_par (i := 3) (j := 4) (by rfl) scFew.nd rfl rfl (by decide) rfl rfl (pa_cons (pe_op op_add pe_int (pe_call GT hr1 rfl gT T.kp bT .nil pass0 (pa_cons (pv 0) (pa_cons pe_int pa_nil)))) (pa_cons pe_dnewK pa_nil)) (by rfl))
      (pss_cons (ps_for PassesOwn.never rfl (pi_list (pe_call GM hr rfl gM kM bM .nil pass0 (pa_cons (pv 0) (pa_cons (pv 1) pa_nil)))) (pg_name (i := 5) scFew.nd rfl (.inl rfl))
        (pss_one (ps_dput (hu_of hr) (pv 4) (pv 5) (pe_ix (r := rIxL K) ix_list (pv 2) (pe_call GT hr1 rfl gT T.kp bT .nil pass0 (pa_cons (pv 0) (pa_cons (pv 3) pa_nil))) (fun _ _ => rfl)) rfl)))
      (pss_one (ps_ret (pv 4)))))), ?_⟩
    have z1 : 1 ≤ sizeLine := by decide
    have z2 : 2 ≤ sizeLine := by decide
    have z3 : 3 ≤ sizeLine := by decide
    have z11 : 11 ≤ sizeLine := by decide
    -- the answers to be drawn from
    refine ⟨z1, fun t1 g1 => ?_⟩
    have s1 := Same.new (o := .tup [.int 1]) g1
    have e1 : upd H t1 (.tup [.int 1]) t1 = some (.tup ([1].map V.int)) := upd_same
    generalize upd H t1 (.tup [.int 1]) = H1 at s1 e1 ⊢
    refine ⟨z1, fun t2 g2 => ?_⟩
    have s2 := Same.new (o := .tup [.int 0]) g2
    have e2 : upd H1 t2 (.tup [.int 0]) t2 = some (.tup ([0].map V.int)) := upd_same
    generalize upd H1 t2 (.tup [.int 0]) = H2 at s2 e2 ⊢
    refine ⟨z2, fun t3 g3 => ?_⟩
    have s3 := Same.new (o := .tup [.int 0, .int 1]) g3
    have e3 : upd H2 t3 (.tup [.int 0, .int 1]) t3 = some (.tup ([0, 1].map V.int)) := upd_same
    generalize upd H2 t3 (.tup [.int 0, .int 1]) = H3 at s3 e3 ⊢
    refine ⟨_, rfl, z2, fun t4 g4 => ?_⟩
    have s4 := Same.new (o := .tup [.int 0, .int (-1)]) g4
    have e4 : upd H3 t4 (.tup [.int 0, .int (-1)]) t4 = some (.tup ([0, -1].map V.int)) := upd_same
    generalize upd H3 t4 (.tup [.int 0, .int (-1)]) = H4 at s4 e4 ⊢
    refine ⟨_, rfl, z3, fun t5 g5 => ?_⟩
    have s5 := Same.new (o := .tup [.int 9999, .int 0, .int 0]) g5
    have e5 : upd H4 t5 (.tup [.int 9999, .int 0, .int 0]) t5 = some (.tup ([9999, 0, 0].map V.int)) := upd_same
    generalize upd H4 t5 (.tup [.int 9999, .int 0, .int 0]) = H5 at s5 e5 ⊢
    refine ⟨z3, fun t6 g6 => ?_⟩
    have s6 := Same.new (o := .tup [.int 0, .int 0, .int 5]) g6
    have e6 : upd H5 t6 (.tup [.int 0, .int 0, .int 5]) t6 = some (.tup ([0, 0, 5].map V.int)) := upd_same
    generalize upd H5 t6 (.tup [.int 0, .int 0, .int 5]) = H6 at s6 e6 ⊢
    refine ⟨_, rfl, z3, fun t7 g7 => ?_⟩
    have s7 := Same.new (o := .tup [.int 0, .int 0, .int (-5)]) g7
    have e7 : upd H6 t7 (.tup [.int 0, .int 0, .int (-5)]) t7 = some (.tup ([0, 0, -5].map V.int)) := upd_same
    generalize upd H6 t7 (.tup [.int 0, .int 0, .int (-5)]) = H7 at s7 e7 ⊢
    have all7 : ∀ v ∈ [V.int 0, V.int 1, V.ref t1, V.ref t2, V.ref t3, V.ref t4, V.int (-9999), V.int 9999, V.ref t5, V.ref t6, V.ref t7], Small H7 v := by
      have s67 := s6.trans s7
      have s57 := s5.trans s67
      have s47 := s4.trans s57
      have s37 := s3.trans s47
      have s27 := s2.trans s37
      intro v hv
      simp only [List.mem_cons, List.not_mem_nil, or_false] at hv
      rcases hv with rfl | rfl | rfl | rfl | rfl | rfl | rfl | rfl | rfl | rfl | rfl
      · exact small_int ⟨by decide, by decide⟩
      · exact small_int ⟨by decide, by decide⟩
      · exact small_tup (s27 _ _ e1) (by decide) (by decide) (ok_all (by decide))
      · exact small_tup (s37 _ _ e2) (by decide) (by decide) (ok_all (by decide))
      · exact small_tup (s47 _ _ e3) (by decide) (by decide) (ok_all (by decide))
      · exact small_tup (s57 _ _ e4) (by decide) (by decide) (ok_all (by decide))
      · exact small_int ⟨by decide, by decide⟩
      · exact small_int ⟨by decide, by decide⟩
      · exact small_tup (s67 _ _ e5) (by decide) (by decide) (ok_all (by decide))
      · exact small_tup (s7 _ _ e6) (by decide) (by decide) (ok_all (by decide))
      · exact small_tup e7 (by decide) (by decide) (ok_all (by decide))
    have s07 : Same H H7 := s1.trans (s2.trans (s3.trans (s4.trans (s5.trans (s6.trans s7)))))
    clear e1 e2 e3 e4 e5 e6 e7 g1 g2 g3 g4 g5 g6 g7 s1 s2 s3 s4 s5 s6 s7
    refine ⟨z11, fun m0 hm0 => ?_⟩
    generalize hx : [V.int 0, V.int 1, V.ref t1, V.ref t2, V.ref t3, V.ref t4, V.int (-9999), V.int 9999, V.ref t5, V.ref t6, V.ref t7] = xs at all7 ⊢
    have l11 : xs.length = 11 := by rw [← hx]; rfl
    clear hx
    have B7 : BoxAt H7 b n := B.keep fun o e => s07 _ _ e
    have nm0 := box_ne B7 hm0
    have em8 : upd H7 m0 (.lst xs) m0 = some (.lst xs) := upd_same
    have s8 := Same.new (o := .lst xs) hm0
    have all8 : ∀ v ∈ xs, Small (upd H7 m0 (.lst xs)) v := fun v hv => (all7 v hv).same s8
    have B8 := box_new (o := .lst xs) B7 hm0
    have k08 : But b H (upd H7 m0 (.lst xs)) := .same (s07.trans s8)
    generalize upd H7 m0 (.lst xs) = H8 at em8 all8 B8 k08 ⊢
    -- one more
    refine ⟨_, rfl, .inl ⟨rfl, _, .of em8⟩, _, rfl, b, 19999, n, rfl, B8, by omega, by decide, by decide, fun r H9 r0 r1 B9 k9 => ?_⟩
    have em9 := k9 _ _ nm0 em8
    have all9 : ∀ v ∈ xs, Small H9 v := fun v hv => (all8 v hv).at fun a ys e => k9 _ _ (tup_ne B8 e) e
    refine ⟨_, _, rfl, rfl, m0, _, _, rfl, rfl, em9, small1000 (by omega), ?_⟩
    have all10 : ∀ v ∈ xs ++ [V.int (r - 9999)], Small (upd H9 m0 (.lst (xs ++ [V.int (r - 9999)]))) v := fun v hv => by
      have hv2 : Small H9 v := by
        rcases List.mem_append.mp hv with h | h
        · exact all9 v h
        · rw [List.mem_singleton.mp h]
          exact small_int ⟨by omega, by omega⟩
      exact hv2.at fun a ys e => by
        rw [upd_ne (ne_of e em9 (fun z => nomatch z))]
        exact e
    have l12 : (xs ++ [V.int (r - 9999)]).length = 12 := by rw [List.length_append, l11]; rfl
    have em10 : upd H9 m0 (.lst (xs ++ [V.int (r - 9999)])) m0 = some (.lst (xs ++ [V.int (r - 9999)])) := upd_same
    have k010 : But b H (upd H9 m0 (.lst (xs ++ [V.int (r - 9999)]))) := fun c o nc e => by
      have e9 := (k08.trans k9) c o nc e
      rw [upd_ne fun z => by rw [z] at e; rw [s07.free hm0] at e; cases e]
      exact e9
    have B10 : BoxAt (upd H9 m0 (.lst (xs ++ [V.int (r - 9999)]))) b (n + 1) := B9.keep fun o e => by rw [upd_ne (Ne.symm nm0)]; exact e
    generalize upd H9 m0 (.lst (xs ++ [V.int (r - 9999)])) = HA at em10 all10 B10 k010 ⊢
    generalize xs ++ [V.int (r - 9999)] = xs12 at em10 all10 l12
    clear all7 all8 all9 em8 em9 B7 B8 B9 k08 k9
    -- how many, the dict
    refine ⟨_, rfl, b, 12, n + 1, rfl, B10, by omega, by decide, by decide, fun r' HB r0' r1' BB kB => ?_⟩
    obtain ⟨j, rfl, hj⟩ := draw_at (n := 12) r0' r1' rfl
    refine ⟨_, _, rfl, rfl, fun D hD => ?_⟩
    refine ⟨_, _, rfl, ?_⟩
    have nD := box_ne BB hD
    have emB := kB _ _ nm0 em10
    have allB : ∀ v ∈ xs12, Small HB v := fun v hv => (all10 v hv).at fun a ys e => kB _ _ (tup_ne B10 e) e
    have sC := Same.new (o := .dK []) hD
    have eC : upd HB D (.dK []) D = some (.dK []) := upd_same
    have kC : But b H (upd HB D (.dK [])) := (k010.trans kB).trans (.same sC)
    have fD : H D = none := free_of (k010.trans kB) nD hD
    have BC := box_new (o := .dK []) BB hD
    have emC := sC _ _ emB
    have allC : ∀ v ∈ xs12, Small (upd HB D (.dK [])) v := fun v hv => (allB v hv).same sC
    generalize upd HB D (.dK []) = HC at eC kC BC emC allC ⊢
    -- the rows in a drawn order
    have nlb : SqL K HC l (zs.map V.str) := sqL_box kC B hl
    refine ⟨_, rfl, _, rfl, b, l, n + 2, _, rfl, BC, by rw [List.length_map]; omega, nlb, fun p H2 vs pm np ep B2 k2 => ?_⟩
    obtain ⟨ys, rfl, pmy⟩ := perm_map_inv pm zs rfl
    rw [List.length_map] at B2
    have ly : ys.length = zs.length := pmy.length_eq
    have ndy : ys.Nodup := pmy.nodup_iff.mpr nd
    have npb := box_ne BC np
    have em2 := k2 _ _ nm0 emC
    have e2 := k2 _ _ nD eC
    have all2 : ∀ v ∈ xs12, Small H2 v := fun v hv => (allC v hv).at fun a ws e => k2 _ _ (tup_ne BC e) e
    have k02 := kC.trans k2
    have npD : p ≠ D := fun z => by
      rw [z, e2] at ep
      cases ep
    have nmD : m0 ≠ D := fun z => by
      rw [z, e2] at em2
      cases em2
    refine ⟨p, rfl, ⟨_, .of ep⟩, ?_⟩
    refine for_list (xs := ys.map V.str) (fun i σ H3 => (∀ c o, c ≠ b → c ≠ D → H2 c = some o → H3 c = some o) ∧ BoxAt H3 b (n + 2 + zs.length + i) ∧ (∃ kvs an, FewAt H3 D kvs (ys.take i) an) ∧ ∃ x5 : Option V, σ = [some (.ref b), some (.ref l), some (.ref m0), some (.int (1 + (j : Int))), some (.ref D), x5]) ?_ ?_ ?_ ?_
    · exact ⟨fun _ _ _ _ e => e, B2, ⟨[], fun _ => [], e2, rfl, fun q hq => nomatch hq⟩, none, rfl⟩
    · exact fun i σ H3 _ h => .of (h.1 _ _ npb npD ep)
    · rintro i x σ H3 hx ⟨k3, B3, ⟨kvs, an, fa⟩, x5, rfl⟩
      rw [List.getElem?_map] at hx
      obtain ⟨z, hz, rfl⟩ := Option.map_eq_some_iff.mp hx
      have hi : i < ys.length := (List.getElem?_eq_some_iff.mp hz).1
      refine ⟨_, rfl, _, rfl, _, rfl, b, _, _, rfl, B3, by omega, by omega, by omega, fun r2 H4 r20 r21 B4 k4 => ?_⟩
      obtain ⟨j2, rfl, hj2⟩ := draw_at (n := 1 + j) r20 r21 (by omega)
      have em4 := k4 _ _ nm0 (k3 _ _ nm0 nmD em2)
      have hj3 : j2 < xs12.length := by omega
      have hv : xs12[j2]? = some xs12[j2] := List.getElem?_eq_getElem hj3
      refine ⟨m0, _, _, _, rfl, rfl, .of em4, atI_nat hv, ?_⟩
      have eD4 := k4 _ _ nD fa.d
      have kz : kvs.length = i := by
        have := congrArg List.length fa.keys
        rw [List.length_map, List.length_map, List.length_take] at this
        omega
      refine ⟨_, rfl, _, rfl, D, _, rfl, DPut.k (k := Sum.inr z) eD4 (small1000 (by omega)), ?_⟩
      obtain ⟨ns, ha⟩ := all2 _ (List.getElem_mem hj3)
      have t24 : ∀ a ws, H2 a = some (.tup ws) → upd H4 D (.dK (putK kvs (Sum.inr z) xs12[j2])) a = some (.tup ws) := fun a ws e => by
        have e3 := k3 _ _ (tup_ne B2 e) (ne_of e e2 (fun z => nomatch z)) e
        have e4 := k4 _ _ (tup_ne B3 e3) e3
        rw [upd_ne (ne_of e4 eD4 (fun z => nomatch z))]
        exact e4
      have t34 : ∀ a ws, H3 a = some (.tup ws) → upd H4 D (.dK (putK kvs (Sum.inr z) xs12[j2])) a = some (.tup ws) := fun a ws e3 => by
        have e4 := k4 _ _ (tup_ne B3 e3) e3
        rw [upd_ne (ne_of e4 eD4 (fun z => nomatch z))]
        exact e4
      have nz : z ∉ ys.take i := nodup_take ndy hz
      have nk : (Sum.inr z : Key) ∉ kvs.map (·.1) := by
        rw [fa.keys]
        intro h
        obtain ⟨y, hy, e⟩ := List.mem_map.mp h
        rw [Sum.inr.inj e] at hy
        exact nz hy
      refine ⟨fun c o n1 n2 e => ?_, ?_, ⟨putK kvs (Sum.inr z) xs12[j2], fun y => if y = z then ns else an y, upd_same, ?_, fun q hq => ?_⟩, _, rfl⟩
      · rw [upd_ne n2]
        exact k4 _ _ n1 (k3 _ _ n1 n2 e)
      · exact (B4.keep fun o e => by rw [upd_ne (Ne.symm nD)]; exact e).mono (by omega)
      · rw [putK_new _ (valV_not_mem nk), List.map_append, fa.keys, take_snoc hz, List.map_append]
        rfl
      · rw [putK_new _ (valV_not_mem nk)] at hq
        rw [take_snoc hz]
        rcases List.mem_append.mp hq with h | h
        · obtain ⟨y, hy, ey, ay⟩ := fa.is q h
          refine ⟨y, List.mem_append_left _ hy, ey, ?_⟩
          rw [if_neg fun e : y = z => nz (e ▸ hy)]
          exact ay.at t34
        · rw [List.mem_singleton.mp h]
          refine ⟨z, List.mem_append_right _ List.mem_cons_self, rfl, ?_⟩
          rw [if_pos rfl]
          exact ha.at t24
    · rintro σ H3 ⟨k3, B3, ⟨kvs, an, fa⟩, x5, rfl⟩
      rw [List.length_map, List.take_length] at fa
      rw [List.length_map] at B3
      refine ⟨_, rfl, q D H3 kvs ys an fD (B3.mono (by omega)) (fun c o nc e => ?_) pmy fa⟩
      exact k3 _ _ nc (fun z => by rw [z, fD] at e; cases e) (k02 _ _ nc e)
end
end G
set_option Elab.async false
set_option linter.all false
set_option maxRecDepth 100000
set_option maxHeartbeats 2000000
/-! SK1: sorted(xs, key=f) of a list or a tuple over the heap; the call of a lambda whose body is d[a]. -/
namespace SkL
open PySem PySem.Spec PyProof.Rows L2 LamX PySem.W
section
variable {prog : Program} {w : World} {A : Around} {E : Value → Shared → Prop} {s : Shared} {β : Type} {vs : List Value} {bs : List β} {R : Value → β → Prop}
/-- the items of a list or a tuple, taken into a new list: so much the heap grows -/
theorem collect_sized {Q : List Value → Shared → Prop} {it : Addr} {T : String} {o : Obj} {items : Array Value} {n : Nat} (hT : T = "list" ∨ T = "tuple") (ho : s.heap.get? it = some o) (hc : o.cls = .type T) (hd : o.data = .seq items n) (hsz : items.size ≤ sizeLine)
    (hQ : ∀ h', h'.objs.size = s.heap.objs.size + 1 → (∀ b u, s.heap.get? b = some u → h'.get? b = some u) → Q items.toList { s with heap := h' }) : wpAny (model prog w) A (collect (.ref it)) Q E s := by
  let g : Heap := s.heap.push { cls := .type "list", data := .seq ([] : List Value).toArray }
  let g2 : Heap := g.update s.heap.objs.size (Obj.mapSeq (· ++ items))
  have new : g.get? s.heap.objs.size = some { cls := .type "list", data := .seq #[] 0 } := Heap.get?_push_size _ rfl
  have put := Heap.get?_update_self (Obj.mapSeq (· ++ items)) new rfl
  have size2 : g2.objs.size = s.heap.objs.size + 1 := by
    show (g.update _ _).objs.size = _
    rw [Heap.size_update, Heap.size_push]
  have keep2 : ∀ b u, s.heap.get? b = some u → g2.get? b = some u := fun b u e => (Heap.get?_update_other _ _ (Nat.ne_of_gt (Heap.lt_size e))).trans (Heap.get?_push_of_some _ e)
  have last : wpAny (model prog w) A (load s.heap.objs.size >>= fun o => match o.data with
      | .seq xs _ => pure xs.toList
      | _ => unsupported "internal:collect") Q E { s with heap := g2 } := by
    refine wpAny_bind (wpAny_load put (wpAny_pure ?_))
    rw [show ((#[] : Array Value) ++ items).toList = items.toList from by simp]
    exact hQ g2 size2 keep2
  unfold collect
  refine wpAny_bind (wpAny_runValue (codeAny_builtin PySem.F.entry_proto_collect ?_))
  rw [Around.under_plainId PySem.F.plain_proto_collect _]
  show wpAny _ A.in1 (newList [] >>= fun l => again (.builtin "list.__iadd__" ⟨[l, .ref it], []⟩)) _ _ s
  refine wpAny_bind (wpAny_newObj_type (wpAny_pure ⟨plainId_quiet PySem.F.plain_list_iadd _, codeAny_builtin PySem.F.entry_list_iadd ?_⟩))
  rw [Around.under_plainId PySem.F.plain_list_iadd _]
  show wpAny _ A.in1 (Builtin.List.listExtendWith (.ref s.heap.objs.size) (.ref it) (.ref s.heap.objs.size)) _ _ { s with heap := g }
  refine wpAny_mono (wpAny_extend_seq (hsz := hsz) (A := A) (R := fun r s' => r = .ok (.ret (.ref s.heap.objs.size)) ∧ s' = { s with heap := g2 }) (s := { s with heap := g }) _ it _ 0 hT new (Heap.get?_push_of_some _ ho) hc hd ⟨rfl, rfl⟩) (fun fin s' h => ?_) fun e s' h => absurd h.1 (by simp)
  cases fin with
  | done f =>
    obtain ⟨e, rfl⟩ := h
    cases e
    exact last
  | again c' =>
    refine ⟨h.1, codeAny_mono h.2 fun r s'' hr => ?_⟩
    obtain ⟨rfl, rfl⟩ := hr
    exact last
/-- sorted(xs, key=f), xs a list or a tuple -/
theorem sorted_key_seq {l : Addr} {o : Obj} {n : Nat} {T : String} {f : Value} {kw : List (Str × Value)} {Q : Value → Shared → Prop} (k : β → PyData) (hT : T = "list" ∨ T = "tuple") (ho : s.heap.get? l = some o) (hc : o.cls = .type T) (hd : o.data = .seq vs.toArray n)
    (e : EachIs R vs bs) (hal : AllAlike (bs.map k)) (hk : Sortable (bs.map k)) (hL : bs.length ≤ sizeLine)
    (hu : ∀ x, x ∈ bs → A.units + 2 + (k x).depth < cLine) (ha1 : argsOk "sorted" ⟨[.ref l], kw⟩) (ha2 : ∀ x, argsOk "list.sort" ⟨[.ref x], kw⟩) (ht : ∀ x, Builtin.«list.sort» ⟨[.ref x], kw⟩ = ksk_tree x f false)
    (turn : ∀ (v : Value) (x : β), R v x → x ∈ bs → ∀ (h : Heap) (tk : Nat), (∀ b o, s.heap.get? b = some o → h.get? b = some o) →
      wpAny (model prog w) A.in1.in1 (call f [v]) (KeyPure (k x) { s with heap := h, toks := tk }) (fun _ _ => False) { s with heap := h, toks := tk })
    (h : ∀ p out c h' tk, s.heap.objs.size ≤ p → (∀ b o, s.heap.get? b = some o → h'.get? b = some o) → h'.get? p = some (seqObj "list" (List.toArray out) c) → out.length = bs.length → EachIs R out (bs.mergeSort (dataLe false k)) →
      Q (.ref p) { s with heap := h', toks := tk }) :
    wpAny (model prog w) A (call (.builtin "sorted") [.ref l] kw) Q E s := by
  have hlen : vs.length ≤ sizeLine := by rw [e.length]; exact hL
  refine call_function_entry_kw kind_sorted plain_sorted entry_sorted ha1 ?_
  unfold Builtin.«sorted»
  refine wpAny_bind (m := checkCount "sorted" 1 1 _) (wpAny_pure ?_)
  refine wpAny_bind (collect_sized hT ho hc hd (by rw [List.size_toArray]; exact hlen) fun h1 z1 k1 => ?_)
  refine wpAny_bind (wpAny_newList ?_ hlen)
  have k2 : ∀ b u, s.heap.get? b = some u → (h1.push (seqObj "list" vs.toArray 0)).get? b = some u := fun b u q => Heap.get?_push_of_some _ (k1 b u q)
  have at1 : (h1.push (seqObj "list" vs.toArray 0)).get? h1.objs.size = some (seqObj "list" vs.toArray 0) := Heap.get?_push_size _ rfl
  have le1 : s.heap.objs.size ≤ h1.objs.size := by omega
  refine wpAny_bind (wpAny_holding (wpAny_call_entry_kw slot_list_sort ⟨_, at1, rfl⟩ entry_list_sort ?body (ha2 _)))
  case body =>
    show wpAny (model prog w) A.in1.in1 (Builtin.«list.sort» ⟨[.ref h1.objs.size], kw⟩) _ _ { s with heap := h1.push (seqObj "list" vs.toArray 0) }
    rw [ht]
    have up : ∀ {g : Heap}, KeepsBut h1.objs.size (h1.push (seqObj "list" vs.toArray 0)) g → ∀ b u, s.heap.get? b = some u → g.get? b = some u := fun {g} kp b u q =>
      kp b u (Nat.ne_of_lt (Nat.lt_of_lt_of_le (Heap.lt_size q) le1)) (k2 b u q)
    refine keyH_tree (b := false) (kz := bs.map k) (s := { s with heap := h1.push (seqObj "list" vs.toArray 0) }) at1 (by rw [List.length_map]; exact e.length.symm) hlen hal hk (bound_map (A := A.in1.in1) hu)
      (keyH_turns (s := { s with heap := h1.push (seqObj "list" vs.toArray 0) }) e fun v x hR hx g tk kp => turn v x hR hx g tk (up kp)) fun h' tk out c kp hD ko => ?_
    exact ⟨_, rfl, wpAny_pure ⟨_, rfl, h _ out c h' tk le1 (up kp) hD ((ko.length (by rw [List.length_map]; exact e.length.symm)).trans e.length) (keyedOut_each k ko e)⟩⟩
end
section
variable {P : Program} {w : World} {A : Around} {s : Shared} {f c' cc : Addr} {pm ctv v dv : Value} {params : Arguments} {scope : Scope} {cl : List (Str × Addr)} {q d a : Str} {p1 p2 p3 : Pos} {Q : Value → Shared → Prop}
/-- a lambda's call, its body d[a], d captured -/
theorem sub_call (hd : A.depth < recursionLimit) (lim : s.heap.NoLimit) (hf : s.heap.get? f = some (kla_obj "<lambda>" q params (.Subscript (.Name d p1) (.Name a p2) p3) scope cl pm c' ctv)) (hrec : s.heap.CodeRec (.ref c') q)
    (hk : scope.kind = .function) (co : scope.isCoroutine = false) (gen : scope.isGenerator = false) (nocell : ∀ y ∈ scope.names, y.2 ≠ .cell) (la : scope.names.lookup a = some .local) (ld : scope.names.lookup d = some .free)
    (hb : bindArgs (kla_fn "<lambda>" q params (.Subscript (.Name d p1) (.Name a p2) p3) scope cl pm (.ref c') ctv) ⟨[v], []⟩ = pure [(a, v)])
    (hc : cl.lookup d = some cc) (hcell : s.heap.IsCell cc (some dv)) (h1 : (a == ("__debug__" : Str)) = false) (h2 : (d == ("__debug__" : Str)) = false) (h3 : (d == ("__classdict__" : Str)) = false)
    (h : ∀ h₁ tk, (∀ b o, s.heap.get? b = some o → h₁.get? b = some o) → wpAny (model P w) (A.deeper (envX q scope s.heap.objs.size f (.ref c') cl)) (subscriptTail (.Name d p1) (.Name a p2) dv v) Q (fun _ _ => False) { s with heap := h₁, toks := tk }) :
    wpAny (model P w) A (call (.ref f) [v]) Q (fun _ _ => False) s := by
  refine wpAny_call ?_
  refine kla_callFunE hd hf rfl co gen rfl hrec ?_
  rw [hb]
  refine wpAny_pure (wpAny_newFunctionEnv nocell (fun y hy => ?_) (fun h₁ hns hsb => ⟨lim.fresh _ hsb, ?_⟩) hk)
  · rw [List.mem_singleton.mp hy]
    exact la
  show codeAny _ _ (.expr _ (envX q scope s.heap.objs.size f (.ref c') cl)) _ _
  have kp : ∀ b o, s.heap.get? b = some o → h₁.get? b = some o := fun b o e => hsb.extBut b o (Nat.ne_of_lt (Heap.lt_size e)) (Heap.get?_push_of_some _ e)
  obtain ⟨oc, ho, hdc⟩ := hcell
  refine kla_codeExpr (wpAny_mono (show wpAny _ _ _ Q (fun _ _ => False) _ from ?_) (fun v s' hq => hq) fun e s' (hq : False) => False.elim hq)
  refine Subscript_ (wpAny_Name (wpAny_loadName_free hk ld hc ⟨oc, kp _ _ ho, hdc⟩ (wpAny_Name (wpAny_loadName_local hk la hns (show List.lookup a [(a, v)].reverse = some v from by simp) ?_) h1) h3) h2)
  exact h _ _ kp
end
end SkL
set_option Elab.async false
set_option linter.all false
set_option maxRecDepth 100000
set_option maxHeartbeats 4000000
/-! SK2: sorted(xs, key=lambda a: d[a]), xs a list or a tuple of texts, d a captured dict of tuples of ints. -/
namespace SkL
open PySem PySem.Spec PyProof.Rows L2 LamX PySem.W
/-- a tuple of ints is read -/
theorem reads_ints {h : Heap} : ∀ {ns : List Int} {us : List Value}, Vals (ns.map V.int) us → ReadsAll h us (ns.map .int) []
  | [], _, .nil => .nil
  | n :: ns, _, .cons r rr => by
    obtain ⟨t, rfl⟩ := r
    exact ReadsAll.cons (.int n t) (reads_ints rr)
theorem reads_tup {P : Program} {w : World} {H : Hp} {h : Heap} {t : Addr} {ns : List Int} (ok : HOk P w H h) (e : H t = some (.tup (ns.map V.int))) : Reads h (.ref t) (.tuple (ns.map .int)) [] := by
  obtain ⟨_, us, rv, o, h1, h2, n, h3⟩ := (show ObjOk P w H h t (.tup (ns.map V.int)) from ok t _ e)
  exact .tuple h1 h2 h3 (by simpa using reads_ints rv)
section
variable {P : Program} {w : World} {A : Around} {s : Shared} {f c' cc dd t : Addr} {pm ctv v : Value} {params : Arguments} {scope : Scope} {cl : List (Str × Addr)} {q d a z : Str} {tz : Tok} {p1 p2 p3 : Pos} {H : Hp} {kvs : List (Key × V)} {ns : List Int}
/-- .. of a dict of tuples of ints: the key -/
theorem key_call (hd : A.depth < recursionLimit) (lim : s.heap.NoLimit) (hf : s.heap.get? f = some (kla_obj "<lambda>" q params (.Subscript (.Name d p1) (.Name a p2) p3) scope cl pm c' ctv)) (hrec : s.heap.CodeRec (.ref c') q)
    (hk : scope.kind = .function) (co : scope.isCoroutine = false) (gen : scope.isGenerator = false) (nocell : ∀ y ∈ scope.names, y.2 ≠ .cell) (la : scope.names.lookup a = some .local) (ld : scope.names.lookup d = some .free)
    (hb : bindArgs (kla_fn "<lambda>" q params (.Subscript (.Name d p1) (.Name a p2) p3) scope cl pm (.ref c') ctv) ⟨[.str z tz], []⟩ = pure [(a, .str z tz)])
    (hc : cl.lookup d = some cc) (hcell : s.heap.IsCell cc (some (.ref dd))) (h1 : (a == ("__debug__" : Str)) = false) (h2 : (d == ("__debug__" : Str)) = false) (h3 : (d == ("__classdict__" : Str)) = false) (hs : NoSl (.Name a p2))
    (ok : HOk P w H s.heap) (ed : Rd H dd (.dK kvs)) (ez : valV kvs (Sum.inr z : Key) = some (.ref t)) (et : H t = some (.tup (ns.map V.int))) :
    wpAny (model P w) A (call (.ref f) [.str z tz]) (KeyPure (.tuple (ns.map .int)) s) (fun _ _ => False) s := by
  refine wpAny_call ?_
  refine kla_callFunE hd hf rfl co gen rfl hrec ?_
  rw [hb]
  refine wpAny_pure (wpAny_newFunctionEnv nocell (fun y hy => ?_) (fun h₁ hns hsb => ⟨lim.fresh _ hsb, ?_⟩) hk)
  · rw [List.mem_singleton.mp hy]
    exact la
  show codeAny _ _ (.expr _ (envX q scope s.heap.objs.size f (.ref c') cl)) _ _
  have kp : ∀ b o, s.heap.get? b = some o → h₁.get? b = some o := fun b o e => hsb.extBut b o (Nat.ne_of_lt (Heap.lt_size e)) (Heap.get?_push_of_some _ e)
  obtain ⟨oc, ho, hdc⟩ := hcell
  have ok1 : HOk P w H h₁ := ok.kept kp
  obtain ⟨_, _, vs, rel, dct⟩ := dk_rd ok1 ed
  obtain ⟨w', hw, rw'⟩ := RelO.some_of (v := .ref t) (o := valueAt vs (Sum.inr z : Key)) (by rw [← ez]; exact rel.val _)
  obtain rfl : w' = Value.ref t := rw'
  refine kla_codeExpr (wpAny_mono (show wpAny _ _ _ (KeyPure (.tuple (ns.map .int)) s) (fun _ _ => False) _ from ?_) (fun v s' hq => hq) fun e s' (hq : False) => False.elim hq)
  refine subD_of PySem.F.slot_dict_getitem.lookup hs (wpAny_Name (wpAny_loadName_free hk ld hc ⟨oc, kp _ _ ho, hdc⟩ (wpAny_Name (wpAny_loadName_local hk la hns (show List.lookup a [(a, Value.str z tz)].reverse = some (.str z tz) from by simp) ⟨dct.typeIs, ?_⟩) h1) h3) h2)
  exact wpAny_getItem_of (kV_is (k := Sum.inr z) ⟨tz, rfl⟩) dct.mapOf hw ⟨h₁, _, rfl, kp, reads_tup ok1 et⟩
end
/-- a lambda of one parameter: it, captured names and globals -/
structure LamS1 (sc scope : Scope) (a d : Str) : Prop where
  kind : scope.kind = .function
  co : scope.isCoroutine = false
  gen : scope.isGenerator = false
  nocell : ∀ y ∈ scope.names, y.2 ≠ .cell
  la : scope.names.lookup a = some .local
  ld : scope.names.lookup d = some .free
  free : ∀ y ∈ scope.names, y.2 = .free → sc.names.lookup y.1 = some .cell ∨ sc.names.lookup y.1 = some .free
  own : sc.names.lookup d = some .cell ∨ sc.names.lookup d = some .free
/-- what the keys are -/
def intK (key : Str → List Int) (z : Str) : PyData := .tuple ((key z).map .int)
def sortedBy (key : Str → List Int) (zs : List Str) : List Str := zs.mergeSort (dataLe false (intK key))
theorem vals_strs : ∀ {zs : List Str} {us : List Value}, Vals (zs.map V.str) us → EachIs (fun v z => ∃ t, v = Value.str z t) us zs
  | [], _, .nil => .nil
  | _ :: _, _, .cons r rr => .cons r (vals_strs rr)
theorem strs_vals : ∀ {zs : List Str} {us : List Value}, EachIs (fun v z => ∃ t, v = Value.str z t) us zs → Vals (zs.map V.str) us
  | _, _, .nil => .nil
  | _, _, .cons r rr => .cons r (strs_vals rr)
/-- sorted(xs, key=lambda a: d[a]): d stands in the slot i -/
def tSortL (K : PySem.W.Frag) (T : List (Addr × Str)) (i : Nat) (t : TA) : TE := fun σ H Q => t σ H fun vs H1 => Tabs T H1 ∧ ∃ (l dd : Addr) (zs : List Str) (kvs : List (Key × V)) (key : Str → List Int), vs = [.ref l] ∧ (SqL K H1 l (zs.map V.str) ∨ SqT K H1 l (zs.map V.str)) ∧ σ[i]? = some (some (.ref dd)) ∧ H1 dd = some (.dK kvs) ∧
  zs.length ≤ 900 ∧ (∀ z ∈ zs, key z ≠ [] ∧ ∃ t, valV kvs (Sum.inr z : Key) = some (.ref t) ∧ H1 t = some (.tup ((key z).map V.int))) ∧
  ∀ p H2, ExtN H1 H2 → Tabs T H2 → H2 p = none → Q (.ref p) (upd H2 p (.lst ((sortedBy key zs).map V.str)))
section
variable {X : Cx} {T : List (Addr × Str)} {c P : Addr} {e : Expr} {t : TA} {params : Arguments} {scope : Scope} {a d : Str} {i : Nat} {p pos p1 p2 p3 lp kp : Pos}
theorem pe_sortLam (TB : TabB X.base X.mg c P) (hcode : X.env.code = .ref c) (hm : (P, X.env.qual ++ "<lambda>") ∈ T) (hu : ∀ p ∈ T, p.1 = P → p.2 = X.env.qual ++ "<lambda>") (L : LamS1 X.env.scope scope a d)
    (ha : PA X [e] t) (hg : Gl X "sorted") (hmg : X.mg "sorted" = none) (hr : X.A.units + 4 < cLine) (hdp : X.A.depth + 4 < recursionLimit) (hN : X.N[i]? = some d)
    (hdef : defaultsOf params X.env = ([], [])) (hbd : ∀ (q : Str) (body : Expr) (cl : List (Str × Addr)) (pm cdv ctv v : Value), bindArgs (kla_fn "<lambda>" q params body scope cl pm cdv ctv) ⟨[v], []⟩ = pure [(a, v)])
    (h1 : (a == ("__debug__" : Str)) = false) (h2 : (d == ("__debug__" : Str)) = false) (h3 : (d == ("__classdict__" : Str)) = false) (hs : NoSl (.Name a p2))
    (he1 : backTo pos (starEach [e] X.env) = (false, eval e X.env) :: backTo pos (starEach [] X.env) := by rfl) (hpl : (backTo pos (starEach [e] X.env)).any (·.1) = false := by rfl) :
    PE X (.Call (.Name "sorted" p) [e] [⟨some "key", .Lambda params (.Subscript (.Name d p1) (.Name a p2) p3) scope lp, kp⟩] pos) (tSortL X.K T i t) := by
  refine ⟨fun pins s σ H Q I h => ?_⟩
  refine wpAny_Call_Name_kw (ld_blt I hg hmg (u := .builtin "sorted") (by decide +kernel) ?_)
  refine PyProof.Rows.callWith_kw (thn (ha.run pos pins s σ H _ I h) fun us s1 ⟨vs, H1, I1, r1, q1⟩ => ?_) he1 hpl (by rfl) (by rfl)
  obtain ⟨hT, l, dd, zs, kvs, key, rfl, hseq, hdd, edd, l900, hkeys, q⟩ := q1
  obtain rfl := Vals.ref1 r1
  show wpAny _ _ (evalAll [do let v ← eval (.Lambda params (.Subscript (.Name d p1) (.Name a p2) p3) scope lp) X.env; standAt pos; pure v]) _ _ s1
  have hfree : ∀ y ∈ scope.names, y.2 = .free → ∃ c, X.env.cells.lookup y.1 = some c := fun y hy e => by
    rcases L.free y hy e with k | k
    · exact I1.ok.has _ (.inl k)
    · exact I1.ok.has _ (.inr k)
  refine wpAny_evalAll_cons (wpAny_bind (lam_make2 I1 TB hcode hm hu hT hdef hfree fun f c' pm ctv H2 s2 I2 hE hT2 hf hfn hfr hc' => wpAny_bind (wpAny_standAt (wpAny_pure (wpAny_evalAll_nil ?_)))))
  show wpAny _ _ (call (.builtin "sorted") [.ref l] [(Str.ofString "key", .ref f)]) _ _ s2
  have hf0 := I2.hok c' _ hc'
  obtain ⟨⟨oc, vs, t, hoc, hdc, hvc⟩, _, _⟩ := hf0
  -- the captured name
  obtain ⟨m, hn, hl⟩ := I2.loc
  have vis : Vis X.env.scope d := L.own.elim (fun k => .inr (.inl k)) fun k => .inr (.inr k)
  obtain ⟨w', rw', look⟩ := hl i d (.ref dd) hN hdd vis
  obtain rfl : w' = Value.ref dd := rw'
  obtain ⟨cc, hcc, hcell⟩ : ∃ cc, X.env.cells.lookup d = some cc ∧ s2.heap.IsCell cc (some (.ref dd)) := by
    rcases look with ⟨k', _⟩ | ⟨_, c3, e', z⟩
    · have k' : X.env.scope.names.lookup d = some .local := k'
      rcases L.own with k2 | k2 <;> rw [show X.env.scope.names.lookup d = _ from k2] at k' <;> cases k'
    · exact ⟨c3, e', z⟩
  obtain ⟨c2, hc2⟩ := mem_lookup (cloFrom_has (cells := X.env.cells) (acc := []) (PySem.mem_of_lookup L.ld))
  have ec2 : c2 = cc := by
    rcases cloFrom_mem (PySem.mem_of_lookup hc2) with hm | ⟨_, h2⟩
    · cases hm
    · rw [h2, hcc] <;> rfl
  rw [ec2] at hc2
  have ed2 : H2 dd = some (.dK kvs) := hE _ _ edd fun ps z => nomatch z
  -- what is sorted
  obtain ⟨its, T1, o, n, hT1, hlo, hlc, hld, rv⟩ : ∃ (its : List Value) (T1 : String) (o : Obj) (n : Nat), (T1 = "list" ∨ T1 = "tuple") ∧ s2.heap.get? l = some o ∧ o.cls = .type T1 ∧ o.data = .seq its.toArray n ∧ Vals (zs.map V.str) its := by
    rcases hseq with hs | hs
    · obtain ⟨its, rv, ⟨o, n, g1, g2, g3, g4⟩, _⟩ := I2.list (show SqL X.K H2 l (zs.map V.str) from match hs with
        | .inl (.inl h) => .inl (.inl (hE _ _ h fun ps z => nomatch z))
        | .inl (.inr ⟨o, h⟩) => .inl (.inr ⟨o, hE _ _ h fun ps z => nomatch z⟩)
        | .inr h => .inr h)
      exact ⟨its, _, o, n, .inl rfl, g1, g2, by assumption, rv⟩
    · obtain ⟨its, rv, ⟨o, g1, g2, n, g3⟩, _⟩ := I2.tuple (show SqT X.K H2 l (zs.map V.str) from match hs with
        | .inl (.inl h) => .inl (.inl (hE _ _ h fun ps z => nomatch z))
        | .inl (.inr ⟨o, h⟩) => .inl (.inr ⟨o, hE _ _ h fun ps z => nomatch z⟩)
        | .inr h => .inr h)
      exact ⟨its, _, o, n, .inr rfl, g1, g2, g3, rv⟩
  have dep : ∀ z, (intK key z).depth = 1 := fun z => by
    show (PyData.tuple ((key z).map .int)).depth = 1
    simp [PyData.depth, depth_ints]
  refine sorted_key_seq (k := intK key) hT1 hlo hlc hld (vals_strs rv) (AllAlike.of fun _ _ => by simp [intK, alike, alike_ints]) (.inl fun dt hdt => ?_) (by rw [sizeLine_eq]; omega) (fun z _ => by rw [dep]; omega) (ksk_s1 _ _) (fun _ => ksk_l1 _ _) (fun _ => ksk_t1 _ _)
    (fun v z hR hz h tk kp => ?_) fun p out c h' tk hsz kp hD hlen eo => ?_
  · obtain ⟨z, hz, rfl⟩ := List.mem_map.mp hdt
    obtain ⟨ne, _⟩ := hkeys z hz
    unfold intK
    cases e : key z with
    | nil => exact absurd e ne
    | cons n ns => exact ⟨_, _, rfl⟩
  · obtain ⟨tz, rfl⟩ := hR
    obtain ⟨_, t, e1, e2⟩ := hkeys z hz
    refine key_call (s := { s2 with heap := h, toks := tk }) (H := H2) (by show X.A.depth < _; omega) (I2.nolimit.keeps kp) (kp _ _ hf) ⟨c', oc, vs, _, rfl, kp _ _ hoc, hdc, hvc⟩ L.kind L.co L.gen L.nocell L.la L.ld (hbd _ _ _ _ _ _ _) hc2 ?_ h1 h2 h3 hs (I2.hok.kept kp) (.inl ed2) e1 (hE _ _ e2 fun ps z => nomatch z)
    obtain ⟨ob, g1, g2⟩ := hcell
    exact ⟨ob, kp _ _ g1, g2⟩
  · have rv2 := strs_vals eo
    refine ⟨.ref p, upd H2 p (.lst ((sortedBy key zs).map V.str)), I2.laid (t' := tk) kp hsz ⟨?_, out, c, rv2, hD⟩, rfl, q p H2 hE hT2 (I2.hok.fresh hsz)⟩
    rw [sizeLine_eq, List.length_map]
    unfold sortedBy
    rw [List.length_mergeSort]
    omega
end
end SkL
set_option Elab.async false
set_option linter.all false
set_option maxRecDepth 100000
set_option maxHeartbeats 2000000
/-! SM: putting each item ahead of the first one that must come behind it is the stable sort; <= of tuples of ints. -/
namespace SkL
open PySem PySem.Spec PyProof.Rows L2 LamX PySem.W
section
variable {α : Type} {le : α → α → Bool}
/-- acc is l in order, equal ones as they stood -/
def Stb (le : α → α → Bool) (l acc : List α) : Prop := ∃ L : List (α × Nat), L.map (·.1) = acc ∧ L.Perm l.zipIdx ∧ L.Pairwise fun a b => List.zipIdxLE le a b = true
theorem Stb.nil : Stb le [] [] := ⟨[], rfl, .refl _, .nil⟩
theorem zle_of {a b : α × Nat} (h : le a.1 b.1 = true) (i : a.2 ≤ b.2) : List.zipIdxLE le a b = true := by
  unfold List.zipIdxLE
  rw [if_pos h]
  split
  · exact decide_eq_true i
  · rfl
theorem zle_of2 {a b : α × Nat} (h : le a.1 b.1 = true) (n : le b.1 a.1 = false) : List.zipIdxLE le a b = true := by
  unfold List.zipIdxLE
  rw [if_pos h, if_neg (by rw [n]; exact Bool.false_ne_true)]
theorem zle_le {a b : α × Nat} (h : List.zipIdxLE le a b = true) : le a.1 b.1 = true := by
  unfold List.zipIdxLE at h
  by_cases z : le a.1 b.1 = true
  · exact z
  · rw [if_neg z] at h
    cases h
theorem Stb.len {l acc : List α} (h : Stb le l acc) : acc.length = l.length := by
  obtain ⟨L, e, pm, _⟩ := h
  rw [← e, List.length_map, pm.length_eq, List.length_zipIdx]
theorem Stb.put {l acc : List α} {z : α} {p : Nat} (T : TotalLe le) (h : Stb le l acc) (hp : p ≤ acc.length) (h1 : ∀ j x, j < p → acc[j]? = some x → le x z = true) (h2 : p = acc.length ∨ ∃ y, acc[p]? = some y ∧ le y z = false) :
    Stb le (l ++ [z]) (acc.take p ++ z :: acc.drop p) := by
  obtain ⟨L, e, pm, pw⟩ := h
  have lL : L.length = acc.length := by rw [← e, List.length_map]
  have idx : ∀ q ∈ L, q.2 < l.length := fun q hq => by
    have := List.mem_zipIdx (pm.mem_iff.mp hq)
    simpa using this.2.1
  refine ⟨L.take p ++ (z, l.length) :: L.drop p, ?_, ?_, ?_⟩
  · rw [List.map_append, List.map_cons, List.map_take, List.map_drop, e]
  · rw [List.zipIdx_append]
    have e9 : [z].zipIdx (0 + l.length) = [(z, l.length)] := by simp
    rw [e9]
    refine List.perm_middle.trans ?_
    rw [List.take_append_drop]
    exact (pm.cons _).trans (List.perm_append_singleton _ _).symm
  · have pws := pw
    rw [← List.take_append_drop p L, List.pairwise_append] at pws
    obtain ⟨q1, q2, q3⟩ := pws
    have before : ∀ x ∈ L.take p, List.zipIdxLE le x (z, l.length) = true := fun x hx => by
      obtain ⟨j, hj⟩ := List.mem_iff_getElem?.mp hx
      rw [List.getElem?_take] at hj
      split at hj
      · rename_i lt
        refine zle_of (h1 j x.1 lt ?_) (Nat.le_of_lt (idx x (List.mem_of_mem_take hx)))
        rw [← e, List.getElem?_map, hj]
        rfl
      · cases hj
    have behind : ∀ y ∈ L.drop p, List.zipIdxLE le (z, l.length) y = true := fun y hy => by
      rcases h2 with h2 | ⟨y0, hy0, n0⟩
      · rw [List.drop_of_length_le (by omega)] at hy
        cases hy
      · rw [← e, List.getElem?_map] at hy0
        obtain ⟨q0, hq0, rfl⟩ := Option.map_eq_some_iff.mp hy0
        have ed : L.drop p = q0 :: L.drop (p + 1) := by
          obtain ⟨lt, eq⟩ := List.getElem?_eq_some_iff.mp hq0
          rw [← eq]
          exact List.drop_eq_getElem_cons lt
        have zq : le z q0.1 = true := (T.total z q0.1).resolve_right (by rw [n0]; exact Bool.false_ne_true)
        have qy : le q0.1 y.1 = true := by
          rw [ed] at hy q2
          rcases List.mem_cons.mp hy with rfl | hy
          · exact (T.total _ _).elim id id
          · exact zle_le (List.rel_of_pairwise_cons q2 hy)
        refine zle_of2 (T.trans _ _ _ zq qy) ?_
        show le y.1 z = false
        cases c : le y.1 z with
        | false => rfl
        | true =>
          have := T.trans _ _ _ qy c
          rw [n0] at this
          cases this
    refine List.pairwise_append.mpr ⟨q1, List.pairwise_cons.mpr ⟨behind, q2⟩, fun a ha b hb => ?_⟩
    rcases List.mem_cons.mp hb with rfl | hb
    · exact before a ha
    · exact q3 a ha b hb
theorem Stb.eq {l acc : List α} (T : TotalLe le) (h : Stb le l acc) : acc = l.mergeSort le := by
  obtain ⟨L, e, pm, pw⟩ := h
  have tr := List.zipIdxLE_trans (le := le) T.trans
  have to := List.zipIdxLE_total (le := le) fun a b => by
    rcases T.total a b with h | h <;> simp [h]
  have eL : L = l.zipIdx.mergeSort (List.zipIdxLE le) := by
    refine List.Perm.eq_of_pairwise (le := fun a b => List.zipIdxLE le a b = true) (fun a b ha hb hab hba => ?_) pw (List.pairwise_mergeSort tr to _) (pm.trans (List.mergeSort_perm _ _).symm)
    have ia := List.mem_zipIdx (pm.mem_iff.mp ha)
    have ib := List.mem_zipIdx ((List.mergeSort_perm _ _).mem_iff.mp hb)
    have l1 := zle_le hab
    have l2 := zle_le hba
    unfold List.zipIdxLE at hab hba
    rw [if_pos l1, if_pos l2] at hab
    rw [if_pos l2, if_pos l1] at hba
    have e2 : a.2 = b.2 := Nat.le_antisymm (of_decide_eq_true hab) (of_decide_eq_true hba)
    refine Prod.ext ?_ e2
    rw [ia.2.2, ib.2.2]
    simp only [e2]
  rw [← e, eL]
  exact List.mergeSort_zipIdx
end
/-- the order of tuples of ints -/
def leI (ns ms : List Int) : Bool := !dataLt (.tuple (ms.map .int)) (.tuple (ns.map .int))
theorem leI_total (key : Str → List Int) : TotalLe fun a b => leI (key a) (key b) := sortLe_total (listOrd itemOrd) false fun z => keyToks (intK key z)
theorem sortedBy_of {key : Str → List Int} {zs acc : List Str} (h : Stb (fun a b => leI (key a) (key b)) zs acc) : acc = sortedBy key zs := h.eq (leI_total key)
def rLeI (K : PySem.W.Frag) : R2 := fun x y H Q => ∃ (a b : Addr) (ns ms : List Int), x = .ref a ∧ y = .ref b ∧ H a = some (.tup (ns.map V.int)) ∧ H b = some (.tup (ms.map V.int)) ∧ Q (.bl (leI ns ms)) H
theorem op_leI {X : Cx} (hu : X.A.units + 4 < cLine) : OpR X (compareOp .LtE) (rLeI X.K) := by
  intro pins s σ H x y v u Q I rx ry h
  obtain ⟨a, b, ns, ms, rfl, rfl, ha, hb, q⟩ := h
  cases rx
  cases ry
  have d1 : ∀ xs : List Int, (PyData.tuple (xs.map .int)).depth = 1 := fun xs => by simp [PyData.depth, depth_ints]
  have r := rcLe_alike (.tuple (ns.map .int)) (.tuple (ms.map .int)) X.A s _ _ _ _ (reads_tup I.hok ha) (reads_tup I.hok hb) (by simp [alike, alike_ints]) (fun z => nomatch z) (by rw [d1, d1]; show X.A.units + 1 < _; omega)
  exact r X.prog X.w _ _ ⟨.bl _, H, I, rfl, q⟩
end SkL
set_option Elab.async false
set_option linter.all false
set_option maxRecDepth 100000
set_option maxHeartbeats 4000000
/-! SD: sorted(xs) of a list of tuples of ints. -/
namespace SkL
open PySem PySem.Spec PyProof.Rows L2 PySem.W
/-- a tuple's place, its ints -/
abbrev TI := Addr × List Int
abbrev encT (p : TI) : PyData := .tuple (p.2.map .int)
abbrev sortT (ts : List TI) : List TI := ts.mergeSort (dataLe false encT)
def rSortedT (K : PySem.W.Frag) : List V → Hp → VK → Prop := fun vs H Q => ∃ (a : Addr) (ts : List TI), vs = [V.ref a] ∧ SqL K H a (ts.map fun p => V.ref p.1) ∧ (∀ p ∈ ts, H p.1 = some (.tup (p.2.map V.int)) ∧ 1 ≤ p.2.length ∧ p.2.length ≤ 100) ∧ ts.length ≤ sizeLine ∧
  ∀ p, H p = none → Q (.ref p) (upd H p (.lst ((sortT ts).map fun q => V.ref q.1)))
theorem each_refs : ∀ {ts : List TI} {us : List Value}, Vals (ts.map fun p => V.ref p.1) us → EachIs (fun v (p : TI) => v = Value.ref p.1) us ts
  | [], _, r => by
    cases r
    exact .nil
  | p :: ts, _, r => by
    cases r with
    | cons h t => exact .cons h (each_refs t)
theorem refs_each : ∀ {ts : List TI} {us : List Value}, EachIs (fun v (p : TI) => v = Value.ref p.1) us ts → Vals (ts.map fun p => V.ref p.1) us
  | _, _, .nil => .nil
  | _, _, .cons h t => .cons h (refs_each t)
theorem each_with {α β : Type} {R S : α → β → Prop} : ∀ {l : List α} {m : List β}, EachIs R l m → (∀ a b, b ∈ m → R a b → S a b) → EachIs S l m
  | _, _, .nil, _ => .nil
  | _, _, .cons h t, f => .cons (f _ _ List.mem_cons_self h) (each_with t fun a b hb r => f a b (List.mem_cons_of_mem _ hb) r)
theorem dp_ints {K : PySem.W.Frag} {H : Hp} : ∀ ns : List Int, DpAll K H (ns.map V.int) (ns.map PyData.int)
  | [] => .nil
  | n :: ns => .cons (.int n) (dp_ints ns)
section
variable {X : Cx}
theorem cr_sortedT (hu : X.A.units + 8 < cLine) : CallR X (.builtin "sorted") (rSortedT X.K) := by
  intro pins s σ H vs us Q I r h
  obtain ⟨a, ts, rfl, hs, ht, hz, q⟩ := h
  obtain ⟨its, rv, hl, _⟩ := I.list hs
  obtain ⟨u, rfl, ru⟩ := vals1 r
  obtain rfl : u = Value.ref a := ru
  have e := each_refs rv
  have dep : ∀ ns : List Int, (PyData.tuple (ns.map .int)).depth = 1 := fun ns => by simp [PyData.depth, depth_ints]
  refine sorted_data (enc := encT) hl.isList e (each_with e fun v p hp ev => ?_) ?_ (.inl fun d hd => ?_) hz (fun b hb => ?_) fun out ho hout => ?_
  · subst ev
    exact Dp.reads I _ _ _ (Dp.tup (.of (ht p hp).1) (dp_ints p.2)) rfl
  · exact AllAlike.of fun _ _ => by simp [encT, alike, alike_ints]
  · obtain ⟨p, hp, rfl⟩ := List.mem_map.mp hd
    obtain ⟨_, l1, _⟩ := ht p hp
    match hp2 : p.2, l1 with
    | n :: r, _ => exact ⟨.int n, r.map .int, by show PyData.tuple (p.2.map .int) = _; rw [hp2]; rfl⟩
  · have := dep b.2
    show X.A.units + 2 + (PyData.tuple (b.2.map .int)).depth < cLine
    omega
  · obtain ⟨c, hc⟩ := sortedAll_at s.heap its (List.toArray out)
    have fr : s.heap.objs.size ≤ s.heap.objs.size + 1 := Nat.le_succ _
    refine ⟨.ref (s.heap.objs.size + 1), upd H (s.heap.objs.size + 1) (.lst ((sortT ts).map fun q => V.ref q.1)), I.laid (t' := s.toks) (fun b o hb => sortedAll_old hb) fr ⟨?_, out, c, refs_each hout, hc⟩, rfl, q _ (I.hok.fresh fr)⟩
    rw [List.length_map, List.length_mergeSort]
    exact hz
end
end SkL
set_option Elab.async false
set_option linter.all false
set_option maxRecDepth 100000
set_option maxHeartbeats 2000000
/-! CO: a def's code object, told of its body. -/
namespace G
open PySem PySem.Spec PyProof.Rows L2 NdefX LamX
/-- the code object of the def at a -/
def cdOf (K : PySem.W.Frag) (a : Addr) : Addr := match K.lookup a with
  | some ⟨_, _, .func fd, _⟩ => (match fd.code with
    | .ref c => c
    | _ => 0)
  | _ => 0
theorem cdOf_eq {K : PySem.W.Frag} {f : Addr} {oc : Value} {od : Option Addr} {fd : FuncData} {osl : Array (Option Value)} {q : Str} (lk : K.lookup f = some ⟨oc, od, .func fd, osl⟩) (h : PySem.W.codeIn K fd.code q = true) : fd.code = .ref (cdOf K f) := by
  unfold cdOf
  rw [lk]
  show fd.code = .ref (match fd.code with | .ref c => c | _ => 0)
  cases e : fd.code with
  | ref c => rfl
  | _ =>
    rw [e] at h
    cases h
section
variable {P : Program} {w : World} {K : PySem.W.Frag} {mg : Str → Option Value} {base : Heap}
/-- as Fun.ok, the code object known -/
theorem fun_okC {x qual : Str} {st : Stmt} {f : Addr} {fd : FuncData} {N ps : List Str} {k : Nat} {sp : Sp} (F : Fun K x qual st f fd) (S : FnScope N ps (defScope st)) (len : ∀ vs H Q E, sp vs H Q E → vs.length = ps.length)
    (hbody : ∀ (A : Around) (outer : List Env) (s : Shared) (H : Hp) (vs : List V) (Q : VK) (E : XK), Room k (A.deeper (envOfC qual (defScope st) s.heap.objs.size f (.ref (cdOf K f)))) → sp vs H Q E →
      ∃ t, PSs (cxOf CX0 P w K mg base N qual (defScope st) f (.ref (cdOf K f)) A outer s H E).nox (defBody st) t ∧ t { nx := fun _ H' => Q .non H', rt := Q } (start N vs) H) : FnOk P w K mg base CX0 (k + 1) f fd ps sp := by
  obtain ⟨oc, od, kV, doc, pm, an, cdv, ct, osl, rfl, lk, hcd⟩ := F.ex
  have e : cdv = .ref (cdOf K f) := cdOf_eq lk hcd
  subst e
  refine fn_of lk hcd S len fun A outer s H vs Q E hr hsp => ?_
  obtain ⟨t, h, q⟩ := hbody A outer s H vs Q E hr hsp
  exact ⟨t, h.nox, q⟩
end
end G
set_option Elab.async false
set_option linter.all false
set_option maxRecDepth 100000
set_option maxHeartbeats 4000000
/-! DN: dicts whose keys are nested tuples: new, stored in, asked. -/
namespace G
open PySem PySem.Spec PyProof.Rows L2
/-- a key, its tuple's place, what stands there -/
abbrev Ent := NestedKey × Addr × V
abbrev EntR : Ent → NestedKey × Addr × Value → Prop := fun p q => p.1 = q.1 ∧ p.2.1 = q.2.1 ∧ RelV p.2.2 q.2.2
def dnAt (P : Program) (w : World) (a : Addr) (ks : List Ent) (h : Heap) : Prop := ks.length ≤ sizeLine ∧ (a == sysModules) = false ∧ ∃ xs : List (NestedKey × Addr × Value), Paired EntR ks xs ∧
  ∃ o es ep, h.get? a = some o ∧ o.ExactDict ∧ o.data = .dict es ep ∧ es.toList = xs.map (entryOfKey (nestedKind P w)) ∧ (xs.map (·.1)).Nodup
/-- such a dict, its entries from the oldest -/
def dnO (P : Program) (w : World) (a : Addr) (ks : List Ent) : HO := .ext (dnAt P w a ks)
mutual
/-- v is the key k -/
inductive NV (H : Hp) : V → NestedKey → Prop
  | non : NV H .non .none
  | int (i : Int) : NV H (.int i) (.num i)
  | str (x : Str) : NV H (.str x) (.text x)
  | tup {a : Addr} {xs : List V} {ks : List NestedKey} : H a = some (.tup xs) → NVs H xs ks → NV H (.ref a) (.tup ks)
inductive NVs (H : Hp) : List V → List NestedKey → Prop
  | nil : NVs H [] []
  | cons {v : V} {vs : List V} {k : NestedKey} {ks : List NestedKey} : NV H v k → NVs H vs ks → NVs H (v :: vs) (k :: ks)
end
mutual
theorem NV.same {H H' : Hp} (s : ∀ a xs, H a = some (.tup xs) → H' a = some (.tup xs)) : ∀ {v : V} {k : NestedKey}, NV H v k → NV H' v k
  | _, _, .non => .non
  | _, _, .int i => .int i
  | _, _, .str x => .str x
  | _, _, .tup e h => .tup (s _ _ e) (NVs.same s h)
theorem NVs.same {H H' : Hp} (s : ∀ a xs, H a = some (.tup xs) → H' a = some (.tup xs)) : ∀ {vs : List V} {ks : List NestedKey}, NVs H vs ks → NVs H' vs ks
  | _, _, .nil => .nil
  | _, _, .cons h t => .cons (NV.same s h) (NVs.same s t)
end
section
variable {P : Program} {w : World} {H : Hp} {h : Heap} {a : Addr} {ks : List Ent} {k : NestedKey}
mutual
theorem nv_is (ok : HOk P w H h) : ∀ {v : V} {k : NestedKey} {u : Value}, NV H v k → RelV v u → NestedIs h k u
  | _, _, _, .non, r => by
    cases r
    exact .none
  | _, _, _, .int i, r => by
    obtain ⟨t, rfl⟩ := r
    exact .int i t
  | _, _, _, .str x, r => by
    obtain ⟨t, rfl⟩ := r
    exact .text x t
  | _, _, _, .tup (a := a) (xs := xs) e hs, r => by
    cases r
    obtain ⟨_, its, rv, o, h1, h2, n, h3⟩ := (show ObjOk P w H h a (.tup xs) from ok a _ e)
    exact .tup h1 h2 h3 (by simpa using nvs_is ok hs rv)
theorem nvs_is (ok : HOk P w H h) : ∀ {vs : List V} {ks : List NestedKey} {us : List Value}, NVs H vs ks → Vals vs us → NestedAll h ks us
  | _, _, _, .nil, r => by
    cases r
    exact .nil
  | _, _, _, .cons h1 t, r => by
    cases r with
    | cons r1 rs => exact .cons (nv_is ok h1 r1) (nvs_is ok t rs)
end
/-- its keys stand -/
def KsN (H : Hp) (ks : List Ent) : Prop := ∀ e ∈ ks, NV H (.ref e.2.1) e.1 ∧ e.1.depth ≤ 8
theorem KsN.same {H' : Hp} (x : KsN H ks) (s : ∀ a xs, H a = some (.tup xs) → H' a = some (.tup xs)) : KsN H' ks := fun e he => ⟨(x e he).1.same s, (x e he).2⟩
theorem dn_of (ok : HOk P w H h) (e : H a = some (dnO P w a ks)) (hk : KsN H ks) : ks.length ≤ sizeLine ∧ (a == sysModules) = false ∧ ∃ xs, Paired EntR ks xs ∧ h.DictOfH (nestedKind P w) a xs := by
  obtain ⟨⟨z, y, xs, r, o, es, ep, h1, h2, h3, h4, h5⟩, _⟩ := (show ObjOk P w H h a (.ext (dnAt P w a ks)) from ok a _ e)
  refine ⟨z, y, xs, r, o, es, ep, h1, h2, h3, h4, ?_, h5⟩
  have all : ∀ {l : List Ent} {m : List (NestedKey × Addr × Value)}, Paired EntR l m → KsN H l → ∀ x ∈ m, (nestedKind P w).is h x.1 x.2.1 := by
    intro l m q
    induction q with
    | nil => intro _ x hx; exact nomatch hx
    | @cons p q ps qs hq t ih =>
      intro hl x hx
      rcases List.mem_cons.mp hx with e | hx
      · subst e
        obtain ⟨g1, g2⟩ := hl p List.mem_cons_self
        obtain ⟨e1, e2, _⟩ := hq
        rw [← e1, ← e2]
        exact ⟨nv_is ok g1 rfl, g2⟩
      · exact ih (fun e he => hl e (List.mem_cons_of_mem _ he)) x hx
  exact all r hk
theorem dn_ok (z : dnAt P w a ks h) : ObjOk P w H h a (dnO P w a ks) := by
  refine ⟨z, ?_, ?_⟩
  · obtain ⟨_, _, _, _, o, _, _, h1, _⟩ := z
    exact ⟨o, h1⟩
  · rintro h1 h2 ⟨z1, z2, xs, r, o, es, ep, e1, e2⟩ hk
    exact ⟨z1, z2, xs, r, o, es, ep, hk _ e1, e2⟩
theorem dn_empty (h : Heap) (hb : sysModules < h.objs.size) : ObjOk P w H (h.push { cls := .type "dict", data := .dict #[] }) h.objs.size (dnO P w h.objs.size []) :=
  dn_ok ⟨Nat.zero_le _, beq_eq_false_iff_ne.mpr (Ne.symm (Nat.ne_of_lt hb)), [], .nil, _, #[], 0, Heap.get?_push_size _ rfl, ⟨rfl, rfl, rfl⟩, rfl, rfl, List.nodup_nil⟩
end
def hasN (ks : List Ent) (k : NestedKey) : Bool := ks.any fun e => decide (e.1 = k)
def storeN (ks : List Ent) (k : NestedKey) (b : Addr) (v : V) : List Ent := if hasN ks k = true then ks.map fun e => if e.1 = k then (e.1, e.2.1, v) else e else ks ++ [(k, b, v)]
theorem has_at {ks : List Ent} {xs : List (NestedKey × Addr × Value)} (r : Paired EntR ks xs) (k : NestedKey) : hasN ks k = (atKey xs k).isSome := by
  unfold hasN
  induction r with
  | nil => rfl
  | @cons p q ps qs h t ih =>
    rw [List.any_cons]
    by_cases e : p.1 = k
    · have e' : q.1 = k := h.1.symm.trans e
      rw [decide_eq_true e, Bool.true_or]
      simp [atKey, List.find?_cons, e']
    · have e' : ¬ q.1 = k := fun z => e (h.1.trans z)
      have b : atKey (q :: qs) k = atKey qs k := by simp [atKey, List.find?_cons, e']
      rw [decide_eq_false e, Bool.false_or, b]
      exact ih
theorem store_rel {ks : List Ent} {xs : List (NestedKey × Addr × Value)} (r : Paired EntR ks xs) (k : NestedKey) (b : Addr) {v : V} {u : Value} (rv : RelV v u) : Paired EntR (storeN ks k b v) (storedH xs k b u) := by
  unfold storeN storedH
  rw [has_at r k]
  by_cases q : (atKey xs k).isSome = true
  · rw [if_pos q, if_pos q]
    clear q
    induction r with
    | nil => exact .nil
    | @cons p q ps qs h t ih =>
      rw [List.map_cons, List.map_cons]
      refine .cons ?_ ih
      obtain ⟨h1, h2, h3⟩ := h
      unfold putAt
      by_cases e : p.1 = k
      · rw [if_pos e, if_pos (h1.symm.trans e)]
        exact ⟨h1, h2, rv⟩
      · rw [if_neg e, if_neg (fun z => e (h1.trans z))]
        exact ⟨h1, h2, h3⟩
  · rw [if_neg q, if_neg q]
    exact Paired.snoc r ⟨rfl, rfl, rv⟩
theorem storeN_len (ks : List Ent) (k : NestedKey) (b : Addr) (v : V) : (storeN ks k b v).length ≤ ks.length + 1 := by
  unfold storeN
  split
  · rw [List.length_map]
    omega
  · rw [List.length_append]
    exact Nat.le_refl _
section
variable {X : Cx} {pos pos' : Pos} {o i value : Expr} {td ty tv : TE}
/-- {}, to be such a dict -/
def tDNewN (P : Program) (w : World) : TE := fun _ H Q => ∀ p, H p = none → Q (.ref p) (upd H p (dnO P w p []))
theorem pe_dnewN : PE X (.Dict [] [] pos) (tDNewN X.prog X.w) := by
  constructor
  intro pins s σ H Q I h
  refine wpAny_Dict_empty ⟨.ref s.heap.objs.size, upd H s.heap.objs.size (dnO X.prog X.w s.heap.objs.size []), ?_, rfl, h _ (I.hok.fresh (Nat.le_refl _))⟩
  exact I.laid (t' := s.toks) (fun _ _ q => Heap.get?_push_of_some _ q) (Nat.le_refl _) (dn_empty s.heap I.big)
/-- d[k] = v -/
def sDPutN (P : Program) (w : World) (td ty tv : TE) : TS := fun D σ H => tv σ H fun v H1 => td σ H1 fun x H2 => ty σ H2 fun y H3 => ∃ (a b : Addr) (k : NestedKey) (ks : List Ent), x = .ref a ∧ y = .ref b ∧
  H3 a = some (dnO P w a ks) ∧ KsN H3 ks ∧ NV H3 (.ref b) k ∧ k.depth ≤ 8 ∧ ks.length < sizeLine ∧ D.nx σ (upd H3 a (dnO P w a (storeN ks k b v)))
theorem ps_dputN (hu : X.A.units + 16 < cLine) (ho : PE X o td) (hi : PE X i ty) (hv : PE X value tv) (hs : swapsWith value (some (.Subscript o i pos')) pos.line X.env = pure false := by rfl) :
    PS X (.Assign [.Subscript o i pos'] value pos) (sDPutN X.prog X.w td ty tv) := by
  constructor
  intro pins s σ H D I h
  refine wpAny_Assign_Subscript (thn (hv.run pins s σ H _ I h) ?_) hs
  rintro r s1 ⟨v, H1, I1, rv, q1⟩
  refine thn (ho.run pins s1 σ H1 _ I1 q1) ?_
  rintro u s2 ⟨x, H2, I2, rx, q2⟩
  refine thn (hi.run pins s2 σ H2 _ I2 q2) ?_
  rintro iv s3 ⟨y, H3, I3, ry, a, b, k, ks, rfl, rfl, ea, hk, nk, dk, hl, q3⟩
  obtain rfl : u = Value.ref a := rx
  obtain rfl : iv = Value.ref b := ry
  obtain ⟨z, hd, xs, rel, dd⟩ := dn_of I3.hok ea hk
  have hz : xs.length ≤ sizeLine := by
    rw [← Paired.length rel]
    exact z
  have room : (nestedKind X.prog X.w).room X.A.in1 := by
    show X.A.in1.units + 8 < cLine
    have : X.A.in1.units ≤ X.A.units + 8 := by
      show X.A.units + _ ≤ _
      omega
    omega
  refine wpAny_setItem_heap (hsz := hz) room ⟨nv_is I3.hok nk rfl, dk⟩ dd fun h' dd' hsb => ⟨σ, _, ?_, q3⟩
  obtain ⟨q, es, ep, hq, h2, h3, h4, _, h5⟩ := dd'
  refine d_write I3 (by rw [ea]; exact True.intro) hsb ⟨q, hq⟩ (dn_ok ⟨?_, hd, _, store_rel rel k b rv, q, es, ep, hq, h2, h3, h4, h5⟩)
  have := storeN_len ks k b v
  omega
end
end G
set_option Elab.async false
set_option linter.all false
set_option maxRecDepth 100000
set_option maxHeartbeats 4000000
/-! OR: filtered, ordered. -/
namespace G
open PySem PySem.Spec PyProof.Rows L2 NdefX LamX SkL
/-- the name of the lambda in ordered -/
abbrev lamQ : Str := (("ordered" : Str) ++ (".<locals>." : Str)) ++ ("<lambda>" : Str)
abbrev sFil : Stmt := topS 19
abbrev sOrd : Stmt := topS 20
theorem scFil : FnScope ["rows", "answers", "row"] ["rows", "answers"] (defScope sFil) := ⟨rfl, rfl, rfl, by decide +kernel, rfl, by decide +kernel, by decide +kernel⟩
theorem scOrd : FnScope ["rows", "answers", "found"] ["rows", "answers"] (defScope sOrd) := ⟨rfl, rfl, rfl, by decide +kernel, rfl, by decide +kernel, by decide +kernel⟩
/-- rows by their answers: the table of the lambda's code grows -/
def spOrd (K : PySem.W.Frag) (T : List (Addr × Str)) : Sp := fun vs H Q _ => ∃ (l d : Addr) (zs : List Str) (kvs : List (Key × V)) (an : Str → List Int), vs = [.ref l, .ref d] ∧ SqLT K H l (zs.map V.str) ∧ RowsOk zs ∧ AnsOf H d kvs zs an ∧ Tabs T H ∧
  ∀ (p : Addr) (H' : Hp), ExtN H H' → Tabs T H' → H' p = none → Q (.ref p) (upd H' p (.lst ((sortedBy an zs).map V.str)))
/-- True of each row or not -/
structure BoolOf (H : Hp) (d : Addr) (kvs : List (Key × V)) (zs : List Str) (bo : Str → Bool) : Prop where
  d : H d = some (.dK kvs)
  is : ∀ z ∈ zs, valV kvs (Sum.inr z) = some (.bl (bo z))
theorem BoolOf.same {H H' : Hp} {d : Addr} {kvs : List (Key × V)} {zs : List Str} {bo : Str → Bool} (h : BoolOf H d kvs zs bo) (s : Same H H') : BoolOf H' d kvs zs bo := ⟨s _ _ h.d, h.is⟩
def spFil (K : PySem.W.Frag) : Sp := fun vs H Q _ => ∃ (l d : Addr) (zs : List Str) (kvs : List (Key × V)) (bo : Str → Bool), vs = [.ref l, .ref d] ∧ SqLT K H l (zs.map V.str) ∧ RowsOk zs ∧ BoolOf H d kvs zs bo ∧
  ∀ (p : Addr) (H' : Hp), Same H H' → H p = none → H' p = some (.lst ((zs.filter bo).map V.str)) → Q (.ref p) H'
section
variable {P : Program} {w : World} {K : PySem.W.Frag} {mg : Str → Option Value} {base : Heap}
theorem ok_ord {f fA Pt : Addr} {fd fdA : FuncData} (F : Fun K "ordered" "ordered" sOrd f fd) (TB : TabB base mg (cdOf K f) Pt) {T : List (Addr × Str)} (hm : (Pt, lamQ) ∈ T) (hu : ∀ p ∈ T, p.1 = Pt → p.2 = lamQ)
    (GA : FnOk P w K mg base CX0 5 fA fdA ["rows", "answers"] (spFullAs K)) (gA : mg "full_answers" = some (.ref fA)) (kA : PySem.W.keepIn K (.ref fA) = true) (bA : Binds K fdA ["rows", "answers"] []) (ms : mg "sorted" = none) :
    FnOk P w K mg base CX0 6 f fd ["rows", "answers"] (spOrd K T) := by
  refine fun_okC F scOrd (fun vs H Q E h => ?_) (fun A outer s H vs Q E hr h => ?_)
  · obtain ⟨l, d, zs, kvs, an, rfl, _⟩ := h
    rfl
  · obtain ⟨l, d, zs, kvs, an, rfl, hl, ro, ha, hT, q⟩ := h
    have hu4 : (A.deeper (envOfC "ordered" (defScope sOrd) s.heap.objs.size f (.ref (cdOf K f)))).units + 4 < cLine := by have := hr.units; omega
    have hdp : (A.deeper (envOfC "ordered" (defScope sOrd) s.heap.objs.size f (.ref (cdOf K f)))).depth + 4 < recursionLimit := by have := hr.dp; omega
    refine ⟨_, pss_cons (ps_set (i := 2) scOrd.nd rfl (.inr rfl) (pe_call GA hr rfl gA kA bA .nil pass0 (pa_cons (pv 0) (pa_cons (pv 1) pa_nil))))
      (pss_one (ps_ret (pe_sortLam (T := T) (i := 2) (a := "row") (d := "found") TB rfl hm hu (show LamS1 (defScope sOrd) _ "row" "found" from ⟨rfl, rfl, rfl, by decide +kernel, by decide +kernel, by decide +kernel, by decide +kernel, by decide +kernel⟩) (pa_cons (pv 0) pa_nil) (by rfl) ms hu4 hdp rfl rfl (fun _ _ _ _ _ _ _ => rfl) (by decide) (by decide) (by decide) (fun _ _ => rfl)))), ?_⟩
    refine ⟨_, rfl, _, rfl, l, d, zs, kvs, an, rfl, hl, ro, ha, fun fk H1 kf s1 hf1 hw => ?_⟩
    have hl1 := hl.keep s1
    refine ⟨_, rfl, hT.ext s1, l, fk, zs, kf, an, rfl, hl1, rfl, hw.d, by have := ro.few; omega, fun z hz => ?_, fun p H2 hE hT2 hp => ?_⟩
    · obtain ⟨T1, e1, e2⟩ := hw.is z hz
      obtain ⟨v, _, av, _⟩ := ha.is z hz
      refine ⟨fun e => ?_, T1, e1, e2⟩
      rcases av with ⟨i, _, e3⟩ | ⟨_, _, _, l1, _⟩
      · rw [e] at e3
        cases e3
      · rw [e] at l1
        exact absurd l1 (by decide)
    · exact q p H2 ((ExtN.of s1).trans hE) hT2 hp
theorem ok_fil {f fN fA : Addr} {fd fdN fdA : FuncData} (F : Fun K "filtered" "filtered" sFil f fd) (GN : FnOk P w K mg base CX0 2 fN fdN ["rows", "answers"] (spNeedRows K)) (gN : mg "need_rows_with_answers" = some (.ref fN)) (kN : PySem.W.keepIn K (.ref fN) = true) (bN : Binds K fdN ["rows", "answers"] [])
    (GA : FnOk P w K mg base CX0 1 fA fdA ["row", "answers"] spAnsFor) (gA : mg "answer_for" = some (.ref fA)) (kA : PySem.W.keepIn K (.ref fA) = true) (bA : Binds K fdA ["row", "answers"] []) (mi : mg "isinstance" = none) (mb : mg "bool" = none) :
    FnOk P w K mg base CX0 3 f fd ["rows", "answers"] (spFil K) := by
  refine F.ok scFil (fun vs H Q E h => ?_) (fun cdv A outer s H vs Q E hr h => ?_)
  · obtain ⟨l, d, zs, kvs, bo, rfl, _⟩ := h
    rfl
  · obtain ⟨l, d, zs, kvs, bo, rfl, hl, ro, hb, q⟩ := h
    have hr1 := hr.mono (show 1 ≤ 2 by decide)
    have hu1 : (A.deeper (envOfC "filtered" (defScope sFil) s.heap.objs.size f cdv)).units + 1 < cLine := by have := hr.units; omega
    refine ⟨_, pss_cons (ps_expr (pe_call GN hr rfl gN kN bN .nil pass0 (pa_cons (pv 0) (pa_cons (pv 1) pa_nil))))
      (pss_cons (ps_for PassesOwn.never rfl (pi_lw (pv 0)) (pg_name (i := 2) scFil.nd rfl (.inl rfl))
        (pss_one (ps_if (pt_not (pt_val (pe_callB call_isi (by rfl) mi (by decide +kernel) (pa_cons (pe_call GA hr1 rfl gA kA bA .nil pass0 (pa_cons (pv 2) (pa_cons (pv 1) pa_nil))) (pa_cons (pe_bltn (v := .ty "bool") (u := .type "bool") (by rfl) mb (by decide +kernel) rfl) pa_nil))))) (pss_one ps_never) pss_nil)))
      (pss_one (ps_ret (pe_lc (own := [("row", 2)]) (g := gName 2) (by rfl) scFil.nd (pi_lw (pv 0))
        (blkOk_by (own := [("row", 2)]) (N := ["rows", "answers", "row"]) (sc := defScope sFil) (by decide +kernel)) (fun _ _ _ _ _ => pg_name (i := 2) scFil.nd rfl (.inl rfl))
        (fun _ _ _ _ _ => pts_one (pt_val (pe_dget hu1 (pv 1) (pv 2) (fun _ _ => rfl)))) (fun _ _ _ _ _ => pv 2))))), ?_⟩
    refine ⟨_, rfl, _, rfl, l, d, zs, kvs, rfl, hl, ro, hb.d, fun H1 s1 => ?_⟩
    have hl1 := hl.keep s1
    have hb1 := hb.same s1
    refine ⟨_, rfl, l, zs.map V.str, rfl, hl1, fun J G wk hG => ?_⟩
    refine for_it wk (fun i σ H2 => Same H1 H2 ∧ ∃ x2 : Option V, σ = [some (.ref l), some (.ref d), x2]) ?_ ?_ ?_ ?_
    · exact ⟨.refl _, none, rfl⟩
    · rintro i σ H2 _ ⟨s2, _⟩
      exact hG H2 (sqL_keep s2) (sqT_keep s2)
    · rintro i x σ H2 H2' hi ⟨s2, x2, rfl⟩ ⟨rfl, hx⟩
      rw [List.getElem?_map] at hx
      obtain ⟨z, hz, rfl⟩ := Option.map_eq_some_iff.mp hx
      have hb2 := hb1.same s2
      refine ⟨_, rfl, _, rfl, z, d, kvs, _, rfl, hb2.d, hb2.is z (List.mem_of_getElem? hz), ?_⟩
      refine ⟨_, _, _, _, _, rfl, .ty _, .base (.bl _), kit_b (.bool (bo z)), _, rfl, iteF ?_⟩
      exact ⟨s2, _, rfl⟩
    · rintro σ H2 ⟨s2, x2, rfl⟩
      have hl2 := hl1.keep s2
      have hb2 := hb1.same s2
      refine ⟨_, rfl, l, zs.map V.str, rfl, hl2, fun J G wk hG => ?_⟩
      intro D hD
      have few := ro.few
      refine lc_it wk (fun i H3 => Same H2 H3 ∧ H3 D = some (.lst (((zs.take i).filter bo).map V.str))) ?_ ?_ ?_ ?_
      · exact ⟨Same.new hD, upd_same⟩
      · rintro i H3 _ ⟨s3, _⟩
        exact hG H3 (sqL_keep s3) (sqT_keep s3)
      · rintro i x H3 H3' hi ⟨s3, e3⟩ ⟨rfl, hx⟩
        rw [List.getElem?_map] at hx
        obtain ⟨z, hz, rfl⟩ := Option.map_eq_some_iff.mp hx
        have hb3 := hb2.same s3
        have g := DGet.k (k := Sum.inr z) hb3.d
        rw [hb3.is z (List.mem_of_getElem? hz)] at g
        have e9 : (zs.take (i + 1)).filter bo = if bo z = true then (zs.take i).filter bo ++ [z] else (zs.take i).filter bo := by
          rw [take_snoc hz, List.filter_append, List.filter_cons, List.filter_nil]
          split
          · rfl
          · rw [List.append_nil]
        refine ⟨rfl, ?_⟩
        refine ⟨_, rfl, _, rfl, d, _, rfl, g, _, rfl, ?_⟩
        refine ite2 (fun c => ?_) (fun c => ?_)
        · rw [if_pos c] at e9
          refine ⟨_, rfl, _, e3, ?_, fun c o eo => (upd_ne (ne_of_none eo hD)).trans (s3 _ _ eo), ?_⟩
          · rw [List.length_map]
            have := List.length_filter_le bo (zs.take i)
            rw [List.length_take] at this
            exact small1000 (by omega)
          · rw [upd_same, e9, List.map_append]
            rfl
        · rw [if_neg c] at e9
          exact ⟨s3, by rw [e9]; exact e3⟩
      · rintro H3 ⟨s3, e3⟩
        rw [List.length_map, List.take_length] at e3
        exact q D H3 ((s1.trans s2).trans s3) ((s1.trans s2).free hD) e3
end
end G
set_option Elab.async false
set_option linter.all false
set_option maxRecDepth 100000
set_option maxHeartbeats 8000000
/-! GR: grouped. -/
namespace G
open PySem PySem.Spec PyProof.Rows L2 NdefX DvT StX SkL
abbrev sGrp : Stmt := topS 22
abbrev nGrp : List Str := ["rows", "answers", "found", "groups", "row", "with_headers", "counts", "answer", "header"]
theorem scGrp : FnScope nGrp ["rows", "answers"] (defScope sGrp) := ⟨rfl, rfl, rfl, by decide +kernel, rfl, by decide +kernel, by decide +kernel⟩
/-- an answer and its rows -/
abbrev Grp := List Int × List Str
def addG (an : Str → List Int) (acc : List Grp) (z : Str) : List Grp := if an z ∈ acc.map (·.1) then acc.map fun p => if p.1 = an z then (p.1, p.2 ++ [z]) else p else acc ++ [(an z, [z])]
def groupsF (an : Str → List Int) (zs : List Str) : List Grp := zs.foldl (addG an) []
theorem groupsF_snoc (an : Str → List Int) (zs : List Str) (z : Str) : groupsF an (zs ++ [z]) = addG an (groupsF an zs) z := by
  unfold groupsF
  rw [List.foldl_append]
  rfl
theorem addG_keys (an : Str → List Int) (acc : List Grp) (z : Str) : (addG an acc z).map (·.1) = if an z ∈ acc.map (·.1) then acc.map (·.1) else acc.map (·.1) ++ [an z] := by
  unfold addG
  split
  · rw [List.map_map]
    refine List.map_congr_left fun p _ => ?_
    show (if p.1 = an z then (p.1, p.2 ++ [z]) else p).1 = p.1
    split <;> rfl
  · rw [List.map_append]
    rfl
theorem addG_nd {an : Str → List Int} {acc : List Grp} {z : Str} (h : (acc.map (·.1)).Nodup) : ((addG an acc z).map (·.1)).Nodup := by
  rw [addG_keys]
  split
  · exact h
  · rename_i n
    exact List.nodup_append.mpr ⟨h, (by simp), fun a ha b hb => by
      rw [List.mem_singleton.mp hb]
      rintro rfl
      exact n ha⟩
theorem groupsF_nd (an : Str → List Int) (zs : List Str) : ((groupsF an zs).map (·.1)).Nodup := by
  unfold groupsF
  have : ∀ (l : List Str) (acc : List Grp), (acc.map (·.1)).Nodup → ((l.foldl (addG an) acc).map (·.1)).Nodup := by
    intro l
    induction l with
    | nil => exact fun _ h => h
    | cons z l ih => exact fun acc h => ih _ (addG_nd h)
  exact this zs [] List.nodup_nil
theorem addG_len (an : Str → List Int) (acc : List Grp) (z : Str) : (addG an acc z).length ≤ acc.length + 1 := by
  unfold addG
  split
  · rw [List.length_map]
    omega
  · rw [List.length_append]
    exact Nat.le_refl _
theorem groupsF_len (an : Str → List Int) (zs : List Str) : (groupsF an zs).length ≤ zs.length := by
  have : ∀ (l : List Str) (acc : List Grp), (l.foldl (addG an) acc).length ≤ acc.length + l.length := by
    intro l
    induction l with
    | nil => exact fun _ => Nat.le_refl _
    | cons z l ih =>
      intro acc
      have h1 := ih (addG an acc z)
      have h2 := addG_len an acc z
      rw [List.foldl_cons, List.length_cons]
      omega
  have := this zs []
  unfold groupsF
  rw [List.length_nil] at this
  omega
/-- no group grows beyond the rows -/
theorem addG_size {an : Str → List Int} {acc : List Grp} {z : Str} {n : Nat} (h : ∀ g ∈ acc, g.2.length ≤ n) : ∀ g ∈ addG an acc z, g.2.length ≤ n + 1 := by
  intro g hg
  unfold addG at hg
  split at hg
  · obtain ⟨p, hp, rfl⟩ := List.mem_map.mp hg
    have := h p hp
    by_cases e : p.1 = an z
    · rw [if_pos e]
      show (p.2 ++ [z]).length ≤ _
      rw [List.length_append]
      exact Nat.succ_le_succ this
    · rw [if_neg e]
      omega
  · rcases List.mem_append.mp hg with hg | hg
    · have := h g hg
      omega
    · rw [List.mem_singleton.mp hg]
      exact Nat.le_add_left _ _
theorem groupsF_size (an : Str → List Int) (zs : List Str) : ∀ g ∈ groupsF an zs, g.2.length ≤ zs.length := by
  have : ∀ (l : List Str) (acc : List Grp) (n : Nat), (∀ g ∈ acc, g.2.length ≤ n) → ∀ g ∈ l.foldl (addG an) acc, g.2.length ≤ n + l.length := by
    intro l
    induction l with
    | nil => exact fun _ _ h => h
    | cons z l ih =>
      intro acc n h g hg
      have := ih _ (n + 1) (addG_size h) g hg
      rw [List.length_cons]
      omega
  intro g hg
  have := this zs [] 0 (fun g h => nomatch h) g hg
  omega
/-! ### the dict of the groups -/
def gK (acc : List Grp) (ls : List Addr) : List (List Key × V) := (acc.zip ls).map fun p => (kI p.1.1, V.ref p.2)
/-- the lists of the groups -/
abbrev GL (H : Hp) : List Grp → List Addr → Prop := Paired fun g l => H l = some (.lst (g.2.map V.str))
theorem GL.at {H H' : Hp} {acc : List Grp} {ls : List Addr} (h : GL H acc ls) (k : ∀ l ∈ ls, ∀ xs, H l = some (.lst xs) → H' l = some (.lst xs)) : GL H' acc ls := by
  induction h with
  | nil => exact .nil
  | cons h t ih => exact .cons (k _ List.mem_cons_self _ h) (ih fun l hl => k l (List.mem_cons_of_mem _ hl))
theorem gK_len {H : Hp} {acc : List Grp} {ls : List Addr} (h : GL H acc ls) : (gK acc ls).length = acc.length := by
  unfold gK
  have := Paired.length h
  rw [List.length_map, List.length_zip]
  omega
theorem gK_snoc {H : Hp} {acc : List Grp} {ls : List Addr} (h : GL H acc ls) (g : Grp) (l : Addr) : gK (acc ++ [g]) (ls ++ [l]) = gK acc ls ++ [(kI g.1, V.ref l)] := by
  unfold gK
  rw [List.zip_append (Paired.length h), List.map_append]
  rfl
theorem gK_out {H : Hp} {acc : List Grp} {ls : List Addr} (h : GL H acc ls) {ns : List Int} (n : ns ∉ acc.map (·.1)) : valV (gK acc ls) (kI ns) = none := by
  induction h with
  | nil => rfl
  | @cons g l acc ls h t ih =>
    have e : ¬ kI g.1 = kI ns := fun z => n (List.mem_cons.mpr (.inl (kI_inj z).symm))
    exact (valV_neg (p := (kI g.1, V.ref l)) e).trans (ih fun z => n (List.mem_cons_of_mem _ z))
theorem gK_in {H : Hp} {acc : List Grp} {ls : List Addr} (h : GL H acc ls) {ns : List Int} (m : ns ∈ acc.map (·.1)) : ∃ l rs, valV (gK acc ls) (kI ns) = some (.ref l) ∧ l ∈ ls ∧ (ns, rs) ∈ acc ∧ H l = some (.lst (rs.map V.str)) := by
  induction h with
  | nil => exact nomatch m
  | @cons g l acc ls h t ih =>
    by_cases e : kI g.1 = kI ns
    · refine ⟨l, g.2, valV_pos (p := (kI g.1, V.ref l)) e, List.mem_cons_self, ?_, h⟩
      rw [← kI_inj e]
      exact List.mem_cons_self
    · rcases List.mem_cons.mp m with z | z
      · exact absurd (by rw [z]) e
      · obtain ⟨l2, rs, h1, h2, h3, h4⟩ := ih z
        exact ⟨l2, rs, (valV_neg (p := (kI g.1, V.ref l)) e).trans h1, List.mem_cons_of_mem _ h2, List.mem_cons_of_mem _ h3, h4⟩
/-- one group grows -/
theorem GL.grow {H : Hp} {an : Str → List Int} {z : Str} {acc : List Grp} {ls : List Addr} (h : GL H acc ls) (nd : (acc.map (·.1)).Nodup) (nl : ls.Nodup) (m : an z ∈ acc.map (·.1)) :
    ∃ l rs, valV (gK acc ls) (kI (an z)) = some (.ref l) ∧ l ∈ ls ∧ (an z, rs) ∈ acc ∧ H l = some (.lst (rs.map V.str)) ∧ GL (upd H l (.lst ((rs ++ [z]).map V.str))) (acc.map fun p => if p.1 = an z then (p.1, p.2 ++ [z]) else p) ls := by
  induction h with
  | nil => exact nomatch m
  | @cons g l acc ls h t ih =>
    rw [List.map_cons] at nd
    obtain ⟨n1, nd2⟩ := List.nodup_cons.mp nd
    obtain ⟨n2, nl2⟩ := List.nodup_cons.mp nl
    by_cases e : g.1 = an z
    · refine ⟨l, g.2, valV_pos (p := (kI g.1, V.ref l)) (by rw [e]), List.mem_cons_self, by rw [← e]; exact List.mem_cons_self, h, ?_⟩
      rw [List.map_cons, if_pos e]
      refine .cons upd_same ?_
      have same : (acc.map fun p => if p.1 = an z then (p.1, p.2 ++ [z]) else p) = acc := by
        refine (List.map_congr_left fun p hp => ?_).trans (List.map_id acc)
        rw [if_neg]
        · rfl
        · intro z2
          exact n1 (by rw [e, ← z2]; exact List.mem_map.mpr ⟨p, hp, rfl⟩)
      rw [same]
      exact GL.at t fun l2 h2 xs ex => (upd_ne fun z3 => n2 (by rw [← z3]; exact h2)).trans ex
    · have m2 : an z ∈ acc.map (·.1) := by
        rcases List.mem_cons.mp m with z2 | z2
        · exact absurd z2.symm e
        · exact z2
      obtain ⟨l2, rs, h1, h2, h3, h4, h5⟩ := ih nd2 nl2 m2
      refine ⟨l2, rs, (valV_neg (p := (kI g.1, V.ref l)) fun z2 => e (kI_inj z2)).trans h1, List.mem_cons_of_mem _ h2, List.mem_cons_of_mem _ h3, h4, ?_⟩
      rw [List.map_cons, if_neg e]
      exact .cons ((upd_ne fun z3 => n2 (by rw [z3]; exact h2)).trans h) h5
theorem gK_map (an : Str → List Int) (z : Str) : ∀ (acc : List Grp) (ls : List Addr), gK (acc.map fun p => if p.1 = an z then (p.1, p.2 ++ [z]) else p) ls = gK acc ls
  | [], _ => rfl
  | _ :: _, [] => by simp [gK]
  | g :: acc, l :: ls => by
    have ih := gK_map an z acc ls
    unfold gK at ih ⊢
    rw [List.map_cons, List.zip_cons_cons, List.zip_cons_cons, List.map_cons, List.map_cons, ih]
    congr 1
    dsimp only
    split <;> rfl
end G
set_option Elab.async false
set_option linter.all false
set_option maxRecDepth 100000
set_option maxHeartbeats 8000000
/-! GS: what stands in each group; the order of the groups. -/
namespace G
open PySem PySem.Spec PyProof.Rows L2 NdefX DvT StX SkL
abbrev rowsA (an : Str → List Int) (zs : List Str) (k : List Int) : List Str := zs.filter fun z => decide (an z = k)
theorem rowsA_snoc (an : Str → List Int) (zs : List Str) (z : Str) (k : List Int) : rowsA an (zs ++ [z]) k = if an z = k then rowsA an zs k ++ [z] else rowsA an zs k := by
  unfold rowsA
  rw [List.filter_append]
  by_cases e : an z = k
  · rw [if_pos e]
    simp [e]
  · rw [if_neg e]
    simp [e]
theorem mem_addG {an : Str → List Int} {acc : List Grp} {z : Str} {k : List Int} : k ∈ (addG an acc z).map (·.1) ↔ k ∈ acc.map (·.1) ∨ k = an z := by
  rw [addG_keys]
  split
  · rename_i h
    exact ⟨.inl, fun h2 => h2.elim id fun e => by rw [e]; exact h⟩
  · rw [List.mem_append, List.mem_singleton]
/-- each group: its rows in their order; each answer has a group -/
structure GrpIs (an : Str → List Int) (zs : List Str) (gs : List Grp) : Prop where
  keys : ∀ k, k ∈ gs.map (·.1) ↔ ∃ z ∈ zs, an z = k
  rows : ∀ g ∈ gs, g.2 = rowsA an zs g.1
theorem grpIs_snoc {an : Str → List Int} {zs : List Str} {gs : List Grp} (h : GrpIs an zs gs) (z : Str) : GrpIs an (zs ++ [z]) (addG an gs z) := by
  refine ⟨fun k => ?_, fun g hg => ?_⟩
  · rw [mem_addG, h.keys k]
    constructor
    · rintro (⟨y, hy, e⟩ | e)
      · exact ⟨y, List.mem_append_left _ hy, e⟩
      · exact ⟨z, List.mem_append_right _ (List.mem_singleton.mpr rfl), e.symm⟩
    · rintro ⟨y, hy, e⟩
      rcases List.mem_append.mp hy with hy | hy
      · exact .inl ⟨y, hy, e⟩
      · rw [List.mem_singleton.mp hy] at e
        exact .inr e.symm
  · rw [rowsA_snoc]
    unfold addG at hg
    split at hg
    · obtain ⟨p, hp, rfl⟩ := List.mem_map.mp hg
      have e := h.rows p hp
      by_cases q : p.1 = an z
      · rw [if_pos q]
        show p.2 ++ [z] = if an z = p.1 then _ else _
        rw [if_pos q.symm, e]
      · rw [if_neg q, if_neg (fun z => q z.symm)]
        exact e
    · rename_i n
      rcases List.mem_append.mp hg with hg | hg
      · have ne : ¬ an z = g.1 := fun e => n (by rw [e]; exact List.mem_map.mpr ⟨g, hg, rfl⟩)
        rw [if_neg ne]
        exact h.rows g hg
      · rw [List.mem_singleton.mp hg]
        show [z] = if an z = an z then _ else _
        rw [if_pos rfl]
        have : rowsA an zs (an z) = [] := List.filter_eq_nil_iff.mpr fun y hy => by
          intro e
          exact n ((h.keys _).mpr ⟨y, hy, of_decide_eq_true e⟩)
        show [z] = rowsA an zs (an z) ++ [z]
        rw [this]
        rfl
theorem grpIs (an : Str → List Int) (zs : List Str) : GrpIs an zs (groupsF an zs) := by
  have : ∀ (l pre : List Str) (gs : List Grp), GrpIs an pre gs → GrpIs an (pre ++ l) (l.foldl (addG an) gs) := by
    intro l
    induction l with
    | nil => intro pre gs h; rw [List.append_nil]; exact h
    | cons z l ih =>
      intro pre gs h
      have := ih (pre ++ [z]) _ (grpIs_snoc h z)
      rw [List.append_assoc] at this
      exact this
  exact this zs [] [] ⟨fun k => ⟨fun h => (nomatch h), fun ⟨_, h, _⟩ => (nomatch h)⟩, fun _ h => nomatch h⟩
abbrev encK (ns : List Int) : PyData := .tuple (ns.map .int)
abbrev keysS (an : Str → List Int) (zs : List Str) : List (List Int) := ((groupsF an zs).map (·.1)).mergeSort (PySem.W.dataLe false encK)
/-- the groups by ascending answers -/
def dueG (an : Str → List Int) (zs : List Str) : List Grp := (keysS an zs).map fun k => (k, rowsA an zs k)
theorem keysS_mem {an : Str → List Int} {zs : List Str} {k : List Int} : k ∈ keysS an zs ↔ ∃ z ∈ zs, an z = k := by
  rw [List.mem_mergeSort]
  exact (grpIs an zs).keys k
theorem keysS_nd (an : Str → List Int) (zs : List Str) : (keysS an zs).Nodup := ((List.mergeSort_perm _ _).nodup_iff).mpr (groupsF_nd an zs)
theorem keysS_len (an : Str → List Int) (zs : List Str) : (keysS an zs).length ≤ zs.length := by
  rw [List.length_mergeSort, List.length_map]
  exact groupsF_len an zs
theorem sortT_keys (ts : List SkL.TI) : (sortT ts).map (·.2) = (ts.map (·.2)).mergeSort (PySem.W.dataLe false encK) := List.map_mergeSort fun a _ b _ => rfl
/-! ### the answer of grouped -/
/-- a header, its answer's tuple, the group -/
abbrev Hd := Addr × Addr × Grp
def wlV (ys : List Hd) : List V := ys.flatMap fun y => V.ref y.1 :: y.2.2.2.map V.str
def hdK (k : List Int) : NestedKey := .tup [.text "group", .tup (k.map .num)]
def cdE (ys : List Hd) : List Ent := ys.map fun y => (hdK y.2.2.1, y.1, V.int (y.2.2.2.length : Int))
structure HdsAt (H : Hp) (ys : List Hd) : Prop where
  hd : ∀ y ∈ ys, H y.1 = some (.tup [.str "group", .ref y.2.1]) ∧ H y.2.1 = some (.tup (y.2.2.1.map V.int))
theorem HdsAt.at {H H' : Hp} {ys : List Hd} (h : HdsAt H ys) (k : ∀ a xs, H a = some (.tup xs) → H' a = some (.tup xs)) : HdsAt H' ys := ⟨fun y hy => ⟨k _ _ (h.hd y hy).1, k _ _ (h.hd y hy).2⟩⟩
theorem nvs_ints {H : Hp} : ∀ ns : List Int, NVs H (ns.map V.int) (ns.map NestedKey.num)
  | [] => .nil
  | n :: ns => .cons (.int n) (nvs_ints ns)
theorem hdK_nv {H : Hp} {h a : Addr} {k : List Int} (eh : H h = some (.tup [.str "group", .ref a])) (ea : H a = some (.tup (k.map V.int))) : NV H (.ref h) (hdK k) := .tup eh (.cons (.str "group") (.cons (.tup ea (nvs_ints k)) .nil))
theorem hdK_depth (k : List Int) : (hdK k).depth ≤ 8 := by
  have : ∀ ns : List Int, NestedKey.depthAll (ns.map NestedKey.num) = 0 := by
    intro ns
    induction ns with
    | nil => rfl
    | cons n ns ih => simp [NestedKey.depthAll, NestedKey.depth, ih]
  simp [hdK, NestedKey.depthAll, NestedKey.depth, this]
theorem cdE_ks {H : Hp} {ys : List Hd} (h : HdsAt H ys) : KsN H (cdE ys) := by
  intro e he
  obtain ⟨y, hy, rfl⟩ := List.mem_map.mp he
  exact ⟨hdK_nv (h.hd y hy).1 (h.hd y hy).2, hdK_depth _⟩
theorem hdK_inj {j k : List Int} (h : hdK j = hdK k) : j = k := by
  unfold hdK at h
  injection h with h
  injection h with _ h
  injection h with h _
  injection h with h
  have : ∀ j k : List Int, j.map NestedKey.num = k.map NestedKey.num → j = k := by
    intro j
    induction j with
    | nil => intro k h; cases k with
      | nil => rfl
      | cons _ _ => cases h
    | cons a j ih => intro k h; cases k with
      | nil => cases h
      | cons b k =>
        injection h with h1 h2
        injection h1 with h1
        rw [h1, ih k h2]
  exact this j k h
theorem hasN_not {ys : List Hd} {k : List Int} (h : k ∉ ys.map (·.2.2.1)) : hasN (cdE ys) (hdK k) = false := by
  unfold hasN cdE
  rw [List.any_map]
  refine List.any_eq_false.mpr fun y hy => ?_
  simp only [Function.comp, decide_eq_true_eq]
  intro e
  exact h (List.mem_map.mpr ⟨y, hy, hdK_inj e⟩)
theorem cdE_snoc {ys : List Hd} {y : Hd} (h : y.2.2.1 ∉ ys.map (·.2.2.1)) : storeN (cdE ys) (hdK y.2.2.1) y.1 (V.int (y.2.2.2.length : Int)) = cdE (ys ++ [y]) := by
  unfold storeN
  rw [if_neg (by rw [hasN_not h]; decide)]
  unfold cdE
  rw [List.map_append]
  rfl
end G
set_option Elab.async false
set_option linter.all false
set_option maxRecDepth 100000
set_option maxHeartbeats 8000000
/-! GT: grouped, walked. -/
namespace G
open PySem PySem.Spec PyProof.Rows L2 NdefX DvT StX SkL
/-- what grouped answers -/
structure GrpAt (P : Program) (w : World) (H : Hp) (T W C : Addr) (an : Str → List Int) (zs : List Str) (ys : List Hd) : Prop where
  tt : H T = some (.tup [.ref W, .ref C])
  wl : H W = some (.lst (wlV ys))
  c : H C = some (dnO P w C (cdE ys))
  h : HdsAt H ys
  g : ys.map (·.2.2) = dueG an zs
def spGrp (P : Program) (w : World) (K : PySem.W.Frag) : Sp := fun vs H Q _ => ∃ (l d : Addr) (zs : List Str) (kvs : List (Key × V)) (an : Str → List Int), vs = [.ref l, .ref d] ∧ SqLT K H l (zs.map V.str) ∧ RowsOk zs ∧ AnsOf H d kvs zs an ∧
  ∀ (T W C : Addr) (ys : List Hd) (H' : Hp), Same H H' → H T = none → H W = none → H C = none → GrpAt P w H' T W C an zs ys → Q (.ref T) H'
/-- the dict of the groups under way -/
structure GrA (H0 H : Hp) (D : Addr) (acc : List Grp) (ls : List Addr) : Prop where
  s : Same H0 H
  d : H D = some (.dT (gK acc ls))
  l : GL H acc ls
  nd : ls.Nodup
  off : ∀ l ∈ ls, l ≠ D ∧ H0 l = none
theorem keysZ {H H' : Hp} {gs : List Grp} {ls bs : List Addr} (h : GL H gs ls) (k : IsKeys H' (gK gs ls) bs) : (bs.zip (gs.map (·.1))).map (fun p => V.ref p.1) = bs.map V.ref ∧ (bs.zip (gs.map (·.1))).map (·.2) = gs.map (·.1) ∧ ∀ p ∈ bs.zip (gs.map (·.1)), H' p.1 = some (.tup (p.2.map V.int)) := by
  induction h generalizing bs with
  | nil =>
    cases k
    exact ⟨rfl, rfl, fun _ h => nomatch h⟩
  | @cons g l gs ls h t ih =>
    cases k with
    | @cons _ b _ bs e r =>
      obtain ⟨h1, h2, h3⟩ := ih r
      refine ⟨congrArg (V.ref b :: ·) h1, congrArg (g.1 :: ·) h2, fun p hp => ?_⟩
      rcases List.mem_cons.mp hp with z | z
      · rw [z]
        exact e.trans (by rw [kI_V])
      · exact h3 p z
theorem wlV_len {ys : List Hd} (h : ∀ y ∈ ys, y.2.2.2.length ≤ 40) : (wlV ys).length ≤ 41 * ys.length := by
  induction ys with
  | nil => exact Nat.le_refl _
  | cons y ys ih =>
    have h1 := ih fun z hz => h z (List.mem_cons_of_mem _ hz)
    have h2 := h y List.mem_cons_self
    unfold wlV at h1 ⊢
    rw [List.flatMap_cons, List.length_append, List.length_cons, List.length_map, List.length_cons]
    omega
theorem wlV_snoc (ys : List Hd) (y : Hd) : wlV (ys ++ [y]) = wlV ys ++ V.ref y.1 :: y.2.2.2.map V.str := by
  unfold wlV
  rw [List.flatMap_append]
  simp
section
variable {X : Cx} {P : Program} {w : World} {pos pos' : Pos} {o i value : Expr} {td ty tv : TE}
theorem pe_dnewP (hP : X.prog = P) (hw : X.w = w) : PE X (.Dict [] [] pos) (tDNewN P w) := by
  subst hP hw
  exact pe_dnewN
theorem ps_dputP (hP : X.prog = P) (hw : X.w = w) (hu : X.A.units + 16 < cLine) (ho : PE X o td) (hi : PE X i ty) (hv : PE X value tv) (hs : swapsWith value (some (.Subscript o i pos')) pos.line X.env = pure false := by rfl) :
    PS X (.Assign [.Subscript o i pos'] value pos) (sDPutN P w td ty tv) := by
  subst hP hw
  exact ps_dputN hu ho hi hv hs
end
section
variable {P : Program} {w : World} {K : PySem.W.Frag} {mg : Str → Option Value} {base : Heap}
theorem ok_grp {f fA : Addr} {fd fdA : FuncData} (F : Fun K "grouped" "grouped" sGrp f fd) (GA : FnOk P w K mg base CX0 5 fA fdA ["rows", "answers"] (spFullAs K)) (gA : mg "full_answers" = some (.ref fA)) (kA : PySem.W.keepIn K (.ref fA) = true) (bA : Binds K fdA ["rows", "answers"] [])
    (mL : mg "list" = none) (mS : mg "sorted" = none) (ml : mg "len" = none) : FnOk P w K mg base CX0 6 f fd ["rows", "answers"] (spGrp P w K) := by
  refine F.ok scGrp (fun vs H Q E h => ?_) (fun cdv A outer s H vs Q E hr h => ?_)
  · obtain ⟨l, d, zs, kvs, an, rfl, _⟩ := h
    rfl
  · obtain ⟨l, d, zs, kvs, an, rfl, hl, ok, ha, q⟩ := h
    have hu2 : (A.deeper (envOfC "grouped" (defScope sGrp) s.heap.objs.size f cdv)).units + 2 < cLine := by have := hr.units; omega
    have hu8 : (A.deeper (envOfC "grouped" (defScope sGrp) s.heap.objs.size f cdv)).units + 8 < cLine := by have := hr.units; omega
    have hu16 : (A.deeper (envOfC "grouped" (defScope sGrp) s.heap.objs.size f cdv)).units + 16 < cLine := by have := hr.units; omega
    refine ⟨_, pss_cons (ps_set (i := 2) scGrp.nd rfl (.inl rfl) (pe_call GA hr rfl gA kA bA .nil pass0 (pa_cons (pv 0) (pa_cons (pv 1) pa_nil))))
      (pss_cons (ps_set (i := 3) scGrp.nd rfl (.inl rfl) pe_dnewT)
      (pss_cons (ps_for PassesOwn.never rfl (pi_lw (pv 0)) (pg_name (i := 4) scGrp.nd rfl (.inl rfl))
        (pss_one (ps_expr (pe_bm PySem.F.plainAttrs_list PySem.F.slot_list_append PySem.F.type_list_append mt_append
          (pe_setdT hu2 (pv 3) (pe_dget (hu_of hr) (pv 2) (pv 4) (fun _ _ => rfl)) (pe_lst pa_nil) ⟨by rfl, by rfl, by rfl, by rfl⟩) (pa_cons (pv 4) pa_nil)))))
      (pss_cons (ps_set (i := 5) scGrp.nd rfl (.inl rfl) (pe_lst pa_nil))
      (pss_cons (ps_set (i := 6) scGrp.nd rfl (.inl rfl) (pe_dnewP (P := P) (w := w) rfl rfl))
      (pss_cons (ps_for PassesOwn.never rfl (pi_list (pe_callB (cr_sortedT hu8) (by rfl) mS (by decide +kernel) (pa_cons (pe_callTy (call_list_dT rfl) (by rfl) mL (by decide +kernel) (pa_cons (pv 3) pa_nil)) pa_nil))) (pg_name (i := 7) scGrp.nd rfl (.inl rfl))
        (pss_cons (ps_set (i := 8) scGrp.nd rfl (.inl rfl) (pe_tup (pa_cons pe_str (pa_cons (pv 7) pa_nil))))
        (pss_cons (ps_expr (pe_bm PySem.F.plainAttrs_list PySem.F.slot_list_extend PySem.F.type_list_extend mt_extend (pv 5) (pa_cons (pe_lst (pa_cons (pv 8) (StX.pa_star (pe_dget (hu_of hr) (pv 3) (pv 7) (fun _ _ => rfl)) pa_nil))) pa_nil)))
        (pss_one (ps_dputP (P := P) (w := w) rfl rfl hu16 (pv 6) (pv 8) (pe_callB call_len_seq (by rfl) ml PySem.boot_len (pa_cons (pe_dget (hu_of hr) (pv 3) (pv 7) (fun _ _ => rfl)) pa_nil)))))))
      (pss_one (ps_ret (pe_tup (pa_cons (pv 5) (pa_cons (pv 6) pa_nil)))))))))), ?_⟩
    refine ⟨_, rfl, _, rfl, l, d, zs, kvs, an, rfl, hl, ok, ha, fun p H1 fk s1 np wo => ?_⟩
    intro D hD
    have few := ok.few
    have lz : (zs.map V.str).length = zs.length := List.length_map ..
    have sD := Same.new (o := .dT []) hD
    have kl : ∀ {k : List Int}, (∃ z ∈ zs, an z = k) → 1 ≤ k.length ∧ k.length ≤ 3 := by
      rintro k ⟨z, hz, rfl⟩
      obtain ⟨v, _, h2, _⟩ := ha.is z hz
      rcases h2 with ⟨i, _, e⟩ | ⟨a, _, _, h3⟩
      · rw [e]
        exact ⟨Nat.le_refl _, Nat.le_of_ble_eq_true rfl⟩
      · exact h3
    refine ⟨_, rfl, l, _, rfl, (hl.keep s1).keep sD, fun J G wk hG => ?_⟩
    refine for_it wk (fun i σ H2 => ∃ ls, GrA H1 H2 D (groupsF an (zs.take i)) ls ∧ ∃ x4 : Option V, σ = [some (.ref l), some (.ref d), some (.ref p), some (.ref D), x4, none, none, none, none]) ?_ ?_ ?_ ?_
    · exact ⟨[], ⟨sD, upd_same, .nil, List.nodup_nil, fun _ h => nomatch h⟩, none, rfl⟩
    · rintro i σ H2 _ ⟨ls, gr, _⟩
      have kp : ∀ c o, c ≠ D → upd H1 D (.dT []) c = some o → H2 c = some o := fun c o n e => gr.s c o ((upd_ne n).symm.trans e)
      exact hG H2 (sqL_off upd_same kp) (sqT_off upd_same kp)
    · rintro i x σ H2 H2' hi ⟨ls, gr, x4, rfl⟩ ⟨rfl, hx⟩
      rw [List.getElem?_map] at hx
      obtain ⟨z, hz, rfl⟩ := Option.map_eq_some_iff.mp hx
      have mz := List.mem_of_getElem? hz
      have wo2 := wo.same gr.s
      obtain ⟨T, e1, eT⟩ := wo2.is z mz
      have g := DGet.k (k := Sum.inr z) wo2.d
      rw [e1] at g
      have hg40 : (groupsF an (zs.take i)).length ≤ 40 := by
        have := groupsF_len an (zs.take i)
        rw [List.length_take] at this
        omega
      have hlen : (gK (groupsF an (zs.take i)) ls).length < sizeLine := by
        rw [gK_len gr.l]
        exact small1000 (by omega)
      have hnd := groupsF_nd an (zs.take i)
      refine ⟨_, rfl, D, rfl, .inr ⟨_, .inl gr.d⟩, _, rfl, _, rfl, p, _, rfl, g, by decide, fun b hb => ?_⟩
      have sb := Same.new (o := .lst []) hb
      have nbD : b ≠ D := fun e => by
        rw [e, gr.d] at hb
        cases hb
      have n1b : H1 b = none := gr.s.free hb
      have nbl : b ∉ ls := fun hm => by
        obtain ⟨g0, e0⟩ := Paired.right gr.l b hm
        rw [hb] at e0
        cases e0
      refine ⟨_, kI (an z), T, (sb _ _ gr.d), rfl, by rw [kI_V]; exact sb _ _ eT, hlen, fun v hv => ?_, fun hv => ?_⟩
      · by_cases hm : an z ∈ (groupsF an (zs.take i)).map (·.1)
        · have g2 : GL (upd H2' b (.lst [])) (groupsF an (zs.take i)) ls := GL.at gr.l fun l0 h0 xs e => sb _ _ e
          obtain ⟨l0, rs, h1, h2, h3, h4, h5⟩ := GL.grow g2 hnd gr.nd hm
          obtain rfl : v = .ref l0 := Option.some.inj (hv.symm.trans h1)
          obtain ⟨o1, o2⟩ := gr.off l0 h2
          have hrs := groupsF_size an (zs.take i) _ h3
          have hrs2 : rs.length ≤ 40 := by
            have h0 : rs.length ≤ (zs.take i).length := hrs
            rw [List.length_take] at h0
            omega
          refine ⟨.inl ⟨rfl, _, .of h4⟩, _, rfl, l0, rs.map V.str, _, rfl, rfl, h4, small1000 (by rw [List.length_map]; omega), ls, ?_, _, rfl⟩
          rw [take_snoc hz, groupsF_snoc]
          refine ⟨fun c o e => (upd_ne (ne_of_none e o2)).trans (sb _ _ (gr.s _ _ e)), ?_, ?_, gr.nd, gr.off⟩
          · unfold addG
            rw [if_pos hm, gK_map]
            exact (upd_ne o1.symm).trans (sb _ _ gr.d)
          · unfold addG
            rw [if_pos hm]
            rw [List.map_append] at h5
            exact h5
        · rw [gK_out gr.l hm] at hv
          cases hv
      · have hm : an z ∉ (groupsF an (zs.take i)).map (·.1) := fun hm => by
          obtain ⟨l0, rs, h1, _⟩ := gK_in gr.l hm
          rw [h1] at hv
          cases hv
        refine ⟨.inl ⟨rfl, _, .of ((upd_ne nbD).trans upd_same)⟩, _, rfl, b, [], _, rfl, rfl, (upd_ne nbD).trans upd_same, small1000 (Nat.zero_le _), ls ++ [b], ?_, _, rfl⟩
        rw [take_snoc hz, groupsF_snoc]
        unfold addG
        rw [if_neg hm]
        refine ⟨fun c o e => ?_, ?_, ?_, ?_, ?_⟩
        · rw [upd_ne (ne_of_none e n1b), upd_ne (ne_of_none e hD), upd_ne (ne_of_none e n1b)]
          exact gr.s _ _ e
        · rw [upd_ne nbD.symm, upd_same, putK_new _ hv, gK_snoc gr.l]
        · refine Paired.snoc (GL.at gr.l fun l0 h0 xs e => ?_) upd_same
          have nb : l0 ≠ b := fun z => nbl (by rw [← z]; exact h0)
          rw [upd_ne nb, upd_ne (gr.off l0 h0).1, upd_ne nb]
          exact e
        · exact List.nodup_append.mpr ⟨gr.nd, by simp, fun a ha b' hb' => by
            rw [List.mem_singleton.mp hb']
            rintro rfl
            exact nbl ha⟩
        · intro l0 h0
          rcases List.mem_append.mp h0 with h0 | h0
          · exact gr.off l0 h0
          · rw [List.mem_singleton.mp h0]
            exact ⟨nbD, n1b⟩
    · rintro σ H2 ⟨ls, gr, x4, rfl⟩
      rw [lz, List.take_length] at gr
      refine ⟨by decide, fun W hW => ?_⟩
      intro C hC
      have nWC : W ≠ C := fun e => by
        rw [e, upd_same] at hC
        cases hC
      have hC2 : H2 C = none := (upd_ne nWC.symm).symm.trans hC
      have nDW : D ≠ W := ne_of_none gr.d hW
      have nDC : D ≠ C := ne_of_none gr.d hC2
      have s3 : Same H2 (upd (upd H2 W (.lst [])) C (dnO P w C [])) := (Same.new hW).trans (Same.new hC)
      refine ⟨_, rfl, D, _, rfl, .of (s3 _ _ gr.d), fun p2 bs hp2 ik => ?_⟩
      obtain ⟨z1, z2, z3⟩ := keysZ gr.l ik
      have s4 := s3.trans (Same.new (o := .lst (bs.map V.ref)) hp2)
      refine ⟨p2, bs.zip ((groupsF an zs).map (·.1)), rfl, ?_, ?_, ?_, fun p3 hp3 => ?_⟩
      · rw [z1]
        exact .of upd_same
      · intro p hp
        have hk : p.2 ∈ (groupsF an zs).map (·.1) := by
          rw [← z2]
          exact List.mem_map.mpr ⟨p, hp, rfl⟩
        obtain ⟨k1, k3⟩ := kl (((grpIs an zs).keys _).mp hk)
        refine ⟨?_, k1, by omega⟩
        rw [upd_ne (ne_of_none (z3 p hp) hp2)]
        exact z3 p hp
      · have h1 : (bs.zip ((groupsF an zs).map (·.1))).length = (groupsF an zs).length := by
          rw [← List.length_map (f := (·.2)), z2, List.length_map]
        have h2 := groupsF_len an zs
        exact Nat.le_of_lt (small1000 (by omega))
      · have eK : (sortT (bs.zip ((groupsF an zs).map (·.1)))).map (·.2) = keysS an zs := by rw [sortT_keys, z2]
        have tA : ∀ u ∈ sortT (bs.zip ((groupsF an zs).map (·.1))), upd (upd (upd H2 W (.lst [])) C (dnO P w C [])) p2 (.lst (bs.map V.ref)) u.1 = some (.tup (u.2.map V.int)) := fun u hu => by
          have hp := (List.mergeSort_perm _ _).mem_iff.mp hu
          rw [upd_ne (ne_of_none (z3 u hp) hp2)]
          exact z3 u hp
        revert eK tA
        generalize hus : sortT (bs.zip ((groupsF an zs).map (·.1))) = us
        intro eK tA
        have s5 := s4.trans (Same.new (o := .lst (us.map fun q => V.ref q.1)) hp3)
        have s12 := gr.s.trans s5
        have nW : H1 W = none := gr.s.free hW
        have nC : H1 C = none := gr.s.free hC2
        have W3 : upd (upd (upd H2 W (.lst [])) C (dnO P w C [])) p2 (.lst (bs.map V.ref)) W = some (.lst []) := by
          have e : upd (upd H2 W (.lst [])) C (dnO P w C []) W = some (.lst []) := (upd_ne nWC).trans upd_same
          rw [upd_ne (ne_of_none e hp2)]
          exact e
        have C3 : upd (upd (upd H2 W (.lst [])) C (dnO P w C [])) p2 (.lst (bs.map V.ref)) C = some (dnO P w C []) := by
          rw [upd_ne (ne_of_none upd_same hp2), upd_same]
        have D3 := s5 _ _ gr.d
        have L3 : GL (upd (upd (upd (upd H2 W (.lst [])) C (dnO P w C [])) p2 (.lst (bs.map V.ref))) p3 (.lst (us.map fun q => V.ref q.1))) (groupsF an zs) ls := GL.at gr.l fun l0 _ xs e => s5 _ _ e
        have T3 : ∀ u ∈ us, upd (upd (upd (upd H2 W (.lst [])) C (dnO P w C [])) p2 (.lst (bs.map V.ref))) p3 (.lst (us.map fun q => V.ref q.1)) u.1 = some (.tup (u.2.map V.int)) := fun u hu => by
          rw [upd_ne (ne_of_none (tA u hu) hp3)]
          exact tA u hu
        have WW : upd (upd (upd (upd H2 W (.lst [])) C (dnO P w C [])) p2 (.lst (bs.map V.ref))) p3 (.lst (us.map fun q => V.ref q.1)) W = some (.lst []) := by
          rw [upd_ne (ne_of_none W3 hp3)]
          exact W3
        have CC : upd (upd (upd (upd H2 W (.lst [])) C (dnO P w C [])) p2 (.lst (bs.map V.ref))) p3 (.lst (us.map fun q => V.ref q.1)) C = some (dnO P w C []) := by
          rw [upd_ne (ne_of_none C3 hp3)]
          exact C3
        have n3W : p3 ≠ W := fun e => by
          rw [e, W3] at hp3
          cases hp3
        have n3C : p3 ≠ C := fun e => by
          rw [e, C3] at hp3
          cases hp3
        refine ⟨p3, rfl, ⟨_, .of upd_same⟩, ?_⟩
        have P3 : upd (upd (upd (upd H2 W (.lst [])) C (dnO P w C [])) p2 (.lst (bs.map V.ref))) p3 (.lst (us.map fun q => V.ref q.1)) p3 = some (.lst (us.map fun q => V.ref q.1)) := upd_same
        revert s12 D3 L3 T3 WW CC P3
        generalize upd (upd (upd (upd H2 W (.lst [])) C (dnO P w C [])) p2 (.lst (bs.map V.ref))) p3 (.lst (us.map fun q => V.ref q.1)) = H4
        intro s12 D3 L3 T3 WW CC P3
        have lU : (us.map fun q => V.ref q.1).length = us.length := List.length_map ..
        have lK : us.length = (keysS an zs).length := by rw [← eK, List.length_map]
        have nl0 : ∀ l0 ∈ ls, l0 ≠ W ∧ l0 ≠ C := fun l0 h0 => by
          obtain ⟨g0, e0⟩ := Paired.right gr.l l0 h0
          exact ⟨ne_of_none e0 hW, ne_of_none e0 hC2⟩
        refine for_list (xs := us.map fun q => V.ref q.1) (fun i σ H5 => ∃ ys : List Hd, ys.map (·.2.2) = (dueG an zs).take i ∧ H5 W = some (.lst (wlV ys)) ∧ H5 C = some (dnO P w C (cdE ys)) ∧ HdsAt H5 ys ∧ (∀ c o, c ≠ W → c ≠ C → H4 c = some o → H5 c = some o) ∧
          ∃ x7 x8 : Option V, σ = [some (.ref l), some (.ref d), some (.ref p), some (.ref D), x4, some (.ref W), some (.ref C), x7, x8]) ?_ ?_ ?_ ?_
        · exact ⟨[], rfl, WW, CC, ⟨fun _ h => nomatch h⟩, fun _ _ _ _ e => e, none, none, rfl⟩
        · rintro i σ H5 _ ⟨ys, _, _, _, _, k5, _⟩
          exact .of (k5 _ _ n3W n3C P3)
        · rintro i x σ H5 hx ⟨ys, ey, eW, eC, hh2, k5, x7, x8, rfl⟩
          rw [List.getElem?_map] at hx
          obtain ⟨u, hu, rfl⟩ := Option.map_eq_some_iff.mp hx
          have mu := List.mem_of_getElem? hu
          obtain ⟨a, k⟩ := u
          have ea : H5 a = some (.tup (k.map V.int)) := by
            have e := T3 _ mu
            exact k5 _ _ (ne_of e WW (fun z => nomatch z)) (ne_of e CC (fun z => nomatch z)) e
          have hk : (keysS an zs)[i]? = some k := by rw [← eK, List.getElem?_map, hu]; rfl
          have ek : k ∈ (groupsF an zs).map (·.1) := List.mem_mergeSort.mp (List.mem_of_getElem? hk)
          obtain ⟨l0, rs, g1, g2, g3, g4⟩ := gK_in L3 ek
          have er : rs = rowsA an zs k := (grpIs an zs).rows _ g3
          have hrs : rs.length ≤ 40 := Nat.le_trans (groupsF_size an zs _ g3) few
          have e4 : H5 l0 = some (.lst (rs.map V.str)) := k5 _ _ (nl0 l0 g2).1 (nl0 l0 g2).2 g4
          have e3 : H5 D = some (.dT (gK (groupsF an zs) ls)) := k5 _ _ nDW nDC D3
          have kt : (dueG an zs).take (i + 1) = (dueG an zs).take i ++ [(k, rs)] := by
            rw [List.take_add_one]
            unfold dueG
            rw [List.getElem?_map, hk, er]
            rfl
          have kn : k ∉ ys.map (·.2.2.1) := by
            have e1 : ys.map (·.2.2.1) = (keysS an zs).take i := by
              have : ys.map (·.2.2.1) = (ys.map (·.2.2)).map (·.1) := by rw [List.map_map]; rfl
              rw [this, ey, List.map_take]
              unfold dueG
              rw [List.map_map]
              exact congrArg _ (List.map_id _)
            have e2 : (keysS an zs).take (i + 1) = (keysS an zs).take i ++ [k] := by rw [List.take_add_one, hk]; rfl
            have nd := (List.take_sublist (i + 1) (keysS an zs)).nodup (keysS_nd an zs)
            rw [e2] at nd
            rw [e1]
            intro hm
            exact (List.nodup_append.mp nd).2.2 _ hm _ (List.mem_singleton.mpr rfl) rfl
          have yl : ys.length ≤ 40 := by
            have : (ys.map (·.2.2)).length = ((dueG an zs).take i).length := by rw [ey]
            rw [List.length_map, List.length_take] at this
            have h2 : (dueG an zs).length = (keysS an zs).length := by unfold dueG; rw [List.length_map]
            have h3 := keysS_len an zs
            omega
          have yr : ∀ y ∈ ys, y.2.2.2.length ≤ 40 := fun y hy => by
            have hm : y.2.2 ∈ dueG an zs := List.mem_of_mem_take (by rw [← ey]; exact List.mem_map.mpr ⟨y, hy, rfl⟩)
            unfold dueG at hm
            obtain ⟨k2, _, e2⟩ := List.mem_map.mp hm
            rw [← e2]
            exact Nat.le_trans (List.length_filter_le _ _) few
          have wl := wlV_len yr
          have big : ∀ {k : Nat}, k ≤ 100000 → k < sizeLine := fun {k} h => by
            rw [sizeLine_eq]
            omega
          refine ⟨_, rfl, Nat.le_of_lt (big (show 2 ≤ 100000 by decide)), fun h hh => ?_⟩
          have nhW : W ≠ h := ne_of_none eW hh
          have nhC : C ≠ h := ne_of_none eC hh
          have s6 : Same H5 (upd H5 h (.tup [.str "group", .ref a])) := Same.new hh
          have eh6 : upd H5 h (.tup [.str "group", .ref a]) h = some (.tup [.str "group", .ref a]) := upd_same
          refine ⟨_, rfl, .inl ⟨rfl, _, .of (s6 _ _ eW)⟩, _, rfl, _, rfl, _, rfl, D, _, rfl, by rw [← g1]; exact DGet.t (s6 _ _ e3) (by rw [kI_V]; exact s6 _ _ ea), l0, _, rfl, .inr (.of (s6 _ _ e4)), ?_, fun q0 hq0 => ?_⟩
          · show (V.ref h :: (rs.map V.str ++ [])).length ≤ sizeLine
            rw [List.length_cons, List.length_append, List.length_map, List.length_nil]
            exact Nat.le_of_lt (big (by omega))
          have s7 : Same (upd H5 h (.tup [.str "group", .ref a])) (upd (upd H5 h (.tup [.str "group", .ref a])) q0 (.lst (V.ref h :: (rs.map V.str ++ [])))) := Same.new hq0
          have s57 := s6.trans s7
          have hq5 : H5 q0 = none := s6.free hq0
          refine ⟨W, q0, _, _, rfl, rfl, s57 _ _ eW, upd_same, ?_, ?_⟩
          · rw [List.length_cons, List.length_append, List.length_map, List.length_nil]
            exact Nat.le_of_lt (big (by omega))
          have s8 : ∀ c o, c ≠ W → H5 c = some o → upd (upd (upd H5 h (.tup [.str "group", .ref a])) q0 (.lst (V.ref h :: (rs.map V.str ++ [])))) W (.lst (wlV ys ++ (V.ref h :: (rs.map V.str ++ [])))) c = some o := fun c o n e => (upd_ne n).trans (s57 _ _ e)
          have tupNW : ∀ {c : Addr} {xs : List V}, H5 c = some (.tup xs) → c ≠ W := fun e => ne_of e eW (fun z => nomatch z)
          have hhW : h ≠ W := nhW.symm
          have eh8 : upd (upd (upd H5 h (.tup [.str "group", .ref a])) q0 (.lst (V.ref h :: (rs.map V.str ++ [])))) W (.lst (wlV ys ++ (V.ref h :: (rs.map V.str ++ [])))) h = some (.tup [.str "group", .ref a]) := (upd_ne hhW).trans (s7 _ _ eh6)
          have W8 : upd (upd (upd H5 h (.tup [.str "group", .ref a])) q0 (.lst (V.ref h :: (rs.map V.str ++ [])))) W (.lst (wlV ys ++ (V.ref h :: (rs.map V.str ++ [])))) W = some (.lst (wlV ys ++ (V.ref h :: (rs.map V.str ++ [])))) := upd_same
          revert s8 eh8 W8
          generalize upd (upd (upd H5 h (.tup [.str "group", .ref a])) q0 (.lst (V.ref h :: (rs.map V.str ++ [])))) W (.lst (wlV ys ++ (V.ref h :: (rs.map V.str ++ [])))) = H8
          intro s8 eh8 W8
          have ea8 := s8 _ _ (tupNW ea) ea
          have C8 := s8 _ _ nWC.symm eC
          have hh8 : HdsAt H8 ys := hh2.at fun c xs e => s8 _ _ (tupNW e) e
          refine ⟨_, rfl, _, rfl, D, _, rfl, by rw [← g1]; exact DGet.t (s8 _ _ nDW e3) (by rw [kI_V]; exact ea8), l0, _, rfl, .inl (.of (s8 _ _ (nl0 l0 g2).1 e4)), _, rfl, _, rfl, C, h, hdK k, cdE ys, rfl, rfl, C8, cdE_ks hh8, hdK_nv eh8 ea8, hdK_depth k, ?_, ?_⟩
          · unfold cdE
            rw [List.length_map]
            exact big (by omega)
          rw [show V.int ((rs.map V.str).length : Int) = V.int ((h, a, (k, rs)).2.2.2.length : Int) from by rw [List.length_map]]
          have e9 := cdE_snoc (ys := ys) (y := (h, a, (k, rs))) kn
          refine ⟨ys ++ [(h, a, (k, rs))], ?_, ?_, ?_, ?_, fun c o n1 n2 e => ?_, _, _, rfl⟩
          · rw [List.map_append, ey, kt]
            rfl
          · rw [upd_ne nWC, W8, wlV_snoc, List.append_nil]
          · rw [upd_same]
            exact congrArg (fun z => some (dnO P w C z)) e9
          · refine ⟨fun y hy => ?_⟩
            have off : ∀ {c : Addr} {xs : List V}, H8 c = some (.tup xs) → upd H8 C (dnO P w C (storeN (cdE ys) (hdK k) h (V.int ((h, a, (k, rs)).2.2.2.length : Int)))) c = some (.tup xs) := fun e => (upd_ne (ne_of e C8 (fun z => nomatch z))).trans e
            rcases List.mem_append.mp hy with hy | hy
            · exact ⟨off (hh8.hd y hy).1, off (hh8.hd y hy).2⟩
            · rw [List.mem_singleton.mp hy]
              exact ⟨off eh8, off ea8⟩
          · exact (upd_ne n2).trans (s8 _ _ n1 (k5 _ _ n1 n2 e))
        · rintro σ H5 ⟨ys, ey, eW, eC, hh, k5, x7, x8, rfl⟩
          refine ⟨_, rfl, _, rfl, Nat.le_of_lt (small1000 (show 2 ≤ 1000 by decide)), fun T hT => ?_⟩
          have sT : Same H5 (upd H5 T (.tup [.ref W, .ref C])) := Same.new hT
          have s15 : Same H1 H5 := fun c o e => k5 _ _ (ne_of_none e nW) (ne_of_none e nC) (s12 _ _ e)
          refine q T W C ys _ ((s1.trans s15).trans sT) ((s1.trans s15).free hT) (s1.free nW) (s1.free nC) ⟨upd_same, sT _ _ eW, sT _ _ eC, hh.at fun _ _ e => sT _ _ e, ?_⟩
          rw [ey, lU, lK]
          unfold dueG
          rw [← List.length_map (as := keysS an zs) (f := fun k => (k, rowsA an zs k)), List.take_length]
end
end G
set_option Elab.async false
set_option linter.all false
set_option maxRecDepth 100000
set_option maxHeartbeats 4000000
/-! EQ: == of dicts whose keys are nested tuples, where all agrees. -/
namespace PySem.W
open PySem PySem.Calls PyProof.Rows PySem.Spec
section
variable {prog : Program} {w : World} {K : Type} [DecidableEq K] {knd : HeapKind prog w K} {A : Around} {E : Value → Shared → Prop} {s : Shared}
theorem samePairsH {nm : String} {a b : Addr} {xs ys : List (K × Addr × Value)} {Q : Bool → Shared → Prop} (ha : (a == sysModules) = false) (hb : (b == sysModules) = false) (hu : knd.room A)
    (da : s.heap.DictOfH knd a xs) (db : s.heap.DictOfH knd b ys) (hl : xs.length = ys.length) (hits : ∀ x ∈ xs, ∃ (j : Nat) (p : Addr × Value), ys[j]? = some (x.1, p) ∧ SeqAt.EqP prog w A s x.2.2 p.2 true) (h : Q true s) :
    wpAny (model prog w) A (Builtin.Dict.samePairs nm a b) Q E s := by
  obtain ⟨oa, es, ep, hoa, _, hda, hka, hia, _⟩ := da
  obtain ⟨ob, es', ep', hob, _, hdb, hkb, hib, hnb⟩ := db
  have sa : es.size = xs.length := size_of_entries hka
  have sb : es'.size = ys.length := size_of_entries hkb
  have hsz : es.size = es'.size := by rw [sa, sb, hl]
  unfold Builtin.Dict.samePairs Builtin.Dict.showsAll
  rw [if_neg (show ¬ (a == sysModules) = true by rw [ha]; exact Bool.false_ne_true), if_neg (show ¬ (b == sysModules) = true by rw [hb]; exact Bool.false_ne_true)]
  refine wpAny_bind (wpAny_pure (wpAny_bind (wpAny_pure ?_)))
  refine wpAny_bind (wpAny_dictEntries hoa hda ?_)
  dsimp only
  refine wpAny_bind (wpAny_dictEntries hob hdb ?_)
  rw [if_neg (by rw [hsz]; simp)]
  refine wpAny_bind (wpAny_dictEpoch hoa hda ?_)
  refine wpAny_bind ?_
  rw [Std.Legacy.Range.forIn_eq_forIn_range']
  simp only [Std.Legacy.Range.size, Nat.sub_zero, Nat.add_sub_cancel, Nat.div_one]
  refine wpAny_forIn_list _ (fun rest q s' => s' = s ∧ q = (none, ()) ∧ ∃ i, rest = List.range' i (es.size - i) ∧ i ≤ es.size) _ ?_ ?_ _ _ ⟨rfl, rfl, 0, by simp, Nat.zero_le _⟩
  · rintro x rest q s' ⟨rfl, rfl, i, hr, hi⟩
    have hlt : i < es.size := by
      rcases Nat.lt_or_ge i es.size with h | h
      · exact h
      · rw [Nat.sub_eq_zero_of_le h] at hr; simp at hr
    obtain ⟨rfl, hrest⟩ : x = i ∧ rest = List.range' (i + 1) (es.size - (i + 1)) := by
      have e : es.size - i = (es.size - (i + 1)) + 1 := by omega
      rw [e, List.range'_succ] at hr
      injection hr with h1 h2
      exact ⟨h1, h2⟩
    refine wpAny_bind (wpAny_dictEntries hoa hda ?_)
    rw [Array.getElem?_eq_getElem hlt]
    have hx : x < xs.length := by rw [← sa]; exact hlt
    have ee : es[x] = entryOfKey knd xs[x] := by
      have e := entry_at hka x
      rw [Array.getElem?_eq_getElem hlt, List.getElem?_eq_getElem hx] at e
      exact Option.some.inj e
    obtain ⟨j, p, hj, he⟩ := hits xs[x] (List.getElem_mem hx)
    have hjy : j < ys.length := (List.getElem?_eq_some_iff.mp hj).1
    have hjs : j < es'.size := by rw [sb]; exact hjy
    have ev : es'[j].val = p.2 := by
      have e := entry_at hkb j
      rw [Array.getElem?_eq_getElem hjs, hj] at e
      rw [Option.some.inj e]
      rfl
    show wpAny _ _ (holding [es[x].key, es[x].val] _ >>= _) _ _ _
    rw [ee]
    refine wpAny_bind (wpAny_holding (wpAny_bind (wpAny_dictFind_heap hu (hia _ (List.getElem_mem hx)) hob hdb hkb hib hnb (fun hn => absurd hj (hn j p)) fun j' p' hj' => ?_)))
    have e1 : j' = j := by
      have a1 := List.getElem?_eq_some_iff.mp hj'
      have a2 := List.getElem?_eq_some_iff.mp hj
      exact (List.getElem_inj (h₀ := by rw [List.length_map]; exact a1.1) (h₁ := by rw [List.length_map]; exact a2.1) hnb).mp (by rw [List.getElem_map, List.getElem_map, a1.2, a2.2])
    subst e1
    refine wpAny_bind (wpAny_dictEntries hob hdb ?_)
    rw [Array.getElem?_eq_getElem hjs]
    refine wpAny_holding ?_
    rw [ev]
    refine he _ _ ?_
    show wpAny _ _ (if (!true) = true then _ else _) _ _ _
    rw [if_neg (by decide)]
    refine wpAny_bind (wpAny_dictEpoch hoa hda ?_)
    rw [if_neg (by simp)]
    exact wpAny_pure ⟨rfl, rfl, x + 1, hrest, hlt⟩
  · rintro q s' ⟨rfl, rfl, i, hr, hi⟩
    exact wpAny_pure h
end
end PySem.W
set_option Elab.async false
set_option linter.all false
set_option maxRecDepth 100000
set_option maxHeartbeats 4000000
/-! DW: for v in d.values(), d a dict whose keys are nested tuples. -/
namespace G
open PySem PySem.Spec PyProof.Rows L2 PySem.W
def ItN (P : Program) (w : World) (d : Addr) (o : Obj) (ks : List Ent) : It :=
  ⟨fun i H => H d = some (.frz o (dnO P w d ks)) ∧ i < ks.length, fun i H x H' => H' = H ∧ ∃ k b, ks[i]? = some (k, b, x), fun i H => H d = some (.frz o (dnO P w d ks)) ∧ ks.length ≤ i⟩
theorem paired_ix {α β : Type} {F : α → β → Prop} {l : List α} {m : List β} (h : Paired F l m) : ∀ {j : Nat} {a : α}, l[j]? = some a → ∃ b, m[j]? = some b ∧ F a b := by
  induction h with
  | nil => intro j a h; simp at h
  | @cons a b l m h t ih =>
    intro j a' e
    cases j with
    | zero => cases e; exact ⟨b, rfl, h⟩
    | succ j => exact ih e
section
variable {X : Cx} {pins : List (Addr × Obj)} {σ : L2.St} {H : Hp} {s : Shared}
theorem frzN {d : Addr} {o : Obj} {ks : List Ent} (I : Inv X pins σ H s) (h : H d = some (.frz o (dnO X.prog X.w d ks))) :
    (d == sysModules) = false ∧ ∃ (es : Array DictEntry) (ep : Nat), o.data = .dict es ep ∧ s.heap.DictRaw d es ep ∧ es.size = ks.length ∧ ∀ {i : Nat} {k : NestedKey} {b : Addr} {v : V}, ks[i]? = some (k, b, v) → ∃ en : DictEntry, es[i]? = some en ∧ RelV v en.val := by
  obtain ⟨hd, ⟨z, y, xs, rel, ob, es, ep, hob, hx, hdt, he, hn⟩, _⟩ := I.hok d _ h
  rw [hd] at hob
  cases hob
  refine ⟨y, es, ep, hdt, ⟨o, hd, hx, hdt⟩, ?_, fun {i k b v} e => ?_⟩
  · rw [← Array.length_toList, he, List.length_map, Paired.length rel]
  · obtain ⟨q, hq, _, _, r⟩ := paired_ix rel e
    have e2 := entry_at he i
    rw [hq] at e2
    exact ⟨_, e2, r⟩
end
section
variable {P : Program} {w : World} {K : PySem.W.Frag} {tg : Expr} {d : Addr} {o : Obj} {es : Array DictEntry} {ep : Nat}
theorem ep_same {es' : Array DictEntry} {ep' : Nat} (h : o.data = .dict es ep) (h' : o.data = .dict es' ep') : es' = es ∧ ep' = ep := dict_ep h h'
theorem turn_valsN {ks : List Ent} (it : Addr) (hod : o.data = .dict es ep) : Turn P w K tg (ItN P w d o ks) [it] it (fun i h => h.IsValIter it d i ks.length ep) where
  mem := by simp
  obj := fun i h st b hb => by
    have e : b = it := by simpa using hb
    subst e
    obtain ⟨oi, e, c, dd⟩ := st
    exact ⟨oi, e, fun v z => by rw [dd] at z; cases z⟩
  keep := fun i h h' st k => st.at fun oi e => k it (by simp) oi e
  item := by
    intro X hP hw hK hc i pins s σ H E I hf st hg
    subst hP hw hK
    obtain ⟨hd, hi⟩ := hg
    obtain ⟨f0, f1, f2, f3, f4, f5⟩ := hf it (by simp)
    obtain ⟨hs, es', ep', hdt, raw, hsz, hv⟩ := frzN I hd
    obtain ⟨rfl, rfl⟩ := ep_same hod hdt
    obtain ⟨en, hen, ru⟩ := hv (List.getElem?_eq_getElem (l := ks) hi)
    have hi2 : i < es'.size := by rw [hsz]; exact hi
    rw [← hsz] at st
    refine wpAny_pyNext_values_item_raw st raw hi2 fun h' st' sb => ?_
    have I1 : Inv X pins σ H { s with heap := h' } := I.turned (t' := s.toks) (fun b ob hb e => (sb.2 b hb).trans e) f0 f1 f3 f4 f5
    obtain ⟨oi, e, c, dd⟩ := id st'
    have eu : es'[i] = en := by
      rw [Array.getElem?_eq_getElem hi2] at hen
      exact Option.some.inj hen
    refine ⟨es'[i].val, rfl, go_of (s := { s with heap := h' }) e c dd (by decide) ⟨ks[i].2.2, H, I1, by rw [eu]; exact ru, ⟨rfl, ks[i].1, ks[i].2.1, List.getElem?_eq_getElem hi⟩, ?_, fun b hb => (hf b hb).1⟩⟩
    show h'.IsValIter it d (i + 1) ks.length _
    rw [← hsz]
    exact st'
  done := by
    intro X hP hw hK hc i pins s σ H E I hf st hg
    subst hP hw hK
    obtain ⟨hd, hi⟩ := hg
    obtain ⟨f0, f1, f2, f3, f4, f5⟩ := hf it (by simp)
    obtain ⟨hs, es', ep', hdt, raw, hsz, hv⟩ := frzN I hd
    obtain ⟨rfl, rfl⟩ := ep_same hod hdt
    rw [← hsz] at st
    exact wpAny_pyNext_values_end_raw (I.ok.hd hc) st raw (by rw [hsz]; exact hi) fun h' eb => ⟨rfl, I.turned (t' := s.toks) (fun b ob hb e => eb b ob hb e) f0 f1 f3 f4 f5⟩
  self := fun A i s Q E st h => wpAny_pyIter_valiter st h
end
theorem walk_valuesN {P : Program} {w : World} {d : Addr} {o : Obj} {ks : List Ent} : Walk (ItN P w d o ks) ks.length (fun H => H d = some (.frz o (dnO P w d ks))) (fun i H x H' => H' = H ∧ ∃ k b, ks[i]? = some (k, b, x)) :=
  ⟨fun i H hi h => ⟨h, hi⟩, fun H h => ⟨h, Nat.le_refl _⟩, fun i H x H' hi h y => y⟩
/-- the dict is locked -/
def iValsN (P : Program) (w : World) (td : TE) : TI := fun σ H R => td σ H fun x H1 => ∃ (d : Addr) (o : Obj) (ks : List Ent), x = .ref d ∧ H1 d = some (.frz o (dnO P w d ks)) ∧ R (ItN P w d o ks) H1
section
variable {X : Cx} {P : Program} {w : World} {tg e : Expr} {td : TE} {apos cpos : Pos}
theorem pi_valuesN (hP : X.prog = P) (hw : X.w = w) (he : PE X e td) (hbase : attributeBase e "values" X.env (eval e X.env) = eval e X.env := by rfl) (hline : (apos.endLine == cpos.line) = true := by rfl) : PI X tg (.Call (.Attribute e "values" apos) [] [] cpos) (iValsN P w td) := by
  subst hP hw
  refine ⟨fun pins s σ H R I h => ?_⟩
  refine wpAny_Call_method (T := "dict") (id := "dict.values") hbase rfl hline PySem.F.plainAttrs_dict PySem.F.slot_dict_values PySem.F.type_dict_values (thn (he.run pins s σ H _ I h) fun u s1 ⟨x, H1, I1, rx, d, o, ks, ex, hd, q⟩ => ?_)
  subst ex
  obtain rfl : u = Value.ref d := rx
  obtain ⟨hs, es, ep, hdt, raw, hsz, hv⟩ := frzN I1 hd
  obtain ⟨o', ho', hx', _⟩ := id raw
  have ty : s1.TypeIs (.ref d) "dict" := ⟨o', ho', hx'.1⟩
  refine ⟨ty, fun b e => by cases e; exact ⟨o', ho', hx'.2.1⟩, ?_⟩
  have I2 : Inv X pins σ H1 { s1 with heap := s1.heap.push { cls := .type "dict_values", data := .fields #[.ref d] } } := I1.kept (t' := s1.toks) fun b ob q => Heap.get?_push_of_some _ q
  have raw2 : (s1.heap.push { cls := .type "dict_values", data := .fields #[.ref d] }).DictRaw d es ep := by
    obtain ⟨o'', h1, h2, h3⟩ := raw
    exact ⟨o'', Heap.get?_push_of_some _ h1, h2, h3⟩
  have fin : wpAny (model X.prog X.w) X.A (pyIter (.ref s1.heap.objs.size)) (PIE X pins σ tg R) X.xe { s1 with heap := s1.heap.push { cls := .type "dict_values", data := .fields #[.ref d] } } := by
    refine wpAny_pyIter_values_raw (d := d) ⟨_, Heap.get?_push_size _ rfl, rfl, rfl⟩ raw2 (pi_one (tk := s1.toks) I2 _ (turn_valsN _ hdt) ⟨_, Heap.get?_push_size _ rfl, rfl, ?_⟩ q)
    rw [hsz] <;> rfl
  show wpAny _ _ (callWith cpos (.builtin "dict.values") [.ref d] [] []) _ X.xe s1
  exact method_meetsIn PySem.F.slot_dict_values PySem.F.entry_dict_values rfl (PySem.evalArgs_none ⟨rfl, ty, PySem.F.args_dict_values_1 _, _, meets_dict_values_raw d hs, ⟨es, ep, raw⟩, fin⟩)
end
end G
set_option Elab.async false
set_option linter.all false
set_option maxRecDepth 100000
set_option maxHeartbeats 2000000
/-! ZL: list(zip(a, b)) of two lists. -/
namespace ZlM
open PySem PySem.Spec PyProof.Rows L2 L2.DX
theorem zip_no_len : typeLookup (.type "zip") "__len__" = pure none := by rw [typeLookup_type, builtinLookup_eq_fast]; kernel_rfl
theorem zip_no_hint : typeLookup (.type "zip") "__length_hint__" = pure none := by rw [typeLookup_type, builtinLookup_eq_fast]; kernel_rfl
/-- pairs at ts, of xs and ys -/
def PairsUp (h : Heap) (xs ys : Array Value) (ts : List Addr) : Prop := ∀ (j : Nat) T, ts[j]? = some T → ∃ x y, xs[j]? = some x ∧ ys[j]? = some y ∧ IsPair h T x y
section
variable {prog : Program} {w : World} {A : Around} {R : Result → Shared → Prop} {z TI TO i1 i2 l1 l2 S : Addr} {xs ys : Array Value} {n : Nat} {h0 : Heap}
/-- where the loop stands behind i turns -/
structure At (h0 h : Heap) (z TI TO i1 i2 l1 l2 S : Addr) (xs ys : Array Value) (i : Nat) (ts : List Addr) (acc : Array Value) (c : Nat) : Prop where
  zip : (IsZip h z TI TO .none ∧ ∃ a b, IsPair h TO a b) ∨ ∃ T f oT, IsZipHeld h z TI TO T f ∧ h.get? T = some oT ∧ T ≠ z ∧ T ≠ i1 ∧ T ≠ i2 ∧ T ≠ S
  ti : IsPair h TI (.ref i1) (.ref i2)
  a1 : h.IsListIter i1 l1 i
  a2 : h.IsListIter i2 l2 i
  b1 : h.IsList l1 xs
  b2 : h.IsList l2 ys
  s : h.get? S = some { cls := .type "list", dict := none, data := .seq acc c, slots := #[] }
  acc : acc.toList = ts.map Value.ref
  len : ts.length = i
  up : ∀ T ∈ ts, h0.objs.size ≤ T ∧ T < h.objs.size ∧ T ≠ S ∧ T ≠ z ∧ T ≠ TO ∧ T ≠ i1 ∧ T ≠ i2
  rise : ts.Pairwise (· < ·)
  pr : PairsUp h xs ys ts
  keep : ∀ b o, b ≠ z → b ≠ TO → b ≠ i1 → b ≠ i2 → b ≠ S → h0.get? b = some o → h.get? b = some o
  big : h0.objs.size ≤ h.objs.size
/-- behind the loop -/
structure Done (h0 h : Heap) (z TO i1 i2 S : Addr) (xs ys : Array Value) (n : Nat) (ts : List Addr) (acc : Array Value) (c : Nat) : Prop where
  s : h.get? S = some { cls := .type "list", dict := none, data := .seq acc c, slots := #[] }
  acc : acc.toList = ts.map Value.ref
  len : ts.length = n
  up : ∀ T ∈ ts, h0.objs.size ≤ T ∧ T ≠ S
  rise : ts.Pairwise (· < ·)
  pr : PairsUp h xs ys ts
  keep : ∀ b o, b ≠ z → b ≠ TO → b ≠ i1 → b ≠ i2 → b ≠ S → h0.get? b = some o → h.get? b = some o
theorem At.done {h h' : Heap} {i : Nat} {ts : List Addr} {acc : Array Value} {c : Nat} (st : At h0 h z TI TO i1 i2 l1 l2 S xs ys i ts acc c) (zS : z ≠ S) (i1S : i1 ≠ S) (i2S : i2 ≠ S) (TOS : TO ≠ S)
    (k : ∀ b o, b ≠ z → b ≠ TO → b ≠ i1 → b ≠ i2 → h.get? b = some o → h'.get? b = some o) : Done h0 h' z TO i1 i2 S xs ys i ts acc c := by
  refine ⟨k _ _ zS.symm TOS.symm i1S.symm i2S.symm st.s, st.acc, st.len, fun T hT => ⟨(st.up T hT).1, (st.up T hT).2.2.1⟩, st.rise, fun j U hU => ?_, fun b o e1 e2 e3 e4 e5 e6 => k b o e1 e2 e3 e4 (st.keep b o e1 e2 e3 e4 e5 e6)⟩
  obtain ⟨x', y', q1, q2, q3⟩ := st.pr j U hU
  obtain ⟨_, _, r1, r2, r3, r4, r5⟩ := st.up U (List.mem_of_getElem? hU)
  exact ⟨x', y', q1, q2, k _ _ r2 r3 r4 r5 q3⟩
theorem At.wrote {h h' : Heap} {i : Nat} {ts : List Addr} {acc acc' : Array Value} {c c' : Nat} {T : Addr} {x y : Value} (D : ZipApart z TI TO i1 i2 l1 l2) (st : At h0 h z TI TO i1 i2 l1 l2 S xs ys i ts acc c) (l1S : l1 ≠ S) (l2S : l2 ≠ S) (zS : z ≠ S) (TIS : TI ≠ S) (i1S : i1 ≠ S) (i2S : i2 ≠ S) (TOS : TO ≠ S)
    (k : ∀ b o, b ≠ z → b ≠ TO → b ≠ i1 → b ≠ i2 → b ≠ S → h.get? b = some o → h'.get? b = some o) (hz : ∃ T f oT, IsZipHeld h' z TI TO T f ∧ h'.get? T = some oT ∧ T ≠ z ∧ T ≠ i1 ∧ T ≠ i2 ∧ T ≠ S) (a1 : h'.IsListIter i1 l1 (i + 1)) (a2 : h'.IsListIter i2 l2 (i + 1))
    (hs : h'.get? S = some { cls := .type "list", dict := none, data := .seq acc' c', slots := #[] }) (ha : acc' = acc.push (.ref T)) (hT : T = h.objs.size) (hp : IsPair h' T x y) (hx : xs[i]? = some x) (hy : ys[i]? = some y) (zl : h.get? z ≠ none) (TOl : ∃ o, h.get? TO = some o) (sz : h'.objs.size = h.objs.size + 1) :
    At h0 h' z TI TO i1 i2 l1 l2 S xs ys (i + 1) (ts ++ [T]) acc' c' := by
  have lt : ∀ {b o}, h.get? b = some o → T ≠ b := fun e => by
    rw [hT]
    exact Nat.ne_of_gt (Heap.lt_size e)
  obtain ⟨oz, ez⟩ := Option.ne_none_iff_exists'.mp zl
  obtain ⟨oTO, eTO⟩ := TOl
  have n1 : T ≠ i1 := let ⟨_, e, _⟩ := st.a1; lt e
  have n2 : T ≠ i2 := let ⟨_, e, _⟩ := st.a2; lt e
  refine ⟨.inr hz, k _ _ D.TIz D.TITO D.TIi1 D.TIi2 TIS st.ti, a1, a2, st.b1.at fun o e => k _ o D.l1z D.l1TO D.l1i1 D.l1i2 l1S e, st.b2.at fun o e => k _ o D.l2z D.l2TO D.l2i1 D.l2i2 l2S e, hs, ?_, ?_, fun U hU => ?_, ?_, fun j U hU => ?_, fun b o e1 e2 e3 e4 e5 e6 => k b o e1 e2 e3 e4 e5 (st.keep b o e1 e2 e3 e4 e5 e6), by rw [sz]; exact Nat.le_succ_of_le st.big⟩
  · rw [ha, Array.toList_push, st.acc, List.map_append]
    rfl
  · rw [List.length_append, st.len]
    rfl
  · rcases List.mem_append.mp hU with h | h
    · obtain ⟨q1, q2, q3⟩ := st.up U h
      exact ⟨q1, by rw [sz]; exact Nat.lt_succ_of_lt q2, q3⟩
    · rw [List.mem_singleton.mp h]
      exact ⟨by rw [hT]; exact st.big, by rw [sz, hT]; exact Nat.lt_succ_self _, lt st.s, lt ez, lt eTO, n1, n2⟩
  · refine List.pairwise_append.mpr ⟨st.rise, List.pairwise_singleton _ _, fun a ha' b hb => ?_⟩
    rw [List.mem_singleton.mp hb, hT]
    exact (st.up a ha').2.1
  · rcases Nat.lt_or_ge j ts.length with h | h
    · rw [List.getElem?_append_left h] at hU
      obtain ⟨x', y', q1, q2, q3⟩ := st.pr j U hU
      obtain ⟨_, _, r1, r2, r3, r4, r5⟩ := st.up U (List.mem_of_getElem? hU)
      exact ⟨x', y', q1, q2, k _ _ r2 r3 r4 r5 r1 q3⟩
    · rw [List.getElem?_append_right h] at hU
      have hj : j - ts.length = 0 := by
        have := (List.getElem?_eq_some_iff.mp hU).1
        rw [List.length_singleton] at this
        omega
      rw [hj] at hU
      have eU : T = U := Option.some.inj hU
      have ej : j = i := by rw [← st.len]; omega
      rw [← eU, ej]
      exact ⟨x, y, hx, hy, hp⟩
theorem loop (hh : A.handled = none) (D : ZipApart z TI TO i1 i2 l1 l2) (l1S : l1 ≠ S) (l2S : l2 ≠ S) (zS : z ≠ S) (TIS : TI ≠ S) (i1S : i1 ≠ S) (i2S : i2 ≠ S) (TOS : TO ≠ S) (hx : xs.size = n) (hy : n ≤ ys.size) (hn : n ≤ 100000) (res : Value) :
    ∀ (k i : Nat) (s : Shared) (ts : List Addr) (acc : Array Value) (c : Nat), n - i = k → i ≤ n → (∃ o, s.heap.get? TO = some o) → At h0 s.heap z TI TO i1 i2 l1 l2 S xs ys i ts acc c →
    (∀ (h' : Heap) (ts' : List Addr) (acc' : Array Value) (c' : Nat), Done h0 h' z TO i1 i2 S xs ys n ts' acc' c' → R (.ok (.ret res)) { s with heap := h' }) →
    codeAny (model prog w) A (.builtin "list.extend.loop" ⟨[.ref S, .ref z, res], []⟩) R s := by
  intro k
  induction k with
  | zero =>
    intro i s ts acc c hk hi TOl st hR
    have hin : i = n := by omega
    subst hin
    refine codeAny_builtin PySem.F.entry_extend_loop ?_
    rw [Around.under_plainId PySem.F.plain_extend_loop _]
    show wpAny _ A.in1 (pyNext (.ref z) >>= _) _ _ s
    have hend : xs[i]? = none ∨ ys[i]? = none := .inl (Array.getElem?_eq_none (by omega))
    rcases st.zip with ⟨hz, a, b, hTO⟩ | ⟨T, f, oT, hz, hT, r1, r2, r3, r4⟩
    · refine wpAny_bind (wpAny_pyNext_zip_end hh D hz st.ti hTO st.a1 st.a2 st.b1 st.b2 hend fun h' hk => ?_)
      exact wpAny_pure (hR h' ts acc c (st.done zS i1S i2S TOS hk))
    · refine wpAny_bind (wpAny_pyNext_zip_end_held hh D hz hT st.ti st.a1 st.a2 st.b1 st.b2 hend fun h' hk => ?_)
      exact wpAny_pure (hR h' ts acc c (st.done zS i1S i2S TOS fun b o e1 _ e3 e4 e => hk b o e1 e3 e4 e))
  | succ k ih =>
    intro i s ts acc c hk hi TOl st hR
    have hlt : i < n := by omega
    refine codeAny_builtin PySem.F.entry_extend_loop ?_
    rw [Around.under_plainId PySem.F.plain_extend_loop _]
    show wpAny _ A.in1 (pyNext (.ref z) >>= _) _ _ s
    have ex : xs[i]? = some xs[i] := Array.getElem?_eq_getElem (by omega)
    have ey : ys[i]? = some ys[i] := Array.getElem?_eq_getElem (by omega)
    obtain ⟨oTO, eTO⟩ := TOl
    have lz : ∃ oz, s.heap.get? z = some oz := by
      rcases st.zip with ⟨hz, _⟩ | ⟨_, _, _, hz, _⟩
      · exact ⟨_, hz⟩
      · exact ⟨_, hz⟩
    obtain ⟨oz, ez⟩ := lz
    have lt : ∀ {b o}, s.heap.get? b = some o → s.heap.objs.size ≠ b := fun e => Nat.ne_of_gt (Heap.lt_size e)
    have m1 : s.heap.objs.size ≠ i1 := let ⟨_, e, _⟩ := st.a1; lt e
    have m2 : s.heap.objs.size ≠ i2 := let ⟨_, e, _⟩ := st.a2; lt e
    have la : acc.size = i := by rw [← Array.length_toList, st.acc, List.length_map, st.len]
    -- the list is written
    have go : ∀ (f : Bool) (U : Addr) (oU : Obj) (h' : Heap), IsZipHeld h' z TI TO U f → h'.get? U = some oU → U ≠ z → U ≠ i1 → U ≠ i2 → U ≠ S → h'.IsListIter i1 l1 (i + 1) → h'.IsListIter i2 l2 (i + 1) → IsPair h' s.heap.objs.size xs[i] ys[i] → h'.objs.size = s.heap.objs.size + 1 → (∃ o, h'.get? TO = some o) →
        (∀ b o, b ≠ z → b ≠ TO → b ≠ i1 → b ≠ i2 → s.heap.get? b = some o → h'.get? b = some o) →
        wpAny (model prog w) A.in1 (updateSeq S (·.push (.ref s.heap.objs.size)) >>= fun _ => again (.builtin "list.extend.loop" ⟨[.ref S, .ref z, res], []⟩))
          (fun fin s' => match fin with | .done f => R (.ok f) s' | .again c' => c'.quiet = true ∧ codeAny (model prog w) A c' R s') (fun e s' => R (.error e) s') { s with heap := h' } := by
      intro f U oU h' q1 q2 q3 q4 q5 qS q6 q7 q8 q9 qT q10
      have hS' := q10 _ _ zS.symm TOS.symm i1S.symm i2S.symm st.s
      refine wpAny_bind (wpAny_updateSeq hS' rfl (wpAny_pure ⟨plainId_quiet PySem.F.plain_extend_loop _, ?_⟩) (by rw [la]; rw [sizeLine_eq]; omega) (by show (acc.push _).size ≤ sizeLine + 1; rw [Array.size_push, la, sizeLine_eq]; omega))
      have oth : ∀ b o, b ≠ S → h'.get? b = some o → (h'.update S (Obj.mapSeq (·.push (.ref s.heap.objs.size)))).get? b = some o := fun b o hb e => (Heap.get?_update_other _ _ (Ne.symm hb)).trans e
      obtain ⟨oTO', eTO'⟩ := qT
      refine ih (i + 1) { s with heap := h'.update S (Obj.mapSeq (·.push (.ref s.heap.objs.size))) } (ts ++ [s.heap.objs.size]) (acc.push (.ref s.heap.objs.size)) _ (by omega) hlt ⟨oTO', oth _ _ TOS eTO'⟩ (st.wrote D l1S l2S zS TIS i1S i2S TOS (fun b o e1 e2 e3 e4 e5 e => oth b o e5 (q10 b o e1 e2 e3 e4 e)) ⟨U, f, oU, oth _ _ zS q1, oth _ _ qS q2, q3, q4, q5, qS⟩ (q6.at fun o e => oth _ o i1S e) (q7.at fun o e => oth _ o i2S e)
        (Heap.get?_update_self _ hS' rfl) rfl rfl (oth _ _ (lt st.s) q8) ex ey (by rw [ez]; exact fun z => nomatch z) ⟨_, eTO⟩ ?_) hR
      show (h'.update S _).objs.size = _
      rw [Heap.size_update]
      exact q9
    rcases st.zip with ⟨hz, a, b, hTO⟩ | ⟨T, f, oT, hz, hT, r1, r2, r3, r4⟩
    · refine wpAny_bind (wpAny_pyNext_zip_item D hz st.ti hTO st.a1 st.a2 st.b1 st.b2 ex ey fun h' a1 a2 a3 a4 a5 a6 hk => ?_)
      exact go false s.heap.objs.size _ h' a1 a5 (lt ez) m1 m2 (lt st.s) a3 a4 a5 a6 ⟨_, a2⟩ hk
    · refine wpAny_bind (wpAny_pyNext_zip_item_held D hz hT st.ti st.a1 st.a2 st.b1 st.b2 ex ey fun h' a1 a3 a4 a5 a6 hk => ?_)
      exact go true T oT h' a1 (hk _ _ r1 r2 r3 hT) r1 r2 r3 r4 a3 a4 a5 a6 ⟨_, hk _ _ D.TOz D.TOi1 D.TOi2 eTO⟩ fun b o e1 _ e3 e4 e => hk b o e1 e3 e4 e
end
section
variable {prog : Program} {w : World} {A : Around} {E : Value → Shared → Prop} {s : Shared} {z TI TO i1 i2 l1 l2 : Addr} {xs ys : Array Value} {n : Nat}
/-- list(z), z a zip of two lists of one length -/
theorem call_list_zip {a b : Value} {Q : Value → Shared → Prop} (hh : A.handled = none) (D : ZipApart z TI TO i1 i2 l1 l2) (hz : IsZip s.heap z TI TO .none) (hTI : IsPair s.heap TI (.ref i1) (.ref i2)) (hTO : IsPair s.heap TO a b) (h1 : s.heap.IsListIter i1 l1 0) (h2 : s.heap.IsListIter i2 l2 0) (hl1 : s.heap.IsList l1 xs) (hl2 : s.heap.IsList l2 ys)
    (hx : xs.size = n) (hy : n ≤ ys.size) (hn : n ≤ 100000) (hQ : ∀ (h' : Heap) (ts : List Addr) (acc : Array Value) (c : Nat), Done (s.heap.push { cls := .type "list", data := .seq #[] }) h' z TO i1 i2 s.heap.objs.size xs ys n ts acc c → Q (.ref s.heap.objs.size) { s with heap := h' }) :
    wpAny (model prog w) A (call (.type "list") [.ref z]) Q E s := by
  have up : ∀ {b o}, s.heap.get? b = some o → (s.heap.push { cls := .type "list", data := .seq #[] }).get? b = some o := fun e => Heap.get?_push_of_some _ e
  have ne : ∀ {b o}, s.heap.get? b = some o → b ≠ s.heap.objs.size := fun e => Nat.ne_of_lt (Heap.lt_size e)
  have nz := ne hz
  have nTI := ne hTI
  have nTO := ne hTO
  have n1 : i1 ≠ s.heap.objs.size := let ⟨_, e, _⟩ := h1; ne e
  have n2 : i2 ≠ s.heap.objs.size := let ⟨_, e, _⟩ := h2; ne e
  have nl1 : l1 ≠ s.heap.objs.size := let ⟨_, e, _⟩ := hl1; ne e
  have nl2 : l2 ≠ s.heap.objs.size := let ⟨_, e, _⟩ := hl2; ne e
  refine callType_codes (Q₁ := fun obj s₁ => obj = .ref s.heap.objs.size ∧ s₁ = { s with heap := s.heap.push { cls := .type "list", data := .seq #[] } }) PySem.F.called_list (PySem.F.typeCall_list_1 _) PySem.F.entry_list_init
    (code_list_new _ ⟨rfl, rfl⟩) fun obj s₁ hobj => ?_
  obtain ⟨rfl, rfl⟩ := hobj
  have hS : (s.heap.push { cls := .type "list", data := .seq #[] }).get? s.heap.objs.size = some { cls := .type "list", data := .seq #[] } := Heap.get?_push_size _ rfl
  have hTy : ∀ {h' : Heap}, IsZip h' z TI TO .none → (({ s with heap := h' } : Shared)).TypeIs (.ref z) "zip" := fun e => ⟨_, e, rfl⟩
  refine ⟨⟨_, hS, rfl⟩, PySem.F.args_list_init_2 _ _, ?_⟩
  show wpAny _ A.in1.in1 (do let old ← Builtin.List.listItems (.ref s.heap.objs.size); Builtin.List.listUpdate (.ref s.heap.objs.size) (fun _ => #[]); letGo old.toList.reverse; Builtin.List.listExtendWith (.ref s.heap.objs.size) (.ref z) .none) _ _ _
  refine wpAny_bind ?_
  unfold Builtin.List.listItems
  refine wpAny_bind (wpAny_seqItems hS rfl (wpAny_pure ?_))
  show wpAny _ A.in1.in1 (updateSeq s.heap.objs.size (fun _ => #[]) >>= fun _ => letGo (#[] : Array Value).toList.reverse >>= fun _ => Builtin.List.listExtendWith (.ref s.heap.objs.size) (.ref z) .none) _ _ _
  refine wpAny_bind (wpAny_updateSeq hS rfl ?_)
  have hS₂ := Heap.get?_update_self (Obj.mapSeq (fun _ => (#[] : Array Value))) hS rfl
  have sz₂ : ((s.heap.push { cls := .type "list", data := .seq #[] }).update s.heap.objs.size (Obj.mapSeq (fun _ => (#[] : Array Value)))).objs.size = s.heap.objs.size + 1 := by
    rw [Heap.size_update, Heap.size_push]
  have oth₂ : ∀ b o, b ≠ s.heap.objs.size → (s.heap.push { cls := .type "list", data := .seq #[] }).get? b = some o → ((s.heap.push { cls := .type "list", data := .seq #[] }).update s.heap.objs.size (Obj.mapSeq (fun _ => (#[] : Array Value)))).get? b = some o := fun b o hb e => (Heap.get?_update_other _ _ (Ne.symm hb)).trans e
  generalize (s.heap.push { cls := .type "list", data := .seq #[] }).update s.heap.objs.size (Obj.mapSeq (fun _ => (#[] : Array Value))) = h₂ at hS₂ sz₂ oth₂ ⊢
  refine wpAny_bind (wpAny_letGo ?_)
  have hz₂ := oth₂ _ _ nz (up hz)
  unfold Builtin.List.listExtendWith
  refine wpAny_bind (wpAny_typeOf (T := "zip") (hTy hz₂) ?_)
  have c1 : Builtin.List.listSameRef (.ref s.heap.objs.size) (.ref z) = false := by simp [Builtin.List.listSameRef, Ne.symm nz]
  have c2 : (Value.type "zip" == Value.type "list") = false := by decide
  have c3 : (Value.type "zip" == Value.type "tuple") = false := by decide
  simp only [c1, c2, c3, Bool.or_false, Bool.false_eq_true, if_false]
  refine wpAny_bind (wpAny_pyIter_zip hz₂ (wpAny_bind (wpAny_holding ?_)))
  unfold Builtin.List.listLengthHint
  refine wpAny_bind (wpAny_specialOf (hTy hz₂) zip_no_len ?_)
  show wpAny _ A.in1.in1 (specialOf (Value.ref z) (Str.ofString "__length_hint__") >>= _) _ _ _
  refine wpAny_bind (wpAny_specialOf (hTy hz₂) zip_no_hint (wpAny_pure ?_))
  show wpAny _ A.in1.in1 (rule "list.extend.makes-room" >>= fun _ => Builtin.List.listTouch (.ref s.heap.objs.size) >>= fun _ => again (.builtin "list.extend.loop" ⟨[.ref s.heap.objs.size, .ref z, .none], []⟩)) _ _ _
  refine wpAny_bind (wpAny_rule (wpAny_bind ?_))
  show wpAny _ A.in1.in1 (updateSeq s.heap.objs.size (·.push .none) >>= fun _ => updateSeq s.heap.objs.size (·.pop)) _ _ _
  refine wpAny_bind (wpAny_updateSeq hS₂ rfl ?_)
  have hS₃ := Heap.get?_update_self (Obj.mapSeq (·.push Value.none)) hS₂ rfl
  refine wpAny_updateSeq (hz := by seq_fits) hS₃ rfl ?_
  have hS₄ := Heap.get?_update_self (Obj.mapSeq (·.pop)) hS₃ rfl
  obtain ⟨c4, hS₅⟩ : ∃ c4, ((h₂.update s.heap.objs.size (Obj.mapSeq (·.push Value.none))).update s.heap.objs.size (Obj.mapSeq (·.pop))).get? s.heap.objs.size = some { cls := .type "list", dict := none, data := .seq #[] c4, slots := #[] } := ⟨_, hS₄⟩
  have oth : ∀ b o, b ≠ s.heap.objs.size → (s.heap.push { cls := .type "list", data := .seq #[] }).get? b = some o → ((h₂.update s.heap.objs.size (Obj.mapSeq (·.push Value.none))).update s.heap.objs.size (Obj.mapSeq (·.pop))).get? b = some o :=
    fun b o hb e => (Heap.get?_update_other _ _ (Ne.symm hb)).trans ((Heap.get?_update_other _ _ (Ne.symm hb)).trans (oth₂ b o hb e))
  have sz₄ : ((h₂.update s.heap.objs.size (Obj.mapSeq (·.push Value.none))).update s.heap.objs.size (Obj.mapSeq (·.pop))).objs.size = s.heap.objs.size + 1 := by
    rw [Heap.size_update, Heap.size_update, sz₂]
  refine wpAny_pure ⟨plainId_quiet PySem.F.plain_extend_loop _, loop (A := A.in1) (n := n) (h0 := s.heap.push { cls := .type "list", data := .seq #[] }) hh D nl1 nl2 nz nTI n1 n2 nTO hx hy hn .none n 0 _ [] #[] c4 rfl (Nat.zero_le _) ⟨_, oth _ _ nTO (up hTO)⟩ ?_ fun h' ts acc c d => ⟨rfl, hQ h' ts acc c d⟩⟩
  refine ⟨.inl ⟨oth _ _ nz (up hz), a, b, oth _ _ nTO (up hTO)⟩, oth _ _ nTI (up hTI), h1.at fun o e => oth _ o n1 (up e), h2.at fun o e => oth _ o n2 (up e), hl1.at fun o e => oth _ o nl1 (up e), hl2.at fun o e => oth _ o nl2 (up e), hS₅, rfl, rfl, (fun T hT => nomatch hT), .nil, (fun j T hj => by simp at hj), fun b o _ _ _ _ e5 e6 => oth b o e5 e6, ?_⟩
  show _ ≤ ((h₂.update s.heap.objs.size (Obj.mapSeq (·.push Value.none))).update s.heap.objs.size (Obj.mapSeq (·.pop))).objs.size
  rw [sz₄, Heap.size_push]
  exact Nat.le_refl _
end
/-- list(zip(a, b)) -/
def tListZip (K : PySem.W.Frag) (ta : TA) : TE := fun σ H Q => ta σ H fun vs H1 => ∃ (a b : Addr) (xs ys : List V), vs = [.ref a, .ref b] ∧ SqL K H1 a xs ∧ SqL K H1 b ys ∧ xs.length ≤ ys.length ∧ xs.length ≤ 100000 ∧
  ∀ (p : Addr) (ts : List Addr) (H' : Hp), H1 p = none → (∀ c o, H1 c = some o → H' c = some o) → H' p = some (.lst (ts.map V.ref)) → ts.length = xs.length → (∀ t ∈ ts, H1 t = none) → ts.Nodup → (∀ (j : Nat) T x y, ts[j]? = some T → xs[j]? = some x → ys[j]? = some y → H' T = some (.tup [x, y])) → Q (.ref p) H'
section
variable {X : Cx} {e e2 : Expr} {ta : TA} {p q pos pos2 : Pos}
theorem zip_laid {pins : List (Addr × Obj)} {σ : L2.St} {H : Hp} {s : Shared} {h' : Heap} {xs ys : List V} {us ws : List Value} {ts : List Addr} {acc : Array Value} {c S n : Nat} (I : Inv X pins σ H s) (hS : s.heap.objs.size ≤ S) (rx : Vals xs us) (ry : Vals ys ws) (lx : xs.length = n) (ly : n ≤ ys.length) (hn : n ≤ 100000)
    (k : ∀ b o, s.heap.get? b = some o → h'.get? b = some o) (eS : h'.get? S = some { cls := .type "list", dict := none, data := .seq acc c, slots := #[] }) (ea : acc.toList = ts.map Value.ref) (lt : ts.length = n) (up : ∀ T ∈ ts, s.heap.objs.size ≤ T ∧ T ≠ S) (nd : ts.Nodup) (pr : PairsUp h' us.toArray ws.toArray ts) :
    ∃ H' : Hp, (∀ b o, H b = some o → H' b = some o) ∧ H S = none ∧ H' S = some (.lst (ts.map V.ref)) ∧ (∀ t ∈ ts, H t = none) ∧ (∀ (j : Nat) T x y, ts[j]? = some T → xs[j]? = some x → ys[j]? = some y → H' T = some (.tup [x, y])) ∧ Inv X pins σ H' { s with heap := h' } := by
  have nS : H S = none := I.hok.fresh hS
  have nT : ∀ t ∈ ts, H t = none := fun t ht => I.hok.fresh (up t ht).1
  have small : n ≤ sizeLine := by rw [sizeLine_eq]; omega
  have I1 : Inv X pins σ (upd H S (.lst (ts.map V.ref))) { s with heap := h' } := by
    refine I.laid (t' := s.toks) k hS ⟨by rw [List.length_map, lt]; exact small, acc.toList, c, ?_, by rw [Array.toArray_toList]; exact eS⟩
    rw [ea]
    exact L2.vals_refs ts
  obtain ⟨H', I2, kp, at_⟩ := takeT (h' := h') (tk := s.toks) (P := fun a vs => ∃ j x y, ts[j]? = some a ∧ xs[j]? = some x ∧ ys[j]? = some y ∧ vs = [x, y]) I ts _ I1 nd fun a ha => by
    refine ⟨(up a ha).1, (upd_ne (up a ha).2).trans (nT a ha), ?_⟩
    obtain ⟨j, hj⟩ := List.mem_iff_getElem?.mp ha
    have hjl := (List.getElem?_eq_some_iff.mp hj).1
    obtain ⟨u, v, hu, hv, hp⟩ := pr j a hj
    have ex : xs[j]? = some xs[j] := List.getElem?_eq_getElem (by omega)
    have ey : ys[j]? = some ys[j] := List.getElem?_eq_getElem (by omega)
    obtain ⟨u', eu, ru⟩ := rx.get ex
    obtain ⟨v', ev, rv⟩ := ry.get ey
    have hu' : us[j]? = some u := by simpa using hu
    have hv' : ws[j]? = some v := by simpa using hv
    rw [hu'] at eu
    rw [hv'] at ev
    cases eu
    cases ev
    exact ⟨[xs[j], ys[j]], ⟨j, _, _, hj, ex, ey, rfl⟩, fun H2 => ⟨by show 2 ≤ sizeLine; decide, [u, v], .cons ru (.cons rv .nil), ⟨_, hp, rfl, _, rfl⟩⟩⟩
  refine ⟨H', fun b o eb => kp b o ((upd_ne fun z => by rw [z, nS] at eb; cases eb).trans eb), nS, kp _ _ upd_same, nT, fun j T x y hj hx hy => ?_, I2⟩
  obtain ⟨vs, ⟨j', x', y', e1, e2, e3, rfl⟩, e4⟩ := at_ T (List.mem_of_getElem? hj)
  obtain ⟨l1, g1⟩ := List.getElem?_eq_some_iff.mp hj
  obtain ⟨l2, g2⟩ := List.getElem?_eq_some_iff.mp e1
  have ej : j = j' := (List.getElem_inj nd).mp (g1.trans g2.symm)
  rw [← ej, hx] at e2
  rw [← ej, hy] at e3
  rw [e4, Option.some.inj e2, Option.some.inj e3]
theorem pe_listZip (hc : X.calm = true) (ha : PA X [e, e2] ta) (hg : Gl X "list") (hm : X.mg "list" = none) (hg2 : Gl X "zip") (hm2 : X.mg "zip" = none)
    (hs : starEach [.Call (.Name "zip" q) [e, e2] [] pos2] X.env = (false, eval (.Call (.Name "zip" q) [e, e2] [] pos2) X.env) :: starEach [] X.env := by rfl)
    (hs2 : starEach [e, e2] X.env = (false, eval e X.env) :: starEach [e2] X.env := by rfl) (hpl : (backTo pos2 (starEach [e2] X.env)).any (·.1) = false := by rfl) :
    PE X (.Call (.Name "list" p) [.Call (.Name "zip" q) [e, e2] [] pos2] [] pos) (tListZip X.K ta) := by
  refine ⟨fun pins s σ H Q I h => ?_⟩
  refine wpAny_Call_Name_kw (ld_blt I hg hm boot_list (PyProof.Rows.callWith_type1 ?_ hs rfl))
  rw [hs]
  show wpAny _ _ (spliced ((false, eval (.Call (.Name "zip" q) [e, e2] [] pos2) X.env) :: backTo pos (starEach [] X.env))) _ _ s
  refine Calls.spliced_cons (Call_ (ld_blt I hg2 hm2 PyProof.Rows.boot_zip (PyProof.Rows.callWith_type1 (thn (ha.run pos2 pins s σ H _ I h) fun us s1 ⟨vs, H1, I1, r1, q1⟩ => ?_) hs2 hpl)))
  obtain ⟨a, b, xs, ys, ex, hqx, hqy, hlen, hn, q⟩ := q1
  subst ex
  cases r1 with
  | cons r rr =>
    cases rr with
    | cons r' rr =>
      cases rr
      cases r
      cases r'
      obtain ⟨its, rv, p1, _⟩ := I1.list hqx
      obtain ⟨its2, rv2, p2, _⟩ := I1.list hqy
      have la : a < s1.heap.objs.size := p1.lt
      have lb : b < s1.heap.objs.size := p2.lt
      refine call_zip_2 p1.isList p2.isList fun h' hz hTI hTO h1 h2 hsz hk => Calls.spliced_nil ?_
      have r1 := rv.length
      have r2 := rv2.length
      refine call_list_zip (s := { s1 with heap := h' }) (n := xs.length) (I1.ok.hd hc) (PySem.W.ktu_apart s1.heap.objs.size a b la lb) hz hTI hTO h1 h2 (p1.isList.at fun o e => hk _ o e) (p2.isList.at fun o e => hk _ o e) (by rw [List.size_toArray, r1]) (by rw [List.size_toArray, ← r2]; exact hlen) hn fun h2' ts acc c d => ?_
      have kk : ∀ b o, s1.heap.get? b = some o → h2'.get? b = some o := fun b o e => by
        have lt := Heap.lt_size e
        refine d.keep b o (Nat.ne_of_lt (Nat.lt_add_right 4 lt)) (Nat.ne_of_lt (Nat.lt_add_right 3 lt)) (Nat.ne_of_lt lt) (Nat.ne_of_lt (Nat.lt_add_right 1 lt)) (by show b ≠ h'.objs.size; rw [hsz]; exact Nat.ne_of_lt (Nat.lt_add_right 5 lt)) (Heap.get?_push_of_some _ (hk b o e))
      obtain ⟨H', k1, k2, k3, k4, k5, I2⟩ := zip_laid (n := xs.length) I1 (by show s1.heap.objs.size ≤ h'.objs.size; omega) rv rv2 rfl hlen hn kk d.s d.acc d.len (fun T hT => by
        obtain ⟨u1, u2⟩ := d.up T hT
        rw [Heap.size_push] at u1
        have u3 : h'.objs.size + 1 ≤ T := u1
        exact ⟨by omega, u2⟩) (d.rise.imp fun h => Nat.ne_of_lt h) d.pr
      exact ⟨.ref _, H', I2, rfl, q _ ts H' k2 k1 k3 d.len k4 (d.rise.imp fun h => Nat.ne_of_lt h) k5⟩
end
end ZlM
set_option Elab.async false
set_option linter.all false
set_option maxRecDepth 100000
set_option maxHeartbeats 4000000
/-! NR: sorted of lists of deep data and of dicts whose keys are nested tuples; their items; the sum of their values; list.count; > of int tuples. -/
namespace G
open PySem PySem.Spec PyProof.Rows L2 PySem.W DvT
/-- a value, its data -/
abbrev VD := V × PyData
abbrev sortVD (ts : List VD) : List VD := ts.mergeSort (dataLe false fun p : VD => p.2)
theorem each_vd : ∀ {ts : List VD} {us : List Value}, Vals (ts.map (·.1)) us → EachIs (fun v (p : VD) => RelV p.1 v) us ts
  | [], _, r => by
    cases r
    exact .nil
  | p :: ts, _, r => by
    cases r with
    | cons h t => exact .cons h (each_vd t)
theorem vd_each : ∀ {ts : List VD} {us : List Value}, EachIs (fun v (p : VD) => RelV p.1 v) us ts → Vals (ts.map (·.1)) us
  | _, _, .nil => .nil
  | _, _, .cons h t => .cons h (vd_each t)
def rSortedVD (K : PySem.W.Frag) : List V → Hp → VK → Prop := fun vs H Q => ∃ (a : Addr) (ts : List VD), vs = [V.ref a] ∧ SqL K H a (ts.map (·.1)) ∧ (∀ p ∈ ts, Dp K H p.1 p.2 ∧ p.2.depth ≤ 4) ∧ AllAlike (ts.map (·.2)) ∧ Sortable (ts.map (·.2)) ∧ ts.length ≤ sizeLine ∧
  ∀ p, H p = none → Q (.ref p) (upd H p (.lst ((sortVD ts).map (·.1))))
/-- sorted(d), d a dict whose keys are nested tuples -/
def rSortedN (K : PySem.W.Frag) (P : Program) (w : World) : List V → Hp → VK → Prop := fun vs H Q => ∃ (a : Addr) (ks : List Ent) (f : Ent → PyData), vs = [V.ref a] ∧ H a = some (dnO P w a ks) ∧ KsN H ks ∧ (∀ e ∈ ks, Dp K H (.ref e.2.1) (f e) ∧ (f e).depth ≤ 4) ∧ AllAlike (ks.map f) ∧ Sortable (ks.map f) ∧
  ∀ p, H p = none → Q (.ref p) (upd H p (.lst ((ks.mergeSort (dataLe false f)).map fun e => V.ref e.2.1)))
section
variable {prog : Program} {w : World} {d : Addr} {es : Array DictEntry} {ep : Nat}
theorem raw_lt {h : Heap} (hm : h.DictRaw d es ep) : d < h.objs.size := let ⟨_, ho, _⟩ := hm; Heap.lt_size ho
theorem keysN_src (lo : (d == sysModules) = false) : KdlSrc prog w "dict" d d es.size (fun i v => ∃ hi : i < es.size, v = es[i].key) (fun h => h.DictRaw d es ep) where
  type := fun _ hm => hm.typeIs
  there := fun _ hm => ⟨raw_lt hm, raw_lt hm⟩
  keep := fun _ _ hm hk => hm.at fun o e => hk d (.inl rfl) o e
  notList := by decide
  notTuple := by decide
  hint := fun _ _ _ _ hm hq => kdl_hint_dict hm.typeIs hq
  iter := fun _ _ hh hm => ⟨_, _, (fun _ _ hq => wpAny_pyIter_dict_raw lo hm hq), Walks.rawKeys hh _ d (Nat.ne_of_lt (raw_lt hm)) es ep, ⟨⟨_, Heap.get?_push_size _ rfl, rfl, rfl⟩, hm.at fun _ e => Heap.get?_push_of_some _ e⟩⟩
theorem valsN_src {r : Addr} : KdlSrc prog w "dict_values" r d es.size (fun i v => ∃ hi : i < es.size, v = es[i].val) (fun h => h.IsValuesView r d ∧ h.DictRaw d es ep) where
  type := fun _ hm => hm.1.typeIs
  there := fun _ hm => ⟨let ⟨_, ho, _⟩ := hm.1; Heap.lt_size ho, raw_lt hm.2⟩
  keep := fun _ _ hm hk => ⟨let ⟨o, ho, x⟩ := hm.1; ⟨o, hk r (.inl rfl) o ho, x⟩, hm.2.at fun o e => hk d (.inr rfl) o e⟩
  notList := by decide
  notTuple := by decide
  hint := fun _ _ _ _ hm hq => kdl_hint_values hm.1.typeIs hq
  iter := fun _ _ hh hm => ⟨_, _, (fun _ _ hq => wpAny_pyIter_values_raw hm.1 hm.2 hq), Walks.rawValues hh _ d (Nat.ne_of_lt (raw_lt hm.2)) es ep, ⟨⟨_, Heap.get?_push_size _ rfl, rfl, rfl⟩, hm.2.at fun _ e => Heap.get?_push_of_some _ e⟩⟩
end
section
variable {X : Cx} {pins : List (Addr × Obj)} {σ : L2.St} {H : Hp} {s : Shared}
/-- the entries as they lie -/
theorem rawN {a : Addr} {ks : List Ent} (I : Inv X pins σ H s) (h : H a = some (dnO X.prog X.w a ks)) :
    (a == sysModules) = false ∧ ks.length ≤ sizeLine ∧ ∃ (es : Array DictEntry) (ep : Nat), s.heap.DictRaw a es ep ∧ es.size = ks.length ∧ ∀ {i : Nat} {e : Ent}, ks[i]? = some e → ∃ en : DictEntry, es[i]? = some en ∧ en.key = .ref e.2.1 ∧ RelV e.2.2 en.val := by
  obtain ⟨⟨z, y, xs, rel, o, es, ep, ho, hx, hdt, he, hn⟩, _⟩ := (show ObjOk X.prog X.w H s.heap a (.ext (dnAt X.prog X.w a ks)) from I.hok a _ h)
  refine ⟨y, z, es, ep, ⟨o, ho, hx, hdt⟩, ?_, fun {i e} q => ?_⟩
  · rw [← Array.length_toList, he, List.length_map, Paired.length rel]
  · have pix : ∀ {l : List Ent} {m : List (NestedKey × Addr × Value)}, Paired EntR l m → ∀ {j : Nat} {a : Ent}, l[j]? = some a → ∃ b, m[j]? = some b ∧ EntR a b := by
      intro l m r
      induction r with
      | nil => intro j a e; simp at e
      | cons h t ih =>
        intro j a e
        cases j with
        | zero => cases e; exact ⟨_, rfl, h⟩
        | succ j => exact ih e
    obtain ⟨b, hb, e1, e2, e3⟩ := pix rel q
    have g := entry_at he i
    rw [hb] at g
    exact ⟨_, g, by rw [e2]; rfl, e3⟩
end
section
variable {X : Cx}
theorem cr_sortedVD (hu : X.A.units + 16 < cLine) : CallR X (.builtin "sorted") (rSortedVD X.K) := by
  intro pins s σ H vs us Q I r h
  obtain ⟨a, ts, rfl, hs, ht, hal, hk, hz, q⟩ := h
  obtain ⟨its, rv, hl, _⟩ := I.list hs
  obtain ⟨u, rfl, ru⟩ := vals1 r
  obtain rfl : u = Value.ref a := ru
  have e := each_vd rv
  refine sorted_data (enc := fun p : VD => p.2) hl.isList e (SkL.each_with e fun v p hp ev => Dp.reads I _ _ _ (ht p hp).1 ev) hal hk hz (fun b hb => ?_) fun out ho hout => ?_
  · have := (ht b hb).2
    show X.A.units + 2 + b.2.depth < cLine
    omega
  · obtain ⟨c, hc⟩ := sortedAll_at s.heap its (List.toArray out)
    have fr : s.heap.objs.size ≤ s.heap.objs.size + 1 := Nat.le_succ _
    refine ⟨.ref (s.heap.objs.size + 1), upd H (s.heap.objs.size + 1) (.lst ((sortVD ts).map (·.1))), I.laid (t' := s.toks) (fun b o hb => sortedAll_old hb) fr ⟨?_, out, c, vd_each hout, hc⟩, rfl, q _ (I.hok.fresh fr)⟩
    rw [List.length_map, List.length_mergeSort]
    exact hz
theorem cr_sortedN (hc : X.calm = true) (hu : X.A.units + 16 < cLine) : CallR X (.builtin "sorted") (rSortedN X.K X.prog X.w) := by
  intro pins s σ H vs us Q I r h
  obtain ⟨a, ks, f, rfl, ha, hks, ht, hal, hk, q⟩ := h
  obtain ⟨u, rfl, ru⟩ := vals1 r
  obtain rfl : u = Value.ref a := ru
  obtain ⟨hsm, hz, es, ep, raw, hsz, hen⟩ := rawN I ha
  refine PySem.Calls.call_function_entry kind_sorted plain_sorted entry_sorted (args_sorted1 _) ?_
  unfold Builtin.«sorted»
  refine wpAny_bind (m := checkCount "sorted" 1 1 _) (wpAny_pure (wpAny_bind (kdu_collect (A := X.A.in1) (keysN_src (es := es) (ep := ep) hsm) (I.ok.hd hc) raw (by rw [hsz]; exact hz) fun h1 tk1 acc k1 ia => ?_)))
  have I1 : Inv X pins σ H { s with heap := h1, toks := tk1 } := I.kept (t' := tk1) k1
  have la : acc.toList.length = ks.length := by
    rw [Array.length_toList, ia.1, hsz]
  have ea : EachIs (fun v (e : Ent) => v = Value.ref e.2.1) acc.toList ks := by
    have gen : ∀ (l : List Value) (m : List Ent), l.length = m.length → (∀ (j : Nat) (v : Value), l[j]? = some v → ∃ e, m[j]? = some e ∧ v = Value.ref e.2.1) → EachIs (fun v (e : Ent) => v = Value.ref e.2.1) l m := by
      intro l
      induction l with
      | nil =>
        intro m hl _
        cases m with
        | nil => exact .nil
        | cons _ _ => cases hl
      | cons v l ih =>
        intro m hl hj
        cases m with
        | nil => cases hl
        | cons e m =>
          obtain ⟨e', he', hv⟩ := hj 0 v rfl
          cases he'
          exact .cons hv (ih m (Nat.succ.inj hl) fun j v hv => hj (j + 1) v hv)
    refine gen _ _ la fun j v hv => ?_
    have lt : j < ks.length := by
      rw [← la]
      exact (List.getElem?_eq_some_iff.mp hv).1
    obtain ⟨hi, ev⟩ := ia.2 j v (by rw [← Array.getElem?_toList]; exact hv)
    obtain ⟨en, h2, h3, _⟩ := hen (List.getElem?_eq_getElem lt)
    refine ⟨_, List.getElem?_eq_getElem lt, ?_⟩
    rw [Array.getElem?_eq_getElem hi] at h2
    rw [ev, Option.some.inj h2, h3]
  refine wpAny_bind (wpAny_newList ?_ (by rw [la]; exact hz))
  have at1 : (h1.push (seqObj "list" acc.toList.toArray 0)).get? h1.objs.size = some (seqObj "list" acc.toList.toArray 0) := Heap.get?_push_size _ rfl
  have up : ∀ b o, h1.get? b = some o → (sortingHeap (h1.push (seqObj "list" acc.toList.toArray 0)) h1.objs.size acc.toList).get? b = some o := fun b o e =>
    sortingHeap_old (Nat.ne_of_lt (Heap.lt_size e)) (Heap.get?_push_of_some _ e)
  have er : EachIs (fun v (e : Ent) => ∃ as, Reads (sortingHeap (h1.push (seqObj "list" acc.toList.toArray 0)) h1.objs.size acc.toList) v (f e) as) acc.toList ks := SkL.each_with ea fun v e he ev => by
    subst ev
    obtain ⟨as, rd⟩ := Dp.reads I1 _ _ _ (ht e he).1 rfl
    exact ⟨as, PyProof.Rows.Reads.keeps up rd⟩
  refine wpAny_bind (wpAny_holding (wpAny_call_entry slot_list_sort ⟨_, at1, rfl⟩ entry_list_sort (list_sort_vals (κ := dataKind (sortingHeap (h1.push (seqObj "list" acc.toList.toArray 0)) h1.objs.size acc.toList) (ks.map f)) at1
    (SortsAt.data (s := { s with heap := sortingHeap (h1.push (seqObj "list" acc.toList.toArray 0)) h1.objs.size acc.toList, toks := tk1 }) (each_map (R := fun v d => ∃ as, Reads (sortingHeap (h1.push (seqObj "list" acc.toList.toArray 0)) h1.objs.size acc.toList) v d as) f er) hal hk (bound_map fun e he => ?_)) (by rw [la]; exact hz) ⟨.none, rfl, ?_⟩) (args_list_sort _)))
  · have := (ht e he).2
    show X.A.units + 2 + (f e).depth < cLine
    omega
  · have eo := sortVals_data false ea er hal
    obtain ⟨c, hc2⟩ := sortedHeap_at (vs := acc.toList) (out := (sortVals (dataKind (sortingHeap (h1.push (seqObj "list" acc.toList.toArray 0)) h1.objs.size acc.toList) (ks.map f)) false acc.toList acc.toList).toArray) at1
    refine wpAny_pure ⟨_, rfl, .ref h1.objs.size, upd H h1.objs.size (.lst ((ks.mergeSort (dataLe false f)).map fun e => V.ref e.2.1)), I1.laid (t' := tk1) (fun b o hb => (sortedHeap_old (Nat.ne_of_lt (Heap.lt_size hb)) (Heap.lt_size (Heap.get?_push_of_some _ hb))).trans (Heap.get?_push_of_some _ hb)) (Nat.le_refl _) ⟨?_, _, c, ?_, hc2⟩, rfl, q _ (I1.hok.fresh (Nat.le_refl _))⟩
    · rw [List.length_map, List.length_mergeSort]
      exact hz
    · have gv : ∀ {es : List Ent} {us : List Value}, EachIs (fun v (e : Ent) => v = Value.ref e.2.1) us es → Vals (es.map fun e => V.ref e.2.1) us := by
        intro es us z
        induction z with
        | nil => exact .nil
        | cons h t ih => exact .cons h ih
      exact gv eo
end
end G
set_option Elab.async false
set_option linter.all false
set_option maxRecDepth 100000
set_option maxHeartbeats 4000000
/-! NS: values of a dict whose keys are nested tuples, their sum; an item of it; list.count of deep data; > of int tuples. -/
namespace G
open PySem PySem.Spec PyProof.Rows L2 PySem.W DvT LamX
/-- the view of d's values -/
def vwO (v d : Addr) : HO := .ext fun h => h.IsValuesView v d
def tViewN (P : Program) (w : World) (td : TE) : TE := fun σ H Q => td σ H fun x H1 => ∃ (d : Addr) (ks : List Ent), x = .ref d ∧ H1 d = some (dnO P w d ks) ∧ ∀ p, H1 p = none → Q (.ref p) (upd H1 p (vwO p d))
section
variable {X : Cx} {P : Program} {w : World} {e : Expr} {td : TE} {apos cpos : Pos}
theorem pe_viewN (hP : X.prog = P) (hw : X.w = w) (he : PE X e td) (hbase : attributeBase e "values" X.env (eval e X.env) = eval e X.env := by rfl) (hline : (apos.endLine == cpos.line) = true := by rfl) : PE X (.Call (.Attribute e "values" apos) [] [] cpos) (tViewN P w td) := by
  subst hP hw
  refine ⟨fun pins s σ H Q I h => ?_⟩
  refine wpAny_Call_method (T := "dict") (id := "dict.values") hbase rfl hline PySem.F.plainAttrs_dict PySem.F.slot_dict_values PySem.F.type_dict_values (thn (he.run pins s σ H _ I h) fun u s1 ⟨x, H1, I1, rx, d, ks, ex, hd, q⟩ => ?_)
  subst ex
  obtain rfl : u = Value.ref d := rx
  obtain ⟨hs, hz, es, ep, raw, hsz, hen⟩ := rawN I1 hd
  obtain ⟨o', ho', hx', _⟩ := id raw
  have ty : s1.TypeIs (.ref d) "dict" := ⟨o', ho', hx'.1⟩
  refine ⟨ty, fun b e => by cases e; exact ⟨o', ho', hx'.2.1⟩, ?_⟩
  show wpAny _ _ (callWith cpos (.builtin "dict.values") [.ref d] [] []) _ X.xe s1
  refine method_meetsIn PySem.F.slot_dict_values PySem.F.entry_dict_values rfl (PySem.evalArgs_none ⟨rfl, ty, PySem.F.args_dict_values_1 _, _, meets_dict_values_raw d hs, ⟨es, ep, raw⟩, ?_⟩)
  have hv : (s1.heap.push { cls := .type "dict_values", data := .fields #[.ref d] }).IsValuesView s1.heap.objs.size d := ⟨_, Heap.get?_push_size _ rfl, rfl, rfl⟩
  exact ⟨.ref _, _, I1.laid (t' := s1.toks) (o := vwO s1.heap.objs.size d) (fun b ob q => Heap.get?_push_of_some _ q) (Nat.le_refl _) ⟨hv, ⟨_, Heap.get?_push_size _ rfl⟩, fun h1 h2 ⟨o, e1, e2⟩ k => ⟨o, k _ e1, e2⟩⟩, rfl, q _ (I1.hok.fresh (Nat.le_refl _))⟩
end
def rSumN (P : Program) (w : World) : List V → Hp → VK → Prop := fun vs H Q => ∃ (v d : Addr) (ks : List Ent) (f : Ent → Int), vs = [.ref v] ∧ H v = some (vwO v d) ∧ H d = some (dnO P w d ks) ∧ (∀ e ∈ ks, e.2.2 = .int (f e)) ∧ Q (.int (ks.map f).sum) H
theorem preSum_at {α : Type} (f : α → Int) : ∀ l : List α, preSum (fun i => ((l[i]?).map f).getD 0) l.length = (l.map f).sum
  | [] => rfl
  | a :: l => by
    have ih := preSum_at f l
    rw [List.length_cons, kdu_shift, List.map_cons, List.sum_cons]
    show f a + preSum (fun i => (((a :: l)[i + 1]?).map f).getD 0) l.length = _
    rw [← ih]
    rfl
section
variable {X : Cx} {P : Program} {w : World}
theorem cr_sumN (hP : X.prog = P) (hw : X.w = w) (hc : X.calm = true) : CallR X (.builtin "sum") (rSumN P w) := by
  subst hP hw
  intro pins s σ H vs us Q I r h
  obtain ⟨v, d, ks, f, rfl, hv, hd, hf, q⟩ := h
  obtain ⟨u, rfl, ru⟩ := vals1 r
  obtain rfl : u = Value.ref v := ru
  obtain ⟨hs, hz, es, ep, raw, hsz, hen⟩ := rawN I hd
  have hvw : s.heap.IsValuesView v d := (show ObjOk X.prog X.w H s.heap v (.ext _) from I.hok v _ hv).1
  have hok : s.heap.IsValuesView v d ∧ s.heap.DictRaw d es ep := ⟨hvw, raw⟩
  have K := valsN_src (prog := X.prog) (w := X.w) (d := d) (es := es) (ep := ep) (r := v)
  refine call_sum_walkAnyS ?_
  obtain ⟨oI, St, hit, W, st⟩ := K.iter X.A.in1 s (I.ok.hd hc) hok
  refine hit _ _ ⟨s.heap.objs.size, _, _, _, es.size, _, _, fun i => ((ks[i]?).map f).getD 0, rfl, W.toS, st, fun b hb => ?_, fun i u hu => ?_, fun s' t' hm => ?_⟩
  · show b < (s.heap.push oI).objs.size
    rw [Heap.size_push]
    rcases List.mem_cons.mp hb with e | hb
    · rw [e]
      exact Nat.lt_succ_self _
    · rw [List.mem_singleton.mp hb]
      exact Nat.lt_succ_of_lt (raw_lt raw)
  · obtain ⟨hi, rfl⟩ := hu
    have lt : i < ks.length := by rw [← hsz]; exact hi
    obtain ⟨en, h2, _, h3⟩ := hen (List.getElem?_eq_getElem lt)
    rw [hf _ (List.getElem_mem lt)] at h3
    obtain ⟨t, ht⟩ := h3
    rw [Array.getElem?_eq_getElem hi] at h2
    refine ⟨t, ?_⟩
    show es[i].val = _
    rw [Option.some.inj h2, ht]
    dsimp only
    rw [List.getElem?_eq_getElem lt]
    rfl
  · have hk : ∀ b o, s.heap.get? b = some o → s'.heap.get? b = some o := fun b o e =>
      hm.heap b o (fun hI => absurd (Heap.lt_size e) (by rw [List.mem_singleton.mp hI]; exact Nat.lt_irrefl _)) (Heap.get?_push_of_some _ e)
    rw [Moved.eq_with hm]
    refine ⟨.int (ks.map f).sum, H, I.kept (t' := s'.toks) hk, ⟨t', ?_⟩, q⟩
    rw [hsz, preSum_at]
end
/-- d[x], d a dict whose keys are nested tuples, the key among them -/
def tDGetN (P : Program) (w : World) (td ty : TE) : TE := fun σ H Q => td σ H fun x H1 => ty σ H1 fun y H2 => ∃ (a b b' : Addr) (k : NestedKey) (ks : List Ent) (v : V), x = .ref a ∧ y = .ref b ∧ H2 a = some (dnO P w a ks) ∧ KsN H2 ks ∧ NV H2 (.ref b) k ∧ k.depth ≤ 8 ∧ (k, b', v) ∈ ks ∧ Q v H2
theorem atKey_in {K : Type} [DecidableEq K] {k : K} {p : Addr × Value} : ∀ {xs : List (K × Addr × Value)}, (xs.map (·.1)).Nodup → (k, p) ∈ xs → atKey xs k = some p
  | [], _, h => nomatch h
  | x :: xs, nd, h => by
    unfold atKey
    rw [List.map_cons, List.nodup_cons] at nd
    by_cases e : x.1 = k
    · rw [List.find?_cons_of_pos (by exact decide_eq_true e)]
      rcases List.mem_cons.mp h with h | h
      · rw [← h]
        rfl
      · exact (nd.1 (by rw [e]; exact List.mem_map.mpr ⟨_, h, rfl⟩)).elim
    · rw [List.find?_cons_of_neg (by simpa using e)]
      rcases List.mem_cons.mp h with h | h
      · exact (e (by rw [← h])).elim
      · exact atKey_in nd.2 h
section
variable {X : Cx} {P : Program} {w : World} {o i : Expr} {td ty : TE} {pos : Pos}
theorem pe_dgetN (hP : X.prog = P) (hw : X.w = w) (hu : X.A.units + 16 < cLine) (ho : PE X o td) (hi : PE X i ty) (hs : NoSl i) : PE X (.Subscript o i pos) (tDGetN P w td ty) := by
  subst hP hw
  refine ⟨fun pins s σ H Q I h => ?_⟩
  refine subD_of PySem.F.slot_dict_getitem.lookup hs (thn (ho.run pins s σ H _ I h) fun u s1 ⟨x, H1, I1, rx, q1⟩ => thn (hi.run pins s1 σ H1 _ I1 q1) fun iv s2 ⟨y, H2, I2, ry, a, b, b', k, ks, v, ex, ey, ea, hk, nk, dk, hm, q2⟩ => ?_)
  subst ex ey
  obtain rfl : u = Value.ref a := rx
  obtain rfl : iv = Value.ref b := ry
  obtain ⟨z, hd, xs, rel, dd⟩ := dn_of I2.hok ea hk
  have room : (nestedKind X.prog X.w).room X.A.in1 := by
    show X.A.in1.units + 8 < cLine
    have : X.A.in1.units ≤ X.A.units + 8 := by
      show X.A.units + _ ≤ _
      omega
    omega
  obtain ⟨u, hu1, ru⟩ : ∃ u : Value, (k, b', u) ∈ xs ∧ RelV v u := by
    have gen : ∀ {l : List Ent} {m : List (NestedKey × Addr × Value)}, Paired EntR l m → (k, b', v) ∈ l → ∃ u : Value, (k, b', u) ∈ m ∧ RelV v u := by
      intro l m r
      induction r with
      | nil => exact fun h => nomatch h
      | @cons p q ps qs h t ih =>
        intro hm
        rcases List.mem_cons.mp hm with e | hm
        · obtain ⟨e1, e2, e3⟩ := h
          rw [← e] at e1 e2 e3
          refine ⟨q.2.2, ?_, e3⟩
          rw [show (k, b', q.2.2) = q from Prod.ext e1 (Prod.ext e2 rfl)]
          exact List.mem_cons_self
        · obtain ⟨u, h1, h2⟩ := ih hm
          exact ⟨u, List.mem_cons_of_mem _ h1, h2⟩
    exact gen rel hm
  obtain ⟨o', es, ep, h1, h2, h3, h4, h5, h6⟩ := id dd
  exact ⟨⟨o', h1, h2.1⟩, wpAny_getItem_heap room ⟨nv_is I2.hok nk rfl, dk⟩ dd (atKey_in h6 hu1) ⟨v, H2, I2.tok _, ru, q2⟩⟩
end
/-- how many items equal x -/
def rCountD (K : PySem.W.Frag) : V → List V → Hp → VK → Prop := fun x xs H Q => ∃ (a : Addr) (y : V) (d : PyData) (ds : List PyData), x = V.ref a ∧ xs = [y] ∧ Dp K H (V.ref a) (.list ds) ∧ Dp K H y d ∧ SeqAt.shaped (.list ds) = true ∧ SeqAt.shaped d = true ∧ Q (.int (ds.countP fun z => PyData.eqv z d : Nat)) H
section
variable {X : Cx}
theorem mt_countD (hu : X.A.units + 65 < cLine) : MtR X "list.count" (rCountD X.K) := by
  intro pins s σ H x xs v us Q I rx rxs h
  obtain ⟨a, y, d, ds, rfl, rfl, hl, hy, sl, sd, q⟩ := h
  cases rx
  obtain ⟨uy, rfl, ry⟩ := rxs.one
  obtain ⟨bs, r1⟩ := Dp.reads I d y uy hy ry
  have hxs : PyData.canLayAll0 ds = true := SeqAt.canLay_of_shaped sl
  have hroom : X.A.units + 1 + min (PyData.depthAll ds) d.depth < cLine := room_in_shaped sd hu
  cases hl with
  | lst hs ha =>
    obtain ⟨its, rv, ⟨⟨cls, dd, data, sls⟩, n, ho, hc, hdn, hdt⟩, hlen⟩ := I.list hs
    simp only at hc hdt
    subst hc hdt
    obtain ⟨as, h4⟩ := Dp.readsAll I ds _ its ha rv
    have hmap : its.map (SeqAt.readOf s.heap) = ds := SeqAt.readsAll_map ds its as hxs h4
    refine call_meets PySem.F.slot_list_count ⟨_, ho, rfl⟩ PySem.F.entry_list_count (PySem.F.args_list_count_2 _ _)
      (SeqAt.list_countAt a its.toArray n dd sls uy (fun u => PyData.eqv (SeqAt.readOf s.heap u) d)) ⟨ho, SeqAt.items_eqAt (vs := its.toArray) (show ReadsAll s.heap its.toArray.toList ds as from h4) r1 hxs (SeqAt.canLay_of_shaped sd) hroom, ?_⟩
    refine ⟨.int (ds.countP fun z => PyData.eqv z d : Nat), H, I.tok _, ⟨s.toks, ?_⟩, q⟩
    have e : its.toArray.toList.countP (fun u => PyData.eqv (SeqAt.readOf s.heap u) d) = ds.countP fun z => PyData.eqv z d := by
      rw [← hmap, List.countP_map]
      rfl
    rw [e]
end
def rGtI : R2 := fun x y H Q => ∃ (a b : Addr) (ns ms : List Int), x = .ref a ∧ y = .ref b ∧ H a = some (.tup (ns.map V.int)) ∧ H b = some (.tup (ms.map V.int)) ∧ Q (.bl (dataLt (.tuple (ms.map .int)) (.tuple (ns.map .int)))) H
theorem op_gtI {X : Cx} (hu : X.A.units + 4 < cLine) : OpR X (compareOp .Gt) rGtI := by
  intro pins s σ H x y v u Q I rx ry h
  obtain ⟨a, b, ns, ms, rfl, rfl, ha, hb, q⟩ := h
  cases rx
  cases ry
  have d1 : ∀ xs : List Int, (PyData.tuple (xs.map .int)).depth = 1 := fun xs => by simp [PyData.depth, depth_ints]
  have r := rcGt_alike (.tuple (ns.map .int)) (.tuple (ms.map .int)) X.A s _ _ _ _ (SkL.reads_tup I.hok ha) (SkL.reads_tup I.hok hb) (by simp [alike, alike_ints]) (fun z => nomatch z) (by rw [d1, d1]; show X.A.units + 1 < _; omega)
  exact r X.prog X.w _ _ ⟨.bl _, H, I, rfl, q⟩
end G
set_option Elab.async false
set_option linter.all false
set_option maxRecDepth 100000
set_option maxHeartbeats 4000000
/-! IM: places of rows, orders, groups: the mathematics. -/
namespace G
open PySem PySem.Spec PyProof.Rows L2 NdefX DvT StX SkL LamX PySem.W
/-! ### places -/
theorem str_beqD (a b : Str) : (a == b) = decide (a = b) := by
  by_cases h : a = b
  · subst h
    rw [beq_self_eq_true, decide_eq_true rfl]
  · rw [beq_eq_false_iff_ne.mpr h, decide_eq_false h]

def ixS : List Str → Str → Nat
  | [], _ => 0
  | a :: l, z => if a = z then 0 else ixS l z + 1
theorem ixS_at : ∀ {rs : List Str} {z : Str}, z ∈ rs → rs[ixS rs z]? = some z
  | a :: l, z, h => by
    unfold ixS
    by_cases e : a = z
    · rw [if_pos e, e]
      rfl
    · rw [if_neg e]
      rcases List.mem_cons.mp h with h | h
      · exact (e h.symm).elim
      · exact ixS_at h
theorem ixS_first : ∀ {rs : List Str} {z y : Str} {m : Nat}, m < ixS rs z → rs[m]? = some y → y ≠ z
  | a :: l, z, y, m, h, e => by
    unfold ixS at h
    by_cases q : a = z
    · rw [if_pos q] at h
      exact absurd h (Nat.not_lt_zero _)
    · rw [if_neg q] at h
      cases m with
      | zero =>
        cases e
        exact q
      | succ m => exact ixS_first (Nat.lt_of_succ_lt_succ h) e
theorem ixS_nd {rs : List Str} {z : Str} {i : Nat} (nd : rs.Nodup) (h : rs[i]? = some z) : ixS rs z = i := by
  have h1 := ixS_at (List.mem_of_getElem? h)
  obtain ⟨a1, a2⟩ := List.getElem?_eq_some_iff.mp h1
  obtain ⟨b1, b2⟩ := List.getElem?_eq_some_iff.mp h
  exact (List.getElem_inj (h₀ := a1) (h₁ := b1) nd).mp (a2.trans b2.symm)
theorem ixS_sub : ∀ {zs rs : List Str}, zs.Sublist rs → rs.Nodup → (zs.map (ixS rs)).Pairwise (· < ·)
  | _, _, .slnil, _ => .nil
  | zs, _, .cons a (l₂ := l) h, nd => by
    obtain ⟨na, nl⟩ := List.nodup_cons.mp nd
    have ih := ixS_sub h nl
    have e : zs.map (ixS (a :: l)) = (zs.map (ixS l)).map (· + 1) := by
      rw [List.map_map]
      refine List.map_congr_left fun z hz => ?_
      show (if a = z then 0 else ixS l z + 1) = _
      rw [if_neg fun q => na (by rw [q]; exact h.subset hz)]
      rfl
    rw [e]
    exact List.Pairwise.map _ (fun _ _ h => Nat.succ_lt_succ h) ih
  | _, _, .cons₂ a (l₁ := zs) (l₂ := l) h, nd => by
    obtain ⟨na, nl⟩ := List.nodup_cons.mp nd
    have ih := ixS_sub h nl
    have ne : ∀ z ∈ zs, ¬ a = z := fun z hz q => na (by rw [q]; exact h.subset hz)
    have e : zs.map (ixS (a :: l)) = (zs.map (ixS l)).map (· + 1) := by
      rw [List.map_map]
      refine List.map_congr_left fun z hz => ?_
      show (if a = z then 0 else ixS l z + 1) = _
      rw [if_neg (ne z hz)]
      rfl
    rw [List.map_cons, List.pairwise_cons, e]
    refine ⟨fun b hb => ?_, List.Pairwise.map _ (fun _ _ h => Nat.succ_lt_succ h) ih⟩
    obtain ⟨c, _, rfl⟩ := List.mem_map.mp hb
    show (if a = a then 0 else _) < c + 1
    rw [if_pos rfl]
    exact Nat.succ_pos _
theorem ixS_lt {rs : List Str} {z : Str} (h : z ∈ rs) : ixS rs z < rs.length := (List.getElem?_eq_some_iff.mp (ixS_at h)).1
theorem rIndex_str {K : PySem.W.Frag} {H : Hp} {l : Addr} {rs : List Str} {z : Str} {Q : VK} (hl : SqL K H l (rs.map V.str)) (hz : z ∈ rs) (q : Q (.int (ixS rs z : Nat)) H) : rIndex K (.ref l) [.str z] H Q := by
  refine ⟨l, _, _, ixS rs z, .str z, rfl, rfl, hl, rfl, flat_strs _, ?_, beq_self_eq_true _, ?_, q⟩
  · rw [List.getElem?_map, ixS_at hz]
    rfl
  · intro m z' hm e
    rw [List.getElem?_map] at e
    obtain ⟨y, ey, rfl⟩ := Option.map_eq_some_iff.mp e
    show (y == z) = false
    rw [str_beqD]
    exact decide_eq_false (ixS_first hm ey)
/-! ### orders -/
theorem str_lt_anti {x y : Str} (h1 : dataLt (.str x) (.str y) = false) (h2 : dataLt (.str y) (.str x) = false) : x = y := by
  have h := (listOrd itemOrd).total (keyToks (.str x)) (keyToks (.str y)) h1 h2
  have h3 : [Sum.inr (α := Int) x.cps.toList] = [Sum.inr y.cps.toList] := h
  injection h3 with h4
  injection h4 with h5
  exact str_of_cps h5
abbrev strVD (zs : List Str) : List VD := zs.map fun z => (V.str z, PyData.str z)
theorem sort_perm {zs ws : List Str} (h : zs.Perm ws) : sortVD (strVD zs) = sortVD (strVD ws) := by
  have T := sortLe_total (listOrd itemOrd) false fun p : VD => keyToks p.2
  have mem : ∀ {us : List Str} {p : VD}, p ∈ sortVD (strVD us) → ∃ z, p = (V.str z, PyData.str z) := fun {us p} hp => by
    obtain ⟨z, _, rfl⟩ := List.mem_map.mp ((List.mergeSort_perm _ _).mem_iff.mp hp)
    exact ⟨z, rfl⟩
  refine List.Perm.eq_of_pairwise (le := fun a b => dataLe false (fun p : VD => p.2) a b = true) (fun a b ha hb hab hba => ?_) (sort_pairwise T _) (sort_pairwise T _)
    (((List.mergeSort_perm _ _).trans (h.map _)).trans (List.mergeSort_perm _ _).symm)
  obtain ⟨x, rfl⟩ := mem ha
  obtain ⟨y, rfl⟩ := mem hb
  have e1 : (!dataLt (.str y) (.str x)) = true := hab
  have e2 : (!dataLt (.str x) (.str y)) = true := hba
  rw [str_lt_anti (x := x) (y := y) (by simpa using e2) (by simpa using e1)]
theorem sortedBy_perm (an : Str → List Int) (rs : List Str) : (sortedBy an rs).Perm rs := List.mergeSort_perm _ _
/-- of two neighbors the one ahead has no greater answer; if both are equal, it stands ahead -/
theorem sortedBy_adj {an : Str → List Int} {rs : List Str} {i : Nat} {x y : Str} (nd : rs.Nodup) (h1 : (sortedBy an rs)[i]? = some x) (h2 : (sortedBy an rs)[i + 1]? = some y) :
    dataLt (encK (an y)) (encK (an x)) = false ∧ (an x = an y → ixS rs x ≤ ixS rs y) := by
  let le : Str → Str → Bool := dataLe false (intK an)
  have T : TotalLe le := sortLe_total (listOrd itemOrd) false fun z => keyToks (intK an z)
  have e : sortedBy an rs = (rs.zipIdx.mergeSort (List.zipIdxLE le)).map (·.1) := List.mergeSort_zipIdx.symm
  have tr := List.zipIdxLE_trans (le := le) T.trans
  have to := List.zipIdxLE_total (le := le) fun a b => by
    rcases T.total a b with h | h <;> simp [h]
  have pw := List.pairwise_mergeSort tr to rs.zipIdx
  rw [e, List.getElem?_map] at h1 h2
  obtain ⟨p, hp, rfl⟩ := Option.map_eq_some_iff.mp h1
  obtain ⟨q, hq, rfl⟩ := Option.map_eq_some_iff.mp h2
  obtain ⟨l1, e1⟩ := List.getElem?_eq_some_iff.mp hp
  obtain ⟨l2, e2⟩ := List.getElem?_eq_some_iff.mp hq
  have r := List.pairwise_iff_getElem.mp pw i (i + 1) l1 l2 (Nat.lt_succ_self _)
  rw [e1, e2] at r
  have at_ : ∀ {u : Str × Nat}, u ∈ rs.zipIdx.mergeSort (List.zipIdxLE le) → ixS rs u.1 = u.2 := fun {u} hu => by
    have g := List.mem_zipIdx ((List.mergeSort_perm _ _).mem_iff.mp hu)
    refine ixS_nd nd ?_
    rw [g.2.2]
    simp only [Nat.sub_zero]
    exact List.getElem?_eq_getElem (by simpa using g.2.1)
  have ip := at_ (List.mem_of_getElem? hp)
  have iq := at_ (List.mem_of_getElem? hq)
  have r1 := SkL.zle_le r
  have r1' : (!dataLt (encK (an q.1)) (encK (an p.1))) = true := r1
  refine ⟨by simpa using r1', fun ea => ?_⟩
  have r2 : le q.1 p.1 = true := by
    show (!dataLt (encK (an p.1)) (encK (an q.1))) = true
    rw [ea] at r1' ⊢
    exact r1'
  unfold List.zipIdxLE at r
  rw [if_pos r1, if_pos r2] at r
  rw [ip, iq]
  exact of_decide_eq_true r
/-! ### headers -/
def hdD (k : List Int) : PyData := .tuple [.str "group", encK k]
theorem hd_lt (j k : List Int) : dataLt (hdD j) (hdD k) = dataLt (encK j) (encK k) := by
  have al : alike (encK j) (encK k) = true := by simp [alike, alike_ints]
  have e : ∀ k : List Int, keyToks (hdD k) = [Sum.inl 1, Sum.inr ("group" : Str).cps.toList, Sum.inl 1] ++ (keyToks (encK k) ++ [Sum.inl 0]) := fun k => by
    simp [hdD, keyToks, keyToksAll]
  show PyProof.Rows.lexLt itemOrd (keyToks (hdD j)) (keyToks (hdD k)) = PyProof.Rows.lexLt itemOrd (keyToks (encK j)) (keyToks (encK k))
  rw [e, e, lex_pre]
  obtain ⟨t1, t2⟩ := toks_eqv _ _ al
  cases c : PyData.eqv (encK j) (encK k) with
  | true =>
    rw [t1 c]
    have ir : ∀ l, PyProof.Rows.lexLt itemOrd l l = false := fun l => (listOrd itemOrd).irrefl l
    rw [ir, ir]
  | false => exact t2 c _ _
theorem hd_le {α : Type} (f : α → List Int) (a b : α) : dataLe false (fun x => hdD (f x)) a b = dataLe false encK (f a) (f b) := by
  show (!dataLt (hdD (f b)) (hdD (f a))) = (!dataLt (encK (f b)) (encK (f a)))
  rw [hd_lt]
theorem keys_pw (an : Str → List Int) (zs : List Str) : (keysS an zs).Pairwise fun a b => dataLe false encK a b = true := sort_pairwise (sortLe_total (listOrd itemOrd) false fun k => keyToks (encK k)) _
/-- what stands in the order of the answers stays as it is -/
theorem hd_sorted {α : Type} (f : α → List Int) (g : α → PyData) {l : List α} (hg : ∀ a ∈ l, g a = hdD (f a)) {an : Str → List Int} {zs : List Str} (h : l.map f = keysS an zs) : l.mergeSort (dataLe false g) = l := by
  have T := sortLe_total (listOrd itemOrd) false fun a : α => keyToks (g a)
  refine (sort_unique T ?_ fun _ => rfl).symm
  have pw := keys_pw an zs
  rw [← h, List.pairwise_map] at pw
  refine List.Pairwise.imp_of_mem ?_ pw
  intro a b ha hb r
  show (!dataLt (g b) (g a)) = true
  rw [hg a ha, hg b hb, hd_lt]
  exact r
theorem due_keys (an : Str → List Int) (zs : List Str) : (dueG an zs).map (·.1) = keysS an zs := by
  unfold dueG
  rw [List.map_map]
  exact List.map_id _
/-! ### groups -/
theorem one_of {α : Type} [DecidableEq α] {x : α} : ∀ {ks : List α}, ks.Nodup → x ∈ ks → (ks.map fun k => if x = k then 1 else 0).sum = 1
  | k :: ks, nd, h => by
    obtain ⟨n1, n2⟩ := List.nodup_cons.mp nd
    have none_ : ∀ {ls : List α}, x ∉ ls → (ls.map fun k => if x = k then 1 else 0).sum = 0 := by
      intro ls
      induction ls with
      | nil => exact fun _ => rfl
      | cons y ls ih =>
        intro hn
        rw [List.map_cons, List.sum_cons, if_neg fun e => hn (by rw [e]; exact List.mem_cons_self), ih fun e => hn (List.mem_cons_of_mem _ e)]
    rw [List.map_cons, List.sum_cons]
    by_cases e : x = k
    · rw [if_pos e, none_ (by rw [e]; exact n1)]
    · rw [if_neg e, one_of n2 ((List.mem_cons.mp h).resolve_left e)]
theorem sum_add {α : Type} (f g : α → Nat) : ∀ l : List α, (l.map fun a => f a + g a).sum = (l.map f).sum + (l.map g).sum
  | [] => rfl
  | a :: l => by
    rw [List.map_cons, List.map_cons, List.map_cons, List.sum_cons, List.sum_cons, List.sum_cons, sum_add f g l]
    omega
theorem rows_sum {an : Str → List Int} {ks : List (List Int)} (nd : ks.Nodup) : ∀ {zs : List Str}, (∀ z ∈ zs, an z ∈ ks) → (ks.map fun k => (rowsA an zs k).length).sum = zs.length
  | [], _ => by
    have : ∀ l : List (List Int), (l.map fun k => (rowsA an [] k).length).sum = 0 := by
      intro l
      induction l with
      | nil => rfl
      | cons k l ih =>
        rw [List.map_cons, List.sum_cons, ih]
        rfl
    exact this ks
  | z :: zs, h => by
    have ih := rows_sum nd (zs := zs) fun y hy => h y (List.mem_cons_of_mem _ hy)
    have e : ∀ k, (rowsA an (z :: zs) k).length = (if an z = k then 1 else 0) + (rowsA an zs k).length := fun k => by
      unfold rowsA
      rw [List.filter_cons]
      by_cases q : an z = k
      · rw [if_pos (decide_eq_true q), if_pos q, List.length_cons]
        omega
      · rw [if_neg (by simpa using q), if_neg q]
        omega
    rw [List.map_congr_left fun k _ => e k, sum_add, ih, one_of nd (h z List.mem_cons_self), List.length_cons]
    omega
theorem due_sum (an : Str → List Int) (zs : List Str) : ((dueG an zs).map fun g => g.2.length).sum = zs.length := by
  unfold dueG
  rw [List.map_map]
  exact rows_sum (keysS_nd an zs) fun z hz => keysS_mem.mpr ⟨z, hz, rfl⟩
/-! ### the first rows -/
theorem accF_len_keys (an : Str → List Int) : ∀ (zs : List Str) (acc : List (List Int × Str)), (acc.map (·.1)).Nodup →
    ((zs.foldl (addF an) acc).map (·.1)).Nodup ∧ ∀ k, k ∈ (zs.foldl (addF an) acc).map (·.1) ↔ k ∈ acc.map (·.1) ∨ k ∈ zs.map an
  | [], acc, h => ⟨h, fun k => by simp⟩
  | z :: zs, acc, h => by
    have h2 : ((addF an acc z).map (·.1)).Nodup ∧ ∀ k, k ∈ (addF an acc z).map (·.1) ↔ k ∈ acc.map (·.1) ∨ k = an z := by
      unfold addF
      split
      · rename_i hm
        exact ⟨h, fun k => ⟨.inl, fun o => o.elim id fun e => by rw [e]; exact hm⟩⟩
      · rename_i hm
        rw [List.map_append]
        refine ⟨List.nodup_append.mpr ⟨h, by simp, fun a ha b hb => ?_⟩, fun k => by simp⟩
        have eb : b = an z := List.mem_singleton.mp hb
        rw [eb]
        intro e
        exact hm (by rw [← e]; exact ha)
    obtain ⟨i1, i2⟩ := accF_len_keys an zs (addF an acc z) h2.1
    refine ⟨i1, fun k => ?_⟩
    rw [List.foldl_cons, i2 k, h2.2 k, List.map_cons, List.mem_cons]
    constructor
    · rintro ((h | h) | h)
      · exact .inl h
      · exact .inr (.inl h)
      · exact .inr (.inr h)
    · rintro (h | h | h)
      · exact .inl (.inl h)
      · exact .inl (.inr h)
      · exact .inr h
theorem nd_le {α : Type} [DecidableEq α] : ∀ {l m : List α}, l.Nodup → (∀ x ∈ l, x ∈ m) → l.length ≤ m.length
  | [], _, _, _ => Nat.zero_le _
  | x :: l, m, h, s => by
    obtain ⟨h1, h2⟩ := List.nodup_cons.mp h
    have hx := s x List.mem_cons_self
    have := nd_le (m := m.erase x) h2 fun y hy => (List.mem_erase_of_ne fun e => h1 (by rw [← e]; exact hy)).mpr (s y (List.mem_cons_of_mem _ hy))
    rw [List.length_erase_of_mem hx] at this
    have := List.length_pos_of_mem hx
    rw [List.length_cons]
    omega
theorem firsts_len (an : Str → List Int) (zs : List Str) : (firstsOf an zs).length = (keysS an zs).length := by
  obtain ⟨n1, m1⟩ := accF_len_keys an zs [] List.nodup_nil
  have e : (firstsOf an zs).length = ((accF an zs).map (·.1)).length := by
    unfold firstsOf
    rw [List.length_map, List.length_map]
  have mem : ∀ k, k ∈ (accF an zs).map (·.1) ↔ k ∈ keysS an zs := fun k => by
    rw [keysS_mem]
    refine (m1 k).trans ?_
    constructor
    · rintro (h | h)
      · exact nomatch h
      · obtain ⟨z, hz, e⟩ := List.mem_map.mp h
        exact ⟨z, hz, e⟩
    · rintro ⟨z, hz, e⟩
      exact .inr (List.mem_map.mpr ⟨z, hz, e⟩)
  rw [e]
  exact Nat.le_antisymm (nd_le n1 fun k hk => (mem k).mp hk) (nd_le (keysS_nd an zs) fun k hk => (mem k).mpr hk)
theorem snoc_ind {α : Type} {C : List α → Prop} (h0 : C []) (hs : ∀ l a, C l → C (l ++ [a])) : ∀ l, C l := by
  have : ∀ (more pre : List α), C pre → C (pre ++ more) := by
    intro more
    induction more with
    | nil => intro pre h; rw [List.append_nil]; exact h
    | cons a more ih =>
      intro pre h
      have := ih (pre ++ [a]) (hs pre a h)
      rw [List.append_assoc] at this
      exact this
  intro l
  exact this l [] h0
theorem firsts_sub (an : Str → List Int) : ∀ zs : List Str, (firstsOf an zs).Sublist zs := by
  refine snoc_ind (.slnil) fun l a ih => ?_
  unfold firstsOf at *
  rw [accF_snoc]
  unfold addF
  split
  · exact ih.trans (List.sublist_append_left _ _)
  · rw [List.map_append]
    exact List.Sublist.append ih (.refl _)
theorem firsts_head (an : Str → List Int) : ∀ zs : List Str, ∀ p ∈ accF an zs, ∃ r, rowsA an zs p.1 = p.2 :: r := by
  refine snoc_ind (fun p h => nomatch h) fun l a ih => ?_
  rw [accF_snoc]
  intro p hp
  rw [rowsA_snoc]
  have old : ∀ p ∈ accF an l, ∃ r, (if an a = p.1 then rowsA an l p.1 ++ [a] else rowsA an l p.1) = p.2 :: r := fun p hp => by
    obtain ⟨r, e⟩ := ih p hp
    rw [e]
    split
    · exact ⟨r ++ [a], rfl⟩
    · exact ⟨r, rfl⟩
  unfold addF at hp
  split at hp
  · exact old p hp
  · rename_i hn
    rcases List.mem_append.mp hp with hp | hp
    · exact old p hp
    · rw [List.mem_singleton.mp hp]
      show ∃ r, (if an a = an a then rowsA an l (an a) ++ [a] else rowsA an l (an a)) = a :: r
      rw [if_pos rfl]
      have : rowsA an l (an a) = [] := List.filter_eq_nil_iff.mpr fun y hy q => by
        refine hn ?_
        have m := (accF_len_keys an l [] List.nodup_nil).2 (an a)
        exact m.mpr (.inr (List.mem_map.mpr ⟨y, hy, of_decide_eq_true q⟩))
      rw [this]
      exact ⟨[], rfl⟩
theorem firsts_in {an : Str → List Int} {zs : List Str} {k : List Int} (h : k ∈ keysS an zs) : ∃ z r, rowsA an zs k = z :: r ∧ z ∈ firstsOf an zs := by
  obtain ⟨y, hy, e⟩ := keysS_mem.mp h
  have m := ((accF_len_keys an zs [] List.nodup_nil).2 k).mpr (.inr (List.mem_map.mpr ⟨y, hy, e⟩))
  obtain ⟨p, hp, ep⟩ := List.mem_map.mp m
  obtain ⟨r, er⟩ := firsts_head an zs p hp
  rw [ep] at er
  exact ⟨p.2, r, er, List.mem_map.mpr ⟨p, hp, rfl⟩⟩
/-! ### other names -/
theorem sorted_map {an an' : Str → List Int} {zs : List Str} (f : Str → Str) (h : ∀ z ∈ zs, an' (f z) = an z) : sortedBy an' (zs.map f) = (sortedBy an zs).map f := by
  unfold sortedBy
  refine (sort_maps f fun a ha b hb => ?_).symm
  show (!dataLt (encK (an b)) (encK (an a))) = (!dataLt (encK (an' (f b))) (encK (an' (f a))))
  rw [h a ha, h b hb]
theorem firsts_map {an an' : Str → List Int} (f : Str → Str) : ∀ zs : List Str, (∀ z ∈ zs, an' (f z) = an z) → accF an' (zs.map f) = (accF an zs).map fun p => (p.1, f p.2) := by
  refine snoc_ind (fun _ => rfl) fun l a ih h => ?_
  have ih := ih fun z hz => h z (List.mem_append_left _ hz)
  have ha := h a (List.mem_append_right _ List.mem_cons_self)
  rw [List.map_append]
  show accF an' (l.map f ++ [f a]) = _
  rw [accF_snoc, accF_snoc, ih]
  unfold addF
  have e : ((accF an l).map fun p => (p.1, f p.2)).map (·.1) = (accF an l).map (·.1) := by
    rw [List.map_map]
    rfl
  rw [e, ha]
  split
  · rfl
  · rw [List.map_append]
    rfl
end G
set_option Elab.async false
set_option linter.all false
set_option maxRecDepth 100000
set_option maxHeartbeats 8000000
/-! KI: _law_in_order, _law_ordered_right. -/
namespace G
open PySem PySem.Spec PyProof.Rows L2 NdefX DvT StX SkL LamX PySem.W
abbrev sInO : Stmt := topS 34
abbrev nInO : List Str := ["_law_some", "_law_rows", "_law_places", "_law_row", "_law_k"]
theorem scInO : FnScope nInO ["_law_some", "_law_rows"] (defScope sInO) := ⟨rfl, rfl, rfl, by decide +kernel, rfl, by decide +kernel, by decide +kernel⟩
def spInO (K : PySem.W.Frag) : Sp := fun vs H Q _ => ∃ (l r : Addr) (zs rs : List Str), vs = [.ref l, .ref r] ∧ SqL K H l (zs.map V.str) ∧ SqL K H r (rs.map V.str) ∧ zs.Sublist rs ∧ rs.Nodup ∧ rs.length ≤ 100 ∧ ∀ H', Same H H' → Q (.bl true) H'
abbrev sOrR : Stmt := topS 35
abbrev nOrR : List Str := ["_law_rows", "_law_answers", "_law_found", "_law_one", "_law_other", "_law_least", "_law_next_one"]
theorem scOrR : FnScope nOrR ["_law_rows", "_law_answers"] (defScope sOrR) := ⟨rfl, rfl, rfl, by decide +kernel, rfl, by decide +kernel, by decide +kernel⟩
def spOrR (T : List (Addr × Str)) : Sp := fun vs H Q _ => ∃ (l d : Addr) (zs : List Str) (kvs : List (Key × V)) (an : Str → List Int), vs = [.ref l, .ref d] ∧ H l = some (.lst (zs.map V.str)) ∧ RowsOk zs ∧ AnsOf H d kvs zs an ∧ Tabs T H ∧ ∀ H', ExtN H H' → Tabs T H' → Q (.bl true) H'
theorem eqv_nilK : PyData.eqv (.list []) (.list []) = true := by simp [PyData.eqv, PyData.eqvAll]
theorem nil_shaped : SeqAt.shaped (.list []) = true := by
  show (PyData.canLay0 (.list []) && decide (PyData.depth (.list []) ≤ 64)) = true
  simp [PyData.canLay0, PyData.canLayAll0, PyData.depth, PyData.depthAll]
theorem cutV_fromR (xs : List V) (k : Nat) (h : k ≤ xs.length) : cutV xs (some (k : Int)) none = xs.drop k := by
  unfold cutV
  rw [HT.sIx_none, HT.sIx_nat, Nat.min_eq_left h, List.take_of_length_le]
  rw [List.length_drop]
  exact Nat.le_refl _
theorem cutV_from1 (xs : List V) : cutV xs (some (1 : Int)) none = xs.drop 1 := by
  cases xs with
  | nil => simp [cutV]
  | cons x xs => exact cutV_fromR (x :: xs) 1 (Nat.succ_le_succ (Nat.zero_le _))
theorem AnsOf.ext {H H' : Hp} {d : Addr} {kvs : List (Key × V)} {zs : List Str} {an : Str → List Int} (h : AnsOf H d kvs zs an) (x : ExtN H H') : AnsOf H' d kvs zs an :=
  by
  refine ⟨x _ _ h.d (fun _ z => nomatch z), fun z hz => ?_⟩
  obtain ⟨v, e, a⟩ := h.is z hz
  exact ⟨v, e, a.at fun a xs e => x _ _ e fun _ z => nomatch z⟩
theorem dp_strs {K : PySem.W.Frag} {H : Hp} : ∀ zs : List Str, DpAll K H (zs.map V.str) (zs.map PyData.str)
  | [] => .nil
  | z :: zs => .cons (.str z) (dp_strs zs)
theorem name_strOk {z : Str} (h : NameZ z) : PyData.strOk z = true := by
  unfold PyData.strOk
  rw [Array.all_eq_true]
  intro i hi
  have := h.1 _ (show z.cps[i] ∈ z.cps.toList from Array.mem_toList_iff.mpr (Array.getElem_mem hi))
  exact decide_eq_true (Nat.lt_of_le_of_lt this.2 (by decide))
theorem strs_lay : ∀ {zs : List Str}, (∀ z ∈ zs, NameZ z) → PyData.canLayAll0 (zs.map PyData.str) = true
  | [], _ => by simp [PyData.canLayAll0]
  | z :: zs, h => by simp [PyData.canLayAll0, PyData.canLay0, strs_lay fun y hy => h y (List.mem_cons_of_mem _ hy), name_strOk (h z List.mem_cons_self)]
theorem strs_depth : ∀ zs : List Str, PyData.depthAll (zs.map PyData.str) = 0
  | [] => by simp [PyData.depthAll]
  | z :: zs => by simp [PyData.depthAll, PyData.depth, strs_depth zs]
theorem strs_shaped {zs : List Str} (h : ∀ z ∈ zs, NameZ z) : SeqAt.shaped (.list (zs.map PyData.str)) = true := by
  show (PyData.canLay0 (.list (zs.map PyData.str)) && decide (PyData.depth (.list (zs.map PyData.str)) ≤ 64)) = true
  rw [Bool.and_eq_true]
  refine ⟨by simp only [PyData.canLay0]; exact strs_lay h, decide_eq_true ?_⟩
  simp only [PyData.depth, strs_depth]
  decide
theorem sortVD_strs (zs : List Str) : ∃ ws : List Str, sortVD (strVD zs) = strVD ws ∧ ws.Perm zs := by
  refine ⟨zs.mergeSort fun a b => !dataLt (.str b) (.str a), ?_, List.mergeSort_perm _ _⟩
  unfold strVD
  exact (sort_maps (fun z => (V.str z, PyData.str z)) fun a _ b _ => rfl).symm
theorem strVD_1 (zs : List Str) : (strVD zs).map (·.1) = zs.map V.str := by
  rw [List.map_map]
  rfl
theorem strVD_2 (zs : List Str) : (strVD zs).map (·.2) = zs.map PyData.str := by
  rw [List.map_map]
  rfl
/-- sorted of rows -/
theorem rSorted_strs {K : PySem.W.Frag} {H : Hp} {a : Addr} {zs ws : List Str} {Q : VK} (hs : SqL K H a (zs.map V.str)) (hl : zs.length ≤ 100) (e : sortVD (strVD zs) = strVD ws) (q : ∀ p, H p = none → Q (.ref p) (upd H p (.lst (ws.map V.str)))) : rSortedVD K [.ref a] H Q := by
  refine ⟨a, strVD zs, rfl, by rw [strVD_1]; exact hs, fun p hp => ?_, ?_, .inr fun d hd => ?_, ?_, fun p hp => ?_⟩
  · obtain ⟨z, _, rfl⟩ := List.mem_map.mp hp
    exact ⟨.str z, by show PyData.depth (.str z) ≤ 4; simp [PyData.depth]⟩
  · rw [strVD_2]
    exact AllAlike.of fun _ _ => by simp [alike]
  · rw [strVD_2] at hd
    obtain ⟨z, _, rfl⟩ := List.mem_map.mp hd
    exact ⟨(fun h => nomatch h), fun xs h => nomatch h⟩
  · rw [List.length_map]
    exact Nat.le_of_lt (small1000 (by omega))
  · rw [e, strVD_1]
    exact q p hp
section
variable {P : Program} {w : World} {K : PySem.W.Frag} {mg : Str → Option Value} {base : Heap}
theorem ok_inO {f : Addr} {fd : FuncData} (F : Fun K "_law_in_order" "_law_in_order" sInO f fd) (ml : mg "len" = none) (mr : mg "range" = none) : FnOk P w K mg base CX0 1 f fd ["_law_some", "_law_rows"] (spInO K) := by
  refine F.ok scInO (fun vs H Q E h => ?_) (fun cdv A outer s H vs Q E hr h => ?_)
  · obtain ⟨l, r, zs, rs, rfl, _⟩ := h
    rfl
  · obtain ⟨l, r, zs, rs, rfl, hl, hr', sub, nd, few, q⟩ := h
    have hu64 : (A.deeper (envOfC "_law_in_order" (defScope sInO) s.heap.objs.size f cdv)).units + 64 < cLine := hr.units
    have lz : zs.length ≤ rs.length := sub.length_le
    refine ⟨_, pss_cons (ps_set (i := 2) scInO.nd rfl (.inr rfl) (pe_lc (own := [("_law_row", 3)]) (g := gName 3) (tt := tYes) (te := tBM K "list" (rIndex K) (tVar 1) (tCons (tVar 3) tNil)) (by rfl) scInO.nd (pi_list (pv 0)) (blkOk_by (own := [("_law_row", 3)]) (N := nInO) (sc := defScope sInO) (by decide +kernel)) (fun _ _ _ _ _ => pg_name (i := 3) scInO.nd rfl (.inl rfl)) (fun _ _ _ _ _ => pts_nil)
          (fun _ _ _ _ _ => by exact pe_bm PySem.F.plainAttrs_list PySem.F.slot_list_index PySem.F.type_list_index mt_index (pv 1) (pa_cons (pv 3) pa_nil))))
      (pss_one (ps_ret (pe_cmpR (r := rEqD K) (op_eqD (by exact hu64)) (pe_lc (own := [("_law_k", 4)]) (g := gName 4) (by rfl) scInO.nd (pi_range1 rfl mr (pa_cons (pe_op op_sub (pe_callB call_len_seq (by rfl) ml PySem.boot_len (pa_cons (pv 2) pa_nil)) pe_int) pa_nil)) (blkOk_by (own := [("_law_k", 4)]) (N := nInO) (sc := defScope sInO) (by decide +kernel)) (fun _ _ _ _ _ => pg_name (i := 4) scInO.nd rfl (.inl rfl))
          (fun _ _ _ _ _ => pts_one (pt_cmpR op_ge (pe_ix (r := rIxL K) ix_list (pv 2) (pv 4) (fun _ _ => rfl)) (pe_ix (r := rIxL K) ix_list (pv 2) (pe_op op_add (pv 4) pe_int) (fun _ _ => rfl)) (nomark _))) (fun _ _ _ _ _ => pv 4)) (pe_lst pa_nil) (nomark _)))), ?_⟩
    refine ⟨_, rfl, l, rfl, ⟨_, hl⟩, fun D hD => ?_⟩
    refine lc_list (xs := zs.map V.str) (fun i H2 => Same H H2 ∧ H2 D = some (.lst ((zs.take i).map fun z => V.int (ixS rs z : Nat)))) ?_ ?_ ?_ ?_
    · exact ⟨Same.new hD, upd_same⟩
    · exact fun i H2 _ h => sqL_keep h.1 hl
    · rintro i x H2 hx ⟨s2, e2⟩
      rw [List.getElem?_map] at hx
      obtain ⟨z, hz, rfl⟩ := Option.map_eq_some_iff.mp hx
      refine ⟨rfl, ?_⟩
      unfold tYes
      dsimp only
      rw [if_pos rfl]
      refine ⟨_, rfl, .inl ⟨rfl, _, sqL_keep s2 hr'⟩, _, rfl, ?_⟩
      dsimp only [tNil]
      refine rIndex_str (sqL_keep s2 hr') (sub.subset (List.mem_of_getElem? hz)) ?_
      refine ⟨_, e2, ?_, fun c o e => (upd_ne (ne_of_none e hD)).trans (s2 _ _ e), ?_⟩
      · rw [List.length_map, List.length_take]
        exact small1000 (by omega)
      · rw [upd_same, take_snoc hz, List.map_append]
        rfl
    · rintro H2 ⟨s2, e2⟩
      rw [List.length_map, List.take_length] at e2
      have pw := ixS_sub sub nd
      refine ⟨_, rfl, D, _, rfl, .inl (.of e2), _, _, rfl, rfl, (((zs.map fun z => V.int (ixS rs z : Nat)).length : Int) - 1), rfl, ?_, ?_, fun D2 hD2 => ?_⟩
      · rw [List.length_map]
        omega
      · rw [List.length_map]
        omega
      refine lc_range (lo := 0) (n := (((zs.map fun z => V.int (ixS rs z : Nat)).length : Int) - 1).toNat) (fun i H3 => Same H2 H3 ∧ H3 D2 = some (.lst [])) ?_ ?_ ?_
      · exact ⟨Same.new hD2, upd_same⟩
      · rintro i H3 hi ⟨s3, e3⟩
        rw [List.length_map] at hi
        have h1 : i + 1 < zs.length := by omega
        have h0 : i < zs.length := by omega
        refine ⟨rfl, ?_⟩
        refine ⟨_, rfl, _, rfl, D, _, _, .int (ixS rs zs[i] : Nat), rfl, rfl, .of (s3 _ _ e2), ?_, _, rfl, _, rfl, _, _, rfl, rfl, D, _, _, .int (ixS rs zs[i + 1] : Nat), rfl, rfl, .of (s3 _ _ e2), ?_, _, _, rfl, rfl, _, rfl, ite2 (fun c => ?_) (fun _ => ⟨s3, e3⟩)⟩
        · rw [show (0 + (i : Int)) = ((i : Nat) : Int) from Int.zero_add _]
          exact atI_nat (by rw [List.getElem?_map, List.getElem?_eq_getElem h0]; rfl)
        · rw [show (0 + (i : Int) + 1) = ((i + 1 : Nat) : Int) from by omega]
          exact atI_nat (by rw [List.getElem?_map, List.getElem?_eq_getElem h1]; rfl)
        · have c' := of_decide_eq_true c
          have lt := List.pairwise_iff_getElem.mp pw i (i + 1) (by rw [List.length_map]; exact h0) (by rw [List.length_map]; exact h1) (Nat.lt_succ_self _)
          rw [List.getElem_map, List.getElem_map] at lt
          omega
      · rintro H3 ⟨s3, e3⟩
        refine ⟨Nat.zero_le _, fun t ht => ?_⟩
        have s4 := Same.new (o := .lst []) ht
        refine ⟨.list [], .list [], .lst (.of (s4 _ _ e3)) .nil, .lst (.of upd_same) .nil, nil_shaped, nil_shaped, ?_⟩
        rw [eqv_nilK]
        exact q _ ((s2.trans s3).trans s4)
theorem ok_orR {f fO fF : Addr} {fd fdO fdF : FuncData} {T : List (Addr × Str)} (F : Fun K "_law_ordered_right" "_law_ordered_right" sOrR f fd)
    (GO : FnOk P w K mg base CX0 6 fO fdO ["rows", "answers"] (spOrd K T)) (gO : mg "ordered" = some (.ref fO)) (kO : PySem.W.keepIn K (.ref fO) = true) (bO : Binds K fdO ["rows", "answers"] [])
    (GF : FnOk P w K mg base CX0 1 fF fdF ["_law_answer"] (spFullL K)) (gF : mg "_law_full" = some (.ref fF)) (kF : PySem.W.keepIn K (.ref fF) = true) (bF : Binds K fdF ["_law_answer"] [])
    (mS : mg "sorted" = none) (mz : mg "zip" = none) : FnOk P w K mg base CX0 7 f fd ["_law_rows", "_law_answers"] (spOrR T) := by
  refine F.ok scOrR (fun vs H Q E h => ?_) (fun cdv A outer s H vs Q E hr h => ?_)
  · obtain ⟨l, d, zs, kvs, an, rfl, _⟩ := h
    rfl
  · obtain ⟨l, d, zs, kvs, an, rfl, el, ro, ha, hT, q⟩ := h
    have hr1 := hr.mono (show 1 ≤ 6 by decide)
    have hu64 : (A.deeper (envOfC "_law_ordered_right" (defScope sOrR) s.heap.objs.size f cdv)).units + 64 < cLine := hr.units
    have hu16 : (A.deeper (envOfC "_law_ordered_right" (defScope sOrR) s.heap.objs.size f cdv)).units + 16 < cLine := by omega
    have hu4 : (A.deeper (envOfC "_law_ordered_right" (defScope sOrR) s.heap.objs.size f cdv)).units + 4 < cLine := by omega
    have hu1 : (A.deeper (envOfC "_law_ordered_right" (defScope sOrR) s.heap.objs.size f cdv)).units + 1 < cLine := by omega
    have few := ro.few
    refine ⟨_, pss_cons (ps_set (i := 2) scOrR.nd rfl (.inl rfl) (pe_call GO hr rfl gO kO bO .nil pass0 (pa_cons (pv 0) (pa_cons (pv 1) pa_nil))))
      (pss_cons (ps_if (pt_cmpR (r := rNeD K) (op_neD (by exact hu64)) (pe_callB (cr_sortedVD (by exact hu16)) (by rfl) mS (by decide +kernel) (pa_cons (pv 2) pa_nil)) (pe_callB (cr_sortedVD (by exact hu16)) (by rfl) mS (by decide +kernel) (pa_cons (pv 0) pa_nil)) (nomark _)) (pss_one ps_never) pss_nil)
      (pss_cons (ps_for PassesOwn.never rfl (pi_zip (by rfl) mz (pa_cons (pv 2) (pa_cons (pe_slice (r := rSlL K) sl_list (pv 2) (po_some pe_int) po_none) pa_nil))) (pg_tup (by rfl) (pgs_cons (pg_name (i := 3) scOrR.nd rfl (.inl rfl)) (pgs_cons (pg_name (i := 4) scOrR.nd rfl (.inl rfl)) pgs_nil)))
        (pss_cons (ps_par (i := 5) (j := 6) (by rfl) scOrR.nd rfl rfl (by decide) rfl rfl (pa_cons (pe_call GF hr1 rfl gF kF bF .nil pass0 (pa_cons (pe_dget hu1 (pv 1) (pv 3) (fun _ _ => rfl)) pa_nil)) (pa_cons (pe_call GF hr1 rfl gF kF bF .nil pass0 (pa_cons (pe_dget hu1 (pv 1) (pv 4) (fun _ _ => rfl)) pa_nil)) pa_nil)) (by rfl))
        (pss_one (ps_if (PW.pt (pw_or (pt_cmpR (op_gtI (by exact hu4)) (pv 5) (pv 6) (nomark _)) (pw_or1 (PW.pt (pw_and (pt_cmpR (r := rEqD K) (op_eqD (by exact hu64)) (pv 5) (pv 6) (nomark _)) (pw_and1 (pt_cmpR op_gt
            (pe_bm PySem.F.plainAttrs_list PySem.F.slot_list_index PySem.F.type_list_index mt_index (pv 0) (pa_cons (pv 3) pa_nil)) (pe_bm PySem.F.plainAttrs_list PySem.F.slot_list_index PySem.F.type_list_index mt_index (pv 0) (pa_cons (pv 4) pa_nil)) (nomark _)))))))) (pss_one ps_never) pss_nil))))
      (pss_one (ps_ret pe_bl)))), ?_⟩
    refine ⟨_, rfl, _, rfl, l, d, zs, kvs, an, rfl, .inl (.of el), ro, ha, hT, fun p H1 x1 T1 np => ?_⟩
    have t1 := Same.new (o := .lst ((sortedBy an zs).map V.str)) np
    have ep : (upd H1 p (.lst ((sortedBy an zs).map V.str))) p = some (.lst ((sortedBy an zs).map V.str)) := upd_same
    have x2 := x1.trans (ExtN.of t1)
    have T2 := T1.ext t1
    generalize upd H1 p (.lst ((sortedBy an zs).map V.str)) = H2 at ep x2 T2 ⊢
    have el2 : H2 l = some (.lst (zs.map V.str)) := x2 _ _ el fun _ z => nomatch z
    have ha2 := ha.ext x2
    have pm := sortedBy_perm an zs
    have lsb : (sortedBy an zs).length = zs.length := pm.length_eq
    obtain ⟨ws, ew, pw⟩ := sortVD_strs zs
    have wn : ∀ z ∈ ws, NameZ z := fun z hz => ro.nm z (pw.mem_iff.mp hz)
    have lw : ws.length = zs.length := by
      have := congrArg List.length ew
      rw [List.length_mergeSort, List.length_map, List.length_map] at this
      exact this.symm
    refine ⟨_, rfl, ?_⟩
    dsimp only [tNil]
    refine rSorted_strs (.of ep) (by omega) ((sort_perm pm).trans ew) fun p3 np3 => ?_
    have t3 := Same.new (o := .lst (ws.map V.str)) np3
    refine ⟨_, rfl, ?_⟩
    dsimp only [tNil]
    refine rSorted_strs (.of (t3 _ _ el2)) (by omega) ew fun p4 np4 => ?_
    have t4 := Same.new (o := .lst (ws.map V.str)) np4
    refine ⟨.list (ws.map PyData.str), .list (ws.map PyData.str), .lst (.of (t4 _ _ upd_same)) (dp_strs ws), .lst (.of upd_same) (dp_strs ws), strs_shaped wn, strs_shaped wn, _, rfl, ?_⟩
    rw [SeqAt.eqv_refl _ (SeqAt.canLay_of_shaped (strs_shaped wn))]
    refine iteF ?_
    have s24 := t3.trans t4
    generalize upd (upd H2 p3 (.lst (ws.map V.str))) p4 (.lst (ws.map V.str)) = H4 at s24 ⊢
    have ep4 := s24 _ _ ep
    have el4 := s24 _ _ el2
    have ha4 := ha2.same s24
    have x4 := x2.trans (ExtN.of s24)
    have T4 := T2.ext s24
    refine ⟨_, rfl, _, rfl, _, rfl, p, _, rfl, .of ep4, fun c hc => ?_⟩
    rw [cutV_from1, ← List.map_drop]
    have t5 := Same.new (o := .lst (((sortedBy an zs).drop 1).map V.str)) hc
    have ec : (upd H4 c (.lst (((sortedBy an zs).drop 1).map V.str))) c = some (.lst (((sortedBy an zs).drop 1).map V.str)) := upd_same
    generalize upd H4 c (.lst (((sortedBy an zs).drop 1).map V.str)) = H5 at t5 ec ⊢
    have ep5 := t5 _ _ ep4
    have el5 := t5 _ _ el4
    have ha5 := ha4.same t5
    have x5 := x4.trans (ExtN.of t5)
    have T5 := T4.ext t5
    refine ⟨p, c, _, _, rfl, .of ep5, .of ec, ?_⟩
    refine for_it (walk_zip (xs := (sortedBy an zs).map V.str) (ys := ((sortedBy an zs).drop 1).map V.str) rfl) (fun i σ H6 => Same H5 H6 ∧ ∃ x3 x4 x5 x6 : Option V, σ = [some (.ref l), some (.ref d), some (.ref p), x3, x4, x5, x6]) ?_ ?_ ?_ ?_
    · exact ⟨.refl _, _, _, _, _, rfl⟩
    · exact fun i σ H6 _ h => ⟨.of (h.1 _ _ ep5), .of (h.1 _ _ ec)⟩
    · rintro i v σ H6 H7 hi ⟨s6, x3, x4, x5, x6, rfl⟩ ⟨T0, x, y, rfl, hT0, rfl, ex, ey⟩
      have ex : ((sortedBy an zs).map V.str)[i]? = some x := ex
      have ey : (((sortedBy an zs).drop 1).map V.str)[i]? = some y := ey
      rw [List.getElem?_map] at ex ey
      obtain ⟨a, hea, rfl⟩ := Option.map_eq_some_iff.mp ex
      obtain ⟨b, heb, rfl⟩ := Option.map_eq_some_iff.mp ey
      rw [List.getElem?_drop, Nat.add_comm] at heb
      have ma : a ∈ zs := pm.mem_iff.mp (List.mem_of_getElem? hea)
      have mb : b ∈ zs := pm.mem_iff.mp (List.mem_of_getElem? heb)
      obtain ⟨adj1, adj2⟩ := sortedBy_adj ro.nd hea heb
      have t7 := Same.new (o := .tup [.str a, .str b]) hT0
      have eT0 : (upd H6 T0 (.tup [.str a, .str b])) T0 = some (.tup [.str a, .str b]) := upd_same
      have s7 := s6.trans t7
      generalize upd H6 T0 (.tup [.str a, .str b]) = H7 at eT0 s7 ⊢
      have ha7 := ha5.same s7
      obtain ⟨va, ea1, ea2⟩ := ha7.is a ma
      obtain ⟨vb, eb1, _⟩ := ha7.is b mb
      have ga := DGet.k (k := Sum.inr a) ha7.d
      rw [ea1] at ga
      refine ⟨T0, _, rfl, .of eT0, rfl, _, _, rfl, _, _, rfl, rfl, ?_⟩
      refine ⟨_, rfl, _, rfl, d, _, rfl, ga, va, an a, rfl, ea2, fun Ta H8 s8 eTa => ?_⟩
      have ha8 := ha7.same s8
      have gb := DGet.k (k := Sum.inr b) ha8.d
      rw [eb1] at gb
      obtain ⟨vb', eb1', eb2'⟩ := ha8.is b mb
      obtain rfl : vb = vb' := Option.some.inj (eb1.symm.trans eb1')
      refine ⟨_, rfl, _, rfl, d, _, rfl, gb, vb, an b, rfl, eb2', fun Tb H9 s9 eTb => ⟨_, _, rfl, ?_⟩⟩
      have eTa9 := s9 _ _ eTa
      have s59 := s7.trans (s8.trans s9)
      refine ⟨_, rfl, _, rfl, Ta, Tb, an a, an b, rfl, rfl, eTa9, eTb, _, rfl, ?_⟩
      rw [show dataLt (.tuple ((an b).map .int)) (.tuple ((an a).map .int)) = false from adj1]
      refine iteF ?_
      have laid : ∀ k : List Int, (encK k).canLay0 = true := fun k => by
        have : ∀ ns : List Int, PyData.canLayAll0 (ns.map PyData.int) = true := fun ns => by
          induction ns with
          | nil => simp [PyData.canLayAll0]
          | cons n ns ih => simp [PyData.canLayAll0, PyData.canLay0, ih]
        simp [PyData.canLay0, this]
      have shp : ∀ k : List Int, SeqAt.shaped (encK k) = true := fun k => by
        show ((encK k).canLay0 && decide ((encK k).depth ≤ 64)) = true
        rw [Bool.and_eq_true]
        refine ⟨laid k, decide_eq_true ?_⟩
        simp [PyData.depth, depth_ints]
      refine ⟨_, rfl, _, rfl, encK (an a), encK (an b), .tup (.of eTa9) (dp_ints _), .tup (.of eTb) (dp_ints _), shp _, shp _, _, rfl, ?_⟩
      refine ite2 (fun c => ?_) (fun _ => by refine iteF ?_; exact ⟨s59, _, _, _, _, rfl⟩)
      have eab : an a = an b := by
        have inj : ∀ ns ms : List Int, PyData.eqvAll (ns.map PyData.int) (ms.map PyData.int) = true → ns = ms := fun ns => by
          induction ns with
          | nil =>
            intro ms h
            cases ms with
            | nil => rfl
            | cons m ms => simp [PyData.eqvAll] at h
          | cons n ns ih =>
            intro ms h
            cases ms with
            | nil => simp [PyData.eqvAll] at h
            | cons m ms =>
              simp only [List.map_cons, PyData.eqvAll, PyData.eqv, Bool.and_eq_true] at h
              rw [ih ms h.2, (of_decide_eq_true (by simpa using h.1) : n = m)]
        have c2 : PyData.eqv (.tuple ((an a).map PyData.int)) (.tuple ((an b).map PyData.int)) = true := c
        simp only [PyData.eqv] at c2
        exact inj _ _ c2
      have le := adj2 eab
      have el9 := s59 _ _ el5
      refine ⟨_, rfl, .inl ⟨rfl, _, .of el9⟩, _, rfl, ?_⟩
      dsimp only [tNil]
      refine rIndex_str (.of el9) ma ?_
      refine ⟨_, rfl, .inl ⟨rfl, _, .of el9⟩, _, rfl, ?_⟩
      dsimp only [tNil]
      refine rIndex_str (.of el9) mb ?_
      refine ⟨_, _, rfl, rfl, _, rfl, ite2 (fun c3 => ?_) (fun _ => by exact ⟨s59, _, _, _, _, rfl⟩)⟩
      have := of_decide_eq_true c3
      omega
    · rintro σ H6 ⟨s6, x3, x4, x5', x6, rfl⟩
      exact q H6 (x5.trans (ExtN.of s6)) (T5.ext s6)
end
end G
set_option Elab.async false
set_option linter.all false
set_option maxRecDepth 100000
set_option maxHeartbeats 8000000
/-! KW: the list of rows and headers, as data. -/
namespace G
open PySem PySem.Spec PyProof.Rows L2 NdefX DvT StX SkL LamX PySem.W
def wlD (gs : List Grp) : List PyData := gs.flatMap fun g => hdD g.1 :: g.2.map .str
theorem dp_strs' {K : PySem.W.Frag} {H : Hp} : ∀ zs : List Str, DpAll K H (zs.map V.str) (zs.map PyData.str)
  | [] => .nil
  | z :: zs => .cons (.str z) (dp_strs' zs)
theorem dpAll_app {K : PySem.W.Frag} {H : Hp} : ∀ {vs ws : List V} {ds es : List PyData}, DpAll K H vs ds → DpAll K H ws es → DpAll K H (vs ++ ws) (ds ++ es)
  | _, _, _, _, .nil, h => h
  | _, _, _, _, .cons a t, h => .cons a (dpAll_app t h)
theorem dp_wl {K : PySem.W.Frag} {H : Hp} : ∀ {ys : List Hd}, HdsAt H ys → DpAll K H (wlV ys) (wlD (ys.map (·.2.2)))
  | [], _ => .nil
  | y :: ys, h => by
    obtain ⟨h1, h2⟩ := h.hd y List.mem_cons_self
    have ih := dp_wl (K := K) (ys := ys) ⟨fun z hz => h.hd z (List.mem_cons_of_mem _ hz)⟩
    exact .cons (.tup (.of h1) (.cons (.str _) (.cons (.tup (.of h2) (dp_ints _)) .nil))) (dpAll_app (dp_strs' _) ih)
theorem lay_ints (k : List Int) : PyData.canLayAll0 (k.map PyData.int) = true := by
  induction k with
  | nil => simp [PyData.canLayAll0]
  | cons a k ih => simp [PyData.canLayAll0, PyData.canLay0, ih]
theorem lay_strs {k : List Str} (h : ∀ z ∈ k, NameZ z) : PyData.canLayAll0 (k.map PyData.str) = true := by
  induction k with
  | nil => simp [PyData.canLayAll0]
  | cons a k ih => simp [PyData.canLayAll0, PyData.canLay0, ih fun z hz => h z (List.mem_cons_of_mem _ hz), name_strOk (h a List.mem_cons_self)]
theorem lay_app : ∀ xs ys : List PyData, PyData.canLayAll0 (xs ++ ys) = (PyData.canLayAll0 xs && PyData.canLayAll0 ys)
  | [], ys => by simp [PyData.canLayAll0]
  | x :: xs, ys => by simp [PyData.canLayAll0, lay_app xs ys, Bool.and_assoc]
theorem depth_app : ∀ xs ys : List PyData, PyData.depthAll (xs ++ ys) = max (PyData.depthAll xs) (PyData.depthAll ys)
  | [], ys => by simp [PyData.depthAll]
  | x :: xs, ys => by simp [PyData.depthAll, depth_app xs ys, Nat.max_assoc]
theorem depth_strs (k : List Str) : PyData.depthAll (k.map PyData.str) = 0 := by
  induction k with
  | nil => simp [PyData.depthAll]
  | cons a k ih => simp [PyData.depthAll, PyData.depth, ih]
theorem wlD_ok : ∀ gs : List Grp, (∀ g ∈ gs, ∀ z ∈ g.2, NameZ z) → PyData.canLayAll0 (wlD gs) = true ∧ PyData.depthAll (wlD gs) ≤ 2
  | [], _ => by simp [wlD, PyData.canLayAll0, PyData.depthAll]
  | g :: gs, h => by
    obtain ⟨h1, h2⟩ := wlD_ok gs fun x hx => h x (List.mem_cons_of_mem _ hx)
    have e : wlD (g :: gs) = [hdD g.1] ++ (g.2.map .str ++ wlD gs) := rfl
    rw [e]
    constructor
    · rw [lay_app, lay_app, h1, lay_strs (h g List.mem_cons_self)]
      have e2 : PyData.strOk (Str.ofString "group") = true := by decide +kernel
      simp [PyData.canLayAll0, hdD, encK, PyData.canLay0, lay_ints, e2]
    · rw [depth_app, depth_app, depth_strs]
      have : PyData.depthAll [hdD g.1] ≤ 2 := by simp [PyData.depthAll, hdD, encK, PyData.depth, PySem.W.depth_ints]
      omega
theorem wlD_shaped {gs : List Grp} (h : ∀ g ∈ gs, ∀ z ∈ g.2, NameZ z) : SeqAt.shaped (.list (wlD gs)) = true := by
  obtain ⟨h1, h2⟩ := wlD_ok gs h
  have h3 : PyData.depth (.list (wlD gs)) ≤ 64 := by
    simp only [PyData.depth]
    omega
  show (PyData.canLay0 (.list (wlD gs)) && decide (PyData.depth (.list (wlD gs)) ≤ 64)) = true
  rw [Bool.and_eq_true]
  exact ⟨by simp only [PyData.canLay0]; exact h1, decide_eq_true h3⟩

theorem hd_eqv (j k : List Int) : PyData.eqv (hdD j) (hdD k) = decide (j = k) := by
  have eqi : ∀ ns ms : List Int, PyData.eqvAll (ns.map PyData.int) (ms.map PyData.int) = decide (ns = ms) := fun ns => by
    induction ns with
    | nil =>
      intro ms
      cases ms with
      | nil => simp [PyData.eqvAll]
      | cons m ms => simp [PyData.eqvAll]
    | cons n ns ih =>
      intro ms
      cases ms with
      | nil => simp [PyData.eqvAll]
      | cons m ms =>
        simp only [List.map_cons, PyData.eqvAll, PyData.eqv, ih]
        by_cases h : n = m
        · subst h
          simp
        · simp [h]
  simp only [hdD, encK, PyData.eqv, PyData.eqvAll, eqi]
  simp
theorem ans_shaped (k : List Int) : SeqAt.shaped (encK k) = true := by
  show ((encK k).canLay0 && decide ((encK k).depth ≤ 64)) = true
  rw [Bool.and_eq_true]
  refine ⟨?_, decide_eq_true ?_⟩
  · simp [PyData.canLay0, lay_ints]
  · simp [PyData.depth, depth_ints]
abbrev hdsD (ys : List Hd) : List PyData := ys.map fun y => hdD y.2.2.1
theorem hdsD_ok : ∀ ys : List Hd, PyData.canLayAll0 (hdsD ys) = true ∧ PyData.depthAll (hdsD ys) ≤ 2
  | [] => by simp [PyData.canLayAll0, PyData.depthAll]
  | y :: ys => by
    obtain ⟨h1, h2⟩ := hdsD_ok ys
    have e2 : PyData.strOk (Str.ofString "group") = true := by decide +kernel
    constructor
    · show PyData.canLayAll0 (hdD y.2.2.1 :: hdsD ys) = true
      simp [PyData.canLayAll0, hdD, encK, PyData.canLay0, lay_ints, e2, h1]
    · show PyData.depthAll (hdD y.2.2.1 :: hdsD ys) ≤ 2
      have : (hdD y.2.2.1).depth ≤ 2 := by simp [PyData.depthAll, hdD, encK, PyData.depth, PySem.W.depth_ints]
      simp only [PyData.depthAll]
      omega
theorem hdsD_shaped (ys : List Hd) : SeqAt.shaped (.list (hdsD ys)) = true := by
  obtain ⟨h1, h2⟩ := hdsD_ok ys
  have h3 : PyData.depth (.list (hdsD ys)) ≤ 64 := by
    simp only [PyData.depth]
    omega
  show (PyData.canLay0 (.list (hdsD ys)) && decide (PyData.depth (.list (hdsD ys)) ≤ 64)) = true
  rw [Bool.and_eq_true]
  exact ⟨by simp only [PyData.canLay0]; exact h1, decide_eq_true h3⟩
theorem hd_shaped (k : List Int) : SeqAt.shaped (hdD k) = true := by
  have e2 : PyData.strOk (Str.ofString "group") = true := by decide +kernel
  show ((hdD k).canLay0 && decide ((hdD k).depth ≤ 64)) = true
  rw [Bool.and_eq_true]
  refine ⟨?_, decide_eq_true ?_⟩
  · simp [hdD, encK, PyData.canLayAll0, PyData.canLay0, lay_ints, e2]
  · have : (hdD k).depth ≤ 2 := by simp [PyData.depthAll, hdD, encK, PyData.depth, PySem.W.depth_ints]
    omega
theorem dp_hd {K : PySem.W.Frag} {H : Hp} {y : Hd} (h : H y.1 = some (.tup [.str "group", .ref y.2.1]) ∧ H y.2.1 = some (.tup (y.2.2.1.map V.int))) : Dp K H (.ref y.1) (hdD y.2.2.1) :=
  .tup (.of h.1) (.cons (.str _) (.cons (.tup (.of h.2) (dp_ints _)) .nil))
theorem dp_hds {K : PySem.W.Frag} {H : Hp} : ∀ {ys : List Hd}, HdsAt H ys → DpAll K H (ys.map fun y => V.ref y.1) (hdsD ys)
  | [], _ => .nil
  | y :: ys, h => .cons (dp_hd (h.hd y List.mem_cons_self)) (dp_hds ⟨fun z hz => h.hd z (List.mem_cons_of_mem _ hz)⟩)
/-! ### found.index(header), found[at:at + n] -/
theorem wlV_app (xs ys : List Hd) : wlV (xs ++ ys) = wlV xs ++ wlV ys := by
  unfold wlV
  rw [List.flatMap_append]
theorem wlV_cons (y : Hd) (ys : List Hd) : wlV (y :: ys) = V.ref y.1 :: (y.2.2.2.map V.str ++ wlV ys) := rfl
theorem wlD_len : ∀ ys : List Hd, (wlD (ys.map (·.2.2))).length = (wlV ys).length
  | [] => rfl
  | y :: ys => by
    have e : wlD ((y :: ys).map (·.2.2)) = hdD y.2.2.1 :: (y.2.2.2.map PyData.str ++ wlD (ys.map (·.2.2))) := rfl
    rw [e, wlV_cons, List.length_cons, List.length_cons, List.length_append, List.length_append, List.length_map, List.length_map, wlD_len ys]
theorem split_at {α : Type} {l : List α} {i : Nat} {a : α} (h : l[i]? = some a) : l = l.take i ++ a :: l.drop (i + 1) := by
  obtain ⟨lt, e⟩ := List.getElem?_eq_some_iff.mp h
  rw [← e, ← List.drop_eq_getElem_cons lt, List.take_append_drop]
theorem wlD_mem {gs : List Grp} {d : PyData} (h : d ∈ wlD gs) : (∃ g ∈ gs, d = hdD g.1) ∨ ∃ z, d = .str z := by
  unfold wlD at h
  obtain ⟨g, hg, hd⟩ := List.mem_flatMap.mp h
  rcases List.mem_cons.mp hd with e | hd
  · exact .inl ⟨g, hg, e⟩
  · obtain ⟨z, _, e⟩ := List.mem_map.mp hd
    exact .inr ⟨z, e.symm⟩
theorem rIndex_hd {K : PySem.W.Frag} {H : Hp} {W : Addr} {i : Nat} {y : Hd} {Q : VK} {ys : List Hd} (hw : SqL K H W (wlV ys)) (hh : HdsAt H ys) (nd : (ys.map (·.2.2.1)).Nodup) (nm : ∀ y ∈ ys, ∀ z ∈ y.2.2.2, NameZ z) (hy : ys[i]? = some y)
    (q : Q (.int ((wlV (ys.take i)).length : Nat)) H) : rIndexD K (.ref W) [.ref y.1] H Q := by
  have e := split_at hy
  have e2 : wlD (ys.map (·.2.2)) = wlD ((ys.take i).map (·.2.2)) ++ (hdD y.2.2.1 :: (y.2.2.2.map PyData.str ++ wlD ((ys.drop (i + 1)).map (·.2.2)))) := by
    have e3 := congrArg (fun l => wlD (l.map (·.2.2))) e
    refine e3.trans ?_
    show wlD ((ys.take i ++ y :: ys.drop (i + 1)).map (·.2.2)) = _
    rw [List.map_append]
    unfold wlD
    rw [List.flatMap_append]
    rfl
  refine ⟨W, .ref y.1, hdD y.2.2.1, wlD (ys.map (·.2.2)), (wlV (ys.take i)).length, hdD y.2.2.1, rfl, rfl, .lst hw (dp_wl hh), dp_hd (hh.hd y (List.mem_of_getElem? hy)), wlD_shaped fun g hg => ?_, hd_shaped _, ?_, ?_, fun m z' hm hz => ?_, q⟩
  · obtain ⟨u, hu, rfl⟩ := List.mem_map.mp hg
    exact nm u hu
  · rw [e2, ← wlD_len, List.getElem?_append_right (Nat.le_refl _), Nat.sub_self]
    rfl
  · rw [hd_eqv, decide_eq_true rfl]
  · rw [e2, List.getElem?_append_left (by rw [wlD_len]; exact hm)] at hz
    rcases wlD_mem (List.mem_of_getElem? hz) with ⟨g, hg, rfl⟩ | ⟨z, rfl⟩
    · rw [hd_eqv]
      refine decide_eq_false fun q => ?_
      obtain ⟨u, hu, rfl⟩ := List.mem_map.mp hg
      have n2 := nd
      rw [e, List.map_append, List.nodup_append] at n2
      exact n2.2.2 _ (List.mem_map.mpr ⟨u, hu, rfl⟩) _ List.mem_cons_self q
    · simp [hdD, PyData.eqv]
theorem cut_mid {ys : List Hd} {i : Nat} {y : Hd} (hy : ys[i]? = some y) : cutV (wlV ys) (some (((wlV (ys.take i)).length + 1 : Nat) : Int)) (some (((wlV (ys.take i)).length + 1 + y.2.2.2.length : Nat) : Int)) = y.2.2.2.map V.str := by
  have e := split_at hy
  have e2 : wlV ys = (wlV (ys.take i) ++ [V.ref y.1]) ++ (y.2.2.2.map V.str ++ wlV (ys.drop (i + 1))) := by
    have e3 := congrArg wlV e
    rw [wlV_app, wlV_cons] at e3
    rw [e3, List.append_assoc]
    rfl
  have l2 : (wlV ys).length = (wlV (ys.take i)).length + 1 + (y.2.2.2.length + (wlV (ys.drop (i + 1))).length) := by
    rw [e2, List.length_append, List.length_append, List.length_append, List.length_map, List.length_singleton]
  unfold cutV
  rw [HT.sIx_nat, HT.sIx_nat, Nat.min_eq_left (by omega), Nat.min_eq_left (by omega), Nat.add_sub_cancel_left, e2, List.drop_left' (by rw [List.length_append, List.length_singleton]), List.take_left' (by rw [List.length_map])]
theorem wlV_length : ∀ ys : List Hd, (wlV ys).length = ys.length + (ys.map fun y => y.2.2.2.length).sum
  | [] => rfl
  | y :: ys => by
    rw [wlV_cons, List.length_cons, List.length_append, List.length_map, wlV_length ys, List.length_cons, List.map_cons, List.sum_cons]
    omega
def isRefB : V → Bool
  | .ref _ => true
  | _ => false
theorem wlV_refs : ∀ ys : List Hd, (wlV ys).filter isRefB = ys.map fun y => V.ref y.1
  | [] => rfl
  | y :: ys => by
    have no : ∀ zs : List Str, (zs.map V.str).filter isRefB = [] := by
      intro zs
      induction zs with
      | nil => rfl
      | cons z zs ih => exact ih
    rw [wlV_cons, List.filter_cons_of_pos rfl, List.filter_append, no, wlV_refs ys]
    rfl
theorem wlV_mem {ys : List Hd} {x : V} (h : x ∈ wlV ys) : (∃ y ∈ ys, x = .ref y.1) ∨ ∃ z, x = .str z := by
  unfold wlV at h
  obtain ⟨y, hy, hd⟩ := List.mem_flatMap.mp h
  rcases List.mem_cons.mp hd with e | hd
  · exact .inl ⟨y, hy, e⟩
  · obtain ⟨z, _, e⟩ := List.mem_map.mp hd
    exact .inr ⟨z, e.symm⟩
/-! ### sorted headers, sorted keys, the sum of the counts -/
def numD : NestedKey → PyData
  | .num i => .int i
  | _ => .none
def nkD : NestedKey → PyData
  | .tup [.text g, .tup ks] => .tuple [.str g, .tuple (ks.map numD)]
  | _ => .none
theorem nkD_hd (k : List Int) : nkD (hdK k) = hdD k := by
  show PyData.tuple [.str "group", .tuple ((k.map NestedKey.num).map numD)] = _
  rw [List.map_map]
  rfl
abbrev hdVD (ys : List Hd) : List VD := ys.map fun y => (V.ref y.1, hdD y.2.2.1)
theorem hds_keys {an : Str → List Int} {zs : List Str} {ys : List Hd} (h : ys.map (·.2.2) = dueG an zs) : ys.map (·.2.2.1) = keysS an zs := by
  rw [← due_keys, ← h, List.map_map]
  rfl
theorem hds_sorted {an : Str → List Int} {zs : List Str} {ys : List Hd} (h : ys.map (·.2.2) = dueG an zs) : sortVD (hdVD ys) = hdVD ys := by
  have e := hd_sorted (l := ys) (fun y => y.2.2.1) (fun y => hdD y.2.2.1) (fun _ _ => rfl) (hds_keys h)
  have e2 : sortVD (hdVD ys) = (ys.mergeSort (dataLe false fun y => hdD y.2.2.1)).map fun y => (V.ref y.1, hdD y.2.2.1) := (sort_maps (fun y : Hd => (V.ref y.1, hdD y.2.2.1)) fun a _ b _ => rfl).symm
  rw [e2, e]
theorem ents_sorted {an : Str → List Int} {zs : List Str} {ys : List Hd} (h : ys.map (·.2.2) = dueG an zs) : (cdE ys).mergeSort (dataLe false fun e : Ent => nkD e.1) = cdE ys := by
  have e := hd_sorted (l := ys) (fun y => y.2.2.1) (fun y => nkD (hdK y.2.2.1)) (fun _ _ => nkD_hd _) (hds_keys h)
  have e2 : (cdE ys).mergeSort (dataLe false fun e : Ent => nkD e.1) = (ys.mergeSort (dataLe false fun y => nkD (hdK y.2.2.1))).map fun y => (hdK y.2.2.1, y.1, V.int (y.2.2.2.length : Int)) := (sort_maps (fun y : Hd => ((hdK y.2.2.1, y.1, V.int (y.2.2.2.length : Int)) : Ent)) fun a _ b _ => rfl).symm
  rw [e2, e]
  rfl
theorem hds_alike {α : Type} (f : α → List Int) (l : List α) : AllAlike (l.map fun a => hdD (f a)) := AllAlike.of fun a b => by simp [hdD, alike, alikeAll, alike_ints]
theorem rSorted_hds {K : PySem.W.Frag} {H : Hp} {a : Addr} {ys : List Hd} {an : Str → List Int} {zs : List Str} {Q : VK} (hs : SqL K H a (ys.map fun y => V.ref y.1)) (hh : HdsAt H ys) (hl : ys.length ≤ 100) (h : ys.map (·.2.2) = dueG an zs)
    (q : ∀ p, H p = none → Q (.ref p) (upd H p (.lst (ys.map fun y => V.ref y.1)))) : rSortedVD K [.ref a] H Q := by
  have e1 : (hdVD ys).map (·.1) = ys.map fun y => V.ref y.1 := by rw [List.map_map]; rfl
  have e2 : (hdVD ys).map (·.2) = ys.map fun y => hdD y.2.2.1 := by rw [List.map_map]; rfl
  refine ⟨a, hdVD ys, rfl, by rw [e1]; exact hs, fun p hp => ?_, by rw [e2]; exact hds_alike _ _, .inl fun d hd => ?_, ?_, fun p hp => ?_⟩
  · obtain ⟨y, hy, rfl⟩ := List.mem_map.mp hp
    refine ⟨dp_hd (hh.hd y hy), ?_⟩
    show (hdD y.2.2.1).depth ≤ 4
    simp [PyData.depthAll, hdD, encK, PyData.depth, PySem.W.depth_ints]
  · rw [e2] at hd
    obtain ⟨y, _, rfl⟩ := List.mem_map.mp hd
    exact ⟨_, _, rfl⟩
  · rw [List.length_map]
    exact Nat.le_of_lt (small1000 (by omega))
  · rw [hds_sorted h, e1]
    exact q p hp
theorem rSorted_ents {K : PySem.W.Frag} {P : Program} {w : World} {H : Hp} {C : Addr} {ys : List Hd} {an : Str → List Int} {zs : List Str} {Q : VK} (hc : H C = some (dnO P w C (cdE ys))) (hh : HdsAt H ys) (h : ys.map (·.2.2) = dueG an zs)
    (q : ∀ p, H p = none → Q (.ref p) (upd H p (.lst (ys.map fun y => V.ref y.1)))) : rSortedN K P w [.ref C] H Q := by
  have e2 : (cdE ys).map (fun e : Ent => nkD e.1) = ys.map fun y => hdD y.2.2.1 := by
    unfold cdE
    rw [List.map_map]
    exact List.map_congr_left fun y _ => nkD_hd _
  refine ⟨C, cdE ys, fun e => nkD e.1, rfl, hc, cdE_ks hh, fun e he => ?_, by rw [e2]; exact hds_alike _ _, .inl fun d hd => ?_, fun p hp => ?_⟩
  · obtain ⟨y, hy, rfl⟩ := List.mem_map.mp he
    show Dp K H (.ref y.1) (nkD (hdK y.2.2.1)) ∧ (nkD (hdK y.2.2.1)).depth ≤ 4
    rw [nkD_hd]
    refine ⟨dp_hd (hh.hd y hy), ?_⟩
    simp [PyData.depthAll, hdD, encK, PyData.depth, PySem.W.depth_ints]
  · rw [e2] at hd
    obtain ⟨y, _, rfl⟩ := List.mem_map.mp hd
    exact ⟨_, _, rfl⟩
  · rw [ents_sorted h]
    have : (cdE ys).map (fun e => V.ref e.2.1) = ys.map fun y => V.ref y.1 := by
      unfold cdE
      rw [List.map_map]
      rfl
    rw [this]
    exact q p hp
def cntE : Ent → Int := fun e => match e.2.2 with
  | .int n => n
  | _ => 0
theorem cnt_sum {an : Str → List Int} {zs : List Str} {ys : List Hd} (h : ys.map (·.2.2) = dueG an zs) : ((cdE ys).map cntE).sum = (zs.length : Int) := by
  have e : ((ys.map fun y => y.2.2.2.length).sum) = zs.length := by
    have := due_sum an zs
    rw [← h, List.map_map] at this
    exact this
  rw [← e]
  have gen : ∀ ys : List Hd, ((cdE ys).map cntE).sum = (((ys.map fun y => y.2.2.2.length).sum : Nat) : Int) := by
    intro ys
    induction ys with
    | nil => rfl
    | cons y ys ih =>
      show cntE (hdK y.2.2.1, y.1, V.int (y.2.2.2.length : Int)) + ((cdE ys).map cntE).sum = _
      rw [ih, List.map_cons, List.sum_cons]
      show ((y.2.2.2.length : Int)) + _ = _
      omega
  exact gen ys
theorem inV_strK (y : Str) : ∀ zs : List Str, inV (.str y) (zs.map V.str) = decide (y ∈ zs)
  | [] => by simp [inV]
  | z :: zs => by
    have ih := inV_strK y zs
    unfold inV at ih ⊢
    rw [List.map_cons, List.any_cons, ih]
    show ((z == y) || decide (y ∈ zs)) = _
    rw [str_beqD]
    by_cases h : z = y
    · subst h
      simp
    · have h2 : ¬ y = z := fun q => h q.symm
      simp [h, h2]
end G
set_option Elab.async false
set_option linter.all false
set_option maxRecDepth 100000
set_option maxHeartbeats 8000000
/-! KG: _law_groups_right. -/
namespace G
open PySem PySem.Spec PyProof.Rows L2 NdefX DvT StX SkL LamX PySem.W
abbrev sGrR : Stmt := topS 36
abbrev nGrR : List Str := ["_law_rows", "_law_answers", "_law_found", "_law_counts", "_law_headers", "_law_firsts", "_law_header", "_law_at", "_law_some", "_law_row"]
theorem scGrR : FnScope nGrR ["_law_rows", "_law_answers"] (defScope sGrR) := ⟨rfl, rfl, rfl, by decide +kernel, rfl, by decide +kernel, by decide +kernel⟩
def forBody : Stmt → List Stmt
  | .For _ _ b _ _ => b
  | _ => []
abbrev loopG : List Stmt := forBody ((defBody sGrR).getD 5 (.Pass ⟨0, 0, 0, 0⟩))
def spGrR : Sp := fun vs H Q _ => ∃ (l d : Addr) (zs : List Str) (kvs : List (Key × V)) (an : Str → List Int), vs = [.ref l, .ref d] ∧ H l = some (.lst (zs.map V.str)) ∧ RowsOk zs ∧ AnsOf H d kvs zs an ∧ ∀ H', Same H H' → Q (.bl true) H'
theorem eqv_strs_nil (z : Str) (zs : List Str) : PyData.eqv (.list ((z :: zs).map PyData.str)) (.list []) = false := by simp [PyData.eqv, PyData.eqvAll]
section
variable {P : Program} {w : World} {K : PySem.W.Frag} {mg : Str → Option Value} {base : Heap}
/-- a turn: one header -/
theorem grp_in {fI fF : Addr} {fdI fdF : FuncData} {cdv : Value} {A : Around} {outer : List Env} {s : Shared} {H : Hp} {E : XK} {f : Addr}
    (GI : FnOk P w K mg base CX0 1 fI fdI ["_law_some", "_law_rows"] (spInO K)) (gI : mg "_law_in_order" = some (.ref fI)) (kI : PySem.W.keepIn K (.ref fI) = true) (bI : Binds K fdI ["_law_some", "_law_rows"] [])
    (GF : FnOk P w K mg base CX0 1 fF fdF ["_law_answer"] (spFullL K)) (gF : mg "_law_full" = some (.ref fF)) (kF : PySem.W.keepIn K (.ref fF) = true) (bF : Binds K fdF ["_law_answer"] [])
    (hr1 : Room 1 (A.deeper (envOfC "_law_groups_right" (defScope sGrR) s.heap.objs.size f cdv)))
    (hu : (A.deeper (envOfC "_law_groups_right" (defScope sGrR) s.heap.objs.size f cdv)).units + 80 < cLine) :
    ∃ t, PSs (cxOf CX0 P w K mg base nGrR "_law_groups_right" (defScope sGrR) f cdv A outer s H E).nox loopG t ∧
      ∀ (De : Ends) (x3 x4 x7 x8 x9 : Option V) (l d W C Fs : Addr) (zs : List Str) (kvs : List (Key × V)) (an : Str → List Int) (ys : List Hd) (i : Nat) (y : Hd) (H0 : Hp), H0 l = some (.lst (zs.map V.str)) → RowsOk zs → AnsOf H0 d kvs zs an →
        H0 W = some (.lst (wlV ys)) → H0 C = some (dnO P w C (cdE ys)) → HdsAt H0 ys → ys.map (·.2.2) = dueG an zs → H0 Fs = some (.lst ((firstsOf an zs).map V.str)) → ys[i]? = some y →
        (∀ (y7 y8 y9 : Option V) (H' : Hp), Same H0 H' → De.nx [some (.ref l), some (.ref d), some (.ref W), some (.ref C), x4, some (.ref Fs), some (.ref y.1), y7, y8, y9] H') →
        t De [some (.ref l), some (.ref d), some (.ref W), some (.ref C), x4, some (.ref Fs), some (.ref y.1), x7, x8, x9] H0 := by
  have hu65 : (A.deeper (envOfC "_law_groups_right" (defScope sGrR) s.heap.objs.size f cdv)).units + 65 < cLine := by omega
  have hu64 : (A.deeper (envOfC "_law_groups_right" (defScope sGrR) s.heap.objs.size f cdv)).units + 64 < cLine := by omega
  have hu16 : (A.deeper (envOfC "_law_groups_right" (defScope sGrR) s.heap.objs.size f cdv)).units + 16 < cLine := by omega
  have hu1 : (A.deeper (envOfC "_law_groups_right" (defScope sGrR) s.heap.objs.size f cdv)).units + 1 < cLine := by omega
  refine ⟨_, pss_cons (ps_set (i := 7) scGrR.nd rfl (.inl rfl) (pe_op op_add (pe_bm PySem.F.plainAttrs_list PySem.F.slot_list_index PySem.F.type_list_index (mt_indexD (by exact hu65)) (pv 2) (pa_cons (pv 6) pa_nil)) pe_int))
    (pss_cons (ps_set (i := 8) scGrR.nd rfl (.inl rfl) (pe_slice (r := rSlL K) sl_list (pv 2) (po_some (pv 7)) (po_some (pe_op op_add (pv 7) (pe_dgetN (P := P) (w := w) rfl rfl (by exact hu16) (pv 3) (pv 6) (fun _ _ => rfl))))))
    (pss_cons (ps_if (PW.pt (pw_or (pt_cmpR (r := rNeD K) (op_neD (by exact hu64)) (pe_lc (own := [("_law_row", 9)]) (g := gName 9) (by rfl) scGrR.nd (pi_list (pv 8))
          (blkOk_by (own := [("_law_row", 9)]) (N := nGrR) (sc := defScope sGrR) (by decide +kernel)) (fun _ _ _ _ _ => pg_name (i := 9) scGrR.nd rfl (.inl rfl))
          (fun _ _ _ _ _ => pts_one (pt_cmpR (r := rNeD K) (op_neD (by exact hu64)) (pe_call GF hr1 rfl gF kF bF .nil pass0 (pa_cons (pe_dget hu1 (pv 1) (pv 9) (fun _ _ => rfl)) pa_nil)) (pe_ix (r := rIxT K) ix_tup (pv 6) pe_int (fun _ _ => rfl)) (nomark _))) (fun _ _ _ _ _ => pv 9)) (pe_lst pa_nil) (nomark _))
        (pw_or1 (pt_not (pt_val (pe_call GI hr1 rfl gI kI bI .nil pass0 (pa_cons (pv 8) (pa_cons (pv 0) pa_nil)))))))) (pss_one ps_never) pss_nil)
    (pss_one (ps_if (PW.pt (pw_or (pt_cmpR (r := rEqD K) (op_eqD (by exact hu64)) (pv 8) (pe_lst pa_nil) (nomark _)) (pw_or1 (pt_cmpR op_notIn_seq (pe_ix (r := rIxL K) ix_list (pv 8) pe_int (fun _ _ => rfl)) (pv 5) (by rfl))))) (pss_one ps_never) pss_nil)))), ?_⟩
  intro De x3 x4 x7 x8 x9 l d W C Fs zs kvs an ys i y H0 el ro ha ew ec hh hg efs hy q
  have hk := hds_keys hg
  have nd : (ys.map (·.2.2.1)).Nodup := by
    rw [hk]
    exact keysS_nd an zs
  have my : y ∈ ys := List.mem_of_getElem? hy
  have rw_ : ∀ u ∈ ys, u.2.2.2 = rowsA an zs u.2.2.1 := fun u hu => by
    have : u.2.2 ∈ dueG an zs := by
      rw [← hg]
      exact List.mem_map.mpr ⟨u, hu, rfl⟩
    obtain ⟨k, _, e⟩ := List.mem_map.mp this
    rw [← e]
  have sub : (y.2.2.2).Sublist zs := by
    rw [rw_ y my]
    exact List.filter_sublist
  have few := ro.few
  have ln := sub.length_le
  have my2 := hh.hd y my
  -- the place
  refine ⟨_, rfl, .inl ⟨rfl, _, .of ew⟩, _, rfl, ?_⟩
  dsimp only [tNil]
  refine rIndex_hd (.of ew) hh nd (fun u hu z hz => ro.nm z ?_) hy ?_
  · rw [rw_ u hu] at hz
    exact (List.mem_filter.mp hz).1
  refine ⟨_, _, rfl, rfl, ?_⟩
  -- the rows
  refine ⟨_, rfl, _, rfl, _, rfl, _, rfl, _, rfl, _, rfl, C, y.1, y.1, hdK y.2.2.1, cdE ys, .int (y.2.2.2.length : Int), rfl, rfl, ec, cdE_ks hh, hdK_nv my2.1 my2.2, hdK_depth _, List.mem_map.mpr ⟨y, my, rfl⟩, _, _, rfl, rfl, _, rfl, W, _, rfl, .of ew, fun sm hsm => ?_⟩
  have ecut : cutV (wlV ys) (some (((wlV (ys.take i)).length : Int) + 1)) (some (((wlV (ys.take i)).length : Int) + 1 + (y.2.2.2.length : Int))) = y.2.2.2.map V.str := cut_mid hy
  rw [ecut]
  have t1 := Same.new (o := .lst (y.2.2.2.map V.str)) hsm
  have es1 : upd H0 sm (.lst (y.2.2.2.map V.str)) sm = some (.lst (y.2.2.2.map V.str)) := upd_same
  generalize upd H0 sm (.lst (y.2.2.2.map V.str)) = H1 at t1 es1 ⊢
  have ha1 := ha.same t1
  -- their answers
  refine ⟨_, rfl, sm, rfl, ⟨_, .of es1⟩, fun D hD => ?_⟩
  refine lc_list (xs := y.2.2.2.map V.str) (fun j H2 => Same H1 H2 ∧ H2 D = some (.lst [])) ?_ ?_ ?_ ?_
  · exact ⟨Same.new hD, upd_same⟩
  · exact fun j H2 _ h => .of (h.1 _ _ es1)
  · rintro j x H2 hx ⟨s2, e2⟩
    rw [List.getElem?_map] at hx
    obtain ⟨z, hz, rfl⟩ := Option.map_eq_some_iff.mp hx
    have mz : z ∈ y.2.2.2 := List.mem_of_getElem? hz
    have az : an z = y.2.2.1 := by
      rw [rw_ y my] at mz
      exact of_decide_eq_true (List.mem_filter.mp mz).2
    have ha2 := ha1.same s2
    obtain ⟨v, ev, av⟩ := ha2.is z (sub.subset mz)
    have g := DGet.k (k := Sum.inr z) ha2.d
    rw [ev] at g
    refine ⟨rfl, ?_⟩
    refine ⟨_, rfl, _, rfl, d, _, rfl, g, v, an z, rfl, av, fun Ta H3 s3 eTa => ?_⟩
    have s13 := (t1.trans s2).trans s3
    refine ⟨_, rfl, y.1, _, _, .ref y.2.1, rfl, rfl, .of (s13 _ _ my2.1), rfl, encK (an z), encK y.2.2.1, .tup (.of eTa) (dp_ints _), .tup (.of (s13 _ _ my2.2)) (dp_ints _), ans_shaped _, ans_shaped _, _, rfl, ?_⟩
    rw [az, SeqAt.eqv_refl _ (SeqAt.canLay_of_shaped (ans_shaped _))]
    exact iteF ⟨s2.trans s3, s3 _ _ e2⟩
  · rintro H2 ⟨s2, e2⟩
    refine ⟨Nat.zero_le _, fun t ht => ?_⟩
    have s3 := Same.new (o := .lst []) ht
    refine ⟨.list [], .list [], .lst (.of (s3 _ _ e2)) .nil, .lst (.of upd_same) .nil, nil_shaped, nil_shaped, _, rfl, ?_⟩
    rw [eqv_nilK]
    refine iteF ?_
    have s13 := s2.trans s3
    generalize upd H2 t (.lst []) = H3 at s13 ⊢
    have es3 := s13 _ _ es1
    have s03 := t1.trans s13
    refine ⟨_, rfl, _, rfl, sm, l, y.2.2.2, zs, rfl, .of es3, .of (s03 _ _ el), sub, ro.nd, by omega, fun H4 s4 => ⟨_, rfl, iteF ?_⟩⟩
    have es4 := s4 _ _ es3
    have s04 := s03.trans s4
    obtain ⟨z, r, er, hin⟩ := firsts_in (an := an) (zs := zs) (k := y.2.2.1) (by rw [← hk]; exact List.mem_map.mpr ⟨y, my, rfl⟩)
    have ery : y.2.2.2 = z :: r := (rw_ y my).trans er
    rw [ery] at es4
    refine ⟨_, rfl, Nat.zero_le _, fun t2 ht2 => ?_⟩
    have s5 := Same.new (o := .lst []) ht2
    refine ⟨.list ((z :: r).map PyData.str), .list [], .lst (.of (s5 _ _ es4)) (dp_strs _), .lst (.of upd_same) .nil, strs_shaped fun u hu => ro.nm u (sub.subset (by rw [ery]; exact hu)), nil_shaped, _, rfl, ?_⟩
    rw [eqv_strs_nil]
    refine iteF ?_
    have s05 := s04.trans s5
    have es5 := s5 _ _ es4
    generalize upd H4 t2 (.lst []) = H5 at s05 es5 ⊢
    refine ⟨_, rfl, sm, _, ((0 : Nat) : Int), .str z, rfl, rfl, .of es5, atI_nat (j := 0) rfl, _, rfl, Fs, _, rfl, .inl (.of (s05 _ _ efs)), rfl, flat_strs _, _, rfl, ?_⟩
    rw [show (if true = true then !inV (V.str z) ((firstsOf an zs).map V.str) else inV (V.str z) ((firstsOf an zs).map V.str)) = false from by
      rw [if_pos rfl, inV_strK, decide_eq_true hin]
      rfl]
    refine iteF ?_
    exact q _ _ _ H5 s05
end
end G
set_option Elab.async false
set_option linter.all false
set_option maxRecDepth 100000
set_option maxHeartbeats 8000000
/-! KH: _law_groups_right, the whole. -/
namespace G
open PySem PySem.Spec PyProof.Rows L2 NdefX DvT StX SkL LamX PySem.W
theorem ne_ifI {A B : Prop} {x y : V} (e : x = y) (h : B) : if (!decide (x = y)) = true then A else B := by
  rw [decide_eq_true e]
  exact iteF h
section
variable {P : Program} {w : World} {K : PySem.W.Frag} {mg : Str → Option Value} {base : Heap}
theorem ok_grR {f fG fO fI fF : Addr} {fd fdG fdO fdI fdF : FuncData} (F : Fun K "_law_groups_right" "_law_groups_right" sGrR f fd)
    (GG : FnOk P w K mg base CX0 6 fG fdG ["rows", "answers"] (spGrp P w K)) (gG : mg "grouped" = some (.ref fG)) (kG : PySem.W.keepIn K (.ref fG) = true) (bG : Binds K fdG ["rows", "answers"] [])
    (GO : FnOk P w K mg base CX0 6 fO fdO ["rows", "answers"] (spFirst K)) (gO : mg "first_ones" = some (.ref fO)) (kO : PySem.W.keepIn K (.ref fO) = true) (bO : Binds K fdO ["rows", "answers"] [])
    (GI : FnOk P w K mg base CX0 1 fI fdI ["_law_some", "_law_rows"] (spInO K)) (gI : mg "_law_in_order" = some (.ref fI)) (kI : PySem.W.keepIn K (.ref fI) = true) (bI : Binds K fdI ["_law_some", "_law_rows"] [])
    (GF : FnOk P w K mg base CX0 1 fF fdF ["_law_answer"] (spFullL K)) (gF : mg "_law_full" = some (.ref fF)) (kF : PySem.W.keepIn K (.ref fF) = true) (bF : Binds K fdF ["_law_answer"] [])
    (mS : mg "sorted" = none) (ml : mg "len" = none) (mi : mg "isinstance" = none) (mt : mg "tuple" = none) (mm : mg "sum" = none) : FnOk P w K mg base CX0 7 f fd ["_law_rows", "_law_answers"] spGrR := by
  refine F.ok scGrR (fun vs H Q E h => ?_) (fun cdv A outer s H vs Q E hr h => ?_)
  · obtain ⟨l, d, zs, kvs, an, rfl, _⟩ := h
    rfl
  · obtain ⟨l, d, zs, kvs, an, rfl, el, ro, ha, q⟩ := h
    have hr1 := hr.mono (show 1 ≤ 6 by decide)
    have hu : (A.deeper (envOfC "_law_groups_right" (defScope sGrR) s.heap.objs.size f cdv)).units + 80 < cLine := by have := hr.un; omega
    have hu64 : (A.deeper (envOfC "_law_groups_right" (defScope sGrR) s.heap.objs.size f cdv)).units + 64 < cLine := by omega
    have hu16 : (A.deeper (envOfC "_law_groups_right" (defScope sGrR) s.heap.objs.size f cdv)).units + 16 < cLine := by omega
    have few := ro.few
    obtain ⟨tz, pz, qz⟩ := grp_in (P := P) (w := w) (base := base) (outer := outer) (H := H) (E := E) (cdv := cdv) (s := s) (f := f) GI gI kI bI GF gF kF bF hr1 hu
    refine ⟨_, pss_cons (ps_asg (pe_call GG hr rfl gG kG bG .nil pass0 (pa_cons (pv 0) (pa_cons (pv 1) pa_nil))) (pg_tup (by rfl) (pgs_cons (pg_name (i := 2) scGrR.nd rfl (.inl rfl)) (pgs_cons (pg_name (i := 3) scGrR.nd rfl (.inl rfl)) pgs_nil))))
      (pss_cons (ps_setLc (i := 4) (own := [("_law_row", 9)]) (g := gName 9) (tt := tTest (tCB (rIsi K) (tCons (tVar 9) (tCons (tC (.ty "tuple")) tNil)))) (by rfl) scGrR.nd rfl rfl (sw_true rfl rfl rfl (by decide +kernel)) (pi_list (pv 2))
          (blkOk_by (own := [("_law_row", 9)]) (N := nGrR) (sc := defScope sGrR) (by decide +kernel)) (fun _ _ _ _ _ => pg_name (i := 9) scGrR.nd rfl (.inl rfl))
          (fun _ _ _ _ _ => pts_one (by exact pt_val (pt_isi "tuple" (pv 9) (hm := mi) (mn := mt)))) (fun _ _ _ _ _ => pv 9))
      (pss_cons (ps_set (i := 5) scGrR.nd rfl (.inl rfl) (pe_call GO hr rfl gO kO bO .nil pass0 (pa_cons (pv 0) (pa_cons (pv 1) pa_nil))))
      (pss_cons (ps_if (PW.pt (pw_or (pt_cmpR (r := rNeD K) (op_neD (by exact hu64)) (pv 4) (pe_callB (cr_sortedVD (by exact hu16)) (by rfl) mS (by decide +kernel) (pa_cons (pv 4) pa_nil)) (nomark _))
          (pw_or (pt_cmpR (r := rNeD K) (op_neD (by exact hu64)) (pe_callB (cr_sortedVD (by exact hu16)) (by rfl) mS (by decide +kernel) (pa_cons (pv 4) pa_nil)) (pe_callB (cr_sortedN rfl (by exact hu16)) (by rfl) mS (by decide +kernel) (pa_cons (pv 3) pa_nil)) (nomark _))
          (pw_or1 (pt_cmpR op_ne (pe_callB call_len_seq (by rfl) ml PySem.boot_len (pa_cons (pv 5) pa_nil)) (pe_callB call_len_seq (by rfl) ml PySem.boot_len (pa_cons (pv 4) pa_nil)) (nomark _)))))) (pss_one ps_never) pss_nil)
      (pss_cons (ps_if (PW.pt (pw_or (pt_cmpR op_ne (pe_callB (cr_sumN (P := P) (w := w) rfl rfl rfl) (by rfl) mm (by decide +kernel) (pa_cons (pe_viewN (P := P) (w := w) rfl rfl (pv 3)) pa_nil)) (pe_callB call_len_seq (by rfl) ml PySem.boot_len (pa_cons (pv 0) pa_nil)) (nomark _))
          (pw_or1 (pt_cmpR op_ne (pe_callB call_len_seq (by rfl) ml PySem.boot_len (pa_cons (pv 2) pa_nil)) (pe_op op_add (pe_callB call_len_seq (by rfl) ml PySem.boot_len (pa_cons (pv 0) pa_nil)) (pe_callB call_len_seq (by rfl) ml PySem.boot_len (pa_cons (pv 4) pa_nil))) (nomark _))))) (pss_one ps_never) pss_nil)
      (pss_cons (ps_for PassesOwn.never rfl (pi_list (pv 4)) (pg_name (i := 6) scGrR.nd rfl (.inr rfl)) pz)
      (pss_one (ps_ret (pe_call GI hr1 rfl gI kI bI .nil pass0 (pa_cons (pv 5) (pa_cons (pv 0) pa_nil)))))))))), ?_⟩
    refine ⟨_, rfl, _, rfl, l, d, zs, kvs, an, rfl, .inl (.of el), ro, ha, fun T W C ys H1 s1 nT nW nC gr => ?_⟩
    refine ⟨T, _, rfl, .of gr.tt, rfl, _, _, rfl, _, _, rfl, rfl, ?_⟩
    have el1 := s1 _ _ el
    have ha1 := ha.same s1
    have hk := hds_keys gr.g
    have lys : ys.length ≤ 40 := by
      have h1 := congrArg List.length hk
      rw [List.length_map] at h1
      have h2 := keysS_len an zs
      omega
    have sumy : (ys.map fun y => y.2.2.2.length).sum = zs.length := by
      have := due_sum an zs
      rw [← gr.g, List.map_map] at this
      exact this
    have lwl : (wlV ys).length = ys.length + zs.length := by rw [wlV_length, sumy]
    -- the headers
    refine ⟨_, rfl, W, rfl, ⟨_, .of gr.wl⟩, fun D hD => ?_⟩
    refine lc_list (xs := wlV ys) (fun i H2 => Same H1 H2 ∧ H2 D = some (.lst (((wlV ys).take i).filter isRefB))) ?_ ?_ ?_ ?_
    · exact ⟨Same.new hD, upd_same⟩
    · exact fun i H2 _ h => .of (h.1 _ _ gr.wl)
    · rintro i x H2 hx ⟨s2, e2⟩
      have e9 : ((wlV ys).take (i + 1)).filter isRefB = if isRefB x = true then ((wlV ys).take i).filter isRefB ++ [x] else ((wlV ys).take i).filter isRefB := by
        rw [List.take_add_one, hx, List.filter_append]
        show _ ++ [x].filter isRefB = _
        rw [List.filter_cons, List.filter_nil]
        split
        · rfl
        · rw [List.append_nil]
      refine ⟨rfl, ?_⟩
      rcases wlV_mem (List.mem_of_getElem? hx) with ⟨y, hy, rfl⟩ | ⟨z, rfl⟩
      · refine ⟨_, rfl, _, _, _, _, _, rfl, .ty _, .base (.tup (s2 _ _ (gr.h.hd y hy).1)), kit_t (.tuple []), _, rfl, ?_⟩
        dsimp only
        rw [if_pos (show isTup (PyData.tuple []) = true from rfl)]
        rw [if_pos (show isRefB (V.ref y.1) = true from rfl)] at e9
        refine ⟨_, rfl, _, e2, ?_, fun c o eo => (upd_ne (ne_of_none eo hD)).trans (s2 _ _ eo), ?_⟩
        · have h1 := List.length_filter_le isRefB ((wlV ys).take i)
          rw [List.length_take] at h1
          exact Nat.lt_of_lt_of_le (Nat.lt_of_le_of_lt h1 (by omega : min i (wlV ys).length < 200)) (by rw [sizeLine_eq]; decide)
        · rw [upd_same, e9]
      · refine ⟨_, rfl, _, _, _, _, _, rfl, .ty _, .base (.str z), kit_t (.str z), _, rfl, ?_⟩
        dsimp only
        rw [if_neg (show ¬ isTup (PyData.str z) = true from Bool.false_ne_true)]
        rw [if_neg (show ¬ isRefB (V.str z) = true from Bool.false_ne_true)] at e9
        exact ⟨s2, by rw [e9]; exact e2⟩
    · rintro H2 ⟨s2, e2⟩
      rw [List.take_length, wlV_refs] at e2
      have el2 := s2 _ _ el1
      have ha2 := ha1.same s2
      have hh2 := gr.h.at fun a xs e => s2 _ _ e
      have ec2 := s2 _ _ gr.c
      have ew2 := s2 _ _ gr.wl
      have s02 := s1.trans s2
      -- the first rows
      refine ⟨_, rfl, _, rfl, l, d, zs, kvs, an, rfl, .inl (.of el2), ro, ha2, fun Fs H3 s3 nFs efs => ?_⟩
      have s03 := s02.trans s3
      have hh3 := hh2.at fun a xs e => s3 _ _ e
      have e3 := s3 _ _ e2
      have ec3 := s3 _ _ ec2
      -- sorted
      refine ⟨_, rfl, _, rfl, ?_⟩
      dsimp only [tNil]
      refine rSorted_hds (.of e3) hh3 (by omega) gr.g fun p np => ?_
      have s4 := Same.new (o := .lst (ys.map fun y => V.ref y.1)) np
      have hh4 := hh3.at fun a xs e => s4 _ _ e
      refine ⟨.list (hdsD ys), .list (hdsD ys), .lst (.of (s4 _ _ e3)) (dp_hds hh4), .lst (.of upd_same) (dp_hds hh4), hdsD_shaped ys, hdsD_shaped ys, _, rfl, ?_⟩
      rw [SeqAt.eqv_refl _ (SeqAt.canLay_of_shaped (hdsD_shaped ys))]
      refine iteF ?_
      have s34 := s4
      generalize upd H3 p (.lst (ys.map fun y => V.ref y.1)) = H4 at s34 hh4 ⊢
      refine ⟨_, rfl, ?_⟩
      dsimp only [tNil]
      refine rSorted_hds (.of (s34 _ _ e3)) hh4 (by omega) gr.g fun p5 np5 => ?_
      have s5 := Same.new (o := .lst (ys.map fun y => V.ref y.1)) np5
      have hh5 := hh4.at fun a xs e => s5 _ _ e
      have e5 : upd H4 p5 (.lst (ys.map fun y => V.ref y.1)) p5 = some (.lst (ys.map fun y => V.ref y.1)) := upd_same
      generalize upd H4 p5 (.lst (ys.map fun y => V.ref y.1)) = H5 at s5 hh5 e5 ⊢
      have s35 := s34.trans s5
      refine ⟨_, rfl, ?_⟩
      dsimp only [tNil]
      refine rSorted_ents (P := P) (w := w) (s35 _ _ ec3) hh5 gr.g fun p6 np6 => ?_
      have s6 := Same.new (o := .lst (ys.map fun y => V.ref y.1)) np6
      have hh6 := hh5.at fun a xs e => s6 _ _ e
      refine ⟨.list (hdsD ys), .list (hdsD ys), .lst (.of (s6 _ _ e5)) (dp_hds hh6), .lst (.of upd_same) (dp_hds hh6), hdsD_shaped ys, hdsD_shaped ys, _, rfl, ?_⟩
      rw [SeqAt.eqv_refl _ (SeqAt.canLay_of_shaped (hdsD_shaped ys))]
      refine iteF ?_
      have s36 := s35.trans s6
      generalize upd H5 p6 (.lst (ys.map fun y => V.ref y.1)) = H6 at s36 hh6 ⊢
      have e6 := s36 _ _ e3
      have efs6 := s36 _ _ efs
      have s06 := s03.trans s36
      have el6 := s06 _ _ el
      have ew6 := (s3.trans s36) _ _ ew2
      have ec6 := s36 _ _ ec3
      have lfs : (firstsOf an zs).length = ys.length := by
        have h1 := congrArg List.length hk
        rw [List.length_map] at h1
        rw [firsts_len, h1]
      refine ⟨_, rfl, Fs, _, rfl, .inl (.of efs6), _, rfl, D, _, rfl, .inl (.of e6), rfl, _, rfl, ne_ifI (by rw [List.length_map, List.length_map, lfs]) ?_⟩
      -- the sum
      refine ⟨_, rfl, C, _, rfl, ec6, fun v hv => ?_⟩
      have s7 := Same.new (o := vwO v C) hv
      dsimp only [tNil]
      refine ⟨v, C, cdE ys, cntE, rfl, upd_same, s7 _ _ ec6, fun e he => ?_, ?_⟩
      · obtain ⟨y, _, rfl⟩ := List.mem_map.mp he
        rfl
      rw [cnt_sum gr.g]
      have s07 := s06.trans s7
      generalize upd H6 v (vwO v C) = H7 at s7 s07 ⊢
      have el7 := s07 _ _ el
      have ew7 := s7 _ _ ew6
      have e7 := s7 _ _ e6
      refine ⟨_, rfl, l, _, rfl, .inl (.of el7), rfl, _, rfl, ne_ifI (by rw [List.length_map]) ?_⟩
      refine ⟨_, rfl, W, _, rfl, .inl (.of ew7), _, rfl, l, _, rfl, .inl (.of el7), _, rfl, D, _, rfl, .inl (.of e7), _, _, rfl, rfl, rfl, _, rfl, ne_ifI ?_ ?_⟩
      · rw [lwl, List.length_map, List.length_map]
        congr 1
        omega
      have efs7 := s7 _ _ efs6
      have ec7 := s7 _ _ ec6
      have hh7 := hh6.at fun a xs e => s7 _ _ e
      have ha7 := ha.same s07
      -- the headers, one after another
      refine ⟨_, rfl, D, rfl, ⟨_, .of e7⟩, ?_⟩
      refine for_list (xs := ys.map fun y => V.ref y.1) (fun i σ H8 => Same H7 H8 ∧ ∃ y6 y7 y8 y9 : Option V, σ = [some (.ref l), some (.ref d), some (.ref W), some (.ref C), some (.ref D), some (.ref Fs), y6, y7, y8, y9]) ?_ ?_ ?_ ?_
      · exact ⟨.refl _, _, _, _, _, rfl⟩
      · exact fun i σ H8 _ h => .of (h.1 _ _ e7)
      · rintro i x σ H8 hx ⟨s8, y6, y7, y8, y9, rfl⟩
        rw [List.getElem?_map] at hx
        obtain ⟨y, hy, rfl⟩ := Option.map_eq_some_iff.mp hx
        exact qz _ (some (.ref C)) _ _ _ _ l d W C Fs zs kvs an ys i y H8 (s8 _ _ el7) ro (ha7.same s8) (s8 _ _ ew7) (s8 _ _ ec7) (hh7.at fun a xs e => s8 _ _ e) gr.g (s8 _ _ efs7) hy fun z7 z8 z9 H9 s9 => ⟨s8.trans s9, _, _, _, _, rfl⟩
      · rintro σ H8 ⟨s8, y6, y7, y8, y9, rfl⟩
        refine ⟨_, rfl, _, rfl, Fs, l, firstsOf an zs, zs, rfl, .of (s8 _ _ efs7), .of (s8 _ _ el7), firsts_sub an zs, ro.nd, by omega, fun H9 s9 => ?_⟩
        exact q H9 ((s07.trans s8).trans s9)
end
end G
set_option Elab.async false
set_option linter.all false
set_option maxRecDepth 100000
set_option maxHeartbeats 2000000
/-! DW: list(d.values()), the keys ints and texts. -/
namespace DvT
open PySem PySem.Spec PyProof.Rows L2
/-- list(e.values()), the keys ints and texts -/
def rValsK : V → Hp → VK → Prop := fun x H Q => ∃ (d : Addr) (kvs : List (Key × V)), x = .ref d ∧ H d = some (.dK kvs) ∧ ∀ p, H p = none → Q (.ref p) (upd H p (.lst (kvs.map (·.2))))
def tValsK (te : TE) : TE := fun σ H Q => te σ H fun x H1 => rValsK x H1 Q
theorem pairs_vals {K : Type} [DecidableEq K] {P : Program} {w : World} {knd : KeyKind P w K} {es : List DictEntry} {vs : List (K × Value)} (r : Pairs knd es vs) : es.map (·.val) = vs.map (·.2) := by
  induction r with
  | nil => rfl
  | cons _ e _ ih => rw [List.map_cons, List.map_cons, e, ih]
theorem kv_vals {κ : Type} {kvs : List (κ × V)} {vs : List (κ × Value)} (r : KV kvs vs) : Vals (kvs.map (·.2)) (vs.map (·.2)) := by
  unfold KV at r
  induction r with
  | nil => exact .nil
  | cons h t ih => exact .cons h.2 ih
section
variable {X : Cx} {e : Expr} {te : TE} {p apos cpos pos : Pos}
theorem pe_valsK (hc : X.calm = true) (he : PE X e te) (hg : Gl X "list") (hm : X.mg "list" = none) (hv : bootBuiltins "list" = some (.type "list")) (hbase : attributeBase e "values" X.env (eval e X.env) = eval e X.env := by rfl) (hline : (apos.endLine == cpos.line) = true := by rfl)
    (hs : starEach [.Call (.Attribute e "values" apos) [] [] cpos] X.env = (false, eval (.Call (.Attribute e "values" apos) [] [] cpos) X.env) :: starEach [] X.env := by rfl) :
    PE X (.Call (.Name "list" p) [.Call (.Attribute e "values" apos) [] [] cpos] [] pos) (tValsK te) := by
  refine ⟨fun pins s σ H Q I hq => ?_⟩
  refine wpAny_Call_Name_kw (ld_blt I hg hm hv (PyProof.Rows.callWith_type1 ?_ hs rfl))
  rw [hs]
  show wpAny _ _ (spliced ((false, eval (.Call (.Attribute e "values" apos) [] [] cpos) X.env) :: backTo pos (starEach [] X.env))) _ _ s
  refine Calls.spliced_cons (wpAny_Call_method (T := "dict") (id := "dict.values") hbase rfl hline PySem.F.plainAttrs_dict PySem.F.slot_dict_values PySem.F.type_dict_values (thn (he.run pins s σ H _ I hq) fun u s1 ⟨x, H1, I1, rx, d, kvs, ex, hd, q⟩ => ?_))
  subst ex
  obtain rfl : u = Value.ref d := rx
  obtain ⟨z, hs0, vs, rel, o, es, ep, ho, hx, hdt, hko, hpr, hnd⟩ := dk_of I1.hok hd
  have hraw : DT.Raw s1.heap d es ep := ⟨o, ho, hx, hdt⟩
  have l1 : es.size = vs.length := by rw [← Array.length_toList]; exact hpr.length
  have l2 : kvs.length = vs.length := rel.length
  refine ⟨hraw.typeIs, fun b e => ?_, ?_⟩
  · cases e
    exact ⟨o, ho, hx.2.1⟩
  show wpAny _ _ (callWith cpos (.builtin "dict.values") [.ref d] [] []) _ X.xe s1
  refine method_meetsIn PySem.F.slot_dict_values PySem.F.entry_dict_values rfl (PySem.evalArgs_none ⟨rfl, hraw.typeIs, PySem.F.args_dict_values_1 _, _, vals_meet (es := es) (ep := ep) hs0, hraw, ?_⟩)
  refine Calls.spliced_nil ?_
  have I2 : Inv X pins σ H1 { s1 with heap := s1.heap.push { cls := .type "dict_values", data := .fields #[.ref d] } } := I1.kept (t' := s1.toks) fun b ob q => Heap.get?_push_of_some _ q
  refine PySem.W.kdl_call (vals_src (d := d) (es := es) (ep := ep)) (I1.ok.hd hc) ⟨⟨_, Heap.get?_push_size _ rfl, rfl, rfl⟩, hraw.push _⟩ (by omega) fun h' tk acc c' kp ge ia => ?_
  have ea : acc.toList = vs.map (·.2) := by
    rw [← pairs_vals hpr]
    apply List.ext_getElem?
    intro j
    rw [List.getElem?_map]
    cases hj : acc.toList[j]? with
    | none =>
      have := List.getElem?_eq_none_iff.mp hj
      rw [Array.length_toList, ia.1] at this
      rw [List.getElem?_eq_none (by rw [Array.length_toList]; exact this)]
      all_goals rfl
    | some v =>
      obtain ⟨en, hen, hv⟩ := ia.2 j v (by rw [← Array.getElem?_toList]; exact hj)
      rw [Array.getElem?_toList, hen, hv]
      all_goals rfl
  have rv : Vals (kvs.map (·.2)) acc.toList := by
    rw [ea]
    exact kv_vals rel
  refine ⟨.ref _, _, I2.laid (t' := tk) (o := .lst (kvs.map (·.2))) kp (Nat.le_refl _) ?_, rfl, q _ (I2.hok.fresh (Nat.le_refl _))⟩
  exact ⟨by rw [List.length_map]; omega, acc.toList, c', rv, by rw [Array.toArray_toList]; exact ge⟩
end
end DvT
set_option Elab.async false
set_option linter.all false
set_option maxRecDepth 100000
set_option maxHeartbeats 8000000
/-! KR: _law_renamed_right. -/
namespace G
open PySem PySem.Spec PyProof.Rows L2 NdefX DvT StX SkL LamX PySem.W
abbrev sRen : Stmt := topS 37
abbrev nRen : List Str := ["_law_rows", "_law_answers", "_law_names_here", "_law_twin", "_law_more", "_law_both", "_law_row", "_law_pair"]
theorem scRen : FnScope nRen ["_law_rows", "_law_answers", "_law_names_here"] (defScope sRen) := ⟨rfl, rfl, rfl, by decide +kernel, rfl, by decide +kernel, by decide +kernel⟩
def scIn2 : Scope := { kind := .function, names := [(".0", .local), ("_law_pair", .local), ("_law_twin", .cell)], isGenerator := false, isCoroutine := false }
def spRen (T : List (Addr × Str)) : Sp := fun vs H Q _ => ∃ (l d n : Addr) (zs ns : List Str) (kvs : List (Key × V)) (an : Str → List Int), vs = [.ref l, .ref d, .ref n] ∧ H l = some (.lst (zs.map V.str)) ∧ RowsOk zs ∧ AnsOf H d kvs zs an ∧ H n = some (.lst (ns.map V.str)) ∧ ns.Nodup ∧ (∀ z ∈ ns, NameZ z) ∧ zs.length ≤ ns.length ∧ ns.length ≤ 40 ∧ Tabs T H ∧
  ∀ H', ExtN H H' → Tabs T H' → Q (.bl true) H'
theorem cutV_takeR (xs : List V) (k : Nat) : cutV xs none (some (k : Int)) = xs.take k := by
  unfold cutV
  rw [HT.sIx_none, HT.sIx_nat, List.drop_zero, Nat.sub_zero]
  by_cases h : k ≤ xs.length
  · rw [Nat.min_eq_left h]
  · rw [Nat.min_eq_right (by omega), List.take_length, List.take_of_length_le (by omega)]
theorem merge_nd : ∀ (more acc : List (Key × V)), ((acc ++ more).map (·.1)).Nodup → mergeK acc more = acc ++ more
  | [], acc, _ => by
    rw [List.append_nil]
    rfl
  | p :: r, acc, h => by
    have e : acc ++ p :: r = (acc ++ [p]) ++ r := by rw [List.append_assoc]; rfl
    have hn : p.1 ∉ acc.map (·.1) := by
      rw [List.map_append, List.map_cons, List.nodup_append] at h
      intro hm
      exact h.2.2 _ hm _ List.mem_cons_self rfl
    show mergeK (putK acc p.1 p.2) r = _
    rw [putK_new _ (valV_not_mem hn), e]
    rw [e] at h
    exact merge_nd r (acc ++ [p]) h
theorem paired_imp {α β : Type} {F G : α → β → Prop} (h : ∀ a b, F a b → G a b) : ∀ {l : List α} {m : List β}, Paired F l m → Paired G l m
  | [], _, .nil => .nil
  | _ :: _, _, .cons a b => .cons (h _ _ a) (paired_imp h b)
theorem paired_of {α β : Type} {F : α → β → Prop} : ∀ {l : List α} {m : List β}, l.length = m.length → (∀ (j : Nat) a b, l[j]? = some a → m[j]? = some b → F a b) → Paired F l m
  | [], [], _, _ => .nil
  | a :: l, b :: m, h, f => .cons (f 0 a b rfl rfl) (paired_of (Nat.succ.inj h) fun j a b e1 e2 => f (j + 1) a b (by simpa using e1) (by simpa using e2))
/-! ### the other names -/
def twF (zs ns : List Str) (z : Str) : Str := (ns[ixS zs z]?).getD z
def twA (zs ns : List Str) (an : Str → List Int) (y : Str) : List Int := an ((zs[ixS ns y]?).getD y)
def twK (zs ns : List Str) : List (Key × V) := (zs.zip ns).map fun p => (Sum.inr p.1, V.str p.2)
theorem twF_at {zs ns : List Str} {i : Nat} {z n : Str} (nd : zs.Nodup) (h1 : zs[i]? = some z) (h2 : ns[i]? = some n) : twF zs ns z = n := by
  unfold twF
  rw [ixS_nd nd h1, h2]
  rfl
theorem twA_at {zs ns : List Str} {an : Str → List Int} {i : Nat} {z n : Str} (nd : ns.Nodup) (h1 : zs[i]? = some z) (h2 : ns[i]? = some n) : twA zs ns an n = an z := by
  unfold twA
  rw [ixS_nd nd h2, h1]
  rfl
theorem twF_map {zs ns : List Str} (nd : zs.Nodup) (hl : zs.length ≤ ns.length) : zs.map (twF zs ns) = ns.take zs.length := by
  apply List.ext_getElem?
  intro i
  rw [List.getElem?_map, List.getElem?_take]
  by_cases h : i < zs.length
  · rw [if_pos h, List.getElem?_eq_getElem h, List.getElem?_eq_getElem (by omega)]
    exact congrArg some (twF_at nd (List.getElem?_eq_getElem h) (List.getElem?_eq_getElem (by omega)))
  · rw [if_neg h, List.getElem?_eq_none (by omega)]
    rfl
theorem twA_F {zs ns : List Str} {an : Str → List Int} (nz : zs.Nodup) (nn : ns.Nodup) (hl : zs.length ≤ ns.length) : ∀ z ∈ zs, twA zs ns an (twF zs ns z) = an z := fun z hz => by
  have h1 := ixS_at hz
  have lt := ixS_lt hz
  have h2 : ns[ixS zs z]? = some ns[ixS zs z] := List.getElem?_eq_getElem (by omega)
  rw [twF_at nz h1 h2]
  exact twA_at nn h1 h2
theorem twK_keys {zs ns : List Str} (hl : zs.length ≤ ns.length) : (twK zs ns).map (·.1) = zs.map Sum.inr := by
  unfold twK
  rw [List.map_map]
  have : ((fun p : Str × Str => (Sum.inr p.1 : Key)) : Str × Str → Key) = (Sum.inr : Str → Key) ∘ Prod.fst := rfl
  show (zs.zip ns).map (fun p => (Sum.inr p.1 : Key)) = _
  rw [this, ← List.map_map, List.map_fst_zip (by omega)]
theorem twK_val {zs ns : List Str} (nd : zs.Nodup) (hl : zs.length ≤ ns.length) {z : Str} (hz : z ∈ zs) : valV (twK zs ns) (Sum.inr z) = some (.str (twF zs ns z)) := by
  have m : (Sum.inr z : Key) ∈ (twK zs ns).map (·.1) := by
    rw [twK_keys hl]
    exact List.mem_map.mpr ⟨z, hz, rfl⟩
  obtain ⟨v, e1, e2⟩ := valV_mem m
  rw [e1]
  obtain ⟨p, hp, e⟩ := List.mem_map.mp e2
  obtain ⟨i, hi⟩ := List.mem_iff_getElem?.mp hp
  rw [List.getElem?_zip_eq_some] at hi
  have e3 : (Sum.inr p.1 : Key) = Sum.inr z := congrArg Prod.fst e
  have e4 : V.str p.2 = v := congrArg Prod.snd e
  have e5 : p.1 = z := Sum.inr.inj e3
  rw [← e4, ← e5]
  rw [twF_at nd hi.1 hi.2]
structure TwP (H : Hp) (f : Str → Str) (zs : List Str) (t : Addr) : Prop where
  is : ∃ (a b : Addr) (us : List Str), H t = some (.tup [.ref a, .ref b]) ∧ H a = some (.lst (us.map V.str)) ∧ H b = some (.lst ((us.map f).map V.str)) ∧ (∀ u ∈ us, u ∈ zs) ∧ us.length ≤ 40
theorem TwP.ext {H H' : Hp} {f : Str → Str} {zs : List Str} {t : Addr} (h : TwP H f zs t) (x : ExtN H H') : TwP H' f zs t := by
  obtain ⟨a, b, us, h1, h2, h3, h4, h5⟩ := h.is
  exact ⟨a, b, us, x _ _ h1 fun _ z => (nomatch z), x _ _ h2 fun _ z => (nomatch z), x _ _ h3 fun _ z => (nomatch z), h4, h5⟩
theorem Tabs.upd_lst {T : List (Addr × Str)} {H : Hp} {m : Addr} {xs ys : List V} (t : Tabs T H) (e : H m = some (.lst xs)) : Tabs T (upd H m (.lst ys)) := fun p hp => by
  obtain ⟨ps, h1, h2, h3⟩ := t p hp
  refine ⟨ps, (upd_ne fun z => ?_).trans h1, h2, fun pos cv hc => ?_⟩
  · rw [z, e] at h1
    cases h1
  · obtain ⟨c, e1, e2⟩ := h3 pos cv hc
    refine ⟨c, e1, (upd_ne fun z => ?_).trans e2⟩
    rw [z, e] at e2
    unfold CodeO at e2
    cases e2
theorem extN_upd {H H1 : Hp} {m : Addr} {o : HO} (x : ExtN H H1) (n : ∀ u, H m = some u → ∃ ps, u = .tbl ps) : ExtN H (upd H1 m o) := fun b u e k => by
  refine (upd_ne fun z => ?_).trans (x b u e k)
  rw [z] at e
  obtain ⟨ps, e2⟩ := n u e
  exact k ps e2
/-- free, but for tables -/
theorem extN_free {H H1 : Hp} {m : Addr} (x : ExtN H H1) (n : H1 m = none) : ∀ u, H m = some u → ∃ ps, u = .tbl ps := fun u e => by
  by_cases h : ∃ ps, u = HO.tbl ps
  · exact h
  · have := x m u e fun ps z => h ⟨ps, z⟩
    rw [n] at this
    cases this
theorem valV_in {kvs : List (Key × V)} {k : Key} {v : V} (nd : (kvs.map (·.1)).Nodup) (h : (k, v) ∈ kvs) : valV kvs k = some v := by
  induction kvs with
  | nil => exact nomatch h
  | cons p r ih =>
    rw [List.map_cons, List.nodup_cons] at nd
    rcases List.mem_cons.mp h with e | h
    · rw [← e]
      exact valV_pos rfl
    · have ne : ¬ p.1 = k := fun e => nd.1 (by rw [e]; exact List.mem_map.mpr ⟨_, h, rfl⟩)
      exact (valV_neg ne).trans (ih nd.2 h)
theorem TwP.at {H H' : Hp} {f : Str → Str} {zs : List Str} {t : Addr} (h : TwP H f zs t) {m : Addr} (nm : ∀ xs, H m = some (.lst xs) → False) (k : ∀ c o, c ≠ m → H c = some o → H' c = some o) (nt : ∀ xs, H m = some (.tup xs) → False) : TwP H' f zs t := by
  obtain ⟨a, b, us, h1, h2, h3, h4, h5⟩ := h.is
  exact ⟨a, b, us, k _ _ (fun z => nt _ (by rw [← z]; exact h1)) h1, k _ _ (fun z => nm _ (by rw [← z]; exact h2)) h2, k _ _ (fun z => nm _ (by rw [← z]; exact h3)) h3, h4, h5⟩
section
variable {P : Program} {w : World} {K : PySem.W.Frag} {mg : Str → Option Value} {base : Heap}
/-- the answer: no pair is unlike -/
theorem ren_ret {cdv : Value} {A : Around} {outer : List Env} {s : Shared} {H : Hp} {E : XK} {f : Addr}
    (hu : (A.deeper (envOfC "_law_renamed_right" (defScope sRen) s.heap.objs.size f cdv)).units + 64 < cLine) :
    ∃ t, PSs (cxOf CX0 P w K mg base nRen "_law_renamed_right" (defScope sRen) f cdv A outer s H E).nox ((defBody sRen).drop 4) t ∧
      ∀ (De : Ends) (x0 x1 x2 x4 x6 x7 : Option V) (tw bo t1 t2 : Addr) (zs ns : List Str) (H0 : Hp), zs.Nodup → zs.length ≤ ns.length → (∀ z ∈ ns, NameZ z) → zs.length ≤ 40 → H0 tw = some (.dK (twK zs ns)) → H0 bo = some (.lst [.ref t1, .ref t2]) → TwP H0 (twF zs ns) zs t1 → TwP H0 (twF zs ns) zs t2 →
        (∀ H', Same H0 H' → De.rt (.bl true) H') →
        t De [x0, x1, x2, some (.ref tw), x4, some (.ref bo), x6, x7] H0 := by
  have hu1 : (A.deeper (envOfC "_law_renamed_right" (defScope sRen) s.heap.objs.size f cdv)).units + 1 < cLine := by omega
  refine ⟨_, pss_one (ps_ret (pe_cmpR (r := rEqD K) (op_eqD (by exact hu)) (pe_lc (own := [("_law_pair", 7)]) (g := gName 7) (by rfl) scRen.nd (pi_list (pv 5)) (blkOk_by (own := [("_law_pair", 7)]) (N := nRen) (sc := defScope sRen) (by decide +kernel)) (fun _ _ _ _ _ => pg_name (i := 7) scRen.nd rfl (.inl rfl))
      (fun _ _ _ _ _ => pts_one (pt_cmpR (r := rNeD K) (op_neD (by exact hu)) (by exact pe_lc (wi := iList K (tOp (rIxT K) (tVar 7) (tC (.int 0)))) (te := tDGet (tVar 3) (tVar 6)) (own := [("_law_row", 6)]) (g := gName 6) (tt := tYes) (by rfl) scRen.nd (pi_list (pe_ix (r := rIxT K) ix_tup (pv 7) pe_int (fun _ _ => rfl))) (blkOk_by (own := [("_law_row", 6)]) (N := nRen) (sc := scIn2) (by decide +kernel)) (fun _ _ _ _ _ => pg_name (i := 6) scRen.nd rfl (.inl rfl)) (fun _ _ _ _ _ => pts_nil) (fun _ _ _ _ _ => pe_dget hu1 (pv 3) (pv 6) (fun _ _ => rfl)))
        (pe_ix (r := rIxT K) ix_tup (pv 7) pe_int (fun _ _ => rfl)) (nomark _))) (fun _ _ _ _ _ => pv 7)) (pe_lst pa_nil) (nomark _))), ?_⟩
  intro De x0 x1 x2 x4 x6 x7 tw bo t1 t2 zs ns H0 nd hl nm few etw ebo p1 p2 q
  refine ⟨_, rfl, bo, rfl, ⟨_, .of ebo⟩, fun D hD => ?_⟩
  refine lc_list (xs := [.ref t1, .ref t2]) (fun j H2 => Same H0 H2 ∧ H2 D = some (.lst [])) ?_ ?_ ?_ ?_
  · exact ⟨Same.new hD, upd_same⟩
  · exact fun j H2 _ h => .of (h.1 _ _ ebo)
  · rintro j x H2 hx ⟨s2, e2⟩
    obtain ⟨t, rfl, pt⟩ : ∃ t, x = .ref t ∧ TwP H0 (twF zs ns) zs t := by
      match j, hx with
      | 0, hx => exact ⟨t1, (Option.some.inj hx).symm, p1⟩
      | 1, hx => exact ⟨t2, (Option.some.inj hx).symm, p2⟩
    obtain ⟨a, b, us, et, ea, eb, hus, lus⟩ := pt.is
    refine ⟨rfl, ?_⟩
    refine ⟨_, rfl, t, _, _, .ref a, rfl, rfl, .of (s2 _ _ et), rfl, a, rfl, ⟨_, .of (s2 _ _ ea)⟩, fun D2 hD2 => ?_⟩
    refine lc_list (xs := us.map V.str) (fun i H3 => Same H2 H3 ∧ H3 D2 = some (.lst (((us.take i).map (twF zs ns)).map V.str))) ?_ ?_ ?_ ?_
    · exact ⟨Same.new hD2, upd_same⟩
    · exact fun i H3 _ h => .of (h.1 _ _ (s2 _ _ ea))
    · rintro i x H3 hx3 ⟨s3, e3⟩
      rw [List.getElem?_map] at hx3
      obtain ⟨z, hz, rfl⟩ := Option.map_eq_some_iff.mp hx3
      have mz := hus z (List.mem_of_getElem? hz)
      have g := DGet.k (k := Sum.inr z) (s3 _ _ (s2 _ _ etw))
      rw [twK_val nd hl mz] at g
      refine ⟨rfl, ?_⟩
      unfold tYes
      dsimp only
      rw [if_pos rfl]
      refine ⟨_, rfl, _, rfl, tw, _, rfl, g, _, e3, ?_, fun c o e => (upd_ne (ne_of_none e hD2)).trans (s3 _ _ e), ?_⟩
      · rw [List.length_map, List.length_map, List.length_take]
        exact small1000 (by omega)
      · rw [upd_same, take_snoc hz, List.map_append, List.map_append]
        rfl
    · rintro H3 ⟨s3, e3⟩
      rw [List.length_map, List.take_length] at e3
      have nmu : ∀ z ∈ us.map (twF zs ns), NameZ z := fun z hz => by
        obtain ⟨u, hu', rfl⟩ := List.mem_map.mp hz
        have m := List.mem_map_of_mem (f := twF zs ns) (hus u hu')
        rw [twF_map nd hl] at m
        exact nm _ (List.mem_of_mem_take m)
      refine ⟨_, rfl, t, _, _, .ref b, rfl, rfl, .of (s3 _ _ (s2 _ _ et)), rfl, .list ((us.map (twF zs ns)).map PyData.str), .list ((us.map (twF zs ns)).map PyData.str), .lst (.of e3) (dp_strs _), .lst (.of (s3 _ _ (s2 _ _ eb))) (dp_strs _), strs_shaped nmu, strs_shaped nmu, _, rfl, ?_⟩
      rw [SeqAt.eqv_refl _ (SeqAt.canLay_of_shaped (strs_shaped nmu))]
      exact iteF ⟨s2.trans s3, s3 _ _ e2⟩
  · rintro H2 ⟨s2, e2⟩
    refine ⟨Nat.zero_le _, fun t ht => ?_⟩
    have s3 := Same.new (o := .lst []) ht
    refine ⟨.list [], .list [], .lst (.of (s3 _ _ e2)) .nil, .lst (.of upd_same) .nil, nil_shaped, nil_shaped, ?_⟩
    rw [eqv_nilK]
    exact q _ (s2.trans s3)
theorem ok_ren {f fO fG : Addr} {fd fdO fdG : FuncData} {T : List (Addr × Str)} (F : Fun K "_law_renamed_right" "_law_renamed_right" sRen f fd)
    (GO : FnOk P w K mg base CX0 6 fO fdO ["rows", "answers"] (spOrd K T)) (gO : mg "ordered" = some (.ref fO)) (kO : PySem.W.keepIn K (.ref fO) = true) (bO : Binds K fdO ["rows", "answers"] [])
    (GF : FnOk P w K mg base CX0 6 fG fdG ["rows", "answers"] (spFirst K)) (gF : mg "first_ones" = some (.ref fG)) (kF : PySem.W.keepIn K (.ref fG) = true) (bF : Binds K fdG ["rows", "answers"] [])
    (md : mg "dict" = none) (mL : mg "list" = none) (mz : mg "zip" = none) (ml : mg "len" = none) : FnOk P w K mg base CX0 7 f fd ["_law_rows", "_law_answers", "_law_names_here"] (spRen T) := by
  refine F.ok scRen (fun vs H Q E h => ?_) (fun cdv A outer s H vs Q E hr h => ?_)
  · obtain ⟨l, d, n, zs, ns, kvs, an, rfl, _⟩ := h
    rfl
  · obtain ⟨l, d, n, zs, ns, kvs, an, rfl, el, ro, ha, en, nn, nm, hl, few, hT, q⟩ := h
    have hu64 : (A.deeper (envOfC "_law_renamed_right" (defScope sRen) s.heap.objs.size f cdv)).units + 64 < cLine := hr.units
    have hu1 : (A.deeper (envOfC "_law_renamed_right" (defScope sRen) s.heap.objs.size f cdv)).units + 1 < cLine := by omega
    obtain ⟨tz, pz, qz⟩ := ren_ret (P := P) (w := w) (K := K) (mg := mg) (base := base) (outer := outer) (H := H) (E := E) (cdv := cdv) (s := s) (f := f) hu64
    refine ⟨_, pss_cons (ps_set (i := 3) scRen.nd rfl (.inr rfl) (pe_callTy (call_dictP rfl) (by rfl) md (by decide +kernel) (pa_cons (ZlM.pe_listZip rfl (pa_cons (pv 0) (pa_cons (pv 2) pa_nil)) (by rfl) mL (by rfl) mz) pa_nil)))
      (pss_cons (ps_set (i := 4) scRen.nd rfl (.inl rfl) (pe_callTy (call_dictP rfl) (by rfl) md (by decide +kernel) (pa_cons (pe_lc (own := [("_law_row", 6)]) (g := gName 6) (tt := tYes) (by rfl) scRen.nd (pi_list (pv 0)) (blkOk_by (own := [("_law_row", 6)]) (N := nRen) (sc := defScope sRen) (by decide +kernel)) (fun _ _ _ _ _ => pg_name (i := 6) scRen.nd rfl (.inl rfl)) (fun _ _ _ _ _ => pts_nil)
          (fun _ _ _ _ _ => pe_tup (pa_cons (pe_dget hu1 (pv 3) (pv 6) (fun _ _ => rfl)) (pa_cons (pe_dget hu1 (pv 1) (pv 6) (fun _ _ => rfl)) pa_nil)))) pa_nil)))
      (pss_cons (ps_set (i := 5) scRen.nd rfl (.inl rfl) (pe_lst (pa_cons (pe_tup (pa_cons (pe_call GO hr rfl gO kO bO .nil pass0 (pa_cons (pv 0) (pa_cons (pv 1) pa_nil)))
          (pa_cons (pe_call GO hr rfl gO kO bO .nil pass0 (pa_cons (pe_slice (r := rSlL K) sl_list (pv 2) po_none (po_some (pe_callB call_len_seq (by rfl) ml PySem.boot_len (pa_cons (pv 0) pa_nil)))) (pa_cons (pv 4) pa_nil))) pa_nil))) pa_nil)))
      (pss_cons (ps_expr (pe_bm PySem.F.plainAttrs_list PySem.F.slot_list_append PySem.F.type_list_append mt_append (pv 5) (pa_cons (pe_tup (pa_cons (pe_call GF hr rfl gF kF bF .nil pass0 (pa_cons (pv 0) (pa_cons (pv 1) pa_nil)))
          (pa_cons (pe_call GF hr rfl gF kF bF .nil pass0 (pa_cons (pe_slice (r := rSlL K) sl_list (pv 2) po_none (po_some (pe_callB call_len_seq (by rfl) ml PySem.boot_len (pa_cons (pv 0) pa_nil)))) (pa_cons (pv 4) pa_nil))) pa_nil))) pa_nil)))
      pz))), ?_⟩
    have few' := ro.few
    -- the twin names
    refine ⟨_, rfl, _, rfl, l, n, _, _, rfl, .of el, .of en, by rw [List.length_map, List.length_map]; exact hl, by rw [List.length_map]; omega, fun p ts H1 np s1 ep lts fts nts hts => ?_⟩
    rw [List.length_map] at lts
    have ltw : (twK zs ns).length = zs.length := by
      unfold twK
      rw [List.length_map, List.length_zip]
      omega
    refine ⟨p, ts, twK zs ns, rfl, .of ep, paired_of (by rw [lts, ltw]) fun j t kv e1 e2 => ?_, fun tw htw => ?_⟩
    · unfold twK at e2
      rw [List.getElem?_map] at e2
      obtain ⟨u, hu, rfl⟩ := Option.map_eq_some_iff.mp e2
      rw [List.getElem?_zip_eq_some] at hu
      exact .of (hts j t (V.str u.1) (V.str u.2) e1 (by rw [List.getElem?_map, hu.1]; rfl) (by rw [List.getElem?_map, hu.2]; rfl))
    have ndk : ((twK zs ns).map (·.1)).Nodup := by
      rw [twK_keys hl]
      exact List.Pairwise.map _ (fun a b h e => h (Sum.inr.inj e)) ro.nd
    rw [merge_nd (twK zs ns) [] ndk, List.nil_append]
    have t2 := Same.new (o := .dK (twK zs ns)) htw
    have etw : upd H1 tw (.dK (twK zs ns)) tw = some (.dK (twK zs ns)) := upd_same
    have s2 : Same H (upd H1 tw (.dK (twK zs ns))) := Same.trans s1 t2
    generalize upd H1 tw (.dK (twK zs ns)) = H2 at etw s2 ⊢
    have el2 := s2 _ _ el
    have ha2 := ha.same s2
    have nd' : (zs.map (twF zs ns)).Nodup := by
      rw [twF_map ro.nd hl]
      exact (List.take_sublist _ _).nodup nn
    -- the other answers
    refine ⟨_, rfl, l, rfl, ⟨_, .of el2⟩, fun D hD => ?_⟩
    refine lc_list (xs := zs.map V.str) (fun i H3 => Same H2 H3 ∧ ∃ (qs : List Addr) (ks : List (Key × V)), H3 D = some (.lst (qs.map V.ref)) ∧ qs.length = i ∧ Paired (fun p (kv : Key × V) => H3 p = some (.tup [kV kv.1, kv.2])) qs ks ∧ ks.map (·.1) = ((zs.take i).map (twF zs ns)).map Sum.inr ∧ ∀ z ∈ zs.take i, ∃ v, (Sum.inr (twF zs ns z), v) ∈ ks ∧ AnsAt H3 v (an z)) ?_ ?_ ?_ ?_
    · exact ⟨Same.new hD, [], [], upd_same, rfl, .nil, rfl, fun _ h => nomatch h⟩
    · exact fun i H3 _ h => .of (h.1 _ _ el2)
    · rintro i x H3 hx ⟨s3, qs, ks, e3, lq, pr, nk, av⟩
      rw [List.getElem?_map] at hx
      obtain ⟨z, hz, rfl⟩ := Option.map_eq_some_iff.mp hx
      have mz : z ∈ zs := List.mem_of_getElem? hz
      have lti := (List.getElem?_eq_some_iff.mp hz).1
      have g := DGet.k (k := Sum.inr z) (s3 _ _ etw)
      rw [twK_val ro.nd hl mz] at g
      have ha3 := ha2.same s3
      obtain ⟨v, ev, av0⟩ := ha3.is z mz
      have g2 := DGet.k (k := Sum.inr z) ha3.d
      rw [ev] at g2
      refine ⟨rfl, ?_⟩
      unfold tYes
      dsimp only
      rw [if_pos rfl]
      refine ⟨_, rfl, _, rfl, tw, _, rfl, g, _, rfl, _, rfl, d, _, rfl, g2, (by show 2 ≤ sizeLine; decide), fun t ht => ?_⟩
      have s4 := Same.new (o := .tup [.str (twF zs ns z), v]) ht
      have et : upd H3 t (.tup [.str (twF zs ns z), v]) t = some (.tup [.str (twF zs ns z), v]) := upd_same
      generalize upd H3 t (.tup [.str (twF zs ns z), v]) = H4 at s4 et ⊢
      have e4 := s4 _ _ e3
      have off : ∀ c xs o, H4 c = some (.tup xs) → upd H4 D o c = some (.tup xs) := fun c xs o e => (upd_ne (ne_of e e4 (fun z => nomatch z))).trans e
      refine ⟨_, e4, ?_, fun c o e => (upd_ne (ne_of_none e hD)).trans (s4 _ _ (s3 _ _ e)), qs ++ [t], ks ++ [(Sum.inr (twF zs ns z), v)], ?_, ?_, ?_, ?_, ?_⟩
      · rw [List.length_map, lq]
        exact small1000 (by omega)
      · rw [upd_same, List.map_append]
        rfl
      · rw [List.length_append, lq]
        rfl
      · exact Paired.snoc (paired_imp (fun p kv e => off _ _ _ (s4 _ _ e)) pr) (off _ _ _ et)
      · rw [List.map_append, nk, take_snoc hz, List.map_append, List.map_append]
        rfl
      · intro y hy
        rw [take_snoc hz] at hy
        rcases List.mem_append.mp hy with hy | hy
        · obtain ⟨u, h1, h2⟩ := av y hy
          exact ⟨u, List.mem_append_left _ h1, h2.at fun c xs e => off _ _ _ (s4 _ _ e)⟩
        · rw [List.mem_singleton.mp hy]
          exact ⟨v, List.mem_append_right _ (List.mem_singleton.mpr rfl), av0.at fun c xs e => off _ _ _ (s4 _ _ e)⟩
    · rintro H3 ⟨s3, qs, ks, e3, lq, pr, nk, av⟩
      rw [List.length_map, List.take_length] at nk av
      have ndk2 : (ks.map (·.1)).Nodup := by
        rw [nk]
        exact List.Pairwise.map _ (fun a b h e => h (Sum.inr.inj e)) nd'
      refine ⟨D, qs, ks, rfl, .of e3, paired_imp (fun p kv e => .of e) pr, fun dm hdm => ?_⟩
      rw [merge_nd ks [] ndk2, List.nil_append]
      have t4 := Same.new (o := .dK ks) hdm
      have edm : upd H3 dm (.dK ks) dm = some (.dK ks) := upd_same
      have ham : AnsOf (upd H3 dm (.dK ks)) dm ks (zs.map (twF zs ns)) (twA zs ns an) := ⟨edm, fun y hy => by
        obtain ⟨z, hz, rfl⟩ := List.mem_map.mp hy
        obtain ⟨v, h1, h2⟩ := av z hz
        refine ⟨v, valV_in ndk2 h1, ?_⟩
        rw [twA_F ro.nd nn hl z hz]
        exact h2.same t4⟩
      have s4 := (s2.trans s3).trans t4
      have etw4 := (s3.trans t4) _ _ etw
      generalize upd H3 dm (.dK ks) = H4 at ham s4 etw4 ⊢
      have ro' : RowsOk (zs.map (twF zs ns)) := ⟨by rw [List.length_map]; exact few', nd', fun y hy => by
        rw [twF_map ro.nd hl] at hy
        exact nm y (List.mem_of_mem_take hy)⟩
      have T4 := hT.ext s4
      have x4 := ExtN.of s4
      have cut : (ns.map V.str).take ((zs.map V.str).length) = (zs.map (twF zs ns)).map V.str := by
        rw [twF_map ro.nd hl, List.map_take, List.length_map]
      -- both ordered
      refine ⟨_, rfl, _, rfl, l, d, zs, kvs, an, rfl, .inl (.of (s4 _ _ el)), ro, ha.same s4, T4, fun o1 H5 x5 T5 no1 => ?_⟩
      have t6 := Same.new (o := .lst ((sortedBy an zs).map V.str)) no1
      have eo1 : upd H5 o1 (.lst ((sortedBy an zs).map V.str)) o1 = some (.lst ((sortedBy an zs).map V.str)) := upd_same
      have x46 := x5.trans (ExtN.of t6)
      have T6 := T5.ext t6
      generalize upd H5 o1 (.lst ((sortedBy an zs).map V.str)) = H6 at eo1 x46 T6 ⊢
      have x6 := x4.trans x46
      have el6 : H6 l = some (.lst (zs.map V.str)) := x6 _ _ el fun _ z => nomatch z
      have en6 : H6 n = some (.lst (ns.map V.str)) := x6 _ _ en fun _ z => nomatch z
      refine ⟨_, rfl, _, rfl, l, _, rfl, .inl (.of el6), _, rfl, n, _, rfl, .of en6, fun c hc => ?_⟩
      rw [cutV_takeR, cut]
      have t7 := Same.new (o := .lst ((zs.map (twF zs ns)).map V.str)) hc
      have ec : upd H6 c (.lst ((zs.map (twF zs ns)).map V.str)) c = some (.lst ((zs.map (twF zs ns)).map V.str)) := upd_same
      have eo17 := t7 _ _ eo1
      have x47 := x46.trans (ExtN.of t7)
      have T7 := T6.ext t7
      generalize upd H6 c (.lst ((zs.map (twF zs ns)).map V.str)) = H7 at ec eo17 x47 T7 ⊢
      refine ⟨_, rfl, c, dm, _, ks, twA zs ns an, rfl, .inl (.of ec), ro', ham.ext x47, T7, fun o2 H8 x8 T8 no2 => ?_⟩
      rw [sorted_map (twF zs ns) (twA_F ro.nd nn hl)]
      have t9 := Same.new (o := .lst (((sortedBy an zs).map (twF zs ns)).map V.str)) no2
      have eo2 : upd H8 o2 (.lst (((sortedBy an zs).map (twF zs ns)).map V.str)) o2 = some (.lst (((sortedBy an zs).map (twF zs ns)).map V.str)) := upd_same
      have eo19 : upd H8 o2 (.lst (((sortedBy an zs).map (twF zs ns)).map V.str)) o1 = some (.lst ((sortedBy an zs).map V.str)) := t9 _ _ (x8 _ _ eo17 fun _ z => nomatch z)
      have x49 := (x47.trans x8).trans (ExtN.of t9)
      have T9 := T8.ext t9
      generalize upd H8 o2 (.lst (((sortedBy an zs).map (twF zs ns)).map V.str)) = H9 at eo2 eo19 x49 T9 ⊢
      refine ⟨(by show 2 ≤ sizeLine; decide), fun t1 ht1 => ?_⟩
      have ta := Same.new (o := .tup [.ref o1, .ref o2]) ht1
      have et1 : upd H9 t1 (.tup [.ref o1, .ref o2]) t1 = some (.tup [.ref o1, .ref o2]) := upd_same
      have pt1 : TwP (upd H9 t1 (.tup [.ref o1, .ref o2])) (twF zs ns) zs t1 := ⟨o1, o2, sortedBy an zs, et1, ta _ _ eo19, ta _ _ eo2, fun u hu => (sortedBy_perm an zs).mem_iff.mp hu, by rw [(sortedBy_perm an zs).length_eq]; exact few'⟩
      have x4a := x49.trans (ExtN.of ta)
      have Ta := T9.ext ta
      generalize upd H9 t1 (.tup [.ref o1, .ref o2]) = Ha at pt1 x4a Ta ⊢
      refine ⟨(by show 1 ≤ sizeLine; decide), fun bo hbo => ?_⟩
      have nbo : ∀ u, H bo = some u → ∃ ps, u = .tbl ps := extN_free (x4.trans x4a) hbo
      have ntw : tw ≠ bo := ne_of_none (x4a _ _ etw4 fun _ z => nomatch z) hbo
      have tb := Same.new (o := .lst [.ref t1]) hbo
      have ebo : upd Ha bo (.lst [.ref t1]) bo = some (.lst [.ref t1]) := upd_same
      have offb : ∀ {c : Addr} {o : HO}, Ha c = some o → c ≠ bo := fun e => ne_of_none e hbo
      have x4b := x4a.trans (ExtN.of tb)
      have Tb := Ta.ext tb
      obtain ⟨pa, pb, us, h1, h2, h3, h4, h5⟩ := pt1.is
      have n1 := offb h1
      have n2 := offb h2
      have n3 := offb h3
      have g1 := tb _ _ h1
      have g2 := tb _ _ h2
      have g3 := tb _ _ h3
      generalize upd Ha bo (.lst [.ref t1]) = Hb at ebo x4b Tb g1 g2 g3 ⊢
      have xb := x4.trans x4b
      have elb : Hb l = some (.lst (zs.map V.str)) := xb _ _ el fun _ z => nomatch z
      have enb : Hb n = some (.lst (ns.map V.str)) := xb _ _ en fun _ z => nomatch z
      -- both first rows
      refine ⟨_, rfl, .inl ⟨rfl, _, .of ebo⟩, _, rfl, _, rfl, l, d, zs, kvs, an, rfl, .inl (.of elb), ro, ha.ext xb, fun f1 Hc sc nf1 ef1 => ?_⟩
      have elc := sc _ _ elb
      have enc := sc _ _ enb
      refine ⟨_, rfl, _, rfl, l, _, rfl, .inl (.of elc), _, rfl, n, _, rfl, .of enc, fun c2 hc2 => ?_⟩
      rw [cutV_takeR, cut]
      have td := Same.new (o := .lst ((zs.map (twF zs ns)).map V.str)) hc2
      have ec2 : upd Hc c2 (.lst ((zs.map (twF zs ns)).map V.str)) c2 = some (.lst ((zs.map (twF zs ns)).map V.str)) := upd_same
      generalize upd Hc c2 (.lst ((zs.map (twF zs ns)).map V.str)) = Hd at td ec2 ⊢
      have sd := sc.trans td
      have x4d := x4b.trans (ExtN.of sd)
      refine ⟨_, rfl, c2, dm, _, ks, twA zs ns an, rfl, .inl (.of ec2), ro', ham.ext x4d, fun f2 He se nf2 ef2 => ?_⟩
      have efm : firstsOf (twA zs ns an) (zs.map (twF zs ns)) = (firstsOf an zs).map (twF zs ns) := by
        unfold firstsOf
        rw [firsts_map (twF zs ns) zs (twA_F ro.nd nn hl), List.map_map, List.map_map]
        rfl
      rw [efm] at ef2
      refine ⟨(by show 2 ≤ sizeLine; decide), fun t2' ht2 => ?_⟩
      have tf := Same.new (o := .tup [.ref f1, .ref f2]) ht2
      have et2 : upd He t2' (.tup [.ref f1, .ref f2]) t2' = some (.tup [.ref f1, .ref f2]) := upd_same
      have sbf := (sd.trans se).trans tf
      have ef1f := (td.trans se).trans tf _ _ ef1
      have ef2f := tf _ _ ef2
      have m1 : f1 ≠ bo := (ne_of_none ebo nf1).symm
      have m2 : f2 ≠ bo := (ne_of_none (sd _ _ ebo) nf2).symm
      have m3 : t2' ≠ bo := (ne_of_none ((sd.trans se) _ _ ebo) ht2).symm
      generalize upd He t2' (.tup [.ref f1, .ref f2]) = Hf at et2 sbf ef1f ef2f ⊢
      have ebof := sbf _ _ ebo
      have Tf := Tb.ext sbf
      have xf := xb.trans (ExtN.of sbf)
      have etwf : Hf tw = some (.dK (twK zs ns)) := (x4b.trans (ExtN.of sbf)) _ _ etw4 fun _ z => nomatch z
      refine ⟨bo, _, _, rfl, rfl, ebof, (by show 1 < sizeLine; decide), ?_⟩
      have lfs := (firsts_sub an zs).length_le
      refine qz _ _ _ _ _ _ _ tw bo t1 t2' zs ns _ ro.nd hl nm few' ((upd_ne ntw).trans etwf) upd_same ⟨pa, pb, us, (upd_ne n1).trans (sbf _ _ g1), (upd_ne n2).trans (sbf _ _ g2), (upd_ne n3).trans (sbf _ _ g3), h4, h5⟩
        ⟨f1, f2, firstsOf an zs, (upd_ne m3).trans et2, (upd_ne m1).trans ef1f, (upd_ne m2).trans ef2f, fun u hu => (firsts_sub an zs).subset hu, by omega⟩ fun H' s' => ?_
      exact q H' ((extN_upd xf nbo).trans (ExtN.of s')) ((Tabs.upd_lst Tf ebof).ext s')
end
end G
set_option Elab.async false
set_option linter.all false
set_option maxRecDepth 100000
set_option maxHeartbeats 8000000
/-! KL: the law's body from filtered on. -/
namespace G
open PySem PySem.Spec PyProof.Rows L2 NdefX DvT StX SkL LamX PySem.W
abbrev sLaw : Stmt := topS 38
abbrev nLaw : List Str := ["_law_script", "_law_k", "_law_box_here", "_law_names_here", "_law_rows", "_law_answers", "_law_bools", "_law_some", "_law_row"]
theorem scLaw : FnScope nLaw ["_law_script"] (defScope sLaw) := ⟨rfl, rfl, rfl, by decide +kernel, rfl, by decide +kernel, by decide +kernel⟩
abbrev loopK : List Stmt := forBody ((defBody sLaw).getD 0 (.Pass ⟨0, 0, 0, 0⟩))
theorem dp_bools {K : PySem.W.Frag} {H : Hp} : ∀ bs : List Bool, DpAll K H (bs.map V.bl) (bs.map PyData.bool)
  | [] => .nil
  | b :: bs => .cons (.bl b) (dp_bools bs)
theorem bools_lay : ∀ bs : List Bool, PyData.canLayAll0 (bs.map PyData.bool) = true
  | [] => by simp [PyData.canLayAll0]
  | b :: bs => by simp [PyData.canLayAll0, PyData.canLay0, bools_lay bs]
theorem bools_depth : ∀ bs : List Bool, PyData.depthAll (bs.map PyData.bool) = 0
  | [] => by simp [PyData.depthAll]
  | b :: bs => by simp [PyData.depthAll, PyData.depth, bools_depth bs]
theorem bools_shaped (bs : List Bool) : SeqAt.shaped (.list (bs.map PyData.bool)) = true := by
  show (PyData.canLay0 (.list (bs.map PyData.bool)) && decide (PyData.depth (.list (bs.map PyData.bool)) ≤ 64)) = true
  rw [Bool.and_eq_true]
  refine ⟨by simp only [PyData.canLay0]; exact bools_lay bs, decide_eq_true ?_⟩
  simp only [PyData.depth, bools_depth]
  decide
theorem true_shaped : SeqAt.shaped (.bool true) = true := by
  show (PyData.canLay0 (.bool true) && decide (PyData.depth (.bool true) ≤ 64)) = true
  simp [PyData.canLay0, PyData.depth]
theorem count_true (bo : Str → Bool) : ∀ zs : List Str, ((zs.map bo).map PyData.bool).countP (fun z => PyData.eqv z (.bool true)) = (zs.filter bo).length
  | [] => rfl
  | z :: zs => by
    rw [List.map_cons, List.map_cons, List.countP_cons, count_true bo zs, List.filter_cons]
    cases h : bo z with
    | true => simp [PyData.eqv]
    | false => simp [PyData.eqv]
section
variable {P : Program} {w : World} {K : PySem.W.Frag} {mg : Str → Option Value} {base : Heap}
theorem law_tail {fP fI fR fG fN : Addr} {fdP fdI fdR fdG fdN : FuncData} {T : List (Addr × Str)} {cdv : Value} {A : Around} {outer : List Env} {s : Shared} {H : Hp} {E : XK} {f : Addr}
    (GP : FnOk P w K mg base CX0 3 fP fdP ["rows", "answers"] (spFil K)) (gP : mg "filtered" = some (.ref fP)) (kP : PySem.W.keepIn K (.ref fP) = true) (bP : Binds K fdP ["rows", "answers"] [])
    (GI : FnOk P w K mg base CX0 1 fI fdI ["_law_some", "_law_rows"] (spInO K)) (gI : mg "_law_in_order" = some (.ref fI)) (kI : PySem.W.keepIn K (.ref fI) = true) (bI : Binds K fdI ["_law_some", "_law_rows"] [])
    (GR : FnOk P w K mg base CX0 7 fR fdR ["_law_rows", "_law_answers"] (spOrR T)) (gR : mg "_law_ordered_right" = some (.ref fR)) (kR : PySem.W.keepIn K (.ref fR) = true) (bR : Binds K fdR ["_law_rows", "_law_answers"] [])
    (GG : FnOk P w K mg base CX0 7 fG fdG ["_law_rows", "_law_answers"] spGrR) (gG : mg "_law_groups_right" = some (.ref fG)) (kG : PySem.W.keepIn K (.ref fG) = true) (bG : Binds K fdG ["_law_rows", "_law_answers"] [])
    (GN : FnOk P w K mg base CX0 7 fN fdN ["_law_rows", "_law_answers", "_law_names_here"] (spRen T)) (gN : mg "_law_renamed_right" = some (.ref fN)) (kN : PySem.W.keepIn K (.ref fN) = true) (bN : Binds K fdN ["_law_rows", "_law_answers", "_law_names_here"] [])
    (ml : mg "len" = none) (mL : mg "list" = none)
    (hr : Room 7 (A.deeper (envOfC "law" (defScope sLaw) s.heap.objs.size f cdv))) :
    ∃ t, PSs (cxOf CX0 P w K mg base nLaw "law" (defScope sLaw) f cdv A outer s H E).nox (loopK.drop 5) t ∧
      ∀ (De : Ends) (x0 x1 x2 x7 x8 : Option V) (nl rl d bd : Addr) (ys zs : List Str) (kvs kb : List (Key × V)) (an : Str → List Int) (bo : Str → Bool) (H0 : Hp), H0 nl = some (.lst (ys.map V.str)) → ys.length = 24 → ys.Nodup → (∀ z ∈ ys, NameZ z) →
        H0 rl = some (.lst (zs.map V.str)) → RowsOk zs → zs.length ≤ 12 → AnsOf H0 d kvs zs an → BoolOf H0 bd kb zs bo → kb.map (·.2) = (zs.map bo).map V.bl → Tabs T H0 →
        (∀ (y7 y8 : Option V) (H' : Hp), ExtN H0 H' → Tabs T H' → De.nx [x0, x1, x2, some (.ref nl), some (.ref rl), some (.ref d), some (.ref bd), y7, y8] H') →
        t De [x0, x1, x2, some (.ref nl), some (.ref rl), some (.ref d), some (.ref bd), x7, x8] H0 := by
  have hr1 := hr.mono (show 1 ≤ 7 by decide)
  have hr3 := hr.mono (show 3 ≤ 7 by decide)
  have hu : (A.deeper (envOfC "law" (defScope sLaw) s.heap.objs.size f cdv)).units + 80 < cLine := by have := hr.un; omega
  have hu65 : (A.deeper (envOfC "law" (defScope sLaw) s.heap.objs.size f cdv)).units + 65 < cLine := by omega
  have hu64 : (A.deeper (envOfC "law" (defScope sLaw) s.heap.objs.size f cdv)).units + 64 < cLine := by omega
  have hu1 : (A.deeper (envOfC "law" (defScope sLaw) s.heap.objs.size f cdv)).units + 1 < cLine := by omega
  refine ⟨_, pss_cons (ps_set (i := 7) scLaw.nd rfl (.inl rfl) (pe_call GP hr3 rfl gP kP bP .nil pass0 (pa_cons (pv 4) (pa_cons (pv 6) pa_nil))))
    (pss_cons (ps_if (PW.pt (pw_or (pt_not (pt_val (pe_call GI hr1 rfl gI kI bI .nil pass0 (pa_cons (pv 7) (pa_cons (pv 4) pa_nil))))) (pw_or1 (pt_cmpR op_ne (pe_callB call_len_seq (by rfl) ml PySem.boot_len (pa_cons (pv 7) pa_nil))
        (pe_bm PySem.F.plainAttrs_list PySem.F.slot_list_count PySem.F.type_list_count (mt_countD (by exact hu65)) (DvT.pe_valsK rfl (pv 6) (by rfl) mL boot_list) (pa_cons pe_bl pa_nil)) (nomark _))))) (pss_one ps_never) pss_nil)
    (pss_cons (ps_if (PW.pt (pw_or (pt_cmpR (r := rNeD K) (op_neD (by exact hu64)) (pe_lc (own := [("_law_row", 8)]) (g := gName 8) (by rfl) scLaw.nd (pi_list (pv 7)) (blkOk_by (own := [("_law_row", 8)]) (N := nLaw) (sc := defScope sLaw) (by decide +kernel)) (fun _ _ _ _ _ => pg_name (i := 8) scLaw.nd rfl (.inl rfl))
          (fun _ _ _ _ _ => pts_one (pt_not (pt_val (pe_dget hu1 (pv 6) (pv 8) (fun _ _ => rfl))))) (fun _ _ _ _ _ => pv 8)) (pe_lst pa_nil) (nomark _))
        (pw_or1 (pt_not (pt_val (pe_call GR hr rfl gR kR bR .nil pass0 (pa_cons (pv 4) (pa_cons (pv 5) pa_nil)))))))) (pss_one ps_never) pss_nil)
    (pss_one (ps_if (PW.pt (pw_or (pt_not (pt_val (pe_call GG hr rfl gG kG bG .nil pass0 (pa_cons (pv 4) (pa_cons (pv 5) pa_nil))))) (pw_or1 (pt_not (pt_val (pe_call GN hr rfl gN kN bN .nil pass0 (pa_cons (pv 4) (pa_cons (pv 5) (pa_cons (pe_slice (r := rSlL K) sl_list (pv 3) (po_some pe_int) po_none) pa_nil))))))))) (pss_one ps_never) pss_nil)))), ?_⟩
  intro De x0 x1 x2 x7 x8 nl rl d bd ys zs kvs kb an bo H0 en ly ynd ynm er ro l12 ha hb hkb hT q
  have lf := List.length_filter_le bo zs
  -- filtered
  refine ⟨_, rfl, _, rfl, rl, bd, zs, kb, bo, rfl, .inl (.of er), ro, hb, fun sm H1 s1 nsm esm => ?_⟩
  have er1 := s1 _ _ er
  refine ⟨_, rfl, _, rfl, sm, rl, zs.filter bo, zs, rfl, .of esm, .of er1, List.filter_sublist, ro.nd, by omega, fun H2 s2 => ⟨_, rfl, iteF ?_⟩⟩
  have s02 := s1.trans s2
  have hb2 := hb.same s02
  refine ⟨_, rfl, sm, _, rfl, .inl (.of (s2 _ _ esm)), _, rfl, bd, kb, rfl, hb2.d, fun vl hvl => ?_⟩
  rw [hkb]
  have s3 := Same.new (o := .lst ((zs.map bo).map V.bl)) hvl
  refine ⟨.inl ⟨rfl, _, .of upd_same⟩, ?_⟩
  dsimp only [tNil]
  refine ⟨vl, .bl true, .bool true, (zs.map bo).map PyData.bool, rfl, rfl, .lst (.of upd_same) (dp_bools _), .bl true, bools_shaped _, true_shaped, ?_⟩
  rw [count_true]
  refine ⟨rfl, _, rfl, ne_ifI (by rw [List.length_map]) ?_⟩
  have s03 := s02.trans s3
  have esm3 := s3 _ _ (s2 _ _ esm)
  generalize upd H2 vl (.lst ((zs.map bo).map V.bl)) = H3 at s03 esm3 ⊢
  have hb3 := hb.same s03
  -- none is left out wrongly
  refine ⟨_, rfl, sm, rfl, ⟨_, .of esm3⟩, fun D hD => ?_⟩
  refine lc_list (xs := (zs.filter bo).map V.str) (fun i H4 => Same H3 H4 ∧ H4 D = some (.lst [])) ?_ ?_ ?_ ?_
  · exact ⟨Same.new hD, upd_same⟩
  · exact fun i H4 _ h => .of (h.1 _ _ esm3)
  · rintro i x H4 hx ⟨s4, e4⟩
    rw [List.getElem?_map] at hx
    obtain ⟨z, hz, rfl⟩ := Option.map_eq_some_iff.mp hx
    obtain ⟨mz, bz⟩ := List.mem_filter.mp (List.mem_of_getElem? hz)
    have hb4 := hb3.same s4
    have g := DGet.k (k := Sum.inr z) hb4.d
    rw [hb4.is z mz, bz] at g
    refine ⟨rfl, ?_⟩
    refine ⟨_, rfl, _, rfl, bd, _, rfl, g, _, rfl, ?_⟩
    exact iteF ⟨s4, e4⟩
  · rintro H4 ⟨s4, e4⟩
    refine ⟨Nat.zero_le _, fun t ht => ?_⟩
    have s5 := Same.new (o := .lst []) ht
    refine ⟨.list [], .list [], .lst (.of (s5 _ _ e4)) .nil, .lst (.of upd_same) .nil, nil_shaped, nil_shaped, _, rfl, ?_⟩
    rw [eqv_nilK]
    refine iteF ?_
    have s05 := s03.trans (s4.trans s5)
    generalize upd H4 t (.lst []) = H5 at s05 ⊢
    have T5 := hT.ext s05
    refine ⟨_, rfl, _, rfl, rl, d, zs, kvs, an, rfl, s05 _ _ er, ro, ha.same s05, T5, fun H6 x6 T6 => ⟨_, rfl, iteF ?_⟩⟩
    have x06 := (ExtN.of s05).trans x6
    have er6 : H6 rl = some (.lst (zs.map V.str)) := x06 _ _ er fun _ z => nomatch z
    have en6 : H6 nl = some (.lst (ys.map V.str)) := x06 _ _ en fun _ z => nomatch z
    have ha6 := ha.ext x06
    refine ⟨_, rfl, _, rfl, rl, d, zs, kvs, an, rfl, er6, ro, ha6, fun H7 s7 => ⟨_, rfl, iteF ?_⟩⟩
    have er7 := s7 _ _ er6
    have en7 := s7 _ _ en6
    have ha7 := ha6.same s7
    have x07 := x06.trans (ExtN.of s7)
    have T7 := T6.ext s7
    refine ⟨_, rfl, _, rfl, _, rfl, _, rfl, nl, _, rfl, .of en7, fun c hc => ?_⟩
    rw [show ((12 : Int)) = ((12 : Nat) : Int) from rfl, cutV_fromR _ _ (by rw [List.length_map, ly]; decide), ← List.map_drop]
    have s8 := Same.new (o := .lst ((ys.drop 12).map V.str)) hc
    refine ⟨rl, d, c, zs, ys.drop 12, kvs, an, rfl, s8 _ _ er7, ro, ha7.same s8, upd_same, (List.drop_sublist _ _).nodup ynd, fun z hz => ynm z (List.mem_of_mem_drop hz), by rw [List.length_drop, ly]; omega, by rw [List.length_drop, ly]; decide, T7.ext s8, fun H9 x9 T9 => ⟨_, rfl, iteF ?_⟩⟩
    exact q _ _ H9 ((x07.trans (ExtN.of s8)).trans x9) T9
end
end G
set_option Elab.async false
set_option linter.all false
set_option maxRecDepth 100000
set_option maxHeartbeats 8000000
/-! KM: the law keeps its promise. -/
namespace G
open PySem PySem.Spec PyProof.Rows L2 NdefX DvT StX SkL LamX PySem.W
theorem Tabs.butB {T : List (Addr × Str)} {b : Addr} {n : Nat} {H H' : Hp} (t : Tabs T H) (B : BoxAt H b n) (k : But b H H') : Tabs T H' := fun p hp => by
  obtain ⟨x, y, z, eb, _⟩ := B
  obtain ⟨ps, h1, h2, h3⟩ := t p hp
  refine ⟨ps, k _ _ (fun q => by rw [q, eb] at h1; cases h1) h1, h2, fun pos cv hc => ?_⟩
  obtain ⟨c, e1, e2⟩ := h3 pos cv hc
  refine ⟨c, e1, k _ _ (fun q => ?_) e2⟩
  rw [q, eb] at e2
  unfold CodeO at e2
  cases e2
theorem sqL_ext {K : PySem.W.Frag} {H H' : Hp} {l : Addr} {xs : List V} (s : ∀ c o, H c = some o → (∀ ps, o ≠ .tbl ps) → H' c = some o) : SqL K H l xs → SqL K H' l xs
  | .inl (.inl h) => .inl (.inl (s _ _ h fun _ z => nomatch z))
  | .inl (.inr ⟨o, h⟩) => .inl (.inr ⟨o, s _ _ h fun _ z => nomatch z⟩)
  | .inr h => .inr h
def spLaw (K : PySem.W.Frag) (T : List (Addr × Str)) : Sp := fun vs H Q _ => ∃ (a : Addr) (ns : List Int), vs = [.ref a] ∧ SqL K H a (ns.map V.int) ∧ ns.length ≤ 63 ∧ Tabs T H ∧ ∀ H', Q (.bl true) H'
section
variable {P : Program} {w : World} {K : PySem.W.Frag} {mg : Str → Option Value} {base : Heap}
theorem ok_law {f fc fb fT fn fM fW fP fI fR fG fN : Addr} {fd fdc fdb fdT fdn fdM fdW fdP fdI fdR fdG fdN : FuncData} {T : List (Addr × Str)} (F : Fun K "law" "law" sLaw f fd)
    (Fc : Fun K "_law_cell" "_law_cell" sCell fc fdc) (bc : Binds K fdc ["_law_script", "_law_k"] []) (gc : mg "_law_cell" = some (.ref fc))
    (Fb : Fun K "_law_box" "_law_box" sBox fb fdb) (bb : Binds K fdb ["_law_cell_here"] []) (gb : mg "_law_box" = some (.ref fb))
    (FT : Fun K "_law_take" "_law_take" sTake fT fdT) (bT : Binds K fdT ["_law_box_here", "_law_many"] []) (gT : mg "_law_take" = some (.ref fT))
    (kn : PySem.W.keepIn K (.ref fn) = true) (bn : Binds K fdn ["_law_box_here", "_law_many"] []) (gn : mg "_law_names" = some (.ref fn)) (Gn : FnOk P w K mg base CX0 3 fn fdn ["_law_box_here", "_law_many"] spNamesD)
    (GM : FnOk P w K mg base CX0 2 fM fdM ["_law_box_here", "_law_some"] (spMixR K)) (gM : mg "_law_mixed" = some (.ref fM)) (kM : PySem.W.keepIn K (.ref fM) = true) (bM : Binds K fdM ["_law_box_here", "_law_some"] [])
    (GW : FnOk P w K mg base CX0 3 fW fdW ["_law_box_here", "_law_rows"] (spFew K)) (gW : mg "_law_few_answers" = some (.ref fW)) (kW : PySem.W.keepIn K (.ref fW) = true) (bW : Binds K fdW ["_law_box_here", "_law_rows"] [])
    (GP : FnOk P w K mg base CX0 3 fP fdP ["rows", "answers"] (spFil K)) (gP : mg "filtered" = some (.ref fP)) (kP : PySem.W.keepIn K (.ref fP) = true) (bP : Binds K fdP ["rows", "answers"] [])
    (GI : FnOk P w K mg base CX0 1 fI fdI ["_law_some", "_law_rows"] (spInO K)) (gI : mg "_law_in_order" = some (.ref fI)) (kI : PySem.W.keepIn K (.ref fI) = true) (bI : Binds K fdI ["_law_some", "_law_rows"] [])
    (GR : FnOk P w K mg base CX0 7 fR fdR ["_law_rows", "_law_answers"] (spOrR T)) (gR : mg "_law_ordered_right" = some (.ref fR)) (kR : PySem.W.keepIn K (.ref fR) = true) (bR : Binds K fdR ["_law_rows", "_law_answers"] [])
    (GG : FnOk P w K mg base CX0 7 fG fdG ["_law_rows", "_law_answers"] spGrR) (gG : mg "_law_groups_right" = some (.ref fG)) (kG : PySem.W.keepIn K (.ref fG) = true) (bG : Binds K fdG ["_law_rows", "_law_answers"] [])
    (GN : FnOk P w K mg base CX0 7 fN fdN ["_law_rows", "_law_answers", "_law_names_here"] (spRen T)) (gN : mg "_law_renamed_right" = some (.ref fN)) (kN : PySem.W.keepIn K (.ref fN) = true) (bN : Binds K fdN ["_law_rows", "_law_answers", "_law_names_here"] [])
    (mr : mg "range" = none) (mmx : mg "max" = none) (mmn : mg "min" = none) (ml : mg "len" = none) (mL : mg "list" = none) (md : mg "dict" = none) : FnG P w K mg base CX0 8 f fd ["_law_script"] (spLaw K T) := by
  have Gc : FnOk P w K mg base CX0 1 fc fdc ["_law_script", "_law_k"] (spCell' K) := ok_cell Fc ml
  have Gb : FnOk P w K mg base CX0 1 fb fdb ["_law_cell_here"] spBox := ok_box Fb mmx
  have GT : FnOk P w K mg base CX0 1 fT fdT ["_law_box_here", "_law_many"] spTake := ok_take FT
  refine FnG.of_body F scLaw (fun vs H Q E h => ?_) (fun cdv A outer s H vs Q E hg hr h => ?_)
  · obtain ⟨a, ns, rfl, _⟩ := h
    rfl
  · obtain ⟨a, ns, rfl, hS, hl, hT, q⟩ := h
    have hr1 := hr.mono (show 1 ≤ 7 by decide)
    have hr2 := hr.mono (show 2 ≤ 7 by decide)
    have hr3 := hr.mono (show 3 ≤ 7 by decide)
    obtain ⟨tz, pz, qz⟩ := law_tail (P := P) (w := w) (base := base) (outer := outer) (H := H) (E := E) (cdv := cdv) (s := s) (f := f) GP gP kP bP GI gI kI bI GR gR kR bR GG gG kG bG GN gN kN bN ml mL hr
    refine ⟨_, pss_cons (ps_for PassesOwn.never rfl (pi_range1 rfl mr (pa_cons (pe_callB (call_max2 rfl) (by rfl) mmx (by decide +kernel) (pa_cons pe_int (pa_cons (pe_callB (call_min2 rfl) (by rfl) mmn (by decide +kernel)
          (pa_cons (pe_callB call_len_seq (by rfl) ml PySem.boot_len (pa_cons (pv 0) pa_nil)) (pa_cons pe_int pa_nil))) pa_nil))) pa_nil)) (pg_name (i := 1) scLaw.nd rfl (.inl rfl))
        (pss_cons (ps_set (i := 2) scLaw.nd rfl (.inr rfl) (pe_call Gb hr1 rfl gb Fb.kp bb .nil pass0 (pa_cons (pe_call Gc hr1 rfl gc Fc.kp bc .nil pass0 (pa_cons (pv 0) (pa_cons (pv 1) pa_nil))) pa_nil)))
        (pss_cons (ps_set (i := 3) scLaw.nd rfl (.inl rfl) (pe_call Gn hr3 rfl gn kn bn .nil pass0 (pa_cons (pv 2) (pa_cons pe_int pa_nil))))
        (pss_cons (ps_set (i := 4) scLaw.nd rfl (.inl rfl) (pe_slice (r := rSlL K) sl_list (pe_call GM hr2 rfl gM kM bM .nil pass0 (pa_cons (pv 2) (pa_cons (pe_slice (r := rSlL K) sl_list (pv 3) po_none (po_some pe_int)) pa_nil))) po_none (po_some
            (pe_call GT hr1 rfl gT FT.kp bT .nil pass0 (pa_cons (pv 2) (pa_cons pe_int pa_nil))))))
        (pss_cons (ps_set (i := 5) scLaw.nd rfl (.inl rfl) (pe_call GW hr3 rfl gW kW bW .nil pass0 (pa_cons (pv 2) (pa_cons (pv 4) pa_nil))))
        (pss_cons (ps_set (i := 6) scLaw.nd rfl (.inr rfl) (pe_callTy (call_dictP rfl) (by rfl) md (by decide +kernel) (pa_cons (pe_lc (own := [("_law_row", 8)]) (g := gName 8) (tt := tYes) (by rfl) scLaw.nd (pi_list (pv 4)) (blkOk_by (own := [("_law_row", 8)]) (N := nLaw) (sc := defScope sLaw) (by decide +kernel)) (fun _ _ _ _ _ => pg_name (i := 8) scLaw.nd rfl (.inl rfl)) (fun _ _ _ _ _ => pts_nil)
            (fun _ _ _ _ _ => pe_tup (pa_cons (pv 8) (pa_cons (pe_cmpR op_eq (pe_call GT hr1 rfl gT FT.kp bT .nil pass0 (pa_cons (pv 2) (pa_cons pe_int pa_nil))) pe_int (nomark _)) pa_nil)))) pa_nil)))
        pz))))))
      (pss_one (ps_ret pe_bl)), ?_⟩
    refine ⟨_, rfl, a, _, rfl, .inl hS, _, _, rfl, _, _, rfl, ?_⟩
    generalize hm : (if (if (6 : Int) < ((ns.map V.int).length : Int) then (6 : Int) else ((ns.map V.int).length : Int)) > 2 then (if (6 : Int) < ((ns.map V.int).length : Int) then (6 : Int) else ((ns.map V.int).length : Int)) else 2) = m
    have hm8 : 0 ≤ m ∧ m ≤ 6 := by
      rw [← hm]
      split <;> split at * <;> omega
    refine ⟨m, rfl, by omega, by omega, ?_⟩
    refine for_range (lo := 0) (n := m.toNat) (fun i σ H' => SqL K H' a (ns.map V.int) ∧ Tabs T H' ∧ ∃ x1 x2 x3 x4 x5 x6 x7 x8 : Option V, σ = [some (.ref a), x1, x2, x3, x4, x5, x6, x7, x8]) ?_ ?_ ?_
    · exact ⟨hS, hT, none, none, none, none, none, none, none, none, rfl⟩
    · rintro i σ H1 hi ⟨hS1, hT1, x1, x2, x3, x4, x5, x6, x7, x8, rfl⟩
      refine ⟨_, rfl, _, rfl, a, ns, 0 + i, rfl, hS1, by omega, by omega, fun cell => ⟨cell, rfl, fun b H2 nb s2 B2 => ?_⟩⟩
      -- the names
      refine ⟨_, rfl, b, 24, 0, rfl, B2, by decide, by decide, fun nl H3 ys ly yn ynd np3 e3 B3 k3 => ?_⟩
      have nnb := box_ne B2 np3
      -- the rows
      refine ⟨_, rfl, _, rfl, _, rfl, nl, _, rfl, .of e3, fun c hc => ?_⟩
      rw [show ((12 : Int)) = ((12 : Nat) : Int) from rfl, cutV_takeR, ← List.map_take]
      have t4 := Same.new (o := .lst ((ys.take 12).map V.str)) hc
      have ec : upd H3 c (.lst ((ys.take 12).map V.str)) c = some (.lst ((ys.take 12).map V.str)) := upd_same
      have B4 := B3.keep fun o e => t4 _ _ e
      have e4 := t4 _ _ e3
      have k24 := k3.trans (.same t4)
      generalize upd H3 c (.lst ((ys.take 12).map V.str)) = H4 at ec B4 e4 k24 ⊢
      have l12 : (ys.take 12).length = 12 := by rw [List.length_take, ly]; decide
      refine ⟨b, c, _, (ys.take 12).map V.str, rfl, B4, by rw [List.length_map]; omega, .of ec, fun mp H5 vs pmv npm em5 B5 k5 => ?_⟩
      obtain ⟨us, rfl, pmu⟩ := perm_map_inv pmv (ys.take 12) rfl
      rw [List.length_map] at B5
      have nmp := box_ne B4 npm
      refine ⟨_, rfl, b, 13, _, rfl, B5, by omega, by decide, by decide, fun r1 H6 r10 r11 B6 k6 => ?_⟩
      obtain ⟨j, rfl, hj⟩ := draw_at (n := 13) r10 r11 rfl
      refine ⟨_, rfl, mp, _, rfl, .of (k6 _ _ nmp em5), fun rl hrl => ?_⟩
      rw [cutV_takeR, ← List.map_take]
      have t7 := Same.new (o := .lst ((us.take j).map V.str)) hrl
      have er7 : upd H6 rl (.lst ((us.take j).map V.str)) rl = some (.lst ((us.take j).map V.str)) := upd_same
      have nrb := box_ne B6 hrl
      have B7 := B6.keep fun o e => t7 _ _ e
      have k27 : But b H2 (upd H6 rl (.lst ((us.take j).map V.str))) := (k24.trans (k5.trans k6)).trans (.same t7)
      have e7 := t7 _ _ ((k5.trans k6) _ _ nnb e4)
      generalize upd H6 rl (.lst ((us.take j).map V.str)) = H7 at er7 B7 k27 e7 ⊢
      have lus : us.length = 12 := by rw [pmu.length_eq, l12]
      have lzs : (us.take j).length ≤ 12 := by
        rw [List.length_take]
        omega
      have und : us.Nodup := pmu.nodup_iff.mpr ((List.take_sublist _ _).nodup ynd)
      have ro : RowsOk (us.take j) := ⟨by omega, (List.take_sublist _ _).nodup und, fun z hz => yn z (List.mem_of_mem_take (pmu.mem_iff.mp (List.mem_of_mem_take hz)))⟩
      generalize us.take j = zs at er7 k27 lzs ro ⊢
      -- the answers
      refine ⟨_, rfl, _, rfl, b, rl, _, zs, rfl, B7, by omega, .of er7, by omega, ro.nd, fun d H8 kvs vs an np8 B8 k8 pm fa => ?_⟩
      have ndb := box_ne B7 np8
      have k28 := k27.trans k8
      have e8 := k8 _ _ nnb e7
      have er8 := k8 _ _ nrb er7
      have ha8 := fa.ans (zs := zs) fun y hy => pm.mem_iff.mpr hy
      -- the truth values
      refine ⟨_, rfl, rl, rfl, ⟨_, .of er8⟩, fun D hD => ?_⟩
      have nDb := box_ne B8 hD
      refine lc_list (xs := zs.map V.str) (fun i7 H9 => ∃ (qs : List Addr) (kb : List (Key × V)) (bs : List Bool), H9 D = some (.lst (qs.map V.ref)) ∧ qs.length = i7 ∧ Paired (fun p (kv : Key × V) => H9 p = some (.tup [kV kv.1, kv.2])) qs kb ∧ kb.map (·.1) = (zs.take i7).map Sum.inr ∧ kb.map (·.2) = bs.map V.bl ∧ bs.length = i7 ∧ BoxAt H9 b (0 + 2000 + 1000 + i7) ∧ But b H8 H9) ?_ ?_ ?_ ?_
      · exact ⟨[], [], [], upd_same, rfl, .nil, rfl, rfl, rfl, (box_new B8 hD).mono (by omega), But.new hD⟩
      · rintro i7 H9 _ ⟨_, _, _, _, _, _, _, _, _, _, k9⟩
        exact .of (k9 _ _ nrb er8)
      · rintro i7 x H9 hx ⟨qs, kb, bs, e9, lq, pr, nk, vb, lb, B9, k9⟩
        rw [List.getElem?_map] at hx
        obtain ⟨z, hz, rfl⟩ := Option.map_eq_some_iff.mp hx
        have lti := (List.getElem?_eq_some_iff.mp hz).1
        refine ⟨rfl, ?_⟩
        unfold tYes
        dsimp only
        rw [if_pos rfl]
        refine ⟨_, rfl, _, rfl, b, 2, _, rfl, B9, by omega, by decide, by decide, fun r Ha _ _ Ba ka => ⟨rfl, (by show 2 ≤ sizeLine; decide), fun t ht => ?_⟩⟩
        have ta := Same.new (o := .tup [.str z, .bl (decide (V.int r = V.int 0))]) ht
        have et : upd Ha t (.tup [.str z, .bl (decide (V.int r = V.int 0))]) t = some (.tup [.str z, .bl (decide (V.int r = V.int 0))]) := upd_same
        have k9b : But b H9 (upd Ha t (.tup [.str z, .bl (decide (V.int r = V.int 0))])) := ka.trans (.same ta)
        have Bb := Ba.keep fun o e => ta _ _ e
        have eb := ta _ _ (ka _ _ nDb e9)
        generalize upd Ha t (.tup [.str z, .bl (decide (V.int r = V.int 0))]) = Hb at et k9b Bb eb ⊢
        have off : ∀ c xs o, Hb c = some (.tup xs) → upd Hb D o c = some (.tup xs) := fun c xs o e => (upd_ne (ne_of e eb (fun z => nomatch z))).trans e
        refine ⟨_, eb, ?_, qs ++ [t], kb ++ [(Sum.inr z, .bl (decide (V.int r = V.int 0)))], bs ++ [decide (V.int r = V.int 0)], ?_, ?_, ?_, ?_, ?_, ?_, ?_, ?_⟩
        · rw [List.length_map, lq]
          exact small1000 (by omega)
        · rw [upd_same, List.map_append]
          rfl
        · rw [List.length_append, lq]
          rfl
        · exact Paired.snoc (paired_imp (fun p kv e => off _ _ _ (k9b _ _ (tup_ne B9 e) e)) pr) (off _ _ _ et)
        · rw [List.map_append, nk, take_snoc hz, List.map_append]
          rfl
        · rw [List.map_append, vb, List.map_append]
          rfl
        · rw [List.length_append, lb]
          rfl
        · exact (box_upd Bb nDb).mono (by omega)
        · exact but_upd (k9.trans k9b) hD
      · rintro H9 ⟨qs, kb, bs, e9, lq, pr, nk, vb, lb, B9, k9⟩
        rw [List.length_map] at lq lb B9
        rw [List.length_map, List.take_length] at nk
        have ndk : (kb.map (·.1)).Nodup := by
          rw [nk]
          exact List.Pairwise.map _ (fun a b h e => h (Sum.inr.inj e)) ro.nd
        refine ⟨D, qs, kb, rfl, .of e9, paired_imp (fun p kv e => .of e) pr, fun bd hbd => ?_⟩
        rw [merge_nd kb [] ndk, List.nil_append]
        have ta := Same.new (o := .dK kb) hbd
        have ebd : upd H9 bd (.dK kb) bd = some (.dK kb) := upd_same
        have k8a : But b H8 (upd H9 bd (.dK kb)) := k9.trans (.same ta)
        generalize upd H9 bd (.dK kb) = Ha at ebd k8a ⊢
        let bo : Str → Bool := fun z => (bs[ixS zs z]?).getD false
        have lkb : kb.length = zs.length := by
          have := congrArg List.length nk
          rw [List.length_map, List.length_map] at this
          exact this
        have ebs : zs.map bo = bs := by
          apply List.ext_getElem?
          intro k
          rw [List.getElem?_map]
          by_cases h : k < zs.length
          · rw [List.getElem?_eq_getElem h, List.getElem?_eq_getElem (by omega)]
            show some ((bs[ixS zs zs[k]]?).getD false) = _
            rw [ixS_nd ro.nd (List.getElem?_eq_getElem h), List.getElem?_eq_getElem (by omega)]
            rfl
          · rw [List.getElem?_eq_none (by omega), List.getElem?_eq_none (by omega)]
            rfl
        have hb : BoolOf Ha bd kb zs bo := ⟨ebd, fun z hz => by
          refine valV_in ndk ?_
          have lt := ixS_lt hz
          have e1 : kb[ixS zs z]? = some kb[ixS zs z] := List.getElem?_eq_getElem (by omega)
          have e2 : kb[ixS zs z].1 = Sum.inr z := by
            have h1 : (kb.map (·.1))[ixS zs z]? = some kb[ixS zs z].1 := by rw [List.getElem?_map, e1]; rfl
            rw [nk, List.getElem?_map, ixS_at hz] at h1
            exact (Option.some.inj h1).symm
          have e3 : kb[ixS zs z].2 = .bl (bo z) := by
            have h1 : (kb.map (·.2))[ixS zs z]? = some kb[ixS zs z].2 := by rw [List.getElem?_map, e1]; rfl
            have h2 : bs[ixS zs z]? = some (bo z) := by
              refine (congrArg (fun l : List Bool => l[ixS zs z]?) ebs.symm).trans ?_
              show (zs.map bo)[ixS zs z]? = _
              rw [List.getElem?_map, ixS_at hz]
              rfl
            rw [vb, List.getElem?_map, h2] at h1
            exact (Option.some.inj h1).symm
          rw [← e2, ← e3]
          exact List.mem_of_getElem? e1⟩
        have k2a := k28.trans k8a
        have Ta : Tabs T Ha := Tabs.butB (hT1.ext s2) B2 k2a
        have haa : AnsOf Ha d kvs zs an := ⟨k8a _ _ ndb ha8.d, fun z hz => by
          obtain ⟨v, e, av⟩ := ha8.is z hz
          exact ⟨v, e, av.at fun c xs e => k8a _ _ (tup_ne B8 e) e⟩⟩
        refine qz _ _ _ _ _ _ nl rl d bd ys zs kvs kb an bo Ha (k8a _ _ nnb e8) ly ynd yn (k8a _ _ nrb er8) ro lzs haa hb (by rw [vb, ebs]) Ta fun y7 y8 H' x' T' => ?_
        refine ⟨sqL_ext (fun c o e nt => ?_) hS1, T', _, _, _, _, _, _, _, _, rfl⟩
        have n1 : c ≠ b := fun z => by
          rw [z, nb] at e
          cases e
        exact x' _ _ (k2a c o n1 (s2 _ _ e)) nt
    · rintro σ H1 ⟨_, _, x1, x2, x3, x4, x5, x6, x7, x8, rfl⟩
      exact q H1
end
end G
set_option Elab.async false
set_option linter.all false
set_option maxRecDepth 100000
set_option maxHeartbeats 2000000
/-! HK: the head's facts by a Hook of our own: methods that capture __class__, properties, instances that are called; the law's end over it. -/
namespace G
open PySem PySem.Spec PyProof.Rows L2 NdefX StX He

/-! ### defs by where they stand -/
/-- a def of the text: where it stands, its names, its statement, the names that it captures -/
structure Dp where
  at_ : PySem.W.Frag → Addr
  name : Str
  qual : Str
  st : Stmt
  clo : List Str
abbrev FnY : Type := Option (Str × Str × Arguments × FuncBody × Scope × Addr × List Str × Addr)
def fnY (K : PySem.W.Frag) (a : Addr) : FnY := match K.lookup a with
  | some ⟨_, _, .func fd, _⟩ => some (fd.name, fd.qualname, fd.params, fd.body, fd.scope, fd.globals, fd.closure.map (·.1), fd.builtins)
  | _ => none
def Dp.val (d : Dp) : FnY := some (d.name, d.qual, defArgs d.st, .stmts (defBody d.st), defScope d.st, mainGlobals, d.clo, builtinsNs)
def noneB : Value → Bool
  | .none => true
  | _ => false
/-- the def's code, no positional defaults -/
def codB (K : PySem.W.Frag) (a : Addr) (q : Str) : Bool := match K.lookup a with
  | some ⟨_, _, .func fd, _⟩ => PySem.W.codeIn K fd.code q && noneB fd.defaults
  | _ => false
def plainB (K : PySem.W.Frag) (a : Addr) (q : Str) : Bool := PySem.W.keepIn K (.ref a) && codB K a q
theorem fun_of {K : PySem.W.Frag} {a : Addr} {d : Dp} (e : fnY K a = d.val) (hc : d.clo = []) (c : plainB K a d.qual = true) : ∃ fd, Fun K d.name d.qual d.st a fd := by
  obtain ⟨kp, c2⟩ := ba c
  unfold fnY Dp.val at e
  rw [hc] at e
  unfold codB at c2
  cases q : K.lookup a with
  | none =>
    rw [q] at c2
    cases c2
  | some o =>
    obtain ⟨oc, od, dt, osl⟩ := o
    rw [q] at c2 e
    cases dt with
    | func fd =>
      obtain ⟨n1, n2, n3, n4, n5, n6, n7, n8, n9, n10, n11, n12, n13, n14, n15⟩ := fd
      have e2 : (some (n1, n2, n3, n4, n5, n6, n7.map (·.1), n15) : FnY) = some (d.name, d.qual, defArgs d.st, .stmts (defBody d.st), defScope d.st, mainGlobals, [], builtinsNs) := e
      simp only [Option.some.injEq, Prod.mk.injEq] at e2
      obtain ⟨h1, h2, h3, h4, h5, h6, h7, h8⟩ := e2
      have h7' : n7 = [] := List.map_eq_nil_iff.mp h7
      subst h1 h2 h3 h4 h5 h6 h7' h8
      have c3 : (PySem.W.codeIn K n13 d.qual && noneB n8) = true := c2
      obtain ⟨k1, k2⟩ := ba c3
      cases n8 with
      | none => exact ⟨_, ⟨oc, od, n9, n10, n11, n12, n13, n14, osl, rfl, q, k1⟩, kp⟩
      | _ => cases k2
    | _ => cases c2
/-- a def with one positional default, a thing in the heap -/
def dflD (K : PySem.W.Frag) (v : Value) : Bool := match v with
  | .ref T => (match K.lookup T with
    | some ⟨_, _, .seq its _, _⟩ => (match its.toList with
      | [.ref _] => true
      | _ => false)
    | _ => false)
  | _ => false
theorem dflD_ok {K : PySem.W.Frag} {v : Value} (h : dflD K v = true) : ∃ E : Addr, DflV K v [.ref E] := by
  unfold dflD at h
  split at h
  · rename_i T
    split at h
    · rename_i x1 x2 its n x3 ho
      split at h
      · rename_i E hE
        refine ⟨E, .inr ⟨(fun z => nomatch z), T, _, [.ref E], n, rfl, ho, ?_, .cons rfl .nil⟩⟩
        show Data.seq its n = _
        rw [← hE]
      · cases h
    · cases h
  · cases h
def codD (K : PySem.W.Frag) (a : Addr) (q : Str) : Bool := match K.lookup a with
  | some ⟨_, _, .func fd, _⟩ => PySem.W.codeIn K fd.code q && dflD K fd.defaults
  | _ => false
theorem fund_of {K : PySem.W.Frag} {a : Addr} {d : Dp} (e : fnY K a = d.val) (hc : d.clo = []) (c : (PySem.W.keepIn K (.ref a) && codD K a d.qual) = true) :
    ∃ (E : Addr) (fd : FuncData), FunD K d.name d.qual (defArgs d.st) (defBody d.st) (defScope d.st) [.ref E] [] a fd := by
  obtain ⟨kp, c2⟩ := ba c
  unfold fnY Dp.val at e
  rw [hc] at e
  unfold codD at c2
  cases q : K.lookup a with
  | none =>
    rw [q] at c2
    cases c2
  | some o =>
    obtain ⟨oc, od, dt, osl⟩ := o
    rw [q] at c2 e
    cases dt with
    | func fd =>
      obtain ⟨n1, n2, n3, n4, n5, n6, n7, n8, n9, n10, n11, n12, n13, n14, n15⟩ := fd
      have e2 : (some (n1, n2, n3, n4, n5, n6, n7.map (·.1), n15) : FnY) = some (d.name, d.qual, defArgs d.st, .stmts (defBody d.st), defScope d.st, mainGlobals, [], builtinsNs) := e
      simp only [Option.some.injEq, Prod.mk.injEq] at e2
      obtain ⟨h1, h2, h3, h4, h5, h6, h7, h8⟩ := e2
      have h7' : n7 = [] := List.map_eq_nil_iff.mp h7
      subst h1 h2 h3 h4 h5 h6 h7' h8
      have c3 : (PySem.W.codeIn K n13 d.qual && dflD K n8) = true := c2
      obtain ⟨k1, k2⟩ := ba c3
      obtain ⟨E, hE⟩ := dflD_ok k2
      exact ⟨E, _, ⟨oc, od, n8, n9, n10, n11, n12, n13, n14, osl, rfl, q, k1, hE, .inl rfl⟩, kp⟩
    | _ => cases c2
/-- a def with one keyword-only default, None -/
def kwN (K : PySem.W.Frag) (v : Value) (x : Str) : Bool := match v with
  | .ref D => eqO (PySem.W.nsIn K D x) (some (some .none))
  | _ => false
def codK (K : PySem.W.Frag) (a : Addr) (q x : Str) : Bool := match K.lookup a with
  | some ⟨_, _, .func fd, _⟩ => PySem.W.codeIn K fd.code q && (noneB fd.defaults && kwN K fd.kwdefaults x)
  | _ => false
theorem funk_of {K : PySem.W.Frag} {a : Addr} {d : Dp} {x : Str} (e : fnY K a = d.val) (hc : d.clo = []) (c : (PySem.W.keepIn K (.ref a) && codK K a d.qual x) = true) :
    ∃ fd : FuncData, FunD K d.name d.qual (defArgs d.st) (defBody d.st) (defScope d.st) [] [(x, .non)] a fd := by
  obtain ⟨kp, c2⟩ := ba c
  unfold fnY Dp.val at e
  rw [hc] at e
  unfold codK at c2
  cases q : K.lookup a with
  | none =>
    rw [q] at c2
    cases c2
  | some o =>
    obtain ⟨oc, od, dt, osl⟩ := o
    rw [q] at c2 e
    cases dt with
    | func fd =>
      obtain ⟨n1, n2, n3, n4, n5, n6, n7, n8, n9, n10, n11, n12, n13, n14, n15⟩ := fd
      have e2 : (some (n1, n2, n3, n4, n5, n6, n7.map (·.1), n15) : FnY) = some (d.name, d.qual, defArgs d.st, .stmts (defBody d.st), defScope d.st, mainGlobals, [], builtinsNs) := e
      simp only [Option.some.injEq, Prod.mk.injEq] at e2
      obtain ⟨h1, h2, h3, h4, h5, h6, h7, h8⟩ := e2
      have h7' : n7 = [] := List.map_eq_nil_iff.mp h7
      subst h1 h2 h3 h4 h5 h6 h7' h8
      have c3 : (PySem.W.codeIn K n13 d.qual && (noneB n8 && kwN K n9 x)) = true := c2
      obtain ⟨k1, k2⟩ := ba c3
      obtain ⟨k2, k3⟩ := ba k2
      cases n8 with
      | none =>
        cases n9 with
        | ref D =>
          refine ⟨_, ⟨oc, od, .none, .ref D, n10, n11, n12, n13, n14, osl, rfl, q, k1, .inl ⟨rfl, rfl⟩, .inr ⟨D, rfl, fun p hp => ?_⟩⟩, kp⟩
          rw [List.mem_singleton.mp hp]
          exact ⟨.none, eqO_ok k3, rfl⟩
        | _ => cases k3
      | _ => cases k2
    | _ => cases c2
/-- a method that captures __class__ -/
def celC (K : PySem.W.Frag) (cc C : Addr) : Bool := match K.lookup cc with
  | some ⟨_, _, .cell (some (.ref D)), _⟩ => decide (D = C)
  | _ => false
def cloB (K : PySem.W.Frag) (a C : Addr) : Bool := match K.lookup a with
  | some ⟨_, _, .func fd, _⟩ => (match fd.closure with
    | [(_, cc)] => celC K cc C
    | _ => false)
  | _ => false
/-- .. its code object's file -/
def filC (K : PySem.W.Frag) (c : Addr) (file : Str) : Bool := match K.lookup c with
  | some ⟨_, _, .fields vs, _⟩ => (match vs.toList[2]? with
    | some (Value.str fl _) => file == fl
    | _ => false)
  | _ => false
def filV (K : PySem.W.Frag) (v : Value) (file : Str) : Bool := match v with
  | .ref c => filC K c file
  | _ => false
def filB (K : PySem.W.Frag) (a : Addr) (file : Str) : Bool := match K.lookup a with
  | some ⟨_, _, .func fd, _⟩ => filV K fd.code file
  | _ => false
def kwV (K : PySem.W.Frag) (a : Addr) : Value := match K.lookup a with
  | some ⟨_, _, .func fd, _⟩ => fd.kwdefaults
  | _ => .none
/-- what FunX and SupOf want of the def at a, of the class at C -/
structure ClsDef (P : Program) (K : PySem.W.Frag) (d : Dp) (a C : Addr) : Prop where
  ex : ∃ (oc : Value) (od : Option Addr) (doc pm ct : Value) (an : Option Addr) (osl : Array (Option Value)) (cda cc : Addr) (oc3 : Value) (od3 : Option Addr) (sl3 : Array (Option Value)) (oc2 : Value) (od2 : Option Addr) (vs : Array Value) (sl2 : Array (Option Value)) (fl : Str) (tf : Tok),
    K.lookup a = some ⟨oc, od, .func (PySem.W.ksFn d.name d.qual (defArgs d.st) (defBody d.st) (defScope d.st) .none (kwV K a) doc pm an (.ref cda) ct cc), osl⟩ ∧ PySem.W.codeIn K (.ref cda) d.qual = true ∧
    K.lookup cc = some ⟨oc3, od3, .cell (some (.ref C)), sl3⟩ ∧ K.lookup cda = some ⟨oc2, od2, .fields vs, sl2⟩ ∧ vs.toList[2]? = some (Value.str fl tf) ∧ ((P.main.file : Str) == fl) = true
theorem clsdef_of {P : Program} {K : PySem.W.Frag} {a C : Addr} {d : Dp} (e : fnY K a = d.val) (hc : d.clo = [("__class__" : Str)]) (c : (codB K a d.qual && (cloB K a C && filB K a P.main.file)) = true) : ClsDef P K d a C := by
  obtain ⟨c1, c23⟩ := ba c
  obtain ⟨c2, c3⟩ := ba c23
  unfold fnY Dp.val at e
  rw [hc] at e
  unfold codB at c1
  unfold cloB at c2
  unfold filB at c3
  cases q : K.lookup a with
  | none =>
    rw [q] at c1
    cases c1
  | some o =>
    obtain ⟨oc, od, dt, osl⟩ := o
    rw [q] at c1 c2 c3 e
    cases dt with
    | func fd =>
      have ekw : kwV K a = fd.kwdefaults := by
        unfold kwV
        rw [q]
      obtain ⟨n1, n2, n3, n4, n5, n6, n7, n8, n9, n10, n11, n12, n13, n14, n15⟩ := fd
      have e2 : (some (n1, n2, n3, n4, n5, n6, n7.map (·.1), n15) : FnY) = some (d.name, d.qual, defArgs d.st, .stmts (defBody d.st), defScope d.st, mainGlobals, [("__class__" : Str)], builtinsNs) := e
      simp only [Option.some.injEq, Prod.mk.injEq] at e2
      obtain ⟨h1, h2, h3, h4, h5, h6, h7, h8⟩ := e2
      obtain ⟨cc, rfl⟩ : ∃ cc, n7 = [(("__class__" : Str), cc)] := by
        match n7, h7 with
        | [(y, cc)], h7 =>
          have : y = ("__class__" : Str) := by
            have h9 : [y] = [("__class__" : Str)] := h7
            exact List.head_eq_of_cons_eq h9
          exact ⟨cc, by rw [this]⟩
      subst h1 h2 h3 h4 h5 h6 h8
      have c4 : (PySem.W.codeIn K n13 d.qual && noneB n8) = true := c1
      obtain ⟨k1, k2⟩ := ba c4
      have c5 : celC K cc C = true := c2
      unfold celC at c5
      have c6 : filV K n13 P.main.file = true := c3
      obtain ⟨oc3, od3, sl3, hcell⟩ : ∃ oc3 od3 sl3, K.lookup cc = some ⟨oc3, od3, .cell (some (.ref C)), sl3⟩ := by
        split at c5
        · rename_i x1 x2 D x3 ho
          rw [of_decide_eq_true c5] at ho
          exact ⟨_, _, _, ho⟩
        · cases c5
      cases n13 with
      | ref cda =>
        have c7 : filC K cda P.main.file = true := c6
        unfold filC at c7
        obtain ⟨oc2, od2, vs, sl2, fl, tf, w1, w2, w3⟩ : ∃ oc2 od2 vs sl2 fl tf, K.lookup cda = some ⟨oc2, od2, .fields vs, sl2⟩ ∧ vs.toList[2]? = some (Value.str fl tf) ∧ ((P.main.file : Str) == fl) = true := by
          split at c7
          · rename_i x1 x2 vs x3 ho
            split at c7
            · rename_i fl tf hv
              exact ⟨_, _, vs, _, fl, tf, ho, hv, c7⟩
            · cases c7
          · cases c7
        cases n8 with
        | none =>
          refine ⟨oc, od, n10, n11, n14, n12, osl, cda, cc, oc3, od3, sl3, oc2, od2, vs, sl2, fl, tf, ?_, k1, hcell, w1, w2, w3⟩
          rw [ekw]
          exact q
        | _ => cases k2
      | _ => cases c6
    | _ => cases c1
/-- what super() rests on besides -/
def supB (K : PySem.W.Frag) (C f2 : Addr) : Bool := PySem.W.isClsIn K C && (decide (PySem.W.mroIn K C (.ref C) = some true) && (eqO (PySem.W.nsIn K cStatics "thirdparty.any") (some none) && (eqO (PySem.W.ks_superIn K C C "__init__") (some (some (.ref f2))) &&
  (decide (PySem.W.typeIn K (.ref f2) = some (.type "function")) && PySem.W.fnIn K f2))))
/-! ### properties, calls -/
def getr (K : PySem.W.Frag) (p : Addr) : Addr := match PySem.W.recIn K p "property" with
  | some (.ref g :: _) => g
  | _ => 0
def proB (K : PySem.W.Frag) (C : Addr) (f : Str) : Bool := eqO (PySem.W.findIn K (.ref C) f) (some (some (.ref (ma K C f)))) && (eqO (PySem.W.specialIn K (.ref (ma K C f)) "__get__") (some (some (.builtin "property.__get__"))) &&
  (decide (PySem.W.takesIn K (.ref (ma K C f)) = some true) && (match PySem.W.recIn K (ma K C f) "property" with
    | some (.ref _ :: _) => true
    | _ => false)))
theorem pro_ok {K : PySem.W.Frag} {C : Addr} {f : Str} (h : proB K C f = true) : PropOf K C f (ma K C f) (getr K (ma K C f)) := by
  obtain ⟨c1, c⟩ := ba h
  obtain ⟨c2, c⟩ := ba c
  obtain ⟨c3, c4⟩ := ba c
  refine ⟨eqO_ok c1, eqO_ok c2, of_decide_eq_true c3, ?_⟩
  unfold getr
  split at c4
  · rename_i g rest e
    rw [e]
    exact ⟨rest, rfl⟩
  · cases c4
def calB (K : PySem.W.Frag) (C : Addr) : Bool := eqO (PySem.W.findIn K (.ref C) "__call__") (some (some (.ref (ma K C "__call__")))) && (PySem.W.isFn K (.ref (ma K C "__call__")) && PySem.W.fnIn K (ma K C "__call__"))
theorem cal_ok {K : PySem.W.Frag} {C : Addr} (h : calB K C = true) : CallO K C (ma K C "__call__") := by
  obtain ⟨c1, c⟩ := ba h
  obtain ⟨c2, c3⟩ := ba c
  exact ⟨eqO_ok c1, c2, c3⟩
/-! ### the Hook -/
/-- what an object names, as far as the facts ask -/
def refsQ (o : Obj) : List Addr := match o.data with
  | .dict es _ => es.toList.flatMap fun e => refV e.val
  | .func fd => refV fd.code ++ (refV fd.defaults ++ (refV fd.kwdefaults ++ fd.closure.map (·.2)))
  | .cls cd => [cd.ns]
  | .fields vs => (match o.cls with
    | .type n => (match decide (n = "property") with
      | true => vs.toList.flatMap refV
      | false => [])
    | _ => [])
  | _ => []
def frL {α : Type} : List Addr → (List Addr → α) → α
  | [], k => k []
  | a :: r, k => HandSHeadRun.frNat a fun a => frL r fun r => k (a :: r)
theorem frL_eq {α : Type} : ∀ (l : List Addr) (k : List Addr → α), frL l k = k l
  | [], _ => rfl
  | a :: r, k => by
    show (HandSHeadRun.frNat a fun a => frL r fun r => k (a :: r)) = _
    rw [HandSHeadRun.frNat_eq, frL_eq r]
def lvl (g : Addr → Option Obj) (as : List Addr) : List Addr := as.flatMap fun a => match g a with
  | some o => refsQ o
  | none => []
def asQ {α : Type} (g : Addr → Option Obj) : Nat → List Addr → List Addr → (List Addr → α) → α
  | 0, fr, acc, k => k (acc ++ fr)
  | n + 1, fr, acc, k => frL (lvl g fr) fun f2 => asQ g n f2 (acc ++ fr) k
theorem asQ_ex {g : Addr → Option Obj} : ∀ (n : Nat) (fr acc : List Addr), ∃ as : List Addr, ∀ (α : Type) (k : List Addr → α), asQ g n fr acc k = k as
  | 0, fr, acc => ⟨acc ++ fr, fun _ _ => rfl⟩
  | n + 1, fr, acc => by
    obtain ⟨as, h⟩ := asQ_ex (g := g) n (lvl g fr) (acc ++ fr)
    refine ⟨as, fun α k => ?_⟩
    show (frL (lvl g fr) fun f2 => asQ g n f2 (acc ++ fr) k) = _
    rw [frL_eq]
    exact h α k
def frK {α : Type} (g : Addr → Option Obj) : List Addr → (PySem.W.Frag → α) → α
  | [], k => k []
  | a :: r, k => match g a with
    | some o => frK g r fun K => k ((a, o) :: K)
    | none => frK g r k
theorem frK_eq {α : Type} {g : Addr → Option Obj} : ∀ (as : List Addr) (k : PySem.W.Frag → α), frK g as k = k (frG g as)
  | [], _ => rfl
  | a :: r, k => by
    unfold frK frG
    rw [List.filterMap_cons]
    cases g a with
    | some o =>
      show (frK g r fun K => k ((a, o) :: K)) = _
      rw [frK_eq r]
      rfl
    | none =>
      show frK g r k = _
      rw [frK_eq r]
      rfl
abbrev AlP : Type := Bool × List FnY
abbrev Ck : Type := PySem.W.Frag → Bool
def obsP (cs : List Ck) (fn : List Dp) (K : PySem.W.Frag) : AlP := (cs.all fun c => c K, fn.map fun d => fnY K (d.at_ K))
def valP (fn : List Dp) : AlP := (true, fn.map Dp.val)
def SaysP (cs : List Ck) (fn : List Dp) (K : PySem.W.Frag) : Prop := obsP cs fn K = valP fn
def obsPG (n : Nat) (cs : List Ck) (fn : List Dp) (g : Addr → Option Obj) : AlP := asQ g n [mainGlobals, cStatics] [] fun as => frK g as fun K => obsP cs fn K
theorem obsPG_ex (n : Nat) (cs : List Ck) (fn : List Dp) (g : Addr → Option Obj) : ∃ as, obsPG n cs fn g = obsP cs fn (frG g as) := by
  obtain ⟨as, h⟩ := asQ_ex (g := g) n [mainGlobals, cStatics] []
  refine ⟨as, ?_⟩
  unfold obsPG
  rw [h, frK_eq]
def hookP (n : Nat) (cs : List Ck) (fn : List Dp) : PySem.W.Hook where
  α := AlP
  obs := fun s => obsPG n cs fn s.heap.get?
  val := fun _ => valP fn
  says := fun _ h => ∃ K : PySem.W.Frag, K.In h ∧ SaysP cs fn K
  of := fun _ s e => by
    obtain ⟨as, h⟩ := obsPG_ex n cs fn s.heap.get?
    rw [h] at e
    exact ⟨_, frG_in, e⟩
  keeps := fun _ _ _ ⟨K, hK, c⟩ k => ⟨K, PySem.W.Frag.In.keeps hK k, c⟩
theorem obsPG_eq {n : Nat} {cs : List Ck} {fn : List Dp} {g : Addr → Option Obj} {s : Shared} (h : ∀ a, g a = s.heap.get? a) : obsPG n cs fn g = (hookP n cs fn).obs s := by
  have e : g = s.heap.get? := funext h
  rw [e] <;> rfl
section
variable {cs : List Ck} {fn : List Dp} {K : PySem.W.Frag}
theorem SaysP.ck (c : SaysP cs fn K) (i : Nat) {f : Ck} (h : cs[i]? = some f := by rfl) : f K = true :=
  List.all_eq_true.mp (show (cs.all fun c => c K) = true from congrArg (fun z : AlP => z.1) c) f (List.mem_of_getElem? h)
theorem SaysP.at_ (c : SaysP cs fn K) (i : Nat) {d : Dp} (h : fn[i]? = some d := by rfl) : fnY K (d.at_ K) = d.val := by
  have e : fn.map (fun d => fnY K (d.at_ K)) = fn.map Dp.val := congrArg (fun z : AlP => z.2) c
  have e2 : (fn.map fun d => fnY K (d.at_ K))[i]? = (fn.map Dp.val)[i]? := by rw [e]
  rw [List.getElem?_map, List.getElem?_map, h] at e2
  exact Option.some.inj e2
end
/-! ### the law's end -/
theorem walk_goE {l : PySem.W.OpenLaw} {n k : Nat} {q : Program} {loose : List Str} {XP : (Str → Option Value) → Heap → Prop} {YP : World → Heap → Prop} {d : DefRec} {x : Str}
    (most : l.most = some n) (few : n ≤ sizeLine) (nodf : d.params.defaults = []) (hr : Room k callerA)
    (F : ∀ (w : World) (mg : Str → Option Value) (fa : Addr) (h : Heap), YP w h → h.Ns mainGlobals mg → mg d.name = some (.ref fa) →
      ∃ (K : PySem.W.Frag) (fd : FuncData) (sp : Sp), K.In h ∧ (∀ (s : Shared) (u : Value), BindsTo s fd ⟨[u], []⟩ [(x, u)]) ∧
        (∀ (H : Hp) (a : Addr) (ns : List Int), ns.length ≤ n → Only H → SqL K H a (ns.map V.int) → sp [.ref a] H (fun v _ => v = .bl true) fun _ _ _ => False) ∧
        ∀ base : Heap, K.In base → base.Ns mainGlobals mg → FnG l.prog w K mg base CX0 k fa fd [x] sp) :
    PySem.W.WalkO q loose XP YP l.row.toRowW d [] (fun f vs => PySem.call f vs) := by
  refine Att.attach_call most nodf
    fun w _ s₁ mg mb fa _ _ _ _ a vs ns top Y _ _ _ atF obj allInt len noG => ?_
  obtain ⟨K, fd, sp, inK, binds, hsp, keeps⟩ := F w mg fa _ Y top.T.g atF
  exact law_go inK top.T.g top.T.b top.T.builtins top.T.nolimit noG obj allInt (Nat.le_trans len few) hr keeps binds
    fun H hO hS => hsp H a ns len hO hS
end G
set_option Elab.async false
set_option linter.all false
set_option maxRecDepth 100000
set_option maxHeartbeats 2000000
/-! TK: a Hook that tells the empty tables of some code objects besides; the law's end over it. -/
namespace G
open PySem PySem.Spec PyProof.Rows L2 NdefX StX He LamX
/-- the table of the code object of the def at a -/
def tbOf (K : PySem.W.Frag) (a : Addr) : Addr := match K.lookup (cdOf K a) with
  | some ⟨_, _, .fields vs, _⟩ => (match (vs.toList[11]? : Option Value) with
    | some (.ref P) => P
    | _ => 0)
  | _ => 0
/-- the facts that a def's table wants of the written part -/
def tabB (K : PySem.W.Frag) (a : Addr) : Bool := PySem.W.codeHdIn K (cdOf K a) (tbOf K a) && !(K.lookup (tbOf K a)).isSome
abbrev AlT : Type := AlP × List (Option Obj)
def tabE : Obj := { cls := .none, data := .fields #[] }
def obsT (cs : List Ck) (fn : List Dp) (tb : List (PySem.W.Frag → Addr)) (g : Addr → Option Obj) (K : PySem.W.Frag) : AlT := (obsP cs fn K, tb.map fun t => g (tbOf K (t K)))
def valT (fn : List Dp) (tb : List (PySem.W.Frag → Addr)) : AlT := (valP fn, tb.map fun _ => some tabE)
def obsTG (n : Nat) (cs : List Ck) (fn : List Dp) (tb : List (PySem.W.Frag → Addr)) (g : Addr → Option Obj) : AlT := asQ g n [mainGlobals, cStatics] [] fun as => frK g as fun K => obsT cs fn tb g K
theorem obsTG_ex (n : Nat) (cs : List Ck) (fn : List Dp) (tb : List (PySem.W.Frag → Addr)) (g : Addr → Option Obj) : ∃ as, obsTG n cs fn tb g = obsT cs fn tb g (frG g as) := by
  obtain ⟨as, h⟩ := asQ_ex (g := g) n [mainGlobals, cStatics] []
  refine ⟨as, ?_⟩
  unfold obsTG
  rw [h, frK_eq]
/-- what the Hook says -/
def SaysT (cs : List Ck) (fn : List Dp) (tb : List (PySem.W.Frag → Addr)) (K : PySem.W.Frag) (h : Heap) : Prop := SaysP cs fn K ∧ ∀ t ∈ tb, h.get? (tbOf K (t K)) = some tabE
def hookT (n : Nat) (cs : List Ck) (fn : List Dp) (tb : List (PySem.W.Frag → Addr)) : PySem.W.Hook where
  α := AlT
  obs := fun s => obsTG n cs fn tb s.heap.get?
  val := fun _ => valT fn tb
  says := fun _ h => ∃ K : PySem.W.Frag, K.In h ∧ SaysT cs fn tb K h
  of := fun _ s e => by
    obtain ⟨as, h⟩ := obsTG_ex n cs fn tb s.heap.get?
    rw [h] at e
    obtain ⟨e1, e2⟩ := Prod.mk.inj e
    exact ⟨_, frG_in, e1, List.map_inj_left.mp e2⟩
  keeps := fun _ _ _ ⟨K, hK, c, d⟩ k => ⟨K, PySem.W.Frag.In.keeps hK k, c, fun t ht => k _ _ (d t ht)⟩
theorem obsTG_eq {n : Nat} {cs : List Ck} {fn : List Dp} {tb : List (PySem.W.Frag → Addr)} {g : Addr → Option Obj} {s : Shared} (h : ∀ a, g a = s.heap.get? a) : obsTG n cs fn tb g = (hookT n cs fn tb).obs s := by
  have e : g = s.heap.get? := funext h
  rw [e] <;> rfl
/-- nothing but the script and the tables at ts is tracked -/
def OnlyT (ts : List Addr) (H : Hp) : Prop := ∀ b, H b = none ∨ (b ∈ ts ∧ H b = some (.tbl #[])) ∨ ∃ o xs, H b = some (.frz o (.lst xs))
/-- the law's call, from the state that the top leaves, with tables -/
theorem law_goT {P : Program} {w : World} {K : PySem.W.Frag} {mg mb : Str → Option Value} {k : Nat} {fa a : Addr} {cs : List (Addr × Addr)} {fd : FuncData} {x : Str} {sp : Sp} {s₁ : Shared} {vs : List Value} {ns : List Int}
    (inK : K.In s₁.heap) (gl : s₁.heap.Ns mainGlobals mg)
    (bl : s₁.heap.Ns builtinsNs mb) (boot : ∀ y : Str, y ≠ "__name__" → mb y = bootBuiltins y)
    (lim : s₁.heap.NoLimit) (noG : s₁.gens = #[])
    (hT : ∀ p ∈ cs, s₁.heap.get? p.2 = some tabE) (nT : ∀ p ∈ cs, K.lookup p.2 = none) (C : ∀ p ∈ cs, PySem.W.codeHdIn K p.1 p.2 = true)
    (bmain : ∃ (bm : Addr) (ob : Obj), mg "__builtins__" = some (.ref bm) ∧ bm ≠ builtinsNs ∧ s₁.heap.get? bm = some ob ∧ ob.cls = .type "module" ∧ ob.dict = some builtinsNs ∧ ob.data = .plain)
    (script : s₁.heap.get? a = some { cls := .type "list", data := .seq vs.toArray })
    (allInt : IntsAre vs ns) (few : ns.length ≤ sizeLine) (hr : Room k callerA)
    (F : ∀ base : Heap, K.In base → base.Ns mainGlobals mg → (∀ p ∈ cs, TabB base mg p.1 p.2) → FnG P w K mg base CX0 k fa fd [x] sp) (hbind : ∀ (s : Shared) (u : Value), BindsTo s fd ⟨[u], []⟩ [(x, u)])
    (hsp : ∀ H : Hp, (∀ p ∈ cs, H p.2 = some (.tbl #[])) → SqL K H a (ns.map V.int) → sp [.ref a] H (fun v _ => v = .bl true) fun _ _ _ => False) :
    codeAny (model P w) callerA (.call (.ref fa) ⟨[.ref a], []⟩) (Fine s₁) s₁ := by
  have tabAt : ∀ b : Addr, b ∈ cs.map (·.2) → s₁.heap.get? b = some tabE := fun b hb => by
    obtain ⟨p, hp, e⟩ := List.mem_map.mp hb
    rw [← e]
    exact hT p hp
  have aT : a ∉ cs.map (·.2) := fun z => by
    have q := tabAt a z
    rw [script] at q
    exact nomatch (show Data.seq vs.toArray _ = Data.fields #[] from congrArg Obj.data (Option.some.inj q))
  have main : ∀ H : Hp, OnlyT (cs.map (·.2)) H → (∀ p ∈ cs, H p.2 = some (.tbl #[])) → SqL K H a (ns.map V.int) → HOk P w H s₁.heap → (∀ b, H b ≠ none → (b = a ∧ K.lookup a = none) ∨ b ∈ cs.map (·.2)) →
      codeAny (model P w) callerA (.call (.ref fa) ⟨[.ref a], []⟩) (Fine s₁) s₁ := by
    intro H hO hH hS hok hA
    have away : ∀ {b : Addr} {o : Obj}, s₁.heap.get? b = some o → (∀ us n, o.data ≠ .seq us n) → o.data ≠ .fields #[] → H b = none := fun {b o} e n1 n2 => by
      cases q : H b with
      | none => rfl
      | some u =>
        exfalso
        rcases hA b (by rw [q]; simp) with ⟨z, _⟩ | z
        · rw [z, script] at e
          rw [← Option.some.inj e] at n1
          exact n1 _ _ rfl
        · rw [tabAt b z] at e
          rw [← Option.some.inj e] at n2
          exact n2 rfl
    have nsK : ∀ {b : Addr} {m : Str → Option Value}, s₁.heap.Ns b m → (hidT s₁.heap H).Ns b m := by
      rintro b m ⟨o, es, ep, e, d, r⟩
      exact ⟨o, es, ep, hidT_get e (away e (fun us n z => by rw [d] at z; cases z) fun z => by rw [d] at z; cases z), d, r⟩
    have inB : K.In (hidT s₁.heap H) := fun b o e => hidT_get (inK b o e) (by
      cases q : H b with
      | none => rfl
      | some u =>
        exfalso
        rcases hA b (by rw [q]; simp) with ⟨e1, e2⟩ | z
        · rw [e1, e2] at e
          cases e
        · obtain ⟨p, hp, ep⟩ := List.mem_map.mp z
          rw [← ep, nT p hp] at e
          cases e)
    have hM : Mod K mg (hidT s₁.heap H) := ⟨inB, nsK gl, ⟨mb, nsK bl, boot⟩, let ⟨mc, l1, l2⟩ := lim; ⟨mc, nsK l1, l2⟩⟩
    have TB : ∀ p ∈ cs, TabB (hidT s₁.heap H) mg p.1 p.2 := fun p hp => by
      have dictNe : ∀ {b : Addr} {m : Str → Option Value}, s₁.heap.Ns b m → b ≠ p.2 := fun {b m} ⟨o, es, ep, e, d, _⟩ z => by
        rw [z, hT p hp] at e
        rw [← Option.some.inj e] at d
        cases d
      refine ⟨PySem.W.codeHd_of_K inB (C p hp), ?_, dictNe gl⟩
      obtain ⟨bm, ob, b1, b2, b3, b4, b5, b6⟩ := bmain
      refine ⟨bm, ob, b1, b2, fun z => ?_, fun z => ?_, hidT_get b3 (away b3 (fun us n z => by rw [b6] at z; cases z) fun z => by rw [b6] at z; cases z), b4, b5, b6⟩
      · obtain ⟨o, es, ep, e, d, _⟩ := gl
        rw [z, e] at b3
        rw [← Option.some.inj b3, d] at b6
        cases b6
      · rw [z, hT p hp] at b3
        rw [← Option.some.inj b3] at b6
        cases b6
    have e0 : Env0 P w K mg (hidT s₁.heap H) callerA [] s₁ H := ⟨rfl, hM, fun b o e => of_hidT e, Nat.le_of_eq (hidT_size _ _), trivial, fun b z => absurd (show b ∈ ([] : List Addr) from z) (by simp), hok, .of_eq noG⟩
    have run := (F _ inB (nsK gl) TB).go callerA [] s₁ H ⟨[.ref a], []⟩ [.ref a] [.ref a] _ _ rfl hr e0 (hbind s₁ (.ref a)) (.cons rfl .nil) (hsp H hH hS)
    refine codeAny_mono run fun r s' h => ?_
    match r, h with
    | .ok (.ret u), h =>
      obtain ⟨v, H', os, bare, un, hok', r', q⟩ := h
      obtain rfl : v = .bl true := q
      obtain rfl : u = Value.bool true := r'
      have grown : ∀ p ∈ cs, ∃ more : Array Value, s'.heap.get? p.2 = some { cls := .none, data := .fields more } := fun p hp => by
        obtain ⟨more, z⟩ := un.tbls p.2 #[] (hH p hp)
        exact ⟨_, hok' p.2 _ z⟩
      have same : ∀ b o, b ∉ cs.map (·.2) → s₁.heap.get? b = some o → s'.heap.get? b = some o := fun b o nb e => by
        rcases hO b with z | ⟨z, _⟩ | ⟨ob, xs, z⟩
        · exact un.keep b o e z (fun z => absurd (show b ∈ ([] : List Addr) from z) (by simp)) (by simp)
        · exact absurd z nb
        · obtain ⟨e1, _⟩ := hok b _ z
          obtain ⟨e2, _⟩ := hok' b _ (un.frzs b ob _ z)
          rw [e] at e1
          cases e1
          exact e2
      refine ⟨rfl, ⟨fun b o e => ?_, fun b o e => ?_⟩, os, bare⟩
      · by_cases hb : b ∈ cs.map (·.2)
        · obtain ⟨p, hp, ep⟩ := List.mem_map.mp hb
          obtain ⟨more, hm⟩ := grown p hp
          rw [← ep] at e ⊢
          rw [hT p hp] at e
          cases e
          exact .inr (.inl ⟨((PySem.W.codeHd_of_K inK (C p hp)).tab (hT p hp)).isCodeTable, rfl, #[], more, rfl, by rw [Array.empty_append]; exact hm⟩)
        · exact .inl (same b o hb e)
      · by_cases hb : b ∈ cs.map (·.2)
        · obtain ⟨p, hp, ep⟩ := List.mem_map.mp hb
          obtain ⟨more, hm⟩ := grown p hp
          rw [← ep]
          exact ⟨_, hm⟩
        · exact ⟨o, same b o hb e⟩
  let T : HO := .frz { cls := .type "list", data := .seq vs.toArray } (.lst (ns.map V.int))
  -- the tables, and the script if the written part doesn't hold it
  have over : ∀ H0 : Hp, (∀ b, H0 b = none ∨ (b = a ∧ K.lookup a = none ∧ H0 b = some T)) → SqL K (fun b => if b ∈ cs.map (·.2) then some (.tbl #[]) else H0 b) a (ns.map V.int) → codeAny (model P w) callerA (.call (.ref fa) ⟨[.ref a], []⟩) (Fine s₁) s₁ := by
    intro H0 h0 hS
    have yes : ∀ {b}, b ∈ cs.map (·.2) → (if b ∈ cs.map (·.2) then some (HO.tbl #[]) else H0 b) = some (.tbl #[]) := fun h => if_pos h
    have no : ∀ {b}, b ∉ cs.map (·.2) → (if b ∈ cs.map (·.2) then some (HO.tbl #[]) else H0 b) = H0 b := fun h => if_neg h
    refine main _ (fun b => ?_) (fun p hp => yes (List.mem_map.mpr ⟨p, hp, rfl⟩)) hS (fun b u z => ?_) fun b z => ?_
    · by_cases hb : b ∈ cs.map (·.2)
      · exact .inr (.inl ⟨hb, yes hb⟩)
      · rcases h0 b with e | ⟨_, _, e⟩
        · exact .inl ((no hb).trans e)
        · exact .inr (.inr ⟨_, _, (no hb).trans e⟩)
    · by_cases hb : b ∈ cs.map (·.2)
      · have z' := (yes hb).symm.trans z
        cases z'
        exact tabAt b hb
      · have z' := (no hb).symm.trans z
        rcases h0 b with e | ⟨eb, _, e⟩
        · rw [e] at z'
          cases z'
        · rw [e] at z'
          cases z'
          rw [eb]
          exact ⟨script, by rw [List.length_map]; exact few, vs, _, vals_ints allInt, script⟩
    · by_cases hb : b ∈ cs.map (·.2)
      · exact .inr hb
      · rcases h0 b with e | ⟨eb, ek, _⟩
        · exact absurd ((no hb).trans e) z
        · exact .inl ⟨eb, ek⟩
  cases hk : K.lookup a with
  | some o =>
    have e := inK a o hk
    rw [script] at e
    cases e
    refine over (fun _ => none) (fun _ => .inl rfl) (.inr ⟨_, vs.toArray, _, hk, rfl, rfl, rfl, ?_, ?_⟩)
    · rw [List.size_toArray, allInt.length]
      exact few
    · simpa using vals_ints allInt
  | none =>
    refine over (upd (fun _ => none) a T) (fun b => ?_) (.inl (.inr ⟨_, (if_neg aT).trans upd_same⟩))
    by_cases h : b = a
    · exact .inr ⟨h, hk, by rw [h]; exact upd_same⟩
    · exact .inl (upd_ne h)
/-- the row's walk, with tables -/
theorem walk_goT {l : PySem.W.OpenLaw} {n k : Nat} {q : Program} {loose : List Str} {XP : (Str → Option Value) → Heap → Prop} {YP : World → Heap → Prop} {d : DefRec} {x : Str}
    (most : l.most = some n) (few : n ≤ sizeLine) (nodf : d.params.defaults = []) (hr : Room k callerA)
    (F : ∀ (w : World) (mg : Str → Option Value) (fa : Addr) (h : Heap), YP w h → h.Ns mainGlobals mg → mg d.name = some (.ref fa) →
      ∃ (K : PySem.W.Frag) (fd : FuncData) (cs : List (Addr × Addr)) (sp : Sp), K.In h ∧ (∀ p ∈ cs, h.get? p.2 = some tabE) ∧ (∀ p ∈ cs, K.lookup p.2 = none) ∧ (∀ p ∈ cs, PySem.W.codeHdIn K p.1 p.2 = true) ∧ (∀ (s : Shared) (u : Value), BindsTo s fd ⟨[u], []⟩ [(x, u)]) ∧
        (∀ (H : Hp) (a : Addr) (ns : List Int), ns.length ≤ n → (∀ p ∈ cs, H p.2 = some (.tbl #[])) → SqL K H a (ns.map V.int) → sp [.ref a] H (fun v _ => v = .bl true) fun _ _ _ => False) ∧
        ∀ base : Heap, K.In base → base.Ns mainGlobals mg → (∀ p ∈ cs, TabB base mg p.1 p.2) → FnG l.prog w K mg base CX0 k fa fd [x] sp) :
    PySem.W.WalkO q loose XP YP l.row.toRowW d [] (fun f vs => PySem.call f vs) := by
  refine Att.attach_call most nodf
    fun w _ s₁ mg mb fa _ _ _ _ a vs ns top Y _ _ _ atF obj allInt len noG => ?_
  obtain ⟨K, fd, cs, sp, inK, hT, nT, C, binds, hsp, keeps⟩ := F w mg fa _ Y top.T.g atF
  exact law_goT inK top.T.g top.T.b top.T.builtins top.T.nolimit noG hT nT C top.T.bmain obj allInt (Nat.le_trans len few) hr keeps binds
    fun H hH hS => hsp H a ns len hH hS
end G
set_option Elab.async false
set_option linter.all false
set_option maxRecDepth 100000
set_option maxHeartbeats 8000000
/-! XA: what the top has written. -/
namespace G
open PySem PySem.Spec PyProof.Rows L2 NdefX StX LamX SkL
abbrev PX : Program := PySem.W.OpenLaw.prog PySem.Challenge.rw_listviews_k50_whole_shapes_by_their_defi
def cks0 : List Ck := [
  fun K => He.Fa.ok K (.free "isinstance"),
  fun K => He.Fa.ok K (.free "int"),
  fun K => He.Fa.ok K (.free "bool"),
  fun K => He.Fa.ok K (.free "str"),
  fun K => He.Fa.ok K (.free "dict"),
  fun K => He.Fa.ok K (.free "len"),
  fun K => He.Fa.ok K (.free "all"),
  fun K => He.Fa.ok K (.free "list"),
  fun K => He.Fa.ok K (.free "range"),
  fun K => He.Fa.ok K (.free "min"),
  fun K => He.Fa.ok K (.free "max"),
  fun K => He.Fa.ok K (.free "tuple"),
  fun K => He.Fa.ok K (.free "set"),
  fun K => He.Fa.ok K (.free "sorted"),
  fun K => He.Fa.ok K (.free "zip"),
  fun K => He.Fa.ok K (.free "sum"),
  fun K => He.Fa.ok K (.str "LETTERS" "abcdefghijklmnopqrstuvwxyz"),
  fun K => He.Fa.ok K (.int "MOST_LETTERS" 8),
  fun K => He.Fa.ok K (.int "MOST_IN_ANSWER" 3),
  fun K => He.Fa.ok K (.int "GREATEST_IN_ANSWER" 9999),
  fun K => He.Fa.ok K (.int "MOST_PLAIN_ROWS" 40),
  fun K => plainB K (He.ga K "is_integer") "is_integer",
  fun K => He.Fa.ok K (.glo "is_integer"),
  fun K => plainB K (He.ga K "is_name") "is_name",
  fun K => He.Fa.ok K (.glo "is_name"),
  fun K => plainB K (He.ga K "is_list") "is_list",
  fun K => He.Fa.ok K (.glo "is_list"),
  fun K => plainB K (He.ga K "answer_of") "answer_of",
  fun K => He.Fa.ok K (.glo "answer_of"),
  fun K => plainB K (He.ga K "is_full_answer") "is_full_answer"]
def cks1 : List Ck := [
  fun K => He.Fa.ok K (.glo "is_full_answer"),
  fun K => plainB K (He.ga K "is_answer_item") "is_answer_item",
  fun K => He.Fa.ok K (.glo "is_answer_item"),
  fun K => plainB K (He.ga K "filtered") "filtered",
  fun K => He.Fa.ok K (.glo "filtered"),
  fun K => plainB K (He.ga K "ordered") "ordered",
  fun K => He.Fa.ok K (.glo "ordered"),
  fun K => plainB K (He.ga K "first_ones") "first_ones",
  fun K => He.Fa.ok K (.glo "first_ones"),
  fun K => plainB K (He.ga K "grouped") "grouped",
  fun K => He.Fa.ok K (.glo "grouped"),
  fun K => plainB K (He.ga K "need_rows_with_answers") "need_rows_with_answers",
  fun K => He.Fa.ok K (.glo "need_rows_with_answers"),
  fun K => plainB K (He.ga K "answer_for") "answer_for",
  fun K => He.Fa.ok K (.glo "answer_for"),
  fun K => plainB K (He.ga K "full_answers") "full_answers",
  fun K => He.Fa.ok K (.glo "full_answers"),
  fun K => plainB K (He.ga K "_law_cell") "_law_cell",
  fun K => He.Fa.ok K (.glo "_law_cell"),
  fun K => plainB K (He.ga K "_law_box") "_law_box",
  fun K => He.Fa.ok K (.glo "_law_box"),
  fun K => plainB K (He.ga K "_law_take") "_law_take",
  fun K => He.Fa.ok K (.glo "_law_take"),
  fun K => plainB K (He.ga K "_law_mixed") "_law_mixed",
  fun K => He.Fa.ok K (.glo "_law_mixed"),
  fun K => plainB K (He.ga K "_law_names") "_law_names",
  fun K => He.Fa.ok K (.glo "_law_names"),
  fun K => plainB K (He.ga K "_law_few_answers") "_law_few_answers",
  fun K => He.Fa.ok K (.glo "_law_few_answers"),
  fun K => plainB K (He.ga K "_law_full") "_law_full"]
def cks2 : List Ck := [
  fun K => He.Fa.ok K (.glo "_law_full"),
  fun K => plainB K (He.ga K "_law_in_order") "_law_in_order",
  fun K => He.Fa.ok K (.glo "_law_in_order"),
  fun K => plainB K (He.ga K "_law_ordered_right") "_law_ordered_right",
  fun K => He.Fa.ok K (.glo "_law_ordered_right"),
  fun K => plainB K (He.ga K "_law_groups_right") "_law_groups_right",
  fun K => He.Fa.ok K (.glo "_law_groups_right"),
  fun K => plainB K (He.ga K "_law_renamed_right") "_law_renamed_right",
  fun K => He.Fa.ok K (.glo "_law_renamed_right"),
  fun K => plainB K (He.ga K "law") "law",
  fun K => He.Fa.ok K (.glo "law"),
  fun K => tabB K (He.ga K "ordered")]
abbrev cks : List Ck := cks0 ++ cks1 ++ cks2
def fns0 : List Dp := [
  ⟨fun K => He.ga K "is_integer", "is_integer", "is_integer", sIsInt, []⟩,
  ⟨fun K => He.ga K "is_name", "is_name", "is_name", sIsName, []⟩,
  ⟨fun K => He.ga K "is_list", "is_list", "is_list", sIsList, []⟩,
  ⟨fun K => He.ga K "answer_of", "answer_of", "answer_of", sAnsOf, []⟩,
  ⟨fun K => He.ga K "is_full_answer", "is_full_answer", "is_full_answer", sFullA, []⟩,
  ⟨fun K => He.ga K "is_answer_item", "is_answer_item", "is_answer_item", sItemA, []⟩,
  ⟨fun K => He.ga K "filtered", "filtered", "filtered", sFil, []⟩,
  ⟨fun K => He.ga K "ordered", "ordered", "ordered", sOrd, []⟩,
  ⟨fun K => He.ga K "first_ones", "first_ones", "first_ones", sFirst, []⟩,
  ⟨fun K => He.ga K "grouped", "grouped", "grouped", sGrp, []⟩,
  ⟨fun K => He.ga K "need_rows_with_answers", "need_rows_with_answers", "need_rows_with_answers", sNeedRows, []⟩,
  ⟨fun K => He.ga K "answer_for", "answer_for", "answer_for", sAnsFor, []⟩,
  ⟨fun K => He.ga K "full_answers", "full_answers", "full_answers", sFullAs, []⟩,
  ⟨fun K => He.ga K "_law_cell", "_law_cell", "_law_cell", sCell, []⟩,
  ⟨fun K => He.ga K "_law_box", "_law_box", "_law_box", sBox, []⟩,
  ⟨fun K => He.ga K "_law_take", "_law_take", "_law_take", sTake, []⟩,
  ⟨fun K => He.ga K "_law_mixed", "_law_mixed", "_law_mixed", sMixed, []⟩,
  ⟨fun K => He.ga K "_law_names", "_law_names", "_law_names", sNames, []⟩,
  ⟨fun K => He.ga K "_law_few_answers", "_law_few_answers", "_law_few_answers", sFew, []⟩,
  ⟨fun K => He.ga K "_law_full", "_law_full", "_law_full", sFullL, []⟩]
def fns1 : List Dp := [
  ⟨fun K => He.ga K "_law_in_order", "_law_in_order", "_law_in_order", sInO, []⟩,
  ⟨fun K => He.ga K "_law_ordered_right", "_law_ordered_right", "_law_ordered_right", sOrR, []⟩,
  ⟨fun K => He.ga K "_law_groups_right", "_law_groups_right", "_law_groups_right", sGrR, []⟩,
  ⟨fun K => He.ga K "_law_renamed_right", "_law_renamed_right", "_law_renamed_right", sRen, []⟩,
  ⟨fun K => He.ga K "law", "law", "law", sLaw, []⟩]
abbrev fns : List Dp := fns0 ++ fns1
def tbs : List (PySem.W.Frag → Addr) := [fun K => (He.ga K "ordered")]
def tabC (K : PySem.W.Frag) : List (Addr × Addr) := [(cdOf K (He.ga K "ordered"), tbOf K (He.ga K "ordered"))]
def tabT (K : PySem.W.Frag) : List (Addr × Str) := [(tbOf K (He.ga K "ordered"), lamQ)]
theorem tab_ok {K : PySem.W.Frag} (c : SaysP cks fns K) : PySem.W.codeHdIn K (cdOf K (He.ga K "ordered")) (tbOf K (He.ga K "ordered")) = true ∧ K.lookup (tbOf K (He.ga K "ordered")) = none := by
  have h : tabB K (He.ga K "ordered") = true := c.ck 71 rfl
  unfold tabB at h
  obtain ⟨h1, h2⟩ := He.ba h
  refine ⟨h1, ?_⟩
  cases e : K.lookup (tbOf K (He.ga K "ordered")) with
  | none => rfl
  | some o =>
    rw [e] at h2
    cases h2
theorem facts {w : World} {K : PySem.W.Frag} {h : Heap} {mg : Str → Option Value} {fa : Addr} (X : K.In h) (G : h.Ns mainGlobals mg) (hfa : mg "law" = some (.ref fa)) (c : SaysP cks fns K) :
    ∃ fd : FuncData, (∀ (s : Shared) (u : Value), BindsTo s fd ⟨[u], []⟩ [("_law_script", u)]) ∧ ∀ base : Heap, K.In base → base.Ns mainGlobals mg → (∀ p ∈ tabC K, TabB base mg p.1 p.2) → FnG PX w K mg base CX0 8 fa fd ["_law_script"] (spLaw K (tabT K)) := by
  have m_isinstance : mg "isinstance" = none := He.free_ok X G (c.ck 0 rfl)
  have m_int : mg "int" = none := He.free_ok X G (c.ck 1 rfl)
  have m_bool : mg "bool" = none := He.free_ok X G (c.ck 2 rfl)
  have m_str : mg "str" = none := He.free_ok X G (c.ck 3 rfl)
  have m_dict : mg "dict" = none := He.free_ok X G (c.ck 4 rfl)
  have m_len : mg "len" = none := He.free_ok X G (c.ck 5 rfl)
  have m_all : mg "all" = none := He.free_ok X G (c.ck 6 rfl)
  have m_list : mg "list" = none := He.free_ok X G (c.ck 7 rfl)
  have m_range : mg "range" = none := He.free_ok X G (c.ck 8 rfl)
  have m_min : mg "min" = none := He.free_ok X G (c.ck 9 rfl)
  have m_max : mg "max" = none := He.free_ok X G (c.ck 10 rfl)
  have m_tuple : mg "tuple" = none := He.free_ok X G (c.ck 11 rfl)
  have m_set : mg "set" = none := He.free_ok X G (c.ck 12 rfl)
  have m_sorted : mg "sorted" = none := He.free_ok X G (c.ck 13 rfl)
  have m_zip : mg "zip" = none := He.free_ok X G (c.ck 14 rfl)
  have m_sum : mg "sum" = none := He.free_ok X G (c.ck 15 rfl)
  obtain ⟨tcLet, gcLet⟩ := He.str_ok X G (x := "LETTERS") (c.ck 16 rfl)
  obtain ⟨tcML, gcML⟩ := He.int_ok X G (x := "MOST_LETTERS") (c.ck 17 rfl)
  obtain ⟨tcMA, gcMA⟩ := He.int_ok X G (x := "MOST_IN_ANSWER") (c.ck 18 rfl)
  obtain ⟨tcGA, gcGA⟩ := He.int_ok X G (x := "GREATEST_IN_ANSWER") (c.ck 19 rfl)
  obtain ⟨tcMP, gcMP⟩ := He.int_ok X G (x := "MOST_PLAIN_ROWS") (c.ck 20 rfl)
  obtain ⟨fd1, F1⟩ : ∃ fd, Fun K "is_integer" "is_integer" sIsInt (He.ga K "is_integer") fd := fun_of (c.at_ 0 rfl) rfl (c.ck 21 rfl)
  have b1 := F1.binds (ps := ["value", "low", "high"]) fun _ _ _ _ _ _ us hl => match us, hl with | [_, _, _], _ => rfl
  have g1 : mg "is_integer" = some (.ref (He.ga K "is_integer")) := He.glo_ok X G (c.ck 22 rfl)
  have k1 := F1.kp
  obtain ⟨fd2, F2⟩ : ∃ fd, Fun K "is_name" "is_name" sIsName (He.ga K "is_name") fd := fun_of (c.at_ 1 rfl) rfl (c.ck 23 rfl)
  have b2 := F2.binds (ps := ["value"]) fun _ _ _ _ _ _ us hl => match us, hl with | [_], _ => rfl
  have g2 : mg "is_name" = some (.ref (He.ga K "is_name")) := He.glo_ok X G (c.ck 24 rfl)
  have k2 := F2.kp
  obtain ⟨fd3, F3⟩ : ∃ fd, Fun K "is_list" "is_list" sIsList (He.ga K "is_list") fd := fun_of (c.at_ 2 rfl) rfl (c.ck 25 rfl)
  have b3 := F3.binds (ps := ["value", "most"]) fun _ _ _ _ _ _ us hl => match us, hl with | [_, _], _ => rfl
  have g3 : mg "is_list" = some (.ref (He.ga K "is_list")) := He.glo_ok X G (c.ck 26 rfl)
  have k3 := F3.kp
  obtain ⟨fd4, F4⟩ : ∃ fd, Fun K "answer_of" "answer_of" sAnsOf (He.ga K "answer_of") fd := fun_of (c.at_ 3 rfl) rfl (c.ck 27 rfl)
  have b4 := F4.binds (ps := ["value"]) fun _ _ _ _ _ _ us hl => match us, hl with | [_], _ => rfl
  have g4 : mg "answer_of" = some (.ref (He.ga K "answer_of")) := He.glo_ok X G (c.ck 28 rfl)
  have k4 := F4.kp
  obtain ⟨fd5, F5⟩ : ∃ fd, Fun K "is_full_answer" "is_full_answer" sFullA (He.ga K "is_full_answer") fd := fun_of (c.at_ 4 rfl) rfl (c.ck 29 rfl)
  have b5 := F5.binds (ps := ["value"]) fun _ _ _ _ _ _ us hl => match us, hl with | [_], _ => rfl
  have g5 : mg "is_full_answer" = some (.ref (He.ga K "is_full_answer")) := He.glo_ok X G (c.ck 30 rfl)
  have k5 := F5.kp
  obtain ⟨fd6, F6⟩ : ∃ fd, Fun K "is_answer_item" "is_answer_item" sItemA (He.ga K "is_answer_item") fd := fun_of (c.at_ 5 rfl) rfl (c.ck 31 rfl)
  have b6 := F6.binds (ps := ["value"]) fun _ _ _ _ _ _ us hl => match us, hl with | [_], _ => rfl
  have g6 : mg "is_answer_item" = some (.ref (He.ga K "is_answer_item")) := He.glo_ok X G (c.ck 32 rfl)
  have k6 := F6.kp
  obtain ⟨fdfi, Ffi⟩ : ∃ fd, Fun K "filtered" "filtered" sFil (He.ga K "filtered") fd := fun_of (c.at_ 6 rfl) rfl (c.ck 33 rfl)
  have bfi := Ffi.binds (ps := ["rows", "answers"]) fun _ _ _ _ _ _ us hl => match us, hl with | [_, _], _ => rfl
  have gfi : mg "filtered" = some (.ref (He.ga K "filtered")) := He.glo_ok X G (c.ck 34 rfl)
  have kfi := Ffi.kp
  obtain ⟨fdor, For⟩ : ∃ fd, Fun K "ordered" "ordered" sOrd (He.ga K "ordered") fd := fun_of (c.at_ 7 rfl) rfl (c.ck 35 rfl)
  have bor := For.binds (ps := ["rows", "answers"]) fun _ _ _ _ _ _ us hl => match us, hl with | [_, _], _ => rfl
  have gor : mg "ordered" = some (.ref (He.ga K "ordered")) := He.glo_ok X G (c.ck 36 rfl)
  have kor := For.kp
  obtain ⟨fdfo, Ffo⟩ : ∃ fd, Fun K "first_ones" "first_ones" sFirst (He.ga K "first_ones") fd := fun_of (c.at_ 8 rfl) rfl (c.ck 37 rfl)
  have bfo := Ffo.binds (ps := ["rows", "answers"]) fun _ _ _ _ _ _ us hl => match us, hl with | [_, _], _ => rfl
  have gfo : mg "first_ones" = some (.ref (He.ga K "first_ones")) := He.glo_ok X G (c.ck 38 rfl)
  have kfo := Ffo.kp
  obtain ⟨fdgr, Fgr⟩ : ∃ fd, Fun K "grouped" "grouped" sGrp (He.ga K "grouped") fd := fun_of (c.at_ 9 rfl) rfl (c.ck 39 rfl)
  have bgr := Fgr.binds (ps := ["rows", "answers"]) fun _ _ _ _ _ _ us hl => match us, hl with | [_, _], _ => rfl
  have ggr : mg "grouped" = some (.ref (He.ga K "grouped")) := He.glo_ok X G (c.ck 40 rfl)
  have kgr := Fgr.kp
  obtain ⟨fdnr, Fnr⟩ : ∃ fd, Fun K "need_rows_with_answers" "need_rows_with_answers" sNeedRows (He.ga K "need_rows_with_answers") fd := fun_of (c.at_ 10 rfl) rfl (c.ck 41 rfl)
  have bnr := Fnr.binds (ps := ["rows", "answers"]) fun _ _ _ _ _ _ us hl => match us, hl with | [_, _], _ => rfl
  have gnr : mg "need_rows_with_answers" = some (.ref (He.ga K "need_rows_with_answers")) := He.glo_ok X G (c.ck 42 rfl)
  have knr := Fnr.kp
  obtain ⟨fdaf, Faf⟩ : ∃ fd, Fun K "answer_for" "answer_for" sAnsFor (He.ga K "answer_for") fd := fun_of (c.at_ 11 rfl) rfl (c.ck 43 rfl)
  have baf := Faf.binds (ps := ["row", "answers"]) fun _ _ _ _ _ _ us hl => match us, hl with | [_, _], _ => rfl
  have gaf : mg "answer_for" = some (.ref (He.ga K "answer_for")) := He.glo_ok X G (c.ck 44 rfl)
  have kaf := Faf.kp
  obtain ⟨fdfa, Ffa⟩ : ∃ fd, Fun K "full_answers" "full_answers" sFullAs (He.ga K "full_answers") fd := fun_of (c.at_ 12 rfl) rfl (c.ck 45 rfl)
  have bfa := Ffa.binds (ps := ["rows", "answers"]) fun _ _ _ _ _ _ us hl => match us, hl with | [_, _], _ => rfl
  have gfa : mg "full_answers" = some (.ref (He.ga K "full_answers")) := He.glo_ok X G (c.ck 46 rfl)
  have kfa := Ffa.kp
  obtain ⟨fd8, F8⟩ : ∃ fd, Fun K "_law_cell" "_law_cell" sCell (He.ga K "_law_cell") fd := fun_of (c.at_ 13 rfl) rfl (c.ck 47 rfl)
  have b8 := F8.binds (ps := ["_law_script", "_law_k"]) fun _ _ _ _ _ _ us hl => match us, hl with | [_, _], _ => rfl
  have g8 : mg "_law_cell" = some (.ref (He.ga K "_law_cell")) := He.glo_ok X G (c.ck 48 rfl)
  have k8 := F8.kp
  obtain ⟨fd9, F9⟩ : ∃ fd, Fun K "_law_box" "_law_box" sBox (He.ga K "_law_box") fd := fun_of (c.at_ 14 rfl) rfl (c.ck 49 rfl)
  have b9 := F9.binds (ps := ["_law_cell_here"]) fun _ _ _ _ _ _ us hl => match us, hl with | [_], _ => rfl
  have g9 : mg "_law_box" = some (.ref (He.ga K "_law_box")) := He.glo_ok X G (c.ck 50 rfl)
  have k9 := F9.kp
  obtain ⟨fdA, FA⟩ : ∃ fd, Fun K "_law_take" "_law_take" sTake (He.ga K "_law_take") fd := fun_of (c.at_ 15 rfl) rfl (c.ck 51 rfl)
  have bA := FA.binds (ps := ["_law_box_here", "_law_many"]) fun _ _ _ _ _ _ us hl => match us, hl with | [_, _], _ => rfl
  have gA : mg "_law_take" = some (.ref (He.ga K "_law_take")) := He.glo_ok X G (c.ck 52 rfl)
  have kA := FA.kp
  obtain ⟨fdB, FB⟩ : ∃ fd, Fun K "_law_mixed" "_law_mixed" sMixed (He.ga K "_law_mixed") fd := fun_of (c.at_ 16 rfl) rfl (c.ck 53 rfl)
  have bB := FB.binds (ps := ["_law_box_here", "_law_some"]) fun _ _ _ _ _ _ us hl => match us, hl with | [_, _], _ => rfl
  have gB : mg "_law_mixed" = some (.ref (He.ga K "_law_mixed")) := He.glo_ok X G (c.ck 54 rfl)
  have kB := FB.kp
  obtain ⟨fdC, FC⟩ : ∃ fd, Fun K "_law_names" "_law_names" sNames (He.ga K "_law_names") fd := fun_of (c.at_ 17 rfl) rfl (c.ck 55 rfl)
  have bC := FC.binds (ps := ["_law_box_here", "_law_many"]) fun _ _ _ _ _ _ us hl => match us, hl with | [_, _], _ => rfl
  have gC : mg "_law_names" = some (.ref (He.ga K "_law_names")) := He.glo_ok X G (c.ck 56 rfl)
  have kC := FC.kp
  obtain ⟨fdfw, Ffw⟩ : ∃ fd, Fun K "_law_few_answers" "_law_few_answers" sFew (He.ga K "_law_few_answers") fd := fun_of (c.at_ 18 rfl) rfl (c.ck 57 rfl)
  have bfw := Ffw.binds (ps := ["_law_box_here", "_law_rows"]) fun _ _ _ _ _ _ us hl => match us, hl with | [_, _], _ => rfl
  have gfw : mg "_law_few_answers" = some (.ref (He.ga K "_law_few_answers")) := He.glo_ok X G (c.ck 58 rfl)
  have kfw := Ffw.kp
  obtain ⟨fdfl, Ffl⟩ : ∃ fd, Fun K "_law_full" "_law_full" sFullL (He.ga K "_law_full") fd := fun_of (c.at_ 19 rfl) rfl (c.ck 59 rfl)
  have bfl := Ffl.binds (ps := ["_law_answer"]) fun _ _ _ _ _ _ us hl => match us, hl with | [_], _ => rfl
  have gfl : mg "_law_full" = some (.ref (He.ga K "_law_full")) := He.glo_ok X G (c.ck 60 rfl)
  have kfl := Ffl.kp
  obtain ⟨fdio, Fio⟩ : ∃ fd, Fun K "_law_in_order" "_law_in_order" sInO (He.ga K "_law_in_order") fd := fun_of (c.at_ 20 rfl) rfl (c.ck 61 rfl)
  have bio := Fio.binds (ps := ["_law_some", "_law_rows"]) fun _ _ _ _ _ _ us hl => match us, hl with | [_, _], _ => rfl
  have gio : mg "_law_in_order" = some (.ref (He.ga K "_law_in_order")) := He.glo_ok X G (c.ck 62 rfl)
  have kio := Fio.kp
  obtain ⟨fdri, Fri⟩ : ∃ fd, Fun K "_law_ordered_right" "_law_ordered_right" sOrR (He.ga K "_law_ordered_right") fd := fun_of (c.at_ 21 rfl) rfl (c.ck 63 rfl)
  have bri := Fri.binds (ps := ["_law_rows", "_law_answers"]) fun _ _ _ _ _ _ us hl => match us, hl with | [_, _], _ => rfl
  have gri : mg "_law_ordered_right" = some (.ref (He.ga K "_law_ordered_right")) := He.glo_ok X G (c.ck 64 rfl)
  have kri := Fri.kp
  obtain ⟨fdgg, Fgg⟩ : ∃ fd, Fun K "_law_groups_right" "_law_groups_right" sGrR (He.ga K "_law_groups_right") fd := fun_of (c.at_ 22 rfl) rfl (c.ck 65 rfl)
  have bgg := Fgg.binds (ps := ["_law_rows", "_law_answers"]) fun _ _ _ _ _ _ us hl => match us, hl with | [_, _], _ => rfl
  have ggg : mg "_law_groups_right" = some (.ref (He.ga K "_law_groups_right")) := He.glo_ok X G (c.ck 66 rfl)
  have kgg := Fgg.kp
  obtain ⟨fdrn, Frn⟩ : ∃ fd, Fun K "_law_renamed_right" "_law_renamed_right" sRen (He.ga K "_law_renamed_right") fd := fun_of (c.at_ 23 rfl) rfl (c.ck 67 rfl)
  have brn := Frn.binds (ps := ["_law_rows", "_law_answers", "_law_names_here"]) fun _ _ _ _ _ _ us hl => match us, hl with | [_, _, _], _ => rfl
  have grn : mg "_law_renamed_right" = some (.ref (He.ga K "_law_renamed_right")) := He.glo_ok X G (c.ck 68 rfl)
  have krn := Frn.kp
  obtain ⟨fdL, FL⟩ : ∃ fd, Fun K "law" "law" sLaw (He.ga K "law") fd := fun_of (c.at_ 24 rfl) rfl (c.ck 69 rfl)
  have bL := FL.binds (ps := ["_law_script"]) fun _ _ _ _ _ _ us hl => match us, hl with | [_], _ => rfl
  have gL : mg "law" = some (.ref (He.ga K "law")) := He.glo_ok X G (c.ck 70 rfl)
  have kL := FL.kp
  have e := hfa.symm.trans gL
  cases e
  obtain ⟨_, _, _, _, _, _, _, _, _, hfd, _, _⟩ := FL.ex
  refine ⟨fdL, fun s u => by rw [hfd]; exact .of_eq rfl, fun base _ _ TB => ?_⟩
  have O1 : FnOk PX w K mg base CX0 1 _ _ ["value", "low", "high"] spIsInt := ok_isint F1 m_isinstance m_int m_bool
  have O2 : FnOk PX w K mg base CX0 1 _ _ ["value"] spIsName := ok_isname F2 gcML gcLet m_isinstance m_str m_len m_all
  have O3 : FnOk PX w K mg base CX0 1 _ _ ["value", "most"] (spIsList K) := ok_islist F3 m_isinstance m_len m_list m_tuple
  have O6 : FnOk PX w K mg base CX0 2 _ _ ["value"] spItemA := ok_itemA F6 O1 g1 k1 b1 gcGA
  have O5 : FnOk PX w K mg base CX0 3 _ _ ["value"] spFullA := ok_fullA F5 O6 g6 k6 b6 gcMA m_isinstance m_tuple m_len m_all
  have O4 : FnOk PX w K mg base CX0 4 _ _ ["value"] spAnsOf := ok_ansOf F4 O5 g5 k5 b5 O6 g6 k6 b6
  have Onr : FnOk PX w K mg base CX0 2 _ _ ["rows", "answers"] (spNeedRows K) := ok_needrows Fnr O3 g3 k3 b3 O2 g2 k2 b2 gcMP m_isinstance m_len m_all m_set m_dict
  have Oaf : FnOk PX w K mg base CX0 1 _ _ ["row", "answers"] spAnsFor := ok_ansFor Faf
  have Ofa : FnOk PX w K mg base CX0 5 _ _ ["rows", "answers"] (spFullAs K) := ok_fullAs Ffa Onr gnr knr bnr O4 g4 k4 b4 Oaf gaf kaf baf
  have Ofi : FnOk PX w K mg base CX0 3 _ _ ["rows", "answers"] (spFil K) := ok_fil Ffi Onr gnr knr bnr Oaf gaf kaf baf m_isinstance m_bool
  have Oor : FnOk PX w K mg base CX0 6 _ _ ["rows", "answers"] (spOrd K (tabT K)) := ok_ord For (TB _ List.mem_cons_self) List.mem_cons_self (fun p hp _ => by rw [List.mem_singleton.mp hp]) Ofa gfa kfa bfa m_sorted
  have Nn : FnOk PX w K mg base CX0 3 _ _ ["_law_box_here", "_law_many"] spNamesD := ok_namesD FC FA bA gA FB bB gB m_len m_list m_range
  have Nm : FnOk PX w K mg base CX0 2 _ _ ["_law_box_here", "_law_some"] (spMixR K) := ok_mixR FB FA bA gA m_len m_list
  have Nf : FnOk PX w K mg base CX0 3 _ _ ["_law_box_here", "_law_rows"] (spFew K) := ok_few Ffw FA bA gA Nm gB kB bB
  have Nl : FnOk PX w K mg base CX0 1 _ _ ["_law_answer"] (spFullL K) := ok_fullL Ffl m_isinstance m_tuple
  have Ofo : FnOk PX w K mg base CX0 6 _ _ ["rows", "answers"] (spFirst K) := ok_first Ffo Ofa gfa kfa bfa m_list
  have Ogr : FnOk PX w K mg base CX0 6 _ _ ["rows", "answers"] (spGrp PX w K) := ok_grp Fgr Ofa gfa kfa bfa m_list m_sorted m_len
  have Ni : FnOk PX w K mg base CX0 1 _ _ ["_law_some", "_law_rows"] (spInO K) := ok_inO Fio m_len m_range
  have Nr : FnOk PX w K mg base CX0 7 _ _ ["_law_rows", "_law_answers"] (spOrR (tabT K)) := ok_orR Fri Oor gor kor bor Nl gfl kfl bfl m_sorted m_zip
  have Ng : FnOk PX w K mg base CX0 7 _ _ ["_law_rows", "_law_answers"] spGrR := ok_grR Fgg Ogr ggr kgr bgr Ofo gfo kfo bfo Ni gio kio bio Nl gfl kfl bfl m_sorted m_len m_isinstance m_tuple m_sum
  have Nn2 : FnOk PX w K mg base CX0 7 _ _ ["_law_rows", "_law_answers", "_law_names_here"] (spRen (tabT K)) := ok_ren Frn Oor gor kor bor Ofo gfo kfo bfo m_dict m_list m_zip m_len
  exact ok_law FL F8 b8 g8 F9 b9 g9 FA bA gA kC bC gC Nn Nm gB kB bB Nf gfw kfw bfw Ofi gfi kfi bfi Ni gio kio bio Nr gri kri bri Ng ggg kgg bgg Nn2 grn krn brn m_range m_max m_min m_len m_list m_dict
end G
set_option Elab.async false
set_option linter.all false
set_option maxRecDepth 100000
set_option maxHeartbeats 8000000
/-! XB: the top's run. -/
namespace G
open PySem PySem.Spec PyProof.Rows L2 NdefX StX LamX SkL
abbrev hk : PySem.W.Hook := hookT 5 cks fns tbs
def ob (s : PySem.W.SharedT) : AlT := obsTG 5 cks fns tbs (HandSHeadRun.getT s)
theorem ob_eq (s : PySem.W.SharedT) : ob s = hk.obs s.abs := obsTG_eq (HandSHeadRun.getT_eq s)
def loose0 : List Str := ["BoardError", "MissingError", "InvalidAnswer", "InvalidRows", "UnknownRow", "LETTERS", "MOST_LETTERS", "MOST_IN_ANSWER", "GREATEST_IN_ANSWER", "is_integer", "is_name", "is_list", "answer_of", "is_full_answer", "is_answer_item", "MOST_PLAIN_ROWS", "filtered", "ordered", "first_ones", "grouped", "need_rows_with_answers", "answer_for", "full_answers", "_law_cell", "_law_box", "_law_take", "_law_mixed", "_law_names", "_law_few_answers", "_law_full"]
def loose1 : List Str := ["_law_in_order", "_law_ordered_right", "_law_groups_right", "_law_renamed_right"]
abbrev looseX : List Str := loose0 ++ loose1
theorem run (w : World) : HandSHeadRun.RunEq (PySem.W.OpenLaw.row PySem.Challenge.rw_listviews_k50_whole_shapes_by_their_defi) (PySem.W.view PX [38]) hk ob 20000 looseX w := by
  intro os
  kernel_rfl
end G
set_option Elab.async false
set_option linter.all false
set_option maxRecDepth 100000
set_option maxHeartbeats 8000000
/-! XC: the end. -/
open PySem PySem.W PySem.Calls PyProof.Rows
set_option maxRecDepth 100000 in
set_option maxHeartbeats 0 in
theorem PySem.Challenge.cw_listviews_k50_whole_shapes_by_their_defi_holds : PySem.Challenge.rw_listviews_k50_whole_shapes_by_their_defi.Holds := by
  w_on; o_law
  refine HandSHeadRun.head_any (r := OpenLaw.row PySem.Challenge.rw_listviews_k50_whole_shapes_by_their_defi) (q := view (OpenLaw.row PySem.Challenge.rw_listviews_k50_whole_shapes_by_their_defi).prog [38]) (H := G.hk) (ob := G.ob) (M := 20000) (loose := G.looseX) (d := HandSHeadRun.topDef (OpenLaw.row PySem.Challenge.rw_listviews_k50_whole_shapes_by_their_defi).prog 38) (kwd := []) G.ob_eq
    (by kernel_rfl) (fun s => by kernel_rfl) G.run (by kernel_rfl) (by kernel_rfl) (by kernel_rfl) (by rfl) (by first | assumption | decide +kernel) (by decide +kernel) ⟨rfl, rfl, rfl, rfl, rfl, by decide +kernel⟩ ?hw ?hc
  case hw => w_witness2
  case hc =>
    refine G.walk_goT (l := PySem.Challenge.rw_listviews_k50_whole_shapes_by_their_defi) (n := 63) (k := 8) (x := "_law_script") rfl (by decide) (by kernel_rfl) ⟨rfl, by decide, by decide⟩ ?F
    intro w mg fa h Y GX hmg0
    obtain ⟨K, KX, c, dt⟩ := Y
    have hmg : mg ("law" : PySem.Str) = some (.ref fa) := by
      have e : (HandSHeadRun.topDef (OpenLaw.row PySem.Challenge.rw_listviews_k50_whole_shapes_by_their_defi).prog 38).name = ("law" : PySem.Str) := by kernel_rfl
      rw [← e]
      exact hmg0
    obtain ⟨fd, hb, hF⟩ := G.facts (w := w) KX GX hmg c
    obtain ⟨t1, t2⟩ := G.tab_ok c
    refine ⟨K, fd, G.tabC K, G.spLaw K (G.tabT K), KX, fun p hp => ?_, fun p hp => ?_, fun p hp => ?_, hb, fun H a ns hl hH hS => ⟨a, ns, rfl, hS, hl, fun p hp => ?_, fun _ => rfl⟩, hF⟩
    · rw [List.mem_singleton.mp hp]
      exact dt _ List.mem_cons_self
    · rw [List.mem_singleton.mp hp]
      exact t2
    · rw [List.mem_singleton.mp hp]
      exact t1
    · rw [List.mem_singleton.mp hp]
      exact LamX.TabS.nil (hH _ List.mem_cons_self)
