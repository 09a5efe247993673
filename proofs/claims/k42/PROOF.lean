import PyProof.Rows.All
import Wide.All
import OpenK.AllK
import Wide.FinOn
import HandS.ForMost
import HandS.ForExc
import HandS.ExcInit
import HandS.ExcField
import HandS.TryMany
import HandS.IsInst
import HandS.Wide
import HandS.Small
import HandS.RaiseMore
import PyProof.ReprRoads
import KE.KSuper
import HandS.ClsMeth
import HandS.Nested
import HandS.More
import PyProof.InstNe
import HandS.SlotsOwn
import HandS.Words
import HandS.NamedTupSort
import KE.KCallOwn
import KE.KOpsOwn
import HandS.Star
import HandS.MethStar
import HandS.StrMore
import HandS.Walk
import HandS.Defaults
import HandS.MakeKwOnly
import OpenK.KMake
import KE.KOwnIter
import HandS.IterVal
import HandS.List
import HandS.TupSets
import HandS.DeepEq
import HandS.DictEq
import OpenK.KOps
import KE.KeyNested
import PyProof.CallFns
import HandS.SetKeys
import HandS.Strs
import HandS.Zip
import HandS.Conv
import HandS.DictTup
import KE.KDictZip
import KE.DataMinMax
import HandS.RevRange
import HandS.SortInts
import HandS.MapObj
import HandS.DictComp
import HandS.ExcInitHot
import HandS.SuiteRaise
import HandS.RaiseFrom
import HandS.WordsExc
import HandS.Property
import HandS.Head0
import HandS.Head1
import HandS.Head2
import HandS.HeadHook1
import HandS.HeadHook2
import PySem.Challenge.RW_listviews_k42_whole_steps_of_operations
set_option Elab.async false
set_option linter.all false
set_option maxRecDepth 100000
set_option maxHeartbeats 2000000
/-! G1: what a def keeps where no guard is under way; repr of data at any depth, dicts too. -/
namespace G
open PySem PySem.Spec PyProof.Rows L2

/-! ### how long a shown text is -/
mutual
def mass : PyData → Nat
  | .none => 4
  | .bool _ => 5
  | .int _ => 1921
  | .str x => (reprText x).length
  | .list xs => 3 + massAll xs
  | .tuple xs => 4 + massAll xs
  | .dict kvs => 3 + massKv kvs
def massAll : List PyData → Nat
  | [] => 0
  | x :: xs => mass x + 2 + massAll xs
def massKv : List (PyData × PyData) → Nat
  | [] => 0
  | (k, v) :: r => mass k + mass v + 4 + massKv r
end
theorem text_from_le : ∀ (ts : List Str) (k : Nat) (acc : Str), (textFrom k acc ts).length ≤ acc.length + piled ts
  | [], k, acc => by
    show acc.length ≤ acc.length + 0
    omega
  | t :: r, k, acc => by
    have h1 := text_from_le r (k + 1) (acc ++ (if k > 0 then ", " else "" : String) ++ t)
    rw [strLen_append, strLen_append] at h1
    have h2 : (((if k > 0 then ", " else "" : String) : Str)).length ≤ 2 := by
      split <;> decide
    show (textFrom (k + 1) _ r).length ≤ _
    rw [piled_cons]
    omega
theorem list_text_le (ts : List Str) : (listText ts).length ≤ 3 + piled ts := by
  unfold listText
  rw [strLen_append]
  have h1 := text_from_le ts 0 "["
  have e1 : ((("[" : String) : Str)).length = 1 := rfl
  have e2 : ((("]" : String) : Str)).length = 1 := rfl
  rw [e1] at h1
  rw [e2]
  omega
theorem join_le (ts : List Str) : (Str.join ", " ts).length ≤ piled ts := by
  by_cases h : ts = []
  · subst h
    exact Nat.le_refl 0
  · have := join_length_add ts h
    omega
theorem tuple_text_le (ts : List Str) : (tupleText ts).length ≤ 4 + piled ts := by
  unfold tupleText
  rw [strLen_append, strLen_append]
  have h1 := join_le ts
  have e1 : ((("(" : String) : Str)).length = 1 := rfl
  have e3 : (((if ts.length == 1 then ",)" else ")" : String) : Str)).length ≤ 2 := by split <;> decide
  rw [e1]
  omega
theorem dict_text_le (ts : List Str) : (dictText ts).length ≤ 3 + piled ts := by
  unfold dictText
  rw [strLen_append, strLen_append]
  have h1 := join_le ts
  have e1 : ((("{" : String) : Str)).length = 1 := rfl
  have e3 : ((("}" : String) : Str)).length = 1 := rfl
  rw [e1, e3]
  omega
mutual
theorem shown_le : ∀ d : PyData, d.showable = true → d.shown.length ≤ mass d
  | .none, _ => by decide
  | .bool b, _ => by cases b <;> decide
  | .int i, h => by
    have h' : i.natAbs.log2 < 1920 := by simpa [PyData.showable] using h
    have h2 := int_text_length_le (by decide) h'
    show (Str.ofString (toString i)).length ≤ 1921
    rw [PySem.ofString_length]
    exact h2
  | .str x, _ => by
    simp only [PyData.shown, mass]
    exact Nat.le_refl _
  | .list xs, h => by
    have h' : PyData.showableAll xs = true := by simpa [PyData.showable] using h
    have h1 := list_text_le (PyData.shownAll xs)
    have h2 := shown_all_le xs h'
    simp only [PyData.shown, mass]
    omega
  | .tuple xs, h => by
    have h' : PyData.showableAll xs = true := by simpa [PyData.showable] using h
    have h1 := tuple_text_le (PyData.shownAll xs)
    have h2 := shown_all_le xs h'
    simp only [PyData.shown, mass]
    omega
  | .dict kvs, h => by
    have h' : PyData.showableKv kvs = true := by simpa [PyData.showable] using h
    have h1 := dict_text_le (PyData.shownKv kvs)
    have h2 := shown_kv_le kvs h'
    simp only [PyData.shown, mass]
    omega
theorem shown_all_le : ∀ xs : List PyData, PyData.showableAll xs = true → piled (PyData.shownAll xs) ≤ massAll xs
  | [], _ => by
    simp only [PyData.shownAll, massAll, piled_nil]
    exact Nat.le_refl _
  | x :: xs, h => by
    simp only [PyData.showableAll, Bool.and_eq_true] at h
    have h1 := shown_le x h.1
    have h2 := shown_all_le xs h.2
    simp only [PyData.shownAll, massAll, piled_cons]
    omega
theorem shown_kv_le : ∀ xs : List (PyData × PyData), PyData.showableKv xs = true → piled (PyData.shownKv xs) ≤ massKv xs
  | [], _ => by
    simp only [PyData.shownKv, massKv, piled_nil]
    exact Nat.le_refl _
  | (k, v) :: xs, h => by
    simp only [PyData.showableKv, Bool.and_eq_true] at h
    have h1 := shown_le k h.1.1
    have h2 := shown_le v h.1.2
    have h3 := shown_kv_le xs h.2
    have e : (((": " : String) : Str)).length = 2 := rfl
    simp only [PyData.shownKv, massKv, piled_cons, strLen_append, e]
    omega
end

/-! ### data that stands in the heap: lists, tuples, dicts by int and text keys -/
mutual
inductive Rp (K : PySem.W.Frag) (H : Hp) : V → PyData → Prop
  | non : Rp K H .non .none
  | bl (b : Bool) : Rp K H (.bl b) (.bool b)
  | int (i : Int) : Rp K H (.int i) (.int i)
  | str (x : Str) : Rp K H (.str x) (.str x)
  | lst {a : Addr} {xs : List V} {ds : List PyData} : H a = some (.lst xs) → RpAll K H xs ds → Rp K H (.ref a) (.list ds)
  | tup {a : Addr} {xs : List V} {ds : List PyData} : H a = some (.tup xs) → RpAll K H xs ds → Rp K H (.ref a) (.tuple ds)
  | dic {a : Addr} {kvs : List (Key × V)} {ds : List (PyData × PyData)} : H a = some (.dK kvs) → RpAll K H (kvs.map fun p => kV p.1) (ds.map (·.1)) → RpAll K H (kvs.map (·.2)) (ds.map (·.2)) → Rp K H (.ref a) (.dict ds)
inductive RpAll (K : PySem.W.Frag) (H : Hp) : List V → List PyData → Prop
  | nil : RpAll K H [] []
  | cons {v : V} {vs : List V} {d : PyData} {ds : List PyData} : Rp K H v d → RpAll K H vs ds → RpAll K H (v :: vs) (d :: ds)
end

/-! ### .. and how it is read -/
mutual
/-- no list in it: each address that a reading of it counts is a dict's -/
def okS : PyData → Bool
  | .none | .bool _ | .int _ | .str _ => true
  | .list _ => false
  | .tuple xs => okSAll xs
  | .dict kvs => okSKv kvs
def okSAll : List PyData → Bool
  | [] => true
  | x :: xs => okS x && okSAll xs
def okSKv : List (PyData × PyData) → Bool
  | [] => true
  | (k, v) :: r => okS k && okS v && okSKv r
end
theorem okSKv_split : ∀ {kvs : List (PyData × PyData)}, okSKv kvs = true → okSAll (kvs.map (·.1)) = true ∧ okSAll (kvs.map (·.2)) = true
  | [], _ => ⟨rfl, rfl⟩
  | (k, v) :: r, h => by
    simp only [okSKv, Bool.and_eq_true] at h
    obtain ⟨h1, h2⟩ := okSKv_split h.2
    simp only [List.map_cons, okSAll, Bool.and_eq_true]
    exact ⟨⟨h.1.1, h1⟩, h.1.2, h2⟩
theorem pairs_vals {P : Program} {w : World} : ∀ {kvs : List (Key × V)} {vs : List (Key × Value)} {es : List DictEntry}, KV kvs vs → Pairs (mixKind P w) es vs →
    Vals (kvs.map fun p => kV p.1) (es.map (·.key)) ∧ Vals (kvs.map (·.2)) (es.map (·.val))
  | _, _, _, .nil, .nil => ⟨.nil, .nil⟩
  | _, _, _, .cons r t, .cons hk hv p => by
    obtain ⟨h1, h2⟩ := pairs_vals t p
    refine ⟨.cons ?_ h1, .cons ?_ h2⟩
    · dsimp only
      rw [r.1]
      rcases keyIs_shape hk with ⟨i, tk, e1, e2⟩ | ⟨x, tk, e1, e2⟩
      · rw [e1, e2]
        exact ⟨tk, rfl⟩
      · rw [e1, e2]
        exact ⟨tk, rfl⟩
    · dsimp only
      rw [hv]
      exact r.2
section
variable {X : Cx} {pins : List (Addr × Obj)} {σ : L2.St} {H : Hp} {s : Shared}
mutual
theorem rp_reads (I : Inv X pins σ H s) : ∀ (d : PyData) (v : V) (u : Value), Rp X.K H v d → RelV v u → ∃ as, Reads s.heap u d as ∧ (okS d = true → sysModules ∉ as)
  | .none, _, _, h, r => by
    cases h
    cases r
    exact ⟨_, Reads.none, fun _ => by simp⟩
  | .bool b, _, _, h, r => by
    cases h
    cases r
    exact ⟨_, Reads.bool b, fun _ => by simp⟩
  | .int i, _, _, h, r => by
    cases h
    obtain ⟨t, rfl⟩ := r
    exact ⟨_, Reads.int i t, fun _ => by simp⟩
  | .str x, _, _, h, r => by
    cases h
    obtain ⟨t, rfl⟩ := r
    exact ⟨_, Reads.str x t, fun _ => by simp⟩
  | .list ds, _, _, h, r => by
    cases h with
    | lst hs ha =>
      cases r
      obtain ⟨its, rv, ⟨o, n, ho, hc, _, hd⟩, _⟩ := I.list (.of hs)
      obtain ⟨as, hr, _⟩ := rp_readsAll I ds _ its ha rv
      exact ⟨_, Reads.list ho hc hd hr, fun z => by simp [okS] at z⟩
  | .tuple ds, _, _, h, r => by
    cases h with
    | tup hs ha =>
      cases r
      obtain ⟨its, rv, ⟨o, ho, hc, n, hd⟩, _⟩ := I.tuple (.of hs)
      obtain ⟨as, hr, q⟩ := rp_readsAll I ds _ its ha rv
      exact ⟨_, Reads.tuple ho hc hd hr, fun z => q (by simpa [okS] using z)⟩
  | .dict ds, _, _, h, r => by
    cases h with
    | dic hs hk hv =>
      cases r
      obtain ⟨_, hm, vs, rel, o, es, ep, e1, e2, e3, e4, e5, e6⟩ := I.hok _ _ hs
      obtain ⟨r1, r2⟩ := pairs_vals rel e5
      obtain ⟨as, q1, z1⟩ := rp_readsKeys I ds _ _ hk r1
      obtain ⟨bs, q2, z2⟩ := rp_readsVals I ds _ _ hv r2
      refine ⟨_, Reads.dict e1 e2.1 e3 q1 q2, fun z => ?_⟩
      have hz : okSKv ds = true := by simpa [okS] using z
      obtain ⟨k1, k2⟩ := okSKv_split hz
      have hm' := beq_eq_false_iff_ne.mp hm
      intro hin
      rcases List.mem_cons.mp hin with hx | hx
      · exact hm' hx.symm
      · rcases List.mem_append.mp hx with hx | hx
        · exact z1 k1 hx
        · exact z2 k2 hx
theorem rp_readsAll (I : Inv X pins σ H s) : ∀ (ds : List PyData) (vs : List V) (us : List Value), RpAll X.K H vs ds → Vals vs us → ∃ as, ReadsAll s.heap us ds as ∧ (okSAll ds = true → sysModules ∉ as)
  | [], _, _, h, r => by
    cases h
    cases r
    exact ⟨_, ReadsAll.nil, fun _ => by simp⟩
  | d :: ds, _, _, h, r => by
    cases h with
    | cons h1 h2 =>
      cases r with
      | cons r1 r2 =>
        obtain ⟨as, q1, z1⟩ := rp_reads I d _ _ h1 r1
        obtain ⟨bs, q2, z2⟩ := rp_readsAll I ds _ _ h2 r2
        refine ⟨_, ReadsAll.cons q1 q2, fun z => ?_⟩
        simp only [okSAll, Bool.and_eq_true] at z
        intro hin
        rcases List.mem_append.mp hin with hx | hx
        · exact z1 z.1 hx
        · exact z2 z.2 hx
theorem rp_readsKeys (I : Inv X pins σ H s) : ∀ (ds : List (PyData × PyData)) (vs : List V) (us : List Value), RpAll X.K H vs (ds.map (·.1)) → Vals vs us → ∃ as, ReadsAll s.heap us (ds.map (·.1)) as ∧ (okSAll (ds.map (·.1)) = true → sysModules ∉ as)
  | [], _, _, h, r => by
    cases h
    cases r
    exact ⟨_, ReadsAll.nil, fun _ => by simp⟩
  | (d, _) :: ds, _, _, h, r => by
    cases h with
    | cons h1 h2 =>
      cases r with
      | cons r1 r2 =>
        obtain ⟨as, q1, z1⟩ := rp_reads I d _ _ h1 r1
        obtain ⟨bs, q2, z2⟩ := rp_readsKeys I ds _ _ h2 r2
        refine ⟨_, ReadsAll.cons q1 q2, fun z => ?_⟩
        simp only [List.map_cons, okSAll, Bool.and_eq_true] at z
        intro hin
        rcases List.mem_append.mp hin with hx | hx
        · exact z1 z.1 hx
        · exact z2 z.2 hx
theorem rp_readsVals (I : Inv X pins σ H s) : ∀ (ds : List (PyData × PyData)) (vs : List V) (us : List Value), RpAll X.K H vs (ds.map (·.2)) → Vals vs us → ∃ as, ReadsAll s.heap us (ds.map (·.2)) as ∧ (okSAll (ds.map (·.2)) = true → sysModules ∉ as)
  | [], _, _, h, r => by
    cases h
    cases r
    exact ⟨_, ReadsAll.nil, fun _ => by simp⟩
  | (_, d) :: ds, _, _, h, r => by
    cases h with
    | cons h1 h2 =>
      cases r with
      | cons r1 r2 =>
        obtain ⟨as, q1, z1⟩ := rp_reads I d _ _ h1 r1
        obtain ⟨bs, q2, z2⟩ := rp_readsVals I ds _ _ h2 r2
        refine ⟨_, ReadsAll.cons q1 q2, fun z => ?_⟩
        simp only [List.map_cons, okSAll, Bool.and_eq_true] at z
        intro hin
        rcases List.mem_append.mp hin with hx | hx
        · exact z1 z.1 hx
        · exact z2 z.2 hx
end
end

/-! ### repr of a list of such data -/
/-- a list at the top: its own address is not counted -/
theorem repr_top {prog : Program} {w : World} {A : Around} {E : Value → Shared → Prop} {s : Shared} {Q : Value → Shared → Prop} {a : Addr} {o : Obj} {vs : Array Value} {n : Nat} {xs : List PyData} {as : List Addr}
    (h1 : s.heap.get? a = some o) (h2 : o.cls = .type "list") (h3 : o.data = .seq vs n) (h4 : ReadsAll s.heap vs.toList xs as) (hs : PyData.showableAll xs = true) (hsm : PyData.hasDictAll xs = true → sysModules ∉ as)
    (hg : A.guards = some []) (hu : A.units + ((PyData.list xs).depth + 1) < cLine) (hsz : (listText (PyData.shownAll xs)).length ≤ sizeLine)
    (hQ : ∀ h' u tk, (∀ b o, s.heap.get? b = some o → h'.get? b = some o) → Q (.str (listText (PyData.shownAll xs)) u) { s with heap := h', toks := tk }) :
    wpAny (model prog w) A (call (.builtin "repr") [.ref a]) Q E s := by
  obtain ⟨bs, hb, hk⟩ := ReprAllK.of_readsAll (prog := prog) (w := w) h4 hs hsm (fun t ht => Nat.le_trans (listText_mem_le ht) hsz)
  have hna : a ∉ bs :=
    not_mem_of_deeper (.list h1 h2 h3 h4) (by simp only [PyData.depth]; omega) hb
  simp only [PyData.depth] at hu
  refine call_repr_slot (A := A) (by omega) (idr := "list.__repr__") (T := "list") (show s.TypeIs (.ref a) "list" from ⟨o, h1, h2⟩) F.slot_list_repr.toG ?_
  have hu1 : A.in1.units = A.units + 1 := rfl
  obtain ⟨l⟩ := vs
  cases l with
  | nil =>
    have h4' : ReadsAll s.heap [] xs as := h4
    cases h4'
    have ht := hQ s.heap
    rw [show listText (PyData.shownAll []) = ("[]" : Str) by simp only [PyData.shownAll]; exact listText_nil] at ht
    exact call_list_repr_empty ⟨o, h1, h2⟩ h1 h3 ⟨_, _, rfl, ht _ _ fun _ _ e => e⟩
  | cons x l =>
    refine call_list_reprK h1 h2 h3 hna (by simpa using hk.length_eq) (fun i y e => hk.item i y (by simpa using e)) (by exact hg) (fun b _ => Clear.nil b) (by rw [hu1]; omega) (fun _ _ e => e) (fun h' u tk k => ⟨_, _, rfl, hQ h' u tk k⟩) hsz
/-- repr(xs), xs a list of data -/
def rRepr (K : PySem.W.Frag) : List V → Hp → VK → Prop := fun vs H Q => ∃ (a : Addr) (xs : List V) (ds : List PyData), vs = [.ref a] ∧ H a = some (.lst xs) ∧ RpAll K H xs ds ∧ PyData.showableAll ds = true ∧ (PyData.hasDictAll ds = true → okSAll ds = true) ∧
  (PyData.list ds).depth ≤ 20 ∧ 3 + massAll ds ≤ sizeLine ∧ Q (.str (listText (PyData.shownAll ds))) H
theorem call_repr {X : Cx} (hg : X.A.guards = some []) (hu : X.A.units + 64 < cLine) : CallR X (.builtin "repr") (rRepr X.K) := by
  intro pins s σ H xs us Q I r h
  obtain ⟨a, ys, ds, rfl, ha, hr, hs, hd, hp, hm, q⟩ := h
  obtain rfl := Vals.ref1 r
  obtain ⟨its, rv, ⟨o, n, ho, hc, _, hdt⟩, _⟩ := I.list (.of ha)
  obtain ⟨as, q1, z1⟩ := rp_readsAll I ds _ its hr rv
  have hz := Nat.le_trans (list_text_le _) (Nat.le_trans (Nat.add_le_add_left (shown_all_le ds hs) 3) hm)
  exact repr_top ho hc hdt q1 hs (fun z => z1 (hd z)) hg (by omega) hz fun h' u tk k => ⟨.str _, H, I.kept k, ⟨u, rfl⟩, q⟩
end G
set_option Elab.async false
set_option linter.all false
set_option maxRecDepth 100000
set_option maxHeartbeats 2000000
/-! G2: a def that runs where no guard is under way, and the law's own call. -/
namespace G
open PySem PySem.Spec PyProof.Rows L2
/-- as FnOk, of arounds without guards -/
structure FnG (P : Program) (w : World) (K : PySem.W.Frag) (mg : Str → Option Value) (base : Heap) (CX : CXT) (k : Nat) (f : Addr) (fd : FuncData) (ps : List Str) (sp : Sp) : Prop where
  size : ∀ vs H Q E, sp vs H Q E → vs.length = ps.length
  go : ∀ (A : Around) (outer : List Env) (s : Shared) (H : Hp) (args : Args) (us : List Value) (vs : List V) (Q : VK) (E : XK),
    A.guards = some [] → Room k A → Env0 P w K mg base A outer s H → BindsTo s fd args (ps.zip us) → Vals vs us → sp vs H Q E → codeAny (model P w) A (.call (.ref f) args) (CR CX outer P w H s Q E) s
section
variable {P : Program} {w : World} {K : PySem.W.Frag} {mg : Str → Option Value} {base : Heap} {CX : CXT}
theorem FnG.of_body {x qual : Str} {st : Stmt} {f : Addr} {fd : FuncData} {N ps : List Str} {k : Nat} {sp : Sp} (F : Fun K x qual st f fd) (S : FnScope N ps (defScope st))
    (size : ∀ vs H Q E, sp vs H Q E → vs.length = ps.length)
    (body : ∀ (cdv : Value) (A : Around) (outer : List Env) (s : Shared) (H : Hp) (vs : List V) (Q : VK) (E : XK), A.guards = some [] →
      Room k (A.deeper (envOfC qual (defScope st) s.heap.objs.size f cdv)) → sp vs H Q E →
      ∃ t, PSs (cxOf CX P w K mg base N qual (defScope st) f cdv A outer s H E).nox (defBody st) t ∧ t { nx := fun _ H' => Q .non H', rt := Q } (start N vs) H) :
    FnG P w K mg base CX (k + 1) f fd ps sp := by
  obtain ⟨_, _, _, _, _, _, cdv, _, _, rfl, lk, hcd⟩ := F.ex
  refine ⟨size, fun A outer s H args us vs Q E hg hr e0 hb r h => ?_⟩
  have inS : K.In s.heap := e0.mod.kin.keeps fun b o e => (e0.bs b o e).1
  have noL : s.heap.NoLimit := e0.mod.nolimit.keeps fun b o e => (e0.bs b o e).1
  refine codeAny_call_function hr.depth (inS _ _ lk) rfl S.co S.gen rfl
    (PySem.W.codeRec_of inS hcd) (hb _ _ _ _ ?_)
  refine wpAny_newFunctionEnv_cells S.kind
    (fun ⟨n, v⟩ hy => ?_) fun env he s1 x => ?_
  · rcases S.par n (List.of_mem_zip hy).1 with q | q
    · exact Or.inl q
    · exact Or.inr ⟨q, PySem.W.cellsFrom_some _ _ _ (Or.inl q)⟩
  · subst he
    refine ⟨noL.keeps x.toInCall.keep, codeAny_func ?_⟩
    obtain ⟨t, ht, hq⟩ := body cdv A outer s H vs Q E hg (hr.deeper _) h
    have J := inv_start (CX := CX) (P := P) (w := w) (K := K) (mg := mg) (base := base) (E := E) S hr.hd e0 (size _ _ _ _ h) r x
    refine wpAny_mono (ht.nox.run [] s1 (start N vs) H _ J hq) (fun fl s' z => ?_) fun e s' z => z
    cases fl with
    | ret u =>
      obtain ⟨v, σ', H', J', rv, q⟩ := z
      exact ⟨v, H', J'.os, J'.bare, J'.base, J'.hok, rv, q⟩
    | next =>
      obtain ⟨σ', H', J', q⟩ := z
      exact ⟨.non, H', J'.os, J'.bare, J'.base, J'.hok, rfl, q⟩
    | brk =>
      obtain ⟨_, _, _, q⟩ := z
      exact q.elim
    | cont =>
      obtain ⟨_, _, _, q⟩ := z
      exact q.elim
end
section
variable {X : Cx} {CX : CXT} {k : Nat} {f : Addr} {fd : FuncData} {ps : List Str} {sp : Sp} {dvs : List V} {ds : List Value} {E : XK} {x : Str} {p pos : Pos} {e : Expr} {es : List Expr} {t : TA}
theorem FnG.run {pins : List (Addr × Obj)} {σ : L2.St} {H : Hp} {s : Shared} {Q : VK} {us : List Value} {vs : List V} (F : FnG X.prog X.w X.K X.mg X.base CX k f fd ps sp) (hg : X.A.guards = some []) (hr : Room k X.A) (hb : Binds X.K fd ps ds) (hd : Vals dvs ds)
    (hx : Passes CX X E) (I : Inv X pins σ H s) (r : Vals vs us) (h : sp (vs ++ dvs) H Q E) : wpAny (model X.prog X.w) X.A (call (.ref f) us) (EP X pins σ Q) X.xe s := by
  have both := r.append hd
  have size : (us ++ ds).length = ps.length := both.length.symm.trans (F.size _ _ _ _ h)
  refine wpAny_call (codeAny_mono (F.go X.A X.stack s H ⟨us, []⟩ (us ++ ds) (vs ++ dvs) Q E hg hr I.env0 (hb s us I.kIn size) both h) fun q s' z => ?_)
  match q, z with
  | .error er, z => exact hx pins σ H s er s' I z
  | .ok (.ret u), z => exact I.after z
/-- f(e, ..) -/
theorem pe_callG (F : FnG X.prog X.w X.K X.mg X.base CX k f fd ps sp) (hg : X.A.guards = some []) (hr : Room k X.A) (gl : Gl X x) (hm : X.mg x = some (.ref f)) (hk : PySem.W.keepIn X.K (.ref f) = true) (hb : Binds X.K fd ps ds) (hd : Vals dvs ds)
    (hx : Passes CX X E) (ha : PA X (e :: es) t) (hdb : (x == ("__debug__" : Str)) = false := by decide)
    (he : starEach (e :: es) X.env = (false, eval e X.env) :: starEach es X.env := by rfl) (hpl : (backTo pos (starEach es X.env)).any (·.1) = false := by rfl) : PE X (.Call (.Name x p) (e :: es) [] pos) (tCall sp dvs E t) := by
  constructor
  intro pins s σ H Q I h
  refine wpAny_Call_Name_kw (ld_glob I gl hm ?_ hdb)
  exact PySem.W.callWith_K (h₀ := X.base) I.ok.mod.kin hk
    (thn (ha.run pos pins s σ H _ I h) fun us s1 ⟨vs, H1, I1, r, q⟩ => ⟨I1.kIn, F.run hg hr hb hd hx I1 r q⟩) he hpl
end
/-- True comes out, what stood stands, nothing went in or out -/
def Fine (s : Shared) (r : Result) (s' : Shared) : Prop :=
  r = .ok (.ret (.bool true)) ∧ OldK s.heap s'.heap ∧ s'.os = s.os ∧ AllBare s'.gens
/-- the law's call, from the state that the top leaves -/
theorem law_go {P : Program} {w : World} {K : PySem.W.Frag} {mg mb : Str → Option Value} {k : Nat} {fa a : Addr} {fd : FuncData} {x : Str} {sp : Sp} {s₁ : Shared} {vs : List Value} {ns : List Int}
    (inK : K.In s₁.heap) (gl : s₁.heap.Ns mainGlobals mg)
    (bl : s₁.heap.Ns builtinsNs mb) (boot : ∀ y : Str, y ≠ "__name__" → mb y = bootBuiltins y)
    (lim : s₁.heap.NoLimit) (noG : s₁.gens = #[])
    (script : s₁.heap.get? a = some { cls := .type "list", data := .seq vs.toArray })
    (allInt : IntsAre vs ns) (few : ns.length ≤ sizeLine) (hr : Room k callerA)
    (F : ∀ base : Heap, K.In base → base.Ns mainGlobals mg → FnG P w K mg base CX0 k fa fd [x] sp) (hbind : ∀ (s : Shared) (u : Value), BindsTo s fd ⟨[u], []⟩ [(x, u)])
    (hsp : ∀ H : Hp, Only H → SqL K H a (ns.map V.int) → sp [.ref a] H (fun v _ => v = .bl true) fun _ _ _ => False) :
    codeAny (model P w) callerA (.call (.ref fa) ⟨[.ref a], []⟩)
      (Fine s₁) s₁ := by
  -- nothing but the script is tracked; if the written part holds the script, nothing at all
  have main : ∀ H : Hp, Only H → SqL K H a (ns.map V.int) → HOk P w H s₁.heap → (∀ b, H b ≠ none → b = a ∧ K.lookup a = none) →
      codeAny (model P w) callerA (.call (.ref fa) ⟨[.ref a], []⟩)
      (Fine s₁) s₁ := by
    intro H hO hS hok hA
    have nsK : ∀ {b : Addr} {m : Str → Option Value}, s₁.heap.Ns b m → (hidT s₁.heap H).Ns b m := by
      rintro b m ⟨o, es, ep, e, d, r⟩
      refine ⟨o, es, ep, hidT_get e ?_, d, r⟩
      cases q : H b with
      | none => rfl
      | some u =>
        exfalso
        have eb := (hA b (by rw [q]; simp)).1
        rw [eb, script] at e
        rw [← Option.some.inj e] at d
        cases d
    have inB : K.In (hidT s₁.heap H) := fun b o e => hidT_get (inK b o e) (by
      cases q : H b with
      | none => rfl
      | some u =>
        exfalso
        obtain ⟨e1, e2⟩ := hA b (by rw [q]; simp)
        rw [e1, e2] at e
        cases e)
    obtain ⟨mc, l1, l2⟩ := lim
    have hM : Mod K mg (hidT s₁.heap H) := ⟨inB, nsK gl, ⟨mb, nsK bl, boot⟩, ⟨mc, nsK l1, l2⟩⟩
    have e0 : Env0 P w K mg (hidT s₁.heap H) callerA [] s₁ H := ⟨rfl, hM, fun b o e => of_hidT e, Nat.le_of_eq (hidT_size _ _), trivial, fun b z => absurd (show b ∈ ([] : List Addr) from z) (by simp), hok, .of_eq noG⟩
    have run := (F _ inB (nsK gl)).go callerA [] s₁ H ⟨[.ref a], []⟩ [.ref a] [.ref a] _ _ rfl hr e0 (hbind s₁ (.ref a)) (.cons rfl .nil) (hsp H hO hS)
    refine codeAny_mono run fun r s' h => ?_
    match r, h with
    | .ok (.ret u), h =>
      obtain ⟨v, H', os, bare, un, hok', r', q⟩ := h
      obtain rfl : v = .bl true := q
      obtain rfl : u = Value.bool true := r'
      refine ⟨rfl, OldK.of_keep fun b o e => ?_, os, bare⟩
      rcases hO b with z | ⟨ob, xs, z⟩
      · exact un.keep b o e z (fun z => absurd (show b ∈ ([] : List Addr) from z) (by simp)) (by simp)
      · obtain ⟨e1, _⟩ := hok b _ z
        obtain ⟨e2, _⟩ := hok' b _ (un.frzs b ob _ z)
        rw [e] at e1
        cases e1
        exact e2
  cases hk : K.lookup a with
  | some o =>
    have e := inK a o hk
    rw [script] at e
    cases e
    refine main (fun _ => none) (fun _ => .inl rfl) (.inr ⟨_, vs.toArray, _, hk, rfl, rfl, rfl, ?_, ?_⟩) (fun b u z => nomatch z) fun b z => absurd rfl z
    · rw [List.size_toArray, allInt.length]
      exact few
    · simpa using vals_ints allInt
  | none =>
    let o : Obj := { cls := .type "list", data := .seq vs.toArray }
    let T : HO := .frz o (.lst (ns.map V.int))
    have at_a : upd (fun _ => none) a T a = some T := upd_same
    refine main (upd (fun _ => none) a T) (fun b => ?_) (.inl (.inr ⟨o, at_a⟩)) (fun b u z => ?_) fun b z => ?_
    · by_cases h : b = a
      · exact .inr ⟨o, _, by rw [h]; exact at_a⟩
      · exact .inl (upd_ne h)
    · by_cases h : b = a
      · subst h
        rw [at_a] at z
        cases z
        exact ⟨script, by rw [List.length_map]; exact few, vs, _, vals_ints allInt, script⟩
      · rw [upd_ne h] at z
        cases z
    · by_cases h : b = a
      · exact ⟨h, hk⟩
      · exact absurd (upd_ne h) z
/-- what k_head leaves, by the law's promise -/
theorem walk_go {l : PySem.W.OpenLaw} {n k : Nat} {q : Program} {loose : List Str} {XP : (Str → Option Value) → Heap → Prop} {YP : World → Heap → Prop} {d : DefRec} {K : Params → PySem.W.Frag} {sp : PySem.W.Frag → Sp} {x : Str}
    (most : l.most = some n) (few : n ≤ sizeLine)
    (nodf : d.params.defaults = []) (hr : Room k callerA)
    (hY : ∀ (w : World) (h : Heap), YP w h → (K w.params).In h)
    (F : ∀ (w : World) (mg : Str → Option Value) (fa : Addr) (h : Heap),
      (K w.params).In h → h.Ns mainGlobals mg → mg d.name = some (.ref fa) →
      ∃ fd : FuncData, (∀ (s : Shared) (u : Value), BindsTo s fd ⟨[u], []⟩ [(x, u)]) ∧ ∀ base : Heap, (K w.params).In base → base.Ns mainGlobals mg → FnG l.prog w (K w.params) mg base CX0 k fa fd [x] (sp (K w.params)))
    (hsp : ∀ (K : PySem.W.Frag) (H : Hp) (a : Addr) (ns : List Int), ns.length ≤ n → Only H → SqL K H a (ns.map V.int) → sp K [.ref a] H (fun v _ => v = .bl true) fun _ _ _ => False) :
    PySem.W.WalkO q loose XP YP l.row.toRowW d []
      (fun f vs => PySem.call f vs) := by
  refine Att.attach_call most nodf
    fun w _ s₁ mg mb fa _ _ _ _ a vs ns top Y _ _ _ atF obj allInt len noG => ?_
  have inK := hY w _ Y
  obtain ⟨fd, binds, keeps⟩ := F w mg fa _ inK top.T.g atF
  exact law_go inK top.T.g top.T.b top.T.builtins top.T.nolimit noG obj allInt (Nat.le_trans len few) hr keeps binds
    fun H hO hS => hsp _ H a ns len hO hS
end G
set_option Elab.async false
set_option linter.all false
set_option maxRecDepth 100000
set_option maxHeartbeats 2000000
/-! U1: a method that says super().__init__(..): its own activation is known while it runs. -/
namespace G
open PySem PySem.Spec PyProof.Rows L2 NdefX

/-- one statement, of a body whose activation is on top -/
structure PSa (X : Cx) (body : List Stmt) (st : Stmt) (t : TS) : Prop where
  run : ∀ (pins : List (Addr × Obj)) (s : Shared) (σ : L2.St) (H : Hp) (D : Ends), Inv X pins σ H s → t D σ H → _root_.PySem.wpAt (model X.prog X.w) X.A (.func body X.env) (exec st X.env) (SP X pins D) X.xe s
/-- .. several -/
structure PSsa (X : Cx) (body : List Stmt) (st : List Stmt) (t : TS) : Prop where
  run : ∀ (pins : List (Addr × Obj)) (s : Shared) (σ : L2.St) (H : Hp) (D : Ends), Inv X pins σ H s → t D σ H → _root_.PySem.wpAt (model X.prog X.w) X.A (.func body X.env) (execs st X.env) (SP X pins D) X.xe s
section
variable {X : Cx} {body rest : List Stmt} {st : Stmt} {t u : TS}
theorem psa (h : PS X st t) : PSa X body st t := ⟨fun pins s σ H D I q => wpAt_of_wpAny (h.run pins s σ H D I q)⟩
theorem pssa {sts : List Stmt} (h : PSs X sts t) : PSsa X body sts t := ⟨fun pins s σ H D I q => wpAt_of_wpAny (h.run pins s σ H D I q)⟩
theorem pssa_cons (h1 : PSa X body st t) (h2 : PSsa X body rest u) : PSsa X body (st :: rest) (tSeq t u) := by
  refine ⟨fun pins s σ H D I h => ks_wpAt_execs_cons (ks_wpAt_mono (h1.run pins s σ H { D with nx := u D } I h) (fun f s1 q => ?_) fun _ _ z => z)⟩
  cases f with
  | next =>
    obtain ⟨σ', H', I', q⟩ := q
    exact h2.run pins s1 σ' H' D I' q
  | ret v => exact q
  | brk => exact q
  | cont => exact q
end

/-- what of the text the words super().__init__ rest on, said in the def at f, of the class at D, to an instance of the class at C; f2: the __init__ found -/
structure SupOf (P : Program) (K : PySem.W.Frag) (f cda cc D C f2 : Addr) (x : Str) : Prop where
  fn : ∃ oc od fd sl ar, K.lookup f = some ⟨oc, od, .func fd, sl⟩ ∧ (fd.params.posonlyargs ++ fd.params.args).head? = some ar ∧ ar.arg = x
  code : ∃ oc od vs sl file tf, K.lookup cda = some ⟨oc, od, .fields vs, sl⟩ ∧ vs[2]? = some (.str file tf) ∧ ((P.main.file : Str) == file) = true
  cell : ∃ oc od sl, K.lookup cc = some ⟨oc, od, .cell (some (.ref D)), sl⟩
  isc : ∃ cd, PySem.W.clsIn K D = some cd
  isC : ∃ cd, PySem.W.clsIn K C = some cd
  sub : PySem.W.mroIn K C (.ref D) = some true
  thd : PySem.W.nsIn K cStatics "thirdparty.any" = some none
  sup : PySem.W.ks_superIn K C D "__init__" = some (some (.ref f2))
  ty : PySem.W.typeIn K (.ref f2) = some (.type "function")
  fi : PySem.W.fnIn K f2 = true
  top : (P.main.scope.names.lookup ("super" : Str)).isSome = false

/-- super().__init__(..), the instance in the slot i -/
def tSup (i : Nat) (C : Addr) (sp : Sp) (E : XK) (t : TA) : TS := fun D σ H => ∃ a dx fs, σ[i]? = some (some (.ref a)) ∧ H a = some (.ins C dx fs) ∧
  t σ H fun vs H1 => sp (.ref a :: vs) H1 (fun _ H2 => D.nx σ H2) E

section
variable {X : Cx} {CX : CXT} {k i : Nat} {f cda cc D C f2 : Addr} {x : Str} {sp : Sp} {E : XK} {body : List Stmt} {e : Expr} {es : List Expr} {t : TA} {p0 p1 apos pos spos : Pos} {pl : Sem Bool}
theorem cls_at {h : Heap} {K : PySem.W.Frag} {D : Addr} {cd : ClassData} (I : K.In h) (hD : PySem.W.clsIn K D = some cd) : ∃ o, h.get? D = some o ∧ o.data = .cls cd := by
  unfold PySem.W.clsIn at hD
  split at hD
  · rename_i c d cd' sl ho
    cases hD
    exact ⟨_, I _ _ ho, rfl⟩
  · cases hD
/-- the object super() -/
theorem super_base {pins : List (Addr × Obj)} {s : Shared} {σ : L2.St} {H : Hp} {whole : Sem Value} {a dx : Addr} {fs : List (Str × V)} {Q : Value → Shared → Prop}
    (I : Inv X pins σ H s) (S : SupOf X.prog X.K f cda cc D C f2 x) (hfu : X.env.func = some f) (hco : X.env.code = .ref cda) (hcl : X.env.cells.lookup ("__class__" : Str) = some cc)
    (hks : X.env.kindOf "super" = some .globalImplicit) (hkc : X.env.kindOf "__class__" = some .free) (hkx : X.env.kindOf x = some .local) (hm : X.mg "super" = none) (hN : X.N[i]? = some x)
    (hs : σ[i]? = some (some (.ref a))) (ha : H a = some (.ins C dx fs))
    (h : ∀ s', Inv X pins σ H s' → s'.heap.get? s.heap.objs.size = some { cls := .type "super", dict := none, data := .fields #[.ref D, .ref a, .ref C], slots := #[] } → Q (.ref s.heap.objs.size) s') :
    _root_.PySem.wpAt (model X.prog X.w) X.A (.func body X.env) (attributeBase (.Call (.Name "super" p0) [] [] p1) "__init__" X.env whole) Q X.xe s := by
  obtain ⟨oc, od, fd, sl, ar, lk, hp, hx⟩ := S.fn
  obtain ⟨oc2, od2, vs, sl2, file, tf, lk2, hv, hfile⟩ := S.code
  obtain ⟨oc3, od3, sl3, lk3⟩ := S.cell
  obtain ⟨cdD, hD⟩ := S.isc
  have inK := I.kIn
  obtain ⟨oD, hD1, hD2⟩ := cls_at inK hD
  obtain ⟨mb, b1, b2⟩ := I.mod.blt
  obtain ⟨m, hn, hl⟩ := I.loc
  obtain ⟨u, ru, hlook⟩ := hl i x _ hN hs (.inl hkx)
  obtain rfl : u = Value.ref a := ru
  have hmx : m x = some (.ref a) := by
    rcases hlook with ⟨_, z⟩ | ⟨z, _⟩
    · exact z
    · rw [hkx] at z
      rcases z with z | z <;> cases z
  have hob : s.heap.get? a = some (PySem.W.instObj C dx) := (show ObjOk X.prog X.w H s.heap a (.ins C dx fs) from I.hok a _ ha).2.2.2.1
  refine ks_wpAt_super_base hks hkc (by decide) hfu (inK _ _ lk) rfl hp hco (inK _ _ lk2) rfl hv hfile S.top ?_
  refine PySem.W.ks_loadName_global I.ok.kind hks (Calls.loadGlobal_builtin (by rw [I.ok.glob]; exact I.mod.glob.keeps I.bk) hm (by rw [I.ok.blt]; exact b1.keeps I.bk) ((b2 "super" (by decide)).trans (by first | rfl | decide +kernel)) ⟨rfl, ?_⟩)
  refine wpAny_loadName_free I.ok.kind hkc hcl ⟨_, inK _ _ lk3, rfl⟩ ?_
  rw [hx]
  refine wpAny_loadName_local I.ok.kind hkx hn hmx ?_
  obtain ⟨hh, g, d, tk, os⟩ := s
  refine ks_wpAny_isType_cls hD1 hD2 ⟨rfl, ?_⟩
  refine ks_wpAny_call_super hD1 hD2 hob rfl (fun c z => nomatch z) (PySem.W.looks_mroIn inK S.sub) fun h' e1 kp => ?_
  exact h _ (I.kept (t' := tk) kp) e1
/-- super().__init__(e, ..) -/
theorem psa_super (S : SupOf X.prog X.K f cda cc D C f2 x) (F : FnR X.prog X.w X.K X.mg X.base CX k f2 sp) (hr : Room k X.A) (hx : Passes CX X E) (hfu : X.env.func = some f) (hco : X.env.code = .ref cda) (hcl : X.env.cells.lookup ("__class__" : Str) = some cc)
    (hks : X.env.kindOf "super" = some .globalImplicit) (hkc : X.env.kindOf "__class__" = some .free) (hkx : X.env.kindOf x = some .local) (hm : X.mg "super" = none) (hN : X.N[i]? = some x) (ha : PA X (e :: es) t)
    (hst : starEach (e :: es) X.env = (false, eval e X.env) :: starEach es X.env := by rfl) (hpl : (backTo pos (starEach es X.env)).any (·.1) = false := by rfl)
    (ht : eval (.Call (.Attribute (.Call (.Name "super" p0) [] [] p1) "__init__" apos) (e :: es) [] pos) X.env = (do
      let ov ← attributeBase (.Call (.Name "super" p0) [] [] p1) "__init__" X.env (eval (.Call (.Name "super" p0) [] [] p1) X.env)
      standAt apos.atName
      let (f, first) ← holding [ov] (getMethod ov "__init__" pl)
      callWith pos f first (backTo pos (starEach (e :: es) X.env)) []) := by rfl)
    (hw : swapsWith (.Call (.Attribute (.Call (.Name "super" p0) [] [] p1) "__init__" apos) (e :: es) [] pos) none spos.line X.env = pure false := by rfl) :
    PSa X body (.Expr (.Call (.Attribute (.Call (.Name "super" p0) [] [] p1) "__init__" apos) (e :: es) [] pos) spos) (tSup i C sp E t) := by
  refine ⟨fun pins s σ H Dn I h => ?_⟩
  obtain ⟨a, dx, fs, h1, h2, q⟩ := h
  refine ks_wpAt_Expr_any (ks_wpAt_MethodCall (pl := pl) (super_base I S hfu hco hcl hks hkc hkx hm hN h1 h2 fun s1 I1 hso => ?_) ht) I.quiet hw
  obtain ⟨cdC, hC⟩ := S.isC
  have inK := I1.kIn
  have hob : s1.heap.get? a = some (PySem.W.instObj C dx) := (show ObjOk X.prog X.w H s1.heap a (.ins C dx fs) from I1.hok a _ h2).2.2.2.1
  obtain ⟨oC, hC1, hC2⟩ := cls_at inK hC
  have hne : a ≠ C := fun z => by
    rw [z, hC1] at hob
    rw [Option.some.inj hob] at hC2
    cases hC2
  obtain ⟨of, hof, hofc⟩ : ∃ of, s1.heap.get? f2 = some of ∧ of.cls = .type "function" := by
    have ht' : (X.K.lookup f2).map (·.cls) = some (.type "function") := S.ty
    cases z : X.K.lookup f2 with
    | none =>
      rw [z] at ht'
      cases ht'
    | some of =>
      rw [z] at ht'
      exact ⟨of, inK _ _ z, Option.some.inj ht'⟩
  have hsup := S.sup
  unfold PySem.W.ks_superIn at hsup
  rw [hC] at hsup
  obtain ⟨hh, g, d, tk, os⟩ := s1
  refine ks_wpAny_getMethod_super hso (PySem.W.looks_opaque inK S.thd) (l₀ := cdC.mro) ((PySem.W.looks_clsIn inK hC).andThen .now) rfl inK hsup hof hofc hne (by decide) ?_
  have I2 := ClX.met_new (g := f2) (C := a) I1
  refine ClX.callwith_cm I2 (ClX.base_none I1 (Nat.le_refl _)) S.fi (thn (ha.run pos _ _ σ H _ I2 q) fun us s3 ⟨vs, H3, I3, r3, q3⟩ => ⟨⟨ClX.pin_at I3, I3.kIn⟩, ?_⟩) hst hpl
  refine thn (ClX.run_cm F hr hx I3 r3 q3) fun _ _ y => ?_
  obtain ⟨v, H4, I4, _, q4⟩ := y
  exact ⟨σ, H4, I4, q4⟩
end

/-! ### the method -/
/-- THE RULE: a method that captures __class__ (it says super()), by its body -/
theorem fnx_of {CX : CXT} {P : Program} {w : World} {K : PySem.W.Frag} {mg : Str → Option Value} {base : Heap} {k : Nat} {f cda cc : Addr} {name qual : Str} {params : Arguments} {body : List Stmt} {scope : Scope} {dV kV doc pm ct oc : Value} {an od : Option Addr}
    {osl : Array (Option Value)} {N ps : List Str} {sp : Sp} (lk : K.lookup f = some ⟨oc, od, .func (PySem.W.ksFn name qual params body scope dV kV doc pm an (.ref cda) ct cc), osl⟩) (hcd : PySem.W.codeIn K (.ref cda) qual = true)
    (hcell : ∃ oc od sl v, K.lookup cc = some ⟨oc, od, .cell v, sl⟩) (S : NScope N ps ["__class__"] scope) (len : ∀ vs H Q E, sp vs H Q E → vs.length = ps.length)
    (hbody : ∀ (A : Around) (outer : List Env) (s : Shared) (H : Hp) (vs : List V) (Q : VK) (E : XK), Room k (A.deeper (envF ⟨name, qual, params, body, scope, [("__class__", cc)], cda⟩ f s.heap.objs.size)) → sp vs H Q E →
      ∃ t, PSsa (ncx CX P w K mg base N ⟨name, qual, params, body, scope, [("__class__", cc)], cda⟩ f A outer s H E) body body t ∧ t { nx := fun _ H' => Q .non H', rt := Q } (startF N vs [none]) H) :
    FnOk P w K mg base CX (k + 1) f (PySem.W.ksFn name qual params body scope dV kV doc pm an (.ref cda) ct cc) ps sp := by
  refine ⟨len, fun A outer s H args us vs Q E hr e0 hb r hsp => ?_⟩
  have hl := len _ _ _ _ hsp
  have inK : K.In s.heap := e0.mod.kin.keeps fun b o e => (e0.bs b o e).1
  have lim : s.heap.NoLimit := e0.mod.nolimit.keeps fun b o e => (e0.bs b o e).1
  obtain ⟨oc3, od3, sl3, v3, lk3⟩ := hcell
  have C : CellsAt [(("__class__" : Str), cc)] ["__class__"] [none] s.heap H := by
    have one : ∀ {y : Str} {c : Addr}, List.lookup y [(("__class__" : Str), cc)] = some c → y = "__class__" ∧ c = cc := fun {y c} z => by
      have z2 := PySem.mem_of_lookup z
      rw [List.mem_singleton] at z2
      exact ⟨congrArg Prod.fst z2, congrArg Prod.snd z2⟩
    refine ⟨rfl, fun y c z => ?_, fun y y' c z z' => (one z).1.trans (one z').1.symm, fun i y z => ?_⟩
    · obtain ⟨_, rfl⟩ := one z
      exact ⟨(e0.bs _ _ (e0.mod.kin _ _ lk3)).2, v3, _, inK _ _ lk3, rfl⟩
    · have hy : y = "__class__" := by
        have z2 := List.mem_of_getElem? z
        rw [List.mem_singleton] at z2
        exact z2
      subst hy
      refine ⟨cc, by simp [List.lookup], fun v z => ?_⟩
      cases i with
      | zero => cases z
      | succ j => cases z
  refine codeAny_call_function hr.depth (inK _ _ lk) rfl S.co S.gen rfl (PySem.W.codeRec_of inK hcd) (hb _ _ _ _ ?_)
  refine wpAny_newFunctionEnv S.nocell (fun ⟨n, _⟩ hy => S.par n (List.of_mem_zip hy).1) (fun h₁ hns hsb => ⟨lim.fresh _ hsb, ?_⟩) S.kind
  show codeAny _ _ (.func body (envF ⟨name, qual, params, body, scope, [("__class__", cc)], cda⟩ f s.heap.objs.size)) _ _
  refine ks_codeAny_funcAt ?_
  have kp : ∀ b o, s.heap.get? b = some o → h₁.get? b = some o := fun b o e => hsb.extBut b o (Nat.ne_of_lt (Heap.lt_size e)) (Heap.get?_push_of_some _ e)
  obtain ⟨t, ht, hq⟩ := hbody A outer s H vs Q E (hr.deeper _) hsp
  have I : Inv (ncx CX P w K mg base N ⟨name, qual, params, body, scope, [("__class__", cc)], cda⟩ f A outer s H E) [] (startF N vs [none]) H { s with heap := h₁, toks := s.toks + (ps.zip us).length } := inv_startN S hr.hd e0 hl r C hns kp
  refine ks_wpAt_mono (ht.run [] _ (startF N vs [none]) H _ I hq) (fun fl s' hs => ?_) fun e s' hs => hs
  have fin : ∀ {σ' : L2.St} {H' : Hp} {v : V} {u : Value}, Inv (ncx CX P w K mg base N ⟨name, qual, params, body, scope, [("__class__", cc)], cda⟩ f A outer s H E) [] σ' H' s' → L2.RelV v u → Q v H' → CE outer P w H s Q u s' :=
    fun {σ' H' v u} J rv q => ⟨v, H', J.os, J.bare, J.base, J.hok, rv, q⟩
  cases fl with
  | ret u =>
    obtain ⟨v, σ', H', J, rv, q⟩ := hs
    exact fin J rv q
  | next =>
    obtain ⟨σ', H', J, q⟩ := hs
    exact fin (v := V.non) (u := Value.none) J rfl q
  | brk =>
    obtain ⟨_, _, _, q⟩ := hs
    exact False.elim q
  | cont =>
    obtain ⟨_, _, _, q⟩ := hs
    exact False.elim q
end G
set_option Elab.async false
set_option linter.all false
set_option maxRecDepth 100000
set_option maxHeartbeats 2000000
/-! Q1: == and != by an own __eq__ with both answers, the right side of any kind. -/
namespace G
open PySem PySem.Spec PyProof.Rows L2
open Builtin in
theorem entry_ne {prog : Program} {w : World} {A : Around} {E : Value → Shared → Prop} {s : Shared} {K : PySem.W.Frag} {x C f : Addr} {ox : Obj} {od : Option Obj} {b : Value} {Q : Fin → Shared → Prop}
    (X : K.In s.heap) (I : PySem.W.InstAt s.heap x ox C od) (hu : A.units < cLine) (hs : PySem.W.findIn K (.ref C) "__eq__" = some (some (.ref f))) (hf : PySem.W.isFn K (.ref f) = true)
    (hcall : wpAny (model prog w) A (call (.ref f) [.ref x, b]) (fun v s' => ∃ k, v = .bool k ∧ Q (.done (.ret (.bool (!k)))) s') E s) :
    wpAny (model prog w) A (Builtin.«object.__ne__» ⟨[.ref x, b], []⟩) Q E s := by
  unfold Builtin.«object.__ne__»
  repeat (first
    | with_reducible refine wpAny_cRoomFor hu ?_
    | (refine wpAny_bind (m := callSpecialIfBound? (.ref x) (Str.ofString "__eq__") [b])
        (PySem.W.ifBound_K X I hs hf (wpAny_mono hcall (fun r s' hr => by
          obtain ⟨k, rfl, hq⟩ := hr
          repeat (first | exact hq | exact wpAny_pure hq | exact wpAny_truthy_bool hq | (refine wpAny_bind (m := truthy (.bool _)) (wpAny_truthy_bool ?_)) | wp_step)) fun _ _ e => e)))
    | wp_step)
/-- what == and != ask of the class at C -/
structure EqO (K : PySem.W.Frag) (C f : Addr) : Prop where
  eq : PySem.W.findIn K (.ref C) "__eq__" = some (some (.ref f))
  fn : PySem.W.isFn K (.ref f) = true
  ne : PySem.W.findIn K (.ref C) "__ne__" = some (some (.builtin "object.__ne__"))
  ob : PySem.W.mroIn K C (.type "object") = some true
theorem ne_K {prog : Program} {w : World} {A : Around} {E : Value → Shared → Prop} {s : Shared} {K : PySem.W.Frag} {x C L f : Addr} {h₀ : Heap} {m : Str → Option Value} {ox : Obj} {od : Option Obj} {b tb : Value} {Q : Value → Shared → Prop} (hu : A.units + 1 < cLine) (hFr : Fr h₀ L s.heap m) (X₀ : K.In h₀)
    (I : PySem.W.InstAt s.heap x ox C od) (hb : PySem.W.Looks (model prog w) s.heap (typeOf b) tb) (hn : PySem.W.notFirst K C tb = true) (e : EqO K C f)
    (h : wpAny (model prog w) A.in1 (call (.ref f) [.ref x, b]) (fun v s' => ∃ k, v = .bool k ∧ Q (.bool (!k)) s') E s) : wpAny (model prog w) A (richCompare .NotEq (.ref x) b) Q E s := by
  have X := X₀.keeps hFr.keep
  have sp : PySem.W.Looks (model prog w) s.heap (specialOf (.ref x) "__ne__") (some (.builtin "object.__ne__")) := I.type.andThen (PySem.W.looks_findIn X e.ne)
  have iv : PySem.W.Looks (model prog w) s.heap (isInstance (.ref x) (.type "object")) true := I.type.andThen (PySem.W.looks_mroIn X e.ob)
  have one : wpAny (model prog w) A (tryCompare (.ref x) "__ne__" b) (fun r s' => ∃ v, r = some v ∧ Q v s') E s := by
    unfold tryCompare
    refine wpAny_bind (NtL.csib sp (F.cmp_object.ne.bind _) (wpAny_call (codeAny_call_builtin F.cmp_object.ne.plain F.cmpEntry_ne
      (PySem.W.check_slot F.cmpKind_ne F.cmpSplit_ne iv (F.cmpArgs_ne _ _) (entry_ne (A := A.in1) X I hu e.eq e.fn (wpAny_mono h (fun v s' hv => ?_) fun _ _ z => z))))))
    obtain ⟨k, rfl, hq⟩ := hv
    first | exact ⟨k, rfl, wpAny_pure ⟨_, rfl, hq⟩⟩ | exact ⟨k, rfl, _, rfl, hq⟩
  unfold richCompare
  simp only [oneThing_ref]
  refine wpAny_holding (wpAny_bind (wpAny_cRoomFor (Nat.lt_of_succ_lt hu) ?_))
  rw [cmpInfo_NotEq]
  dsimp only
  refine wpAny_bind (I.type.here (wpAny_bind (hb.here ?_)))
  split
  · rename_i q
    have e : PySem.W.subIn K tb (.ref C) = some false := by
      rcases Bool.or_eq_true_iff.mp hn with e | e
      · rw [beq_iff_eq.mp e] at q; simp at q
      · exact beq_iff_eq.mp e
    refine wpAny_bind ((PySem.W.looks_subIn X e).here ?_)
    simp only [Bool.false_eq_true, if_false]
    refine wpAny_bind (wpAny_mono one (fun r s' z => ?_) fun _ _ e => e)
    obtain ⟨v, rfl, hq⟩ := z
    exact wpAny_pure hq
  · refine wpAny_bind (wpAny_pure ?_)
    simp only [Bool.false_eq_true, if_false]
    refine wpAny_bind (wpAny_mono one (fun r s' z => ?_) fun _ _ e => e)
    obtain ⟨v, rfl, hq⟩ := z
    exact wpAny_pure hq
/-- the kinds of things on the right -/
inductive Oth (H : Hp) : V → Value → Prop where
  | non : Oth H .non (.type "NoneType")
  | int (i : Int) : Oth H (.int i) (.type "int")
  | str (z : Str) : Oth H (.str z) (.type "str")
  | lst {a : Addr} {xs : List V} (e : H a = some (.lst xs)) : Oth H (.ref a) (.type "list")
  | tup {a : Addr} {xs : List V} (e : H a = some (.tup xs)) : Oth H (.ref a) (.type "tuple")
  | ins {a C dx : Addr} {fs : List (Str × V)} (e : H a = some (.ins C dx fs)) : Oth H (.ref a) (.ref C)
theorem insX_at {X : Cx} {pins : List (Addr × Obj)} {σ : L2.St} {H : Hp} {s : Shared} {a C dx : Addr} {fs : List (Str × V)} (I : Inv X pins σ H s) (h : H a = some (.ins C dx fs)) : ∃ ox od, PySem.W.InstAt s.heap a ox C od := by
  obtain ⟨mA, O, _⟩ := ins_get I.hok h
  obtain ⟨od, J, _⟩ := O.look
  exact ⟨_, _, J⟩
theorem oth_looks {X : Cx} {pins : List (Addr × Obj)} {σ : L2.St} {H : Hp} {s : Shared} {x : V} {u t : Value} (I : Inv X pins σ H s) (rx : RelV x u) (o : Oth H x t) (M : Model) : PySem.W.Looks M s.heap (typeOf u) t := by
  cases o with
  | non => cases (show u = Value.none from rx); exact .of_pure rfl
  | int i => obtain ⟨t, q⟩ := (show ∃ t, u = Value.int i t from rx); cases q; exact .of_pure rfl
  | str y => obtain ⟨t, q⟩ := (show ∃ t, u = Value.str y t from rx); cases q; exact .of_pure rfl
  | @lst a xs ea =>
    cases (show u = Value.ref a from rx)
    obtain ⟨_, _, n, _, h1⟩ := (show ObjOk X.prog X.w H s.heap a (.lst xs) from I.hok a _ ea)
    exact (PySem.W.Looks.ld h1).andThen .now
  | @tup a xs ea =>
    cases (show u = Value.ref a from rx)
    obtain ⟨_, _, _, o, h1, h2, _⟩ := (show ObjOk X.prog X.w H s.heap a (.tup xs) from I.hok a _ ea)
    rw [← h2]
    exact (PySem.W.Looks.ld h1).andThen .now
  | @ins a C dx fs ea =>
    cases (show u = Value.ref a from rx)
    obtain ⟨ox, od, J⟩ := insX_at I ea
    exact J.type
section
variable {X : Cx} {C g : Addr} {fd : FuncData} {ps : List Str} {n : Nat} {sp : Sp} {E : XK}
def rEqB (K : PySem.W.Frag) (C : Addr) (sp : Sp) (E : XK) (pos : Bool) : R2 := fun x y H Q => ∃ a dx fs t, x = .ref a ∧ H a = some (.ins C dx fs) ∧ Oth H y t ∧ PySem.W.notFirst K C t = true ∧ sp [x, y] H (fun v H' => ∃ k : Bool, v = .bl k ∧ Q (.bl (cond pos k (!k))) H') E
theorem op_eqB (e : EqO X.K C g) (hb : Binds X.K fd ps []) (F : FnOk X.prog X.w X.K X.mg X.base CX0 n g fd ps sp) (hr : Room n X.A) (hx : Passes CX0 X E) : OpR X (compareOp .Eq) (rEqB X.K C sp E true) := by
  intro pins s σ H x y v u Q I rx ry h
  obtain ⟨a, dx, fs, t, rfl, ha, ho, hn, q⟩ := h
  cases (show v = Value.ref a from rx)
  obtain ⟨ox, od, J⟩ := insX_at I ha
  obtain ⟨m, hF⟩ := I.fr
  refine PySem.W.cmp_K (op := .Eq) hr.units0 hF I.ok.mod.kin J (oth_looks I ry ho _) hn e.eq e.fn ?_
  refine wpAny_mono (run_fn (us := [.ref a, u]) (vs := [.ref a, y]) F hr hb .nil hx I (.cons rfl (.cons ry .nil)) q) (fun w s' z => ?_) fun _ _ x => x
  obtain ⟨z', H', I', rz, k, rfl, qz⟩ := z
  exact SlX.cmpback rz ⟨.bl k, H', I', rz, qz⟩
theorem op_neB (e : EqO X.K C g) (hb : Binds X.K fd ps []) (F : FnOk X.prog X.w X.K X.mg X.base CX0 n g fd ps sp) (hr : Room (n + 1) X.A) : OpR X (compareOp .NotEq) (rEqB X.K C sp E false) := by
  intro pins s σ H x y v u Q I rx ry h
  obtain ⟨a, dx, fs, t, rfl, ha, ho, hn, q⟩ := h
  cases (show v = Value.ref a from rx)
  obtain ⟨ox, od, J⟩ := insX_at I ha
  obtain ⟨m, hF⟩ := I.fr
  refine ne_K (by have := hr.units; omega) hF I.ok.mod.kin J (oth_looks I ry ho _) hn e ?_
  have hl : ([Value.ref a, u] ++ []).length = ps.length := by
    have := F.len _ _ _ _ q
    exact this
  refine wpAny_call (codeAny_mono (F.run X.A.in1 X.stack s H ⟨[.ref a, u], []⟩ ([.ref a, u] ++ []) [.ref a, y] _ E hr.in1 I.env0.in1 (hb s [.ref a, u] I.kIn hl) (.cons rfl (.cons ry .nil)) q) fun r s' hq => ?_)
  cases r with
  | error e => exact False.elim hq
  | ok fl =>
    cases fl with
    | ret u =>
      obtain ⟨v, H', I2, rv, k, rfl, q⟩ := I.after hq
      obtain rfl : u = Value.bool k := rv
      exact ⟨k, rfl, .bl (!k), H', I2, rfl, q⟩
    | next => exact False.elim hq
    | brk => exact False.elim hq
    | cont => exact False.elim hq
end
end G
set_option Elab.async false
set_option linter.all false
set_option maxRecDepth 100000
set_option maxHeartbeats 2000000
/-! Q2: str(x) by an own __str__; keys that differ stay so. -/
namespace G
open PySem PySem.Spec PyProof.Rows L2
section
variable {X : Cx} {C g : Addr} {fd : FuncData} {ps : List Str} {n : Nat} {sp : Sp} {E : XK}
def rStrB (C : Addr) (sp : Sp) (E : XK) : List V → Hp → VK → Prop := fun xs H Q => ∃ a dx fs, xs = [V.ref a] ∧ H a = some (.ins C dx fs) ∧ sp [.ref a] H (fun z H' => ∃ y, z = .str y ∧ Q z H') E
theorem call_strB (hs : PySem.W.findIn X.K (.ref C) "__str__" = some (some (.ref g))) (hf : PySem.W.isFn X.K (.ref g) = true) (hb : Binds X.K fd ps []) (F : FnOk X.prog X.w X.K X.mg X.base CX0 n g fd ps sp) (hr : Room (n + 2) X.A) : CallR X (.type "str") (rStrB C sp E) := by
  intro pins s σ H xs us Q I r h
  obtain ⟨a, dx, fs, rfl, ha, q⟩ := h
  obtain ⟨u, rfl, ru⟩ := r.one
  cases (show u = Value.ref a from ru)
  obtain ⟨ox, od, J⟩ := insX_at I ha
  have hr2 : Room n X.A.in1.in1 := (show Room (n + 1) X.A.in1 from Room.in1 hr).in1
  refine PySem.W.kso_call (by have := hr2.units; omega) I.kIn J hs hf ?_
  have hl : ([Value.ref a] ++ []).length = ps.length := by
    have := F.len _ _ _ _ q
    exact this
  refine wpAny_call (codeAny_mono (F.run X.A.in1.in1 X.stack s H ⟨[Value.ref a], []⟩ ([Value.ref a] ++ []) [V.ref a] _ E hr2 I.env0.in1.in1 (hb s [Value.ref a] I.kIn hl) (show Vals [V.ref a] [Value.ref a] from .cons rfl .nil) q) fun r s' hq => ?_)
  cases r with
  | error e => exact False.elim hq
  | ok fl =>
    cases fl with
    | ret u =>
      obtain ⟨v, H', I2, rv, y, rfl, q⟩ := I.after hq
      obtain ⟨t, rfl⟩ := (show ∃ t, u = Value.str y t from rv)
      exact ⟨.str y, H', I2, ⟨t, rfl⟩, q⟩
    | next => exact False.elim hq
    | brk => exact False.elim hq
    | cont => exact False.elim hq
end
theorem nodup_put {kvs : List (Key × V)} (h : (kvs.map (·.1)).Nodup) (k : Key) (v : V) : ((putK kvs k v).map (·.1)).Nodup := by
  unfold putK
  split
  · rw [List.map_map]
    have e : (kvs.map ((fun p : Key × V => p.1) ∘ fun kv => if kv.1 = k then (kv.1, v) else kv)) = kvs.map (·.1) := List.map_congr_left fun p _ => by
      show (if p.1 = k then (p.1, v) else p).1 = p.1
      split <;> rfl
    rw [e]
    exact h
  · rename_i hn
    rw [List.map_append, List.nodup_append]
    refine ⟨h, by simp, fun x hx y hy => ?_⟩
    rw [List.map_cons, List.map_nil, List.mem_singleton] at hy
    rintro rfl
    obtain ⟨p, hp, e⟩ := List.mem_map.mp hx
    apply hn
    exact List.any_eq_true.mpr ⟨p, hp, decide_eq_true (e.trans hy)⟩
theorem valV_nodup : ∀ {kvs : List (Key × V)}, (kvs.map (·.1)).Nodup → ∀ p ∈ kvs, valV kvs p.1 = some p.2
  | p :: kvs, h, q, hq => by
    rw [List.map_cons, List.nodup_cons] at h
    show Option.map (fun r : Key × V => r.2) (List.find? (fun kv => decide (kv.1 = q.1)) (p :: kvs)) = some q.2
    rcases List.mem_cons.mp hq with rfl | hq'
    · rw [List.find?_cons_of_pos (by simp)]
      rfl
    · have ne : ¬ p.1 = q.1 := fun e => h.1 (by rw [e]; exact List.mem_map.mpr ⟨q, hq', rfl⟩)
      rw [List.find?_cons_of_neg (by simpa using ne)]
      exact valV_nodup h.2 q hq'
end G
set_option Elab.async false
set_option linter.all false
set_option maxRecDepth 100000
set_option maxHeartbeats 2000000
/-! R1: methods, calls and operators of an instance whose class is not known ahead; super().__init__(*xs). -/
namespace G
open PySem PySem.Spec PyProof.Rows L2 NdefX StX

/-- the class at C keeps the promise sp for its method m -/
structure PolyM (P : Program) (w : World) (K : PySem.W.Frag) (mg : Str → Option Value) (base : Heap) (k : Nat) (C : Addr) (m : Str) (sp : Sp) : Prop where
  cl : Cls K C
  ex : ∃ (f : Addr) (fd : FuncData) (ps : List Str), Meth K C m f ∧ Binds K fd ps [] ∧ FnOk P w K mg base CX0 k f fd ps sp
/-- .. for the calls of its instances -/
structure PolyC (P : Program) (w : World) (K : PySem.W.Frag) (mg : Str → Option Value) (base : Heap) (k : Nat) (C : Addr) (sp : Sp) : Prop where
  ex : ∃ (f : Addr) (fd : FuncData) (ps : List Str), CallO K C f ∧ Binds K fd ps [] ∧ FnOk P w K mg base CX0 k f fd ps sp

/-- o.m(e, ..), o an instance of some class that keeps sp -/
def tMethV (X : Cx) (k : Nat) (m : Str) (E : XK) (ta : TE) (t : TA) : TE := fun σ H Q => ta σ H fun x H1 => ∃ (a C dx : Addr) (fs : List (Str × V)) (sp : Sp), x = .ref a ∧ H1 a = some (.ins C dx fs) ∧ PolyM X.prog X.w X.K X.mg X.base k C m sp ∧ fs.lookup m = none ∧ t σ H1 fun vs H2 => sp (.ref a :: vs) H2 Q E
/-- o(e, ..) -/
def tCallV (X : Cx) (k : Nat) (E : XK) (ta : TE) (t : TA) : TE := fun σ H Q => ta σ H fun x H1 => ∃ (a C : Addr) (sp : Sp), x = .ref a ∧ PolyC X.prog X.w X.K X.mg X.base k C sp ∧ t σ H1 fun vs H2 => InsC X H2 a C ∧ sp (.ref a :: vs) H2 Q E
section
variable {X : Cx} {k : Nat} {E : XK} {m : Str} {pos apos : Pos} {e o fe : Expr} {es : List Expr} {ta : TE} {t : TA}
theorem pe_methV {pl : Sem Bool} (he : PE X o ta) (hr : Room k X.A) (hx : Passes CX0 X E) (ha : PA X (e :: es) t)
    (hst : starEach (e :: es) X.env = (false, eval e X.env) :: starEach es X.env := by rfl) (hpl : (backTo pos (starEach es X.env)).any (·.1) = false := by rfl)
    (ht : eval (.Call (.Attribute o m apos) (e :: es) [] pos) X.env = (eval o X.env >>= fun ov => standAt apos.atName >>= fun _ => holding [ov] (getMethod ov m pl) >>= fun q => callWith pos q.1 q.2 (backTo pos (starEach (e :: es) X.env)) (backToKw pos (keywordEach [] X.env))) := by rfl) :
    PE X (.Call (.Attribute o m apos) (e :: es) [] pos) (tMethV X k m E ta t) := by
  refine ⟨fun pins s σ H Q I h => ?_⟩
  refine PySem.W.methodCall_KW (pl := pl) (thn (he.run pins s σ H _ I h) fun u s1 ⟨x, H1, I1, rx, a, C, dx, fs, sp, ex, ea, pm, l, q⟩ => ?_) ht
  subst ex
  obtain rfl : u = Value.ref a := rx
  obtain ⟨f, fd, ps, hm, hb, F⟩ := pm.ex
  refine getmeth_ok I1 ea pm.cl hm l ?_
  refine PySem.W.callWith_K (h₀ := X.base) (first := [.ref a]) I.ok.mod.kin hm.kp (thn (ha.run pos pins s1 σ H1 _ I1 q) fun us s2 ⟨vs, H2, I2, r, q2⟩ => ⟨I2.kIn, ?_⟩) hst hpl
  exact run_fn (us := .ref a :: us) (vs := .ref a :: vs) F hr hb .nil hx I2 (.cons rfl r) (by rw [List.append_nil]; exact q2)
theorem pe_methV0 {pl : Sem Bool} (he : PE X o ta) (hr : Room k X.A) (hx : Passes CX0 X E)
    (ht : eval (.Call (.Attribute o m apos) [] [] pos) X.env = (eval o X.env >>= fun ov => standAt apos.atName >>= fun _ => holding [ov] (getMethod ov m pl) >>= fun q => callWith pos q.1 q.2 (backTo pos (starEach [] X.env)) (backToKw pos (keywordEach [] X.env))) := by rfl) :
    PE X (.Call (.Attribute o m apos) [] [] pos) (tMethV X k m E ta tNil) := by
  refine ⟨fun pins s σ H Q I h => ?_⟩
  refine PySem.W.methodCall_KW (pl := pl) (thn (he.run pins s σ H _ I h) fun u s1 ⟨x, H1, I1, rx, a, C, dx, fs, sp, ex, ea, pm, l, q⟩ => ?_) ht
  subst ex
  obtain rfl : u = Value.ref a := rx
  obtain ⟨f, fd, ps, hm, hb, F⟩ := pm.ex
  refine getmeth_ok I1 ea pm.cl hm l ?_
  exact PySem.W.callWith_K0 (first := [.ref a]) I1.kIn hm.kp (run_fn (us := [.ref a]) (vs := [.ref a]) F hr hb .nil hx I1 (.cons rfl .nil) q)
theorem pe_callV (hf : PE X fe ta) (hr : Room k X.A) (hx : Passes CX0 X E) (ha : PA X (e :: es) t)
    (ht : eval (.Call fe (e :: es) [] pos) X.env = (eval fe X.env >>= fun g => callWith pos g [] (backTo pos (starEach (e :: es) X.env)) (backToKw pos (keywordEach [] X.env))) := by rfl)
    (he : starEach (e :: es) X.env = (false, eval e X.env) :: starEach es X.env := by rfl) (hpl : (backTo pos (starEach es X.env)).any (·.1) = false := by rfl) : PE X (.Call fe (e :: es) [] pos) (tCallV X k E ta t) := by
  refine ⟨fun pins s σ H Q I h => ?_⟩
  refine Call_ (thn (hf.run pins s σ H _ I h) fun u s1 ⟨y, H1, I1, ry, a, C, sp, ey, pc, q⟩ => ?_) ht
  subst ey
  obtain rfl : u = Value.ref a := ry
  obtain ⟨f, fd, ps, c, hb, F⟩ := pc.ex
  refine callO_with (thn (ha.run pos pins s1 σ H1 _ I1 q) fun us s2 ⟨vs, H2, I2, r, hi, q2⟩ => ?_) he hpl
  obtain ⟨ox, od, J, hd⟩ := insC_at I2 hi
  exact ⟨⟨C, ox, od, J, hd⟩, run_callO c (F.raw hb .nil) hr hx I2 hi r (by simpa using q2)⟩
end

/-! ### a sign between two instances of own classes -/
/-- the class at C has the sign's method (and no reflected one) -/
structure OpO (K : PySem.W.Frag) (C : Addr) (op : Operator) (f : Addr) : Prop where
  first : PySem.W.selfFirst K C = true
  at_ : PySem.W.findIn K (.ref C) (PySem.dunder op.info.2) = some (some (.ref f))
  fn : PySem.W.isFn K (.ref f) = true
  ref_ : PySem.W.findIn K (.ref C) (dunderR op.info.2) = some none
theorem bin_own {prog : Program} {w : World} {A : Around} {E : Value → Shared → Prop} {s : Shared} {K : PySem.W.Frag} {x y C C2 f g : Addr} {ox oy : Obj} {od od2 : Option Obj} {op : Operator} {Q : Value → Shared → Prop} (X : K.In s.heap)
    (I : PySem.W.InstAt s.heap x ox C od) (J : PySem.W.InstAt s.heap y oy C2 od2) (o1 : OpO K C op f) (o2 : OpO K C2 op g) (hs : C = C2 ∨ PySem.W.subIn K (.ref C2) (.ref C) = some false)
    (h : wpAny (model prog w) A (call (.ref f) [.ref x, .ref y]) (PySem.W.CmpBack Q) E s) : wpAny (model prog w) A (binaryOp op (.ref x) (.ref y)) Q E s := by
  obtain ⟨cd1, rest1, hc1, hm1⟩ := PySem.W.ksp_first o1.first
  obtain ⟨cd2, rest2, hc2, hm2⟩ := PySem.W.ksp_first o2.first
  have a1 := o1.at_
  have a2 := o2.at_
  have r1 := o1.ref_
  have r2 := o2.ref_
  rcases hi : op.info with ⟨sym, nm⟩
  rw [hi] at a1 a2 r1 r2
  dsimp only at a1 a2 r1 r2
  have one := PySem.W.ksp_try X I a1 o1.fn h
  obtain ⟨hh, gs, d, tt, os⟩ := s
  have L1 : PySem.W.Looks (model prog w) hh (typeOf (.ref x)) (.ref C) := I.type
  have L2 : PySem.W.Looks (model prog w) hh (typeOf (.ref y)) (.ref C2) := J.type
  have L3 : PySem.W.Looks (model prog w) hh (fillsNumberSlot (.ref C) nm) true := PySem.W.fills_K X hc1 hm1 a1
  have L4 : PySem.W.Looks (model prog w) hh (fillsNumberSlot (.ref C2) nm) true := PySem.W.fills_K X hc2 hm2 a2
  have L6 : PySem.W.Looks (model prog w) hh (numberSlotInPython (.ref C) nm) true := PySem.W.ksp_inPy X a1 r1 (.inl rfl)
  have L7 : PySem.W.Looks (model prog w) hh (numberSlotInPython (.ref C2) nm) true := PySem.W.ksp_inPy X a2 r2 (.inl rfl)
  simp only [binaryOp, hi]
  refine wpAny_holding (wpAny_bind ?_)
  unfold binaryOp1
  refine wpAny_bind (L1.at (wpAny_bind (L2.at (wpAny_bind (L3.at ?_)))))
  by_cases e : C = C2
  · have hne : (Value.ref C == Value.ref C2) = true := by
      rw [e]
      exact beq_self_eq_true _
    simp only [hne, if_true]
    ksp_lk
    refine wpAny_mono one (fun r s' hr' => ?_) fun _ _ z => z
    obtain ⟨v, rfl, hq⟩ := hr'
    ksp_lk
    exact hq
  · have hne : (Value.ref C == Value.ref C2) = false := Bool.eq_false_iff.mpr fun q => e (by
      have := beq_iff_eq.mp q
      injection this)
    have hs2 : PySem.W.subIn K (.ref C2) (.ref C) = some false := hs.resolve_left e
    have L5 : PySem.W.Looks (model prog w) hh (isSubtype (.ref C2) (.ref C)) false := PySem.W.looks_subIn X hs2
    simp only [hne, Bool.false_eq_true, if_false]
    ksp_lk
    refine wpAny_mono one (fun r s' hr' => ?_) fun _ _ z => z
    obtain ⟨v, rfl, hq⟩ := hr'
    ksp_lk
    exact hq
theorem insO_at {X : Cx} {pins : List (Addr × Obj)} {σ : L2.St} {H : Hp} {s : Shared} {a C dx : Addr} {fs : List (Str × V)} (I : Inv X pins σ H s) (h : H a = some (.ins C dx fs)) : ∃ ox od, PySem.W.InstAt s.heap a ox C od ∧ ox.data = .plain :=
  insC_at I (.inr ⟨dx, fs, h⟩)
/-- two classes under one sign: what the class at C does with one of the class at C2 -/
structure PolyO (P : Program) (w : World) (K : PySem.W.Frag) (mg : Str → Option Value) (base : Heap) (k : Nat) (C C2 : Addr) (op : Operator) (sp : Sp) : Prop where
  ex : ∃ (f g : Addr) (fd : FuncData) (ps : List Str), OpO K C op f ∧ OpO K C2 op g ∧ (C = C2 ∨ PySem.W.subIn K (.ref C2) (.ref C) = some false) ∧ Binds K fd ps [] ∧ FnOk P w K mg base CX0 k f fd ps sp
def rOwn (X : Cx) (k : Nat) (op : Operator) (sp : Sp) (E : XK) : R2 := fun x y H Q => ∃ a b C C2 dx dy fs gs, x = .ref a ∧ y = .ref b ∧ H a = some (.ins C dx fs) ∧ H b = some (.ins C2 dy gs) ∧ PolyO X.prog X.w X.K X.mg X.base k C C2 op sp ∧
  sp [.ref a, .ref b] H (fun v H' => (∃ r, v = .ref r) ∧ Q v H') E
theorem op_own {X : Cx} {k : Nat} {sp : Sp} {E : XK} (op : Operator) (hr : Room k X.A) (hx : Passes CX0 X E) : OpR X (binaryOp op) (rOwn X k op sp E) := by
  intro pins s σ H x y v u Q I rx ry h
  obtain ⟨a, b, C, C2, dx, dy, fs, gs, rfl, rfl, ha, hb, po, q⟩ := h
  obtain rfl : v = Value.ref a := rx
  obtain rfl : u = Value.ref b := ry
  obtain ⟨f, g, fd, ps, o1, o2, hs, hbd, F⟩ := po.ex
  obtain ⟨ox, od, J1, _⟩ := insO_at I ha
  obtain ⟨oy, od2, J2, _⟩ := insO_at I hb
  refine bin_own I.kIn J1 J2 o1 o2 hs (thn (run_fn (us := [.ref a, .ref b]) (vs := [.ref a, .ref b]) F hr hbd .nil hx I (.cons rfl (.cons rfl .nil)) q) fun r s' z => ?_)
  obtain ⟨v, H', I', rv, ⟨p, rfl⟩, q'⟩ := z
  obtain rfl : r = Value.ref p := rv
  exact ⟨V.ref p, H', I', rfl, q'⟩
/-! ### ~x -/
structure PolyU (P : Program) (w : World) (K : PySem.W.Frag) (mg : Str → Option Value) (base : Heap) (k : Nat) (C : Addr) (sp : Sp) : Prop where
  ex : ∃ (f : Addr) (fd : FuncData) (ps : List Str), PySem.W.findIn K (.ref C) "__invert__" = some (some (.ref f)) ∧ PySem.W.isFn K (.ref f) = true ∧ Binds K fd ps [] ∧ FnOk P w K mg base CX0 k f fd ps sp
def rInv (X : Cx) (k : Nat) (sp : Sp) (E : XK) : V → Hp → VK → Prop := fun x H Q => ∃ a C dx fs, x = .ref a ∧ H a = some (.ins C dx fs) ∧ PolyU X.prog X.w X.K X.mg X.base k C sp ∧ sp [.ref a] H Q E
theorem inv_own {M : Model} {A : Around} {E : Value → Shared → Prop} {s : Shared} {K : PySem.W.Frag} {x C f : Addr} {ox : Obj} {od : Option Obj} {Q : Value → Shared → Prop} (X : K.In s.heap) (I : PySem.W.InstAt s.heap x ox C od)
    (hs : PySem.W.findIn K (.ref C) "__invert__" = some (some (.ref f))) (hf : PySem.W.isFn K (.ref f) = true) (h : wpAny M A (call (.ref f) [.ref x]) Q E s) : wpAny M A (unaryOp .Invert (.ref x)) Q E s := by
  unfold unaryOp
  refine wpAny_holding (wpAny_bind (PySem.W.special_fn X I hs (beq_iff_eq.mp hf) (thn h fun _ _ z => ?_)))
  exact wpAny_pure z
theorem un_own {X : Cx} {k : Nat} {sp : Sp} {E : XK} (hr : Room k X.A) (hx : Passes CX0 X E) : UnR X (unaryOp .Invert) (rInv X k sp E) := by
  intro pins s σ H x v Q I rx h
  obtain ⟨a, C, dx, fs, rfl, ha, pu, q⟩ := h
  obtain rfl : v = Value.ref a := rx
  obtain ⟨f, fd, ps, h1, h2, hb, F⟩ := pu.ex
  obtain ⟨ox, od, J, _⟩ := insO_at I ha
  exact inv_own I.kIn J h1 h2 (run_fn (us := [.ref a]) (vs := [.ref a]) F hr hb .nil hx I (.cons rfl .nil) q)
end G
set_option Elab.async false
set_option linter.all false
set_option maxRecDepth 100000
set_option maxHeartbeats 2000000
/-! G3: a cell, its box, a draw from it. -/
namespace G
open PySem PySem.Spec PyProof.Rows L2
def topS (i : Nat) : Stmt := PySem.Challenge.pw_listviews_k42_whole_steps_of_operations.main.body.getD i (.Pass ⟨0, 0, 0, 0⟩)
abbrev sCell : Stmt := topS 58
abbrev sBox : Stmt := topS 59
abbrev sTake : Stmt := topS 60
theorem scCell : FnScope ["_law_script", "_law_k"] ["_law_script", "_law_k"] (defScope sCell) := ⟨rfl, rfl, rfl, by decide +kernel, rfl, by decide +kernel, by decide +kernel⟩
theorem scBox : FnScope ["_law_cell_here"] ["_law_cell_here"] (defScope sBox) := ⟨rfl, rfl, rfl, by decide +kernel, rfl, by decide +kernel, by decide +kernel⟩
theorem scTake : FnScope ["_law_box_here", "_law_many", "_law_digit", "_law_mixed_here"] ["_law_box_here", "_law_many"] (defScope sTake) := ⟨rfl, rfl, rfl, by decide +kernel, rfl, by decide +kernel, by decide +kernel⟩
/-- all but b stands as it stood -/
def But (b : Addr) (H H' : Hp) : Prop := ∀ c o, c ≠ b → H c = some o → H' c = some o
theorem But.refl (b : Addr) (H : Hp) : But b H H := fun _ _ _ h => h
theorem But.trans {b : Addr} {H H1 H2 : Hp} (x : But b H H1) (y : But b H1 H2) : But b H H2 := fun c o n h => y c o n (x c o n h)
theorem But.upd {b : Addr} {H : Hp} {o : HO} : But b H (upd H b o) := fun c u n h => by
  rw [upd_ne n]
  exact h
theorem But.new {b p : Addr} {H : Hp} {o : HO} (h : H p = none) : But b H (L2.upd H p o) := fun c u n e => by
  rw [upd_ne (ne_of_none e h)]
  exact e
theorem But.same {b : Addr} {H H' : Hp} (h : Same H H') : But b H H' := fun c o _ e => h c o e
theorem Same.new {p : Addr} {H : Hp} {o : HO} (h : H p = none) : Same H (upd H p o) := fun c u e => by
  rw [upd_ne (ne_of_none e h)]
  exact e
/-- a box from which at most n draws were made -/
def BoxAt (H : Hp) (b : Addr) (n : Nat) : Prop := ∃ x y z : Int, H b = some (.lst [.int x, .int y, .int z]) ∧ 0 ≤ x ∧ 0 ≤ y ∧ y < 2147483629 ∧ 0 ≤ z ∧ z ≤ n
theorem BoxAt.mono {H : Hp} {b : Addr} {n m : Nat} (h : BoxAt H b n) (le : n ≤ m) : BoxAt H b m := by
  obtain ⟨x, y, z, e, h1, h2, h3, h4, h5⟩ := h
  exact ⟨x, y, z, e, h1, h2, h3, h4, by omega⟩
theorem BoxAt.keep {H H' : Hp} {b : Addr} {n : Nat} (h : BoxAt H b n) (s : ∀ o, H b = some o → H' b = some o) : BoxAt H' b n := by
  obtain ⟨x, y, z, e, r⟩ := h
  exact ⟨x, y, z, s _ e, r⟩
/-- a draw is one of so many -/
theorem draw_at {r m : Int} {n : Nat} (h0 : 0 ≤ r) (h1 : r < m) (e : m = n) : ∃ j : Nat, r = j ∧ j < n := ⟨r.toNat, by omega, by omega⟩
def spCell' (K : PySem.W.Frag) : Sp := fun vs H Q _ => ∃ (a : Addr) (ns : List Int) (z : Int), vs = [.ref a, .int z] ∧ SqL K H a (ns.map V.int) ∧ 0 ≤ z ∧ z < 1000 ∧ ∀ i : Int, Q (.int i) H
def spBox : Sp := fun vs H Q _ => ∃ i : Int, vs = [.int i] ∧ ∀ (b : Addr) (H' : Hp), H b = none → Same H H' → BoxAt H' b 0 → Q (.ref b) H'
def spTake : Sp := fun vs H Q _ => ∃ (b : Addr) (m : Int) (n : Nat), vs = [.ref b, .int m] ∧ BoxAt H b n ∧ n ≤ 100000 ∧ 0 < m ∧ m < 2 ^ 200 ∧
  ∀ (r : Int) (H' : Hp), 0 ≤ r → r < m → BoxAt H' b (n + 1) → But b H H' → Q (.int r) H'
section
variable {P : Program} {w : World} {K : PySem.W.Frag} {mg : Str → Option Value} {base : Heap}
theorem ok_cell {f : Addr} {fd : FuncData} (F : Fun K "_law_cell" "_law_cell" sCell f fd) (ml : mg "len" = none) : FnOk P w K mg base CX0 1 f fd ["_law_script", "_law_k"] (spCell' K) := by
  refine F.ok scCell (fun vs H Q E h => ?_) (fun cdv A outer s H vs Q E hr h => ?_)
  · obtain ⟨a, ns, j, rfl, _⟩ := h
    rfl
  · obtain ⟨a, ns, z, rfl, hS, z0, z1, q⟩ := h
    obtain ⟨j, rfl, hj⟩ := draw_at (n := 1000) z0 z1 rfl
    refine ⟨_, pss_cons (ps_if (pt_cmpR op_lt (pv 1) (pe_callB call_len_seq (by rfl) ml PySem.boot_len (pa_cons (pv 0) pa_nil)) (nomark _))
        (pss_one (ps_ret (pe_ix ix_list (pv 0) (pv 1) (fun _ _ => rfl)))) pss_nil)
      (pss_one (ps_ret (pe_op op_add (pe_op op_mul pe_int (pv 1)) pe_int))), ?_⟩
    refine ⟨_, rfl, _, rfl, a, _, rfl, .inl hS, _, _, rfl, rfl, _, rfl, ite2 (fun e => ?_) (fun _ => ?_)⟩
    · have e1 : (j : Int) < ((ns.map V.int).length : Nat) := of_decide_eq_true e
      have e2 : j < ns.length := by
        rw [List.length_map] at e1
        omega
      exact ⟨_, rfl, _, rfl, a, _, _, .int ns[j], rfl, rfl, hS, atI_nat (by rw [List.getElem?_map, List.getElem?_eq_getElem e2] <;> rfl), q _⟩
    · exact ⟨_, rfl, _, _, rfl, rfl, .inl ⟨by decide, by decide⟩, _, _, rfl, rfl, q _⟩
theorem ok_box {f : Addr} {fd : FuncData} (F : Fun K "_law_box" "_law_box" sBox f fd) (mm : mg "max" = none) : FnOk P w K mg base CX0 1 f fd ["_law_cell_here"] spBox := by
  refine F.ok scBox (fun vs H Q E h => ?_) (fun cdv A outer s H vs Q E hr h => ?_)
  · obtain ⟨i, rfl, _⟩ := h
    rfl
  · obtain ⟨i, rfl, q⟩ := h
    refine ⟨_, pss_one (ps_ret (pe_lst (pa_cons (pe_callB (call_max2 rfl) (by rfl) mm (by decide +kernel) (pa_cons pe_int (pa_cons (pe_op op_sub (pv 0) (pe_op op_pow pe_int pe_int)) pa_nil)))
      (pa_cons (pe_op op_mod (pv 0) pe_int) (pa_cons pe_int pa_nil))))), ?_⟩
    refine ⟨_, rfl, _, _, rfl, rfl, ⟨by decide, by decide, by decide⟩, _, _, rfl, rfl, _, _, rfl, _, rfl, _, _, rfl, rfl, (by show (0 : Int) < 2147483629; decide), (by show 3 ≤ sizeLine; decide), fun b hb => ?_⟩
    refine q b _ hb (Same.new hb) ⟨_, _, _, upd_same, ?_, Int.emod_nonneg _ (by decide), Int.emod_lt_of_pos _ (by decide), Int.le_refl _, Int.le_refl _⟩
    split <;> omega
theorem emod_in (a m : Int) (h : 0 < m) : 0 ≤ a % m ∧ a % m < m := ⟨Int.emod_nonneg _ (by omega), Int.emod_lt_of_pos _ h⟩
theorem ok_take {f : Addr} {fd : FuncData} (F : Fun K "_law_take" "_law_take" sTake f fd) : FnOk P w K mg base CX0 1 f fd ["_law_box_here", "_law_many"] spTake := by
  refine F.ok scTake (fun vs H Q E h => ?_) (fun cdv A outer s H vs Q E hr h => ?_)
  · obtain ⟨b, m, n, rfl, _⟩ := h
    rfl
  · obtain ⟨b, m, n, rfl, ⟨x, y, z, hb, hx, hy, hy2, hz, hzn⟩, hn, hm, hm2, q⟩ := h
    refine ⟨_, pss_cons (ps_if (pt_cmpR op_gt (pe_ix ix_list (pv 0) pe_int (fun _ _ => rfl)) pe_int (nomark _))
        (pss_cons (ps_set (i := 2) scTake.nd rfl (.inl rfl) (pe_op op_mod (pe_ix ix_list (pv 0) pe_int (fun _ _ => rfl)) (pv 1)))
        (pss_cons (ps_asg (pe_op op_fdivW (pe_ix ix_list (pv 0) pe_int (fun _ _ => rfl)) (pv 1)) (pg_sub (pv 0) pe_int set_list))
        (pss_one (ps_ret (pv 2))))) pss_nil)
      (pss_cons (ps_asg (pe_op op_add (pe_ix ix_list (pv 0) pe_int (fun _ _ => rfl)) pe_int) (pg_sub (pv 0) pe_int set_list))
      (pss_cons (ps_set (i := 3) scTake.nd rfl (.inl rfl) (pe_op op_mod (pe_op op_pow (pe_op op_add (pe_op op_add (pe_ix ix_list (pv 0) pe_int (fun _ _ => rfl)) (pe_op op_mul pe_int (pe_ix ix_list (pv 0) pe_int (fun _ _ => rfl)))) pe_int) pe_int) pe_int))
      (pss_cons (ps_set (i := 3) scTake.nd rfl (.inl rfl) (pe_op op_mod (pe_op op_pow (pe_op op_add (pv 3) (pe_op op_mul pe_int (pe_ix ix_list (pv 0) pe_int (fun _ _ => rfl)))) pe_int) pe_int))
      (pss_one (ps_ret (pe_op op_mod (pe_op op_fdivW (pv 3) pe_int) (pv 1))))))), ?_⟩
    -- if box[0] > 0
    refine ⟨_, rfl, b, _, 0, .int x, rfl, rfl, .of hb, rfl, _, _, rfl, rfl, _, rfl, ite2 (fun e => ?_) (fun _ => ?_)⟩
    · refine ⟨_, rfl, b, _, 0, .int x, rfl, rfl, .of hb, rfl, _, rfl, _, _, rfl, rfl, hm, ?_⟩
      refine ⟨_, rfl, b, _, 0, .int x, rfl, rfl, .of hb, rfl, _, rfl, _, _, rfl, rfl, wide_div hm (b := 200) (by omega) (by decide) (by decide), ?_⟩
      refine ⟨_, rfl, b, _, 0, 0, rfl, rfl, hb, rfl, _, rfl, ?_⟩
      have r := emod_in x m hm
      exact q _ _ r.1 r.2 ⟨_, _, _, upd_same, Int.ediv_nonneg hx (by omega), hy, hy2, hz, by omega⟩ But.upd
    · refine ⟨_, rfl, b, _, 2, .int z, rfl, rfl, .of hb, rfl, _, _, rfl, rfl, ?_⟩
      refine ⟨_, rfl, b, _, 2, 2, rfl, rfl, hb, rfl, ?_⟩
      have hb' : (upd H b (.lst [.int x, .int y, .int (z + 1)])) b = some (.lst [.int x, .int y, .int (z + 1)]) := upd_same
      refine ⟨_, rfl, b, _, 1, .int y, rfl, rfl, .of hb', rfl, _, rfl, b, _, 2, .int (z + 1), rfl, rfl, .of hb', rfl, _, _, rfl, rfl, .inl ⟨by decide, by decide⟩, _, _, rfl, rfl, _, _, rfl, rfl,
        _, _, rfl, rfl, ⟨by decide, by decide, by omega⟩, _, _, rfl, rfl, (by show (0 : Int) < 2147483647; decide), ?_⟩
      generalize h1 : ((y + 7549 * (z + 1) + 211) ^ (5 : Int).toNat : Int) = t1
      have r1 := emod_in t1 2147483647 (by decide)
      refine ⟨_, rfl, _, rfl, b, _, 2, .int (z + 1), rfl, rfl, .of hb', rfl, _, _, rfl, rfl, .inl ⟨by decide, by decide⟩, _, _, rfl, rfl, _, _, rfl, rfl, ⟨by decide, by decide, by omega⟩, _, _, rfl, rfl, (by show (0 : Int) < 2147483587; decide), ?_⟩
      generalize h2 : ((t1 % 2147483647 + 104729 * (z + 1)) ^ (3 : Int).toNat : Int) = t2
      refine ⟨_, rfl, _, _, rfl, rfl, wide_div (by decide) (b := 200) (by decide) (by decide) (by decide), _, rfl, _, _, rfl, rfl, hm, ?_⟩
      have r := emod_in (t2 % 2147483587 / 16) m hm
      exact q _ _ r.1 r.2 ⟨_, _, _, upd_same, hx, hy, hy2, by omega, by omega⟩ But.upd
end
end G
set_option Elab.async false
set_option linter.all false
set_option maxRecDepth 100000
set_option maxHeartbeats 2000000
/-! G5: what data in the heap keeps, its type, == of it. -/
namespace G
open PySem PySem.Spec PyProof.Rows L2
section
variable {K : PySem.W.Frag} {H H' : Hp}
mutual
theorem rp_same (s : Same H H') : ∀ (d : PyData) (v : V), Rp K H v d → Rp K H' v d
  | .none, _, h => by
    cases h
    exact .non
  | .bool b, _, h => by
    cases h
    exact .bl b
  | .int i, _, h => by
    cases h
    exact .int i
  | .str x, _, h => by
    cases h
    exact .str x
  | .list ds, _, h => by
    cases h with
    | lst e r => exact .lst (s _ _ e) (rp_sameAll s ds _ r)
  | .tuple ds, _, h => by
    cases h with
    | tup e r => exact .tup (s _ _ e) (rp_sameAll s ds _ r)
  | .dict ds, _, h => by
    cases h with
    | dic e r q => exact .dic (s _ _ e) (rp_sameK s ds _ r) (rp_sameV s ds _ q)
theorem rp_sameAll (s : Same H H') : ∀ (ds : List PyData) (vs : List V), RpAll K H vs ds → RpAll K H' vs ds
  | [], _, h => by
    cases h
    exact .nil
  | d :: ds, _, h => by
    cases h with
    | cons a b => exact .cons (rp_same s d _ a) (rp_sameAll s ds _ b)
theorem rp_sameK (s : Same H H') : ∀ (ds : List (PyData × PyData)) (vs : List V), RpAll K H vs (ds.map (·.1)) → RpAll K H' vs (ds.map (·.1))
  | [], _, h => by
    cases h
    exact .nil
  | (d, _) :: ds, _, h => by
    cases h with
    | cons a b => exact .cons (rp_same s d _ a) (rp_sameK s ds _ b)
theorem rp_sameV (s : Same H H') : ∀ (ds : List (PyData × PyData)) (vs : List V), RpAll K H vs (ds.map (·.2)) → RpAll K H' vs (ds.map (·.2))
  | [], _, h => by
    cases h
    exact .nil
  | (_, d) :: ds, _, h => by
    cases h with
    | cons a b => exact .cons (rp_same s d _ a) (rp_sameV s ds _ b)
end
theorem rp_len : ∀ {ds : List PyData} {vs : List V}, RpAll K H vs ds → vs.length = ds.length
  | [], _, h => by
    cases h
    rfl
  | _ :: ds, _, h => by
    cases h with
    | cons a b =>
      rw [List.length_cons, List.length_cons, rp_len b]
theorem rp_at : ∀ {ds : List PyData} {vs : List V} {i : Nat} {v : V}, RpAll K H vs ds → vs[i]? = some v → ∃ d, ds[i]? = some d ∧ Rp K H v d
  | [], _, i, v, h, e => by
    cases h
    simp at e
  | d :: ds, _, i, v, h, e => by
    cases h with
    | cons a b =>
      cases i with
      | zero =>
        have e' := Option.some.inj e
        subst e'
        exact ⟨d, rfl, a⟩
      | succ j => exact rp_at (ds := ds) (i := j) b (by simpa using e)
theorem rp_app : ∀ {ds : List PyData} {vs : List V} {v : V} {d : PyData}, RpAll K H vs ds → Rp K H v d → RpAll K H (vs ++ [v]) (ds ++ [d])
  | [], _, _, _, h, r => by
    cases h
    exact .cons r .nil
  | _ :: ds, _, _, _, h, r => by
    cases h with
    | cons a b => exact .cons a (rp_app b r)
theorem rp_set : ∀ {ds : List PyData} {vs : List V} {v : V} {d : PyData} (i : Nat), RpAll K H vs ds → Rp K H v d → RpAll K H (vs.set i v) (ds.set i d)
  | [], _, _, _, _, h, r => by
    cases h
    exact .nil
  | _ :: ds, _, _, _, i, h, r => by
    cases h with
    | cons a b =>
      cases i with
      | zero => exact .cons r b
      | succ j => exact .cons a (rp_set j b r)
theorem rp_ints : ∀ (is : List Int), RpAll K H (is.map V.int) (is.map PyData.int)
  | [] => .nil
  | i :: is => .cons (.int i) (rp_ints is)
mutual
theorem rp_dp : ∀ (d : PyData) (v : V), d.hasDict = false → Rp K H v d → Dp K H v d
  | .none, _, _, h => by
    cases h
    exact .non
  | .bool b, _, _, h => by
    cases h
    exact .bl b
  | .int i, _, _, h => by
    cases h
    exact .int i
  | .str x, _, _, h => by
    cases h
    exact .str x
  | .list ds, _, n, h => by
    cases h with
    | lst e r => exact .lst (.of e) (rp_dpAll ds _ (by simpa [PyData.hasDict] using n) r)
  | .tuple ds, _, n, h => by
    cases h with
    | tup e r => exact .tup (.of e) (rp_dpAll ds _ (by simpa [PyData.hasDict] using n) r)
  | .dict ds, _, n, h => by simp [PyData.hasDict] at n
theorem rp_dpAll : ∀ (ds : List PyData) (vs : List V), PyData.hasDictAll ds = false → RpAll K H vs ds → DpAll K H vs ds
  | [], _, _, h => by
    cases h
    exact .nil
  | d :: ds, _, n, h => by
    simp only [PyData.hasDictAll, Bool.or_eq_false_iff] at n
    cases h with
    | cons a b => exact .cons (rp_dp d _ n.1 a) (rp_dpAll ds _ n.2 b)
end
/-- the name of a thing's type -/
def tyN : PyData → String
  | .none => "NoneType"
  | .bool _ => "bool"
  | .int _ => "int"
  | .str _ => "str"
  | .list _ => "list"
  | .tuple _ => "tuple"
  | .dict _ => "dict"
theorem rp_ty {v : V} {d : PyData} (h : Rp K H v d) : TyX K H v (.type (tyN d)) := by
  cases h with
  | non => exact .base .non
  | bl b => exact .base (.bl b)
  | int i => exact .base (.int i)
  | str x => exact .base (.str x)
  | lst e r => exact .base (.lst e)
  | tup e r => exact .base (.tup e)
  | dic e r q => exact .base (.dK e)
end
/-- H without what stands at b -/
def hide (b : Addr) (H : Hp) : Hp := fun a => if a = b then none else H a
theorem hide_same (b : Addr) (H : Hp) : Same (hide b H) H := fun a o e => by
  by_cases h : a = b
  · rw [show hide b H a = none from if_pos h] at e
    cases e
  · rwa [show hide b H a = H a from if_neg h] at e
theorem hide_ne {b a : Addr} {H : Hp} (h : a ≠ b) : hide b H a = H a := if_neg h
theorem hide_at {b : Addr} {H : Hp} : hide b H b = none := if_pos rfl
theorem hide_but {b : Addr} {H H' : Hp} (h : But b H H') : Same (hide b H) (hide b H') := fun a o e => by
  have n : a ≠ b := fun z => by
    rw [z, hide_at] at e
    cases e
  rw [hide_ne n] at e ⊢
  exact h a o n e
theorem hide_upd {b : Addr} {H : Hp} {o : HO} : hide b (upd H b o) = hide b H := by
  funext a
  by_cases h : a = b
  · rw [h, hide_at, hide_at]
  · rw [hide_ne h, hide_ne h, upd_ne h]
/-- what is new is not in what stood -/
theorem hide_new {b : Addr} {H : Hp} (h : H b = none) : Same H (hide b H) := fun a o e => by
  rw [hide_ne (ne_of_none e h)]
  exact e
theorem hide_mono {b : Addr} {H H' : Hp} (h : Same H H') : Same (hide b H) (hide b H') := hide_but fun c o _ e => h c o e
theorem hide_hide {b c : Addr} {H : Hp} : hide b (hide c H) = hide c (hide b H) := by
  funext a
  unfold hide
  split <;> split <;> rfl
end G
set_option Elab.async false
set_option linter.all false
set_option maxRecDepth 100000
set_option maxHeartbeats 2000000
/-! V3: the items of a list, in a drawn order. -/
namespace G
open PySem PySem.Spec PyProof.Rows L2
abbrev sMixed : Stmt := topS 61
theorem scMixed : FnScope ["_law_box_here", "_law_some", "_law_left", "_law_found"] ["_law_box_here", "_law_some"] (defScope sMixed) := ⟨rfl, rfl, rfl, by decide +kernel, rfl, by decide +kernel, by decide +kernel⟩
/-- data that == takes: no dict, texts that can be compared, not too deep -/
def lay (d : PyData) : Prop := d.hasDict = false ∧ d.canLay0 = true ∧ d.depth ≤ 60
theorem lay_all : ∀ {ds : List PyData}, (∀ d ∈ ds, lay d) → PyData.hasDictAll ds = false ∧ PyData.canLayAll0 ds = true ∧ PyData.depthAll ds ≤ 60
  | [], _ => ⟨rfl, rfl, Nat.zero_le _⟩
  | d :: ds, h => by
    obtain ⟨a1, a2, a3⟩ := h d List.mem_cons_self
    obtain ⟨b1, b2, b3⟩ := lay_all (ds := ds) fun e he => h e (List.mem_cons_of_mem _ he)
    refine ⟨?_, ?_, ?_⟩
    · rw [PyData.hasDictAll, a1, b1]
      rfl
    · rw [PyData.canLayAll0, a2, b2]
      rfl
    · rw [PyData.depthAll]
      exact Nat.max_le.mpr ⟨a3, b3⟩
theorem lay_shaped {d : PyData} (h : lay d) : SeqAt.shaped d = true := by
  unfold SeqAt.shaped
  rw [h.2.1, decide_eq_true (Nat.le_trans h.2.2 (by decide))]
  rfl
theorem lay_list {ds : List PyData} (h : ∀ d ∈ ds, lay d) : SeqAt.shaped (.list ds) = true := by
  obtain ⟨_, b2, b3⟩ := lay_all h
  unfold SeqAt.shaped
  rw [PyData.canLay0, b2, decide_eq_true (show (PyData.list ds).depth ≤ 64 by rw [PyData.depth]; omega)]
  rfl
/-- values and what they show -/
abbrev Vd := V × PyData
theorem rp_pairs {K : PySem.W.Frag} {H : Hp} : ∀ {qs : List Vd}, (∀ p ∈ qs, Rp K H p.1 p.2) → RpAll K H (qs.map (·.1)) (qs.map (·.2))
  | [], _ => .nil
  | p :: qs, h => .cons (h p List.mem_cons_self) (rp_pairs fun q hq => h q (List.mem_cons_of_mem _ hq))
theorem dp_pairs {K : PySem.W.Frag} {H : Hp} {qs : List Vd} (h : ∀ p ∈ qs, Rp K H p.1 p.2) (l : ∀ p ∈ qs, lay p.2) : DpAll K H (qs.map (·.1)) (qs.map (·.2)) :=
  rp_dpAll _ _ (lay_all (ds := qs.map (·.2)) fun d hd => by
    obtain ⟨p, hp, rfl⟩ := List.mem_map.mp hd
    exact l p hp).1 (rp_pairs h)
theorem erase_map {α β : Type} (f : α → β) : ∀ (l : List α) (j : Nat), (l.map f).eraseIdx j = (l.eraseIdx j).map f
  | [], _ => rfl
  | _ :: _, 0 => rfl
  | x :: l, j + 1 => by
    show f x :: (l.map f).eraseIdx j = f x :: (l.eraseIdx j).map f
    rw [erase_map f l j]
theorem erase_perm {α : Type} : ∀ {l : List α} {j : Nat} (h : j < l.length), ([l[j]] ++ l.eraseIdx j).Perm l
  | _ :: _, 0, _ => .refl _
  | x :: l, j + 1, h => by
    have hj : j < l.length := by simpa using h
    have ih := erase_perm hj
    show (l[j] :: x :: l.eraseIdx j).Perm (x :: l)
    exact (List.Perm.swap x _ _).trans (List.Perm.cons x ih)
/-- some: any order of its items, in a new list -/
def spMixed (K : PySem.W.Frag) : Sp := fun vs H Q _ => ∃ (b a : Addr) (n : Nat) (ps : List Vd), vs = [.ref b, .ref a] ∧ BoxAt H b n ∧ n + ps.length ≤ 100000 ∧ (SqL K H a (ps.map (·.1)) ∨ SqT K H a (ps.map (·.1))) ∧
  (∀ p ∈ ps, lay p.2 ∧ ∀ H', But b H H' → Rp K H' p.1 p.2) ∧
  ∀ (p : Addr) (H' : Hp) (qs : List Vd), qs.Perm ps → H p = none → H' p = some (.lst (qs.map (·.1))) → BoxAt H' b (n + ps.length) → But b H H' → Q (.ref p) H'
theorem eqv_nil (ds : List PyData) : PyData.eqv (.list ds) (.list []) = ds.isEmpty := by
  cases ds with
  | nil => rfl
  | cons d ds => rfl
section
variable {P : Program} {w : World} {K : PySem.W.Frag} {mg : Str → Option Value} {base : Heap}
theorem ok_mixed {f fT : Addr} {fd fdT : FuncData} (F : Fun K "_law_mixed" "_law_mixed" sMixed f fd) (T : Fun K "_law_take" "_law_take" sTake fT fdT) (bT : Binds K fdT ["_law_box_here", "_law_many"] []) (gT : mg "_law_take" = some (.ref fT))
    (ml : mg "len" = none) (mL : mg "list" = none) : FnOk P w K mg base CX0 2 f fd ["_law_box_here", "_law_some"] (spMixed K) := by
  refine F.ok scMixed (fun vs H Q E h => ?_) (fun cdv A outer s H vs Q E hr h => ?_)
  · obtain ⟨b, a, n, ps, rfl, _⟩ := h
    rfl
  · obtain ⟨b, a, n, ps, rfl, B, hn, hS, hp, q⟩ := h
    have big : ∀ {k : Nat}, k ≤ 100000 → k < sizeLine := fun {k} h => by
      rw [sizeLine_eq]
      omega
    refine ⟨_, pss_cons (ps_par (i := 2) (j := 3) (by rfl) scMixed.nd rfl rfl (by decide) rfl rfl (pa_cons (pe_callTy call_list_of (by rfl) mL (by decide +kernel) (pa_cons (pv 1) pa_nil)) (pa_cons (pe_lst pa_nil) pa_nil)) (by rfl))
      (pss_cons (ps_while PassesOwn.never (pt_cmpR (op_neD hr.units) (pv 2) (pe_lst pa_nil) (nomark _))
        (pss_one (ps_expr (pe_bm PySem.F.plainAttrs_list PySem.F.slot_list_append PySem.F.type_list_append mt_append (pv 3) (pa_cons
          (pe_bm PySem.F.plainAttrs_list PySem.F.slot_list_pop PySem.F.type_list_pop mt_popAt (pv 2)
            (pa_cons (pe_call (ok_take T) hr rfl gT T.kp bT .nil pass0 (pa_cons (pv 0) (pa_cons (pe_callB call_len_seq (by rfl) ml PySem.boot_len (pa_cons (pv 2) pa_nil)) pa_nil))) pa_nil)) pa_nil)))))
      (pss_one (ps_ret (pv 3)))), ?_⟩
    refine ⟨_, rfl, a, _, rfl, hS, fun l hl => ⟨by decide, fun p hp0 => ⟨_, _, rfl, ?_⟩⟩⟩
    have nlp : l ≠ p := fun z => by
      rw [z, upd_same] at hp0
      cases hp0
    have hpn : H p = none := (upd_ne nlp.symm).symm.trans hp0
    have nbl : b ≠ l := by
      obtain ⟨_, _, _, e, _⟩ := B
      exact ne_of_none e hl
    have nbp : b ≠ p := by
      obtain ⟨_, _, _, e, _⟩ := B
      exact ne_of_none e hpn
    refine ⟨fun m σ H1 => ∃ qs rs : List Vd, m = qs.length ∧ σ = [some (.ref b), some (.ref a), some (.ref l), some (.ref p)] ∧ H1 l = some (.lst (qs.map (·.1))) ∧ H1 p = some (.lst (rs.map (·.1))) ∧
        (rs ++ qs).Perm ps ∧ BoxAt H1 b (n + rs.length) ∧ But b H H1, ⟨ps.length, ps, [], rfl, rfl, ?_, upd_same, .refl _, ?_, ?_⟩, ?_⟩
    · rw [upd_ne nlp, upd_same]
    · exact (B.keep fun o e => by rw [upd_ne nbp, upd_ne nbl]; exact e).mono (Nat.le_add_right _ _)
    · exact (But.new hl).trans (But.new hp0)
    · rintro m σ H1 ⟨qs, rs, rfl, rfl, el, ep, pm, B1, s1⟩
      have hq : ∀ x ∈ qs, x ∈ ps := fun x hx => pm.mem_iff.mp (List.mem_append_right _ hx)
      have hlen : rs.length + qs.length = ps.length := by
        rw [← List.length_append]
        exact pm.length_eq
      refine ⟨_, rfl, by decide, fun t ht => ?_⟩
      have nlt : l ≠ t := ne_of_none el ht
      have s2 : But b H (upd H1 t (.lst [])) := s1.trans (But.new ht)
      refine ⟨.list (qs.map fun x : Vd => x.2), .list [], .lst (xs := qs.map fun x : Vd => x.1) (.of (by rw [upd_ne nlt]; exact el)) (dp_pairs (fun x hx => (hp x (hq x hx)).2 _ s2) fun x hx => (hp x (hq x hx)).1), .lst (.of upd_same) .nil, lay_list (fun d hd => ?_), by rfl, _, rfl, ?_⟩
      · obtain ⟨x, hx, rfl⟩ := List.mem_map.mp hd
        exact (hp x (hq x hx)).1
      · rw [eqv_nil]
        cases qs with
        | nil =>
          refine iteF ?_
          refine ⟨_, rfl, ?_⟩
          rw [List.append_nil] at pm
          refine q p _ rs pm hpn ?_ ?_ s2
          · rw [upd_ne (ne_of_none ep ht)]
            exact ep
          · have e : rs.length = ps.length := pm.length_eq
            rw [← e]
            exact B1.keep fun o e => by rw [upd_ne (ne_of_none e ht)]; exact e
        | cons y ys =>
          refine iteT ?_
          have hlen' : rs.length + (ys.length + 1) = ps.length := hlen
          refine ⟨fun σ' H' => ∃ m', m' < (y :: ys).length ∧ ∃ qs rs : List Vd, m' = qs.length ∧ σ' = [some (.ref b), some (.ref a), some (.ref l), some (.ref p)] ∧ H' l = some (.lst (qs.map (·.1))) ∧ H' p = some (.lst (rs.map (·.1))) ∧
            (rs ++ qs).Perm ps ∧ BoxAt H' b (n + rs.length) ∧ But b H H', fun _ _ h => h, ?_⟩
          have ep2 : upd H1 t (.lst []) p = some (.lst (rs.map (·.1))) := by
            rw [upd_ne (ne_of_none ep ht)]
            exact ep
          have el2 : upd H1 t (.lst []) l = some (.lst ((y :: ys).map (·.1))) := by
            rw [upd_ne nlt]
            exact el
          have B2 : BoxAt (upd H1 t (.lst [])) b (n + rs.length) := B1.keep fun o e => by rw [upd_ne (ne_of_none e ht)]; exact e
          refine ⟨_, rfl, .inl ⟨rfl, _, .of ep2⟩, _, rfl, .inl ⟨rfl, _, .of el2⟩, _, rfl, _, rfl, l, _, rfl, .inl (.of el2), b, _, n + rs.length, rfl, B2, by omega, ?_, ?_, fun r H3 r0 r1 B3 s3 => ?_⟩
          · rw [List.length_map]
            show (0 : Int) < ((ys.length + 1 : Nat) : Int)
            omega
          · rw [List.length_map]
            show ((ys.length + 1 : Nat) : Int) < _
            have : ys.length + 1 ≤ 100000 := by omega
            omega
          · obtain ⟨j, rfl, hj⟩ := draw_at r0 r1 (n := (y :: ys).length) (by rw [List.length_map])
            have el3 : H3 l = some (.lst ((y :: ys).map (·.1))) := s3 _ _ nbl.symm el2
            have ep3 : H3 p = some (.lst (rs.map (·.1))) := s3 _ _ nbp.symm ep2
            have hjm : j < ((y :: ys).map (·.1)).length := by
              rw [List.length_map]
              exact hj
            have hj5 : j < 100000 := by
              have e : (y :: ys).length = ys.length + 1 := rfl
              omega
            refine ⟨l, _, (j : Int), j, ((y :: ys)[j]).1, rfl, rfl, el3, by omega, by omega, ?_, ?_, ?_⟩
            · have := PySem.seqIndex_of (k := (j : Int)) (n := ((y :: ys).map (·.1)).length) (by omega) (by omega)
              rw [this]
              rfl
            · rw [List.getElem?_map, List.getElem?_eq_getElem hj]
              rfl
            · refine ⟨p, _, _, rfl, rfl, by rw [upd_ne nlp.symm]; exact ep3, ?_, ?_⟩
              · rw [List.length_map]
                exact big (by omega)
              · refine ⟨((y :: ys).eraseIdx j).length, ?_, (y :: ys).eraseIdx j, rs ++ [(y :: ys)[j]], rfl, rfl, ?_, ?_, ?_, ?_, ?_⟩
                · rw [List.length_eraseIdx, if_pos hj]
                  show (ys.length + 1) - 1 < ys.length + 1
                  omega
                · rw [upd_ne nlp, upd_same, erase_map]
                · rw [upd_same, List.map_append]
                  rfl
                · rw [List.append_assoc]
                  refine List.Perm.trans (List.Perm.append_left rs ?_) pm
                  exact erase_perm hj
                · rw [List.length_append, List.length_singleton]
                  exact B3.keep fun o e => by rw [upd_ne nbp, upd_ne nbl]; exact e
                · intro c o nc e
                  have e3 := (s2.trans s3) c o nc e
                  rw [upd_ne (ne_of_none e hpn), upd_ne (ne_of_none e hl)]
                  exact e3
end
end G
set_option Elab.async false
set_option linter.all false
set_option maxRecDepth 100000
set_option maxHeartbeats 2000000
/-! V4: drawn names. -/
namespace G
open PySem PySem.Spec PyProof.Rows L2
abbrev sNames : Stmt := topS 62
abbrev nNames : List Str := ["_law_box_here", "_law_many", "_law_letters", "_law_way", "_law_cut", "_law_begin", "_law_step_here", "_law_stem", "_law_k", "_law_found", "_law_letter", "_law_name"]
theorem scNames : FnScope nNames ["_law_box_here", "_law_many"] (defScope sNames) := ⟨rfl, rfl, rfl, by decide +kernel, rfl, by decide +kernel, by decide +kernel⟩
abbrev cs (z : Str) : List Nat := z.cps.toList
theorem cs_len (z : Str) : (cs z).length = z.length := by simp [cs, Str.length]
theorem cs_app (a b : Str) : cs (a ++ b) = cs a ++ cs b := TL.tl_append a b
theorem app_len (a b : Str) : (a ++ b).length = a.length + b.length := strLen_append a b
theorem small_size {n : Nat} (h : n ≤ 7000) : n ≤ sizeLine := by
  rw [sizeLine_eq]
  omega
theorem box_new {H : Hp} {b p : Addr} {n : Nat} {o : HO} (B : BoxAt H b n) (h : H p = none) : BoxAt (upd H p o) b n := B.keep fun o' e => Same.new h b o' e
theorem box_ne {H : Hp} {b p : Addr} {n : Nat} (B : BoxAt H b n) (h : H p = none) : p ≠ b := fun z => by
  obtain ⟨_, _, _, e, _⟩ := B
  rw [← z, h] at e
  cases e
theorem box_upd {H : Hp} {b p : Addr} {n : Nat} {o : HO} (B : BoxAt H b n) (h : p ≠ b) : BoxAt (upd H p o) b n := by
  obtain ⟨x, y, z, e, r⟩ := B
  exact ⟨x, y, z, (upd_ne h.symm).trans e, r⟩
/-- a store at what was new -/
theorem but_upd {b p : Addr} {H H1 : Hp} {o : HO} (k : But b H H1) (h : H p = none) : But b H (upd H1 p o) := fun c u n e => by
  rw [upd_ne (ne_of_none e h)]
  exact k c u n e
theorem free_of {b p : Addr} {H H' : Hp} (k : But b H H') (n : p ≠ b) (h : H' p = none) : H p = none := by
  cases e : H p with
  | none => rfl
  | some o =>
    rw [k p o n e] at h
    cases h
/-! ### names -/
def LowZ (z : Str) : Prop := ∀ c ∈ cs z, 97 ≤ c ∧ c ≤ 122
def NameZ (z : Str) : Prop := LowZ z ∧ 1 ≤ z.length ∧ z.length ≤ 8
def NameI (y : Str) (i : Nat) : Prop := LowZ y ∧ 1 ≤ y.length ∧ y.length ≤ 8 ∧ (26 ≤ i → y.length ≤ 7)
theorem LowZ.app {a b : Str} (h1 : LowZ a) (h2 : LowZ b) : LowZ (a ++ b) := fun c hc => by
  rw [cs_app] at hc
  rcases List.mem_append.mp hc with h | h
  · exact h1 c h
  · exact h2 c h
theorem LowZ.cut {a : Str} (h : LowZ a) (lo hi : Option Int) : LowZ (cutS a lo hi) := fun c hc => by
  have hc' : c ∈ ((cs a).drop _).take _ := hc
  exact h c (List.mem_of_mem_drop (List.mem_of_mem_take hc'))
theorem low_one {c : Nat} (h : 97 ≤ c ∧ c ≤ 122) : LowZ ⟨#[c]⟩ := fun x hx => by
  have : x ∈ [c] := hx
  rw [List.mem_singleton.mp this]
  exact h
theorem LowZ.lay {z : Str} (h : LowZ z) : lay (.str z) := by
  refine ⟨rfl, ?_, Nat.zero_le _⟩
  show z.cps.all (· < 0x110000) = true
  rw [Array.all_eq_true]
  intro i hi
  have := h z.cps[i] (by simp [cs])
  exact decide_eq_true (by omega)
abbrev abc : Str := "abcdefghijklmnopqrstuvwxyz"
theorem abc_low : LowZ abc := by
  have h : ((cs abc).all fun c => decide (97 ≤ c ∧ c ≤ 122)) = true := by decide +kernel
  exact fun c hc => of_decide_eq_true (List.all_eq_true.mp h c hc)
theorem abc_at {j : Nat} (hj : j < 26) : ∃ c, abc.cps[j]? = some c ∧ 97 ≤ c ∧ c ≤ 122 := by
  have h1 : j < abc.cps.size := hj
  refine ⟨abc.cps[j], by simp [h1], abc_low _ ?_⟩
  simp [cs]
theorem cut_first (z : Str) (k : Nat) : cs (cutS z none (some (k : Int))) = (cs z).take k := by
  show ((cs z).drop (HT.sIx z.length 0 none)).take (HT.sIx z.length z.length (some (k : Int)) - HT.sIx z.length 0 none) = _
  rw [HT.sIx_none, HT.sIx_nat z.length z.length k, List.drop_zero, ← cs_len, Nat.sub_zero]
  by_cases h : k ≤ (cs z).length
  · rw [Nat.min_eq_left h]
  · rw [Nat.min_eq_right (by omega), List.take_length, List.take_of_length_le (by omega)]
theorem cut_len (z : Str) (k : Nat) : (cutS z none (some (k : Int))).length = min k z.length := by
  rw [← cs_len, cut_first, List.length_take, cs_len]
def spNames : Sp := fun vs H Q _ => ∃ (b : Addr) (m n : Nat), vs = [.ref b, .int (m : Int)] ∧ BoxAt H b n ∧ n ≤ 50000 ∧ m ≤ 100 ∧
  ∀ (p : Addr) (H' : Hp) (zs : List Str), zs.length = m → (∀ z ∈ zs, NameZ z) → H p = none → H' p = some (.lst (zs.map V.str)) → BoxAt H' b (n + 11 + m) → But b H H' → Q (.ref p) H'
section
variable {P : Program} {w : World} {K : PySem.W.Frag} {mg : Str → Option Value} {base : Heap}
theorem ok_names {f fT fM : Addr} {fd fdT fdM : FuncData} (F : Fun K "_law_names" "_law_names" sNames f fd) (T : Fun K "_law_take" "_law_take" sTake fT fdT) (bT : Binds K fdT ["_law_box_here", "_law_many"] []) (gT : mg "_law_take" = some (.ref fT))
    (M : Fun K "_law_mixed" "_law_mixed" sMixed fM fdM) (bM : Binds K fdM ["_law_box_here", "_law_some"] []) (gM : mg "_law_mixed" = some (.ref fM)) (ml : mg "len" = none) (mL : mg "list" = none) (mr : mg "range" = none) :
    FnOk P w K mg base CX0 3 f fd ["_law_box_here", "_law_many"] spNames := by
  have GT : FnOk P w K mg base CX0 1 fT fdT ["_law_box_here", "_law_many"] spTake := ok_take T
  have GM : FnOk P w K mg base CX0 2 fM fdM ["_law_box_here", "_law_some"] (spMixed K) := ok_mixed M T bT gT ml mL
  refine F.ok scNames (fun vs H Q E h => ?_) (fun cdv A outer s H vs Q E hr h => ?_)
  · obtain ⟨b, m, n, rfl, _⟩ := h
    rfl
  · obtain ⟨b, m, n, rfl, B, hn, hm, q⟩ := h
    have hr1 := hr.mono (show 1 ≤ 2 by decide)
    obtain ⟨ts, psl, qsl⟩ : ∃ t, PSs (cxOf CX0 P w K mg base nNames "_law_names" (defScope sNames) f cdv A outer s H E).nox ((defBody sNames).drop 5) t ∧
        ∀ (way cut bg st : Nat) (z : Str) (x8 : Option V) (H1 : Hp), cut ≤ 7 → (26 < m → cut ≤ 6) → bg < 26 → st ≤ 17 → LowZ z → z.length = 7 → BoxAt H1 b (n + 11) → But b H H1 → t { nx := fun _ H' => Q .non H', rt := Q } [some (.ref b), some (.int (m : Int)), some (.str abc), some (.int (way : Int)), some (.int (cut : Int)), some (.int (bg : Int)), some (.int (st : Int)), some (.str z), x8, none, none, none] H1 := by
      refine ⟨_, pss_cons (ps_set (i := 9) scNames.nd rfl (.inl rfl) (pe_lst pa_nil))
      (pss_cons (ps_for PassesOwn.never rfl (pi_range1 rfl mr (pa_cons (pv 1) pa_nil)) (pg_name (i := 8) scNames.nd rfl (.inl rfl))
        (pss_cons (ps_set (i := 10) scNames.nd rfl (.inl rfl) (pe_item_str (pv 2) (pe_op op_mod (pe_op op_add (pv 5) (pe_op op_mul (pv 6) (pv 8))) pe_int) (fun _ _ => rfl)))
        (pss_cons (ps_set (i := 11) scNames.nd rfl (.inl rfl) (pe_op op_add_str (pe_slice sl_str (pv 7) po_none (po_some (pv 4))) (pv 10)))
        (pss_cons (ps_if (PW.pt (pw_and (pt_cmpR op_eq (pv 3) pe_int (nomark _)) (pw_and1 (pt_cmpR op_lt (pv 1) pe_int (nomark _)))))
          (pss_one (ps_set (i := 11) scNames.nd rfl (.inl rfl) (pe_op op_add_str (pv 10) (pe_slice sl_str (pv 7) po_none (po_some (pe_op op_mod (pe_op op_add (pv 4) (pe_op op_mul pe_int (pv 8))) pe_int)))))) pss_nil)
        (pss_one (ps_expr (pe_bm PySem.F.plainAttrs_list PySem.F.slot_list_append PySem.F.type_list_append mt_append (pv 9) (pa_cons
          (pe_ifExp (pt_cmpR op_lt (pv 8) pe_int (nomark _)) (pv 11) (pe_op op_add_str (pv 11) (pe_item_str (pv 2) (pe_op op_fdiv (pv 8) pe_int) (fun _ _ => rfl)))) pa_nil))))))))
      (pss_one (ps_ret (pv 9)))), ?_⟩
      intro way cut bg st z x8 H1 hcut hcut2 hbg hst hz hl B1 k1
      refine ⟨Nat.zero_le _, fun D hD => ?_⟩
      have nD := box_ne B1 hD
      have fD := free_of k1 nD hD
      refine ⟨_, rfl, _, rfl, by omega, by omega, ?_⟩
      rw [Int.toNat_natCast m]
      refine for_range (lo := 0) (n := m) (fun i σ H2 => ∃ (zs : List Str) (x8 x10 x11 : Option V), σ = [some (.ref b), some (.int (m : Int)), some (.str abc), some (.int (way : Int)), some (.int (cut : Int)), some (.int (bg : Int)), some (.int (st : Int)), some (.str z), x8, some (.ref D), x10, x11] ∧
        H2 D = some (.lst (zs.map V.str)) ∧ zs.length = i ∧ (∀ y ∈ zs, NameZ y) ∧ BoxAt H2 b (n + 11) ∧ But b H H2) ?_ ?_ ?_
      · exact ⟨[], x8, none, none, rfl, upd_same, rfl, (fun y h => nomatch h), box_new B1 hD, but_upd k1 fD⟩
      · rintro i σ H2 hi ⟨zs, x8, x10, x11, rfl, e2, hlz, hy, B2, k2⟩
        have r := emod_in ((bg : Int) + (st : Int) * (0 + (i : Int))) 26 (by decide)
        obtain ⟨j, ej, hj⟩ := draw_at r.1 r.2 (n := 26) rfl
        obtain ⟨c, hc, c97⟩ := abc_at hj
        refine ⟨_, rfl, _, rfl, _, rfl, _, rfl, _, _, rfl, rfl, .inl ⟨by omega, by omega⟩, _, _, rfl, rfl, _, _, rfl, rfl, (by show (0 : Int) < 26; decide), _, _, c, rfl, rfl, r.1, by omega, (show _ < ((26 : Nat) : Int) by omega), (by rw [ej]; exact hc), ?_⟩
        have lo := low_one c97
        have len1 : (⟨#[c]⟩ : Str).length = 1 := rfl
        generalize (⟨#[c]⟩ : Str) = lt at lo len1
        have cl := cut_len z cut
        refine ⟨_, rfl, _, rfl, _, rfl, z, rfl, small_size (by omega), _, rfl, _, _, rfl, rfl, small_size (by omega), ?_⟩
        have Y0 : LowZ (cutS z none (some (cut : Int)) ++ lt) ∧ 1 ≤ (cutS z none (some (cut : Int)) ++ lt).length ∧ (cutS z none (some (cut : Int)) ++ lt).length ≤ 8 ∧ (26 ≤ i → (cutS z none (some (cut : Int)) ++ lt).length ≤ 7) := by
          rw [app_len]
          exact ⟨(hz.cut _ _).app lo, by omega, by omega, fun _ => by omega⟩
        have r8 := emod_in ((cut : Int) + 3 * (0 + (i : Int))) 8 (by decide)
        refine ⟨_, rfl, rfl, _, rfl, ite2 (fun _ => ?_) (fun _ => ?_)⟩
        · refine ⟨_, rfl, _, _, rfl, rfl, _, rfl, ite2 (fun h27 => ?_) (fun _ => ?_)⟩
          · have hm27 : (m : Int) < 27 := of_decide_eq_true h27
            obtain ⟨j8, ej8, hj8⟩ := draw_at r8.1 r8.2 (n := 8) rfl
            have cl8 := cut_len z j8
            refine ⟨_, rfl, _, rfl, _, rfl, _, rfl, _, _, rfl, rfl, .inl ⟨by decide, by decide⟩, _, _, rfl, rfl, _, _, rfl, rfl, (by show (0 : Int) < 8; decide), _, rfl, z, rfl, small_size (by omega), _, _, rfl, rfl, ?_, ?_⟩
            · rw [ej8, len1]
              exact small_size (by omega)
            have Y : NameI (lt ++ cutS z none (some (((cut : Int) + 3 * (0 + (i : Int))) % 8))) i := by
              unfold NameI
              rw [ej8, app_len]
              exact ⟨lo.app (hz.cut _ _), by omega, by omega, fun h => by omega⟩
            revert Y
            generalize (lt ++ cutS z none (some (((cut : Int) + 3 * (0 + (i : Int))) % 8))) = y
            intro Y
            obtain ⟨y1, y2, y3, y4⟩ := Y
            have done : ∀ (u : Str) (x8 x10 x11 : Option V), NameZ u → ∃ (zs' : List Str) (x8' x10' x11' : Option V), [some (V.ref b), some (.int (m : Int)), some (.str abc), some (.int (way : Int)), some (.int (cut : Int)), some (.int (bg : Int)), some (.int (st : Int)), some (.str z), x8, some (.ref D), x10, x11] = [some (.ref b), some (.int (m : Int)), some (.str abc), some (.int (way : Int)), some (.int (cut : Int)), some (.int (bg : Int)), some (.int (st : Int)), some (.str z), x8', some (.ref D), x10', x11'] ∧
                upd H2 D (.lst (zs.map V.str ++ [.str u])) D = some (.lst (zs'.map V.str)) ∧ zs'.length = i + 1 ∧ (∀ y ∈ zs', NameZ y) ∧ BoxAt (upd H2 D (.lst (zs.map V.str ++ [.str u]))) b (n + 11) ∧ But b H (upd H2 D (.lst (zs.map V.str ++ [.str u]))) := fun u x8 x10 x11 hu => by
              refine ⟨zs ++ [u], x8, x10, x11, rfl, ?_, ?_, fun v hv => ?_, box_upd B2 nD, but_upd k2 fD⟩
              · rw [upd_same, List.map_append]
                rfl
              · rw [List.length_append, hlz]
                rfl
              · rcases List.mem_append.mp hv with hv | hv
                · exact hy v hv
                · rw [List.mem_singleton.mp hv]
                  exact hu
            have room : (zs.map V.str).length < sizeLine := by
              rw [List.length_map]
              exact small1000 (by omega)
            refine ⟨_, rfl, .inl ⟨rfl, _, .of e2⟩, _, rfl, _, _, rfl, rfl, _, rfl, ite2 (fun h26 => ?_) (fun h26 => ?_)⟩
            · exact ⟨_, rfl, D, _, _, rfl, rfl, e2, room, done y _ _ _ ⟨y1, y2, y3⟩⟩
            · have h26' : ¬ ((0 + (i : Int)) < 26) := fun h => h26 (decide_eq_true h)
              have yl := y4 (by omega)
              have hd : (0 + (i : Int)) / 26 = ((i / 26 : Nat) : Int) := by omega
              obtain ⟨c2, hc2, c297⟩ := abc_at (j := i / 26) (by omega)
              refine ⟨_, rfl, _, rfl, _, rfl, _, _, rfl, rfl, ⟨by decide, by decide⟩, _, _, c2, rfl, rfl, by omega, by omega, (show _ < ((26 : Nat) : Int) by omega), (by rw [hd]; exact hc2), _, _, rfl, rfl, ?_, D, _, _, rfl, rfl, e2, room, ?_⟩
              · show y.length + 1 ≤ sizeLine
                exact small_size (by omega)
              · have l2 : (y ++ (⟨#[c2]⟩ : Str)).length = y.length + 1 := app_len y ⟨#[c2]⟩
                exact done (y ++ ⟨#[c2]⟩) _ _ _ ⟨y1.app (low_one c297), by omega, by omega⟩
          · have Y : NameI (cutS z none (some (cut : Int)) ++ lt) i := Y0
            revert Y
            generalize (cutS z none (some (cut : Int)) ++ lt) = y
            intro Y
            obtain ⟨y1, y2, y3, y4⟩ := Y
            have done : ∀ (u : Str) (x8 x10 x11 : Option V), NameZ u → ∃ (zs' : List Str) (x8' x10' x11' : Option V), [some (V.ref b), some (.int (m : Int)), some (.str abc), some (.int (way : Int)), some (.int (cut : Int)), some (.int (bg : Int)), some (.int (st : Int)), some (.str z), x8, some (.ref D), x10, x11] = [some (.ref b), some (.int (m : Int)), some (.str abc), some (.int (way : Int)), some (.int (cut : Int)), some (.int (bg : Int)), some (.int (st : Int)), some (.str z), x8', some (.ref D), x10', x11'] ∧
                upd H2 D (.lst (zs.map V.str ++ [.str u])) D = some (.lst (zs'.map V.str)) ∧ zs'.length = i + 1 ∧ (∀ y ∈ zs', NameZ y) ∧ BoxAt (upd H2 D (.lst (zs.map V.str ++ [.str u]))) b (n + 11) ∧ But b H (upd H2 D (.lst (zs.map V.str ++ [.str u]))) := fun u x8 x10 x11 hu => by
              refine ⟨zs ++ [u], x8, x10, x11, rfl, ?_, ?_, fun v hv => ?_, box_upd B2 nD, but_upd k2 fD⟩
              · rw [upd_same, List.map_append]
                rfl
              · rw [List.length_append, hlz]
                rfl
              · rcases List.mem_append.mp hv with hv | hv
                · exact hy v hv
                · rw [List.mem_singleton.mp hv]
                  exact hu
            have room : (zs.map V.str).length < sizeLine := by
              rw [List.length_map]
              exact small1000 (by omega)
            refine ⟨_, rfl, .inl ⟨rfl, _, .of e2⟩, _, rfl, _, _, rfl, rfl, _, rfl, ite2 (fun h26 => ?_) (fun h26 => ?_)⟩
            · exact ⟨_, rfl, D, _, _, rfl, rfl, e2, room, done y _ _ _ ⟨y1, y2, y3⟩⟩
            · have h26' : ¬ ((0 + (i : Int)) < 26) := fun h => h26 (decide_eq_true h)
              have yl := y4 (by omega)
              have hd : (0 + (i : Int)) / 26 = ((i / 26 : Nat) : Int) := by omega
              obtain ⟨c2, hc2, c297⟩ := abc_at (j := i / 26) (by omega)
              refine ⟨_, rfl, _, rfl, _, rfl, _, _, rfl, rfl, ⟨by decide, by decide⟩, _, _, c2, rfl, rfl, by omega, by omega, (show _ < ((26 : Nat) : Int) by omega), (by rw [hd]; exact hc2), _, _, rfl, rfl, ?_, D, _, _, rfl, rfl, e2, room, ?_⟩
              · show y.length + 1 ≤ sizeLine
                exact small_size (by omega)
              · have l2 : (y ++ (⟨#[c2]⟩ : Str)).length = y.length + 1 := app_len y ⟨#[c2]⟩
                exact done (y ++ ⟨#[c2]⟩) _ _ _ ⟨y1.app (low_one c297), by omega, by omega⟩
        · have Y : NameI (cutS z none (some (cut : Int)) ++ lt) i := Y0
          revert Y
          generalize (cutS z none (some (cut : Int)) ++ lt) = y
          intro Y
          obtain ⟨y1, y2, y3, y4⟩ := Y
          have done : ∀ (u : Str) (x8 x10 x11 : Option V), NameZ u → ∃ (zs' : List Str) (x8' x10' x11' : Option V), [some (V.ref b), some (.int (m : Int)), some (.str abc), some (.int (way : Int)), some (.int (cut : Int)), some (.int (bg : Int)), some (.int (st : Int)), some (.str z), x8, some (.ref D), x10, x11] = [some (.ref b), some (.int (m : Int)), some (.str abc), some (.int (way : Int)), some (.int (cut : Int)), some (.int (bg : Int)), some (.int (st : Int)), some (.str z), x8', some (.ref D), x10', x11'] ∧
              upd H2 D (.lst (zs.map V.str ++ [.str u])) D = some (.lst (zs'.map V.str)) ∧ zs'.length = i + 1 ∧ (∀ y ∈ zs', NameZ y) ∧ BoxAt (upd H2 D (.lst (zs.map V.str ++ [.str u]))) b (n + 11) ∧ But b H (upd H2 D (.lst (zs.map V.str ++ [.str u]))) := fun u x8 x10 x11 hu => by
            refine ⟨zs ++ [u], x8, x10, x11, rfl, ?_, ?_, fun v hv => ?_, box_upd B2 nD, but_upd k2 fD⟩
            · rw [upd_same, List.map_append]
              rfl
            · rw [List.length_append, hlz]
              rfl
            · rcases List.mem_append.mp hv with hv | hv
              · exact hy v hv
              · rw [List.mem_singleton.mp hv]
                exact hu
          have room : (zs.map V.str).length < sizeLine := by
            rw [List.length_map]
            exact small1000 (by omega)
          refine ⟨_, rfl, .inl ⟨rfl, _, .of e2⟩, _, rfl, _, _, rfl, rfl, _, rfl, ite2 (fun h26 => ?_) (fun h26 => ?_)⟩
          · exact ⟨_, rfl, D, _, _, rfl, rfl, e2, room, done y _ _ _ ⟨y1, y2, y3⟩⟩
          · have h26' : ¬ ((0 + (i : Int)) < 26) := fun h => h26 (decide_eq_true h)
            have yl := y4 (by omega)
            have hd : (0 + (i : Int)) / 26 = ((i / 26 : Nat) : Int) := by omega
            obtain ⟨c2, hc2, c297⟩ := abc_at (j := i / 26) (by omega)
            refine ⟨_, rfl, _, rfl, _, rfl, _, _, rfl, rfl, ⟨by decide, by decide⟩, _, _, c2, rfl, rfl, by omega, by omega, (show _ < ((26 : Nat) : Int) by omega), (by rw [hd]; exact hc2), _, _, rfl, rfl, ?_, D, _, _, rfl, rfl, e2, room, ?_⟩
            · show y.length + 1 ≤ sizeLine
              exact small_size (by omega)
            · have l2 : (y ++ (⟨#[c2]⟩ : Str)).length = y.length + 1 := app_len y ⟨#[c2]⟩
              exact done (y ++ ⟨#[c2]⟩) _ _ _ ⟨y1.app (low_one c297), by omega, by omega⟩
      · rintro σ H2 ⟨zs, x8, x10, x11, rfl, e2, hlz, hy, B2, k2⟩
        exact ⟨_, rfl, q D H2 zs hlz hy fD e2 (B2.mono (by omega)) k2⟩
    obtain ⟨tl, pl, ql⟩ : ∃ t, PSs (cxOf CX0 P w K mg base nNames "_law_names" (defScope sNames) f cdv A outer s H E).nox ((defBody sNames).drop 2) t ∧
        ∀ (way cut bg : Nat) (H1 : Hp), cut ≤ 7 → (26 < m → cut ≤ 6) → bg < 26 → BoxAt H1 b (n + 3) → But b H H1 → t { nx := fun _ H' => Q .non H', rt := Q } [some (.ref b), some (.int (m : Int)), some (.str abc), some (.int (way : Int)), some (.int (cut : Int)), some (.int (bg : Int)), none, none, none, none, none, none] H1 := by
      refine ⟨_, pss_cons (ps_asg (pe_tup (pa_cons (pe_ix ix_list (pe_lst (pa_cons pe_int (pa_cons pe_int (pa_cons pe_int (pa_cons pe_int (pa_cons pe_int (pa_cons pe_int (pa_cons pe_int (pa_cons pe_int pa_nil)))))))))
          (pe_call GT hr1 rfl gT T.kp bT .nil pass0 (pa_cons (pv 0) (pa_cons pe_int pa_nil))) (fun _ _ => rfl)) (pa_cons pe_str pa_nil)))
        (pg_tup (by rfl) (pgs_cons (pg_name (i := 6) scNames.nd rfl (.inl rfl)) (pgs_cons (pg_name (i := 7) scNames.nd rfl (.inr rfl)) pgs_nil))))
      (pss_cons (ps_for PassesOwn.never rfl (pi_range1 rfl mr (pa_cons pe_int pa_nil)) (pg_name (i := 8) scNames.nd rfl (.inl rfl))
        (pss_one (ps_set (i := 7) scNames.nd rfl (.inr rfl) (pe_op op_add_str (pv 7) (pe_item_str (pv 2) (pe_call GT hr1 rfl gT T.kp bT .nil pass0 (pa_cons (pv 0) (pa_cons pe_int pa_nil))) (fun _ _ => rfl))))))
      (pss_cons (ps_if (PW.pt (pw_and (pt_cmpR op_eq (pv 3) pe_int (nomark _)) (pw_and1 (pt_cmpR op_lt (pv 1) pe_int (nomark _)))))
        (pss_one (ps_ret (pe_call GM hr rfl gM M.kp bM .nil pass0 (pa_cons (pv 0) (pa_cons (pe_lc (own := [("_law_k", 8)]) (g := gName 8) (tt := tYes) (by rfl) scNames.nd (pi_range1 rfl mr (pa_cons (pv 1) pa_nil))
          (blkOk_by (own := [("_law_k", 8)]) (N := nNames) (sc := defScope sNames) (by decide +kernel)) (fun _ _ _ _ _ => pg_name (i := 8) scNames.nd rfl (.inl rfl)) (fun _ _ _ _ _ => pts_nil)
          (fun _ _ _ _ _ => pe_slice sl_str (pe_op op_add_str (pv 7) (pe_item_str (pv 2) (pv 5) (fun _ _ => rfl))) po_none (po_some (pe_op op_add (pv 8) pe_int)))) pa_nil))))) pss_nil)
      psl)), ?_⟩
      intro way cut bg H1 hcut hcut2 hbg B1 k1
      refine ⟨(by show 8 ≤ sizeLine; decide), fun p1 hp1 => ?_⟩
      have np1 := box_ne B1 hp1
      refine ⟨_, rfl, b, 8, n + 3, rfl, box_new B1 hp1, by omega, by decide, by decide, fun r H2 r0 r1 B2 k2 => ?_⟩
      obtain ⟨j, rfl, hj⟩ := draw_at (n := 8) r0 r1 rfl
      have e2 := k2 _ _ np1 upd_same
      have kk2 : But b H H2 := (k1.trans (But.new hp1)).trans k2
      obtain ⟨st, hst, hst17⟩ : ∃ st : Nat, ([.int 1, .int 3, .int 5, .int 7, .int 9, .int 11, .int 15, .int 17] : List V)[j]? = some (.int (st : Int)) ∧ st ≤ 17 := by
        match j, hj with
        | 0, _ => exact ⟨1, rfl, by decide⟩
        | 1, _ => exact ⟨3, rfl, by decide⟩
        | 2, _ => exact ⟨5, rfl, by decide⟩
        | 3, _ => exact ⟨7, rfl, by decide⟩
        | 4, _ => exact ⟨9, rfl, by decide⟩
        | 5, _ => exact ⟨11, rfl, by decide⟩
        | 6, _ => exact ⟨15, rfl, by decide⟩
        | 7, _ => exact ⟨17, rfl, by decide⟩
      refine ⟨p1, _, _, .int (st : Int), rfl, rfl, .of e2, atI_nat hst, (by show 2 ≤ sizeLine; decide), fun p2 hp2 => ?_⟩
      have np2 := box_ne B2 hp2
      refine ⟨p2, _, rfl, .of upd_same, rfl, _, _, rfl, _, _, rfl, rfl, ?_⟩
      have B3 : BoxAt (upd H2 p2 (.tup [.int (st : Int), .str ""])) b (n + 4) := box_new B2 hp2
      have k3 : But b H (upd H2 p2 (.tup [.int (st : Int), .str ""])) := kk2.trans (But.new hp2)
      generalize upd H2 p2 (.tup [.int (st : Int), .str ""]) = H3 at B3 k3
      -- the stem
      refine ⟨_, rfl, by decide, by decide, ?_⟩
      refine for_range (lo := 0) (n := 7) (fun i σ H4 => ∃ (z : Str) (x8 : Option V), σ = [some (.ref b), some (.int (m : Int)), some (.str abc), some (.int (way : Int)), some (.int (cut : Int)), some (.int (bg : Int)), some (.int (st : Int)), some (.str z), x8, none, none, none] ∧ LowZ z ∧ z.length = i ∧ BoxAt H4 b (n + 4 + i) ∧ But b H H4) ?_ ?_ ?_
      · exact ⟨"", none, rfl, (fun c h => nomatch h), rfl, B3, k3⟩
      · rintro i σ H4 hi ⟨z, x8, rfl, hz, hl, B4, k4⟩
        refine ⟨_, rfl, _, rfl, _, rfl, b, 26, n + 4 + i, rfl, B4, by omega, by decide, by decide, fun r H5 r0 r1 B5 k5 => ?_⟩
        obtain ⟨j, rfl, hj⟩ := draw_at (n := 26) r0 r1 rfl
        obtain ⟨c, hc, c97⟩ := abc_at hj
        refine ⟨_, _, c, rfl, rfl, by omega, by omega, (show ((j : Nat) : Int) < ((26 : Nat) : Int) by omega), hc, ?_⟩
        refine ⟨_, _, rfl, rfl, ?_, ?_⟩
        · show z.length + 1 ≤ sizeLine
          rw [sizeLine_eq]
          omega
        · refine ⟨z ++ ⟨#[c]⟩, _, rfl, hz.app (low_one c97), ?_, B5, k4.trans k5⟩
          rw [app_len, hl]
          rfl
      · rintro σ H4 ⟨z, x8, rfl, hz, hl, B4, k4⟩
        -- from here on two ways
        have namesOf : ∀ (zs : List Str) (qs : List Vd), qs.Perm (zs.map fun z => (V.str z, PyData.str z)) → (∀ z ∈ zs, NameZ z) →
            ∃ ys : List Str, qs.map (·.1) = ys.map V.str ∧ ys.length = zs.length ∧ ∀ y ∈ ys, NameZ y := fun zs qs pm hz => by
          have each : ∀ x ∈ qs, ∃ y, x = (V.str y, PyData.str y) ∧ NameZ y := fun x hx => by
            obtain ⟨y, hy, e⟩ := List.mem_map.mp (pm.mem_iff.mp hx)
            exact ⟨y, e.symm, hz y hy⟩
          have hlen : qs.length = zs.length := by
            rw [pm.length_eq, List.length_map]
          rw [← hlen]
          clear pm hlen
          induction qs with
          | nil => exact ⟨[], rfl, rfl, fun y hy => nomatch hy⟩
          | cons x qs ih =>
            obtain ⟨y, rfl, hy⟩ := each x List.mem_cons_self
            obtain ⟨ys, e1, e2, e3⟩ := ih fun x hx => each x (List.mem_cons_of_mem _ hx)
            refine ⟨y :: ys, ?_, congrArg (· + 1) e2, fun u hu => ?_⟩
            · rw [List.map_cons, e1]
              rfl
            · rcases List.mem_cons.mp hu with rfl | hu
              · exact hy
              · exact e3 u hu
        have mInt : (m : Int).toNat = m := Int.toNat_natCast m
        refine ⟨_, rfl, rfl, _, rfl, ite2 (fun _ => ?_) (fun _ => ?_)⟩
        · refine ⟨_, rfl, _, _, rfl, rfl, _, rfl, ite2 (fun h9 => ?_) (fun _ => ?_)⟩
          · have hm9 : (m : Int) < 9 := of_decide_eq_true h9
            refine ⟨_, rfl, _, rfl, _, rfl, by omega, by omega, fun D hD => ?_⟩
            have nD := box_ne B4 hD
            have fD := free_of k4 nD hD
            rw [mInt]
            refine lc_range (lo := 0) (n := m) (fun i H5 => ∃ ys : List Str, H5 D = some (.lst (ys.map V.str)) ∧ ys.length = i ∧ (∀ y ∈ ys, NameZ y) ∧ BoxAt H5 b (n + 11) ∧ But b H H5) ?_ ?_ ?_
            · exact ⟨[], upd_same, rfl, (fun y h => nomatch h), box_new B4 hD, but_upd k4 fD⟩
            · rintro i H5 hi ⟨ys, e5, hl5, hy, B5, k5⟩
              refine ⟨rfl, ?_⟩
              unfold tYes
              dsimp only
              rw [if_pos rfl]
              obtain ⟨c, hc, c97⟩ := abc_at hbg
              refine ⟨_, rfl, _, rfl, _, rfl, _, _, c, rfl, rfl, by omega, by omega, (show ((bg : Nat) : Int) < ((26 : Nat) : Int) by omega), hc, _, _, rfl, rfl, ?_, ?_⟩
              · show z.length + 1 ≤ sizeLine
                rw [sizeLine_eq]
                omega
              have lz : (z ++ ⟨#[c]⟩).length = 8 := by
                rw [app_len, hl]
                rfl
              refine ⟨_, rfl, _, _, rfl, rfl, _, rfl, _, rfl, small_size (by omega), ?_⟩
              have e0 : (0 + (i : Int) + 1 : Int) = ((i + 1 : Nat) : Int) := by omega
              rw [e0]
              have cl := cut_len (z ++ ⟨#[c]⟩) (i + 1)
              refine ⟨_, e5, ?_, ys ++ [cutS (z ++ ⟨#[c]⟩) none (some ((i + 1 : Nat) : Int))], ?_, ?_, ?_, ?_, ?_⟩
              · rw [List.length_map]
                exact small1000 (by omega)
              · rw [upd_same, List.map_append]
                rfl
              · rw [List.length_append, hl5]
                rfl
              · intro y h
                rcases List.mem_append.mp h with h | h
                · exact hy y h
                · rw [List.mem_singleton.mp h]
                  exact ⟨(hz.app (low_one c97)).cut _ _, by omega, by omega⟩
              · exact box_upd B5 nD
              · exact but_upd k5 fD
            · rintro H5 ⟨ys, e5, hl5, hy, B5, k5⟩
              refine ⟨b, D, n + 11, ys.map fun z => (V.str z, PyData.str z), rfl, B5, ?_, .inl (.of ?_), ?_, fun p H6 qs pm np e6 B6 k6 => ?_⟩
              · rw [List.length_map]
                omega
              · rw [e5, List.map_map]
                rfl
              · intro x hx
                obtain ⟨y, hyy, rfl⟩ := List.mem_map.mp hx
                exact ⟨(hy y hyy).1.lay, fun H' _ => .str y⟩
              · obtain ⟨us, u1, u2, u3⟩ := namesOf ys qs pm hy
                rw [u1] at e6
                rw [List.length_map, hl5] at B6
                exact q p H6 us (u2.trans hl5) u3 (free_of k5 (box_ne B5 np) np) e6 B6 (k5.trans k6)
          · exact qsl way cut bg st z x8 H4 hcut hcut2 hbg hst17 hz hl B4 k4
        · exact qsl way cut bg st z x8 H4 hcut hcut2 hbg hst17 hz hl B4 k4
    refine ⟨_, pss_cons (ps_set (i := 2) scNames.nd rfl (.inr rfl) pe_str)
      (pss_cons (ps_asg (pe_tup (pa_cons (pe_call GT hr1 rfl gT T.kp bT .nil pass0 (pa_cons (pv 0) (pa_cons pe_int pa_nil)))
          (pa_cons (pe_call GT hr1 rfl gT T.kp bT .nil pass0 (pa_cons (pv 0) (pa_cons (pe_ifExp (pt_cmpR op_lt (pv 1) pe_int (nomark _)) pe_int pe_int) pa_nil)))
          (pa_cons (pe_call GT hr1 rfl gT T.kp bT .nil pass0 (pa_cons (pv 0) (pa_cons pe_int pa_nil))) pa_nil))))
        (pg_tup (by rfl) (pgs_cons (pg_name (i := 3) scNames.nd rfl (.inl rfl)) (pgs_cons (pg_name (i := 4) scNames.nd rfl (.inl rfl)) (pgs_cons (pg_name (i := 5) scNames.nd rfl (.inr rfl)) pgs_nil))))) pl), ?_⟩
    refine ⟨_, rfl, b, 4, n, rfl, B, by omega, by decide, by decide, fun way H1 w0 w1 B1 k1 => ?_⟩
    obtain ⟨way, rfl, _⟩ := draw_at (n := 4) w0 w1 rfl
    refine ⟨_, rfl, _, rfl, _, _, rfl, rfl, _, rfl, ite2 (fun hm27 => ?_) (fun hm27 => ?_)⟩
    · refine ⟨b, 8, n + 1, rfl, B1, by omega, by decide, by decide, fun cut H2 c0 c1 B2 k2 => ?_⟩
      obtain ⟨cut, rfl, hcut⟩ := draw_at (n := 8) c0 c1 rfl
      refine ⟨_, rfl, b, 26, n + 2, rfl, B2, by omega, by decide, by decide, fun bg H3 g0 g1 B3 k3 => ?_⟩
      obtain ⟨bg, rfl, hbg⟩ := draw_at (n := 26) g0 g1 rfl
      refine ⟨(by show 3 ≤ sizeLine; decide), fun p hp => ⟨p, _, rfl, .of upd_same, rfl, _, _, rfl, _, _, rfl, _, _, rfl, rfl, ?_⟩⟩
      have hm' : (m : Int) < 27 := of_decide_eq_true hm27
      exact ql way cut bg _ (by omega) (by omega) hbg (box_new B3 hp) (((k1.trans k2).trans k3).trans (But.new hp))
    · refine ⟨b, 7, n + 1, rfl, B1, by omega, by decide, by decide, fun cut H2 c0 c1 B2 k2 => ?_⟩
      obtain ⟨cut, rfl, hcut⟩ := draw_at (n := 7) c0 c1 rfl
      refine ⟨_, rfl, b, 26, n + 2, rfl, B2, by omega, by decide, by decide, fun bg H3 g0 g1 B3 k3 => ?_⟩
      obtain ⟨bg, rfl, hbg⟩ := draw_at (n := 26) g0 g1 rfl
      refine ⟨(by show 3 ≤ sizeLine; decide), fun p hp => ⟨p, _, rfl, .of upd_same, rfl, _, _, rfl, _, _, rfl, _, _, rfl, rfl, ?_⟩⟩
      exact ql way cut bg _ (by omega) (by omega) hbg (box_new B3 hp) (((k1.trans k2).trans k3).trans (But.new hp))
end
end G
set_option Elab.async false
set_option linter.all false
set_option maxRecDepth 100000
set_option maxHeartbeats 2000000
/-! V5: a drawn number, a drawn value of some fields. -/
namespace G
open PySem PySem.Spec PyProof.Rows L2
abbrev sNumber : Stmt := topS 63
abbrev sValue : Stmt := topS 64
theorem scNumber : FnScope ["_law_box_here", "_law_some"] ["_law_box_here"] (defScope sNumber) := ⟨rfl, rfl, rfl, by decide +kernel, rfl, by decide +kernel, by decide +kernel⟩
theorem scValue : FnScope ["_law_box_here", "_law_fields", "_law_found", "_law_part"] ["_law_box_here", "_law_fields"] (defScope sValue) := ⟨rfl, rfl, rfl, by decide +kernel, rfl, by decide +kernel, by decide +kernel⟩
def spNumber : Sp := fun vs H Q _ => ∃ (b : Addr) (n : Nat), vs = [.ref b] ∧ BoxAt H b n ∧ n ≤ 90000 ∧ ∀ (i : Int) (H' : Hp), -999 ≤ i → i ≤ 999 → BoxAt H' b (n + 3) → But b H H' → Q (.int i) H'
/-- some of the fields, each with a number -/
def ValN (zs : List Str) (kvs : List (Key × V)) : Prop := ∀ p ∈ kvs, ∃ z i, p = (Sum.inr z, V.int i) ∧ z ∈ zs ∧ -999 ≤ i ∧ i ≤ 999
def spValue (K : PySem.W.Frag) : Sp := fun vs H Q _ => ∃ (b a : Addr) (n : Nat) (zs : List Str), vs = [.ref b, .ref a] ∧ BoxAt H b n ∧ n ≤ 80000 ∧ H a = some (.lst (zs.map V.str)) ∧ (∀ z ∈ zs, NameZ z) ∧ 1 ≤ zs.length ∧ zs.length ≤ 100 ∧ a ≠ b ∧
  ∀ (p : Addr) (H' : Hp) (kvs : List (Key × V)), H p = none → H' p = some (.dK kvs) → (kvs.map (·.1)).Nodup → ValN zs kvs → 1 ≤ kvs.length → kvs.length ≤ 6 → kvs.length ≤ zs.length → BoxAt H' b (n + 201 + 3 * 6) → But b H H' → Q (.ref p) H'
/-- an order of texts is made of these texts -/
theorem texts_of : ∀ {zs : List Str} {qs : List Vd}, qs.Perm (zs.map fun z => (V.str z, PyData.str z)) → ∃ ys : List Str, qs.map (·.1) = ys.map V.str ∧ ys.length = zs.length ∧ ∀ y ∈ ys, y ∈ zs := by
  intro zs qs pm
  have each : ∀ x ∈ qs, ∃ y, x = (V.str y, PyData.str y) ∧ y ∈ zs := fun x hx => by
    obtain ⟨y, hy, e⟩ := List.mem_map.mp (pm.mem_iff.mp hx)
    exact ⟨y, e.symm, hy⟩
  have hlen : qs.length = zs.length := by
    rw [pm.length_eq, List.length_map]
  rw [← hlen]
  clear pm hlen
  induction qs with
  | nil => exact ⟨[], rfl, rfl, fun y hy => nomatch hy⟩
  | cons x qs ih =>
    obtain ⟨y, rfl, hy⟩ := each x List.mem_cons_self
    obtain ⟨ys, e1, e2, e3⟩ := ih fun x hx => each x (List.mem_cons_of_mem _ hx)
    refine ⟨y :: ys, ?_, congrArg (· + 1) e2, fun u hu => ?_⟩
    · rw [List.map_cons, e1]
      rfl
    · rcases List.mem_cons.mp hu with rfl | hu
      · exact hy
      · exact e3 u hu
theorem mem_putK {kvs : List (Key × V)} {k : Key} {v : V} {p : Key × V} (h : p ∈ putK kvs k v) : p = (k, v) ∨ p ∈ kvs := by
  unfold putK at h
  split at h
  · obtain ⟨q, hq, e⟩ := List.mem_map.mp h
    by_cases z : q.1 = k
    · rw [if_pos z] at e
      left
      rw [← e, z]
    · rw [if_neg z] at e
      right
      rw [← e]
      exact hq
  · rcases List.mem_append.mp h with h | h
    · exact .inr h
    · exact .inl (List.mem_singleton.mp h)
theorem putK_pos (kvs : List (Key × V)) (k : Key) (v : V) : 1 ≤ (putK kvs k v).length := by
  unfold putK
  split
  · rename_i h
    obtain ⟨x, hx, _⟩ := List.any_eq_true.mp h
    rw [List.length_map]
    exact List.length_pos_of_mem hx
  · rw [List.length_append]
    exact Nat.le_add_left 1 _
theorem ValN.put {zs : List Str} {kvs : List (Key × V)} (h : ValN zs kvs) {z : Str} {i : Int} (hz : z ∈ zs) (h1 : -999 ≤ i) (h2 : i ≤ 999) : ValN zs (putK kvs (Sum.inr z) (.int i)) := fun p hp => by
  rcases mem_putK hp with e | hp
  · exact ⟨z, i, e, hz, h1, h2⟩
  · exact h p hp
theorem cutV_first (xs : List V) (k : Nat) (h : k ≤ xs.length) : cutV xs none (some (k : Int)) = xs.take k := by
  unfold cutV
  rw [HT.sIx_none, HT.sIx_nat, List.drop_zero, Nat.min_eq_left h, Nat.sub_zero]
section
variable {P : Program} {w : World} {K : PySem.W.Frag} {mg : Str → Option Value} {base : Heap}
theorem ok_number {f fT : Addr} {fd fdT : FuncData} (F : Fun K "_law_number" "_law_number" sNumber f fd) (T : Fun K "_law_take" "_law_take" sTake fT fdT) (bT : Binds K fdT ["_law_box_here", "_law_many"] []) (gT : mg "_law_take" = some (.ref fT)) :
    FnOk P w K mg base CX0 2 f fd ["_law_box_here"] spNumber := by
  have GT : FnOk P w K mg base CX0 1 fT fdT ["_law_box_here", "_law_many"] spTake := ok_take T
  refine F.ok scNumber (fun vs H Q E h => ?_) (fun cdv A outer s H vs Q E hr h => ?_)
  · obtain ⟨b, n, rfl, _⟩ := h
    rfl
  · obtain ⟨b, n, rfl, B, hn, q⟩ := h
    refine ⟨_, pss_cons (ps_set (i := 1) scNumber.nd rfl (.inl rfl) (pe_lst (pa_cons pe_int (pa_cons pe_int (pa_cons (pe_un un_neg pe_int) (pa_cons pe_int (pa_cons pe_int (pa_cons (pe_un un_neg pe_int)
        (pa_cons (pe_op op_sub (pe_call GT hr rfl gT T.kp bT .nil pass0 (pa_cons (pv 0) (pa_cons pe_int pa_nil))) pe_int) (pa_cons (pe_op op_sub (pe_call GT hr rfl gT T.kp bT .nil pass0 (pa_cons (pv 0) (pa_cons pe_int pa_nil))) pe_int) pa_nil))))))))))
      (pss_one (ps_ret (pe_ix ix_list (pv 1) (pe_call GT hr rfl gT T.kp bT .nil pass0 (pa_cons (pv 0) (pa_cons pe_int pa_nil))) (fun _ _ => rfl)))), ?_⟩
    refine ⟨_, rfl, _, rfl, _, rfl, b, 21, n, rfl, B, by omega, by decide, by decide, fun r1 H1 a0 a1 B1 k1 => ⟨_, _, rfl, rfl, _, rfl, b, 1999, n + 1, rfl, B1, by omega, by decide, by decide, fun r2 H2 c0 c1 B2 k2 => ⟨_, _, rfl, rfl, (by show 8 ≤ sizeLine; decide), fun p hp => ?_⟩⟩⟩
    have np := box_ne B2 hp
    refine ⟨_, rfl, _, rfl, b, 8, n + 2, rfl, box_new B2 hp, by omega, by decide, by decide, fun r3 H3 d0 d1 B3 k3 => ?_⟩
    obtain ⟨j, rfl, hj⟩ := draw_at (n := 8) d0 d1 rfl
    have e3 := k3 _ _ np upd_same
    obtain ⟨i, hi, h1, h2⟩ : ∃ i : Int, ([.int 0, .int 1, .int (-1), .int 2, .int 999, .int (-999), .int (r1 - 10), .int (r2 - 999)] : List V)[j]? = some (.int i) ∧ -999 ≤ i ∧ i ≤ 999 := by
      match j, hj with
      | 0, _ => exact ⟨0, rfl, by decide, by decide⟩
      | 1, _ => exact ⟨1, rfl, by decide, by decide⟩
      | 2, _ => exact ⟨-1, rfl, by decide, by decide⟩
      | 3, _ => exact ⟨2, rfl, by decide, by decide⟩
      | 4, _ => exact ⟨999, rfl, by decide, by decide⟩
      | 5, _ => exact ⟨-999, rfl, by decide, by decide⟩
      | 6, _ => exact ⟨r1 - 10, rfl, by omega, by omega⟩
      | 7, _ => exact ⟨r2 - 999, rfl, by omega, by omega⟩
    exact ⟨p, _, _, .int i, rfl, rfl, .of e3, atI_nat hi, q i H3 h1 h2 B3 (((k1.trans k2).trans (But.new hp)).trans k3)⟩
theorem ok_value {f fT fM fN : Addr} {fd fdT fdM fdN : FuncData} (F : Fun K "_law_value" "_law_value" sValue f fd) (T : Fun K "_law_take" "_law_take" sTake fT fdT) (bT : Binds K fdT ["_law_box_here", "_law_many"] []) (gT : mg "_law_take" = some (.ref fT))
    (M : Fun K "_law_mixed" "_law_mixed" sMixed fM fdM) (bM : Binds K fdM ["_law_box_here", "_law_some"] []) (gM : mg "_law_mixed" = some (.ref fM))
    (Nm : Fun K "_law_number" "_law_number" sNumber fN fdN) (bN : Binds K fdN ["_law_box_here"] []) (gN : mg "_law_number" = some (.ref fN)) (ml : mg "len" = none) (mL : mg "list" = none) (mm : mg "min" = none) :
    FnOk P w K mg base CX0 3 f fd ["_law_box_here", "_law_fields"] (spValue K) := by
  have GT : FnOk P w K mg base CX0 1 fT fdT ["_law_box_here", "_law_many"] spTake := ok_take T
  have GM : FnOk P w K mg base CX0 2 fM fdM ["_law_box_here", "_law_some"] (spMixed K) := ok_mixed M T bT gT ml mL
  have GN : FnOk P w K mg base CX0 2 fN fdN ["_law_box_here"] spNumber := ok_number Nm T bT gT
  refine F.ok scValue (fun vs H Q E h => ?_) (fun cdv A outer s H vs Q E hr h => ?_)
  · obtain ⟨b, a, n, zs, rfl, _⟩ := h
    rfl
  · obtain ⟨b, a, n, zs, rfl, B, hn, hS, hz, l1, l100, nab, q⟩ := h
    have hr1 := hr.mono (show 1 ≤ 2 by decide)
    have hu := hu_of hr
    refine ⟨_, pss_cons (ps_set (i := 2) scValue.nd rfl (.inl rfl) pe_dnewK)
      (pss_cons (ps_for PassesOwn.never rfl (pi_list (pe_slice sl_list (pe_call GM hr rfl gM M.kp bM .nil pass0 (pa_cons (pv 0) (pa_cons (pv 1) pa_nil))) po_none
          (po_some (pe_op op_add pe_int (pe_call GT hr1 rfl gT T.kp bT .nil pass0 (pa_cons (pv 0) (pa_cons (pe_callB (call_min2 rfl) (by rfl) mm (by decide +kernel) (pa_cons pe_int (pa_cons (pe_callB call_len_seq (by rfl) ml PySem.boot_len (pa_cons (pv 1) pa_nil)) pa_nil))) pa_nil)))))))
        (pg_name (i := 3) scValue.nd rfl (.inl rfl))
        (pss_one (ps_dput hu (pv 2) (pv 3) (pe_call GN hr rfl gN Nm.kp bN .nil pass0 (pa_cons (pv 0) pa_nil)) rfl)))
      (pss_one (ps_ret (pv 2)))), ?_⟩
    intro d hd
    have nd := box_ne B hd
    refine ⟨_, rfl, _, rfl, b, a, n, zs.map fun z => (V.str z, PyData.str z), rfl, box_new B hd, ?_, .inl ?_, ?_, fun p H1 qs pm np e1 B1 k1 => ?_⟩
    · rw [List.length_map]
      omega
    · refine .of ?_
      rw [upd_ne (ne_of_none hS hd), hS, List.map_map]
      rfl
    · intro x hx
      obtain ⟨y, hyy, rfl⟩ := List.mem_map.mp hx
      exact ⟨(hz y hyy).1.lay, fun H' _ => .str y⟩
    · obtain ⟨ys, y1, y2, y3⟩ := texts_of pm
      rw [y1] at e1
      rw [List.length_map] at B1
      have nda : a ≠ d := ne_of_none hS hd
      have ea1 : H1 a = some (.lst (zs.map V.str)) := k1 _ _ nab ((upd_ne nda).trans hS)
      have ed1 : H1 d = some (.dK []) := k1 _ _ nd upd_same
      have kk1 : But b H H1 := (But.new hd).trans k1
      have npb : p ≠ b := by
        obtain ⟨x, y, z, e, _⟩ := B
        exact box_ne (box_new ⟨x, y, z, e, ‹_›⟩ hd) np
      have fp : H p = none := by
        by_cases z : p = d
        · rw [z] at np
          rw [upd_same] at np
          cases np
        · rwa [upd_ne z] at np
      have hmin : ∃ mn : Nat, (if ((List.map V.str zs).length : Int) < 6 then ((List.map V.str zs).length : Int) else 6) = (mn : Int) ∧ 1 ≤ mn ∧ mn ≤ 6 ∧ mn ≤ zs.length := by
        rw [List.length_map]
        by_cases h : (zs.length : Int) < 6
        · exact ⟨zs.length, if_pos h, l1, by omega, Nat.le_refl _⟩
        · exact ⟨6, if_neg h, by decide, by decide, by omega⟩
      obtain ⟨mn, emn, mn1, mn6, mnl⟩ := hmin
      refine ⟨_, rfl, _, rfl, a, _, rfl, .inl (.of ea1), _, _, rfl, ?_⟩
      rw [emn]
      refine ⟨b, mn, n + zs.length, rfl, B1, by omega, by omega, by omega, fun r H2 r0 r1 B2 k2 => ?_⟩
      obtain ⟨j, rfl, hj⟩ := draw_at (n := mn) r0 r1 rfl
      have e2 := k2 _ _ npb e1
      have ed2 := k2 _ _ nd ed1
      refine ⟨_, _, rfl, rfl, _, rfl, p, _, rfl, .of e2, fun p2 np2 => ?_⟩
      have ej : (1 + (j : Int) : Int) = ((1 + j : Nat) : Int) := by omega
      rw [ej, cutV_first _ (1 + j) (by rw [List.length_map]; omega), ← List.map_take]
      have nb2 := box_ne B2 np2
      have nd2 : d ≠ p2 := ne_of_none ed2 np2
      have kk2 : But b H H2 := kk1.trans k2
      have f2 : H p2 = none := free_of kk2 nb2 np2
      refine ⟨p2, rfl, ⟨_, .of upd_same⟩, ?_⟩
      have tl : ((ys.take (1 + j)).map V.str).length = 1 + j := by
        rw [List.length_map, List.length_take]
        omega
      refine for_list (xs := (ys.take (1 + j)).map V.str) (fun i σ H3 => ∃ (kvs : List (Key × V)) (x3 : Option V), σ = [some (.ref b), some (.ref a), some (.ref d), x3] ∧ H3 d = some (.dK kvs) ∧ (kvs.map (·.1)).Nodup ∧ ValN zs kvs ∧ kvs.length ≤ i ∧ (1 ≤ i → 1 ≤ kvs.length) ∧
        H3 p2 = some (.lst ((ys.take (1 + j)).map V.str)) ∧ BoxAt H3 b (n + zs.length + 1 + 3 * i) ∧ But b H H3) ?_ ?_ ?_ ?_
      · refine ⟨[], none, rfl, (upd_ne nd2).trans ed2, List.Pairwise.nil, (fun x hx => nomatch hx), Nat.le_refl _, (fun h => absurd h (by decide)), upd_same, box_new B2 np2, but_upd kk2 f2⟩
      · rintro i σ H3 _ ⟨kvs, x3, rfl, _, _, _, _, _, e3, _, _⟩
        exact .of e3
      · rintro i x σ H3 hx ⟨kvs, x3, rfl, ed3, nn3, v3, len3, pos3, e3, B3, k3⟩
        have hi : i < 1 + j := by
          rw [← tl]
          exact (List.getElem?_eq_some_iff.mp hx).1
        rw [List.getElem?_map] at hx
        obtain ⟨y, hy, rfl⟩ := Option.map_eq_some_iff.mp hx
        have hyz : y ∈ zs := y3 y (List.mem_of_mem_take (List.mem_of_getElem? hy))
        refine ⟨_, rfl, b, n + zs.length + 1 + 3 * i, rfl, B3, by omega, fun v H4 v0 v1 B4 k4 => ?_⟩
        have ed4 := k4 _ _ nd ed3
        have e4 := k4 _ _ nb2 e3
        refine ⟨_, rfl, _, rfl, d, _, rfl, DPut.k (k := Sum.inr y) ed4 (small1000 (by omega)), ?_⟩
        refine ⟨putK kvs (Sum.inr y) (.int v), _, rfl, upd_same, nodup_put nn3 _ _, v3.put hyz v0 v1, ?_, fun _ => putK_pos _ _ _, (upd_ne nd2.symm).trans e4, (box_upd B4 nd).mono (by omega), but_upd (k3.trans k4) hd⟩
        have := length_putK kvs (Sum.inr y) (.int v)
        omega
      · rintro σ H3 ⟨kvs, x3, rfl, ed3, nn3, v3, len3, pos3, e3, B3, k3⟩
        rw [tl] at len3 pos3 B3
        refine ⟨_, rfl, q d H3 kvs hd ed3 nn3 v3 (pos3 (by omega)) (by omega) (by omega) (B3.mono (by omega)) k3⟩
end
end G
set_option Elab.async false
set_option linter.all false
set_option maxRecDepth 100000
set_option maxHeartbeats 2000000
/-! P0: isinstance by the kind of a thing. -/
namespace G
open PySem PySem.Spec PyProof.Rows L2
def isI : PyData → Bool
  | .int _ => true
  | .bool _ => true
  | _ => false
def isB : PyData → Bool
  | .bool _ => true
  | _ => false
def isTup : PyData → Bool
  | .tuple _ => true
  | _ => false
def isLst : PyData → Bool
  | .list _ => true
  | _ => false
def isDic : PyData → Bool
  | .dict _ => true
  | _ => false
theorem kit_i {K : PySem.W.Frag} : ∀ d : PyData, PySem.W.kitOne K (.type (tyN d)) (.type "int") = some (isI d)
  | .none => kit_ty (a := "NoneType") (b := "int") (r := false) (by decide +kernel)
  | .bool _ => kit_ty (a := "bool") (b := "int") (r := true) (by decide +kernel)
  | .int _ => kit_ty (a := "int") (b := "int") (r := true) (by decide +kernel)
  | .str _ => kit_ty (a := "str") (b := "int") (r := false) (by decide +kernel)
  | .list _ => kit_ty (a := "list") (b := "int") (r := false) (by decide +kernel)
  | .tuple _ => kit_ty (a := "tuple") (b := "int") (r := false) (by decide +kernel)
  | .dict _ => kit_ty (a := "dict") (b := "int") (r := false) (by decide +kernel)
theorem kit_b {K : PySem.W.Frag} : ∀ d : PyData, PySem.W.kitOne K (.type (tyN d)) (.type "bool") = some (isB d)
  | .none => kit_ty (a := "NoneType") (b := "bool") (r := false) (by decide +kernel)
  | .bool _ => kit_ty (a := "bool") (b := "bool") (r := true) (by decide +kernel)
  | .int _ => kit_ty (a := "int") (b := "bool") (r := false) (by decide +kernel)
  | .str _ => kit_ty (a := "str") (b := "bool") (r := false) (by decide +kernel)
  | .list _ => kit_ty (a := "list") (b := "bool") (r := false) (by decide +kernel)
  | .tuple _ => kit_ty (a := "tuple") (b := "bool") (r := false) (by decide +kernel)
  | .dict _ => kit_ty (a := "dict") (b := "bool") (r := false) (by decide +kernel)
theorem kit_t {K : PySem.W.Frag} : ∀ d : PyData, PySem.W.kitOne K (.type (tyN d)) (.type "tuple") = some (isTup d)
  | .none => kit_ty (a := "NoneType") (b := "tuple") (r := false) (by decide +kernel)
  | .bool _ => kit_ty (a := "bool") (b := "tuple") (r := false) (by decide +kernel)
  | .int _ => kit_ty (a := "int") (b := "tuple") (r := false) (by decide +kernel)
  | .str _ => kit_ty (a := "str") (b := "tuple") (r := false) (by decide +kernel)
  | .list _ => kit_ty (a := "list") (b := "tuple") (r := false) (by decide +kernel)
  | .tuple _ => kit_ty (a := "tuple") (b := "tuple") (r := true) (by decide +kernel)
  | .dict _ => kit_ty (a := "dict") (b := "tuple") (r := false) (by decide +kernel)
theorem kit_l {K : PySem.W.Frag} : ∀ d : PyData, PySem.W.kitOne K (.type (tyN d)) (.type "list") = some (isLst d)
  | .none => kit_ty (a := "NoneType") (b := "list") (r := false) (by decide +kernel)
  | .bool _ => kit_ty (a := "bool") (b := "list") (r := false) (by decide +kernel)
  | .int _ => kit_ty (a := "int") (b := "list") (r := false) (by decide +kernel)
  | .str _ => kit_ty (a := "str") (b := "list") (r := false) (by decide +kernel)
  | .list _ => kit_ty (a := "list") (b := "list") (r := true) (by decide +kernel)
  | .tuple _ => kit_ty (a := "tuple") (b := "list") (r := false) (by decide +kernel)
  | .dict _ => kit_ty (a := "dict") (b := "list") (r := false) (by decide +kernel)
theorem kit_d {K : PySem.W.Frag} : ∀ d : PyData, PySem.W.kitOne K (.type (tyN d)) (.type "dict") = some (isDic d)
  | .none => kit_ty (a := "NoneType") (b := "dict") (r := false) (by decide +kernel)
  | .bool _ => kit_ty (a := "bool") (b := "dict") (r := false) (by decide +kernel)
  | .int _ => kit_ty (a := "int") (b := "dict") (r := false) (by decide +kernel)
  | .str _ => kit_ty (a := "str") (b := "dict") (r := false) (by decide +kernel)
  | .list _ => kit_ty (a := "list") (b := "dict") (r := false) (by decide +kernel)
  | .tuple _ => kit_ty (a := "tuple") (b := "dict") (r := false) (by decide +kernel)
  | .dict _ => kit_ty (a := "dict") (b := "dict") (r := true) (by decide +kernel)
def isS : PyData → Bool
  | .str _ => true
  | _ => false
theorem kit_s {K : PySem.W.Frag} : ∀ d : PyData, PySem.W.kitOne K (.type (tyN d)) (.type "str") = some (isS d)
  | .none => kit_ty (a := "NoneType") (b := "str") (r := false) (by decide +kernel)
  | .bool _ => kit_ty (a := "bool") (b := "str") (r := false) (by decide +kernel)
  | .int _ => kit_ty (a := "int") (b := "str") (r := false) (by decide +kernel)
  | .str _ => kit_ty (a := "str") (b := "str") (r := true) (by decide +kernel)
  | .list _ => kit_ty (a := "list") (b := "str") (r := false) (by decide +kernel)
  | .tuple _ => kit_ty (a := "tuple") (b := "str") (r := false) (by decide +kernel)
  | .dict _ => kit_ty (a := "dict") (b := "str") (r := false) (by decide +kernel)
/-- isinstance(x, int), by name -/
theorem pt_isi {X : Cx} {y : Str} {py : Pos} {te : TE} {n : Str} {p q pos : Pos} (T : String) (he : PE X (.Name y py) te) (hg : Gl X "isinstance" := by rfl) (hm : X.mg "isinstance" = none) (gn : Gl X n := by rfl) (mn : X.mg n = none) (hv : bootBuiltins n = some (.type T) := by decide +kernel)
    (hn : n ≠ "__name__" := by decide) (hd : (n == ("__debug__" : Str)) = false := by decide) :
    PE X (.Call (.Name "isinstance" p) [.Name y py, .Name n q] [] pos) (tCB (rIsi X.K) (tCons te (tCons (tC (.ty T)) tNil))) :=
  pe_callB call_isi hg hm (by decide +kernel) (pa_cons he (pa_cons (pe_bltn gn mn hv rfl hn hd) pa_nil))

end G
set_option Elab.async false
set_option linter.all false
set_option maxRecDepth 100000
set_option maxHeartbeats 2000000
/-! W1: checks that pass. -/
namespace G
open PySem PySem.Spec PyProof.Rows L2 NdefX
abbrev sIsInt : Stmt := topS 23
abbrev sIsName : Stmt := topS 24
abbrev sIsValue : Stmt := topS 25
abbrev sNeedName : Stmt := topS 33
abbrev sNeedValue : Stmt := topS 34
abbrev sNeedRecord : Stmt := topS 35
theorem scIsInt : FnScope ["value", "low", "high"] ["value", "low", "high"] (defScope sIsInt) := ⟨rfl, rfl, rfl, by decide +kernel, rfl, by decide +kernel, by decide +kernel⟩
theorem scIsName : FnScope ["value", "letter"] ["value"] (defScope sIsName) := ⟨rfl, rfl, rfl, by decide +kernel, rfl, by decide +kernel, by decide +kernel⟩
theorem scNeedName : FnScope ["value"] ["value"] (defScope sNeedName) := ⟨rfl, rfl, rfl, by decide +kernel, rfl, by decide +kernel, by decide +kernel⟩
theorem scIsValue : FnScope ["value", "field"] ["value"] (defScope sIsValue) := ⟨rfl, rfl, rfl, by decide +kernel, rfl, by decide +kernel, by decide +kernel⟩
theorem scNeedValue : FnScope ["value"] ["value"] (defScope sNeedValue) := ⟨rfl, rfl, rfl, by decide +kernel, rfl, by decide +kernel, by decide +kernel⟩
theorem scNeedRecord : FnScope ["key", "value"] ["key", "value"] (defScope sNeedRecord) := ⟨rfl, rfl, rfl, by decide +kernel, rfl, by decide +kernel, by decide +kernel⟩
/-- a record's value, of some names -/
structure ValOk (zs : List Str) (kvs : List (Key × V)) : Prop where
  nm : ∀ z ∈ zs, NameZ z
  is : ValN zs kvs
  pos : 1 ≤ kvs.length
  six : kvs.length ≤ 6
theorem valV_of {zs : List Str} {kvs : List (Key × V)} (h : ValN zs kvs) {i : Nat} {k : Key} {v : V} (e : kvs[i]? = some (k, v)) : ∃ (z : Str) (n : Int), k = Sum.inr z ∧ z ∈ zs ∧ valV kvs k = some (.int n) ∧ -999 ≤ n ∧ n ≤ 999 := by
  have hm := List.mem_of_getElem? e
  obtain ⟨z, j, ez, hz, _, _⟩ := h _ hm
  obtain ⟨rfl, _⟩ := Prod.mk.inj ez
  cases q : valV kvs (Sum.inr z) with
  | none =>
    exfalso
    have h2 : (kvs.find? fun kv => decide (kv.1 = (Sum.inr z : Key))) = none := by
      have : Option.map (fun p : Key × V => p.2) (kvs.find? fun kv => decide (kv.1 = (Sum.inr z : Key))) = none := q
      exact Option.map_eq_none_iff.mp this
    have h3 := List.find?_eq_none.mp h2 _ hm
    exact h3 (decide_eq_true rfl)
  | some x =>
    have h2 : Option.map (fun p : Key × V => p.2) (kvs.find? fun kv => decide (kv.1 = (Sum.inr z : Key))) = some x := q
    obtain ⟨p, hp, rfl⟩ := Option.map_eq_some_iff.mp h2
    obtain ⟨z2, n, ep, _, n1, n2⟩ := h p (List.mem_of_find?_eq_some hp)
    rw [ep]
    exact ⟨z, n, rfl, hz, rfl, n1, n2⟩
def spIsInt : Sp := fun vs H Q _ => ∃ v lo hi : Int, vs = [.int v, .int lo, .int hi] ∧ Q (.bl (decide (lo ≤ v) && decide (v ≤ hi))) H
def spIsName : Sp := fun vs H Q _ => ∃ z : Str, vs = [.str z] ∧ NameZ z ∧ ∀ H', Same H H' → Q (.bl true) H'
def spNeedName : Sp := fun vs H Q _ => ∃ z : Str, vs = [.str z] ∧ NameZ z ∧ ∀ H', Same H H' → Q .non H'
def spIsValue : Sp := fun vs H Q _ => ∃ (d : Addr) (zs : List Str) (kvs : List (Key × V)), vs = [.ref d] ∧ H d = some (.dK kvs) ∧ ValOk zs kvs ∧ ∀ H', Same H H' → Q (.bl true) H'
def spNeedValue : Sp := fun vs H Q _ => ∃ (d : Addr) (zs : List Str) (kvs : List (Key × V)), vs = [.ref d] ∧ H d = some (.dK kvs) ∧ ValOk zs kvs ∧ ∀ H', Same H H' → Q .non H'
def spNeedRecord : Sp := fun vs H Q _ => ∃ (y : Str) (d : Addr) (zs : List Str) (kvs : List (Key × V)), vs = [.str y, .ref d] ∧ NameZ y ∧ H d = some (.dK kvs) ∧ ValOk zs kvs ∧ ∀ H', Same H H' → Q .non H'
section
variable {P : Program} {w : World} {K : PySem.W.Frag} {mg : Str → Option Value} {base : Heap}
theorem ok_isint {f : Addr} {fd : FuncData} (F : Fun K "is_integer" "is_integer" sIsInt f fd) (mi : mg "isinstance" = none) (mn : mg "int" = none) (mb : mg "bool" = none) : FnOk P w K mg base CX0 1 f fd ["value", "low", "high"] spIsInt := by
  refine F.ok scIsInt (fun vs H Q E h => ?_) (fun cdv A outer s H vs Q E hr h => ?_)
  · obtain ⟨v, lo, hi, rfl, _⟩ := h
    rfl
  · obtain ⟨v, lo, hi, rfl, q⟩ := h
    refine ⟨_, pss_cons (ps_if (PW.pt (pw_or (pt_not (pt_val (pt_isi "int" (pv 0) (hm := mi) (mn := mn)))) (pw_or1 (pt_val (pt_isi "bool" (pv 0) (hm := mi) (mn := mb)))))) (pss_one (ps_ret pe_bl)) pss_nil)
      (pss_one (ps_ret (pe_chain op_le op_le (pv 1) (pv 0) (pv 2)))), ?_⟩
    have hR : Rp K H (.int v) (.int v) := .int v
    refine ⟨_, rfl, _, _, _, _, _, rfl, .ty _, rp_ty hR, kit_i (.int v), _, rfl, iteF ?_⟩
    refine ⟨_, rfl, _, _, _, _, _, rfl, .ty _, rp_ty hR, kit_b (.int v), _, rfl, iteF ?_⟩
    refine ⟨_, rfl, _, rfl, _, _, rfl, rfl, _, rfl, ?_⟩
    cases e : decide (lo ≤ v) with
    | false =>
      refine iteF ?_
      rw [e] at q
      exact q
    | true =>
      refine iteT ?_
      rw [e] at q
      exact ⟨_, rfl, _, _, rfl, rfl, q⟩
theorem ok_isname {f : Addr} {fd : FuncData} {t1 t2 : Tok} (F : Fun K "is_name" "is_name" sIsName f fd) (gM : mg "MOST_LETTERS" = some (.int 8 t1)) (gL : mg "LETTERS" = some (.str abc t2)) (mi : mg "isinstance" = none) (ms : mg "str" = none) (ml : mg "len" = none) (ma : mg "all" = none) :
    FnOk P w K mg base CX0 1 f fd ["value"] spIsName := by
  refine F.ok scIsName (fun vs H Q E h => ?_) (fun cdv A outer s H vs Q E hr h => ?_)
  · obtain ⟨z, rfl, _⟩ := h
    rfl
  · obtain ⟨z, rfl, ⟨hz, h1, h8⟩, q⟩ := h
    refine ⟨_, pss_cons (ps_if (PW.pt (pw_or (pt_not (pt_val (pt_isi "str" (pv 0) (hm := mi) (mn := ms)))) (pw_or1 (pt_not (pt_chain op_le op_le pe_int (pe_callB call_len_str (by rfl) ml PySem.boot_len (pa_cons (pv 0) pa_nil)) (pe_glob (v := .int 8) rfl gM ⟨_, rfl⟩))))))
        (pss_one (ps_ret pe_bl)) pss_nil)
      (pss_one (ps_ret (pe_callB (cr_all rfl) (by rfl) ma (by decide +kernel) (pa_cons (pe_lc (own := [("letter", 1)]) (g := gName 1) (tt := tYes) (by rfl) scIsName.nd (pi_str (pv 0))
        (blkOk_by (own := [("letter", 1)]) (N := ["value", "letter"]) (sc := defScope sIsName) (by decide +kernel)) (fun _ _ _ _ _ => pg_name (i := 1) scIsName.nd rfl (.inl rfl)) (fun _ _ _ _ _ => pts_nil)
        (fun _ _ _ _ _ => pe_cmpR op_in_sign (pv 1) (pe_glob (v := .str abc) rfl gL ⟨_, rfl⟩) (by rfl))) pa_nil)))), ?_⟩
    have hR : Rp K H (.str z) (.str z) := .str z
    refine ⟨_, rfl, _, _, _, _, _, rfl, .ty _, rp_ty hR, kit_s (.str z), _, rfl, iteF ?_⟩
    refine ⟨_, rfl, z, rfl, small_size (by omega), _, _, rfl, rfl, _, rfl, ?_⟩
    rw [decide_eq_true (show (1 : Int) ≤ (z.length : Int) by omega)]
    refine iteT ⟨_, _, rfl, rfl, _, rfl, ?_⟩
    rw [decide_eq_true (show (z.length : Int) ≤ 8 by omega)]
    refine iteF ?_
    refine ⟨_, rfl, z, rfl, fun D hD => ?_⟩
    refine lc_it walk_str (fun i H2 => Same H H2 ∧ H2 D = some (.lst ((List.replicate i true).map V.bl))) ?_ ?_ ?_ ?_
    · exact ⟨Same.new hD, upd_same⟩
    · exact fun _ _ _ _ => trivial
    · rintro i x H2 H3 hi ⟨s2, e2⟩ ⟨rfl, c, hc, rfl⟩
      have hc2 : (cs z)[i]? = some c := by
        rw [← hc, ← Array.getElem?_toList]
      have hzs : z.cps.size = z.length := rfl
      have c97 := hz c (List.mem_of_getElem? hc2)
      refine ⟨rfl, ?_⟩
      unfold tYes
      dsimp only
      rw [if_pos rfl]
      refine ⟨_, rfl, c, _, rfl, rfl, _, e2, ?_, fun a o e => ?_, ?_⟩
      · rw [List.length_map, List.length_replicate]
        exact Nat.lt_of_lt_of_le hi (small_size (by omega))
      · rw [upd_ne (ne_of_none e hD)]
        exact s2 _ _ e
      · have hin : decide (c ∈ abc.cps.toList) = true := decide_eq_true (by
          have e : abc.cps.toList = (List.range 26).map (97 + ·) := by decide +kernel
          rw [e]
          exact List.mem_map.mpr ⟨c - 97, List.mem_range.mpr (by omega), by omega⟩)
        rw [upd_same, hin, List.replicate_succ', List.map_append]
        rfl
    · rintro H2 ⟨s2, e2⟩
      refine ⟨D, _, rfl, .of e2, ?_⟩
      have ha : (List.replicate z.cps.size true).all id = true := by
        rw [List.all_eq_true]
        intro x hx
        rw [(List.mem_replicate.mp hx).2]
        rfl
      rw [ha]
      exact q H2 s2
theorem ok_needname {f fI : Addr} {fd fdI : FuncData} (F : Fun K "need_name" "need_name" sNeedName f fd) (I : Fun K "is_name" "is_name" sIsName fI fdI) (bI : Binds K fdI ["value"] []) (gI : mg "is_name" = some (.ref fI))
    (GI : FnOk P w K mg base CX0 1 fI fdI ["value"] spIsName) : FnOk P w K mg base CX0 2 f fd ["value"] spNeedName := by
  refine F.ok scNeedName (fun vs H Q E h => ?_) (fun cdv A outer s H vs Q E hr h => ?_)
  · obtain ⟨z, rfl, _⟩ := h
    rfl
  · obtain ⟨z, rfl, hz, q⟩ := h
    refine ⟨_, pss_one (ps_if (pt_not (pt_val (pe_call GI hr rfl gI I.kp bI .nil pass0 (pa_cons (pv 0) pa_nil)))) (pss_one ps_never) pss_nil), ?_⟩
    exact ⟨_, rfl, z, rfl, hz, fun H' s' => ⟨_, rfl, iteF (q H' s')⟩⟩
theorem ok_isvalue {f fN fI : Addr} {fd fdN fdI : FuncData} {t1 t2 : Tok} (F : Fun K "is_value" "is_value" sIsValue f fd) (N : Fun K "is_name" "is_name" sIsName fN fdN) (bN : Binds K fdN ["value"] []) (gN : mg "is_name" = some (.ref fN))
    (GN : FnOk P w K mg base CX0 1 fN fdN ["value"] spIsName) (I : Fun K "is_integer" "is_integer" sIsInt fI fdI) (bI : Binds K fdI ["value", "low", "high"] []) (gI : mg "is_integer" = some (.ref fI)) (GI : FnOk P w K mg base CX0 1 fI fdI ["value", "low", "high"] spIsInt)
    (gM : mg "MOST_FIELDS" = some (.int 6 t1)) (gG : mg "GREATEST" = some (.int 999 t2)) (mi : mg "isinstance" = none) (md : mg "dict" = none) (ml : mg "len" = none) (ma : mg "all" = none) :
    FnOk P w K mg base CX0 2 f fd ["value"] spIsValue := by
  refine F.ok scIsValue (fun vs H Q E h => ?_) (fun cdv A outer s H vs Q E hr h => ?_)
  · obtain ⟨d, zs, kvs, rfl, _⟩ := h
    rfl
  · obtain ⟨d, zs, kvs, rfl, hd, hv, q⟩ := h
    have hu := hu_of hr
    refine ⟨_, pss_cons (ps_if (PW.pt (pw_or (pt_not (pt_val (pt_isi "dict" (pv 0) (hm := mi) (mn := md)))) (pw_or1 (pt_not (pt_chain op_le op_le pe_int (pe_callB call_lenD (by rfl) ml PySem.boot_len (pa_cons (pv 0) pa_nil)) (pe_glob (v := .int 6) rfl gM ⟨_, rfl⟩))))))
        (pss_one (ps_ret pe_bl)) pss_nil)
      (pss_one (ps_ret (pe_callB (cr_all rfl) (by rfl) ma (by decide +kernel) (pa_cons (pe_lock (pe_lc (own := [("field", 1)]) (g := gName 1) (tt := tYes) (by rfl) scIsValue.nd (pi_keys (pv 0))
        (blkOk_by (own := [("field", 1)]) (N := ["value", "field"]) (sc := defScope sIsValue) (by decide +kernel)) (fun _ _ _ _ _ => pg_name (i := 1) scIsValue.nd rfl (.inl rfl)) (fun _ _ _ _ _ => pts_nil)
        (fun _ _ _ _ _ => pe_and (pe_call GN hr rfl gN N.kp bN .nil pass0 (pa_cons (pv 1) pa_nil)) (pe_one (pe_call GI hr rfl gI I.kp bI .nil pass0 (pa_cons (pe_dget hu (pv 0) (pv 1) (fun _ _ => rfl))
          (pa_cons (pe_un un_neg (pe_glob (v := .int 999) rfl gG ⟨_, rfl⟩)) (pa_cons (pe_glob (v := .int 999) rfl gG ⟨_, rfl⟩) pa_nil)))))))) pa_nil)))), ?_⟩
    refine ⟨_, rfl, _, _, _, _, _, rfl, .ty _, .base (.dK hd), kit_ty (a := "dict") (b := "dict") (r := true) (by decide +kernel), _, rfl, iteF ?_⟩
    refine ⟨_, rfl, d, kvs, rfl, hd, ?_⟩
    have h1 := hv.pos
    have h6 := hv.six
    refine ⟨_, _, rfl, rfl, _, rfl, ?_⟩
    rw [decide_eq_true (show (1 : Int) ≤ (kvs.length : Int) by omega)]
    refine iteT ⟨_, _, rfl, rfl, _, rfl, ?_⟩
    rw [decide_eq_true (show (kvs.length : Int) ≤ 6 by omega)]
    refine iteF ?_
    refine ⟨d, _, hd, trivial, fun od => ?_⟩
    refine ⟨_, rfl, d, od, rfl, .inl ⟨kvs, upd_same, fun D hD => ?_⟩⟩
    have ndD : d ≠ D := fun z => by
      rw [← z, upd_same] at hD
      cases hD
    have fD : H D = none := (upd_ne ndD.symm).symm.trans hD
    refine lc_it walk_keys (fun i H2 => But d H H2 ∧ H2 d = some (.frz od (.dK kvs)) ∧ H2 D = some (.lst ((List.replicate i true).map V.bl))) ?_ ?_ ?_ ?_
    · exact ⟨but_upd But.upd fD, (upd_ne ndD).trans upd_same, upd_same⟩
    · exact fun _ _ _ h => h.2.1
    · rintro i x H2 H3 hi ⟨b2, d2, e2⟩ ⟨rfl, k, v, hk, rfl⟩
      obtain ⟨z, n, rfl, hz, hn, n1, n2⟩ := valV_of hv.is hk
      refine ⟨rfl, ?_⟩
      unfold tYes
      dsimp only
      rw [if_pos rfl]
      refine ⟨_, rfl, z, rfl, hv.nm z hz, fun H4 s4 => ⟨_, rfl, iteT ?_⟩⟩
      have d4 := s4 _ _ d2
      have e4 := s4 _ _ e2
      refine ⟨_, rfl, _, rfl, d, .int n, rfl, .inl ⟨kvs, Sum.inr z, .inr ⟨od, d4⟩, rfl, hn.symm⟩, _, rfl, n, -999, 999, rfl, ?_⟩
      rw [decide_eq_true n1, decide_eq_true n2]
      refine ⟨_, e4, ?_, ?_, ?_, ?_⟩
      · rw [List.length_map, List.length_replicate]
        exact small1000 (by omega)
      · exact but_upd (b2.trans (But.same s4)) fD
      · exact (upd_ne ndD).trans d4
      · rw [upd_same, List.replicate_succ', List.map_append]
        rfl
    · rintro H2 ⟨b2, d2, e2⟩
      refine ⟨d2, D, _, rfl, .of ((upd_ne ndD.symm).trans e2), ?_⟩
      have ha : (List.replicate kvs.length true).all id = true := by
        rw [List.all_eq_true]
        intro x hx
        rw [(List.mem_replicate.mp hx).2]
        rfl
      rw [ha]
      refine q _ fun c o e => ?_
      by_cases hc : c = d
      · rw [hc] at e ⊢
        rw [hd] at e
        rw [← e]
        exact upd_same
      · rw [upd_ne hc]
        exact b2 c o hc e
theorem ok_needvalue {f fI : Addr} {fd fdI : FuncData} (F : Fun K "need_value" "need_value" sNeedValue f fd) (I : Fun K "is_value" "is_value" sIsValue fI fdI) (bI : Binds K fdI ["value"] []) (gI : mg "is_value" = some (.ref fI))
    (GI : FnOk P w K mg base CX0 2 fI fdI ["value"] spIsValue) : FnOk P w K mg base CX0 3 f fd ["value"] spNeedValue := by
  refine F.ok scNeedValue (fun vs H Q E h => ?_) (fun cdv A outer s H vs Q E hr h => ?_)
  · obtain ⟨d, zs, kvs, rfl, _⟩ := h
    rfl
  · obtain ⟨d, zs, kvs, rfl, hd, hv, q⟩ := h
    refine ⟨_, pss_one (ps_if (pt_not (pt_val (pe_call GI hr rfl gI I.kp bI .nil pass0 (pa_cons (pv 0) pa_nil)))) (pss_one ps_never) pss_nil), ?_⟩
    exact ⟨_, rfl, d, zs, kvs, rfl, hd, hv, fun H' s' => ⟨_, rfl, iteF (q H' s')⟩⟩
theorem ok_needrecord {f fN fV : Addr} {fd fdN fdV : FuncData} (F : Fun K "need_record" "need_record" sNeedRecord f fd) (kN : PySem.W.keepIn K (.ref fN) = true) (bN : Binds K fdN ["value"] []) (gN : mg "need_name" = some (.ref fN)) (GN : FnOk P w K mg base CX0 2 fN fdN ["value"] spNeedName)
    (kV : PySem.W.keepIn K (.ref fV) = true) (bV : Binds K fdV ["value"] []) (gV : mg "need_value" = some (.ref fV)) (GV : FnOk P w K mg base CX0 3 fV fdV ["value"] spNeedValue) : FnOk P w K mg base CX0 4 f fd ["key", "value"] spNeedRecord := by
  refine F.ok scNeedRecord (fun vs H Q E h => ?_) (fun cdv A outer s H vs Q E hr h => ?_)
  · obtain ⟨y, d, zs, kvs, rfl, _⟩ := h
    rfl
  · obtain ⟨y, d, zs, kvs, rfl, hy, hd, hv, q⟩ := h
    refine ⟨_, pss_cons (ps_expr (pe_call GN (hr.mono (by decide)) rfl gN kN bN .nil pass0 (pa_cons (pv 0) pa_nil))) (pss_one (ps_expr (pe_call GV hr rfl gV kV bV .nil pass0 (pa_cons (pv 1) pa_nil)))), ?_⟩
    exact ⟨_, rfl, y, rfl, hy, fun H1 s1 => ⟨_, rfl, d, zs, kvs, rfl, s1 _ _ hd, hv, fun H2 s2 => q H2 (s1.trans s2)⟩⟩
end
end G
set_option Elab.async false
set_option linter.all false
set_option maxRecDepth 100000
set_option maxHeartbeats 2000000
/-! O1: x in o, o[i], for x in o, len(o) by a class's own methods. -/
namespace G
open PySem PySem.Spec PyProof.Rows L2
/-- the class at C has its own m, the def at f -/
structure OwnM (K : PySem.W.Frag) (C : Addr) (m : Str) (f : Addr) : Prop where
  at_ : PySem.W.findIn K (.ref C) m = some (some (.ref f))
  fn : PySem.W.isFn K (.ref f) = true
section
variable {prog : Program} {w : World} {A : Around} {E : Value → Shared → Prop} {s : Shared} {K : PySem.W.Frag} {x C f : Addr} {ox : Obj} {od : Option Obj} {y : Value}
theorem in_own {Q : Bool → Shared → Prop} (X : K.In s.heap) (I : PySem.W.InstAt s.heap x ox C od) (e : OwnM K C "__contains__" f) (h : wpAny (model prog w) A (call (.ref f) [.ref x, y]) (fun v s' => ∃ b, v = .bool b ∧ Q b s') E s) :
    wpAny (model prog w) A (contains (.ref x) y) Q E s := by
  have sp : PySem.W.Looks (model prog w) s.heap (specialOf (.ref x) "__contains__") (some (.ref f)) := I.type.andThen (PySem.W.looks_findIn X e.at_)
  have hf := beq_iff_eq.mp e.fn
  unfold contains
  refine wpAny_holding ?_
  show wpAny _ _ (specialOf (.ref x) "__contains__" >>= _) _ _ _
  refine wpAny_bind (sp.here ?_)
  rw [if_neg (show ¬ ((some (Value.ref f) == some Value.none) = true) from Bool.false_ne_true)]
  unfold callSpecialUnlessNone?
  refine wpAny_bind (wpAny_bind (sp.here (wpAny_holding (wpAny_bind ((PySem.W.bind_fn X _ hf).here ?_)))))
  dsimp only
  rw [if_neg (show ¬ ((Value.ref f == Value.none) = true) from Bool.false_ne_true)]
  refine wpAny_bind (wpAny_mono h (fun v s' z => ?_) fun _ _ z => z)
  obtain ⟨b, rfl, q⟩ := z
  exact wpAny_pure (wpAny_truthy_bool q)
end
end G
set_option Elab.async false
set_option linter.all false
set_option maxRecDepth 100000
set_option maxHeartbeats 2000000
/-! O2: rules of x in o, o[i], for x in o. -/
namespace G
open PySem PySem.Spec PyProof.Rows L2 ItX
section
variable {X : Cx} {C g : Addr} {fd : FuncData} {ps : List Str} {n : Nat} {sp : Sp} {E : XK}
/-- x in o -/
def rInO (C : Addr) (sp : Sp) (E : XK) (neg : Bool) : R2 := fun x y H Q => ∃ a dx fs, y = .ref a ∧ H a = some (.ins C dx fs) ∧ sp [y, x] H (fun v H' => ∃ k : Bool, v = .bl k ∧ Q (.bl (cond neg (!k) k)) H') E
theorem in_run (e : OwnM X.K C "__contains__" g) (hb : Binds X.K fd ps []) (F : FnOk X.prog X.w X.K X.mg X.base CX0 n g fd ps sp) (hr : Room n X.A) (hx : Passes CX0 X E) {pins : List (Addr × Obj)} {σ : L2.St} {H : Hp} {s : Shared} {a dx : Addr} {fs : List (Str × V)} {x : V} {v : Value} {R : Bool → V → Hp → Prop}
    (I : Inv X pins σ H s) (rx : RelV x v) (ha : H a = some (.ins C dx fs)) {Q : Bool → Shared → Prop} (q : sp [.ref a, x] H (fun v H' => ∃ k : Bool, v = .bl k ∧ R k v H') E)
    (hq : ∀ k s' H', Inv X pins σ H' s' → R k (.bl k) H' → Q k s') : wpAny (model X.prog X.w) X.A (contains (.ref a) v) Q X.xe s := by
  obtain ⟨ox, od, J⟩ := insX_at I ha
  refine in_own I.kIn J e ?_
  refine wpAny_mono (run_fn (us := [.ref a, v]) (vs := [.ref a, x]) F hr hb .nil hx I (.cons rfl (.cons rx .nil)) q) (fun w s' z => ?_) fun _ _ x => x
  obtain ⟨z', H', I', rz, k, rfl, qz⟩ := z
  obtain rfl : w = Value.bool k := rz
  exact ⟨k, rfl, hq k s' H' I' qz⟩
theorem op_inO (e : OwnM X.K C "__contains__" g) (hb : Binds X.K fd ps []) (F : FnOk X.prog X.w X.K X.mg X.base CX0 n g fd ps sp) (hr : Room n X.A) (hx : Passes CX0 X E) : OpR X (compareOp .In) (rInO C sp E false) := by
  intro pins s σ H x y v u Q I rx ry h
  obtain ⟨a, dx, fs, rfl, ha, q⟩ := h
  cases (show u = Value.ref a from ry)
  refine wpAny_bind (in_run (R := fun k v H' => Q (.bl k) H') e hb F hr hx I rx ha q fun k s' H' I' z => ?_)
  exact wpAny_pure ⟨.bl k, H', I', rfl, z⟩
theorem op_ninO (e : OwnM X.K C "__contains__" g) (hb : Binds X.K fd ps []) (F : FnOk X.prog X.w X.K X.mg X.base CX0 n g fd ps sp) (hr : Room n X.A) (hx : Passes CX0 X E) : OpR X (compareOp .NotIn) (rInO C sp E true) := by
  intro pins s σ H x y v u Q I rx ry h
  obtain ⟨a, dx, fs, rfl, ha, q⟩ := h
  cases (show u = Value.ref a from ry)
  refine wpAny_bind (in_run (R := fun k v H' => Q (.bl (!k)) H') e hb F hr hx I rx ha q fun k s' H' I' z => ?_)
  exact wpAny_pure ⟨.bl (!k), H', I', rfl, z⟩
/-- o[i] -/
def tGetO (C : Addr) (sp : Sp) (E : XK) (ta ti : TE) : TE := fun σ H Q => ta σ H fun x H1 => ti σ H1 fun y H2 => ∃ a dx fs, x = .ref a ∧ H2 a = some (.ins C dx fs) ∧ sp [x, y] H2 Q E
theorem pe_getO {e i : Expr} {pos : Pos} {ta ti : TE} (m : OwnM X.K C "__getitem__" g) (hf : PySem.W.fnIn X.K g = true) (hb : Binds X.K fd ps []) (F : FnOk X.prog X.w X.K X.mg X.base CX0 n g fd ps sp) (hr : Room (n + 1) X.A) (he : PE X e ta) (hi : PE X i ti)
    (hsl : ∀ (a : Addr) (v : Value), subscripted i true (.ref a) v = runValue (.builtin "lifetime.subscript" ⟨[.ref a, v], []⟩) := by intro _ _; with_unfolding_all rfl) : PE X (.Subscript e i pos) (tGetO C sp E0 ta ti) := by
  refine ⟨fun pins s σ H Q I h => ?_⟩
  refine Subscript_ (thn (he.run pins s σ H _ I h) fun v s1 ⟨x, H1, I1, r1, q1⟩ => thn (hi.run pins s1 σ H1 _ I1 q1) fun u s2 ⟨y, H2, I2, r2, a, dx, fs, ex, ha, q⟩ => ?_)
  subst ex
  obtain rfl : v = Value.ref a := r1
  obtain ⟨ox, od, J⟩ := insX_at I2 ha
  obtain ⟨mm, hF⟩ := I2.fr
  refine PySem.W.sub_K hF I2.ok.mod.kin J m.at_ hf m.fn ?_ (hsl a u)
  have hl : ([Value.ref a, u] ++ []).length = ps.length := by
    have := F.len _ _ _ _ q
    exact this
  refine wpAny_call (codeAny_mono (F.run X.A.in1 X.stack s2 H2 ⟨[.ref a, u], []⟩ ([.ref a, u] ++ []) [.ref a, y] _ E0 hr.in1 I2.env0.in1 (hb s2 [.ref a, u] I2.kIn hl) (.cons rfl (.cons r2 .nil)) q) fun r s' hq => ?_)
  cases r with
  | error e => exact False.elim hq
  | ok fl =>
    cases fl with
    | ret u => exact I2.after hq
    | next => exact False.elim hq
    | brk => exact False.elim hq
    | cont => exact False.elim hq
end
/-! ### for x in o -/
/-- as FnOk, its promise knows how many objects there were -/
structure FnS (P : Program) (w : World) (K : PySem.W.Frag) (mg : Str → Option Value) (base : Heap) (k : Nat) (f : Addr) (fd : FuncData) (ps : List Str) (sp : Nat → Sp) : Prop where
  go : ∀ (A : Around) (outer : List Env) (s : Shared) (H : Hp) (args : Args) (us : List Value) (vs : List V) (Q : VK) (E : XK),
    Room k A → Env0 P w K mg base A outer s H → BindsTo s fd args (ps.zip us) → Vals vs us → sp s.heap.objs.size vs H Q E → codeAny (model P w) A (.call (.ref f) args) (CR CX0 outer P w H s Q E) s
section
variable {P : Program} {w : World} {K : PySem.W.Frag} {mg : Str → Option Value} {base : Heap}
theorem FnS.of_body {x qual : Str} {st : Stmt} {f : Addr} {fd : FuncData} {N ps : List Str} {k : Nat} {sp : Nat → Sp} (F : Fun K x qual st f fd) (S : FnScope N ps (defScope st))
    (size : ∀ n vs H Q E, sp n vs H Q E → vs.length = ps.length)
    (body : ∀ (cdv : Value) (A : Around) (outer : List Env) (s : Shared) (H : Hp) (vs : List V) (Q : VK) (E : XK),
      Room k (A.deeper (envOfC qual (defScope st) s.heap.objs.size f cdv)) → sp s.heap.objs.size vs H Q E →
      ∃ t, PSs (cxOf CX0 P w K mg base N qual (defScope st) f cdv A outer s H E).nox (defBody st) t ∧ t { nx := fun _ H' => Q .non H', rt := Q } (start N vs) H) :
    FnS P w K mg base (k + 1) f fd ps sp := by
  obtain ⟨_, _, _, _, _, _, cdv, _, _, rfl, lk, hcd⟩ := F.ex
  refine ⟨fun A outer s H args us vs Q E hr e0 hb r h => ?_⟩
  have inS : K.In s.heap := e0.mod.kin.keeps fun b o e => (e0.bs b o e).1
  have noL : s.heap.NoLimit := e0.mod.nolimit.keeps fun b o e => (e0.bs b o e).1
  refine codeAny_call_function hr.depth (inS _ _ lk) rfl S.co S.gen rfl
    (PySem.W.codeRec_of inS hcd) (hb _ _ _ _ ?_)
  refine wpAny_newFunctionEnv_cells S.kind
    (fun ⟨n, v⟩ hy => ?_) fun env he s1 x => ?_
  · rcases S.par n (List.of_mem_zip hy).1 with q | q
    · exact Or.inl q
    · exact Or.inr ⟨q, PySem.W.cellsFrom_some _ _ _ (Or.inl q)⟩
  · subst he
    refine ⟨noL.keeps x.toInCall.keep, codeAny_func ?_⟩
    obtain ⟨t, ht, hq⟩ := body cdv A outer s H vs Q E (hr.deeper _) h
    have J := inv_start (CX := CX0) (P := P) (w := w) (K := K) (mg := mg) (base := base) (E := E) S hr.hd e0 (size _ _ _ _ _ h) r x
    refine wpAny_mono (ht.nox.run [] s1 (start N vs) H _ J hq) (fun fl s' z => ?_) fun e s' z => z
    cases fl with
    | ret u =>
      obtain ⟨v, σ', H', J', rv, q⟩ := z
      exact ⟨v, H', J'.os, J'.bare, J'.base, J'.hok, rv, q⟩
    | next =>
      obtain ⟨σ', H', J', q⟩ := z
      exact ⟨.non, H', J'.os, J'.bare, J'.base, J'.hok, rfl, q⟩
    | brk =>
      obtain ⟨_, _, _, q⟩ := z
      exact q.elim
    | cont =>
      obtain ⟨_, _, _, q⟩ := z
      exact q.elim
end
/-- an __iter__ that gives the iterator of the list in the field fld -/
def spIter (K : PySem.W.Frag) (C : Addr) (fld : Str) (n : Nat) : Sp := fun vs H Q _ => ∃ (a dx l : Addr) (fs : List (Str × V)) (xs : List V), vs = [.ref a] ∧ H a = some (.ins C dx fs) ∧ fs.lookup fld = some (.ref l) ∧ SqL K H l xs ∧
  ∀ it, H it = none → n ≤ it → Q (.ref it) (upd H it (ItO l it 0))
def iOwn (K : PySem.W.Frag) (C : Addr) (fld : Str) (te : TE) : TI := fun σ H R => te σ H fun x H1 => ∃ (a dx l : Addr) (fs : List (Str × V)) (xs : List V), x = .ref a ∧ H1 a = some (.ins C dx fs) ∧ fs.lookup fld = some (.ref l) ∧ SqL K H1 l xs ∧ R (Itl K l) H1
theorem pi_own {X : Cx} {C g : Addr} {fd : FuncData} {n : Nat} {fld : Str} {e tg : Expr} {te : TE} (he : PE X e te) (m : OwnM X.K C "__iter__" g) (hb : Binds X.K fd ["self"] []) (F : FnS X.prog X.w X.K X.mg X.base n g fd ["self"] (spIter X.K C fld)) (hr : Room n X.A) : PI X tg e (iOwn X.K C fld te) := by
  refine ⟨fun pins s σ H R I h => ?_⟩
  refine thn (he.run pins s σ H _ I h) fun u s1 ⟨x, H1, I1, rx, a, dx, l, fs, xs, ex, ea, lk, sq, q⟩ => ?_
  subst ex
  obtain rfl : u = Value.ref a := rx
  obtain ⟨ox, od, J⟩ := insX_at I1 ea
  obtain ⟨mm, hF⟩ := I1.fr
  refine PySem.W.owit_iter hF I1.ok.mod.kin J m.at_ m.fn ?_
  refine wpAny_call (codeAny_mono (F.go X.A X.stack s1 H1 ⟨[Value.ref a], []⟩ ([Value.ref a] ++ []) [V.ref a] (fun v H2 => ∃ it, v = .ref it ∧ H1 it = none ∧ X.s_0.heap.objs.size ≤ it ∧ H2 = upd H1 it (ItO l it 0)) E0 hr I1.env0 (hb s1 [Value.ref a] I1.kIn rfl) (show Vals [V.ref a] [Value.ref a] from .cons rfl .nil)
    ⟨a, dx, l, fs, xs, rfl, ea, lk, sq, fun it hn hs => ⟨it, rfl, hn, Nat.le_trans I1.sz hs, rfl⟩⟩) fun r s' hq => ?_)
  cases r with
  | error e => exact False.elim hq
  | ok fl =>
    cases fl with
    | ret u =>
      obtain ⟨v, H', I2, rv, it, rfl, hn, hs, rfl⟩ := I1.after hq
      cases (show u = Value.ref it from rv)
      have hi : (upd H1 it (ItO l it 0)) it = some (ItO l it 0) := upd_same
      have eo := itO_get I2 hi
      have st : s'.heap.IsListIter it l (0 : Nat) := ⟨_, eo, rfl, rfl⟩
      have hT : s'.TypeIs (.ref it) "list_iterator" := ⟨_, eo, rfl⟩
      unfold PySem.W.OwitIt
      refine wpAny_specialOf (name := Str.ofString "__next__") hT slot_listiter_next.lookup ?_
      have hi' := hi
      unfold ItO at hi'
      have ed : dropH (upd H1 it (ItO l it 0)) it = H1 := by
        funext b
        by_cases hb : b = it
        · rw [hb, hn]
          exact dropH_same
        · rw [dropH_ne hb, upd_ne hb]
      refine ⟨it, [it], _, _, dropH (upd H1 it (ItO l it 0)) it, rfl, inv_drop I2 hi', turn_list l it, st, fun b hb => ?_, ?_⟩
      · have e : b = it := by simpa using hb
        rw [e]
        exact inv_fp I2 hi hs
      · rw [ed]
        exact q
    | next => exact False.elim hq
    | brk => exact False.elim hq
    | cont => exact False.elim hq
end G
set_option Elab.async false
set_option linter.all false
set_option maxRecDepth 100000
set_option maxHeartbeats 2000000
/-! O3: xs[::-1], isinstance(x, (list, tuple)), lists of the same things compared. -/
namespace G
open PySem PySem.Spec PyProof.Rows L2 HT
theorem pick_rev (its : List Value) : slicePick its.toArray none none (some (-1)) = its.reverse.toArray := by
  have e : ∀ k, k ≤ its.length → (((List.range k).map fun (m : Nat) => (((its.length : Nat) : Int) - 1 + (-1) * (m : Int)).toNat).filterMap fun j => its.toArray[j]?) = its.reverse.take k := by
    intro k
    induction k with
    | zero =>
      intro _
      simp
    | succ k ih =>
      intro hk
      rw [List.range_succ, List.map_append, List.filterMap_append, ih (by omega), List.take_add_one]
      congr 1
      have e1 : (((its.length : Nat) : Int) - 1 + (-1) * (k : Int)).toNat = its.length - 1 - k := by omega
      have hk2 : its.length - 1 - k < its.length := by omega
      simp only [List.map_cons, List.map_nil, List.filterMap_cons, List.filterMap_nil]
      rw [e1, List.getElem?_toArray, List.getElem?_eq_getElem hk2, List.getElem?_reverse (by omega)]
      simp [hk2]
  have r : sliceRange ((its.length : Int) - 1) (-1) (-1) = (List.range its.length).map fun (m : Nat) => (((its.length : Nat) : Int) - 1 + (-1) * (m : Int)).toNat := by
    unfold sliceRange
    have c : (if (-1 : Int) > 0 then (if (its.length : Int) - 1 < -1 then ((-1) - ((its.length : Int) - 1) + (-1) - 1) / (-1) else 0) else (if (its.length : Int) - 1 > -1 then ((its.length : Int) - 1 - (-1) - (-1) - 1) / (-(-1)) else 0)).toNat = its.length := by
      rw [if_neg (by decide)]
      split
      · rw [show (-(-1) : Int) = 1 by decide, Int.ediv_one]
        omega
      · omega
    show (List.range _).map _ = _
    rw [c]
  have b : sliceBounds none none (some (-1)) its.toArray.size = ((its.length : Int) - 1, -1, -1) := by
    rw [List.size_toArray]
    rfl
  unfold slicePick
  rw [b]
  dsimp only
  rw [r, e _ (Nat.le_refl _), List.take_of_length_le (by rw [List.length_reverse]; exact Nat.le_refl _)]
def tBackL (K : PySem.W.Frag) (te : TE) (tp : TO) : TE := fun σ H Q => te σ H fun x H1 => tp σ H1 fun o H2 => ∃ a xs, x = .ref a ∧ SqL K H2 a xs ∧ o = some (-1) ∧ ∀ p, H2 p = none → Q (.ref p) (upd H2 p (.lst xs.reverse))
theorem pe_backL {X : Cx} {e st : Expr} {te : TE} {tp : TO} {p3 pos : Pos} (he : PE X e te) (hst : PO X (some st) tp)
    (hsub : ∀ a l : Addr, subscripted (.Slice none none (some st) p3) false (.ref a) (.ref l) = operate [.ref a, .ref l] (getItem (.ref a) (.ref l)) := by intro _ _; with_unfolding_all rfl) :
    PE X (.Subscript e (.Slice none none (some st) p3) pos) (tBackL X.K te tp) := by
  refine ⟨fun pins s σ H Q I h => ?_⟩
  refine Subscript_ (thn (he.run pins s σ H _ I h) fun v s1 ⟨x, H1, I1, r1, q1⟩ => ?_)
  refine wpAny_Slice (thn (po_none.run pins s1 σ H1 (fun o H2 => o = none ∧ H2 = H1) I1 ⟨rfl, rfl⟩) fun vl s2 ⟨l, H2, I2, pl, el, e2⟩ => ?_)
  subst el e2
  refine thn (po_none.run pins s2 σ H2 (fun o H3 => o = none ∧ H3 = H2) I2 ⟨rfl, rfl⟩) fun vu s3 ⟨u, H3, I3, pu, eu, e3⟩ => ?_
  subst eu e3
  refine thn (hst.run pins s3 σ H3 _ I3 q1) fun vs s4 ⟨o, H4, I4, ps, a, xs, ex, hx, eo, q⟩ => ?_
  subst ex eo
  cases r1
  have I5 : Inv X pins σ H4 { s4 with heap := s4.heap.push { cls := .type "slice", data := .fields #[vl, vu, vs] } } := I4.kept (t' := s4.toks) fun b ob q => Heap.get?_push_of_some _ q
  obtain ⟨its, r, ht, hz⟩ := I5.list hx
  have hlen : its.length = xs.length := r.length.symm
  show wpAny (model X.prog X.w) X.A (subscriptTail e (.Slice none none (some st) p3) (.ref a) (.ref s4.heap.objs.size)) (EP X pins σ Q) X.xe { s4 with heap := s4.heap.push { cls := .type "slice", data := .fields #[vl, vu, vs] } }
  refine tail_any (ops := [.ref a, .ref s4.heap.objs.size]) ht.isList.typeIs slot_list_getitem.lookup ?_ (hsub _ _)
  refine wpAny_getItem_list_slice ht.isList (Heap.IsSliceOf.new _ _ _ _) pl pu ps (by decide) ?_ (by rw [List.size_toArray]; omega)
  rw [pick_rev]
  refine ⟨.ref _, _, I5.laid (t' := s4.toks) (o := .lst xs.reverse) (fun b ob q => Heap.get?_push_of_some _ q) (Nat.le_refl _) ?_, rfl, q _ (I5.hok.fresh (Nat.le_refl _))⟩
  exact ⟨by rw [List.length_reverse]; exact hz, _, 0, Vals.reverse r, Heap.get?_push_size _ rfl⟩
/-! ### isinstance(x, (list, tuple)) -/
def tIsLT (K : PySem.W.Frag) (te : TE) : TE := fun σ H Q => te σ H fun x H1 => (∃ t xs, x = .ref t ∧ (SqL K H1 t xs ∨ SqT K H1 t xs)) ∧ ∀ T, H1 T = none → Q (.bl true) (upd H1 T (.tup [.ty "list", .ty "tuple"]))
theorem lt_list (t : Addr) : AnswersAll (fun s => s.TypeIs (.ref t) "list") (.ref t) [.type "list", .type "tuple"] [true, false] :=
  ⟨Answers.of_true PySem.F.isi_meta_list sub_list_self, Answers.of_false_list (by decide +kernel) PySem.F.isi_meta_tuple PySem.F.sub_list_tuple, True.intro⟩
theorem lt_tuple (t : Addr) : AnswersAll (fun s => s.TypeIs (.ref t) "tuple") (.ref t) [.type "list", .type "tuple"] [false, true] :=
  ⟨Answers.of_false_tuple (by decide +kernel) PySem.F.isi_meta_list PySem.F.sub_tuple_list, Answers.of_true PySem.F.isi_meta_tuple PySem.F.isi_sub_tuple, True.intro⟩
theorem pe_isiLT {X : Cx} {p pos tpos : Pos} {e : Expr} {es : List Expr} {te : TE} {k : Nat} (he : PE X e te) (hg : Gl X "isinstance") (hm : X.mg "isinstance" = none) (hes : PA X es (tCons (tC (.ty "list")) (tCons (tC (.ty "tuple")) tNil)))
    (n1 : starEach [e, .Tuple es k tpos] X.env = (false, eval e X.env) :: starEach [.Tuple es k tpos] X.env := by rfl) (n2 : starEach [.Tuple es k tpos] X.env = (false, eval (.Tuple es k tpos) X.env) :: starEach [] X.env := by rfl)
    (n3 : (backTo pos (starEach [.Tuple es k tpos] X.env)).any (·.1) = false := by rfl) : PE X (.Call (.Name "isinstance" p) [e, .Tuple es k tpos] [] pos) (tIsLT X.K te) := by
  refine ⟨fun pins s σ H Q I h => ?_⟩
  refine wpAny_Call_Name_kw (ld_blt I hg hm PyProof.Rows.boot_isinstance ?_ (by decide) (by decide))
  refine PyProof.Rows.callWith_builtin1 ?_ n1 n3
  rw [n1]
  show wpAny _ _ (spliced ((false, eval e X.env) :: backTo pos (starEach [.Tuple es k tpos] X.env))) _ _ s
  refine Calls.spliced_cons (thn (he.run pins s σ H _ I h) fun u s1 ⟨x, H1, I1, r1, ⟨t, xs, ex, hT⟩, q1⟩ => ?_)
  subst ex
  obtain rfl : u = Value.ref t := r1
  rw [n2]
  show wpAny _ _ (spliced ((false, eval (.Tuple es k tpos) X.env) :: backTo pos (starEach [] X.env))) _ _ s1
  refine Calls.spliced_cons (wpAny_Tuple_spliced (thn (hes.run tpos pins s1 σ H1 (fun ys H' => ys = [.ty "list", .ty "tuple"] ∧ H' = H1) I1 ⟨rfl, rfl⟩) fun us s2 ⟨ys, H2, I2, r2, ey, eH⟩ => ?_))
  subst ey eH
  have eu := vals_ty2 r2
  subst eu
  have two : 2 ≤ sizeLine := by rw [sizeLine_eq]; omega
  refine ⟨two, ?_⟩
  have fresh := I2.hok.fresh (Nat.le_refl s2.heap.objs.size)
  have I3 := I2.laid (a := s2.heap.objs.size) (o := .tup [.ty "list", .ty "tuple"]) (h' := s2.heap.push { cls := .type "tuple", data := .seq [Value.type "list", Value.type "tuple"].toArray }) (t' := s2.toks) (fun b u e => Heap.get?_push_of_some _ e) (Nat.le_refl _)
    ⟨two, [.type "list", .type "tuple"], r2, ⟨_, Heap.get?_push_size _ rfl, rfl, _, rfl⟩⟩
  refine Calls.spliced_nil ?_
  rcases hT with hT | hT
  · obtain ⟨its, _, pl, _⟩ := I2.list hT
    obtain ⟨o, ho, hc, _⟩ := pl.isList
    exact call_isinstance (isinstance_tuple (x := .ref t) (Tx := "list") (tp := s2.heap.objs.size) (lt_list t)) ⟨⟨o, Heap.get?_push_of_some _ ho, hc⟩, Heap.get?_push_size _ rfl, fun tk => ⟨.bl true, _, I3.tok tk, rfl, q1 _ fresh⟩⟩
  · obtain ⟨its, _, ⟨o, ho, hc, _⟩, _⟩ := I2.tuple hT
    exact call_isinstance (isinstance_tuple (x := .ref t) (Tx := "tuple") (tp := s2.heap.objs.size) (lt_tuple t)) ⟨⟨o, Heap.get?_push_of_some _ ho, hc⟩, Heap.get?_push_size _ rfl, fun tk => ⟨.bl true, _, I3.tok tk, rfl, q1 _ fresh⟩⟩
/-! ### lists of the same things -/
def sameB : V → Bool
  | .ref _ => true
  | v => flatB v
theorem items_same {A : Around} {s : Shared} : ∀ {xs : List V} {us ws : List Value}, (∀ v ∈ xs, sameB v = true) → Vals xs us → Vals xs ws → ∀ j (h1 : j < us.length) (h2 : j < ws.length), SeqAt.EqAt A s us[j] ws[j] true
  | [], _, _, _, .nil, .nil, j, h1, _ => absurd h1 (Nat.not_lt_zero j)
  | x :: xs, _, _, hf, .cons r1 t1, .cons r2 t2, 0, _, _ => by
    have f := hf x List.mem_cons_self
    cases x with
    | ref a =>
      cases r1
      cases r2
      exact SeqAt.EqAt.same _
    | _ => exact eqAt_same r1 r2 f
  | x :: xs, _, _, hf, .cons r1 t1, .cons r2 t2, j + 1, h1, h2 => items_same (fun v hv => hf v (List.mem_cons_of_mem _ hv)) t1 t2 j (Nat.lt_of_succ_lt_succ h1) (Nat.lt_of_succ_lt_succ h2)
section
variable {X : Cx}
def rNeS (K : PySem.W.Frag) : R2 := fun x y H Q => ∃ a b xs, x = .ref a ∧ y = .ref b ∧ SqL K H a xs ∧ SqL K H b xs ∧ (∀ v ∈ xs, sameB v = true) ∧ Q (.bl false) H
theorem op_neS (hu : X.A.units < cLine) : OpR X (compareOp .NotEq) (rNeS X.K) := by
  intro pins s σ H x y v u Q I rx ry h
  obtain ⟨a, b, xs, rfl, rfl, ha, hb, hf, q⟩ := h
  cases (show v = Value.ref a from rx)
  cases (show u = Value.ref b from ry)
  obtain ⟨us, r1, p1, _⟩ := I.list ha
  obtain ⟨ws, r2, p2, _⟩ := I.list hb
  have hsz : us.toArray.size = ws.toArray.size := by rw [List.size_toArray, List.size_toArray, ← r1.length, ← r2.length]
  refine SeqAt.RcNeAt.lists (e := fun _ => true) p1.isList p2.isList hsz hu (fun j h1 h2 => ?_) X.prog X.w _ _ ?_
  · have k := items_same (A := X.A.in1) (s := s) hf r1 r2 j (by simpa using h1) (by simpa using h2)
    simpa using k
  · rw [show ((List.range us.toArray.size).all fun _ => true) = true from List.all_eq_true.mpr fun _ _ => rfl]
    exact ⟨.bl false, H, I, rfl, q⟩
end
end G
set_option Elab.async false
set_option linter.all false
set_option maxRecDepth 100000
set_option maxHeartbeats 4000000
/-! VN: drawn names differ. -/
namespace G
open PySem PySem.Spec PyProof.Rows L2
def Cop (st : Nat) : Prop := st ∈ [1, 3, 5, 7, 9, 11, 15, 17]
theorem cop_le {st : Nat} (h : Cop st) : st ≤ 17 := by
  unfold Cop at h
  simp at h
  omega
theorem cop_inj {st bg i j : Nat} (h : Cop st) (e : (bg + st * i) % 26 = (bg + st * j) % 26) : i % 26 = j % 26 := by
  unfold Cop at h
  simp only [List.mem_cons, List.not_mem_nil, or_false] at h
  rcases h with rfl | rfl | rfl | rfl | rfl | rfl | rfl | rfl <;> omega
theorem abc_is : ∀ j : Fin 26, abc.cps[(j : Nat)]? = some (97 + (j : Nat)) := by decide +kernel
theorem abc_code {j c n : Nat} (hj : j < 26) (hc : abc.cps[j]? = some c) (e : j = n) : cs (⟨#[c]⟩ : Str) = [97 + n] := by
  have z := abc_is ⟨j, hj⟩
  rw [hc] at z
  rw [← e, ← Option.some.inj z]
theorem abc_code2 {j c : Nat} (hj : j < 26) (hc : abc.cps[j]? = some c) : cs (⟨#[c]⟩ : Str) = [97 + j] := abc_code hj hc rfl
/-- how the i-th name is written -/
def BaseF (md : Bool) (P : List Nat) (bg st i : Nat) (y : Str) : Prop := (md = true ∧ ∃ R, cs y = (97 + (bg + st * i) % 26) :: R) ∨ (md = false ∧ cs y = P ++ [97 + (bg + st * i) % 26])
def Form (md : Bool) (P : List Nat) (bg st i : Nat) (y : Str) : Prop := (md = true ∧ i < 26 ∧ ∃ R, cs y = (97 + (bg + st * i) % 26) :: R) ∨ (md = false ∧ i < 26 ∧ cs y = P ++ [97 + (bg + st * i) % 26]) ∨ (md = false ∧ 26 ≤ i ∧ cs y = P ++ [97 + (bg + st * i) % 26, 97 + i / 26])
theorem form_lt {md : Bool} {P : List Nat} {bg st i : Nat} {y : Str} (h : BaseF md P bg st i y) (hi : i < 26) : Form md P bg st i y := by
  rcases h with ⟨e, r⟩ | ⟨e, r⟩
  · exact .inl ⟨e, hi, r⟩
  · exact .inr (.inl ⟨e, hi, r⟩)
theorem form_ge {md : Bool} {P : List Nat} {bg st i : Nat} {y u : Str} (h : BaseF md P bg st i y) (hi : 26 ≤ i) (hm : md = true → i < 26) (e : cs u = cs y ++ [97 + i / 26]) : Form md P bg st i u := by
  rcases h with ⟨em, r⟩ | ⟨em, r⟩
  · have := hm em
    omega
  · refine .inr (.inr ⟨em, hi, ?_⟩)
    rw [e, r, List.append_assoc]
    rfl
theorem form_app {G : Nat → Str → Prop} {zs : List Str} {u : Str} {i : Nat} (hl : zs.length = i) (hf : ∀ (k : Nat) (y : Str), zs[k]? = some y → G k y) (hu : G i u) : ∀ (k : Nat) (y : Str), (zs ++ [u])[k]? = some y → G k y := fun k y h => by
  rcases Nat.lt_or_ge k zs.length with hk | hk
  · rw [List.getElem?_append_left hk] at h
    exact hf k y h
  · rw [List.getElem?_append_right hk] at h
    have hk0 : k - zs.length = 0 := by
      rcases Nat.eq_zero_or_pos (k - zs.length) with e | e
      · exact e
      · rw [List.getElem?_eq_none (by rw [List.length_singleton]; omega)] at h
        cases h
    rw [hk0] at h
    have e : u = y := Option.some.inj h
    have ek : k = i := by omega
    rw [ek, ← e]
    exact hu
theorem app_two {P : List Nat} {a b c d : Nat} (h : P ++ [a, b] = P ++ [c, d]) : a = c ∧ b = d := by
  have := List.append_cancel_left h
  injection this with e1 e2
  injection e2 with e3 _
  exact ⟨e1, e3⟩
theorem form_inj {md : Bool} {P : List Nat} {bg st i j : Nat} {y : Str} (hc : Cop st) (h1 : Form md P bg st i y) (h2 : Form md P bg st j y) : i = j := by
  rcases h1 with ⟨m1, l1, R1, e1⟩ | ⟨m1, l1, e1⟩ | ⟨m1, l1, e1⟩
  · rcases h2 with ⟨m2, l2, R2, e2⟩ | ⟨m2, l2, e2⟩ | ⟨m2, l2, e2⟩
    · rw [e1] at e2
      injection e2 with e3 _
      have := cop_inj (i := i) (j := j) hc (by omega : (bg + st * i) % 26 = (bg + st * j) % 26)
      omega
    · rw [m1] at m2
      cases m2
    · rw [m1] at m2
      cases m2
  · rcases h2 with ⟨m2, l2, R2, e2⟩ | ⟨m2, l2, e2⟩ | ⟨m2, l2, e2⟩
    · rw [m1] at m2
      cases m2
    · rw [e1] at e2
      have e3 := List.append_cancel_left e2
      injection e3 with e4 _
      have := cop_inj (i := i) (j := j) hc (by omega : (bg + st * i) % 26 = (bg + st * j) % 26)
      omega
    · rw [e1] at e2
      have e3 := List.append_cancel_left e2
      injection e3 with _ e4
      cases e4
  · rcases h2 with ⟨m2, l2, R2, e2⟩ | ⟨m2, l2, e2⟩ | ⟨m2, l2, e2⟩
    · rw [m1] at m2
      cases m2
    · rw [e1] at e2
      have e3 := List.append_cancel_left e2
      injection e3 with _ e4
      cases e4
    · rw [e1] at e2
      obtain ⟨e3, e4⟩ := app_two e2
      have := cop_inj (i := i) (j := j) hc (by omega : (bg + st * i) % 26 = (bg + st * j) % 26)
      omega
theorem nodup_at {zs : List Str} (h : ∀ (i j : Nat) (y : Str), zs[i]? = some y → zs[j]? = some y → i = j) : zs.Nodup := by
  rw [List.nodup_iff_pairwise_ne, List.pairwise_iff_getElem]
  intro i j hi hj hij e
  have h1 : zs[i]? = some zs[i] := List.getElem?_eq_getElem hi
  have h2 : zs[j]? = some zs[i] := by rw [List.getElem?_eq_getElem hj, e]
  have := h i j _ h1 h2
  omega
theorem form_nodup {md : Bool} {P : List Nat} {bg st : Nat} {zs : List Str} (hc : Cop st) (hf : ∀ (k : Nat) (y : Str), zs[k]? = some y → Form md P bg st k y) (_ : zs.length ≤ 600) : zs.Nodup :=
  nodup_at fun i j y h1 h2 => form_inj hc (hf i y h1) (hf j y h2)
theorem len_nodup {zs : List Str} (hf : ∀ (k : Nat) (y : Str), zs[k]? = some y → y.length = k + 1) : zs.Nodup :=
  nodup_at fun i j y h1 h2 => by
    have := hf i y h1
    have := hf j y h2
    omega
theorem perm_nodup {ys us : List Str} {qs : List Vd} (pm : qs.Perm (ys.map fun z => (V.str z, PyData.str z))) (e : qs.map (·.1) = us.map V.str) (h : ys.Nodup) : us.Nodup := by
  have p1 : (qs.map (·.1)).Perm ((ys.map fun z => (V.str z, PyData.str z)).map (·.1)) := pm.map _
  rw [e, List.map_map] at p1
  have h2 : (ys.map V.str).Nodup := h.map V.str fun a b hab hn => hab (V.str.inj hn)
  have h3 : (us.map V.str).Nodup := p1.nodup_iff.mpr h2
  unfold List.Nodup at *
  rw [List.pairwise_map] at h3
  exact h3.imp fun hne e => hne (congrArg V.str e)
def spNamesD : Sp := fun vs H Q _ => ∃ (b : Addr) (m n : Nat), vs = [.ref b, .int (m : Int)] ∧ BoxAt H b n ∧ n ≤ 50000 ∧ m ≤ 100 ∧
  ∀ (p : Addr) (H' : Hp) (zs : List Str), zs.length = m → (∀ z ∈ zs, NameZ z) → zs.Nodup → H p = none → H' p = some (.lst (zs.map V.str)) → BoxAt H' b (n + 11 + m) → But b H H' → Q (.ref p) H'
section
variable {P : Program} {w : World} {K : PySem.W.Frag} {mg : Str → Option Value} {base : Heap}
theorem ok_namesD {f fT fM : Addr} {fd fdT fdM : FuncData} (F : Fun K "_law_names" "_law_names" sNames f fd) (T : Fun K "_law_take" "_law_take" sTake fT fdT) (bT : Binds K fdT ["_law_box_here", "_law_many"] []) (gT : mg "_law_take" = some (.ref fT))
    (M : Fun K "_law_mixed" "_law_mixed" sMixed fM fdM) (bM : Binds K fdM ["_law_box_here", "_law_some"] []) (gM : mg "_law_mixed" = some (.ref fM)) (ml : mg "len" = none) (mL : mg "list" = none) (mr : mg "range" = none) :
    FnOk P w K mg base CX0 3 f fd ["_law_box_here", "_law_many"] spNamesD := by
  have GT : FnOk P w K mg base CX0 1 fT fdT ["_law_box_here", "_law_many"] spTake := ok_take T
  have GM : FnOk P w K mg base CX0 2 fM fdM ["_law_box_here", "_law_some"] (spMixed K) := ok_mixed M T bT gT ml mL
  refine F.ok scNames (fun vs H Q E h => ?_) (fun cdv A outer s H vs Q E hr h => ?_)
  · obtain ⟨b, m, n, rfl, _⟩ := h
    rfl
  · obtain ⟨b, m, n, rfl, B, hn, hm, q⟩ := h
    have hr1 := hr.mono (show 1 ≤ 2 by decide)
    obtain ⟨ts, psl, qsl⟩ : ∃ t, PSs (cxOf CX0 P w K mg base nNames "_law_names" (defScope sNames) f cdv A outer s H E).nox ((defBody sNames).drop 5) t ∧
        ∀ (way cut bg st : Nat) (z : Str) (x8 : Option V) (H1 : Hp), cut ≤ 7 → (26 < m → cut ≤ 6) → bg < 26 → Cop st → LowZ z → z.length = 7 → BoxAt H1 b (n + 11) → But b H H1 → t { nx := fun _ H' => Q .non H', rt := Q } [some (.ref b), some (.int (m : Int)), some (.str abc), some (.int (way : Int)), some (.int (cut : Int)), some (.int (bg : Int)), some (.int (st : Int)), some (.str z), x8, none, none, none] H1 := by
      refine ⟨_, pss_cons (ps_set (i := 9) scNames.nd rfl (.inl rfl) (pe_lst pa_nil))
      (pss_cons (ps_for PassesOwn.never rfl (pi_range1 rfl mr (pa_cons (pv 1) pa_nil)) (pg_name (i := 8) scNames.nd rfl (.inl rfl))
        (pss_cons (ps_set (i := 10) scNames.nd rfl (.inl rfl) (pe_item_str (pv 2) (pe_op op_mod (pe_op op_add (pv 5) (pe_op op_mul (pv 6) (pv 8))) pe_int) (fun _ _ => rfl)))
        (pss_cons (ps_set (i := 11) scNames.nd rfl (.inl rfl) (pe_op op_add_str (pe_slice sl_str (pv 7) po_none (po_some (pv 4))) (pv 10)))
        (pss_cons (ps_if (PW.pt (pw_and (pt_cmpR op_eq (pv 3) pe_int (nomark _)) (pw_and1 (pt_cmpR op_lt (pv 1) pe_int (nomark _)))))
          (pss_one (ps_set (i := 11) scNames.nd rfl (.inl rfl) (pe_op op_add_str (pv 10) (pe_slice sl_str (pv 7) po_none (po_some (pe_op op_mod (pe_op op_add (pv 4) (pe_op op_mul pe_int (pv 8))) pe_int)))))) pss_nil)
        (pss_one (ps_expr (pe_bm PySem.F.plainAttrs_list PySem.F.slot_list_append PySem.F.type_list_append mt_append (pv 9) (pa_cons
          (pe_ifExp (pt_cmpR op_lt (pv 8) pe_int (nomark _)) (pv 11) (pe_op op_add_str (pv 11) (pe_item_str (pv 2) (pe_op op_fdiv (pv 8) pe_int) (fun _ _ => rfl)))) pa_nil))))))))
      (pss_one (ps_ret (pv 9)))), ?_⟩
      intro way cut bg st z x8 H1 hcut hcut2 hbg hcop hz hl B1 k1
      have hst := cop_le hcop
      generalize hmd : (decide (V.int (way : Int) = V.int 1) && decide ((m : Int) < 27)) = md
      have hm26 : md = true → m < 27 := fun e => by
        rw [e] at hmd
        have := of_decide_eq_true (Bool.and_eq_true_iff.mp hmd).2
        omega
      refine ⟨Nat.zero_le _, fun D hD => ?_⟩
      have nD := box_ne B1 hD
      have fD := free_of k1 nD hD
      refine ⟨_, rfl, _, rfl, by omega, by omega, ?_⟩
      rw [Int.toNat_natCast m]
      refine for_range (lo := 0) (n := m) (fun i σ H2 => ∃ (zs : List Str) (x8 x10 x11 : Option V), σ = [some (.ref b), some (.int (m : Int)), some (.str abc), some (.int (way : Int)), some (.int (cut : Int)), some (.int (bg : Int)), some (.int (st : Int)), some (.str z), x8, some (.ref D), x10, x11] ∧
        H2 D = some (.lst (zs.map V.str)) ∧ zs.length = i ∧ (∀ y ∈ zs, NameZ y) ∧ (∀ (k : Nat) (y : Str), zs[k]? = some y → Form md (cs (cutS z none (some (cut : Int)))) bg st k y) ∧ BoxAt H2 b (n + 11) ∧ But b H H2) ?_ ?_ ?_
      · exact ⟨[], x8, none, none, rfl, upd_same, rfl, (fun y h => nomatch h), (fun k y h => by simp at h), box_new B1 hD, but_upd k1 fD⟩
      · rintro i σ H2 hi ⟨zs, x8, x10, x11, rfl, e2, hlz, hy, hf, B2, k2⟩
        have r := emod_in ((bg : Int) + (st : Int) * (0 + (i : Int))) 26 (by decide)
        obtain ⟨j, ej, hj⟩ := draw_at r.1 r.2 (n := 26) rfl
        obtain ⟨c, hc, c97⟩ := abc_at hj
        refine ⟨_, rfl, _, rfl, _, rfl, _, rfl, _, _, rfl, rfl, .inl ⟨by omega, by omega⟩, _, _, rfl, rfl, _, _, rfl, rfl, (by show (0 : Int) < 26; decide), _, _, c, rfl, rfl, r.1, by omega, (show _ < ((26 : Nat) : Int) by omega), (by rw [ej]; exact hc), ?_⟩
        have lo := low_one c97
        have len1 : (⟨#[c]⟩ : Str).length = 1 := rfl
        have ec : cs (⟨#[c]⟩ : Str) = [97 + (bg + st * i) % 26] := abc_code hj hc (by have ej2 := ej; rw [Int.zero_add] at ej2; omega)
        generalize (⟨#[c]⟩ : Str) = lt at lo len1 ec
        have cl := cut_len z cut
        refine ⟨_, rfl, _, rfl, _, rfl, z, rfl, small_size (by omega), _, rfl, _, _, rfl, rfl, small_size (by omega), ?_⟩
        have Y0 : LowZ (cutS z none (some (cut : Int)) ++ lt) ∧ 1 ≤ (cutS z none (some (cut : Int)) ++ lt).length ∧ (cutS z none (some (cut : Int)) ++ lt).length ≤ 8 ∧ (26 ≤ i → (cutS z none (some (cut : Int)) ++ lt).length ≤ 7) := by
          rw [app_len]
          exact ⟨(hz.cut _ _).app lo, by omega, by omega, fun _ => by omega⟩
        have r8 := emod_in ((cut : Int) + 3 * (0 + (i : Int))) 8 (by decide)
        refine ⟨_, rfl, rfl, _, rfl, ite2 (fun hw => ?_) (fun hw => ?_)⟩
        · refine ⟨_, rfl, _, _, rfl, rfl, _, rfl, ite2 (fun h27 => ?_) (fun h27 => ?_)⟩
          · have hm27 : (m : Int) < 27 := of_decide_eq_true h27
            obtain ⟨j8, ej8, hj8⟩ := draw_at r8.1 r8.2 (n := 8) rfl
            have cl8 := cut_len z j8
            refine ⟨_, rfl, _, rfl, _, rfl, _, rfl, _, _, rfl, rfl, .inl ⟨by decide, by decide⟩, _, _, rfl, rfl, _, _, rfl, rfl, (by show (0 : Int) < 8; decide), _, rfl, z, rfl, small_size (by omega), _, _, rfl, rfl, ?_, ?_⟩
            · rw [ej8, len1]
              exact small_size (by omega)
            have Y : NameI (lt ++ cutS z none (some (((cut : Int) + 3 * (0 + (i : Int))) % 8))) i ∧ BaseF md (cs (cutS z none (some (cut : Int)))) bg st i (lt ++ cutS z none (some (((cut : Int) + 3 * (0 + (i : Int))) % 8))) := by
              refine ⟨?_, .inl ⟨?_, cs (cutS z none (some (((cut : Int) + 3 * (0 + (i : Int))) % 8))), by rw [cs_app, ec]; rfl⟩⟩
              · unfold NameI
                rw [ej8, app_len]
                exact ⟨lo.app (hz.cut _ _), by omega, by omega, fun h => by omega⟩
              · rw [← hmd, hw, h27]
                rfl
            revert Y
            generalize (lt ++ cutS z none (some (((cut : Int) + 3 * (0 + (i : Int))) % 8))) = y
            intro Y
            obtain ⟨⟨y1, y2, y3, y4⟩, y5⟩ := Y
            have done : ∀ (u : Str) (x8 x10 x11 : Option V), NameZ u → Form md (cs (cutS z none (some (cut : Int)))) bg st i u → ∃ (zs' : List Str) (x8' x10' x11' : Option V), [some (V.ref b), some (.int (m : Int)), some (.str abc), some (.int (way : Int)), some (.int (cut : Int)), some (.int (bg : Int)), some (.int (st : Int)), some (.str z), x8, some (.ref D), x10, x11] = [some (.ref b), some (.int (m : Int)), some (.str abc), some (.int (way : Int)), some (.int (cut : Int)), some (.int (bg : Int)), some (.int (st : Int)), some (.str z), x8', some (.ref D), x10', x11'] ∧
                upd H2 D (.lst (zs.map V.str ++ [.str u])) D = some (.lst (zs'.map V.str)) ∧ zs'.length = i + 1 ∧ (∀ y ∈ zs', NameZ y) ∧ (∀ (k : Nat) (y : Str), zs'[k]? = some y → Form md (cs (cutS z none (some (cut : Int)))) bg st k y) ∧ BoxAt (upd H2 D (.lst (zs.map V.str ++ [.str u]))) b (n + 11) ∧ But b H (upd H2 D (.lst (zs.map V.str ++ [.str u]))) := fun u x8 x10 x11 hu hu2 => by
              refine ⟨zs ++ [u], x8, x10, x11, rfl, ?_, ?_, fun v hv => ?_, form_app hlz hf hu2, box_upd B2 nD, but_upd k2 fD⟩
              · rw [upd_same, List.map_append]
                rfl
              · rw [List.length_append, hlz]
                rfl
              · rcases List.mem_append.mp hv with hv | hv
                · exact hy v hv
                · rw [List.mem_singleton.mp hv]
                  exact hu
            have room : (zs.map V.str).length < sizeLine := by
              rw [List.length_map]
              exact small1000 (by omega)
            refine ⟨_, rfl, .inl ⟨rfl, _, .of e2⟩, _, rfl, _, _, rfl, rfl, _, rfl, ite2 (fun h26 => ?_) (fun h26 => ?_)⟩
            · exact ⟨_, rfl, D, _, _, rfl, rfl, e2, room, done y _ _ _ ⟨y1, y2, y3⟩ (form_lt y5 (by have := of_decide_eq_true h26; omega))⟩
            · have h26' : ¬ ((0 + (i : Int)) < 26) := fun h => h26 (decide_eq_true h)
              have yl := y4 (by omega)
              have hd : (0 + (i : Int)) / 26 = ((i / 26 : Nat) : Int) := by omega
              obtain ⟨c2, hc2, c297⟩ := abc_at (j := i / 26) (by omega)
              refine ⟨_, rfl, _, rfl, _, rfl, _, _, rfl, rfl, ⟨by decide, by decide⟩, _, _, c2, rfl, rfl, by omega, by omega, (show _ < ((26 : Nat) : Int) by omega), (by rw [hd]; exact hc2), _, _, rfl, rfl, ?_, D, _, _, rfl, rfl, e2, room, ?_⟩
              · show y.length + 1 ≤ sizeLine
                exact small_size (by omega)
              · have l2 : (y ++ (⟨#[c2]⟩ : Str)).length = y.length + 1 := app_len y ⟨#[c2]⟩
                exact done (y ++ ⟨#[c2]⟩) _ _ _ ⟨y1.app (low_one c297), by omega, by omega⟩ (form_ge y5 (by omega) (fun e => by have := hm26 e; omega) (by rw [cs_app, abc_code2 (by omega) hc2]))
          · have Y : NameI (cutS z none (some (cut : Int)) ++ lt) i ∧ BaseF md (cs (cutS z none (some (cut : Int)))) bg st i (cutS z none (some (cut : Int)) ++ lt) := ⟨Y0, .inr ⟨by rw [← hmd, Bool.eq_false_iff.mpr h27, Bool.and_false], by rw [cs_app, ec]⟩⟩
            revert Y
            generalize (cutS z none (some (cut : Int)) ++ lt) = y
            intro Y
            obtain ⟨⟨y1, y2, y3, y4⟩, y5⟩ := Y
            have done : ∀ (u : Str) (x8 x10 x11 : Option V), NameZ u → Form md (cs (cutS z none (some (cut : Int)))) bg st i u → ∃ (zs' : List Str) (x8' x10' x11' : Option V), [some (V.ref b), some (.int (m : Int)), some (.str abc), some (.int (way : Int)), some (.int (cut : Int)), some (.int (bg : Int)), some (.int (st : Int)), some (.str z), x8, some (.ref D), x10, x11] = [some (.ref b), some (.int (m : Int)), some (.str abc), some (.int (way : Int)), some (.int (cut : Int)), some (.int (bg : Int)), some (.int (st : Int)), some (.str z), x8', some (.ref D), x10', x11'] ∧
                upd H2 D (.lst (zs.map V.str ++ [.str u])) D = some (.lst (zs'.map V.str)) ∧ zs'.length = i + 1 ∧ (∀ y ∈ zs', NameZ y) ∧ (∀ (k : Nat) (y : Str), zs'[k]? = some y → Form md (cs (cutS z none (some (cut : Int)))) bg st k y) ∧ BoxAt (upd H2 D (.lst (zs.map V.str ++ [.str u]))) b (n + 11) ∧ But b H (upd H2 D (.lst (zs.map V.str ++ [.str u]))) := fun u x8 x10 x11 hu hu2 => by
              refine ⟨zs ++ [u], x8, x10, x11, rfl, ?_, ?_, fun v hv => ?_, form_app hlz hf hu2, box_upd B2 nD, but_upd k2 fD⟩
              · rw [upd_same, List.map_append]
                rfl
              · rw [List.length_append, hlz]
                rfl
              · rcases List.mem_append.mp hv with hv | hv
                · exact hy v hv
                · rw [List.mem_singleton.mp hv]
                  exact hu
            have room : (zs.map V.str).length < sizeLine := by
              rw [List.length_map]
              exact small1000 (by omega)
            refine ⟨_, rfl, .inl ⟨rfl, _, .of e2⟩, _, rfl, _, _, rfl, rfl, _, rfl, ite2 (fun h26 => ?_) (fun h26 => ?_)⟩
            · exact ⟨_, rfl, D, _, _, rfl, rfl, e2, room, done y _ _ _ ⟨y1, y2, y3⟩ (form_lt y5 (by have := of_decide_eq_true h26; omega))⟩
            · have h26' : ¬ ((0 + (i : Int)) < 26) := fun h => h26 (decide_eq_true h)
              have yl := y4 (by omega)
              have hd : (0 + (i : Int)) / 26 = ((i / 26 : Nat) : Int) := by omega
              obtain ⟨c2, hc2, c297⟩ := abc_at (j := i / 26) (by omega)
              refine ⟨_, rfl, _, rfl, _, rfl, _, _, rfl, rfl, ⟨by decide, by decide⟩, _, _, c2, rfl, rfl, by omega, by omega, (show _ < ((26 : Nat) : Int) by omega), (by rw [hd]; exact hc2), _, _, rfl, rfl, ?_, D, _, _, rfl, rfl, e2, room, ?_⟩
              · show y.length + 1 ≤ sizeLine
                exact small_size (by omega)
              · have l2 : (y ++ (⟨#[c2]⟩ : Str)).length = y.length + 1 := app_len y ⟨#[c2]⟩
                exact done (y ++ ⟨#[c2]⟩) _ _ _ ⟨y1.app (low_one c297), by omega, by omega⟩ (form_ge y5 (by omega) (fun e => by have := hm26 e; omega) (by rw [cs_app, abc_code2 (by omega) hc2]))
        · have Y : NameI (cutS z none (some (cut : Int)) ++ lt) i ∧ BaseF md (cs (cutS z none (some (cut : Int)))) bg st i (cutS z none (some (cut : Int)) ++ lt) := ⟨Y0, .inr ⟨by rw [← hmd, Bool.eq_false_iff.mpr hw, Bool.false_and], by rw [cs_app, ec]⟩⟩
          revert Y
          generalize (cutS z none (some (cut : Int)) ++ lt) = y
          intro Y
          obtain ⟨⟨y1, y2, y3, y4⟩, y5⟩ := Y
          have done : ∀ (u : Str) (x8 x10 x11 : Option V), NameZ u → Form md (cs (cutS z none (some (cut : Int)))) bg st i u → ∃ (zs' : List Str) (x8' x10' x11' : Option V), [some (V.ref b), some (.int (m : Int)), some (.str abc), some (.int (way : Int)), some (.int (cut : Int)), some (.int (bg : Int)), some (.int (st : Int)), some (.str z), x8, some (.ref D), x10, x11] = [some (.ref b), some (.int (m : Int)), some (.str abc), some (.int (way : Int)), some (.int (cut : Int)), some (.int (bg : Int)), some (.int (st : Int)), some (.str z), x8', some (.ref D), x10', x11'] ∧
              upd H2 D (.lst (zs.map V.str ++ [.str u])) D = some (.lst (zs'.map V.str)) ∧ zs'.length = i + 1 ∧ (∀ y ∈ zs', NameZ y) ∧ (∀ (k : Nat) (y : Str), zs'[k]? = some y → Form md (cs (cutS z none (some (cut : Int)))) bg st k y) ∧ BoxAt (upd H2 D (.lst (zs.map V.str ++ [.str u]))) b (n + 11) ∧ But b H (upd H2 D (.lst (zs.map V.str ++ [.str u]))) := fun u x8 x10 x11 hu hu2 => by
            refine ⟨zs ++ [u], x8, x10, x11, rfl, ?_, ?_, fun v hv => ?_, form_app hlz hf hu2, box_upd B2 nD, but_upd k2 fD⟩
            · rw [upd_same, List.map_append]
              rfl
            · rw [List.length_append, hlz]
              rfl
            · rcases List.mem_append.mp hv with hv | hv
              · exact hy v hv
              · rw [List.mem_singleton.mp hv]
                exact hu
          have room : (zs.map V.str).length < sizeLine := by
            rw [List.length_map]
            exact small1000 (by omega)
          refine ⟨_, rfl, .inl ⟨rfl, _, .of e2⟩, _, rfl, _, _, rfl, rfl, _, rfl, ite2 (fun h26 => ?_) (fun h26 => ?_)⟩
          · exact ⟨_, rfl, D, _, _, rfl, rfl, e2, room, done y _ _ _ ⟨y1, y2, y3⟩ (form_lt y5 (by have := of_decide_eq_true h26; omega))⟩
          · have h26' : ¬ ((0 + (i : Int)) < 26) := fun h => h26 (decide_eq_true h)
            have yl := y4 (by omega)
            have hd : (0 + (i : Int)) / 26 = ((i / 26 : Nat) : Int) := by omega
            obtain ⟨c2, hc2, c297⟩ := abc_at (j := i / 26) (by omega)
            refine ⟨_, rfl, _, rfl, _, rfl, _, _, rfl, rfl, ⟨by decide, by decide⟩, _, _, c2, rfl, rfl, by omega, by omega, (show _ < ((26 : Nat) : Int) by omega), (by rw [hd]; exact hc2), _, _, rfl, rfl, ?_, D, _, _, rfl, rfl, e2, room, ?_⟩
            · show y.length + 1 ≤ sizeLine
              exact small_size (by omega)
            · have l2 : (y ++ (⟨#[c2]⟩ : Str)).length = y.length + 1 := app_len y ⟨#[c2]⟩
              exact done (y ++ ⟨#[c2]⟩) _ _ _ ⟨y1.app (low_one c297), by omega, by omega⟩ (form_ge y5 (by omega) (fun e => by have := hm26 e; omega) (by rw [cs_app, abc_code2 (by omega) hc2]))
      · rintro σ H2 ⟨zs, x8, x10, x11, rfl, e2, hlz, hy, hf, B2, k2⟩
        exact ⟨_, rfl, q D H2 zs hlz hy (form_nodup hcop hf (by omega)) fD e2 (B2.mono (by omega)) k2⟩
    obtain ⟨tl, pl, ql⟩ : ∃ t, PSs (cxOf CX0 P w K mg base nNames "_law_names" (defScope sNames) f cdv A outer s H E).nox ((defBody sNames).drop 2) t ∧
        ∀ (way cut bg : Nat) (H1 : Hp), cut ≤ 7 → (26 < m → cut ≤ 6) → bg < 26 → BoxAt H1 b (n + 3) → But b H H1 → t { nx := fun _ H' => Q .non H', rt := Q } [some (.ref b), some (.int (m : Int)), some (.str abc), some (.int (way : Int)), some (.int (cut : Int)), some (.int (bg : Int)), none, none, none, none, none, none] H1 := by
      refine ⟨_, pss_cons (ps_asg (pe_tup (pa_cons (pe_ix ix_list (pe_lst (pa_cons pe_int (pa_cons pe_int (pa_cons pe_int (pa_cons pe_int (pa_cons pe_int (pa_cons pe_int (pa_cons pe_int (pa_cons pe_int pa_nil)))))))))
          (pe_call GT hr1 rfl gT T.kp bT .nil pass0 (pa_cons (pv 0) (pa_cons pe_int pa_nil))) (fun _ _ => rfl)) (pa_cons pe_str pa_nil)))
        (pg_tup (by rfl) (pgs_cons (pg_name (i := 6) scNames.nd rfl (.inl rfl)) (pgs_cons (pg_name (i := 7) scNames.nd rfl (.inr rfl)) pgs_nil))))
      (pss_cons (ps_for PassesOwn.never rfl (pi_range1 rfl mr (pa_cons pe_int pa_nil)) (pg_name (i := 8) scNames.nd rfl (.inl rfl))
        (pss_one (ps_set (i := 7) scNames.nd rfl (.inr rfl) (pe_op op_add_str (pv 7) (pe_item_str (pv 2) (pe_call GT hr1 rfl gT T.kp bT .nil pass0 (pa_cons (pv 0) (pa_cons pe_int pa_nil))) (fun _ _ => rfl))))))
      (pss_cons (ps_if (PW.pt (pw_and (pt_cmpR op_eq (pv 3) pe_int (nomark _)) (pw_and1 (pt_cmpR op_lt (pv 1) pe_int (nomark _)))))
        (pss_one (ps_ret (pe_call GM hr rfl gM M.kp bM .nil pass0 (pa_cons (pv 0) (pa_cons (pe_lc (own := [("_law_k", 8)]) (g := gName 8) (tt := tYes) (by rfl) scNames.nd (pi_range1 rfl mr (pa_cons (pv 1) pa_nil))
          (blkOk_by (own := [("_law_k", 8)]) (N := nNames) (sc := defScope sNames) (by decide +kernel)) (fun _ _ _ _ _ => pg_name (i := 8) scNames.nd rfl (.inl rfl)) (fun _ _ _ _ _ => pts_nil)
          (fun _ _ _ _ _ => pe_slice sl_str (pe_op op_add_str (pv 7) (pe_item_str (pv 2) (pv 5) (fun _ _ => rfl))) po_none (po_some (pe_op op_add (pv 8) pe_int)))) pa_nil))))) pss_nil)
      psl)), ?_⟩
      intro way cut bg H1 hcut hcut2 hbg B1 k1
      refine ⟨(by show 8 ≤ sizeLine; decide), fun p1 hp1 => ?_⟩
      have np1 := box_ne B1 hp1
      refine ⟨_, rfl, b, 8, n + 3, rfl, box_new B1 hp1, by omega, by decide, by decide, fun r H2 r0 r1 B2 k2 => ?_⟩
      obtain ⟨j, rfl, hj⟩ := draw_at (n := 8) r0 r1 rfl
      have e2 := k2 _ _ np1 upd_same
      have kk2 : But b H H2 := (k1.trans (But.new hp1)).trans k2
      obtain ⟨st, hst, hst17⟩ : ∃ st : Nat, ([.int 1, .int 3, .int 5, .int 7, .int 9, .int 11, .int 15, .int 17] : List V)[j]? = some (.int (st : Int)) ∧ Cop st := by
        match j, hj with
        | 0, _ => exact ⟨1, rfl, by unfold Cop; decide⟩
        | 1, _ => exact ⟨3, rfl, by unfold Cop; decide⟩
        | 2, _ => exact ⟨5, rfl, by unfold Cop; decide⟩
        | 3, _ => exact ⟨7, rfl, by unfold Cop; decide⟩
        | 4, _ => exact ⟨9, rfl, by unfold Cop; decide⟩
        | 5, _ => exact ⟨11, rfl, by unfold Cop; decide⟩
        | 6, _ => exact ⟨15, rfl, by unfold Cop; decide⟩
        | 7, _ => exact ⟨17, rfl, by unfold Cop; decide⟩
      refine ⟨p1, _, _, .int (st : Int), rfl, rfl, .of e2, atI_nat hst, (by show 2 ≤ sizeLine; decide), fun p2 hp2 => ?_⟩
      have np2 := box_ne B2 hp2
      refine ⟨p2, _, rfl, .of upd_same, rfl, _, _, rfl, _, _, rfl, rfl, ?_⟩
      have B3 : BoxAt (upd H2 p2 (.tup [.int (st : Int), .str ""])) b (n + 4) := box_new B2 hp2
      have k3 : But b H (upd H2 p2 (.tup [.int (st : Int), .str ""])) := kk2.trans (But.new hp2)
      generalize upd H2 p2 (.tup [.int (st : Int), .str ""]) = H3 at B3 k3
      -- the stem
      refine ⟨_, rfl, by decide, by decide, ?_⟩
      refine for_range (lo := 0) (n := 7) (fun i σ H4 => ∃ (z : Str) (x8 : Option V), σ = [some (.ref b), some (.int (m : Int)), some (.str abc), some (.int (way : Int)), some (.int (cut : Int)), some (.int (bg : Int)), some (.int (st : Int)), some (.str z), x8, none, none, none] ∧ LowZ z ∧ z.length = i ∧ BoxAt H4 b (n + 4 + i) ∧ But b H H4) ?_ ?_ ?_
      · exact ⟨"", none, rfl, (fun c h => nomatch h), rfl, B3, k3⟩
      · rintro i σ H4 hi ⟨z, x8, rfl, hz, hl, B4, k4⟩
        refine ⟨_, rfl, _, rfl, _, rfl, b, 26, n + 4 + i, rfl, B4, by omega, by decide, by decide, fun r H5 r0 r1 B5 k5 => ?_⟩
        obtain ⟨j, rfl, hj⟩ := draw_at (n := 26) r0 r1 rfl
        obtain ⟨c, hc, c97⟩ := abc_at hj
        refine ⟨_, _, c, rfl, rfl, by omega, by omega, (show ((j : Nat) : Int) < ((26 : Nat) : Int) by omega), hc, ?_⟩
        refine ⟨_, _, rfl, rfl, ?_, ?_⟩
        · show z.length + 1 ≤ sizeLine
          rw [sizeLine_eq]
          omega
        · refine ⟨z ++ ⟨#[c]⟩, _, rfl, hz.app (low_one c97), ?_, B5, k4.trans k5⟩
          rw [app_len, hl]
          rfl
      · rintro σ H4 ⟨z, x8, rfl, hz, hl, B4, k4⟩
        -- from here on two ways
        have namesOf : ∀ (zs : List Str) (qs : List Vd), qs.Perm (zs.map fun z => (V.str z, PyData.str z)) → (∀ z ∈ zs, NameZ z) →
            ∃ ys : List Str, qs.map (·.1) = ys.map V.str ∧ ys.length = zs.length ∧ ∀ y ∈ ys, NameZ y := fun zs qs pm hz => by
          have each : ∀ x ∈ qs, ∃ y, x = (V.str y, PyData.str y) ∧ NameZ y := fun x hx => by
            obtain ⟨y, hy, e⟩ := List.mem_map.mp (pm.mem_iff.mp hx)
            exact ⟨y, e.symm, hz y hy⟩
          have hlen : qs.length = zs.length := by
            rw [pm.length_eq, List.length_map]
          rw [← hlen]
          clear pm hlen
          induction qs with
          | nil => exact ⟨[], rfl, rfl, fun y hy => nomatch hy⟩
          | cons x qs ih =>
            obtain ⟨y, rfl, hy⟩ := each x List.mem_cons_self
            obtain ⟨ys, e1, e2, e3⟩ := ih fun x hx => each x (List.mem_cons_of_mem _ hx)
            refine ⟨y :: ys, ?_, congrArg (· + 1) e2, fun u hu => ?_⟩
            · rw [List.map_cons, e1]
              rfl
            · rcases List.mem_cons.mp hu with rfl | hu
              · exact hy
              · exact e3 u hu
        have mInt : (m : Int).toNat = m := Int.toNat_natCast m
        refine ⟨_, rfl, rfl, _, rfl, ite2 (fun _ => ?_) (fun _ => ?_)⟩
        · refine ⟨_, rfl, _, _, rfl, rfl, _, rfl, ite2 (fun h9 => ?_) (fun _ => ?_)⟩
          · have hm9 : (m : Int) < 9 := of_decide_eq_true h9
            refine ⟨_, rfl, _, rfl, _, rfl, by omega, by omega, fun D hD => ?_⟩
            have nD := box_ne B4 hD
            have fD := free_of k4 nD hD
            rw [mInt]
            refine lc_range (lo := 0) (n := m) (fun i H5 => ∃ ys : List Str, H5 D = some (.lst (ys.map V.str)) ∧ ys.length = i ∧ (∀ y ∈ ys, NameZ y) ∧ (∀ (k : Nat) (y : Str), ys[k]? = some y → y.length = k + 1) ∧ BoxAt H5 b (n + 11) ∧ But b H H5) ?_ ?_ ?_
            · exact ⟨[], upd_same, rfl, (fun y h => nomatch h), (fun k y h => by simp at h), box_new B4 hD, but_upd k4 fD⟩
            · rintro i H5 hi ⟨ys, e5, hl5, hy, hf5, B5, k5⟩
              refine ⟨rfl, ?_⟩
              unfold tYes
              dsimp only
              rw [if_pos rfl]
              obtain ⟨c, hc, c97⟩ := abc_at hbg
              refine ⟨_, rfl, _, rfl, _, rfl, _, _, c, rfl, rfl, by omega, by omega, (show ((bg : Nat) : Int) < ((26 : Nat) : Int) by omega), hc, _, _, rfl, rfl, ?_, ?_⟩
              · show z.length + 1 ≤ sizeLine
                rw [sizeLine_eq]
                omega
              have lz : (z ++ ⟨#[c]⟩).length = 8 := by
                rw [app_len, hl]
                rfl
              refine ⟨_, rfl, _, _, rfl, rfl, _, rfl, _, rfl, small_size (by omega), ?_⟩
              have e0 : (0 + (i : Int) + 1 : Int) = ((i + 1 : Nat) : Int) := by omega
              rw [e0]
              have cl := cut_len (z ++ ⟨#[c]⟩) (i + 1)
              refine ⟨_, e5, ?_, ys ++ [cutS (z ++ ⟨#[c]⟩) none (some ((i + 1 : Nat) : Int))], ?_, ?_, ?_, form_app (G := fun k y => y.length = k + 1) hl5 hf5 (by show (cutS (z ++ ⟨#[c]⟩) none (some ((i + 1 : Nat) : Int))).length = i + 1; omega), ?_, ?_⟩
              · rw [List.length_map]
                exact small1000 (by omega)
              · rw [upd_same, List.map_append]
                rfl
              · rw [List.length_append, hl5]
                rfl
              · intro y h
                rcases List.mem_append.mp h with h | h
                · exact hy y h
                · rw [List.mem_singleton.mp h]
                  exact ⟨(hz.app (low_one c97)).cut _ _, by omega, by omega⟩
              · exact box_upd B5 nD
              · exact but_upd k5 fD
            · rintro H5 ⟨ys, e5, hl5, hy, hf5, B5, k5⟩
              refine ⟨b, D, n + 11, ys.map fun z => (V.str z, PyData.str z), rfl, B5, ?_, .inl (.of ?_), ?_, fun p H6 qs pm np e6 B6 k6 => ?_⟩
              · rw [List.length_map]
                omega
              · rw [e5, List.map_map]
                rfl
              · intro x hx
                obtain ⟨y, hyy, rfl⟩ := List.mem_map.mp hx
                exact ⟨(hy y hyy).1.lay, fun H' _ => .str y⟩
              · obtain ⟨us, u1, u2, u3⟩ := namesOf ys qs pm hy
                rw [u1] at e6
                rw [List.length_map, hl5] at B6
                exact q p H6 us (u2.trans hl5) u3 (perm_nodup pm u1 (len_nodup hf5)) (free_of k5 (box_ne B5 np) np) e6 B6 (k5.trans k6)
          · exact qsl way cut bg st z x8 H4 hcut hcut2 hbg hst17 hz hl B4 k4
        · exact qsl way cut bg st z x8 H4 hcut hcut2 hbg hst17 hz hl B4 k4
    refine ⟨_, pss_cons (ps_set (i := 2) scNames.nd rfl (.inr rfl) pe_str)
      (pss_cons (ps_asg (pe_tup (pa_cons (pe_call GT hr1 rfl gT T.kp bT .nil pass0 (pa_cons (pv 0) (pa_cons pe_int pa_nil)))
          (pa_cons (pe_call GT hr1 rfl gT T.kp bT .nil pass0 (pa_cons (pv 0) (pa_cons (pe_ifExp (pt_cmpR op_lt (pv 1) pe_int (nomark _)) pe_int pe_int) pa_nil)))
          (pa_cons (pe_call GT hr1 rfl gT T.kp bT .nil pass0 (pa_cons (pv 0) (pa_cons pe_int pa_nil))) pa_nil))))
        (pg_tup (by rfl) (pgs_cons (pg_name (i := 3) scNames.nd rfl (.inl rfl)) (pgs_cons (pg_name (i := 4) scNames.nd rfl (.inl rfl)) (pgs_cons (pg_name (i := 5) scNames.nd rfl (.inr rfl)) pgs_nil))))) pl), ?_⟩
    refine ⟨_, rfl, b, 4, n, rfl, B, by omega, by decide, by decide, fun way H1 w0 w1 B1 k1 => ?_⟩
    obtain ⟨way, rfl, _⟩ := draw_at (n := 4) w0 w1 rfl
    refine ⟨_, rfl, _, rfl, _, _, rfl, rfl, _, rfl, ite2 (fun hm27 => ?_) (fun hm27 => ?_)⟩
    · refine ⟨b, 8, n + 1, rfl, B1, by omega, by decide, by decide, fun cut H2 c0 c1 B2 k2 => ?_⟩
      obtain ⟨cut, rfl, hcut⟩ := draw_at (n := 8) c0 c1 rfl
      refine ⟨_, rfl, b, 26, n + 2, rfl, B2, by omega, by decide, by decide, fun bg H3 g0 g1 B3 k3 => ?_⟩
      obtain ⟨bg, rfl, hbg⟩ := draw_at (n := 26) g0 g1 rfl
      refine ⟨(by show 3 ≤ sizeLine; decide), fun p hp => ⟨p, _, rfl, .of upd_same, rfl, _, _, rfl, _, _, rfl, _, _, rfl, rfl, ?_⟩⟩
      have hm' : (m : Int) < 27 := of_decide_eq_true hm27
      exact ql way cut bg _ (by omega) (by omega) hbg (box_new B3 hp) (((k1.trans k2).trans k3).trans (But.new hp))
    · refine ⟨b, 7, n + 1, rfl, B1, by omega, by decide, by decide, fun cut H2 c0 c1 B2 k2 => ?_⟩
      obtain ⟨cut, rfl, hcut⟩ := draw_at (n := 7) c0 c1 rfl
      refine ⟨_, rfl, b, 26, n + 2, rfl, B2, by omega, by decide, by decide, fun bg H3 g0 g1 B3 k3 => ?_⟩
      obtain ⟨bg, rfl, hbg⟩ := draw_at (n := 26) g0 g1 rfl
      refine ⟨(by show 3 ≤ sizeLine; decide), fun p hp => ⟨p, _, rfl, .of upd_same, rfl, _, _, rfl, _, _, rfl, _, _, rfl, rfl, ?_⟩⟩
      exact ql way cut bg _ (by omega) (by omega) hbg (box_new B3 hp) (((k1.trans k2).trans k3).trans (But.new hp))
end
end G
set_option Elab.async false
set_option linter.all false
set_option maxRecDepth 100000
set_option maxHeartbeats 2000000
/-! O4: dicts of ints compared; a list compared with an empty one; things in a drawn order. -/
namespace G
open PySem PySem.Spec PyProof.Rows L2
def dEq (ks ls : List (Key × V)) : Bool := ks.length == ls.length && ks.all fun p => decide (valV ls p.1 = some p.2)
def AllInt (ks : List (Key × V)) : Prop := ∀ p ∈ ks, ∃ i, p.2 = V.int i
theorem int_valV {ls : List (Key × V)} (h : AllInt ls) {k : Key} {v : V} (e : valV ls k = some v) : ∃ i, v = V.int i := by
  have h2 : Option.map (fun p : Key × V => p.2) (ls.find? fun kv => decide (kv.1 = k)) = some v := e
  obtain ⟨p, hp, rfl⟩ := Option.map_eq_some_iff.mp h2
  exact h p (List.mem_of_find?_eq_some hp)
theorem hits_int {A : Around} {s : Shared} {ls : List (Key × V)} {vb : List (Key × Value)} (rb : KV ls vb) (hl : AllInt ls) {ks : List (Key × V)} {va : List (Key × Value)} (ra : KV ks va) :
    AllInt ks → PySem.W.KeqHits A s vb va (ks.all fun p => decide (valV ls p.1 = some p.2)) := by
  unfold KV at ra
  induction ra with
  | nil => intro _; exact .nil
  | @cons p q ps qs h t ih =>
    intro hp
    obtain ⟨h1, h2⟩ := h
    obtain ⟨i, ei⟩ := hp p List.mem_cons_self
    have ih' := ih fun p' hm => hp p' (List.mem_cons_of_mem _ hm)
    obtain ⟨k, v⟩ := q
    have h1' : p.1 = k := h1
    subst h1'
    rw [ei] at h2
    obtain ⟨t1, rfl⟩ := (show ∃ t, v = Value.int i t from h2)
    rw [List.all_cons]
    cases e : valV ls p.1 with
    | none =>
      have rr : RelO none (valueAt vb p.1) := by rw [← e]; exact rb.val p.1
      have hn : valueAt vb p.1 = none := by
        cases z : valueAt vb p.1 with
        | none => rfl
        | some y =>
          rw [z] at rr
          exact rr.elim
      rw [decide_eq_false (show ¬ (none = some p.2) from fun z => nomatch z), Bool.false_and]
      exact .miss hn
    | some x =>
      obtain ⟨j, rfl⟩ := int_valV hl e
      have rr : RelO (some (.int j)) (valueAt vb p.1) := by rw [← e]; exact rb.val p.1
      obtain ⟨y, hy, ry⟩ := rr.some_of
      obtain ⟨t2, rfl⟩ := (show ∃ t, y = Value.int j t from ry)
      rw [ei]
      have q := SeqAt.EqAt.int_int (A := A) (s := s) i t1 j t2
      have e2 : decide (some (V.int j) = some (V.int i)) = (i == j) := by
        by_cases z : i = j
        · rw [z, decide_eq_true rfl]
          exact (beq_self_eq_true _).symm
        · rw [decide_eq_false fun h => z (V.int.inj (Option.some.inj h)).symm]
          exact (Bool.eq_false_iff.mpr fun h => z (beq_iff_eq.mp h)).symm
      rw [e2]
      exact .hit hy q ih'
section
variable {X : Cx}
def rNeDI : R2 := fun x y H Q => ∃ a b ks ls, x = .ref a ∧ y = .ref b ∧ H a = some (.dK ks) ∧ H b = some (.dK ls) ∧ AllInt ks ∧ AllInt ls ∧ Q (.bl (!dEq ks ls)) H
theorem op_neDI (hu : X.A.units < cLine) : OpR X (compareOp .NotEq) rNeDI := by
  intro pins s σ H x y v u Q I rx ry h
  obtain ⟨a, b, ks, ls, rfl, rfl, ea, eb, ik, il, q⟩ := h
  obtain rfl : v = Value.ref a := rx
  obtain rfl : u = Value.ref b := ry
  obtain ⟨_, ya, va, ra, da⟩ := (show ObjOk X.prog X.w H s.heap a (.dK ks) from I.hok a _ ea)
  obtain ⟨_, yb, vb, rb, db⟩ := (show ObjOk X.prog X.w H s.heap b (.dK ls) from I.hok b _ eb)
  have e : dEq ks ls = (va.length == vb.length && ks.all fun p => decide (valV ls p.1 = some p.2)) := by
    rw [← ra.length, ← rb.length]
    rfl
  exact PySem.W.keq_ne (knd := mixKind X.prog X.w) ya yb da db hu (fun _ => hits_int rb il ra ik) (fin_bl I q (by rw [e]))
def rNeNil (K : PySem.W.Frag) : R2 := fun x y H Q => ∃ a b xs, x = .ref a ∧ y = .ref b ∧ SqL K H a xs ∧ SqL K H b [] ∧ Q (.bl (!xs.isEmpty)) H
theorem op_neNil (hu : X.A.units < cLine) : OpR X (compareOp .NotEq) (rNeNil X.K) := by
  intro pins s σ H x y v u Q I rx ry h
  obtain ⟨a, b, xs, rfl, rfl, ha, hb, q⟩ := h
  cases (show v = Value.ref a from rx)
  cases (show u = Value.ref b from ry)
  obtain ⟨us, r1, p1, _⟩ := I.list ha
  obtain ⟨ws, r2, p2, _⟩ := I.list hb
  cases r2
  cases xs with
  | nil =>
    cases r1
    refine SeqAt.RcNeAt.lists (e := fun _ => true) p1.isList p2.isList rfl hu (fun j h1 h2 => absurd h1 (Nat.not_lt_zero j)) X.prog X.w _ _ ?_
    exact ⟨.bl false, H, I, rfl, q⟩
  | cons x xs =>
    refine SeqAt.RcNeAt.lists_lengths p1.isList p2.isList ?_ hu X.prog X.w _ _ ?_
    · have := r1.length
      rw [List.length_cons] at this
      rw [List.size_toArray, List.size_toArray, ← this]
      rfl
    · exact ⟨.bl true, H, I, rfl, q⟩
end
/-- things in a drawn order -/
def spMixR (K : PySem.W.Frag) : Sp := fun vs H Q _ => ∃ (b a : Addr) (n : Nat) (xs : List V), vs = [.ref b, .ref a] ∧ BoxAt H b n ∧ n + xs.length ≤ 100000 ∧ SqL K H a xs ∧
  ∀ (p : Addr) (H' : Hp) (ys : List V), ys.Perm xs → H p = none → H' p = some (.lst ys) → BoxAt H' b (n + xs.length) → But b H H' → Q (.ref p) H'
section
variable {P : Program} {w : World} {K : PySem.W.Frag} {mg : Str → Option Value} {base : Heap}
theorem ok_mixR {f fT : Addr} {fd fdT : FuncData} (F : Fun K "_law_mixed" "_law_mixed" sMixed f fd) (T : Fun K "_law_take" "_law_take" sTake fT fdT) (bT : Binds K fdT ["_law_box_here", "_law_many"] []) (gT : mg "_law_take" = some (.ref fT))
    (ml : mg "len" = none) (mL : mg "list" = none) : FnOk P w K mg base CX0 2 f fd ["_law_box_here", "_law_some"] (spMixR K) := by
  refine F.ok scMixed (fun vs H Q E h => ?_) (fun cdv A outer s H vs Q E hr h => ?_)
  · obtain ⟨b, a, n, ps, rfl, _⟩ := h
    rfl
  · obtain ⟨b, a, n, ps, rfl, B, hn, hS, q⟩ := h
    have big : ∀ {k : Nat}, k ≤ 100000 → k < sizeLine := fun {k} h => by
      rw [sizeLine_eq]
      omega
    refine ⟨_, pss_cons (ps_par (i := 2) (j := 3) (by rfl) scMixed.nd rfl rfl (by decide) rfl rfl (pa_cons (pe_callTy call_list_of (by rfl) mL (by decide +kernel) (pa_cons (pv 1) pa_nil)) (pa_cons (pe_lst pa_nil) pa_nil)) (by rfl))
      (pss_cons (ps_while PassesOwn.never (pt_cmpR (op_neNil (Nat.lt_of_succ_lt (hu_of hr))) (pv 2) (pe_lst pa_nil) (nomark _))
        (pss_one (ps_expr (pe_bm PySem.F.plainAttrs_list PySem.F.slot_list_append PySem.F.type_list_append mt_append (pv 3) (pa_cons
          (pe_bm PySem.F.plainAttrs_list PySem.F.slot_list_pop PySem.F.type_list_pop mt_popAt (pv 2)
            (pa_cons (pe_call (ok_take T) hr rfl gT T.kp bT .nil pass0 (pa_cons (pv 0) (pa_cons (pe_callB call_len_seq (by rfl) ml PySem.boot_len (pa_cons (pv 2) pa_nil)) pa_nil))) pa_nil)) pa_nil)))))
      (pss_one (ps_ret (pv 3)))), ?_⟩
    refine ⟨_, rfl, a, _, rfl, .inl hS, fun l hl => ⟨by decide, fun p hp0 => ⟨_, _, rfl, ?_⟩⟩⟩
    have nlp : l ≠ p := fun z => by
      rw [z, upd_same] at hp0
      cases hp0
    have hpn : H p = none := (upd_ne nlp.symm).symm.trans hp0
    have nbl : b ≠ l := by
      obtain ⟨_, _, _, e, _⟩ := B
      exact ne_of_none e hl
    have nbp : b ≠ p := by
      obtain ⟨_, _, _, e, _⟩ := B
      exact ne_of_none e hpn
    refine ⟨fun m σ H1 => ∃ qs rs : List V, m = qs.length ∧ σ = [some (.ref b), some (.ref a), some (.ref l), some (.ref p)] ∧ H1 l = some (.lst qs) ∧ H1 p = some (.lst rs) ∧
        (rs ++ qs).Perm ps ∧ BoxAt H1 b (n + rs.length) ∧ But b H H1, ⟨ps.length, ps, [], rfl, rfl, ?_, upd_same, .refl _, ?_, ?_⟩, ?_⟩
    · rw [upd_ne nlp, upd_same]
    · exact (B.keep fun o e => by rw [upd_ne nbp, upd_ne nbl]; exact e).mono (Nat.le_add_right _ _)
    · exact (But.new hl).trans (But.new hp0)
    · rintro m σ H1 ⟨qs, rs, rfl, rfl, el, ep, pm, B1, s1⟩
      have hlen : rs.length + qs.length = ps.length := by
        rw [← List.length_append]
        exact pm.length_eq
      refine ⟨_, rfl, by decide, fun t ht => ?_⟩
      have nlt : l ≠ t := ne_of_none el ht
      have s2 : But b H (upd H1 t (.lst [])) := s1.trans (But.new ht)
      refine ⟨l, t, qs, rfl, rfl, .of ((upd_ne nlt).trans el), .of upd_same, _, rfl, ?_⟩
      · cases qs with
        | nil =>
          refine iteF ?_
          refine ⟨_, rfl, ?_⟩
          rw [List.append_nil] at pm
          refine q p _ rs pm hpn ?_ ?_ s2
          · rw [upd_ne (ne_of_none ep ht)]
            exact ep
          · have e : rs.length = ps.length := pm.length_eq
            rw [← e]
            exact B1.keep fun o e => by rw [upd_ne (ne_of_none e ht)]; exact e
        | cons y ys =>
          refine iteT ?_
          have hlen' : rs.length + (ys.length + 1) = ps.length := hlen
          refine ⟨fun σ' H' => ∃ m', m' < (y :: ys).length ∧ ∃ qs rs : List V, m' = qs.length ∧ σ' = [some (.ref b), some (.ref a), some (.ref l), some (.ref p)] ∧ H' l = some (.lst qs) ∧ H' p = some (.lst rs) ∧
            (rs ++ qs).Perm ps ∧ BoxAt H' b (n + rs.length) ∧ But b H H', fun _ _ h => h, ?_⟩
          have ep2 : upd H1 t (.lst []) p = some (.lst rs) := by
            rw [upd_ne (ne_of_none ep ht)]
            exact ep
          have el2 : upd H1 t (.lst []) l = some (.lst (y :: ys)) := by
            rw [upd_ne nlt]
            exact el
          have B2 : BoxAt (upd H1 t (.lst [])) b (n + rs.length) := B1.keep fun o e => by rw [upd_ne (ne_of_none e ht)]; exact e
          refine ⟨_, rfl, .inl ⟨rfl, _, .of ep2⟩, _, rfl, .inl ⟨rfl, _, .of el2⟩, _, rfl, _, rfl, l, _, rfl, .inl (.of el2), b, _, n + rs.length, rfl, B2, by omega, ?_, ?_, fun r H3 r0 r1 B3 s3 => ?_⟩
          · show (0 : Int) < ((ys.length + 1 : Nat) : Int)
            omega
          · show ((ys.length + 1 : Nat) : Int) < _
            have : ys.length + 1 ≤ 100000 := by omega
            omega
          · obtain ⟨j, rfl, hj⟩ := draw_at r0 r1 (n := (y :: ys).length) rfl
            have el3 : H3 l = some (.lst (y :: ys)) := s3 _ _ nbl.symm el2
            have ep3 : H3 p = some (.lst rs) := s3 _ _ nbp.symm ep2
            have hj5 : j < 100000 := by
              have e : (y :: ys).length = ys.length + 1 := rfl
              omega
            refine ⟨l, _, (j : Int), j, (y :: ys)[j], rfl, rfl, el3, by omega, by omega, ?_, ?_, ?_⟩
            · have := PySem.seqIndex_of (k := (j : Int)) (n := (y :: ys).length) (by omega) (by omega)
              rw [this]
              rfl
            · exact List.getElem?_eq_getElem hj
            · refine ⟨p, _, _, rfl, rfl, by rw [upd_ne nlp.symm]; exact ep3, ?_, ?_⟩
              · exact big (by omega)
              · refine ⟨((y :: ys).eraseIdx j).length, ?_, (y :: ys).eraseIdx j, rs ++ [(y :: ys)[j]], rfl, rfl, ?_, ?_, ?_, ?_, ?_⟩
                · rw [List.length_eraseIdx, if_pos hj]
                  show (ys.length + 1) - 1 < ys.length + 1
                  omega
                · rw [upd_ne nlp, upd_same]
                · rw [upd_same]
                · rw [List.append_assoc]
                  refine List.Perm.trans (List.Perm.append_left rs ?_) pm
                  exact erase_perm hj
                · rw [List.length_append, List.length_singleton]
                  exact B3.keep fun o e => by rw [upd_ne nbp, upd_ne nbl]; exact e
                · intro c o nc e
                  have e3 := (s2.trans s3) c o nc e
                  rw [upd_ne (ne_of_none e hpn), upd_ne (ne_of_none e hl)]
                  exact e3
end
end G
set_option Elab.async false
set_option linter.all false
set_option maxRecDepth 100000
set_option maxHeartbeats 4000000
/-! RC1: records as pairs; checked_pairs. -/
namespace G
open PySem PySem.Spec PyProof.Rows L2 NdefX
theorem ne_if {A B : Prop} {x y : V} (e : x = y) (h : B) : if (!decide (x = y)) = true then A else B := by
  rw [decide_eq_true e]
  exact iteF h
theorem ifN {A B : Prop} {c : Bool} (e : c = false) (h : B) : if c = true then A else B := by
  rw [e]
  exact iteF h
theorem ifY {A B : Prop} {c : Bool} (e : c = true) (h : A) : if c = true then A else B := by
  rw [e]
  exact iteT h
/-- a key and its value -/
abbrev Pr : Type := Str × List (Key × V)
def PrAt (H : Hp) (t : Addr) (p : Pr) : Prop := ∃ d, H t = some (.tup [.str p.1, .ref d]) ∧ H d = some (.dK p.2)
def AllPr (H : Hp) : List Addr → List Pr → Prop
  | [], [] => True
  | t :: ts, p :: ps => PrAt H t p ∧ AllPr H ts ps
  | _, _ => False
/-- what is never changed here -/
def stillF : HO → Bool
  | .ins _ _ _ => true
  | .tup _ => true
  | .dK _ => true
  | _ => false
def SF (H H' : Hp) : Prop := ∀ p o, H p = some o → stillF o = true → H' p = some o
theorem SF.of_same {H H' : Hp} (s : Same H H') : SF H H' := fun p o e _ => s p o e
theorem SF.trans {H H1 H2 : Hp} (a : SF H H1) (b : SF H1 H2) : SF H H2 := fun p o e z => b p o (a p o e z) z
theorem SF.put {H : Hp} {l : Addr} {xs : List V} {u : HO} (e : H l = some (.lst xs)) : SF H (upd H l u) := fun p o ec hv => by
  refine (upd_ne fun z => ?_).trans ec
  rw [z, e] at ec
  rw [← Option.some.inj ec] at hv
  cases hv
theorem SF.of_but {H H' : Hp} {b : Addr} {n : Nat} (B : BoxAt H b n) (k : But b H H') : SF H H' := fun p o e z => k p o (fun q => by
  obtain ⟨_, _, _, eb, _⟩ := B
  rw [q, eb] at e
  rw [← Option.some.inj e] at z
  cases z) e
theorem PrAt.sf {H H' : Hp} (s : SF H H') {t : Addr} {p : Pr} : PrAt H t p → PrAt H' t p := fun ⟨d, e1, e2⟩ => ⟨d, s _ _ e1 rfl, s _ _ e2 rfl⟩
theorem AllPr.sf {H H' : Hp} (s : SF H H') : ∀ {ts : List Addr} {ps : List Pr}, AllPr H ts ps → AllPr H' ts ps
  | [], [], _ => trivial
  | _ :: _, _ :: _, h => ⟨h.1.sf s, AllPr.sf s h.2⟩
  | [], _ :: _, h => h.elim
  | _ :: _, [], h => h.elim
theorem AllPr.len {H : Hp} : ∀ {ts : List Addr} {ps : List Pr}, AllPr H ts ps → ts.length = ps.length
  | [], [], _ => rfl
  | _ :: ts, _ :: ps, h => by
    rw [List.length_cons, List.length_cons, AllPr.len h.2]
  | [], _ :: _, h => h.elim
  | _ :: _, [], h => h.elim
theorem AllPr.app {H : Hp} : ∀ {ts us : List Addr} {ps qs : List Pr}, AllPr H ts ps → AllPr H us qs → AllPr H (ts ++ us) (ps ++ qs)
  | [], _, [], _, _, h => h
  | _ :: _, _, _ :: _, _, h, h2 => ⟨h.1, AllPr.app h.2 h2⟩
  | [], _, _ :: _, _, h, _ => h.elim
  | _ :: _, _, [], _, h, _ => h.elim
theorem AllPr.get {H : Hp} : ∀ {ts : List Addr} {ps : List Pr} {i : Nat} {t : Addr}, AllPr H ts ps → ts[i]? = some t → ∃ p, ps[i]? = some p ∧ PrAt H t p
  | _ :: _, p :: _, 0, _, h, e => by
    cases e
    exact ⟨p, rfl, h.1⟩
  | _ :: ts, _ :: ps, i + 1, _, h, e => AllPr.get (ts := ts) (ps := ps) (i := i) h.2 e
  | [], [], _, _, _, e => by cases e
  | [], _ :: _, _, _, h, _ => h.elim
  | _ :: _, [], _, _, h, _ => h.elim
theorem AllPr.at {H : Hp} {ts : List Addr} {ps : List Pr} {i : Nat} {p : Pr} (h : AllPr H ts ps) (e : ps[i]? = some p) : ∃ t, ts[i]? = some t ∧ PrAt H t p := by
  have hi : i < ts.length := by
    rw [h.len]
    exact (List.getElem?_eq_some_iff.mp e).1
  obtain ⟨q, hq, hp⟩ := h.get (List.getElem?_eq_getElem hi)
  rw [e] at hq
  cases hq
  exact ⟨_, List.getElem?_eq_getElem hi, hp⟩
/-- what is new since H -/
def Nw (H H' : Hp) : Hp := fun c => match H c with
  | none => H' c
  | some _ => none
theorem Nw.at {H H' : Hp} {c : Addr} (h : H c = none) : Nw H H' c = H' c := by
  unfold Nw
  rw [h]
theorem Nw.no {H H' : Hp} {c : Addr} {o : HO} (h : H c = some o) : Nw H H' c = none := by
  unfold Nw
  rw [h]
theorem Nw.split {H H' : Hp} {c : Addr} {o : HO} (h : Nw H H' c = some o) : H c = none ∧ H' c = some o := by
  cases e : H c with
  | none =>
    rw [Nw.at e] at h
    exact ⟨rfl, h⟩
  | some u =>
    rw [Nw.no e] at h
    cases h
theorem Nw.sub {H H' : Hp} : Same (Nw H H') H' := fun _ _ h => (Nw.split h).2
theorem Nw.sf {H H1 H2 : Hp} (s : SF H1 H2) : SF (Nw H H1) (Nw H H2) := fun c o h z => by
  obtain ⟨e1, e2⟩ := Nw.split h
  rw [Nw.at e1]
  exact s c o e2 z
theorem Nw.same {H H1 H2 : Hp} (s : Same H1 H2) : Same (Nw H H1) (Nw H H2) := fun c o h => by
  obtain ⟨e1, e2⟩ := Nw.split h
  rw [Nw.at e1]
  exact s c o e2
theorem Nw.base {H0 H H' : Hp} (s : Same H0 H) : Same (Nw H H') (Nw H0 H') := fun c o h => by
  obtain ⟨e1, e2⟩ := Nw.split h
  rw [Nw.at (s.free e1)]
  exact e2
/-- a list of records as it must be -/
structure PsOk (ps : List Pr) : Prop where
  few : ps.length ≤ 40
  nd : (ps.map (·.1)).Nodup
  nm : ∀ p ∈ ps, NameZ p.1
  val : ∀ p ∈ ps, ∃ zs, ValOk zs p.2
  kd : ∀ p ∈ ps, (p.2.map (·.1)).Nodup
theorem str_beq (a b : Str) : (a == b) = decide (a = b) := by
  by_cases h : a = b
  · rw [decide_eq_true h, h]
    exact beq_self_eq_true _
  · rw [decide_eq_false h]
    exact Bool.eq_false_iff.mpr fun e => h (beq_iff_eq.mp e)
theorem inV_str (y : Str) : ∀ zs : List Str, inV (.str y) (zs.map V.str) = decide (y ∈ zs)
  | [] => rfl
  | z :: zs => by
    show ((z == y) || inV (.str y) (zs.map V.str)) = decide (y ∈ z :: zs)
    rw [inV_str y zs, str_beq]
    by_cases h : z = y
    · subst h
      rw [decide_eq_true rfl, decide_eq_true List.mem_cons_self]
      rfl
    · rw [decide_eq_false h, Bool.false_or]
      by_cases h2 : y ∈ zs
      · rw [decide_eq_true h2, decide_eq_true (List.mem_cons_of_mem _ h2)]
      · rw [decide_eq_false h2, decide_eq_false fun e => (List.mem_cons.mp e).elim (fun e => h e.symm) h2]
theorem flat_strs (zs : List Str) : (zs.map V.str).all flatV = true := List.all_eq_true.mpr fun x hx => by
  obtain ⟨z, _, rfl⟩ := List.mem_map.mp hx
  rfl
abbrev nmsOf (ps : List Pr) : List Str := ps.map (·.1)
abbrev sIsList : Stmt := topS 28
abbrev sChk : Stmt := topS 43
abbrev nChk : List Str := ["pairs", "taken", "names", "copies", "item", "key", "value"]
theorem scIsList : FnScope ["value", "most"] ["value", "most"] (defScope sIsList) := ⟨rfl, rfl, rfl, by decide +kernel, rfl, by decide +kernel, by decide +kernel⟩
theorem scChk : FnScope nChk ["pairs", "taken"] (defScope sChk) := ⟨rfl, rfl, rfl, by decide +kernel, rfl, by decide +kernel, by decide +kernel⟩
def spIsList (K : PySem.W.Frag) : Sp := fun vs H Q _ => ∃ (l : Addr) (n : Nat) (xs : List V), vs = [.ref l, .int (n : Nat)] ∧ (SqL K H l xs ∨ SqT K H l xs) ∧ xs.length ≤ n ∧ ∀ H', Same H H' → Q (.bl true) H'
theorem sqL_keep {K : PySem.W.Frag} {H H' : Hp} {l : Addr} {xs : List V} (s : Same H H') : SqL K H l xs → SqL K H' l xs
  | .inl (.inl h) => .inl (.inl (s _ _ h))
  | .inl (.inr ⟨o, h⟩) => .inl (.inr ⟨o, s _ _ h⟩)
  | .inr h => .inr h
theorem sqT_keep {K : PySem.W.Frag} {H H' : Hp} {l : Addr} {xs : List V} (s : Same H H') : SqT K H l xs → SqT K H' l xs
  | .inl (.inl h) => .inl (.inl (s _ _ h))
  | .inl (.inr ⟨o, h⟩) => .inl (.inr ⟨o, s _ _ h⟩)
  | .inr h => .inr h
/-- a list or a tuple -/
def SqLT (K : PySem.W.Frag) (H : Hp) (l : Addr) (xs : List V) : Prop := SqL K H l xs ∨ SqT K H l xs
theorem SqLT.keep {K : PySem.W.Frag} {H H' : Hp} {l : Addr} {xs : List V} (s : Same H H') : SqLT K H l xs → SqLT K H' l xs
  | .inl h => .inl (sqL_keep s h)
  | .inr h => .inr (sqT_keep s h)
/-- for x in a list or a tuple -/
def iLT (K : PySem.W.Frag) (tl : TE) : TI := fun σ H R => tl σ H fun x H1 => ∃ a, x = .ref a ∧ (((∃ xs, SqL K H1 a xs) ∧ R (Itl K a) H1) ∨ ((∃ xs, SqT K H1 a xs) ∧ R (Itt K a) H1))
theorem pi_lt {X : Cx} {tg l : Expr} {tl : TE} (hl : PE X l tl) : PI X tg l (iLT X.K tl) := by
  refine ⟨fun pins s σ H R I h => ?_⟩
  refine thn (hl.run pins s σ H _ I h) fun v s1 ⟨x, H1, I1, r1, a, e, k⟩ => ?_
  subst e
  obtain rfl : v = Value.ref a := r1
  have fp : ∀ b ∈ [s1.heap.objs.size], _ := fun b hb => by
    obtain rfl : b = s1.heap.objs.size := by simpa using hb
    exact I1.fpOk (Nat.le_refl _) (I1.hok.fresh (Nat.le_refl _))
  rcases k with ⟨⟨xs, hq⟩, q⟩ | ⟨⟨xs, hq⟩, q⟩
  · obtain ⟨its, rv, pl, _⟩ := I1.list hq
    refine wpAny_pyIter_list pl.isList ⟨s1.heap.objs.size, [s1.heap.objs.size], _, _, H1, rfl, ?_, turn_list a _, ?_, fp, q⟩
    · exact I1.kept (t' := s1.toks) fun b o e => Heap.get?_push_of_some _ e
    · exact ⟨_, Heap.get?_push_size _ rfl, rfl, rfl⟩
  · obtain ⟨its, rv, pl, _⟩ := I1.tuple hq
    refine wpAny_pyIter_tuple (show s1.heap.IsTuple a its.toArray from pl) ⟨s1.heap.objs.size, [s1.heap.objs.size], _, _, H1, rfl, ?_, turn_tuple a _, ?_, fp, q⟩
    · exact I1.kept (t' := s1.toks) fun b o e => Heap.get?_push_of_some _ e
    · exact ⟨_, Heap.get?_push_size _ rfl, rfl, rfl⟩
theorem for_lt {K : PySem.W.Frag} {a : Addr} {xs : List V} {g : TG} {tb : TS} {D : Ends} {σ : L2.St} {H H0 : Hp} (Pv : Nat → L2.St → Hp → Prop) (hq : SqLT K H0 a xs) (h0 : Pv 0 σ H) (hl : ∀ i σ' H', i ≤ xs.length → Pv i σ' H' → Same H0 H')
    (hs : ∀ i x σ H, xs[i]? = some x → Pv i σ H → g x σ H fun σ2 H2 => tb { D with nx := Pv (i + 1), ct := Pv (i + 1), bk := D.nx } σ2 H2) (hd : ∀ σ H, Pv xs.length σ H → D.nx σ H) :
    ((∃ xs, SqL K H a xs) ∧ ∃ W : Nat → Nat → L2.St → Hp → Prop, (∃ m, W 0 m σ H) ∧ ∀ i m σ H, W i m σ H →
      ((Itl K a).stop i H ∧ D.nx σ H) ∨ ((Itl K a).go i H ∧ ∃ N : L2.St → Hp → Prop, (∀ σ' H', N σ' H' → ∃ m', m' < m ∧ W (i + 1) m' σ' H') ∧ ∀ x H', (Itl K a).yld i H x H' → g x σ H' fun σ2 H2 => tb { D with nx := N, ct := N, bk := D.nx } σ2 H2)) ∨
    ((∃ xs, SqT K H a xs) ∧ ∃ W : Nat → Nat → L2.St → Hp → Prop, (∃ m, W 0 m σ H) ∧ ∀ i m σ H, W i m σ H →
      ((Itt K a).stop i H ∧ D.nx σ H) ∨ ((Itt K a).go i H ∧ ∃ N : L2.St → Hp → Prop, (∀ σ' H', N σ' H' → ∃ m', m' < m ∧ W (i + 1) m' σ' H') ∧ ∀ x H', (Itt K a).yld i H x H' → g x σ H' fun σ2 H2 => tb { D with nx := N, ct := N, bk := D.nx } σ2 H2)) := by
  rcases hq with hq | hq
  · exact .inl ⟨⟨xs, sqL_keep (hl 0 σ H (Nat.zero_le _) h0) hq⟩, for_list (xs := xs) Pv h0 (fun i σ' H' hi p => sqL_keep (hl i σ' H' hi p) hq) hs hd⟩
  · exact .inr ⟨⟨xs, sqT_keep (hl 0 σ H (Nat.zero_le _) h0) hq⟩, for_tup (xs := xs) Pv h0 (fun i σ' H' hi p => sqT_keep (hl i σ' H' hi p) hq) hs hd⟩
def spChk (K : PySem.W.Frag) : Sp := fun vs H Q _ => ∃ (l e : Addr) (ts : List Addr) (ps : List Pr) (zs : List Str), vs = [.ref l, .ref e] ∧ SqLT K H l (ts.map V.ref) ∧ AllPr H ts ps ∧ PsOk ps ∧ H e = some (.lst (zs.map V.str)) ∧ zs.length ≤ 40 ∧ (∀ p ∈ ps, p.1 ∉ zs) ∧
  ∀ (c : Addr) (us : List Addr) (H' : Hp), H c = none → Same H H' → H' c = some (.lst (us.map V.ref)) → AllPr (Nw H H') us ps → Q (.ref c) H'
section
variable {P : Program} {w : World} {K : PySem.W.Frag} {mg : Str → Option Value} {base : Heap}
theorem ok_islist {f : Addr} {fd : FuncData} (F : Fun K "is_list" "is_list" sIsList f fd) (mi : mg "isinstance" = none) (ml : mg "len" = none) (mL : mg "list" = none) (mt : mg "tuple" = none) : FnOk P w K mg base CX0 1 f fd ["value", "most"] (spIsList K) := by
  refine F.ok scIsList (fun vs H Q E h => ?_) (fun cdv A outer s H vs Q E hr h => ?_)
  · obtain ⟨l, n, xs, rfl, _⟩ := h
    rfl
  · obtain ⟨l, n, xs, rfl, hx, hl, q⟩ := h
    refine ⟨_, pss_one (ps_ret (pe_and (pe_isiLT (pv 0) (by rfl) mi (pa_cons (pe_bltn (v := .ty "list") (u := .type "list") (by rfl) mL (by decide +kernel) rfl) (pa_cons (pe_bltn (v := .ty "tuple") (u := .type "tuple") (by rfl) mt (by decide +kernel) rfl) pa_nil)))
      (pe_one (pe_cmpR op_le (pe_callB call_len_seq (by rfl) ml PySem.boot_len (pa_cons (pv 0) pa_nil)) (pv 1) (nomark _))))), ?_⟩
    refine ⟨_, rfl, ⟨l, xs, rfl, hx⟩, fun T hT => ⟨_, rfl, ifY rfl ?_⟩⟩
    have sT := Same.new (o := .tup [.ty "list", .ty "tuple"]) hT
    have hx2 : SqL K (upd H T (.tup [.ty "list", .ty "tuple"])) l xs ∨ SqT K (upd H T (.tup [.ty "list", .ty "tuple"])) l xs := by
      rcases hx with hx | hx
      · left
        rcases hx with (h | ⟨o, h⟩) | h
        · exact .inl (.inl (sT _ _ h))
        · exact .inl (.inr ⟨o, sT _ _ h⟩)
        · exact .inr h
      · right
        rcases hx with (h | ⟨o, h⟩) | h
        · exact .inl (.inl (sT _ _ h))
        · exact .inl (.inr ⟨o, sT _ _ h⟩)
        · exact .inr h
    refine ⟨_, rfl, l, xs, rfl, hx2, _, rfl, _, _, rfl, rfl, ?_⟩
    have e : decide (((xs.length : Nat) : Int) ≤ (n : Int)) = true := decide_eq_true (by omega)
    show Q (.bl (decide (((xs.length : Nat) : Int) ≤ (n : Int)))) _
    rw [e]
    exact q _ sT
theorem ok_chk {f fL fR : Addr} {fd fdL fdR : FuncData} {t1 : Tok} (F : Fun K "checked_pairs" "checked_pairs" sChk f fd) (GL : FnOk P w K mg base CX0 1 fL fdL ["value", "most"] (spIsList K)) (gL : mg "is_list" = some (.ref fL)) (kL : PySem.W.keepIn K (.ref fL) = true) (bL : Binds K fdL ["value", "most"] [])
    (GR : FnOk P w K mg base CX0 4 fR fdR ["key", "value"] spNeedRecord) (gR : mg "need_record" = some (.ref fR)) (kR : PySem.W.keepIn K (.ref fR) = true) (bR : Binds K fdR ["key", "value"] []) (gM : mg "MOST_RECORDS" = some (.int 40 t1))
    (mi : mg "isinstance" = none) (ml : mg "len" = none) (mL : mg "list" = none) (mt : mg "tuple" = none) (md : mg "dict" = none) : FnOk P w K mg base CX0 5 f fd ["pairs", "taken"] (spChk K) := by
  refine F.ok scChk (fun vs H Q E h => ?_) (fun cdv A outer s H vs Q E hr h => ?_)
  · obtain ⟨l, e, ts, ps, zs, rfl, _⟩ := h
    rfl
  · obtain ⟨l, e, ts, ps, ys, rfl, el, al, ok, ee, y40, hys, q⟩ := h
    have hr1 := hr.mono (show 1 ≤ 4 by decide)
    refine ⟨_, pss_cons (ps_if (pt_not (pt_val (pe_call GL hr1 rfl gL kL bL .nil pass0 (pa_cons (pv 0) (pa_cons (pe_glob (v := .int 40) rfl gM ⟨_, rfl⟩) pa_nil))))) (pss_one ps_never) pss_nil)
      (pss_cons (ps_set (i := 2) scChk.nd rfl (.inl rfl) (pe_callTy call_list_of (by rfl) mL (by decide +kernel) (pa_cons (pv 1) pa_nil)))
      (pss_cons (ps_set (i := 3) scChk.nd rfl (.inl rfl) (pe_lst pa_nil))
      (pss_cons (ps_for PassesOwn.never rfl (pi_lt (pv 0)) (pg_name (i := 4) scChk.nd rfl (.inl rfl))
        (pss_cons (ps_if (PW.pt (pw_or (pt_not (pt_val (pt_isi "tuple" (pv 4) (hm := mi) (mn := mt)))) (pw_or1 (pt_cmpR op_ne (pe_callB call_len_seq (by rfl) ml PySem.boot_len (pa_cons (pv 4) pa_nil)) pe_int (nomark _))))) (pss_one ps_never) pss_nil)
        (pss_cons (ps_asg (pv 4) (pg_tup (by rfl) (pgs_cons (pg_name (i := 5) scChk.nd rfl (.inl rfl)) (pgs_cons (pg_name (i := 6) scChk.nd rfl (.inl rfl)) pgs_nil))))
        (pss_cons (ps_expr (pe_call GR hr rfl gR kR bR .nil pass0 (pa_cons (pv 5) (pa_cons (pv 6) pa_nil))))
        (pss_cons (ps_if (pt_cmpR op_in_seq (pv 5) (pv 2) (by rfl)) (pss_one ps_never) pss_nil)
        (pss_cons (ps_expr (pe_bm PySem.F.plainAttrs_list PySem.F.slot_list_append PySem.F.type_list_append mt_append (pv 2) (pa_cons (pv 5) pa_nil)))
        (pss_one (ps_expr (pe_bm PySem.F.plainAttrs_list PySem.F.slot_list_append PySem.F.type_list_append mt_append (pv 3) (pa_cons (pe_tup (pa_cons (pv 5) (pa_cons (pe_callTy call_dictD (by rfl) md (by decide +kernel) (pa_cons (pv 6) pa_nil)) pa_nil))) pa_nil))))))))))
      (pss_one (ps_ret (pv 3)))))), ?_⟩
    have len : ts.length = ps.length := al.len
    have l40 := ok.few
    refine ⟨_, rfl, l, 40, _, rfl, el, (by rw [List.length_map]; omega), fun H1 s1 => ⟨_, rfl, iteF ?_⟩⟩
    refine ⟨_, rfl, e, _, rfl, .inl (.of (s1 _ _ ee)), fun nl hnl => ⟨Nat.zero_le _, fun cl hcl => ?_⟩⟩
    have s2 := s1.trans (Same.new (o := .lst (ys.map V.str)) hnl)
    have fn : H nl = none := s1.free hnl
    have fc : H cl = none := s2.free hcl
    have nnc : nl ≠ cl := fun z => by
      rw [← z, upd_same] at hcl
      cases hcl
    have s3 := s2.trans (Same.new (o := .lst []) hcl)
    have en : (upd (upd H1 nl (.lst (ys.map V.str))) cl (.lst [])) nl = some (.lst (ys.map V.str)) := (upd_ne nnc).trans upd_same
    have ec : (upd (upd H1 nl (.lst (ys.map V.str))) cl (.lst [])) cl = some (.lst []) := upd_same
    generalize upd (upd H1 nl (.lst (ys.map V.str))) cl (.lst []) = H2 at s3 en ec ⊢
    refine ⟨_, rfl, l, rfl, ?_⟩
    refine for_lt (xs := ts.map V.ref) (fun i σ H3 => ∃ (x4 x5 x6 : Option V) (us : List Addr), σ = [some (.ref l), some (.ref e), some (.ref nl), some (.ref cl), x4, x5, x6] ∧ Same H H3 ∧ H3 nl = some (.lst ((ys ++ nmsOf (ps.take i)).map V.str)) ∧ H3 cl = some (.lst (us.map V.ref)) ∧ AllPr (Nw H H3) us (ps.take i)) el ?_ ?_ ?_ ?_
    · exact ⟨none, none, none, [], rfl, s3, by rw [List.take_zero, show nmsOf ([] : List Pr) = [] from rfl, List.append_nil]; exact en, ec, trivial⟩
    · rintro i σ H3 _ ⟨x4, x5, x6, us, rfl, s4, _⟩
      exact s4
    · rintro i x σ H3 hx ⟨x4, x5, x6, us, rfl, s4, en3, ec3, al3⟩
      rw [List.getElem?_map] at hx
      obtain ⟨t, hti, rfl⟩ := Option.map_eq_some_iff.mp hx
      obtain ⟨p, hpi, hp⟩ := al.get hti
      have hpm := List.mem_of_getElem? hpi
      have hil : i < ps.length := (List.getElem?_eq_some_iff.mp hpi).1
      obtain ⟨d, et, ed⟩ := hp
      obtain ⟨zs, hv⟩ := ok.val p hpm
      refine ⟨_, rfl, _, _, _, _, _, rfl, .ty _, .base (.tup (s4 _ _ et)), kit_t (.tuple []), _, rfl, iteF ?_⟩
      refine ⟨_, rfl, t, _, rfl, .inr (.of (s4 _ _ et)), rfl, _, rfl, ne_if rfl ?_⟩
      refine ⟨_, rfl, t, _, rfl, .of (s4 _ _ et), rfl, _, _, rfl, _, _, rfl, rfl, ?_⟩
      refine ⟨_, rfl, _, rfl, p.1, d, zs, p.2, rfl, ok.nm p hpm, s4 _ _ ed, hv, fun H4 s5 => ?_⟩
      have hno : p.1 ∉ nmsOf (ps.take i) := fun hm => by
        obtain ⟨q', hq', eq'⟩ := List.mem_map.mp hm
        obtain ⟨j, hj⟩ := List.mem_iff_getElem?.mp hq'
        have hji : j < i := by
          have := (List.getElem?_eq_some_iff.mp hj).1
          rw [List.length_take] at this
          omega
        rw [List.getElem?_take_of_lt hji] at hj
        have hjl := (List.getElem?_eq_some_iff.mp hj).1
        have nd := ok.nd
        rw [List.nodup_iff_pairwise_ne, List.pairwise_iff_getElem] at nd
        have z := nd j i (by rw [List.length_map]; exact hjl) (by rw [List.length_map]; exact hil) hji
        rw [List.getElem_map, List.getElem_map, (List.getElem?_eq_some_iff.mp hj).2, (List.getElem?_eq_some_iff.mp hpi).2] at z
        exact z eq'
      have hno2 : p.1 ∉ ys ++ nmsOf (ps.take i) := fun z => (List.mem_append.mp z).elim (hys p hpm) hno
      have en4 := s5 _ _ en3
      have ec4 := s5 _ _ ec3
      have al4 := al3.sf (.of_same (Nw.same (H := H) s5))
      refine ⟨_, rfl, _, rfl, nl, _, rfl, .inl (.of en4), rfl, flat_strs _, _, rfl, ?_⟩
      rw [show (if false = true then !inV (V.str p.1) ((ys ++ nmsOf (ps.take i)).map V.str) else inV (V.str p.1) ((ys ++ nmsOf (ps.take i)).map V.str)) = false from (inV_str _ _).trans (decide_eq_false hno2)]
      refine iteF ?_
      refine ⟨_, rfl, .inl ⟨rfl, _, .of en4⟩, _, rfl, nl, _, _, rfl, rfl, en4, ?_, ?_⟩
      · rw [List.length_map, List.length_append, List.length_map, List.length_take]
        exact small1000 (by omega)
      have sf1 : SF H4 (upd H4 nl (.lst ((ys ++ nmsOf (ps.take i)).map V.str ++ [V.str p.1]))) := .put en4
      have ec5 : (upd H4 nl (.lst ((ys ++ nmsOf (ps.take i)).map V.str ++ [V.str p.1]))) cl = some (.lst (us.map V.ref)) := (upd_ne nnc.symm).trans ec4
      have en5 : (upd H4 nl (.lst ((ys ++ nmsOf (ps.take i)).map V.str ++ [V.str p.1]))) nl = some (.lst ((ys ++ nmsOf (ps.take (i + 1))).map V.str)) := by
        rw [upd_same, List.take_add_one, hpi]
        simp [nmsOf]
      have s6 : Same H (upd H4 nl (.lst ((ys ++ nmsOf (ps.take i)).map V.str ++ [V.str p.1]))) := fun c o eo => (upd_ne (ne_of_none eo fn)).trans (s5 _ _ (s4 _ _ eo))
      have al5 := al4.sf (Nw.sf (H := H) sf1)
      generalize upd H4 nl (.lst ((ys ++ nmsOf (ps.take i)).map V.str ++ [V.str p.1])) = H5 at ec5 en5 s6 al5 ⊢
      refine ⟨_, rfl, .inl ⟨rfl, _, .of ec5⟩, _, rfl, _, rfl, d, p.2, rfl, .inl (s6 _ _ ed), fun dn hdn => ⟨(by show 2 ≤ sizeLine; decide), fun tn htn => ?_⟩⟩
      have s7 := (Same.new (o := .dK p.2) hdn).trans (Same.new (o := .tup [.str p.1, .ref dn]) htn)
      have ec7 := s7 _ _ ec5
      refine ⟨cl, _, _, rfl, rfl, ec7, ?_, ?_⟩
      · rw [List.length_map, al5.len, List.length_take]
        exact small1000 (by omega)
      · refine ⟨_, _, _, us ++ [tn], rfl, fun c o eo => (upd_ne (ne_of_none eo fc)).trans (s7 _ _ (s6 _ _ eo)), (upd_ne nnc).trans (s7 _ _ en5), ?_, ?_⟩
        · rw [upd_same, List.map_append]
          rfl
        · have fd' : H dn = none := s6.free hdn
          have ft : H tn = none := (s6.trans (Same.new hdn)).free htn
          have one : AllPr (Nw H (upd (upd H5 dn (.dK p.2)) tn (.tup [.str p.1, .ref dn]))) [tn] [p] := ⟨⟨dn, (Nw.at ft).trans upd_same, (Nw.at fd').trans (Same.new htn _ _ upd_same)⟩, trivial⟩
          have all := (al5.sf (.of_same (Nw.same (H := H) s7))).app one
          have e9 : ps.take (i + 1) = ps.take i ++ [p] := by
            rw [List.take_add_one, hpi]
            rfl
          rw [e9]
          exact all.sf (Nw.sf (.put ec7))
    · rintro σ H3 ⟨x4, x5, x6, us, rfl, s4, en3, ec3, al3⟩
      rw [List.length_map, len, List.take_length] at al3
      exact ⟨_, rfl, q cl us H3 fc s4 ec3 al3⟩
end
end G
set_option Elab.async false
set_option linter.all false
set_option maxRecDepth 100000
set_option maxHeartbeats 4000000
/-! RC2: Records: made, asked. -/
namespace G
open PySem PySem.Spec PyProof.Rows L2 NdefX
abbrev sRc (j : Nat) : Stmt := inClass (topS 42) j
abbrev nRcI : List Str := ["self", "pairs", "key", "value"]
abbrev nRcP : List Str := ["self", "key", "value"]
theorem scRcI : FnScope nRcI ["self", "pairs"] (defScope (sRc 0)) := ⟨rfl, rfl, rfl, by decide +kernel, rfl, by decide +kernel, by decide +kernel⟩
theorem scRcP : FnScope nRcP ["self"] (defScope (sRc 2)) := ⟨rfl, rfl, rfl, by decide +kernel, rfl, by decide +kernel, by decide +kernel⟩
theorem scRcL : FnScope ["self", "key"] ["self", "key"] (defScope (sRc 3)) := ⟨rfl, rfl, rfl, by decide +kernel, rfl, by decide +kernel, by decide +kernel⟩
theorem scRcG : FnScope ["self", "key", "at"] ["self", "key"] (defScope (sRc 4)) := ⟨rfl, rfl, rfl, by decide +kernel, rfl, by decide +kernel, by decide +kernel⟩
theorem scRcC : FnScope ["self", "item"] ["self", "item"] (defScope (sRc 6)) := ⟨rfl, rfl, rfl, by decide +kernel, rfl, by decide +kernel, by decide +kernel⟩
theorem scRcT : FnScope ["self"] ["self"] (defScope (sRc 7)) := ⟨rfl, rfl, rfl, by decide +kernel, rfl, by decide +kernel, by decide +kernel⟩
/-- what is asked of the class -/
structure RcC (K : PySem.W.Frag) (C : Addr) : Prop where
  cl : Cls K C
  n1 : NoAttr K C "own_pairs"
  n2 : NoAttr K C "own_names"
/-- at a stands Records(ps) -/
def RecAt (C : Addr) (H : Hp) (a : Addr) (ps : List Pr) : Prop := ∃ (dx l n : Addr) (ts : List Addr), H a = some (.ins C dx [("own_pairs", .ref l), ("own_names", .ref n)]) ∧ H l = some (.lst (ts.map V.ref)) ∧ AllPr H ts ps ∧ H n = some (.lst ((nmsOf ps).map V.str))
theorem RecAt.same {C a : Addr} {H H' : Hp} {ps : List Pr} (h : RecAt C H a ps) (s : Same H H') : RecAt C H' a ps := let ⟨dx, l, n, ts, e1, e2, e3, e4⟩ := h; ⟨dx, l, n, ts, s _ _ e1, s _ _ e2, e3.sf (.of_same s), s _ _ e4⟩
theorem RecAt.box {C a b : Addr} {H H' : Hp} {ps : List Pr} {m : Nat} (h : RecAt C H a ps) (B : BoxAt H b m) (k : But b H H') : RecAt C H' a ps := by
  obtain ⟨dx, l, n, ts, e1, e2, e3, e4⟩ := h
  have nb : ∀ (c : Addr) (xs : List V), H c = some (.lst xs) → (∀ i r, xs = V.int i :: r → False) → c ≠ b := fun c xs e z q => by
    obtain ⟨x, y, t, eb, _⟩ := B
    rw [q, eb] at e
    exact z _ _ (HO.lst.inj (Option.some.inj e)).symm
  refine ⟨dx, l, n, ts, SF.of_but B k _ _ e1 rfl, k _ _ (nb l _ e2 ?_) e2, e3.sf (.of_but B k), k _ _ (nb n _ e4 ?_) e4⟩
  · intro i r z
    cases ts <;> cases z
  · intro i r z
    cases ps <;> cases z
theorem RecAt.of_nw {C a : Addr} {H H' : Hp} {ps : List Pr} (h : RecAt C (Nw H H') a ps) : RecAt C H' a ps := h.same Nw.sub
theorem Nw.old {H H' : Hp} {a : Addr} {o u : HO} (h : H a = some o) : Nw H (upd H' a u) = Nw H H' := by
  funext c
  cases e : H c with
  | none =>
    rw [Nw.at e, Nw.at e]
    exact upd_ne fun z => by
      rw [z, h] at e
      cases e
  | some x => rw [Nw.no e, Nw.no e]
def spRcI (K : PySem.W.Frag) (C : Addr) : Sp := fun vs H Q _ => ∃ (a dx p : Addr) (ts : List Addr) (ps : List Pr), vs = [.ref a, .ref p] ∧ H a = some (.ins C dx []) ∧ SqLT K H p (ts.map V.ref) ∧ AllPr H ts ps ∧ PsOk ps ∧
  ∀ (H' : Hp) (l n : Addr) (us : List Addr), But a H H' → H' a = some (.ins C dx [("own_pairs", .ref l), ("own_names", .ref n)]) → Nw H H' l = some (.lst (us.map V.ref)) → AllPr (Nw H H') us ps → Nw H H' n = some (.lst ((nmsOf ps).map V.str)) → Q .non H'
def spRcP (C : Addr) : Sp := fun vs H Q _ => ∃ (a : Addr) (ps : List Pr), vs = [.ref a] ∧ RecAt C H a ps ∧ PsOk ps ∧
  ∀ (p : Addr) (ts : List Addr) (H' : Hp), H p = none → Same H H' → H' p = some (.lst (ts.map V.ref)) → AllPr (Nw H H') ts ps → Q (.ref p) H'
def spRcL (C : Addr) : Sp := fun vs H Q _ => ∃ (a : Addr) (ps : List Pr) (i : Nat) (p : Pr), vs = [.ref a, .str p.1] ∧ RecAt C H a ps ∧ PsOk ps ∧ ps[i]? = some p ∧ Q (.int (i : Nat)) H
def spRcG (C : Addr) : Sp := fun vs H Q _ => ∃ (a : Addr) (ps : List Pr) (i : Nat) (p : Pr), vs = [.ref a, .str p.1] ∧ RecAt C H a ps ∧ PsOk ps ∧ ps[i]? = some p ∧ ∀ d, H d = none → Q (.ref d) (upd H d (.dK p.2))
def spRcC (C : Addr) : Sp := fun vs H Q _ => ∃ (a : Addr) (ps : List Pr) (z : Str), vs = [.ref a, .str z] ∧ RecAt C H a ps ∧ Q (.bl (decide (z ∈ nmsOf ps))) H
theorem PsOk.at_uniq {ps : List Pr} (ok : PsOk ps) {i j : Nat} {p q : Pr} (hi : ps[i]? = some p) (hj : ps[j]? = some q) (e : q.1 = p.1) : j = i := by
  have li := (List.getElem?_eq_some_iff.mp hi).1
  have lj := (List.getElem?_eq_some_iff.mp hj).1
  have nd := ok.nd
  rw [List.nodup_iff_pairwise_ne, List.pairwise_iff_getElem] at nd
  rcases Nat.lt_trichotomy j i with h | h | h
  · have z := nd j i (by rw [List.length_map]; exact lj) (by rw [List.length_map]; exact li) h
    rw [List.getElem_map, List.getElem_map, (List.getElem?_eq_some_iff.mp hj).2, (List.getElem?_eq_some_iff.mp hi).2] at z
    exact (z e).elim
  · exact h
  · have z := nd i j (by rw [List.length_map]; exact li) (by rw [List.length_map]; exact lj) h
    rw [List.getElem_map, List.getElem_map, (List.getElem?_eq_some_iff.mp hj).2, (List.getElem?_eq_some_iff.mp hi).2] at z
    exact (z e.symm).elim
theorem free_but {a p : Addr} {H H' : Hp} (k : But a H H') (n : p ≠ a) (h : H' p = none) : H p = none := by
  cases e : H p with
  | none => rfl
  | some o =>
    rw [k p o n e] at h
    cases h
section
variable {P : Program} {w : World} {K : PySem.W.Frag} {mg : Str → Option Value} {base : Heap} {f C : Addr} {fd : FuncData}
theorem fund_ok {x qual : Str} {st : Stmt} {N ps : List Str} {k : Nat} {sp : Sp} {dvs : List V} {kws : List (Str × V)} (F : FunD K x qual (defArgs st) (defBody st) (defScope st) dvs kws f fd) (S : FnScope N ps (defScope st)) (len : ∀ vs H Q E, sp vs H Q E → vs.length = ps.length)
    (hbody : ∀ (cdv : Value) (A : Around) (outer : List Env) (s : Shared) (H : Hp) (vs : List V) (Q : VK) (E : XK), Room k (A.deeper (envOfC qual (defScope st) s.heap.objs.size f cdv)) → sp vs H Q E →
      ∃ t, PSs (cxOf CX0 P w K mg base N qual (defScope st) f cdv A outer s H E).nox (defBody st) t ∧ t { nx := fun _ H' => Q .non H', rt := Q } (start N vs) H) : FnOk P w K mg base CX0 (k + 1) f fd ps sp :=
  F.ok S len fun cdv A outer s H vs Q E hr hsp => let ⟨t, h, q⟩ := hbody cdv A outer s H vs Q E hr hsp; ⟨t, h.nox, q⟩
theorem ok_rcinit {fK : Addr} {fdK : FuncData} {dvs : List V} (F : FunD K "__init__" "Records.__init__" (defArgs (sRc 0)) (defBody (sRc 0)) (defScope (sRc 0)) dvs [] f fd) (c : RcC K C) (GK : FnOk P w K mg base CX0 5 fK fdK ["pairs", "taken"] (spChk K)) (gK : mg "checked_pairs" = some (.ref fK)) (kK : PySem.W.keepIn K (.ref fK) = true) (bK : Binds K fdK ["pairs", "taken"] []) :
    FnOk P w K mg base CX0 6 f fd ["self", "pairs"] (spRcI K C) := by
  refine fund_ok F scRcI (fun vs H Q E h => ?_) (fun cdv A outer s H vs Q E hr h => ?_)
  · obtain ⟨a, dx, p, ts, ps, rfl, _⟩ := h
    rfl
  · obtain ⟨a, dx, p, ts, ps, rfl, ha, hp, al, ok, q⟩ := h
    refine ⟨_, pss_cons (ps_fld (pv 0) (pe_call GK hr rfl gK kK bK .nil pass0 (pa_cons (pv 1) (pa_cons (pe_lst pa_nil) pa_nil))) rfl)
      (pss_one (ps_fld (pv 0) (pe_lc (own := [("key", 2), ("value", 3)]) (g := gTup K 2 (gCons (gName 2) (gCons (gName 3) gNil))) (tt := tYes) (by rfl) scRcI.nd (pi_list (pe_fld (pv 0) rfl))
        (blkOk_by (own := [("key", 2), ("value", 3)]) (N := nRcI) (sc := defScope (sRc 0)) (by decide +kernel)) (fun _ _ _ _ _ => pg_tup (by rfl) (pgs_cons (pg_name (i := 2) scRcI.nd rfl (.inl rfl)) (pgs_cons (pg_name (i := 3) scRcI.nd rfl (.inl rfl)) pgs_nil))) (fun _ _ _ _ _ => pts_nil)
        (fun _ _ _ _ _ => pv 2)) rfl)), ?_⟩
    refine ⟨_, rfl, by decide, fun e he => ?_⟩
    have s1 := Same.new (o := .lst []) he
    refine ⟨p, e, ts, ps, [], rfl, hp.keep s1, al.sf (.of_same s1), ok, upd_same, by decide, (fun _ _ h => nomatch h), fun cl us H1 hcl s2 ecl al1 => ?_⟩
    have s12 := s1.trans s2
    have fcl : H cl = none := s1.free hcl
    have nac := ne_of_none ha fcl
    have ea1 := s12 _ _ ha
    have al2 : AllPr (Nw H H1) us ps := al1.sf (.of_same (Nw.base s1))
    refine ⟨_, rfl, a, C, dx, _, rfl, ea1, c.cl, c.n1, (by show 0 < 1000; decide), ?_⟩
    have ea2 : (upd H1 a (.ins C dx [("own_pairs", .ref cl)])) a = some (.ins C dx [("own_pairs", .ref cl)]) := upd_same
    have ecl2 : (upd H1 a (.ins C dx [("own_pairs", .ref cl)])) cl = some (.lst (us.map V.ref)) := (upd_ne nac.symm).trans ecl
    have kk : But a H (upd H1 a (.ins C dx [("own_pairs", .ref cl)])) := (But.same s12).trans But.upd
    have al3 : AllPr (Nw H (upd H1 a (.ins C dx [("own_pairs", .ref cl)]))) us ps := by
      rw [Nw.old ha]
      exact al2
    rw [show putF (Str.ofString "own_pairs") (V.ref cl) [] = ([(Str.ofString "own_pairs", V.ref cl)] : List (Str × V)) from rfl]
    generalize upd H1 a (.ins C dx [("own_pairs", .ref cl)]) = H2 at ea2 ecl2 al3 kk ⊢
    have al4 := al3.sf (.of_same Nw.sub)
    refine ⟨_, rfl, a, C, dx, _, _, rfl, ea2, c.cl, c.n1, rfl, cl, rfl, ⟨_, .of ecl2⟩, fun D hD => ?_⟩
    have l40 := ok.few
    refine lc_list (xs := us.map V.ref) (fun i H3 => Same H2 H3 ∧ H3 D = some (.lst ((nmsOf (ps.take i)).map V.str))) ?_ ?_ ?_ ?_
    · exact ⟨Same.new hD, upd_same⟩
    · exact fun _ _ _ h => .of (h.1 _ _ ecl2)
    · rintro i x H3 hx ⟨s3, e3⟩
      rw [List.getElem?_map] at hx
      obtain ⟨t, hti, rfl⟩ := Option.map_eq_some_iff.mp hx
      obtain ⟨pr, hpi, d, et, ed⟩ := al4.get hti
      have hil : i < ps.length := (List.getElem?_eq_some_iff.mp hpi).1
      refine ⟨t, _, rfl, .of (s3 _ _ et), rfl, _, _, rfl, _, _, rfl, rfl, rfl, ?_⟩
      unfold tYes
      dsimp only
      rw [if_pos rfl]
      refine ⟨_, rfl, _, e3, ?_, fun c o ec => (upd_ne (ne_of_none ec hD)).trans (s3 _ _ ec), ?_⟩
      · rw [List.length_map, List.length_map, List.length_take]
        exact small1000 (by omega)
      · rw [upd_same, List.take_add_one, hpi]
        simp [nmsOf]
    · rintro H3 ⟨s3, e3⟩
      rw [List.length_map, al3.len, List.take_length] at e3
      refine ⟨_, rfl, a, C, dx, _, rfl, s3 _ _ ea2, c.cl, c.n2, (by show 1 < 1000; decide), ?_⟩
      have fD : H D = none := free_but kk (ne_of_none ea2 hD).symm hD
      refine q _ cl D us ((kk.trans (.same s3)).trans But.upd) upd_same ?_ ?_ ?_
      · rw [Nw.old ha, Nw.at fcl]
        exact s3 _ _ ecl2
      · rw [Nw.old ha]
        exact al3.sf (.of_same (Nw.same s3))
      · rw [Nw.old ha, Nw.at fD]
        exact e3
theorem rc_made2 {H1 : Hp} {R : Addr → Hp → Prop} {E : XK} {p : Addr} {ts : List Addr} {ps : List Pr} (hp : SqLT K H1 p (ts.map V.ref)) (al : AllPr H1 ts ps) (ok : PsOk ps) (q : ∀ (a : Addr) (H' : Hp), H1 a = none → RecAt C (Nw H1 H') a ps → Same H1 H' → R a H') :
    ∀ x dx, H1 x = Option.none → H1 dx = Option.none → dx ≠ x → spRcI K C [.ref x, .ref p] (upd (upd H1 dx (.own x)) x (.ins C dx [])) (fun v H2 => v = .non ∧ R x H2) E := by
  intro x dx hx hdx hne
  have s1 : Same H1 (upd (upd H1 dx (.own x)) x (.ins C dx [])) := fun c o e => (upd_ne (ne_of_none e hx)).trans ((upd_ne (ne_of_none e hdx)).trans e)
  refine ⟨x, dx, p, ts, ps, rfl, upd_same, hp.keep s1, al.sf (.of_same s1), ok, fun H' l n us k r1 r2 r3 r4 => ⟨rfl, q x _ hx ?_ fun c o e => ?_⟩⟩
  · have b := Nw.base (H' := H') s1
    exact ⟨dx, l, n, us, (Nw.at hx).trans r1, b _ _ r2, r3.sf (.of_same b), b _ _ r4⟩
  · exact k c o (ne_of_none e hx) (s1 _ _ e)
theorem rcinit_binds {E : Addr} (F : FunD K "__init__" "Records.__init__" (defArgs (sRc 0)) (defBody (sRc 0)) (defScope (sRc 0)) [.ref E] [] f fd) : Binds K fd ["self", "pairs"] [] := by
  obtain ⟨ds, h1, h2⟩ := F.binds1 (ps := ["self", "pairs"]) 2 1 (fun z => nomatch z) rfl (fun T kV doc pm an cdv ct us its l1 l2 => match us, its, l1, l2 with
    | [_, _], [_], _, _ => ⟨_, rfl, rfl⟩)
  have h3 : Vals [] ds := h1
  cases h3
  exact h2
theorem ok_rcpairs (F : Fun K "pairs" "Records.pairs" (sRc 2) f fd) (c : RcC K C) (md : mg "dict" = none) : FnOk P w K mg base CX0 1 f fd ["self"] (spRcP C) := by
  refine F.ok scRcP (fun vs H Q E h => ?_) (fun cdv A outer s H vs Q E hr h => ?_)
  · obtain ⟨a, ps, rfl, _⟩ := h
    rfl
  · obtain ⟨a, ps, rfl, ⟨dx, l, n, ts, ha, hl, al, hn⟩, ok, q⟩ := h
    refine ⟨_, pss_one (ps_ret (pe_lc (own := [("key", 1), ("value", 2)]) (g := gTup K 2 (gCons (gName 1) (gCons (gName 2) gNil))) (tt := tYes) (by rfl) scRcP.nd (pi_list (pe_fld (pv 0) rfl))
        (blkOk_by (own := [("key", 1), ("value", 2)]) (N := nRcP) (sc := defScope (sRc 2)) (by decide +kernel)) (fun _ _ _ _ _ => pg_tup (by rfl) (pgs_cons (pg_name (i := 1) scRcP.nd rfl (.inl rfl)) (pgs_cons (pg_name (i := 2) scRcP.nd rfl (.inl rfl)) pgs_nil))) (fun _ _ _ _ _ => pts_nil)
        (fun _ _ _ _ _ => pe_tup (pa_cons (pv 1) (pa_cons (pe_callTy call_dictD (by rfl) md (by decide +kernel) (pa_cons (pv 2) pa_nil)) pa_nil))))), ?_⟩
    refine ⟨_, rfl, a, C, dx, _, _, rfl, ha, c.cl, c.n1, rfl, l, rfl, ⟨_, .of hl⟩, fun D hD => ?_⟩
    have l40 := ok.few
    refine lc_list (xs := ts.map V.ref) (fun i H3 => Same H H3 ∧ ∃ us : List Addr, H3 D = some (.lst (us.map V.ref)) ∧ AllPr (Nw H H3) us (ps.take i)) ?_ ?_ ?_ ?_
    · exact ⟨Same.new hD, [], upd_same, trivial⟩
    · exact fun _ _ _ h => .of (h.1 _ _ hl)
    · rintro i x H3 hx ⟨s3, us, e3, al3⟩
      rw [List.getElem?_map] at hx
      obtain ⟨t, hti, rfl⟩ := Option.map_eq_some_iff.mp hx
      obtain ⟨pr, hpi, d, et, ed⟩ := al.get hti
      have hil : i < ps.length := (List.getElem?_eq_some_iff.mp hpi).1
      refine ⟨t, _, rfl, .of (s3 _ _ et), rfl, _, _, rfl, _, _, rfl, rfl, rfl, ?_⟩
      unfold tYes
      dsimp only
      rw [if_pos rfl]
      refine ⟨_, rfl, _, rfl, d, pr.2, rfl, .inl (s3 _ _ ed), fun dn hdn => ⟨(by show 2 ≤ sizeLine; decide), fun tn htn => ?_⟩⟩
      have s7 := (Same.new (o := .dK pr.2) hdn).trans (Same.new (o := .tup [.str pr.1, .ref dn]) htn)
      have e7 := s7 _ _ e3
      refine ⟨_, e7, ?_, fun c o eo => (upd_ne (ne_of_none eo hD)).trans (s7 _ _ (s3 _ _ eo)), us ++ [tn], ?_, ?_⟩
      · rw [List.length_map, al3.len, List.length_take]
        exact small1000 (by omega)
      · rw [upd_same, List.map_append]
        rfl
      · have fd' : H dn = none := s3.free hdn
        have ft : H tn = none := (s3.trans (Same.new hdn)).free htn
        have one : AllPr (Nw H (upd (upd H3 dn (.dK pr.2)) tn (.tup [.str pr.1, .ref dn]))) [tn] [pr] := ⟨⟨dn, (Nw.at ft).trans upd_same, (Nw.at fd').trans (Same.new htn _ _ upd_same)⟩, trivial⟩
        have all := (al3.sf (.of_same (Nw.same (H := H) s7))).app one
        have e9 : ps.take (i + 1) = ps.take i ++ [pr] := by
          rw [List.take_add_one, hpi]
          rfl
        rw [e9]
        exact all.sf (Nw.sf (.put e7))
    · rintro H3 ⟨s3, us, e3, al3⟩
      rw [List.length_map, al.len, List.take_length] at al3
      exact q D us H3 hD s3 e3 al3
theorem ok_rcplace (F : Fun K "place" "Records.place" (sRc 3) f fd) (c : RcC K C) : FnOk P w K mg base CX0 1 f fd ["self", "key"] (spRcL C) := by
  refine F.ok scRcL (fun vs H Q E h => ?_) (fun cdv A outer s H vs Q E hr h => ?_)
  · obtain ⟨a, ps, i, p, rfl, _⟩ := h
    rfl
  · obtain ⟨a, ps, i, p, rfl, ⟨dx, l, n, ts, ha, hl, al, hn⟩, ok, hi, q⟩ := h
    refine ⟨_, pss_cons (ps_if (pt_cmpR op_notIn_seq (pv 1) (pe_fld (pv 0) rfl) (by rfl)) (pss_one ps_never) pss_nil)
      (pss_one (ps_ret (pe_bm PySem.F.plainAttrs_list PySem.F.slot_list_index PySem.F.type_list_index mt_index (pe_fld (pv 0) rfl) (pa_cons (pv 1) pa_nil)))), ?_⟩
    have hin : p.1 ∈ nmsOf ps := List.mem_map.mpr ⟨p, List.mem_of_getElem? hi, rfl⟩
    refine ⟨_, rfl, _, rfl, a, C, dx, _, _, rfl, ha, c.cl, c.n2, rfl, n, _, rfl, .inl (.of hn), rfl, flat_strs _, _, rfl, ?_⟩
    rw [show (if true = true then !inV (V.str p.1) ((nmsOf ps).map V.str) else inV (V.str p.1) ((nmsOf ps).map V.str)) = false from by
      rw [if_pos rfl, inV_str, decide_eq_true hin]
      rfl]
    refine iteF ?_
    refine ⟨_, rfl, a, C, dx, _, _, rfl, ha, c.cl, c.n2, rfl, .inl ⟨rfl, _, .of hn⟩, _, rfl, n, _, _, i, .str p.1, rfl, rfl, .of hn, rfl, flat_strs _, ?_, ?_, ?_, q⟩
    · rw [List.getElem?_map, List.getElem?_map, hi]
      rfl
    · exact beq_self_eq_true _
    · intro m z' hm e
      rw [List.getElem?_map, List.getElem?_map] at e
      obtain ⟨y, ey, rfl⟩ := Option.map_eq_some_iff.mp e
      obtain ⟨r, er, rfl⟩ := Option.map_eq_some_iff.mp ey
      show (r.1 == p.1) = false
      rw [str_beq]
      refine decide_eq_false fun z => ?_
      have := ok.at_uniq hi er z
      omega
end
end G
set_option Elab.async false
set_option linter.all false
set_option maxRecDepth 100000
set_option maxHeartbeats 4000000
/-! EQ1: == and != of lists and tuples whose items are compared within one model. -/
namespace G
open PySem PySem.Spec PyProof.Rows L2
open PySem.SeqAt PySem.AutoSeq1 PySem.MeetsSeq PySem.MeetsSeq2 PySem.MeetsSeq3 PySem.SeqRoads2
section
variable {prog : Program} {w : World}
/-- the items of two sequences, compared in turn -/
abbrev Its (prog : Program) (w : World) (A : Around) (s : Shared) (us ws : Array Value) (e : Nat → Bool) : Prop :=
  ∀ j (h1 : j < us.size) (h2 : j < ws.size), EqP prog w A s us[j] ws[j] (e j)
theorem unlike_turn (p q : Addr) (us ws : Array Value) (m1 m2 : Nat) (d1 d2 : Option Addr) (z1 z2 : Array (Option Value)) (same : us.size = ws.size) (e : Nat → Bool) (left : Nat) :
    ∀ at_ : Nat, us.size - at_ = left → MeetsIn prog w (Builtin.«list.__eq__.loop» ⟨[.ref p, .ref q, rawInt at_, rawInt 3], []⟩)
      (fun A R s => s.heap.get? p = some ⟨.type "list", d1, .seq us m1, z1⟩ ∧ s.heap.get? q = some ⟨.type "list", d2, .seq ws m2, z2⟩ ∧ Its prog w A.in1 s us ws e ∧
        R (.ok (.ret (.bool (!((List.range us.size).drop at_).all e)))) s) := by
  induction left with
  | zero =>
    intro at_ hk A R s h
    obtain ⟨hp, g, d, tk, os⟩ := s
    obtain ⟨ep, eq_, he, hr⟩ := h
    wp_walk using wpAny_loadPart' ep, wpAny_loadPart' eq_
    have o1 : us[((at_ : Nat) : Int).toNat]? = none := by
      simp
      omega
    have o2 : ws[((at_ : Nat) : Int).toNat]? = none := by
      simp
      omega
    have o3 : (List.range us.size).drop at_ = [] := by
      simp
      omega
    rw [o3] at hr
    rw [o1, o2]
    wp_walk using wpAny_loadPart' ep, wpAny_loadPart' eq_
    show R (.ok (.ret (.bool (us.size != ws.size)))) _
    rw [same]
    simpa using hr
  | succ left ih =>
    intro at_ hk A R s h
    obtain ⟨hp, g, d, tk, os⟩ := s
    obtain ⟨ep, eq_, he, hr⟩ := h
    wp_walk using wpAny_loadPart' ep, wpAny_loadPart' eq_
    have l1 : at_ < us.size := by omega
    have l2 : at_ < ws.size := by omega
    have o1 : us[((at_ : Nat) : Int).toNat]? = some us[at_] := by simp [l1]
    have o2 : ws[((at_ : Nat) : Int).toNat]? = some ws[at_] := by simp [l2]
    have o3 : (List.range us.size).drop at_ = at_ :: (List.range us.size).drop (at_ + 1) := by
      simp [List.drop_eq_getElem_cons, l1]
    have o4 : ((at_ : Int) + 1) = ((at_ + 1 : Nat) : Int) := by
      push_cast
      rfl
    rw [o3, List.all_cons] at hr
    rw [o1, o2]
    refine wpAny_bind (he at_ l1 l2 _ _ ?_)
    cases ee : e at_ with
    | true =>
      rw [ee] at hr
      wp_walk
      rw [o4]
      refine ⟨plainId_quiet plain_eq_loop _, codeAny_builtin entry_eq_loop ?_⟩
      rw [Around.under_plainId plain_eq_loop _]
      exact ih (at_ + 1) (by omega) A R _ ⟨ep, eq_, he, by simpa using hr⟩
    | false =>
      rw [ee] at hr
      wp_walk using wpAny_loadPart' ep, wpAny_loadPart' eq_
      rw [o1, o2]
      wp_walk
      simpa using hr
theorem unlike_lists (p q : Addr) (us ws : Array Value) (m1 m2 : Nat) (d1 d2 : Option Addr) (z1 z2 : Array (Option Value)) (same : us.size = ws.size) (e : Nat → Bool) :
    MeetsIn prog w (Builtin.«list.__ne__» ⟨[.ref p, .ref q], []⟩)
      (fun A R s => s.heap.get? p = some ⟨.type "list", d1, .seq us m1, z1⟩ ∧ s.heap.get? q = some ⟨.type "list", d2, .seq ws m2, z2⟩ ∧ Its prog w A.in1 s us ws e ∧
        R (.ok (.ret (.bool (!(List.range us.size).all e)))) s) := by
  intro A R s h
  obtain ⟨hp, g, d, tk, os⟩ := s
  obtain ⟨ep, eq_, he, hr⟩ := h
  have sub := AutoSeq1.sub_list_list
  have hne : ¬ (us.size != ws.size) = true := by
    simp [same]
  wp_walk using wpAny_loadPart' ep, wpAny_loadPart' eq_
  refine ⟨plainId_quiet plain_eq_loop _, codeAny_builtin entry_eq_loop ?_⟩
  rw [Around.under_plainId plain_eq_loop _]
  exact unlike_turn p q us ws m1 m2 d1 d2 z1 z2 same e _ 0 rfl A R _ ⟨ep, eq_, he, by simpa using hr⟩
theorem rnP_lists {A : Around} {s : Shared} {p q : Addr} {us ws : Array Value} {e : Nat → Bool} (ep : s.heap.IsList p us) (eq_ : s.heap.IsList q ws) (same : us.size = ws.size) (hu : A.units < cLine)
    (he : Its prog w A.in1 s us ws e) (E Q : Value → Shared → Prop) (h : Q (.bool (!(List.range us.size).all e)) s) : wpAny (model prog w) A (richCompare .NotEq (.ref p) (.ref q)) Q E s := by
  obtain ⟨⟨c1, d1, t1, z1⟩, o1, k1, m1, e1⟩ := id ep
  obtain ⟨⟨c2, d2, t2, z2⟩, o2, k2, m2, e2⟩ := id eq_
  simp only at k1 e1 k2 e2
  subst k1 e1 k2 e2
  have ta : s.TypeIs (.ref p) "list" := ⟨_, o1, rfl⟩
  refine wpAny_richCompare_same_room (op := .NotEq) ta ⟨_, o2, rfl⟩ F.slot_list_ne ?_ hu
  refine call_meetsIn F.slot_list_ne ta F.entry_list_ne (F.args_list_ne_2 _ _) (unlike_lists p q us ws m1 m2 d1 d2 z1 z2 same e) ⟨o1, o2, he, ?_⟩
  exact show Value.bool (!(List.range us.size).all e) ≠ Value.notImplemented ∧ Q (.bool (!(List.range us.size).all e)) s from ⟨(fun x => nomatch x), h⟩
theorem alike_tuples (p q : Addr) (us ws : Array Value) (m1 m2 : Nat) (d1 d2 : Option Addr) (z1 z2 : Array (Option Value)) (e : Nat → Bool) :
    MeetsIn prog w (Builtin.«tuple.__eq__» ⟨[.ref p, .ref q], []⟩)
      (fun A R s => s.heap.get? p = some ⟨.type "tuple", d1, .seq us m1, z1⟩ ∧ s.heap.get? q = some ⟨.type "tuple", d2, .seq ws m2, z2⟩ ∧ Its prog w A.in1 s us ws e ∧
        R (.ok (.ret (.bool ((List.range (min us.size ws.size)).all e && us.size == ws.size)))) s) := by
  refine .of_wp fun A R s h => ?_
  obtain ⟨hp, g, d, tk, os⟩ := s
  obtain ⟨ep, eq_, he, hr⟩ := h
  have sub := AutoSeq1.sub_tuple_tuple
  have lz : (us.toList.zip ws.toList).length = min us.size ws.size := by
    simp
  wp_walk using wpAny_loadPart' ep, wpAny_loadPart' eq_, wpAny_forIn_list _ (fun rest b s' => b.1 = none ∧ s' = ⟨hp, g, d, tk, os⟩ ∧ ∃ i, rest = (us.toList.zip ws.toList).drop i ∧
    R (.ok (.ret (.bool (((List.range (min us.size ws.size)).drop i).all e && us.size == ws.size)))) ⟨hp, g, d, tk, os⟩) _
  case turn =>
    rintro ⟨y, x⟩ rest b s' ⟨eb, rfl, i, ez, hR⟩
    have li : i < (us.toList.zip ws.toList).length := by
      rcases Nat.lt_or_ge i (us.toList.zip ws.toList).length with z | z
      · exact z
      · rw [List.drop_of_length_le z] at ez
        cases ez
    have lm : i < min us.size ws.size := lz ▸ li
    have i1 : i < us.size := Nat.lt_of_lt_of_le lm (Nat.min_le_left _ _)
    have i2 : i < ws.size := Nat.lt_of_lt_of_le lm (Nat.min_le_right _ _)
    rw [List.drop_eq_getElem_cons li] at ez
    injection ez with both more
    have ey : y = us[i] := by
      have := congrArg Prod.fst both
      simpa using this
    have ex : x = ws[i] := by
      have := congrArg Prod.snd both
      simpa using this
    subst ey ex
    have dr : (List.range (min us.size ws.size)).drop i = i :: (List.range (min us.size ws.size)).drop (i + 1) := by
      simp [List.drop_eq_getElem_cons, lm]
    rw [dr, List.all_cons] at hR
    refine wpAny_bind (he i i1 i2 _ _ ?_)
    cases ee : e i with
    | true =>
      rw [ee] at hR
      wp_walk
      exact ⟨rfl, rfl, i + 1, more, by simpa using hR⟩
    | false =>
      rw [ee] at hR
      wp_walk
      exact ⟨_, rfl, by simpa using hR⟩
  case fin =>
    rintro ⟨b1, b2⟩ s' ⟨eb, rfl, i, ez, hR⟩
    simp only at eb
    subst eb
    have ge : min us.size ws.size ≤ i := by
      rcases Nat.lt_or_ge i (us.toList.zip ws.toList).length with z | z
      · rw [List.drop_eq_getElem_cons z] at ez
        cases ez
      · exact lz ▸ z
    rw [List.drop_of_length_le (by simpa using ge)] at hR
    wp_walk
    exact ⟨_, rfl, by simpa [Builtin.Tuple.tupleCompareSizes] using hR⟩
  case h =>
    exact ⟨rfl, rfl, 0, rfl, by simpa using hr⟩
theorem rcP_tuples {A : Around} {s : Shared} {p q : Addr} {us ws : Array Value} {e : Nat → Bool} (ep : s.heap.IsTuple p us) (eq_ : s.heap.IsTuple q ws) (hu : A.units < cLine)
    (he : Its prog w A.in1 s us ws e) (E Q : Value → Shared → Prop) (h : Q (.bool ((List.range (min us.size ws.size)).all e && us.size == ws.size)) s) : wpAny (model prog w) A (richCompare .Eq (.ref p) (.ref q)) Q E s := by
  obtain ⟨⟨c1, d1, t1, z1⟩, o1, k1, m1, e1⟩ := id ep
  obtain ⟨⟨c2, d2, t2, z2⟩, o2, k2, m2, e2⟩ := id eq_
  simp only at k1 e1 k2 e2
  subst k1 e1 k2 e2
  have ta : s.TypeIs (.ref p) "tuple" := ⟨_, o1, rfl⟩
  refine wpAny_richCompare_same_room (op := .Eq) ta ⟨_, o2, rfl⟩ F.slot_tuple_eq ?_ hu
  refine call_meetsIn F.slot_tuple_eq ta F.entry_tuple_eq (F.args_tuple_eq_2 _ _) (alike_tuples p q us ws m1 m2 d1 d2 z1 z2 e) ⟨o1, o2, he, ?_⟩
  exact show Value.bool ((List.range (min us.size ws.size)).all e && us.size == ws.size) ≠ Value.notImplemented ∧ Q (.bool ((List.range (min us.size ws.size)).all e && us.size == ws.size)) s from ⟨(fun x => nomatch x), h⟩
end
end G
set_option Elab.async false
set_option linter.all false
set_option maxRecDepth 100000
set_option maxHeartbeats 4000000
/-! EQ2: lists of records compared, both answers. -/
namespace G
open PySem PySem.Spec PyProof.Rows L2 PySem.SeqAt
theorem valV_mem {ks : List (Key × V)} (nd : (ks.map (·.1)).Nodup) {p : Key × V} (h : p ∈ ks) : valV ks p.1 = some p.2 := by
  show Option.map (fun p : Key × V => p.2) (ks.find? fun kv => decide (kv.1 = p.1)) = some p.2
  induction ks with
  | nil => cases h
  | cons q r ih =>
    rw [List.map_cons, List.nodup_cons] at nd
    rw [List.find?_cons]
    rcases List.mem_cons.mp h with e | hr
    · rw [e, decide_eq_true rfl]
      rfl
    · have n : q.1 ≠ p.1 := fun z => nd.1 (z ▸ List.mem_map.mpr ⟨p, hr, rfl⟩)
      rw [decide_eq_false n]
      exact ih nd.2 hr
theorem dEq_refl {ks : List (Key × V)} (nd : (ks.map (·.1)).Nodup) : dEq ks ks = true := by
  unfold dEq
  rw [beq_self_eq_true, Bool.true_and]
  exact List.all_eq_true.mpr fun p hp => decide_eq_true (valV_mem nd hp)
def prEq (p q : Pr) : Bool := decide (p.1 = q.1) && dEq p.2 q.2
def prE (ps qs : List Pr) (j : Nat) : Bool := match ps[j]?, qs[j]? with
  | some p, some q => prEq p q
  | _, _ => false
/-- are two lists of records equal -/
def plEq (ps qs : List Pr) : Bool := ps.length == qs.length && (List.range ps.length).all (prE ps qs)
structure DOk (p : Pr) : Prop where
  num : AllInt p.2
  nd : (p.2.map (·.1)).Nodup
def AllD (ps : List Pr) : Prop := ∀ p ∈ ps, DOk p
theorem PsOk.allD {ps : List Pr} (ok : PsOk ps) : AllD ps := fun p h => ⟨fun x hx => by
  obtain ⟨zs, hv⟩ := ok.val p h
  obtain ⟨z, i, e, _⟩ := hv.is x hx
  exact ⟨i, by rw [e]⟩, ok.kd p h⟩
theorem prEq_refl {p : Pr} (d : DOk p) : prEq p p = true := by
  unfold prEq
  rw [decide_eq_true rfl, dEq_refl d.nd]
  rfl
theorem plEq_refl {ps : List Pr} (d : AllD ps) : plEq ps ps = true := by
  unfold plEq
  rw [beq_self_eq_true, Bool.true_and]
  refine List.all_eq_true.mpr fun j hj => ?_
  have hl : j < ps.length := List.mem_range.mp hj
  unfold prE
  rw [List.getElem?_eq_getElem hl]
  exact prEq_refl (d _ (List.getElem_mem hl))
section
variable {X : Cx} {pins : List (Addr × Obj)} {σ : L2.St} {H : Hp} {s : Shared}
theorem dic_eqP (I : Inv X pins σ H s) {A : Around} (hu : A.units < cLine) {d c : Addr} {ks ls : List (Key × V)} (ed : H d = some (.dK ks)) (ec : H c = some (.dK ls)) (ik : AllInt ks) (il : AllInt ls) (nd : (ks.map (·.1)).Nodup) :
    EqP X.prog X.w A s (.ref d) (.ref c) (dEq ks ls) := by
  by_cases n : d = c
  · subst n
    rw [ed] at ec
    cases ec
    rw [dEq_refl nd]
    exact (SeqAt.EqAt.same _).eqP
  · refine eqP_refs n fun E Q q => ?_
    obtain ⟨_, ya, va, ra, da⟩ := (show ObjOk X.prog X.w H s.heap d (.dK ks) from I.hok d _ ed)
    obtain ⟨_, yb, vb, rb, db⟩ := (show ObjOk X.prog X.w H s.heap c (.dK ls) from I.hok c _ ec)
    have e : dEq ks ls = (va.length == vb.length && ks.all fun p => decide (valV ls p.1 = some p.2)) := by
      rw [← ra.length, ← rb.length]
      rfl
    rw [e] at q
    exact PySem.W.keq_eq (knd := mixKind X.prog X.w) ya yb da db hu (fun _ => hits_int rb il ra ik) q
theorem pr_eqP (I : Inv X pins σ H s) {A : Around} (hu : A.units + 2 < cLine) {t u : Addr} {p q : Pr} (ht : PrAt H t p) (hq : PrAt H u q) (dp : DOk p) (dq : DOk q) : EqP X.prog X.w A s (.ref t) (.ref u) (prEq p q) := by
  obtain ⟨d, et, ed⟩ := ht
  obtain ⟨c, eu, ec⟩ := hq
  by_cases n : t = u
  · subst n
    rw [et] at eu
    injection eu with e1
    injection e1 with e1
    injection e1 with e2 e3
    injection e2 with e2
    injection e3 with e3 e4
    injection e3 with e3
    subst e3
    rw [ed] at ec
    injection ec with ec
    injection ec with ec
    obtain ⟨p1, p2⟩ := p
    obtain ⟨q1, q2⟩ := q
    dsimp only at e2 ec
    subst e2 ec
    rw [prEq_refl dp]
    exact (SeqAt.EqAt.same _).eqP
  · refine eqP_refs n fun E Q h => ?_
    obtain ⟨us, r1, p1, _⟩ := I.tuple (.of et)
    obtain ⟨ws, r2, p2, _⟩ := I.tuple (.of eu)
    cases r1 with
    | cons a1 r1 =>
      cases r1 with
      | cons b1 r1 =>
        cases r1
        cases r2 with
        | cons a2 r2 =>
          cases r2 with
          | cons b2 r2 =>
            cases r2
            obtain ⟨t1, rfl⟩ := a1
            obtain ⟨t2, rfl⟩ := a2
            cases b1
            cases b2
            refine rcP_tuples (e := fun j => if j = 0 then (p.1 == q.1) else dEq p.2 q.2) p1 p2 (by omega) (fun j h1 h2 => ?_) E Q ?_
            · match j, h1, h2 with
              | 0, _, _ => exact (SeqAt.EqAt.str_str p.1 t1 q.1 t2).eqP
              | 1, _, _ => exact dic_eqP I (by show A.units + 1 < cLine; omega) ed ec dp.num dq.num dp.nd
              | j + 2, h1, _ => exact absurd h1 (by show ¬ (j + 2 < 2); omega)
            · have e : prEq p q = ((p.1 == q.1) && dEq p.2 q.2) := by
                unfold prEq
                rw [str_beq]
              rw [e] at h
              have e2 : ((List.range (min 2 2)).all (fun j => if j = 0 then (p.1 == q.1) else dEq p.2 q.2) && (2 == 2)) = ((p.1 == q.1) && dEq p.2 q.2) := by
                show (((p.1 == q.1) && (dEq p.2 q.2 && true)) && true) = _
                rw [Bool.and_true, Bool.and_true]
              exact (show Q (.bool ((List.range (min 2 2)).all (fun j => if j = 0 then (p.1 == q.1) else dEq p.2 q.2) && (2 == 2))) s from by
                rw [e2]
                exact h)
theorem pr_its (I : Inv X pins σ H s) {A : Around} (hu : A.units + 2 < cLine) {ts us : List Addr} {ps qs : List Pr} (ap : AllPr H ts ps) (aq : AllPr H us qs) (dp : AllD ps) (dq : AllD qs) {vs ws : List Value} (rv : Vals (ts.map V.ref) vs) (rw_ : Vals (us.map V.ref) ws) :
    Its X.prog X.w A s vs.toArray ws.toArray (prE ps qs) := by
  intro j h1 h2
  have l1 : j < vs.length := by simpa using h1
  have l2 : j < ws.length := by simpa using h2
  have m1 : j < ts.length := by
    have := rv.length
    rw [List.length_map] at this
    omega
  have m2 : j < us.length := by
    have := rw_.length
    rw [List.length_map] at this
    omega
  obtain ⟨p, hp, pa⟩ := ap.get (List.getElem?_eq_getElem m1)
  obtain ⟨q, hq, qa⟩ := aq.get (List.getElem?_eq_getElem m2)
  obtain ⟨v, ev, rv'⟩ := rv.get (i := j) (x := .ref ts[j]) (by rw [List.getElem?_map, List.getElem?_eq_getElem m1]; rfl)
  obtain ⟨u, eu, ru'⟩ := rw_.get (i := j) (x := .ref us[j]) (by rw [List.getElem?_map, List.getElem?_eq_getElem m2]; rfl)
  rw [List.getElem?_eq_getElem l1] at ev
  rw [List.getElem?_eq_getElem l2] at eu
  have e1 : vs.toArray[j] = .ref ts[j] := by
    have : vs[j] = .ref ts[j] := (Option.some.inj ev).trans rv'
    simpa using this
  have e2 : ws.toArray[j] = .ref us[j] := by
    have : ws[j] = .ref us[j] := (Option.some.inj eu).trans ru'
    simpa using this
  have e3 : prE ps qs j = prEq p q := by
    unfold prE
    rw [hp, hq]
  rw [e1, e2, e3]
  exact pr_eqP I hu pa qa (dp p (List.mem_of_getElem? hp)) (dq q (List.mem_of_getElem? hq))
end
/-- two lists of records -/
def rPl (pos : Bool) : R2 := fun x y H Q => ∃ (a b : Addr) (ts us : List Addr) (ps qs : List Pr), x = .ref a ∧ y = .ref b ∧ H a = some (.lst (ts.map V.ref)) ∧ H b = some (.lst (us.map V.ref)) ∧ AllPr H ts ps ∧ AllPr H us qs ∧ AllD ps ∧ AllD qs ∧ Q (.bl (cond pos (plEq ps qs) (!plEq ps qs))) H
section
variable {X : Cx}
theorem pl_size {H : Hp} {ts us : List Addr} {ps qs : List Pr} {vs ws : List Value} (ap : AllPr H ts ps) (aq : AllPr H us qs) (rv : Vals (ts.map V.ref) vs) (rw_ : Vals (us.map V.ref) ws) : vs.toArray.size = ps.length ∧ ws.toArray.size = qs.length := by
  have h1 := rv.length
  have h2 := rw_.length
  rw [List.length_map] at h1 h2
  rw [List.size_toArray, List.size_toArray, ← h1, ← h2]
  exact ⟨ap.len, aq.len⟩
theorem op_eqPl (hu : X.A.units + 4 < cLine) : OpR X (compareOp .Eq) (rPl true) := by
  intro pins s σ H x y v u Q I rx ry h
  obtain ⟨a, b, ts, us, ps, qs, rfl, rfl, ha, hb, ap, aq, dp, dq, q⟩ := h
  cases (show v = Value.ref a from rx)
  cases (show u = Value.ref b from ry)
  obtain ⟨vs, r1, p1, _⟩ := I.list (.of ha)
  obtain ⟨ws, r2, p2, _⟩ := I.list (.of hb)
  obtain ⟨z1, z2⟩ := pl_size ap aq r1 r2
  by_cases e : ps.length = qs.length
  · refine rcP_lists (e := prE ps qs) p1.isList p2.isList (by rw [z1, z2, e]) (by omega) (pr_its I (by show X.A.units + 1 + 2 < cLine; omega) ap aq dp dq r1 r2) _ _ ?_
    refine ⟨.bl (plEq ps qs), H, I, ?_, q⟩
    show _ = Value.bool (plEq ps qs)
    unfold plEq
    rw [z1, e, beq_self_eq_true, Bool.true_and]
  · refine SeqAt.RcAt.lists_lengths p1.isList p2.isList (by rw [z1, z2]; simpa using e) (by omega) X.prog X.w _ _ ?_
    refine ⟨.bl (plEq ps qs), H, I, ?_, q⟩
    show _ = Value.bool (plEq ps qs)
    unfold plEq
    rw [beq_eq_false_iff_ne.mpr e, Bool.false_and]
theorem op_nePl (hu : X.A.units + 4 < cLine) : OpR X (compareOp .NotEq) (rPl false) := by
  intro pins s σ H x y v u Q I rx ry h
  obtain ⟨a, b, ts, us, ps, qs, rfl, rfl, ha, hb, ap, aq, dp, dq, q⟩ := h
  cases (show v = Value.ref a from rx)
  cases (show u = Value.ref b from ry)
  obtain ⟨vs, r1, p1, _⟩ := I.list (.of ha)
  obtain ⟨ws, r2, p2, _⟩ := I.list (.of hb)
  obtain ⟨z1, z2⟩ := pl_size ap aq r1 r2
  by_cases e : ps.length = qs.length
  · refine rnP_lists (e := prE ps qs) p1.isList p2.isList (by rw [z1, z2, e]) (by omega) (pr_its I (by show X.A.units + 1 + 2 < cLine; omega) ap aq dp dq r1 r2) _ _ ?_
    refine ⟨.bl (!plEq ps qs), H, I, ?_, q⟩
    show _ = Value.bool (!plEq ps qs)
    unfold plEq
    rw [z1, e, beq_self_eq_true, Bool.true_and]
  · refine SeqAt.RcNeAt.lists_lengths p1.isList p2.isList (by rw [z1, z2]; simpa using e) (by omega) X.prog X.w _ _ ?_
    refine ⟨.bl (!plEq ps qs), H, I, ?_, q⟩
    show _ = Value.bool (!plEq ps qs)
    unfold plEq
    rw [beq_eq_false_iff_ne.mpr e, Bool.false_and]
    rfl
end
end G
set_option Elab.async false
set_option linter.all false
set_option maxRecDepth 100000
set_option maxHeartbeats 4000000
/-! MK1: o.m(e, k = v). -/
namespace G
open PySem PySem.Spec PyProof.Rows L2 NdefX
def tMethK (C : Addr) (m : Str) (n nk : Nat) (sp : Sp) (gV : List V → List V → List V) (E : XK) (ta : TE) (t tk : TA) : TE := fun σ H Q => ta σ H fun x H1 => ∃ a dx fs, x = .ref a ∧ H1 a = some (.ins C dx fs) ∧ fs.lookup m = none ∧
  t σ H1 fun vs H2 => tk σ H2 fun zs H3 => vs.length = n ∧ zs.length = nk ∧ sp (gV (.ref a :: vs) zs) H3 Q E
section
variable {X : Cx} {CX : CXT} {k n : Nat} {f C : Addr} {fd : FuncData} {ps ks : List Str} {sp : Sp} {E : XK} {m : Str} {pos apos : Pos} {o e : Expr} {es : List Expr} {kws : List Keyword} {ta : TE} {t tk : TA} {g : List Value → List Value → List Value} {gV : List V → List V → List V}
theorem pe_methK {pl : Sem Bool} (he : PE X o ta) (c : Cls X.K C) (hm : Meth X.K C m f) (F : FnOk X.prog X.w X.K X.mg X.base CX k f fd ps sp) (hr : Room k X.A) (hb : KBn X.K fd ps (n + 1) ks g gV) (hx : Passes CX X E) (ha : PA X (e :: es) t) (hkw : PK X kws tk)
    (hall : (backToKw pos (keywordEach kws X.env)).all (·.1.isSome) = true := by rfl) (hks : (backToKw pos (keywordEach kws X.env)).filterMap (·.1) = ks := by rfl)
    (hst : starEach (e :: es) X.env = (false, eval e X.env) :: starEach es X.env := by rfl) (hpl : ((backTo pos (starEach (e :: es) X.env)).any (·.1) || (backToKw pos (keywordEach kws X.env)).any (·.1.isNone)) = false := by rfl)
    (ht : eval (.Call (.Attribute o m apos) (e :: es) kws pos) X.env = (do
      let ov ← eval o X.env
      standAt apos.atName
      let (f, first) ← holding [ov] (getMethod ov m pl)
      callWith pos f first (backTo pos (starEach (e :: es) X.env)) (backToKw pos (keywordEach kws X.env))) := by rfl) :
    PE X (.Call (.Attribute o m apos) (e :: es) kws pos) (tMethK C m n ks.length sp gV E ta t tk) := by
  refine ⟨fun pins s σ H Q I h => ?_⟩
  refine PySem.W.methodCall_KW (pl := pl) (thn (he.run pins s σ H _ I h) fun u s1 ⟨x, H1, I1, rx, a, dx, fs, ex, ea, l, q⟩ => ?_) ht
  subst ex
  obtain rfl : u = Value.ref a := rx
  refine getmeth_ok I1 ea c hm l ?_
  refine PySem.W.callWith_KW (first := [.ref a]) (h₀ := X.base) I.ok.mod.kin hm.kp hall (thn (ha.run pos pins s1 σ H1 _ I1 q) fun us s2 ⟨vs, H2, I2, r, q2⟩ => ?_) hpl hst
  refine thn (hkw.run pos pins s2 σ H2 _ I2 q2) fun ws s3 ⟨zs, H3, I3, rz, l1, l2, q3⟩ => ⟨I3.kIn, ?_⟩
  rw [hks]
  have r1 : Vals (V.ref a :: vs) (Value.ref a :: us) := .cons rfl r
  have r2 := hb.rel r1 rz
  have n1 : (Value.ref a :: us).length = n + 1 := by rw [List.length_cons, ← r.length, l1]
  refine wpAny_call (codeAny_mono (F.run X.A X.stack s3 H3 ⟨Value.ref a :: us, ks.zip ws⟩ (g (Value.ref a :: us) ws) _ Q E hr I3.env0 (hb.to s3 (Value.ref a :: us) ws I3.kIn n1 (rz.length.symm.trans l2)) r2 q3) fun r s' hq => ?_)
  cases r with
  | error e => exact hx pins σ H3 s3 e s' I3 hq
  | ok fl =>
    cases fl with
    | ret u => exact I3.after hq
    | next => exact False.elim hq
    | brk => exact False.elim hq
    | cont => exact False.elim hq
end
/-! ### a drawn place -/
theorem cutV_from (xs : List V) (k : Nat) (h : k ≤ xs.length) : cutV xs (some (k : Int)) none = xs.drop k := by
  unfold cutV
  rw [HT.sIx_none, HT.sIx_nat, Nat.min_eq_left h, List.take_of_length_le]
  rw [List.length_drop]
  exact Nat.le_refl _
theorem cutV_to (xs : List V) (k : Nat) (h : k ≤ xs.length) : cutV xs none (some (k : Int)) = xs.take k := by
  unfold cutV
  rw [HT.sIx_none, HT.sIx_nat, List.drop_zero, Nat.min_eq_left h, Nat.sub_zero]
/-! ### lists with one more, one fewer -/
def insP {α : Type} (ps : List α) (i : Nat) (p : α) : List α := ps.take i ++ p :: ps.drop i
def delP {α : Type} (ps : List α) (i : Nat) : List α := ps.take i ++ ps.drop (i + 1)
theorem insP_perm {α : Type} (ps : List α) (i : Nat) (p : α) : (insP ps i p).Perm (p :: ps) := by
  unfold insP
  refine List.perm_middle.trans ?_
  rw [List.take_append_drop]
theorem delP_perm {α : Type} {ps : List α} {i : Nat} {p : α} (h : ps[i]? = some p) : (p :: delP ps i).Perm ps := by
  obtain ⟨hi, e⟩ := List.getElem?_eq_some_iff.mp h
  unfold delP
  refine List.perm_middle.symm.trans ?_
  rw [← e, ← List.drop_eq_getElem_cons hi, List.take_append_drop]
theorem insP_len {α : Type} (ps : List α) (i : Nat) (p : α) : (insP ps i p).length = ps.length + 1 := by
  rw [(insP_perm ps i p).length_eq, List.length_cons]
theorem delP_len {α : Type} {ps : List α} {i : Nat} (h : i < ps.length) : (delP ps i).length = ps.length - 1 := by
  have e := (delP_perm (List.getElem?_eq_getElem h)).length_eq
  rw [List.length_cons] at e
  omega
theorem delP_sub {α : Type} (ps : List α) (i : Nat) : (delP ps i).Sublist ps := by
  unfold delP
  have h := (List.Sublist.refl (ps.take i)).append (List.drop_sublist 1 (ps.drop i))
  rw [List.take_append_drop, List.drop_drop] at h
  exact h
theorem insP_map {α β : Type} (f : α → β) (ps : List α) (i : Nat) (p : α) : (insP ps i p).map f = insP (ps.map f) i (f p) := by
  unfold insP
  rw [List.map_append, List.map_cons, List.map_take, List.map_drop]
theorem delP_map {α β : Type} (f : α → β) (ps : List α) (i : Nat) : (delP ps i).map f = delP (ps.map f) i := by
  unfold delP
  rw [List.map_append, List.map_take, List.map_drop]
theorem AllPr.take {H : Hp} : ∀ {ts : List Addr} {ps : List Pr} (n : Nat), AllPr H ts ps → AllPr H (ts.take n) (ps.take n)
  | _, _, 0, _ => trivial
  | [], [], _ + 1, _ => trivial
  | _ :: _, _ :: _, n + 1, h => ⟨h.1, AllPr.take n h.2⟩
  | [], _ :: _, _ + 1, h => h.elim
  | _ :: _, [], _ + 1, h => h.elim
theorem AllPr.drop {H : Hp} : ∀ {ts : List Addr} {ps : List Pr} (n : Nat), AllPr H ts ps → AllPr H (ts.drop n) (ps.drop n)
  | _, _, 0, h => h
  | [], [], _ + 1, _ => trivial
  | _ :: _, _ :: _, n + 1, h => AllPr.drop n h.2
  | [], _ :: _, _ + 1, h => h.elim
  | _ :: _, [], _ + 1, h => h.elim
theorem AllPr.ins {H : Hp} {ts : List Addr} {ps : List Pr} {t : Addr} {p : Pr} (i : Nat) (h : AllPr H ts ps) (hp : PrAt H t p) : AllPr H (insP ts i t) (insP ps i p) := AllPr.app (h.take i) ⟨hp, h.drop i⟩
theorem AllPr.del {H : Hp} {ts : List Addr} {ps : List Pr} (i : Nat) (h : AllPr H ts ps) : AllPr H (delP ts i) (delP ps i) := AllPr.app (h.take i) (h.drop (i + 1))
theorem PsOk.perm {ps qs : List Pr} (h : PsOk ps) (p : qs.Perm ps) : PsOk qs :=
  ⟨by rw [p.length_eq]; exact h.few, (p.map _).nodup_iff.mpr h.nd, fun x hx => h.nm x (p.mem_iff.mp hx), fun x hx => h.val x (p.mem_iff.mp hx), fun x hx => h.kd x (p.mem_iff.mp hx)⟩
theorem PsOk.sub {ps qs : List Pr} (h : PsOk ps) (p : qs.Sublist ps) : PsOk qs :=
  ⟨Nat.le_trans p.length_le h.few, (p.map _).nodup h.nd, fun x hx => h.nm x (p.subset hx), fun x hx => h.val x (p.subset hx), fun x hx => h.kd x (p.subset hx)⟩
theorem PsOk.cons {ps : List Pr} {p : Pr} {zs : List Str} (h : PsOk ps) (l : ps.length < 40) (hn : p.1 ∉ nmsOf ps) (nm : NameZ p.1) (v : ValOk zs p.2) (k : (p.2.map (·.1)).Nodup) : PsOk (p :: ps) := by
  refine ⟨l, ?_, fun x hx => ?_, fun x hx => ?_, fun x hx => ?_⟩
  · rw [List.map_cons, List.nodup_cons]
    exact ⟨hn, h.nd⟩
  · rcases List.mem_cons.mp hx with rfl | hx
    · exact nm
    · exact h.nm x hx
  · rcases List.mem_cons.mp hx with rfl | hx
    · exact ⟨zs, v⟩
    · exact h.val x hx
  · rcases List.mem_cons.mp hx with rfl | hx
    · exact k
    · exact h.kd x hx
theorem PsOk.ins {ps : List Pr} {p : Pr} {zs : List Str} (i : Nat) (h : PsOk ps) (l : ps.length < 40) (hn : p.1 ∉ nmsOf ps) (nm : NameZ p.1) (v : ValOk zs p.2) (k : (p.2.map (·.1)).Nodup) : PsOk (insP ps i p) := (h.cons l hn nm v k).perm (insP_perm ps i p)
theorem PsOk.del {ps : List Pr} (i : Nat) (h : PsOk ps) : PsOk (delP ps i) := h.sub (delP_sub ps i)
theorem PsOk.out {ps : List Pr} (h : PsOk ps) {i : Nat} {p : Pr} (e : ps[i]? = some p) : p.1 ∉ nmsOf (delP ps i) := by
  have nd := ((delP_perm e).map (·.1)).nodup_iff.mpr h.nd
  rw [List.map_cons, List.nodup_cons] at nd
  exact nd.1
end G
set_option Elab.async false
set_option linter.all false
set_option maxRecDepth 100000
set_option maxHeartbeats 4000000
/-! O5: len(o) by an own __len__. -/
namespace G
open PySem PySem.Spec PyProof.Rows L2
section
variable {X : Cx} {C g : Addr} {fd : FuncData} {ps : List Str} {n : Nat} {sp : Sp}
def rLenO (C : Addr) (sp : Sp) : List V → Hp → VK → Prop := fun xs H Q => ∃ a dx fs, xs = [V.ref a] ∧ H a = some (.ins C dx fs) ∧ sp [.ref a] H (fun z H' => ∃ i : Int, z = .int i ∧ 0 ≤ i ∧ i < 2 ^ 63 ∧ Q z H') E0
theorem call_lenO (m : OwnM X.K C "__len__" g) (hb : Binds X.K fd ps []) (F : FnOk X.prog X.w X.K X.mg X.base CX0 n g fd ps sp) (hr : Room (n + 1) X.A) : CallR X (.builtin "len") (rLenO C sp) := by
  intro pins s σ H xs us Q I r h
  obtain ⟨a, dx, fs, rfl, ha, q⟩ := h
  obtain ⟨u, rfl, ru⟩ := r.one
  cases (show u = Value.ref a from ru)
  obtain ⟨ox, od, J⟩ := insX_at I ha
  obtain ⟨mm, hF⟩ := I.fr
  have hr2 : Room n X.A.in1 := hr.in1
  refine PySem.W.len_K hF I.ok.mod.kin J m.at_ m.fn ?_
  have hl : ([Value.ref a] ++ []).length = ps.length := by
    have := F.len _ _ _ _ q
    exact this
  refine wpAny_call (codeAny_mono (F.run X.A.in1 X.stack s H ⟨[Value.ref a], []⟩ ([Value.ref a] ++ []) [V.ref a] _ E0 hr2 I.env0.in1 (hb s [Value.ref a] I.kIn hl) (show Vals [V.ref a] [Value.ref a] from .cons rfl .nil) q) fun r s' hq => ?_)
  cases r with
  | error e => exact False.elim hq
  | ok fl =>
    cases fl with
    | ret u =>
      obtain ⟨v, H', I2, rv, i, rfl, h0, h1, q⟩ := I.after hq
      obtain ⟨t, rfl⟩ := (show ∃ t, u = Value.int i t from rv)
      exact ⟨⟨h0, h1⟩, .int i, H', I2.kept (t' := s'.toks + 1) (fun b o e => e), ⟨_, rfl⟩, q⟩
    | next => exact False.elim hq
    | brk => exact False.elim hq
    | cont => exact False.elim hq
end
end G
set_option Elab.async false
set_option linter.all false
set_option maxRecDepth 100000
set_option maxHeartbeats 4000000
/-! RC4: Records with one more, one fewer, one moved, another value, several more. -/
namespace G
open PySem PySem.Spec PyProof.Rows L2 NdefX
abbrev sNeedInt : Stmt := topS 32
abbrev sWith : Stmt := topS 38
abbrev sWout : Stmt := topS 39
abbrev sRoom : Stmt := topS 44
theorem scNeedInt : FnScope ["value", "low", "high"] ["value", "low", "high"] (defScope sNeedInt) := ⟨rfl, rfl, rfl, by decide +kernel, rfl, by decide +kernel, by decide +kernel⟩
theorem scWith : FnScope ["items", "index", "item"] ["items", "index", "item"] (defScope sWith) := ⟨rfl, rfl, rfl, by decide +kernel, rfl, by decide +kernel, by decide +kernel⟩
theorem scWout : FnScope ["items", "index"] ["items", "index"] (defScope sWout) := ⟨rfl, rfl, rfl, by decide +kernel, rfl, by decide +kernel, by decide +kernel⟩
theorem scRoom : FnScope ["count"] ["count"] (defScope sRoom) := ⟨rfl, rfl, rfl, by decide +kernel, rfl, by decide +kernel, by decide +kernel⟩
theorem scRcN : FnScope ["self"] ["self"] (defScope (sRc 5)) := ⟨rfl, rfl, rfl, by decide +kernel, rfl, by decide +kernel, by decide +kernel⟩
theorem scRcE : FnScope ["self", "other"] ["self", "other"] (defScope (sRc 8)) := ⟨rfl, rfl, rfl, by decide +kernel, rfl, by decide +kernel, by decide +kernel⟩
abbrev nRcA : List Str := ["self", "key", "value", "index", "at"]
theorem scRcA : FnScope nRcA ["self", "key", "value", "index"] (defScope (sRc 9)) := ⟨rfl, rfl, rfl, by decide +kernel, rfl, by decide +kernel, by decide +kernel⟩
theorem scRcR : FnScope ["self", "key"] ["self", "key"] (defScope (sRc 10)) := ⟨rfl, rfl, rfl, by decide +kernel, rfl, by decide +kernel, by decide +kernel⟩
theorem scRcM : FnScope ["self", "key", "index", "at"] ["self", "key", "index"] (defScope (sRc 11)) := ⟨rfl, rfl, rfl, by decide +kernel, rfl, by decide +kernel, by decide +kernel⟩
theorem scRcV : FnScope ["self", "key", "value", "at"] ["self", "key", "value"] (defScope (sRc 12)) := ⟨rfl, rfl, rfl, by decide +kernel, rfl, by decide +kernel, by decide +kernel⟩
theorem scRcX : FnScope ["self", "pairs", "joined"] ["self", "pairs"] (defScope (sRc 13)) := ⟨rfl, rfl, rfl, by decide +kernel, rfl, by decide +kernel, by decide +kernel⟩
theorem ne_ifT {A B : Prop} {x y : V} (e : x ≠ y) (h : A) : if (!decide (x = y)) = true then A else B := by
  rw [decide_eq_false e]
  exact iteT h
theorem eq_ifT {A B : Prop} {x y : V} (e : x = y) (h : A) : if decide (x = y) = true then A else B := by
  rw [decide_eq_true e]
  exact iteT h
theorem eq_ifN {A B : Prop} {x y : V} (e : x ≠ y) (h : B) : if decide (x = y) = true then A else B := by
  rw [decide_eq_false e]
  exact iteF h
def spNeedInt : Sp := fun vs H Q _ => ∃ v lo hi : Int, vs = [.int v, .int lo, .int hi] ∧ lo ≤ v ∧ v ≤ hi ∧ Q .non H
def spRoom : Sp := fun vs H Q _ => ∃ n : Int, vs = [.int n] ∧ n ≤ 40 ∧ Q .non H
def spWith : Sp := fun vs H Q _ => ∃ (l : Addr) (xs : List V) (i : Nat) (x : V), vs = [.ref l, .int (i : Nat), x] ∧ H l = some (.lst xs) ∧ i ≤ xs.length ∧ xs.length ≤ 900 ∧ ∀ p H', H p = none → Same H H' → H' p = some (.lst (insP xs i x)) → Q (.ref p) H'
def spWout : Sp := fun vs H Q _ => ∃ (l : Addr) (xs : List V) (i : Nat), vs = [.ref l, .int (i : Nat)] ∧ H l = some (.lst xs) ∧ i < xs.length ∧ xs.length ≤ 900 ∧ ∀ p H', H p = none → Same H H' → H' p = some (.lst (delP xs i)) → Q (.ref p) H'
def spRcN (C : Addr) : Sp := fun vs H Q _ => ∃ (a : Addr) (ps : List Pr), vs = [.ref a] ∧ RecAt C H a ps ∧ Q (.int (ps.length : Nat)) H
def spRcE (C : Addr) : Sp := fun vs H Q _ => ∃ (a b : Addr) (ps qs : List Pr), vs = [.ref a, .ref b] ∧ RecAt C H a ps ∧ RecAt C H b qs ∧ PsOk ps ∧ PsOk qs ∧ Q (.bl (plEq ps qs)) H
def spRcA (C : Addr) : Sp := fun vs H Q _ => ∃ (a d : Addr) (ps : List Pr) (y : Str) (zs : List Str) (kvs : List (Key × V)) (i : Nat) (x : V), vs = [.ref a, .str y, .ref d, x] ∧ ((x = .non ∧ i = ps.length) ∨ (x = .int (i : Nat) ∧ i ≤ ps.length)) ∧ RecAt C H a ps ∧ PsOk ps ∧ ps.length < 40 ∧ y ∉ nmsOf ps ∧ NameZ y ∧ H d = some (.dK kvs) ∧ ValOk zs kvs ∧ (kvs.map (·.1)).Nodup ∧
  ∀ a' H', H a' = none → Same H H' → RecAt C (Nw H H') a' (insP ps i (y, kvs)) → Q (.ref a') H'
def spRcR (C : Addr) : Sp := fun vs H Q _ => ∃ (a : Addr) (ps : List Pr) (i : Nat) (p : Pr), vs = [.ref a, .str p.1] ∧ RecAt C H a ps ∧ PsOk ps ∧ ps[i]? = some p ∧ ∀ a' H', H a' = none → Same H H' → RecAt C (Nw H H') a' (delP ps i) → Q (.ref a') H'
def spRcM (C : Addr) : Sp := fun vs H Q _ => ∃ (a : Addr) (ps : List Pr) (i j : Nat) (p : Pr), vs = [.ref a, .str p.1, .int (j : Nat)] ∧ RecAt C H a ps ∧ PsOk ps ∧ ps[i]? = some p ∧ j < ps.length ∧ ∀ a' H', H a' = none → Same H H' → RecAt C (Nw H H') a' (insP (delP ps i) j p) → Q (.ref a') H'
def spRcV (C : Addr) : Sp := fun vs H Q _ => ∃ (a d : Addr) (ps : List Pr) (i : Nat) (p : Pr) (zs : List Str) (kvs : List (Key × V)), vs = [.ref a, .str p.1, .ref d] ∧ RecAt C H a ps ∧ PsOk ps ∧ ps[i]? = some p ∧ H d = some (.dK kvs) ∧ ValOk zs kvs ∧ (kvs.map (·.1)).Nodup ∧
  ∀ a' H', H a' = none → Same H H' → RecAt C (Nw H H') a' (insP (delP ps i) i (p.1, kvs)) → Q (.ref a') H'
def spRcX (K : PySem.W.Frag) (C : Addr) : Sp := fun vs H Q _ => ∃ (a l : Addr) (ps qs : List Pr) (ts : List Addr), vs = [.ref a, .ref l] ∧ RecAt C H a ps ∧ PsOk ps ∧ SqLT K H l (ts.map V.ref) ∧ AllPr H ts qs ∧ PsOk (ps ++ qs) ∧
  ∀ a' H', H a' = none → Same H H' → RecAt C (Nw H H') a' (ps ++ qs) → Q (.ref a') H'
section
variable {P : Program} {w : World} {K : PySem.W.Frag} {mg : Str → Option Value} {base : Heap} {f C : Addr} {fd : FuncData}
theorem ok_needint {fI : Addr} {fdI : FuncData} (F : Fun K "need_integer" "need_integer" sNeedInt f fd) (gI : mg "is_integer" = some (.ref fI)) (kI : PySem.W.keepIn K (.ref fI) = true) (bI : Binds K fdI ["value", "low", "high"] []) (GI : FnOk P w K mg base CX0 1 fI fdI ["value", "low", "high"] spIsInt) :
    FnOk P w K mg base CX0 2 f fd ["value", "low", "high"] spNeedInt := by
  refine F.ok scNeedInt (fun vs H Q E h => ?_) (fun cdv A outer s H vs Q E hr h => ?_)
  · obtain ⟨v, lo, hi, rfl, _⟩ := h
    rfl
  · obtain ⟨v, lo, hi, rfl, h1, h2, q⟩ := h
    refine ⟨_, pss_one (ps_if (pt_not (pt_val (pe_call GI hr rfl gI kI bI .nil pass0 (pa_cons (pv 0) (pa_cons (pv 1) (pa_cons (pv 2) pa_nil)))))) (pss_one ps_never) pss_nil), ?_⟩
    refine ⟨_, rfl, _, rfl, _, rfl, v, lo, hi, rfl, _, rfl, ?_⟩
    rw [decide_eq_true h1, decide_eq_true h2]
    exact iteF q
theorem ok_room (F : Fun K "need_room" "need_room" sRoom f fd) {t : Tok} (gM : mg "MOST_RECORDS" = some (.int 40 t)) : FnOk P w K mg base CX0 1 f fd ["count"] spRoom := by
  refine F.ok scRoom (fun vs H Q E h => ?_) (fun cdv A outer s H vs Q E hr h => ?_)
  · obtain ⟨n, rfl, _⟩ := h
    rfl
  · obtain ⟨n, rfl, h1, q⟩ := h
    refine ⟨_, pss_one (ps_if (pt_cmpR op_gt (pv 0) (pe_glob (v := .int 40) rfl gM ⟨_, rfl⟩) (nomark _)) (pss_one ps_never) pss_nil), ?_⟩
    refine ⟨_, rfl, _, _, rfl, rfl, _, rfl, ?_⟩
    rw [show decide (n > 40) = false from decide_eq_false (by omega)]
    exact iteF q
theorem ok_with (F : Fun K "with_item" "with_item" sWith f fd) : FnOk P w K mg base CX0 1 f fd ["items", "index", "item"] spWith := by
  refine F.ok scWith (fun vs H Q E h => ?_) (fun cdv A outer s H vs Q E hr h => ?_)
  · obtain ⟨l, xs, i, x, rfl, _⟩ := h
    rfl
  · obtain ⟨l, xs, i, x, rfl, hl, hi, h1, q⟩ := h
    refine ⟨_, pss_one (ps_ret (pe_lst (StX.pa_star (pe_slice (r := rSlL K) sl_list (pv 0) po_none (po_some (pv 1))) (pa_cons (pv 2) (StX.pa_star (pe_slice (r := rSlL K) sl_list (pv 0) (po_some (pv 1)) po_none) pa_nil))))), ?_⟩
    refine ⟨_, rfl, _, rfl, _, rfl, l, xs, rfl, .of hl, fun m1 h3 => ⟨m1, _, rfl, .inr (.of upd_same), _, rfl, _, rfl, _, rfl, _, rfl, l, xs, rfl, .of (Same.new h3 _ _ hl), fun m2 h4 => ⟨m2, _, rfl, .inr (.of upd_same), ?_⟩⟩⟩
    rw [cutV_to xs i hi] at h4
    rw [cutV_to xs i hi, cutV_from xs i hi]
    unfold tNil
    dsimp only
    rw [List.append_nil]
    refine ⟨?_, fun p hp => q p _ ?_ ?_ upd_same⟩
    · have := insP_len xs i x
      unfold insP at this
      rw [this]
      exact Nat.le_of_lt (small1000 (by omega))
    · exact ((Same.new h3).trans (Same.new h4)).free hp
    · exact ((Same.new h3).trans (Same.new h4)).trans (Same.new hp)
theorem ok_wout (F : Fun K "without_index" "without_index" sWout f fd) : FnOk P w K mg base CX0 1 f fd ["items", "index"] spWout := by
  refine F.ok scWout (fun vs H Q E h => ?_) (fun cdv A outer s H vs Q E hr h => ?_)
  · obtain ⟨l, xs, i, rfl, _⟩ := h
    rfl
  · obtain ⟨l, xs, i, rfl, hl, hi, h1, q⟩ := h
    refine ⟨_, pss_one (ps_ret (pe_lst (StX.pa_star (pe_slice (r := rSlL K) sl_list (pv 0) po_none (po_some (pv 1))) (StX.pa_star (pe_slice (r := rSlL K) sl_list (pv 0) (po_some (pe_op op_add (pv 1) pe_int)) po_none) pa_nil)))), ?_⟩
    refine ⟨_, rfl, _, rfl, _, rfl, l, xs, rfl, .of hl, fun m1 h3 => ⟨m1, _, rfl, .inr (.of upd_same), _, rfl, _, rfl, _, _, rfl, rfl, _, rfl, l, xs, rfl, .of (Same.new h3 _ _ hl), fun m2 h4 => ⟨m2, _, rfl, .inr (.of upd_same), ?_⟩⟩⟩
    rw [cutV_to xs i (by omega)] at h4
    rw [cutV_to xs i (by omega), show ((i : Int) + 1) = ((i + 1 : Nat) : Int) by omega, cutV_from xs (i + 1) (by omega)]
    unfold tNil
    dsimp only
    rw [List.append_nil]
    refine ⟨?_, fun p hp => q p _ ?_ ?_ upd_same⟩
    · have := delP_len hi
      unfold delP at this
      rw [this]
      exact Nat.le_of_lt (small1000 (by omega))
    · exact ((Same.new h3).trans (Same.new h4)).free hp
    · exact ((Same.new h3).trans (Same.new h4)).trans (Same.new hp)
theorem ok_rclen (F : Fun K "__len__" "Records.__len__" (sRc 5) f fd) (c : RcC K C) (ml : mg "len" = none) : FnOk P w K mg base CX0 1 f fd ["self"] (spRcN C) := by
  refine F.ok scRcN (fun vs H Q E h => ?_) (fun cdv A outer s H vs Q E hr h => ?_)
  · obtain ⟨a, ps, rfl, _⟩ := h
    rfl
  · obtain ⟨a, ps, rfl, ⟨dx, l, n, ts, ha, hl, al, hn⟩, q⟩ := h
    refine ⟨_, pss_one (ps_ret (pe_callB call_len_seq (by rfl) ml PySem.boot_len (pa_cons (pe_fld (pv 0) rfl) pa_nil))), ?_⟩
    refine ⟨_, rfl, a, C, dx, _, _, rfl, ha, c.cl, c.n1, rfl, l, _, rfl, .inl (.of hl), ?_⟩
    rw [List.length_map, al.len]
    exact q
end
end G
set_option Elab.async false
set_option linter.all false
set_option maxRecDepth 100000
set_option maxHeartbeats 4000000
/-! RC5: Records changed; ==, in. -/
namespace G
open PySem PySem.Spec PyProof.Rows L2 NdefX
/-- what isinstance asks of the class -/
structure RcK (K : PySem.W.Frag) (C : Addr) : Prop where
  ha : PySem.W.findIn K (.ref C) "__class__" = some (some (.builtin "object.__class__"))
  hn : PySem.W.specialIn K (.builtin "object.__class__") "__get__" = some (some (.builtin "getset_descriptor.__get__"))
  htk : PySem.W.takesIn K (.builtin "object.__class__") = some true
  hm : PySem.W.mroIn K C (.type "object") = some true
  kit : PySem.W.kitOne K (.ref C) (.ref C) = some true
  kN : PySem.W.kitOne K (.type "NoneType") (.ref C) = some false
  kI : PySem.W.kitOne K (.type "int") (.ref C) = some false
  kS : PySem.W.kitOne K (.type "str") (.ref C) = some false
  kL : PySem.W.kitOne K (.type "list") (.ref C) = some false
  kB : PySem.W.kitOne K (.type "bool") (.ref C) = some false
  kD : PySem.W.kitOne K (.type "dict") (.ref C) = some false
section
variable {P : Program} {w : World} {K : PySem.W.Frag} {mg : Str → Option Value} {base : Heap} {f C : Addr} {fd : FuncData}
theorem ok_rceq (F : Fun K "__eq__" "Records.__eq__" (sRc 8) f fd) (c : RcC K C) (k : RcK K C) (gC : mg "Records" = some (.ref C)) (mi : mg "isinstance" = none) : FnOk P w K mg base CX0 1 f fd ["self", "other"] (spRcE C) := by
  refine F.ok scRcE (fun vs H Q E h => ?_) (fun cdv A outer s H vs Q E hr h => ?_)
  · obtain ⟨a, b, ps, qs, rfl, _⟩ := h
    rfl
  · obtain ⟨a, b, ps, qs, rfl, ⟨dx, l, n, ts, ha, hl, al, hn⟩, ⟨dy, l2, n2, us, hb, hl2, al2, hn2⟩, okp, okq, q⟩ := h
    have hu : (A.deeper (envOfC "Records.__eq__" (defScope (sRc 8)) s.heap.objs.size f cdv)).units + 4 < cLine := by have := hr.units; omega
    refine ⟨_, pss_one (ps_ret (pe_and (pe_callB call_isi (by rfl) mi (by decide +kernel) (pa_cons (pv 1) (pa_cons (pe_glob (v := .ref C) rfl gC rfl) pa_nil)))
      (pe_one (pe_cmpR (op_eqPl hu) (pe_fld (pv 0) rfl) (pe_fld (pv 1) rfl) (nomark _))))), ?_⟩
    refine ⟨_, rfl, _, _, _, _, _, rfl, .own C, .base (.ins hb c.cl k.ha k.hn k.htk k.hm), k.kit, _, rfl, iteT ?_⟩
    exact ⟨_, rfl, a, C, dx, _, _, rfl, ha, c.cl, c.n1, rfl, _, rfl, b, C, dy, _, _, rfl, hb, c.cl, c.n1, rfl, l, l2, ts, us, ps, qs, rfl, rfl, hl, hl2, al, al2, okp.allD, okq.allD, q⟩
theorem ok_rchas (F : Fun K "__contains__" "Records.__contains__" (sRc 6) f fd) (c : RcC K C) : FnOk P w K mg base CX0 1 f fd ["self", "item"] (spRcC C) := by
  refine F.ok scRcC (fun vs H Q E h => ?_) (fun cdv A outer s H vs Q E hr h => ?_)
  · obtain ⟨a, ps, z, rfl, _⟩ := h
    rfl
  · obtain ⟨a, ps, z, rfl, ⟨dx, l, n, ts, ha, hl, al, hn⟩, q⟩ := h
    refine ⟨_, pss_one (ps_ret (pe_cmpR op_in_seq (pv 1) (pe_fld (pv 0) rfl) (by rfl))), ?_⟩
    refine ⟨_, rfl, _, rfl, a, C, dx, _, _, rfl, ha, c.cl, c.n2, rfl, n, _, rfl, .inl (.of hn), rfl, flat_strs _, ?_⟩
    rw [show (if false = true then !inV (V.str z) ((nmsOf ps).map V.str) else inV (V.str z) ((nmsOf ps).map V.str)) = decide (z ∈ nmsOf ps) from inV_str _ _]
    exact q
/-- where the records are made: what the caller hands on -/
structure MkR (P : Program) (w : World) (K : PySem.W.Frag) (mg : Str → Option Value) (base : Heap) (C fI : Addr) (fdI : FuncData) : Prop where
  M : Mk K C fI
  b : Binds K fdI ["self", "pairs"] []
  G : FnOk P w K mg base CX0 6 fI fdI ["self", "pairs"] (spRcI K C)
  g : mg "Records" = some (.ref C)
/-- with_item and without_index -/
structure WiWo (P : Program) (w : World) (K : PySem.W.Frag) (mg : Str → Option Value) (base : Heap) (fW fO : Addr) (fdW fdO : FuncData) : Prop where
  gW : mg "with_item" = some (.ref fW)
  kW : PySem.W.keepIn K (.ref fW) = true
  bW : Binds K fdW ["items", "index", "item"] []
  GW : FnOk P w K mg base CX0 1 fW fdW ["items", "index", "item"] spWith
  gO : mg "without_index" = some (.ref fO)
  kO : PySem.W.keepIn K (.ref fO) = true
  bO : Binds K fdO ["items", "index"] []
  GO : FnOk P w K mg base CX0 1 fO fdO ["items", "index"] spWout
theorem ok_rcins {fI fR fN fM fW fO : Addr} {fdI fdR fdN fdM fdW fdO : FuncData} {kws : List (Str × V)} (F : FunD K "inserted" "Records.inserted" (defArgs (sRc 9)) (defBody (sRc 9)) (defScope (sRc 9)) [] kws f fd) (c : RcC K C) (R : MkR P w K mg base C fI fdI) (Wi : WiWo P w K mg base fW fO fdW fdO)
    (gR : mg "need_record" = some (.ref fR)) (kR : PySem.W.keepIn K (.ref fR) = true) (bR : Binds K fdR ["key", "value"] []) (GR : FnOk P w K mg base CX0 4 fR fdR ["key", "value"] spNeedRecord)
    (gN : mg "need_integer" = some (.ref fN)) (kN : PySem.W.keepIn K (.ref fN) = true) (bN : Binds K fdN ["value", "low", "high"] []) (GN : FnOk P w K mg base CX0 2 fN fdN ["value", "low", "high"] spNeedInt)
    (gM : mg "need_room" = some (.ref fM)) (kM : PySem.W.keepIn K (.ref fM) = true) (bM : Binds K fdM ["count"] []) (GM : FnOk P w K mg base CX0 1 fM fdM ["count"] spRoom) (ml : mg "len" = none) :
    FnOk P w K mg base CX0 8 f fd ["self", "key", "value", "index"] (spRcA C) := by
  refine fund_ok F scRcA (fun vs H Q E h => ?_) (fun cdv A outer s H vs Q E hr h => ?_)
  · obtain ⟨a, d, ps, y, zs, kvs, i, x, rfl, _⟩ := h
    rfl
  · obtain ⟨a, d, ps, y, zs, kvs, i, x, rfl, hx, hR, ok, lt, hy, nm, hd, hv, kd, q⟩ := h
    have hr1 := hr.mono (show 1 ≤ 7 by decide)
    have hr2 := hr.mono (show 2 ≤ 7 by decide)
    have hr4 := hr.mono (show 4 ≤ 7 by decide)
    obtain ⟨dx, l, n, ts, ha, hl, al, hn⟩ := id hR
    refine ⟨_, pss_cons (ps_expr (pe_call GR hr4 rfl gR kR bR .nil pass0 (pa_cons (pv 1) (pa_cons (pv 2) pa_nil))))
      (pss_cons (ps_if (pt_cmpR op_notN (pv 3) pe_non (nomark _)) (pss_one (ps_expr (pe_call GN hr2 rfl gN kN bN .nil pass0 (pa_cons (pv 3) (pa_cons pe_int (pa_cons (pe_callB call_len_seq (by rfl) ml PySem.boot_len (pa_cons (pe_fld (pv 0) rfl) pa_nil)) pa_nil)))))) pss_nil)
      (pss_cons (ps_if (pt_cmpR op_in_seq (pv 1) (pe_fld (pv 0) rfl) (by rfl)) (pss_one ps_never) pss_nil)
      (pss_cons (ps_expr (pe_call GM hr1 rfl gM kM bM .nil pass0 (pa_cons (pe_op op_add (pe_callB call_len_seq (by rfl) ml PySem.boot_len (pa_cons (pe_fld (pv 0) rfl) pa_nil)) pe_int) pa_nil)))
      (pss_cons (ps_set (i := 4) scRcA.nd rfl (.inl rfl) (pe_ifExp (pt_cmpR op_isN (pv 3) pe_non (nomark _)) (pe_callB call_len_seq (by rfl) ml PySem.boot_len (pa_cons (pe_fld (pv 0) rfl) pa_nil)) (pv 3)))
      (pss_one (ps_ret (pe_make R.M R.G hr rfl R.g R.b .nil pass0 (pa_cons (pe_call Wi.GW hr1 rfl Wi.gW Wi.kW Wi.bW .nil pass0 (pa_cons (pe_fld (pv 0) rfl) (pa_cons (pv 4) (pa_cons (pe_tup (pa_cons (pv 1) (pa_cons (pv 2) pa_nil))) pa_nil)))) pa_nil)))))))), ?_⟩
    have len : (ts.map V.ref).length = ps.length := by rw [List.length_map, al.len]
    refine ⟨_, rfl, _, rfl, y, d, zs, kvs, rfl, nm, hd, hv, fun H1 s1 => ?_⟩
    have ha1 := s1 _ _ ha
    have hl1 := s1 _ _ hl
    have hn1 := s1 _ _ hn
    have al1 := al.sf (.of_same s1)
    have hd1 := s1 _ _ hd
    have no : (if false = true then !inV (V.str y) ((nmsOf ps).map V.str) else inV (V.str y) ((nmsOf ps).map V.str)) = false := (inV_str _ _).trans (decide_eq_false hy)
    have fin : i ≤ ps.length → ∀ T, H1 T = none → spWith [.ref l, .int (i : Nat), .ref T] (upd H1 T (.tup [.str y, .ref d])) (fun v H2 => ∀ x dx, H2 x = none → H2 dx = none → dx ≠ x → spRcI K C [.ref x, v] (upd (upd H2 dx (.own x)) x (.ins C dx [])) (fun v H3 => v = .non ∧ Q (.ref x) H3) E) E := by
      intro hi T hT
      have tT := Same.new (o := .tup [.str y, .ref d]) hT
      refine ⟨l, ts.map V.ref, i, .ref T, rfl, tT _ _ hl1, by rw [len]; exact hi, by rw [len]; omega, fun p H2 hp s2 e2 => ?_⟩
      have sA := s1.trans (tT.trans s2)
      rw [← insP_map] at e2
      refine rc_made2 (R := fun x H' => _) (.inl (.of e2)) (((al1.sf (.of_same (tT.trans s2))).ins i ⟨d, s2 _ _ upd_same, s2 _ _ (tT _ _ hd1)⟩)) (ok.ins (p := (y, kvs)) i lt hy nm hv kd) fun a' H3 na ra s3 => ?_
      exact q a' H3 (sA.free na) (sA.trans s3) (ra.same (Nw.base sA))
    rcases hx with ⟨rfl, rfl⟩ | ⟨rfl, hi⟩
    · refine ⟨_, rfl, rfl, _, rfl, ne_if rfl ?_⟩
      refine ⟨_, rfl, _, rfl, a, C, dx, _, _, rfl, ha1, c.cl, c.n2, rfl, n, _, rfl, .inl (.of hn1), rfl, flat_strs _, _, rfl, ?_⟩
      rw [no]
      refine iteF ?_
      refine ⟨_, rfl, a, C, dx, _, _, rfl, ha1, c.cl, c.n1, rfl, l, _, rfl, .inl (.of hl1), _, _, rfl, rfl, _, rfl, by rw [len]; omega, ?_⟩
      refine ⟨_, rfl, rfl, _, rfl, eq_ifT rfl ?_⟩
      refine ⟨_, rfl, a, C, dx, _, _, rfl, ha1, c.cl, c.n1, rfl, l, _, rfl, .inl (.of hl1), ?_⟩
      refine ⟨_, rfl, a, C, dx, _, _, rfl, ha1, c.cl, c.n1, rfl, _, rfl, _, rfl, _, rfl, (by show 2 ≤ sizeLine; decide), fun T hT => ?_⟩
      rw [len]
      exact fin (Nat.le_refl _) T hT
    · refine ⟨_, rfl, rfl, _, rfl, ne_ifT (fun z => nomatch z) ?_⟩
      refine ⟨_, rfl, _, rfl, a, C, dx, _, _, rfl, ha1, c.cl, c.n1, rfl, l, _, rfl, .inl (.of hl1), _, _, _, rfl, by omega, by rw [len]; omega, ?_⟩
      refine ⟨_, rfl, _, rfl, a, C, dx, _, _, rfl, ha1, c.cl, c.n2, rfl, n, _, rfl, .inl (.of hn1), rfl, flat_strs _, _, rfl, ?_⟩
      rw [no]
      refine iteF ?_
      refine ⟨_, rfl, a, C, dx, _, _, rfl, ha1, c.cl, c.n1, rfl, l, _, rfl, .inl (.of hl1), _, _, rfl, rfl, _, rfl, by rw [len]; omega, ?_⟩
      refine ⟨_, rfl, rfl, _, rfl, eq_ifN (fun z => nomatch z) ?_⟩
      refine ⟨_, rfl, ?_⟩
      refine ⟨_, rfl, a, C, dx, _, _, rfl, ha1, c.cl, c.n1, rfl, _, rfl, _, rfl, _, rfl, (by show 2 ≤ sizeLine; decide), fun T hT => ?_⟩
      exact fin hi T hT
theorem ok_rcrem {fI fL fW fO : Addr} {fdI fdL fdW fdO : FuncData} (F : Fun K "removed" "Records.removed" (sRc 10) f fd) (c : RcC K C) (R : MkR P w K mg base C fI fdI) (Wi : WiWo P w K mg base fW fO fdW fdO)
    (mL : Meth K C "place" fL) (bL : Binds K fdL ["self", "key"] []) (GL : FnOk P w K mg base CX0 1 fL fdL ["self", "key"] (spRcL C)) :
    FnOk P w K mg base CX0 8 f fd ["self", "key"] (spRcR C) := by
  refine F.ok scRcR (fun vs H Q E h => ?_) (fun cdv A outer s H vs Q E hr h => ?_)
  · obtain ⟨a, ps, i, p, rfl, _⟩ := h
    rfl
  · obtain ⟨a, ps, i, p, rfl, hR, ok, hi, q⟩ := h
    have hr1 := hr.mono (show 1 ≤ 7 by decide)
    obtain ⟨dx, l, n, ts, ha, hl, al, hn⟩ := id hR
    have len : (ts.map V.ref).length = ps.length := by rw [List.length_map, al.len]
    have lt := (List.getElem?_eq_some_iff.mp hi).1
    have l40 := ok.few
    refine ⟨_, pss_one (ps_ret (pe_make R.M R.G hr rfl R.g R.b .nil pass0 (pa_cons (pe_call Wi.GO hr1 rfl Wi.gO Wi.kO Wi.bO .nil pass0 (pa_cons (pe_fld (pv 0) rfl) (pa_cons (pe_meth (pv 0) c.cl mL GL hr1 bL .nil pass0 (pa_cons (pv 1) pa_nil)) pa_nil))) pa_nil))), ?_⟩
    refine ⟨_, rfl, a, C, dx, _, _, rfl, ha, c.cl, c.n1, rfl, _, rfl, a, dx, _, rfl, ha, rfl, _, rfl, a, ps, i, p, rfl, hR, ok, hi, ?_⟩
    refine ⟨l, ts.map V.ref, i, rfl, hl, by rw [len]; exact lt, by rw [len]; omega, fun p1 H2 hp s2 e2 => ?_⟩
    rw [← delP_map] at e2
    refine rc_made2 (R := fun x H' => _) (.inl (.of e2)) ((al.sf (.of_same s2)).del i) (ok.del i) fun a' H3 na ra s3 => ?_
    exact q a' H3 (s2.free na) (s2.trans s3) (ra.same (Nw.base s2))
theorem ok_rcmov {fI fL fW fO fN : Addr} {fdI fdL fdW fdO fdN : FuncData} (F : Fun K "moved" "Records.moved" (sRc 11) f fd) (c : RcC K C) (R : MkR P w K mg base C fI fdI) (Wi : WiWo P w K mg base fW fO fdW fdO)
    (mL : Meth K C "place" fL) (bL : Binds K fdL ["self", "key"] []) (GL : FnOk P w K mg base CX0 1 fL fdL ["self", "key"] (spRcL C))
    (gN : mg "need_integer" = some (.ref fN)) (kN : PySem.W.keepIn K (.ref fN) = true) (bN : Binds K fdN ["value", "low", "high"] []) (GN : FnOk P w K mg base CX0 2 fN fdN ["value", "low", "high"] spNeedInt) (ml : mg "len" = none) :
    FnOk P w K mg base CX0 8 f fd ["self", "key", "index"] (spRcM C) := by
  refine F.ok scRcM (fun vs H Q E h => ?_) (fun cdv A outer s H vs Q E hr h => ?_)
  · obtain ⟨a, ps, i, j, p, rfl, _⟩ := h
    rfl
  · obtain ⟨a, ps, i, j, p, rfl, hR, ok, hi, hj, q⟩ := h
    have hr1 := hr.mono (show 1 ≤ 7 by decide)
    have hr2 := hr.mono (show 2 ≤ 7 by decide)
    obtain ⟨dx, l, n, ts, ha, hl, al, hn⟩ := id hR
    have len : (ts.map V.ref).length = ps.length := by rw [List.length_map, al.len]
    have lt := (List.getElem?_eq_some_iff.mp hi).1
    have l40 := ok.few
    refine ⟨_, pss_cons (ps_expr (pe_call GN hr2 rfl gN kN bN .nil pass0 (pa_cons (pv 2) (pa_cons pe_int (pa_cons (pe_op op_sub (pe_callB call_len_seq (by rfl) ml PySem.boot_len (pa_cons (pe_fld (pv 0) rfl) pa_nil)) pe_int) pa_nil)))))
      (pss_cons (ps_set (i := 3) scRcM.nd rfl (.inl rfl) (pe_meth (pv 0) c.cl mL GL hr1 bL .nil pass0 (pa_cons (pv 1) pa_nil)))
      (pss_one (ps_ret (pe_make R.M R.G hr rfl R.g R.b .nil pass0 (pa_cons (pe_call Wi.GW hr1 rfl Wi.gW Wi.kW Wi.bW .nil pass0 (pa_cons (pe_call Wi.GO hr1 rfl Wi.gO Wi.kO Wi.bO .nil pass0 (pa_cons (pe_fld (pv 0) rfl) (pa_cons (pv 3) pa_nil)))
        (pa_cons (pv 2) (pa_cons (pe_ix (r := rIxL K) ix_list (pe_fld (pv 0) rfl) (pv 3) (fun _ _ => rfl)) pa_nil)))) pa_nil))))), ?_⟩
    refine ⟨_, rfl, _, rfl, a, C, dx, _, _, rfl, ha, c.cl, c.n1, rfl, l, _, rfl, .inl (.of hl), _, _, rfl, rfl, _, _, _, rfl, by omega, by rw [len]; omega, ?_⟩
    refine ⟨_, rfl, a, dx, _, rfl, ha, rfl, _, rfl, a, ps, i, p, rfl, hR, ok, hi, ?_⟩
    refine ⟨_, rfl, a, C, dx, _, _, rfl, ha, c.cl, c.n1, rfl, _, rfl, l, ts.map V.ref, i, rfl, hl, by rw [len]; exact lt, by rw [len]; omega, fun p1 H2 hp1 s2 e2 => ?_⟩
    obtain ⟨t, hti, d, et, ed⟩ := al.at hi
    have sz : (delP ts i).length = ps.length - 1 := by rw [delP_len (by rw [al.len]; exact lt), al.len]
    rw [← delP_map] at e2
    refine ⟨_, rfl, _, rfl, a, C, dx, _, _, rfl, s2 _ _ ha, c.cl, c.n1, rfl, _, rfl, l, _, _, _, rfl, rfl, .of (s2 _ _ hl), atI_nat (j := i) (by rw [List.getElem?_map, hti] <;> rfl), ?_⟩
    refine ⟨p1, (delP ts i).map V.ref, j, .ref t, rfl, e2, by rw [List.length_map, sz]; omega, by rw [List.length_map, sz]; omega, fun p2 H3 hp2 s3 e3 => ?_⟩
    have s23 := s2.trans s3
    rw [← insP_map] at e3
    refine rc_made2 (R := fun x H' => _) (.inl (.of e3)) (((al.sf (.of_same s23)).del i).ins j ⟨d, s23 _ _ et, s23 _ _ ed⟩) (ok.perm ((insP_perm _ _ _).trans (delP_perm hi))) fun a' H4 na ra s4 => ?_
    exact q a' H4 (s23.free na) (s23.trans s4) (ra.same (Nw.base s23))
theorem ok_rcrep {fI fL fW fO fV : Addr} {fdI fdL fdW fdO fdV : FuncData} (F : Fun K "replaced" "Records.replaced" (sRc 12) f fd) (c : RcC K C) (R : MkR P w K mg base C fI fdI) (Wi : WiWo P w K mg base fW fO fdW fdO)
    (mL : Meth K C "place" fL) (bL : Binds K fdL ["self", "key"] []) (GL : FnOk P w K mg base CX0 1 fL fdL ["self", "key"] (spRcL C))
    (gV : mg "need_value" = some (.ref fV)) (kV : PySem.W.keepIn K (.ref fV) = true) (bV : Binds K fdV ["value"] []) (GV : FnOk P w K mg base CX0 3 fV fdV ["value"] spNeedValue) :
    FnOk P w K mg base CX0 8 f fd ["self", "key", "value"] (spRcV C) := by
  refine F.ok scRcV (fun vs H Q E h => ?_) (fun cdv A outer s H vs Q E hr h => ?_)
  · obtain ⟨a, d, ps, i, p, zs, kvs, rfl, _⟩ := h
    rfl
  · obtain ⟨a, d, ps, i, p, zs, kvs, rfl, hR, ok, hi, hd, hv, kd, q⟩ := h
    have hr1 := hr.mono (show 1 ≤ 7 by decide)
    have hr3 := hr.mono (show 3 ≤ 7 by decide)
    have lt := (List.getElem?_eq_some_iff.mp hi).1
    have l40 := ok.few
    refine ⟨_, pss_cons (ps_expr (pe_call GV hr3 rfl gV kV bV .nil pass0 (pa_cons (pv 2) pa_nil)))
      (pss_cons (ps_set (i := 3) scRcV.nd rfl (.inl rfl) (pe_meth (pv 0) c.cl mL GL hr1 bL .nil pass0 (pa_cons (pv 1) pa_nil)))
      (pss_one (ps_ret (pe_make R.M R.G hr rfl R.g R.b .nil pass0 (pa_cons (pe_call Wi.GW hr1 rfl Wi.gW Wi.kW Wi.bW .nil pass0 (pa_cons (pe_call Wi.GO hr1 rfl Wi.gO Wi.kO Wi.bO .nil pass0 (pa_cons (pe_fld (pv 0) rfl) (pa_cons (pv 3) pa_nil)))
        (pa_cons (pv 3) (pa_cons (pe_tup (pa_cons (pv 1) (pa_cons (pv 2) pa_nil))) pa_nil)))) pa_nil))))), ?_⟩
    refine ⟨_, rfl, d, zs, kvs, rfl, hd, hv, fun H1 s1 => ?_⟩
    have hR1 := hR.same s1
    obtain ⟨dx, l, n, ts, ha, hl, al, hn⟩ := id hR1
    have len : (ts.map V.ref).length = ps.length := by rw [List.length_map, al.len]
    refine ⟨_, rfl, a, dx, _, rfl, ha, rfl, _, rfl, a, ps, i, p, rfl, hR1, ok, hi, ?_⟩
    refine ⟨_, rfl, a, C, dx, _, _, rfl, ha, c.cl, c.n1, rfl, _, rfl, l, ts.map V.ref, i, rfl, hl, by rw [len]; exact lt, by rw [len]; omega, fun p1 H2 hp1 s2 e2 => ?_⟩
    have sz : (delP ts i).length = ps.length - 1 := by rw [delP_len (by rw [al.len]; exact lt), al.len]
    rw [← delP_map] at e2
    refine ⟨_, rfl, _, rfl, _, rfl, (by show 2 ≤ sizeLine; decide), fun T hT => ?_⟩
    have tT := Same.new (o := .tup [.str p.1, .ref d]) hT
    refine ⟨p1, (delP ts i).map V.ref, i, .ref T, rfl, tT _ _ e2, by rw [List.length_map, sz]; omega, by rw [List.length_map, sz]; omega, fun p2 H3 hp2 s3 e3 => ?_⟩
    have s13 := s2.trans (tT.trans s3)
    have s03 := s1.trans s13
    rw [← insP_map] at e3
    have szp := delP_len lt
    refine rc_made2 (R := fun x H' => _) (.inl (.of e3)) (((al.sf (.of_same s13)).del i).ins (p := (p.1, kvs)) i ⟨d, s3 _ _ upd_same, s03 _ _ hd⟩) ((ok.del i).ins (p := (p.1, kvs)) i (by rw [szp]; omega) (show (p.1, kvs).1 ∉ nmsOf (delP ps i) from ok.out (p := p) hi) (ok.nm p (List.mem_of_getElem? hi)) hv kd) fun a' H4 na ra s4 => ?_
    exact q a' H4 (s03.free na) (s03.trans s4) (ra.same (Nw.base s03))
theorem ok_rcext {fI fK fM : Addr} {fdI fdK fdM : FuncData} (F : Fun K "extended" "Records.extended" (sRc 13) f fd) (c : RcC K C) (R : MkR P w K mg base C fI fdI)
    (GK : FnOk P w K mg base CX0 5 fK fdK ["pairs", "taken"] (spChk K)) (gK : mg "checked_pairs" = some (.ref fK)) (kK : PySem.W.keepIn K (.ref fK) = true) (bK : Binds K fdK ["pairs", "taken"] [])
    (gM : mg "need_room" = some (.ref fM)) (kM : PySem.W.keepIn K (.ref fM) = true) (bM : Binds K fdM ["count"] []) (GM : FnOk P w K mg base CX0 1 fM fdM ["count"] spRoom) (ml : mg "len" = none) :
    FnOk P w K mg base CX0 8 f fd ["self", "pairs"] (spRcX K C) := by
  refine F.ok scRcX (fun vs H Q E h => ?_) (fun cdv A outer s H vs Q E hr h => ?_)
  · obtain ⟨a, l, ps, qs, ts, rfl, _⟩ := h
    rfl
  · obtain ⟨a, l0, ps, qs, us, rfl, hR, ok, hus, alq, okj, q⟩ := h
    have hr1 := hr.mono (show 1 ≤ 7 by decide)
    have hr5 := hr.mono (show 5 ≤ 7 by decide)
    obtain ⟨dx, l, n, ts, ha, hl, al, hn⟩ := id hR
    have len : (ts.map V.ref).length = ps.length := by rw [List.length_map, al.len]
    have l40 := ok.few
    have j40 := okj.few
    rw [List.length_append] at j40
    have okq : PsOk qs := okj.sub (List.sublist_append_right _ _)
    refine ⟨_, pss_cons (ps_set (i := 2) scRcX.nd rfl (.inl rfl) (pe_op op_cat (pe_fld (pv 0) rfl) (pe_call GK hr5 rfl gK kK bK .nil pass0 (pa_cons (pv 1) (pa_cons (pe_fld (pv 0) rfl) pa_nil)))))
      (pss_cons (ps_expr (pe_call GM hr1 rfl gM kM bM .nil pass0 (pa_cons (pe_callB call_len_seq (by rfl) ml PySem.boot_len (pa_cons (pv 2) pa_nil)) pa_nil)))
      (pss_one (ps_ret (pe_make R.M R.G hr rfl R.g R.b .nil pass0 (pa_cons (pv 2) pa_nil))))), ?_⟩
    refine ⟨_, rfl, a, C, dx, _, _, rfl, ha, c.cl, c.n1, rfl, _, rfl, _, rfl, a, C, dx, _, _, rfl, ha, c.cl, c.n2, rfl, ?_⟩
    refine ⟨l0, n, us, qs, nmsOf ps, rfl, hus, alq, okq, hn, by rw [List.length_map]; omega, fun r hr' hm => ?_, fun cl vs1 H1 ncl s1 ecl alc => ?_⟩
    · have nd := okj.nd
      rw [List.map_append, List.nodup_append] at nd
      exact nd.2.2 _ hm _ (List.mem_map.mpr ⟨r, hr', rfl⟩) rfl
    have alc1 := alc.sf (.of_same Nw.sub)
    have lc := alc.len
    refine ⟨l, cl, _, _, rfl, rfl, s1 _ _ hl, ecl, ?_, fun m hm => ?_⟩
    · rw [len, List.length_map, lc]
      exact Nat.le_of_lt (small1000 (by omega))
    have tm := Same.new (o := .lst (ts.map V.ref ++ vs1.map V.ref)) hm
    have s2 := s1.trans tm
    refine ⟨_, rfl, m, _, rfl, .inl (.of upd_same), _, rfl, ?_, ?_⟩
    · rw [List.length_append, len, List.length_map, lc]
      omega
    have em : (upd H1 m (.lst (ts.map V.ref ++ vs1.map V.ref))) m = some (.lst ((ts ++ vs1).map V.ref)) := by
      rw [upd_same, List.map_append]
    refine ⟨_, rfl, rc_made2 (R := fun x H' => _) (.inl (.of em)) ((al.sf (.of_same s2)).app (alc1.sf (.of_same tm))) okj fun a' H4 na ra s4 => ?_⟩
    exact q a' H4 (s2.free na) (s2.trans s4) (ra.same (Nw.base s2))
end
end G
set_option Elab.async false
set_option linter.all false
set_option maxRecDepth 100000
set_option maxHeartbeats 4000000
/-! LA1: drawn pairs; == with an empty list; how inserted is called. -/
namespace G
open PySem PySem.Spec PyProof.Rows L2 NdefX
section
variable {X : Cx}
def rEqNil (K : PySem.W.Frag) : R2 := fun x y H Q => ∃ a b xs, x = .ref a ∧ y = .ref b ∧ SqL K H a xs ∧ SqL K H b [] ∧ Q (.bl xs.isEmpty) H
theorem op_eqNil (hu : X.A.units < cLine) : OpR X (compareOp .Eq) (rEqNil X.K) := by
  intro pins s σ H x y v u Q I rx ry h
  obtain ⟨a, b, xs, rfl, rfl, ha, hb, q⟩ := h
  cases (show v = Value.ref a from rx)
  cases (show u = Value.ref b from ry)
  obtain ⟨us, r1, p1, _⟩ := I.list ha
  obtain ⟨ws, r2, p2, _⟩ := I.list hb
  cases r2
  cases xs with
  | nil =>
    cases r1
    refine SeqAt.RcAt.lists (e := fun _ => true) p1.isList p2.isList rfl hu (fun j h1 h2 => absurd h1 (Nat.not_lt_zero j)) X.prog X.w _ _ ?_
    exact ⟨.bl true, H, I, rfl, q⟩
  | cons x xs =>
    refine SeqAt.RcAt.lists_lengths p1.isList p2.isList ?_ hu X.prog X.w _ _ ?_
    · have := r1.length
      rw [List.length_cons] at this
      rw [List.size_toArray, List.size_toArray, ← this]
      rfl
    · exact ⟨.bl false, H, I, rfl, q⟩
end
abbrev sPairs : Stmt := topS 65
abbrev nPairs : List Str := ["_law_box_here", "_law_names_here", "_law_fields", "_law_name"]
theorem scPairs : FnScope nPairs ["_law_box_here", "_law_names_here", "_law_fields"] (defScope sPairs) := ⟨rfl, rfl, rfl, by decide +kernel, rfl, by decide +kernel, by decide +kernel⟩
/-- a value as it must be, of these fields -/
structure VOk (zs : List Str) (kvs : List (Key × V)) : Prop where
  ok : ValOk zs kvs
  nd : (kvs.map (·.1)).Nodup
theorem psok_of {fs : List Str} {ps : List Pr} (l : ps.length ≤ 40) (nd : (nmsOf ps).Nodup) (nm : ∀ z ∈ nmsOf ps, NameZ z) (v : ∀ q ∈ ps, VOk fs q.2) : PsOk ps :=
  ⟨l, nd, fun p hp => nm _ (List.mem_map.mpr ⟨p, hp, rfl⟩), fun p hp => ⟨fs, (v p hp).ok⟩, fun p hp => (v p hp).nd⟩
theorem pr_at_up {H : Hp} {D : Addr} {xs ys : List V} {ts : List Addr} {ps : List Pr} (e : H D = some (.lst xs)) (h : AllPr H ts ps) : AllPr (upd H D (.lst ys)) ts ps := h.sf (.put e)
theorem cutV_take (xs : List V) (k : Nat) : cutV xs none (some (k : Int)) = xs.take k := by
  unfold cutV
  rw [HT.sIx_none, HT.sIx_nat, List.drop_zero, Nat.sub_zero]
  by_cases h : k ≤ xs.length
  · rw [Nat.min_eq_left h]
  · rw [Nat.min_eq_right (by omega), List.take_length, List.take_of_length_le (by omega)]
theorem perm_map_inv {α β : Type} {f : α → β} : ∀ {xs zs : List β}, xs.Perm zs → ∀ as : List α, zs = as.map f → ∃ us : List α, xs = us.map f ∧ us.Perm as := by
  intro xs zs pm
  induction pm with
  | nil =>
    intro as e
    exact ⟨as, e, .refl _⟩
  | @cons x l1 l2 _ ih =>
    intro as e
    cases as with
    | nil => cases e
    | cons a as =>
      rw [List.map_cons] at e
      obtain ⟨us, e1, p1⟩ := ih as (List.cons.inj e).2
      exact ⟨a :: us, by rw [List.map_cons, (List.cons.inj e).1, e1], p1.cons a⟩
  | swap x y l =>
    intro as e
    cases as with
    | nil => cases e
    | cons a as =>
      rw [List.map_cons] at e
      obtain ⟨e1, e2⟩ := List.cons.inj e
      cases as with
      | nil => cases e2
      | cons a2 as =>
        rw [List.map_cons] at e2
        obtain ⟨e3, e4⟩ := List.cons.inj e2
        exact ⟨a2 :: a :: as, by rw [List.map_cons, List.map_cons, e1, e3, e4], List.Perm.swap _ _ _⟩
  | trans _ _ ih1 ih2 =>
    intro as e
    obtain ⟨us, e1, p1⟩ := ih2 as e
    obtain ⟨us2, e2, p2⟩ := ih1 us e1
    exact ⟨us2, e2, p2.trans p1⟩
def spPairs : Sp := fun vs H Q _ => ∃ (b nl fl : Addr) (n : Nat) (ys zs : List Str), vs = [.ref b, .ref nl, .ref fl] ∧ BoxAt H b n ∧ n + 300 * ys.length ≤ 70000 ∧ H nl = some (.lst (ys.map V.str)) ∧ ys.length ≤ 40 ∧ H fl = some (.lst (zs.map V.str)) ∧ (∀ z ∈ zs, NameZ z) ∧ 1 ≤ zs.length ∧ zs.length ≤ 100 ∧ nl ≠ b ∧ fl ≠ b ∧
  ∀ (p : Addr) (H' : Hp) (ts : List Addr) (ps : List Pr), H p = none → H' p = some (.lst (ts.map V.ref)) → AllPr H' ts ps → nmsOf ps = ys → (∀ q ∈ ps, VOk zs q.2) → BoxAt H' b (n + 300 * ys.length) → But b H H' → Q (.ref p) H'
section
variable {P : Program} {w : World} {K : PySem.W.Frag} {mg : Str → Option Value} {base : Heap} {f C : Addr} {fd : FuncData}
theorem ok_pairs {fV : Addr} {fdV : FuncData} (F : Fun K "_law_pairs" "_law_pairs" sPairs f fd) (GV : FnOk P w K mg base CX0 3 fV fdV ["_law_box_here", "_law_fields"] (spValue K)) (gV : mg "_law_value" = some (.ref fV)) (kV : PySem.W.keepIn K (.ref fV) = true) (bV : Binds K fdV ["_law_box_here", "_law_fields"] []) :
    FnOk P w K mg base CX0 4 f fd ["_law_box_here", "_law_names_here", "_law_fields"] spPairs := by
  refine F.ok scPairs (fun vs H Q E h => ?_) (fun cdv A outer s H vs Q E hr h => ?_)
  · obtain ⟨b, nl, fl, n, ys, zs, rfl, _⟩ := h
    rfl
  · obtain ⟨b, nl, fl, n, ys, zs, rfl, B, hn, en, l40, ef, hz, l1, l100, nnb, nfb, q⟩ := h
    refine ⟨_, pss_one (ps_ret (pe_lc (own := [("_law_name", 3)]) (g := gName 3) (tt := tYes) (by rfl) scPairs.nd (pi_list (pv 1))
        (blkOk_by (own := [("_law_name", 3)]) (N := nPairs) (sc := defScope sPairs) (by decide +kernel)) (fun _ _ _ _ _ => pg_name (i := 3) scPairs.nd rfl (.inl rfl)) (fun _ _ _ _ _ => pts_nil)
        (fun _ _ _ _ _ => pe_tup (pa_cons (pv 3) (pa_cons (pe_call GV hr rfl gV kV bV .nil pass0 (pa_cons (pv 0) (pa_cons (pv 2) pa_nil))) pa_nil))))), ?_⟩
    refine ⟨_, rfl, nl, rfl, ⟨_, .of en⟩, fun D hD => ?_⟩
    have nDb := box_ne B hD
    refine lc_list (xs := ys.map V.str) (fun i H3 => ∃ (us : List Addr) (ps : List Pr), H3 D = some (.lst (us.map V.ref)) ∧ AllPr H3 us ps ∧ nmsOf ps = ys.take i ∧ (∀ q ∈ ps, VOk zs q.2) ∧ BoxAt H3 b (n + 300 * i) ∧ But b H H3) ?_ ?_ ?_ ?_
    · exact ⟨[], [], upd_same, trivial, rfl, (fun _ h => nomatch h), box_new B hD, But.new hD⟩
    · rintro i H3 _ ⟨us, ps, _, _, _, _, _, k⟩
      exact .of (k _ _ nnb en)
    · rintro i x H3 hx ⟨us, ps, e3, al3, nm3, ok3, B3, k3⟩
      have hi : i < ys.length := by
        have := (List.getElem?_eq_some_iff.mp hx).1
        rwa [List.length_map] at this
      rw [List.getElem?_map] at hx
      obtain ⟨y, hy, rfl⟩ := Option.map_eq_some_iff.mp hx
      refine ⟨rfl, ?_⟩
      unfold tYes
      dsimp only
      rw [if_pos rfl]
      refine ⟨_, rfl, _, rfl, _, rfl, b, fl, _, zs, rfl, B3, by omega, k3 _ _ nfb ef, hz, l1, l100, nfb, fun d H4 kvs nd e4 ndk vn p1 p6 pz B4 k4 => ?_⟩
      refine ⟨(by show 2 ≤ sizeLine; decide), fun t ht => ?_⟩
      have ndb := box_ne B3 nd
      have e5 := Same.new (o := .tup [.str y, .ref d]) ht _ _ (k4 _ _ nDb e3)
      have k5 : But b H3 (upd H4 t (.tup [.str y, .ref d])) := k4.trans (But.new ht)
      have al5 := al3.sf (.of_but B3 k5)
      have one : AllPr (upd H4 t (.tup [.str y, .ref d])) [t] [(y, kvs)] := ⟨⟨d, upd_same, Same.new ht _ _ e4⟩, trivial⟩
      have B5 := (box_new (o := .tup [.str y, .ref d]) B4 ht)
      refine ⟨_, e5, ?_, us ++ [t], ps ++ [(y, kvs)], ?_, pr_at_up e5 (al5.app one), ?_, ?_, (box_upd B5 nDb).mono (by omega), but_upd (k3.trans k5) hD⟩
      · have := congrArg List.length nm3
        rw [List.length_map, List.length_take] at this
        rw [List.length_map, al3.len]
        exact small1000 (by omega)
      · rw [upd_same, List.map_append]
        rfl
      · rw [show nmsOf (ps ++ [(y, kvs)]) = nmsOf ps ++ [y] from List.map_append, nm3, List.take_add_one, hy]
        rfl
      · intro r hr'
        rcases List.mem_append.mp hr' with hr' | hr'
        · exact ok3 r hr'
        · rw [List.mem_singleton.mp hr']
          exact ⟨⟨hz, vn, p1, p6⟩, ndk⟩
    · rintro H3 ⟨us, ps, e3, al3, nm3, ok3, B3, k3⟩
      rw [List.length_map] at nm3 B3
      rw [List.take_length] at nm3
      exact q D H3 us ps hD e3 al3 nm3 ok3 B3 k3
/-- records.inserted(key, value) -/
theorem ins_binds (F : FunD K "inserted" "Records.inserted" (defArgs (sRc 9)) (defBody (sRc 9)) (defScope (sRc 9)) [] [("index", .non)] f fd) : ∃ ds, Vals [V.non] ds ∧ Binds K fd ["self", "key", "value", "index"] ds :=
  F.binds0 (ps := ["self", "key", "value", "index"]) 3 (fun z => nomatch z) rfl (fun D doc pm an cdv ct us ks l1 l2 => match us, ks, l1, l2 with
    | [_, _, _], [_], _, _ => ⟨_, _, _, _, _, _, rfl, rfl, rfl⟩)
/-- records.inserted(key, value, index=at) -/
theorem ins_kbinds (F : FunD K "inserted" "Records.inserted" (defArgs (sRc 9)) (defBody (sRc 9)) (defScope (sRc 9)) [] [("index", .non)] f fd) : KBn K fd ["self", "key", "value", "index"] 3 ["index"] (fun us ws => us ++ ws) (fun vs zs => vs ++ zs) := by
  obtain ⟨mv, h⟩ := F.kbinds0 (ps := ["self", "key", "value", "index"]) 3 ["index"] [] (fun us _ ws => us ++ ws) (fun z => nomatch z) (fun _ h => nomatch h) (fun r1 _ r3 => r1.append r3)
    (fun D doc pm an cdv ct us mv ws l1 l2 l3 => match us, mv, ws, l1, l2, l3 with
      | [_, _, _], [], [_], _, _, _ => rfl)
  exact h
end
end G
set_option Elab.async false
set_option linter.all false
set_option maxRecDepth 100000
set_option maxHeartbeats 4000000
/-! ST1: a set's table of up to 512 places: whatever is put in is found again. -/
namespace SN
open PySem PySem.Spec PyProof.Rows L2
/-- the masks of tables for up to 306 things -/
def M4 (m : Nat) : Prop := m = 7 ∨ m = 31 ∨ m = 127 ∨ m = 511
def orb (m : Nat) : Nat → Nat → List Nat
  | 0, _ => []
  | n + 1, x => x :: orb m n ((x * 5 + 1) % (m + 1))
theorem orb_is (m : Nat) : ∀ (n b : Nat) (y : Nat), y ∈ orb m n (lcgN m b) → ∃ c, b ≤ c ∧ c < b + n ∧ lcgN m c = y
  | 0, _, _, h => by cases h
  | n + 1, b, y, h => by
    rcases List.mem_cons.mp h with e | h
    · exact ⟨b, Nat.le_refl _, by omega, e.symm⟩
    · obtain ⟨c, h1, h2, h3⟩ := orb_is m n (b + 1) y h
      exact ⟨c, by omega, by omega, h3⟩
def full (m : Nat) : Bool := (List.range (m + 1)).all fun y => (orb m (m + 1) 0).contains y
theorem full7 : full 7 = true := by decide +kernel
theorem full31 : full 31 = true := by decide +kernel
theorem full127 : full 127 = true := by decide +kernel
theorem full511 : full 511 = true := by decide +kernel
theorem M4.full {m : Nat} (h : M4 m) : full m = true := by
  rcases h with e | e | e | e
  · rw [e]; exact full7
  · rw [e]; exact full31
  · rw [e]; exact full127
  · rw [e]; exact full511
theorem M4.back {m : Nat} (h : M4 m) : lcgN m (m + 1) = 0 := by
  rcases h with e | e | e | e <;> subst e <;> decide +kernel
theorem M4.at {m : Nat} (h : M4 m) {y : Nat} (hy : y ≤ m) : ∃ c, c ≤ m ∧ lcgN m c = y := by
  have q := List.all_eq_true.mp h.full y (List.mem_range.mpr (by omega))
  obtain ⟨c, _, h2, h3⟩ := orb_is m (m + 1) 0 y (List.contains_iff_mem.mp q)
  exact ⟨c, by omega, h3⟩
theorem M4.again {m : Nat} (h : M4 m) : ∀ c, lcgN m (m + 1 + c) = lcgN m c
  | 0 => h.back
  | c + 1 => by
    show (lcgN m (m + 1 + c) * 5 + 1) % (m + 1) = _
    rw [h.again c]
    rfl
/-- from each place each other one is met -/
theorem M4.meet {m : Nat} (h : M4 m) {x y : Nat} (hx : x ≤ m) (hy : y ≤ m) : ∃ c, c ≤ m ∧ lcgI m x c = y := by
  obtain ⟨p, p1, p2⟩ := h.at hx
  obtain ⟨q, q1, q2⟩ := h.at hy
  rw [← p2]
  by_cases z : p ≤ q
  · refine ⟨q - p, by omega, ?_⟩
    rw [lcgN_add, Nat.add_sub_cancel' z]
    exact q2
  · refine ⟨m + 1 + q - p, by omega, ?_⟩
    rw [lcgN_add, Nat.add_sub_cancel' (by omega), h.again]
    exact q2
theorem M4.run {m : Nat} (hm : M4 m) (h : Int) {y : Nat} (hy : y ≤ m) : ∃ n, n ≤ m + 12 ∧ runI m (SetTable.bits h) n = y := by
  obtain ⟨c, c1, c2⟩ := hm.meet (runI_le m (SetTable.bits h) 12) hy
  refine ⟨12 + c, by omega, ?_⟩
  rw [runI_tail (bits_lt h)]
  exact c2
theorem M4.met {m : Nat} (hm : M4 m) (h : Int) {y : Nat} (hy : y ≤ m) : ∃ c, c < 10 * SetTable.turns m ∧ way m h c = y := by
  obtain ⟨n, n1, n2⟩ := hm.run h hy
  obtain ⟨c, c1, c2⟩ := run_nth m (SetTable.bits h) n
  refine ⟨c, ?_, (congrArg SetTable.Probe.j c2).trans n2⟩
  unfold SetTable.turns
  omega
theorem way_in (m : Nat) (h : Int) (c : Nat) : way m h c ≤ m := by
  have hi : SetTable.bits h % (m + 1) ≤ m := Nat.le_of_lt_succ (Nat.mod_lt (SetTable.bits h) (Nat.succ_pos m))
  obtain ⟨b1, b2, _⟩ := runEnd_bd hi
  have q := nth_in (m := m) c (runAt m (SetTable.bits h % (m + 1)) (SetTable.bits h)) (by
    show SetTable.bits h % (m + 1) + (SetTable.runEnd m (SetTable.bits h % (m + 1)) - SetTable.bits h % (m + 1)) ≤ m
    omega)
  exact Nat.le_trans (Nat.le_add_right _ _) q
theorem M4.odd {m : Nat} (h : M4 m) : m % 2 = 1 := by
  rcases h with e | e | e | e <;> subst e <;> rfl
/-- a table in which each of the hashes is met on its way -/
structure Tb (t : SetTable) (hs : List Int) : Prop where
  up : Ris t.place.toList
  noD : t.dummies = #[]
  len : t.place.size = hs.length
  m4 : M4 t.mask
  low : ∀ x ∈ t.place.toList, x ≤ t.mask
  on : ∀ (i : Nat) (h : Int) (j : Nat), hs[i]? = some h → t.place.toList[i]? = some j → ∃ c, way t.mask h c = j ∧ ∀ d, d < c → way t.mask h d ∈ t.place.toList
theorem Tb.free {t : SetTable} {hs : List Int} (T : Tb t hs) (hl : hs.length ≤ t.mask) (h : Int) : ∃ K, K < 10 * SetTable.turns t.mask ∧ way t.mask h K ∉ t.place.toList ∧ ∀ c, c < K → way t.mask h c ∈ t.place.toList := by
  have few : t.place.toList.length < t.mask + 1 := by
    have := T.len
    rw [Array.length_toList]
    omega
  obtain ⟨y, y1, y2⟩ := st_missing t.place.toList (t.mask + 1) few
  obtain ⟨c, c1, c2⟩ := T.m4.met h (Nat.le_of_lt_succ y1)
  obtain ⟨K, k1, k2, k3⟩ := st_least (p := fun c => way t.mask h c ∉ t.place.toList) c (by
    intro z
    rw [c2] at z
    exact y2 z)
  exact ⟨K, by omega, k2, fun d hd => Decidable.byContradiction (k3 d hd)⟩
theorem Tb.ahead {t : SetTable} {hs : List Int} (T : Tb t hs) {h : Int} {K i j : Nat} (hK : way t.mask h K ∉ t.place.toList) (hi : hs[i]? = some h) (hj : t.place.toList[i]? = some j) : ∃ c, c < K ∧ way t.mask h c = j := by
  obtain ⟨c, c1, c2⟩ := T.on i h j hi hj
  refine ⟨c, Nat.lt_of_not_le fun z => ?_, c1⟩
  rcases Nat.lt_or_eq_of_le z with z | z
  · exact hK (c2 K z)
  · rw [z, c1] at hK
    exact hK (List.mem_of_getElem? hj)
/-- one more is put in -/
theorem Tb.more {t : SetTable} {hs : List Int} (T : Tb t hs) {h : Int} {K : Nat} (hK : way t.mask h K ∉ t.place.toList) (hb : ∀ c, c < K → way t.mask h c ∈ t.place.toList) :
    ∃ (u : SetTable) (p : Nat), t.put (way t.mask h K) = (u, p) ∧ p ≤ hs.length ∧ Tb u (hs.take p ++ h :: hs.drop p) ∧ u.mask = t.mask ∧ u.led = t.led ∧ u.plain = t.plain ∧ u.fill = hs.length + 1 := by
  have jm : way t.mask h K ≤ t.mask := way_in _ _ _
  generalize hj : way t.mask h K = y at hK jm
  have cut := below_cut T.up y
  have pl : SetTable.below t.place y ≤ t.place.toList.length := by
    rw [Array.length_toList]
    exact cut.1
  have hl : t.place.toList.length = hs.length := by
    rw [Array.length_toList]
    exact T.len
  have ph : SetTable.below t.place y ≤ hs.length := by omega
  have npl : t.place[SetTable.below t.place y]? ≠ some y := fun e => hK (List.mem_of_getElem? ((Array.getElem?_toList).trans e))
  have pp := put_place t y
  have grow : ∀ x, x ∈ t.place.toList → x ∈ (t.put y).1.place.toList := fun x hx => by
    rw [pp]
    exact mem_ins.mpr (.inr hx)
  have sz : (t.put y).1.place.size = hs.length + 1 := by
    have e := congrArg List.length pp
    rw [Array.length_toList, len_ins _ pl, hl] at e
    exact e
  refine ⟨(t.put y).1, SetTable.below t.place y, rfl, ph, ⟨ris_insert T.up npl, put_dm T.noD y, ?_, T.m4, fun x hx => ?_, fun i g j e1 e2 => ?_⟩, rfl, rfl, rfl, ?_⟩
  · rw [len_ins _ ph]
    exact sz
  · rw [pp] at hx
    rcases mem_ins.mp hx with z | z
    · rw [z]
      exact jm
    · exact T.low x z
  · rw [tins_get hs ph] at e1
    rw [pp, tins_get _ pl] at e2
    show ∃ c, way t.mask g c = j ∧ ∀ d, d < c → way t.mask g d ∈ (t.put y).1.place.toList
    by_cases l1 : i < SetTable.below t.place y
    · rw [if_pos l1] at e1 e2
      obtain ⟨c, c1, c2⟩ := T.on i g j e1 e2
      exact ⟨c, c1, fun d hd => grow _ (c2 d hd)⟩
    · rw [if_neg l1] at e1 e2
      by_cases l2 : i = SetTable.below t.place y
      · rw [if_pos l2] at e1 e2
        cases e1
        cases e2
        exact ⟨K, hj, fun d hd => grow _ (hb d hd)⟩
      · rw [if_neg l2] at e1 e2
        obtain ⟨c, c1, c2⟩ := T.on (i - 1) g j e1 e2
        exact ⟨c, c1, fun d hd => grow _ (c2 d hd)⟩
  · show (t.put y).1.place.size + (t.put y).1.dummies.size = _
    rw [sz, put_dm T.noD y]
    rfl
/-! ### all laid anew -/
theorem M4.find {m : Nat} (hm : M4 m) (owner : Array (Option Nat)) (h : Int) {y : Nat} (hy : y ≤ m) (hf : oAt owner y = none) :
    ∃ K, SetTable.layClean.free m owner (SetTable.turns m) (SetTable.bits h % (m + 1)) (SetTable.bits h) = some (way m h K) ∧ oAt owner (way m h K) = none ∧ ∀ c, c < K → oAt owner (way m h c) ≠ none := by
  obtain ⟨n, n1, n2⟩ := hm.run h hy
  have there : way m h (off m (SetTable.bits h % (m + 1)) (SetTable.bits h) n) = y := by
    show SetTable.Probe.j (nth m (runAt m (SetTable.bits h % (m + 1)) (SetTable.bits h)) (off m (SetTable.bits h % (m + 1)) (SetTable.bits h) n)) = y
    rw [nth_off, itL_run]
    exact n2
  obtain ⟨K, k1, k2, k3⟩ := st_least (p := fun c => oAt owner (way m h c) = none) _ (there ▸ hf : oAt owner (way m h (off m (SetTable.bits h % (m + 1)) (SetTable.bits h) n)) = none)
  have some_of : ∀ c, c < K → (oAt owner (way m h c)).isNone = false := fun c hc => by
    have z := k3 c hc
    cases q : oAt owner (way m h c) with
    | none => exact absurd q z
    | some _ => rfl
  have lt : n < SetTable.turns m := by
    unfold SetTable.turns
    omega
  refine ⟨K, free_spec m owner (SetTable.turns m) n _ _ K lt k1 some_of ?_, k2, k3⟩
  show (oAt owner (way m h K)).isNone = true
  rw [show oAt owner (way m h K) = none from k2]
  rfl
theorem M4.sit {m : Nat} (hm : M4 m) {done : List Int} {owner : Array (Option Nat)} (W : Own m done owner) (hl : done.length ≤ m) (h : Int) :
    ∃ y, SetTable.layClean.free m owner (SetTable.turns m) (SetTable.bits h % (m + 1)) (SetTable.bits h) = some y ∧ Own m (done ++ [h]) (owner.setIfInBounds y (some done.length)) := by
  obtain ⟨ps, lps, hps⟩ := W.ps
  obtain ⟨z, z1, z2⟩ := st_missing ps (m + 1) (by omega)
  have fz : oAt owner z = none := Decidable.byContradiction fun q => z2 (hps z (by omega) q)
  obtain ⟨K, f1, f2, f3⟩ := hm.find owner h (Nat.le_of_lt_succ z1) fz
  have ym : way m h K ≤ m := way_in _ _ _
  refine ⟨way m h K, f1, ?_⟩
  generalize hy : way m h K = y at ym f2
  have self := oAt_set_self (owner := owner) (some done.length) (j := y) (by
    rw [W.sz]
    omega)
  have stays : ∀ x, oAt owner x ≠ none → oAt (owner.setIfInBounds y (some done.length)) x ≠ none := fun x hx => by
    by_cases e : x = y
    · rw [e, self]
      exact fun q => nomatch q
    · rw [oAt_set_ne _ e]
      exact hx
  refine ⟨(Array.size_setIfInBounds ..).trans W.sz, fun x k xm e => ?_, fun k hk => ?_, y :: ps, ?_, fun x xm e => ?_⟩
  · by_cases q : x = y
    · rw [q, self] at e
      cases e
      refine ⟨h, K, ?_, hy.trans q.symm, fun d hd => stays _ (f3 d hd)⟩
      rw [List.getElem?_append_right (Nat.le_refl _), Nat.sub_self]
      rfl
    · rw [oAt_set_ne _ q] at e
      obtain ⟨g, L, a1, a2, a3⟩ := W.at_ x k xm e
      refine ⟨g, L, ?_, a2, fun d hd => stays _ (a3 d hd)⟩
      rw [List.getElem?_append_left (List.getElem?_eq_some_iff.mp a1).1]
      exact a1
  · rw [List.length_append] at hk
    by_cases q : k < done.length
    · obtain ⟨x, xm, e⟩ := W.all k q
      refine ⟨x, xm, (oAt_set_ne _ fun w => ?_).trans e⟩
      rw [w, f2] at e
      cases e
    · have : k = done.length := by
        have : k < done.length + 1 := hk
        omega
      exact ⟨y, ym, this ▸ self⟩
  · rw [List.length_cons, List.length_append, lps]
    rfl
  · by_cases q : x = y
    · exact q ▸ List.mem_cons_self
    · rw [oAt_set_ne _ q] at e
      exact List.mem_cons_of_mem _ (hps x xm e)
theorem M4.fold {m : Nat} (hm : M4 m) : ∀ (rest done : List Int) (owner : Array (Option Nat)), Own m done owner → done.length + rest.length ≤ m →
    ∃ o2, rest.foldl (stepF m) (some (owner, done.length)) = some (o2, (done ++ rest).length) ∧ Own m (done ++ rest) o2
  | [], done, owner, W, _ => by
    rw [List.append_nil]
    exact ⟨owner, rfl, W⟩
  | h :: rest, done, owner, W, hl => by
    have hl2 : done.length + (rest.length + 1) ≤ m := hl
    obtain ⟨y, y1, W2⟩ := hm.sit W (by omega) h
    have l1 : (done ++ [h]).length = done.length + 1 := List.length_append
    obtain ⟨o2, f1, W3⟩ := hm.fold rest (done ++ [h]) _ W2 (by rw [l1]; omega)
    rw [List.append_assoc] at f1 W3
    rw [l1] at f1
    refine ⟨o2, ?_, W3⟩
    rw [List.foldl_cons, stepF_some y1]
    exact f1
/-- the table laid anew -/
theorem M4.laid {M : Nat} (hM : M4 M) (t : SetTable) {hs : Array Int} {wanted : Nat} (hw : SetTable.sizeAbove wanted - 1 = M) (hn : hs.size ≤ M) :
    ∃ u order, t.relaid hs wanted = some (u, order) ∧ order.toList.Perm (List.range hs.size) ∧ Tb u (order.toList.map fun i => hs.getD i 0) ∧ u.mask = M ∧ u.led = t.led ∧ u.plain = t.plain := by
  obtain ⟨owner, f, W⟩ := hM.fold hs.toList [] _ (Own.init M) (by
    show 0 + hs.size ≤ M
    omega)
  rw [List.nil_append] at f W
  have lc : SetTable.layClean M hs = some owner := by
    rw [layClean_eq]
    have f2 : hs.toList.foldl (stepF M) (some (Array.replicate (M + 1) none, 0)) = _ := f
    rw [f2]
    rfl
  have rel : t.relaid hs wanted = some (tabOf t M owner, ((liveOf M owner).map (·.2)).toArray) := by
    rw [relaid_eq, hw, lc]
    rfl
  have rises := ris_live (fun j => owner.getD j none) (List.range (M + 1)) (by
    unfold Ris
    first
    | exact List.pairwise_lt_range
    | exact List.pairwise_lt_range _)
  have r1 : Ris ((liveOf M owner).map (·.1)) := rises.1
  have r2 : ∀ x ∈ (liveOf M owner).map (·.1), x ∈ List.range (M + 1) := rises.2
  have hlen : (liveOf M owner).length = hs.size := by
    obtain ⟨ps, lps, hps⟩ := W.ps
    have lz : hs.toList.length = hs.size := Array.length_toList
    have diff : List.Nodup ((liveOf M owner).map (·.1)) := r1.imp fun q => Nat.ne_of_lt q
    have up := nat_nodup_len ((liveOf M owner).map (·.1)) ps diff fun x hx => by
      obtain ⟨⟨y, k⟩, hq, rfl⟩ := List.mem_map.mp hx
      obtain ⟨b1, b2⟩ := (mem_live W.sz).mp hq
      exact hps y b1 fun z => by
        rw [b2] at z
        cases z
    have down := nat_nodup_len (List.range hs.size) ((liveOf M owner).map (·.2)) List.nodup_range fun k hk => by
      obtain ⟨y, b1, b2⟩ := W.all k (List.mem_range.mp hk)
      exact List.mem_map.mpr ⟨(y, k), (mem_live W.sz).mpr ⟨b1, b2⟩, rfl⟩
    rw [List.length_map, lps] at up
    rw [List.length_map, List.length_range] at down
    omega
  refine ⟨_, _, rel, perm_range hs.size _ ((List.length_map ..).trans hlen) fun k hk => ?_, ⟨r1, rfl, ?_, hM, fun x hx => ?_, fun i h j h1 h2 => ?_⟩, rfl, rfl, rfl⟩
  · obtain ⟨y, b1, b2⟩ := W.all k hk
    exact List.mem_map.mpr ⟨(y, k), (mem_live W.sz).mpr ⟨b1, b2⟩, rfl⟩
  · show (((liveOf M owner).map (·.1)).toArray).size = (List.map (fun i => hs.getD i 0) ((liveOf M owner).map (·.2))).length
    rw [List.size_toArray, List.length_map, List.length_map, List.length_map]
  · exact Nat.le_of_lt_succ (List.mem_range.mp (r2 x hx))
  · have g1 : (((liveOf M owner).map (·.2)).map fun i => hs.getD i 0)[i]? = some h := h1
    have g2 : ((liveOf M owner).map (·.1))[i]? = some j := h2
    rw [List.getElem?_map] at g2
    obtain ⟨⟨y, k⟩, hq, rfl⟩ := Option.map_eq_some_iff.mp g2
    rw [List.getElem?_map, List.getElem?_map, hq] at g1
    have eh : hs.getD k 0 = h := Option.some.inj g1
    obtain ⟨b1, b2⟩ := (mem_live W.sz).mp (List.mem_of_getElem? hq)
    obtain ⟨g, K, a1, a2, a3⟩ := W.at_ y k b1 b2
    have e2 : g = h := by
      rw [← eh, Array.getD_eq_getD_getElem?, ← Array.getElem?_toList, a1]
      rfl
    subst e2
    refine ⟨K, a2, fun d hd => ?_⟩
    show way M g d ∈ (liveOf M owner).map (·.1)
    cases z : oAt owner (way M g d) with
    | none => exact absurd z (a3 d hd)
    | some k2 => exact List.mem_map.mpr ⟨(way M g d, k2), (mem_live W.sz).mpr ⟨way_in _ _ _, z⟩, rfl⟩
end SN
set_option Elab.async false
set_option linter.all false
set_option maxRecDepth 100000
set_option maxHeartbeats 4000000
/-! ST2: sets of texts and nested tuples: what is asked of one thing, the search, the scan. -/
namespace SN
open PySem PySem.Spec PyProof.Rows L2
section
variable {P : Program} {w : World}
/-- whether a thing's hash is by its value: one of two answers -/
def HbAt (P : Program) (w : World) (n : Nat) (s : Shared) (v : Value) : Prop := ∀ (A : Around) (E : Value → Shared → Prop) (Q : Bool → Shared → Prop), (∀ b, Q b s) → wpAny (model P w) A (hashByValue n v) Q E s
theorem HbAt.plain {n : Nat} {s : Shared} {v : Value} (h : v.scannable = true) : HbAt P w n s v := fun A E Q q => by
  rw [hashByValue_scannable n h]
  exact wpAny_pure (q _)
theorem HbAt.tuple {n : Nat} {s : Shared} {a : Addr} {o : Obj} {vs : Array Value} {m : Nat} (ho : s.heap.get? a = some o) (hc : o.cls = .type "tuple") (hd : o.data = .seq vs m) (hq : ∀ v ∈ vs.toList, HbAt P w n s v) : HbAt P w (n + 1) s (.ref a) := fun A E Q q => by
  unfold hashByValue
  refine wpAny_bind (wpAny_specialOf (name := "__hash__") ⟨o, ho, hc⟩ F.slot_tuple_hash.lookup ?_)
  show wpAny _ _ ((seqItems? (.ref a)) >>= _) Q E s
  refine wpAny_bind (wpAny_seqItems ho hd (wpAny_bind ?_))
  show wpAny _ _ (forIn vs _ _) _ E s
  rw [← Array.forIn_toList]
  refine wpAny_forIn_list _ (fun rest r s1 => s1 = s ∧ r.1 = none ∧ ∀ v ∈ rest, HbAt P w n s v) _ (fun v rest r s1 z => ?_) (fun r s1 z => ?_) _ _ ⟨rfl, rfl, hq⟩
  · obtain ⟨e1, e2, e3⟩ := z
    subst e1
    refine wpAny_bind (e3 v List.mem_cons_self _ _ _ fun b => ?_)
    cases b with
    | true =>
      simp only [Bool.not_true, Bool.false_eq_true, if_false]
      exact wpAny_pure ⟨rfl, rfl, fun u hu => e3 u (List.mem_cons_of_mem _ hu)⟩
    | false =>
      simp only [Bool.not_false, if_true]
      exact wpAny_pure (wpAny_pure (q _))
  · obtain ⟨r1, r2⟩ := r
    obtain ⟨e1, e2, _⟩ := z
    subst e1
    cases (show r1 = none from e2)
    exact wpAny_pure (q _)
mutual
theorem hb_key : ∀ (k : NestedKey) (v : Value) (n : Nat) (s : Shared), NestedIs s.heap k v → k.depth ≤ n → HbAt P w n s v
  | .none, _, n, s, .none, _ => .plain rfl
  | .num _, _, n, s, .bool _, _ => .plain rfl
  | .num _, _, n, s, .int _ _, _ => .plain rfl
  | .text _, _, n, s, .text _ _, _ => .plain rfl
  | .tup ks, _, n, s, .tup hg hc hd hk, hn => match n, hn with
    | n + 1, hn => .tuple hg hc hd (hb_keys ks _ n s hk (Nat.le_of_succ_le_succ (by unfold NestedKey.depth at hn; exact hn)))
theorem hb_keys : ∀ (ks : List NestedKey) (vs : List Value) (n : Nat) (s : Shared), NestedAll s.heap ks vs → NestedKey.depthAll ks ≤ n → ∀ v ∈ vs, HbAt P w n s v
  | [], _, n, s, .nil, _, v, hv => (nomatch hv)
  | k :: ks, _, n, s, .cons x1 x2, hn, v, hv => by
    unfold NestedKey.depthAll at hn
    rcases List.mem_cons.mp hv with e | hv
    · rw [e]
      exact hb_key k _ n s x1 (Nat.le_trans (Nat.le_max_left _ _) hn)
    · exact hb_keys ks _ n s x2 (Nat.le_trans (Nat.le_max_right _ _) hn) v hv
end
/-- a thing is of no class statement -/
def NcAt (P : Program) (w : World) (n : Nat) (s : Shared) (v : Value) : Prop := ∀ (A : Around) (E : Value → Shared → Prop) (Q : Bool → Shared → Prop), Q false s → wpAny (model P w) A (ofAClassStatement n v) Q E s
theorem NcAt.plain {n : Nat} {s : Shared} {v : Value} (h : v.scannable = true) : NcAt P w n s v := fun A E Q q => by
  have e : ofAClassStatement n v = pure false := by
    cases v <;> first | (cases n <;> rfl) | cases h
  rw [e]
  exact wpAny_pure q
theorem NcAt.tuple {n : Nat} {s : Shared} {a : Addr} {o : Obj} {vs : Array Value} {m : Nat} (ho : s.heap.get? a = some o) (hc : o.cls = .type "tuple") (hd : o.data = .seq vs m) (hq : ∀ v ∈ vs.toList, NcAt P w n s v) : NcAt P w (n + 1) s (.ref a) := fun A E Q q => by
  unfold ofAClassStatement
  refine wpAny_bind (wpAny_typeOf ⟨o, ho, hc⟩ ?_)
  dsimp only
  have e : (("tuple" : String) == "tuple") = true := by decide
  simp only [e, if_true, Bool.not_true, Bool.false_eq_true, if_false]
  try refine wpAny_bind (wpAny_pure ?_)
  try simp only [Bool.not_true, Bool.false_eq_true, if_false]
  show wpAny _ _ ((seqItems? (.ref a)) >>= _) Q E s
  refine wpAny_bind (wpAny_seqItems ho hd ?_)
  dsimp only
  refine wpAny_bind ?_
  show wpAny _ _ (forIn vs _ _) _ E s
  rw [← Array.forIn_toList]
  refine wpAny_forIn_list _ (fun rest r s1 => s1 = s ∧ r.1 = none ∧ ∀ v ∈ rest, NcAt P w n s v) _ (fun v rest r s1 z => ?_) (fun r s1 z => ?_) _ _ ⟨rfl, rfl, hq⟩
  · obtain ⟨e1, e2, e3⟩ := z
    subst e1
    refine wpAny_bind (e3 v List.mem_cons_self _ _ _ ?_)
    simp only [Bool.false_eq_true, if_false]
    exact wpAny_pure ⟨rfl, rfl, fun u hu => e3 u (List.mem_cons_of_mem _ hu)⟩
  · obtain ⟨r1, r2⟩ := r
    obtain ⟨e1, e2, _⟩ := z
    subst e1
    cases (show r1 = none from e2)
    exact wpAny_pure q
mutual
theorem nc_key : ∀ (k : NestedKey) (v : Value) (n : Nat) (s : Shared), NestedIs s.heap k v → k.depth ≤ n → NcAt P w n s v
  | .none, _, n, s, .none, _ => .plain rfl
  | .num _, _, n, s, .bool _, _ => .plain rfl
  | .num _, _, n, s, .int _ _, _ => .plain rfl
  | .text _, _, n, s, .text _ _, _ => .plain rfl
  | .tup ks, _, n, s, .tup hg hc hd hk, hn => match n, hn with
    | n + 1, hn => .tuple hg hc hd (nc_keys ks _ n s hk (Nat.le_of_succ_le_succ (by unfold NestedKey.depth at hn; exact hn)))
theorem nc_keys : ∀ (ks : List NestedKey) (vs : List Value) (n : Nat) (s : Shared), NestedAll s.heap ks vs → NestedKey.depthAll ks ≤ n → ∀ v ∈ vs, NcAt P w n s v
  | [], _, n, s, .nil, _, v, hv => (nomatch hv)
  | k :: ks, _, n, s, .cons x1 x2, hn, v, hv => by
    unfold NestedKey.depthAll at hn
    rcases List.mem_cons.mp hv with e | hv
    · rw [e]
      exact nc_key k _ n s x1 (Nat.le_trans (Nat.le_max_left _ _) hn)
    · exact nc_keys ks _ n s x2 (Nat.le_trans (Nat.le_max_right _ _) hn) v hv
end
def topK : NestedKey → Prop
  | .text _ => True
  | .tup _ => True
  | _ => False
/-- what stands in such a set -/
structure KeyV (h : Heap) (k : NestedKey) (v : Value) : Prop where
  is : NestedIs h k v
  low : k.depth ≤ 8
  top : topK k
theorem KeyV.text_or {h : Heap} {k : NestedKey} {v : Value} (x : KeyV h k v) : (∃ z t, k = .text z ∧ v = .str z t) ∨ (∃ ks a, k = .tup ks ∧ v = .ref a ∧ ∃ o, h.get? a = some o ∧ o.cls = .type "tuple") := by
  obtain ⟨i, _, tp⟩ := x
  cases i with
  | text z tk => exact .inl ⟨z, tk, rfl, rfl⟩
  | tup h1 h2 h3 h4 => exact .inr ⟨_, _, rfl, rfl, _, h1, h2⟩
  | _ => exact tp.elim
variable {A : Around} {E : Value → Shared → Prop} {s : Shared}
theorem seen_not {k : NestedKey} {x : Value} (hk : KeyV s.heap k x) {ys : List Value} (hy : ∀ y ∈ ys, ∃ j, KeyV s.heap j y) {Q : Bool → Shared → Prop} (h : Q false s) : wpAny (model P w) A (searchCouldBeSeen x ys) Q E s := by
  unfold searchCouldBeSeen
  refine wpAny_bind ?_
  refine wpAny_forIn_list _ (fun rest r s1 => s1 = s ∧ r.1 = none ∧ ∀ y ∈ rest, ∃ j, KeyV s.heap j y) _ (fun v rest r s1 z => ?_) (fun r s1 z => ?_) _ _ ⟨rfl, rfl, hy⟩
  · obtain ⟨e1, e2, e3⟩ := z
    subst e1
    obtain ⟨j, hj⟩ := e3 v List.mem_cons_self
    have more : ∀ u ∈ rest, ∃ j, KeyV s1.heap j u := fun u hu => e3 u (List.mem_cons_of_mem _ hu)
    rcases hk.text_or with ⟨z1, z2, rfl, rfl⟩ | ⟨z1, z2, rfl, rfl, _⟩ <;> rcases hj.text_or with ⟨z3, z4, rfl, rfl⟩ | ⟨z3, z4, rfl, rfl, _⟩
    all_goals dsimp only
    all_goals split
    all_goals first
      | exact wpAny_pure ⟨rfl, rfl, more⟩
      | (refine wpAny_bind (quiet_key _ _ 8 _ hk.is hk.low _ _ _ ?_); simp only [Bool.not_true, Bool.false_eq_true, if_false]; refine wpAny_bind (quiet_key _ _ 8 _ hj.is hj.low _ _ _ ?_); simp only [Bool.not_true, Bool.false_eq_true, if_false]
         refine wpAny_bind (nc_key _ _ 8 _ hk.is hk.low _ _ _ ?_); simp only [Bool.false_eq_true, if_false]; refine wpAny_bind (nc_key _ _ 8 _ hj.is hj.low _ _ _ ?_); simp only [Bool.false_eq_true, if_false]; exact wpAny_pure ⟨rfl, rfl, more⟩)
  · obtain ⟨r1, r2⟩ := r
    obtain ⟨e1, e2, _⟩ := z
    subst e1
    cases (show r1 = none from e2)
    exact wpAny_pure h
/-! ### the set -/
abbrev KL : Type := List (Value × NestedKey)
def rowsN (w : World) (L : KL) : List (Int × Value) := L.map fun p => (p.2.hash w, p.1)
structure SetN (w : World) (h : Heap) (a : Addr) (L : KL) (es : Array (Int × Value)) (ep : Nat) (t : SetTable) : Prop where
  ob : ∃ o, h.get? a = some o ∧ o.ExactSet ∧ o.data = .set es ep t
  rows : es.toList = rowsN w L
  tab : Tb t (L.map fun p => p.2.hash w)
  nd : (L.map (·.2)).Nodup
  ks : ∀ p ∈ L, KeyV h p.2 p.1
  room : L.length * 5 < t.mask * 3
  few : L.length ≤ 100
variable {a : Addr} {L : KL} {es : Array (Int × Value)} {ep : Nat} {t : SetTable}
theorem SetN.size (R : SetN w s.heap a L es ep t) : es.size = L.length := by
  rw [← Array.length_toList, R.rows]
  exact List.length_map ..
theorem fits_of {t : SetTable} {hs : List Int} {n : Nat} (T : Tb t hs) (hn : hs.length = n) (hl : n ≤ t.mask) : t.fits n = true := by
  unfold SetTable.fits SetTable.fill
  rw [T.noD, T.len, hn]
  simp [hl]
theorem SetN.fits (R : SetN w s.heap a L es ep t) : t.fits es.size = true := by
  have := R.room
  exact fits_of R.tab ((List.length_map ..).trans R.size.symm) (by rw [R.size]; omega)
theorem SetN.entry (R : SetN w s.heap a L es ep t) {i : Nat} {p : Value × NestedKey} (h : L[i]? = some p) : es[i]? = some (p.2.hash w, p.1) := by
  rw [← Array.getElem?_toList, R.rows]
  unfold rowsN
  rw [List.getElem?_map, h]
  rfl
theorem SetN.stays (R : SetN w s.heap a L es ep t) : ¬ t.gaveWay = true := by
  unfold SetTable.gaveWay
  rw [R.tab.m4.odd]
  decide
end
end SN
set_option Elab.async false
set_option linter.all false
set_option maxRecDepth 100000
set_option maxHeartbeats 4000000
/-! ST3: set(xs) of a list of different keys (ints, texts), however many; len of such a set. -/
namespace GS
open PySem PySem.Spec PyProof.Rows L2
/-- is this one of the keys -/
def inK (ks : List Key) (c : Key) : Bool := ks.any fun y => decide (y = c)
theorem inK_of {ks : List Key} {c : Key} (h : c ∈ ks) : inK ks c = true := List.any_eq_true.mpr ⟨c, h, decide_eq_true rfl⟩
theorem inK_no {ks : List Key} {c : Key} (h : c ∉ ks) : inK ks c = false := by
  cases e : inK ks c with
  | false => rfl
  | true =>
    obtain ⟨y, hy, ey⟩ := List.any_eq_true.mp e
    exact (h (of_decide_eq_true ey ▸ hy)).elim
theorem mem_next {ks : List Key} {i : Nat} {c : Key} (h : ks[i]? = some c) (j : Key) : (inK (ks.take i) j || decide (j = c)) = inK (ks.take (i + 1)) j := by
  rw [List.take_add_one, h]
  show _ = List.any (ks.take i ++ [c]) _
  rw [List.any_append]
  show _ = (inK (ks.take i) j || (decide (c = j) || false))
  rw [Bool.or_false, decide_eq_decide.mpr (eq_comm (a := j) (b := c))]
theorem new_here {ks : List Key} (nd : ks.Nodup) {i : Nat} {c : Key} (h : ks[i]? = some c) : c ∉ ks.take i := fun hm => by
  obtain ⟨j, hj⟩ := List.mem_iff_getElem?.mp hm
  rw [List.getElem?_take] at hj
  by_cases z : j < i
  · rw [if_pos z] at hj
    obtain ⟨lj, ej⟩ := List.getElem?_eq_some_iff.mp hj
    obtain ⟨li, ei⟩ := List.getElem?_eq_some_iff.mp h
    exact List.pairwise_iff_getElem.mp nd j i lj li z (ej.trans ei.symm)
  · rw [if_neg z] at hj
    cases hj
section
variable {prog : Program} {w : World} {A : Around} {Z : Result → Shared → Prop} {it D : Addr} {fp wr : List Addr} {G : Array GenState → Array GenState → Prop} {n : Nat} {P : Nat → Value → Prop} {St : Nat → Shared → Prop}
/-- the set at D while the keys are walked -/
abbrev Upto (prog : Program) (w : World) (h : Heap) (D : Addr) (ks : List Key) (i : Nat) : Prop := h.SetOf (mixKind prog w) D (inK (ks.take i)) i
theorem upto_keep {h h' : Heap} {ks : List Key} {i : Nat} (u : Upto prog w h D ks i) (k : ∀ o, h.get? D = some o → h'.get? D = some o) : Upto prog w h' D ks i := setOf_at u k
theorem keys_loop (W : WalksS prog w A.in1 it fp wr G n P St) (out : D ∉ fp) (ks : List Key) (ln : ks.length = n) (nd : ks.Nodup) (few : n ≤ 4000) (each : ∀ i v, P i v → ∃ c, ks[i]? = some c ∧ RelV (kV c) v) :
    ∀ (m i : Nat) (s : Shared), i + m = n → St i s → Upto prog w s.heap D ks i → (∀ s', Moved (D :: wr) G s s' → Upto prog w s'.heap D ks n → Z (.ok (.ret .none)) s') →
      codeAny (model prog w) A (.builtin "set.update.loop" ⟨[.ref D, .ref it], []⟩) Z s := by
  have outw : D ∉ wr := fun z => out (W.sub _ z)
  have more : ∀ b ∈ wr, b ∈ D :: wr := fun b z => List.mem_cons_of_mem _ z
  intro m
  induction m with
  | zero =>
    intro i s em st u fin
    have e : i = n := em
    subst e
    refine codeAny_builtin PyProof.Rows.F.entry_set_update_loop ?_
    rw [Around.under_plainId PyProof.Rows.F.plain_set_update_loop _]
    show wpAny _ A.in1 (pyNext (.ref it) >>= _) _ _ s
    refine wpAny_bind (W.done s _ _ st fun s' mv => ?_)
    show wpAny _ A.in1 (ret Value.none) _ _ s'
    exact wpAny_pure (fin s' (mv.mono more) (upto_keep u fun o e => mv.heap D o outw e))
  | succ m ih =>
    intro i s em st u fin
    have lt : i < n := by omega
    refine codeAny_builtin PyProof.Rows.F.entry_set_update_loop ?_
    rw [Around.under_plainId PyProof.Rows.F.plain_set_update_loop _]
    show wpAny _ A.in1 (pyNext (.ref it) >>= _) _ _ s
    refine wpAny_bind (W.item i s _ _ lt st fun v s' pv st' mv => ?_)
    obtain ⟨c, hc, rc⟩ := each i v pv
    have u' : Upto prog w s'.heap D ks i := upto_keep u fun o e => mv.heap D o outw e
    show wpAny _ A.in1 (holding [v] (setAdd D v) >>= _) _ _ s'
    refine wpAny_bind (wpAny_holding ?_)
    unfold setAdd
    refine wpAny_holding ?_
    refine wpAny_bind ((mixKind prog w).pyHash (k := c) (kV_is rc) ?_)
    refine wpAny_setAddHashed_of (knd := mixKind prog w) (s := { s' with toks := s'.toks + 1 }) (kV_is rc) (key_scan rc) u' (by unfold scanBound; omega) fun h' sb u2 => ?_
    have u3 : Upto prog w h' D ks (i + 1) := by
      have e1 : (fun j => inK (ks.take i) j || decide (j = c)) = inK (ks.take (i + 1)) := funext (mem_next hc)
      rw [e1, inK_no (new_here nd hc)] at u2
      exact u2
    refine wpAny_pure ⟨plainId_quiet PyProof.Rows.F.plain_set_update_loop _, ih (i + 1) _ (by omega) (W.frame _ s' _ _ st' (Nat.le_succ _) fun b hb o e => ?_) u3 fun s2 mv2 u4 => ?_⟩
    · exact (sb.2 b fun z => out (z ▸ hb)).trans e
    · refine fin s2 (Moved.trans W.gtrans ((mv.mono more).then_heap (Nat.le_succ _) fun b o hb e => ?_) mv2) u4
      exact (sb.2 b fun z => hb (by rw [z]; exact List.mem_cons_self)).trans e
end
section
variable {prog : Program} {w : World} {A : Around} {E : Value → Shared → Prop} {s : Shared}
theorem set_of_list {l : Addr} {items : Array Value} {ks : List Key} {Q : Value → Shared → Prop} (calm : A.handled = none) (hl : s.heap.IsList l items) (r : Vals (ks.map kV) items.toList) (nd : ks.Nodup) (few : ks.length ≤ 4000)
    (go : ∀ (h' : Heap) (tk : Nat), h'.SetOf (mixKind prog w) s.heap.objs.size (inK ks) ks.length → (∀ b o, b < s.heap.objs.size → s.heap.get? b = some o → h'.get? b = some o) → Q (.ref s.heap.objs.size) { s with heap := h', toks := tk }) :
    wpAny (model prog w) A (call (.type "set") [.ref l]) Q E s := by
  have size : ks.length = items.size := by
    have := r.length
    rw [List.length_map] at this
    rw [this, Array.length_toList]
  obtain ⟨f1, f2, f3⟩ := PySem.F.called_set.mro
  have f4 := PySem.F.called_set.made
  have f5 := PySem.F.called_set.sub
  refine wpAny_call (codeAny_of_tree ?_)
  show wpAny _ _ (callAny (.type "set") _) _ _ _
  refine wpAny_pure ⟨Code.quiet_builtin _ (by decide +kernel), codeAny_builtin PySem.F.entry_type_call ?_⟩
  rw [Around.under_plain (weight_type_call_type "set" [.ref l] []) rfl]
  have f6 := PySem.F.called_set.notType
  have f7 := PySem.F.called_set.canCreate
  have f8 := PySem.F.typeCall_set_1 (.ref l)
  repeat (any_goals (first | assumption | wp_step))
  refine codeAny_mono (code_set_new_1 (.ref l) (E := E) (Q₁ := fun x s1 => ∃ fl : Bool, x = .ref s.heap.objs.size ∧ s1 = { s with heap := s.heap.push { cls := .type "set", dict := none, data := .set #[] 0 (.fresh 0 0 fl) } }) fun fl => ⟨fl, rfl, rfl⟩) fun rs s1 z => ?_
  rcases rs with e | (x | _ | _ | _) <;> first | exact z | exact z.elim | skip
  obtain ⟨fl, rfl, rfl⟩ := z
  have eS : (s.heap.push { cls := .type "set", dict := none, data := .set #[] 0 (.fresh 0 0 fl) }).get? s.heap.objs.size = some { cls := .type "set", dict := none, data := .set #[] 0 (.fresh 0 0 fl) } := Heap.get?_push_size _ rfl
  have tS : Shared.TypeIs { s with heap := s.heap.push { cls := .type "set", dict := none, data := .set #[] 0 (.fresh 0 0 fl) } } (.ref s.heap.objs.size) "set" := ⟨_, eS, rfl⟩
  have g1 := PySem.F.called_set.init.lookup
  have g2 := PySem.F.called_set.init.bind (.ref s.heap.objs.size)
  repeat (any_goals (first | assumption | wp_step))
  refine codeAny_mono (codeAny_call_builtin (R := wants (fun v s2 => v = .none ∧ ∃ h' tk, s2 = { s with heap := h', toks := tk } ∧ h'.SetOf (mixKind prog w) s.heap.objs.size (inK ks) ks.length ∧
      (∀ b o, b < s.heap.objs.size → s.heap.get? b = some o → h'.get? b = some o)) E) PySem.F.called_set.init.plain PySem.F.entry_set_init (check_set_init_1 tS ?_)) fun r2 s2 z => ?_
  · obtain ⟨ol, hol, hcl, nl, hdl⟩ := hl
    obtain ⟨c0, d0, dt0, sl0⟩ := ol
    simp only at hcl hdl
    subst hcl
    subst hdl
    have hol2 : (s.heap.push { cls := .type "set", dict := none, data := .set #[] 0 (.fresh 0 0 fl) }).get? l = some { cls := .type "list", dict := d0, data := .seq items nl, slots := sl0 } := Heap.get?_push_of_some _ hol
    have n1 := PySem.F.sub_list_set
    have n2 := PySem.F.sub_list_frozenset
    have n3 : (Value.type "list" == Value.type "dict") = false := by decide
    have old : (s.heap.push { cls := .type "set", dict := none, data := .set #[] 0 (.fresh 0 0 fl) }).IsList l items := ⟨_, hol2, rfl, nl, rfl⟩
    unfold Builtin.«set.__init__» noKeywords Builtin.Frozenset.updateFrom
    generalize hPI : pyIter = PI
    wp_walk
    subst hPI
    refine wpAny_pyIter_list old ?_
    refine wpAny_bind (wpAny_runValue ?_)
    have below : l < s.heap.objs.size := Heap.lt_size hol
    have calm3 : A.in1.in1.in1.handled = none := by simp [calm]
    have apart : l ≠ (s.heap.push { cls := .type "set", dict := none, data := .set #[] 0 (.fresh 0 0 fl) }).objs.size := by
      rw [Heap.size_push]
      exact Nat.ne_of_lt (Nat.lt_succ_of_lt below)
    have out : s.heap.objs.size ∉ [(s.heap.push { cls := .type "set", dict := none, data := .set #[] 0 (.fresh 0 0 fl) }).objs.size, l] := by
      rw [Heap.size_push]
      simp only [List.mem_cons, List.mem_singleton, List.not_mem_nil, or_false, not_or]
      exact ⟨Nat.ne_of_lt (Nat.lt_succ_self _), Nat.ne_of_gt below⟩
    refine keys_loop ((Walks.list calm3 _ l apart items).toS) out ks size nd (by rw [← size]; exact few) (fun i v hv => ?_) items.size 0 _ (Nat.zero_add _) ⟨⟨_, Heap.get?_push_size _ rfl, rfl, rfl⟩, ?old⟩ ?first ?last
    · rw [← Array.getElem?_toList] at hv
      obtain ⟨li, ei⟩ := List.getElem?_eq_some_iff.mp hv
      have lk : i < ks.length := by
        rw [Array.length_toList] at li
        omega
      obtain ⟨u, hu, ru⟩ := r.get (i := i) (x := kV ks[i]) (by rw [List.getElem?_map, List.getElem?_eq_getElem lk]; rfl)
      rw [hu] at hv
      cases hv
      exact ⟨_, List.getElem?_eq_getElem lk, ru⟩
    case old => exact old.push _
    case first =>
      have at0 : ((s.heap.push { cls := .type "set", dict := none, data := .set #[] 0 (.fresh 0 0 fl) }).push { cls := .type "list_iterator", data := .fields #[.ref l, .int 0 0] }).get? s.heap.objs.size = some { cls := .type "set", dict := none, data := .set #[] 0 (.fresh 0 0 fl) } := Heap.get?_push_of_some _ eS
      exact (show Heap.SetOf (mixKind prog w) _ s.heap.objs.size (fun _ => false) 0 from ⟨_, #[], 0, _, at0, ⟨rfl, rfl, rfl⟩, rfl, (fun e he => by simp at he), (fun k => by simp), (by decide), (by rfl), rfl⟩)
    case last =>
      intro s' mv u
      obtain ⟨h', g', d', tk', os'⟩ := s'
      have eg : g' = s.gens := mv.gens
      have ed : d' = s.drawn := mv.drawn
      have eo : os' = s.os := mv.os
      subst eg
      subst ed
      subst eo
      rw [← size] at u
      have u2 : h'.SetOf (mixKind prog w) s.heap.objs.size (inK (ks.take ks.length)) ks.length := u
      rw [List.take_length] at u2
      show wpAny _ _ _ _ _ _
      refine wpAny_pure ?_
      show wpAny _ _ (ret Value.none) _ _ _
      refine wpAny_pure ⟨rfl, h', tk', rfl, u2, fun b o hb e => ?_⟩
      refine mv.heap b o ?_ (Heap.get?_push_of_some _ (Heap.get?_push_of_some _ e))
      rw [Heap.size_push]
      simp only [List.mem_cons, List.mem_singleton, List.not_mem_nil, or_false, not_or]
      exact ⟨Nat.ne_of_lt hb, Nat.ne_of_lt (Nat.lt_succ_of_lt hb)⟩
  · rcases r2 with e | (x | _ | _ | _) <;> first | exact z | exact z.elim | skip
    obtain ⟨rfl, h', tk, rfl, hS, hk⟩ := z
    repeat (any_goals (first | assumption | wp_step))
    exact go _ _ hS hk
end
section
variable {prog : Program} {w : World} {A : Around} {E : Value → Shared → Prop} {s : Shared}
theorem set_of_tuple {l : Addr} {items : Array Value} {ks : List Key} {Q : Value → Shared → Prop} (calm : A.handled = none) (hl : s.heap.IsTuple l items) (r : Vals (ks.map kV) items.toList) (nd : ks.Nodup) (few : ks.length ≤ 4000)
    (go : ∀ (h' : Heap) (tk : Nat), h'.SetOf (mixKind prog w) s.heap.objs.size (inK ks) ks.length → (∀ b o, b < s.heap.objs.size → s.heap.get? b = some o → h'.get? b = some o) → Q (.ref s.heap.objs.size) { s with heap := h', toks := tk }) :
    wpAny (model prog w) A (call (.type "set") [.ref l]) Q E s := by
  have size : ks.length = items.size := by
    have := r.length
    rw [List.length_map] at this
    rw [this, Array.length_toList]
  obtain ⟨f1, f2, f3⟩ := PySem.F.called_set.mro
  have f4 := PySem.F.called_set.made
  have f5 := PySem.F.called_set.sub
  refine wpAny_call (codeAny_of_tree ?_)
  show wpAny _ _ (callAny (.type "set") _) _ _ _
  refine wpAny_pure ⟨Code.quiet_builtin _ (by decide +kernel), codeAny_builtin PySem.F.entry_type_call ?_⟩
  rw [Around.under_plain (weight_type_call_type "set" [.ref l] []) rfl]
  have f6 := PySem.F.called_set.notType
  have f7 := PySem.F.called_set.canCreate
  have f8 := PySem.F.typeCall_set_1 (.ref l)
  repeat (any_goals (first | assumption | wp_step))
  refine codeAny_mono (code_set_new_1 (.ref l) (E := E) (Q₁ := fun x s1 => ∃ fl : Bool, x = .ref s.heap.objs.size ∧ s1 = { s with heap := s.heap.push { cls := .type "set", dict := none, data := .set #[] 0 (.fresh 0 0 fl) } }) fun fl => ⟨fl, rfl, rfl⟩) fun rs s1 z => ?_
  rcases rs with e | (x | _ | _ | _) <;> first | exact z | exact z.elim | skip
  obtain ⟨fl, rfl, rfl⟩ := z
  have eS : (s.heap.push { cls := .type "set", dict := none, data := .set #[] 0 (.fresh 0 0 fl) }).get? s.heap.objs.size = some { cls := .type "set", dict := none, data := .set #[] 0 (.fresh 0 0 fl) } := Heap.get?_push_size _ rfl
  have tS : Shared.TypeIs { s with heap := s.heap.push { cls := .type "set", dict := none, data := .set #[] 0 (.fresh 0 0 fl) } } (.ref s.heap.objs.size) "set" := ⟨_, eS, rfl⟩
  have g1 := PySem.F.called_set.init.lookup
  have g2 := PySem.F.called_set.init.bind (.ref s.heap.objs.size)
  repeat (any_goals (first | assumption | wp_step))
  refine codeAny_mono (codeAny_call_builtin (R := wants (fun v s2 => v = .none ∧ ∃ h' tk, s2 = { s with heap := h', toks := tk } ∧ h'.SetOf (mixKind prog w) s.heap.objs.size (inK ks) ks.length ∧
      (∀ b o, b < s.heap.objs.size → s.heap.get? b = some o → h'.get? b = some o)) E) PySem.F.called_set.init.plain PySem.F.entry_set_init (check_set_init_1 tS ?_)) fun r2 s2 z => ?_
  · obtain ⟨ol, hol, hcl, nl, hdl⟩ := hl
    obtain ⟨c0, d0, dt0, sl0⟩ := ol
    simp only at hcl hdl
    subst hcl
    subst hdl
    have hol2 : (s.heap.push { cls := .type "set", dict := none, data := .set #[] 0 (.fresh 0 0 fl) }).get? l = some { cls := .type "tuple", dict := d0, data := .seq items nl, slots := sl0 } := Heap.get?_push_of_some _ hol
    have n1 := PySem.F.sub_tuple_set
    have n2 := PySem.F.sub_tuple_frozenset
    have n3 : (Value.type "tuple" == Value.type "dict") = false := by decide
    have old : (s.heap.push { cls := .type "set", dict := none, data := .set #[] 0 (.fresh 0 0 fl) }).IsTuple l items := ⟨_, hol2, rfl, nl, rfl⟩
    unfold Builtin.«set.__init__» noKeywords Builtin.Frozenset.updateFrom
    generalize hPI : pyIter = PI
    wp_walk
    subst hPI
    refine wpAny_pyIter_tuple old ?_
    refine wpAny_bind (wpAny_runValue ?_)
    have below : l < s.heap.objs.size := Heap.lt_size hol
    have calm3 : A.in1.in1.in1.handled = none := by simp [calm]
    have apart : l ≠ (s.heap.push { cls := .type "set", dict := none, data := .set #[] 0 (.fresh 0 0 fl) }).objs.size := by
      rw [Heap.size_push]
      exact Nat.ne_of_lt (Nat.lt_succ_of_lt below)
    have out : s.heap.objs.size ∉ [(s.heap.push { cls := .type "set", dict := none, data := .set #[] 0 (.fresh 0 0 fl) }).objs.size, l] := by
      rw [Heap.size_push]
      simp only [List.mem_cons, List.mem_singleton, List.not_mem_nil, or_false, not_or]
      exact ⟨Nat.ne_of_lt (Nat.lt_succ_self _), Nat.ne_of_gt below⟩
    refine keys_loop ((Walks.tuple calm3 _ l apart items).toS) out ks size nd (by rw [← size]; exact few) (fun i v hv => ?_) items.size 0 _ (Nat.zero_add _) ⟨⟨_, Heap.get?_push_size _ rfl, rfl, rfl⟩, ?old⟩ ?first ?last
    · rw [← Array.getElem?_toList] at hv
      obtain ⟨li, ei⟩ := List.getElem?_eq_some_iff.mp hv
      have lk : i < ks.length := by
        rw [Array.length_toList] at li
        omega
      obtain ⟨u, hu, ru⟩ := r.get (i := i) (x := kV ks[i]) (by rw [List.getElem?_map, List.getElem?_eq_getElem lk]; rfl)
      rw [hu] at hv
      cases hv
      exact ⟨_, List.getElem?_eq_getElem lk, ru⟩
    case old => exact old.push _
    case first =>
      have at0 : ((s.heap.push { cls := .type "set", dict := none, data := .set #[] 0 (.fresh 0 0 fl) }).push { cls := .type "tuple_iterator", data := .fields #[.ref l, .int 0 0] }).get? s.heap.objs.size = some { cls := .type "set", dict := none, data := .set #[] 0 (.fresh 0 0 fl) } := Heap.get?_push_of_some _ eS
      exact (show Heap.SetOf (mixKind prog w) _ s.heap.objs.size (fun _ => false) 0 from ⟨_, #[], 0, _, at0, ⟨rfl, rfl, rfl⟩, rfl, (fun e he => by simp at he), (fun k => by simp), (by decide), (by rfl), rfl⟩)
    case last =>
      intro s' mv u
      obtain ⟨h', g', d', tk', os'⟩ := s'
      have eg : g' = s.gens := mv.gens
      have ed : d' = s.drawn := mv.drawn
      have eo : os' = s.os := mv.os
      subst eg
      subst ed
      subst eo
      rw [← size] at u
      have u2 : h'.SetOf (mixKind prog w) s.heap.objs.size (inK (ks.take ks.length)) ks.length := u
      rw [List.take_length] at u2
      show wpAny _ _ _ _ _ _
      refine wpAny_pure ?_
      show wpAny _ _ (ret Value.none) _ _ _
      refine wpAny_pure ⟨rfl, h', tk', rfl, u2, fun b o hb e => ?_⟩
      refine mv.heap b o ?_ (Heap.get?_push_of_some _ (Heap.get?_push_of_some _ e))
      rw [Heap.size_push]
      simp only [List.mem_cons, List.mem_singleton, List.not_mem_nil, or_false, not_or]
      exact ⟨Nat.ne_of_lt hb, Nat.ne_of_lt (Nat.lt_succ_of_lt hb)⟩
  · rcases r2 with e | (x | _ | _ | _) <;> first | exact z | exact z.elim | skip
    obtain ⟨rfl, h', tk, rfl, hS, hk⟩ := z
    repeat (any_goals (first | assumption | wp_step))
    exact go _ _ hS hk
end
/-! ### the rules -/
section
variable {X : Cx}
/-- set(xs), xs a list or a tuple of different keys -/
def rSetKs (K : PySem.W.Frag) (P : Program) (w : World) : List V → Hp → VK → Prop := fun xs H Q => ∃ (l : Addr) (ks : List Key), xs = [.ref l] ∧ (SqL K H l (ks.map kV) ∨ SqT K H l (ks.map kV)) ∧ ks.Nodup ∧ ks.length ≤ 4000 ∧
  ∀ p, H p = none → Q (.ref p) (upd H p (SetK P w p (inK ks) ks.length))
theorem cr_setKs (calm : X.calm = true) : CallR X (.type "set") (rSetKs X.K X.prog X.w) := by
  intro pins s σ H xs us Q I r h
  obtain ⟨l, ks, rfl, hq, nd, few, q⟩ := h
  obtain ⟨u, rfl, ru⟩ := vals1 r
  cases (show u = Value.ref l from ru)
  have fin : ∀ (h' : Heap) (tk : Nat), h'.SetOf (mixKind X.prog X.w) s.heap.objs.size (inK ks) ks.length → (∀ b o, b < s.heap.objs.size → s.heap.get? b = some o → h'.get? b = some o) → EP X pins σ Q (.ref s.heap.objs.size) { s with heap := h', toks := tk } := fun h' tk hS k =>
    ⟨.ref _, upd H s.heap.objs.size (SetK X.prog X.w s.heap.objs.size (inK ks) ks.length), I.laid (t' := tk) (fun b o e => k b o (Heap.lt_size e) e) (Nat.le_refl _) (setK_new hS), rfl, q _ (I.hok.fresh (Nat.le_refl _))⟩
  rcases hq with hq | hq
  · obtain ⟨its, rv, p, _⟩ := I.list hq
    exact set_of_list (I.ok.hd calm) p.isList (by simpa using rv) nd few fin
  · obtain ⟨its, rv, p, _⟩ := I.tuple hq
    exact set_of_tuple (I.ok.hd calm) p (by simpa using rv) nd few fin
/-- len of a set of keys -/
def rLenK (P : Program) (w : World) : List V → Hp → VK → Prop := fun xs H Q => ∃ (a : Addr) (S : Key → Bool) (n : Nat), xs = [.ref a] ∧ H a = some (SetK P w a S n) ∧ n ≤ 4000 ∧ Q (.int (n : Nat)) H
theorem cr_lenKs : CallR X (.builtin "len") (rLenK X.prog X.w) := by
  intro pins s σ H xs us Q I r h
  obtain ⟨a, S, n, rfl, ha, few, q⟩ := h
  obtain ⟨u, rfl, ru⟩ := vals1 r
  cases (show u = Value.ref a from ru)
  obtain ⟨o, es, ep, t, ho, hex, hd, _, _, _, hf, hn⟩ := setK_get I ha
  exact call_len_set ho hex hd hf (by rw [hn]; omega) ⟨.int n, H, I.tok _, ⟨_, by rw [hn]⟩, q⟩
end
end GS
set_option Elab.async false
set_option linter.all false
set_option maxRecDepth 100000
set_option maxHeartbeats 2000000
/-! ZL: list(zip(a, b)) of two lists. -/
namespace ZlL
open PySem PySem.Spec PyProof.Rows L2 L2.DX
theorem zip_no_len : typeLookup (.type "zip") "__len__" = pure none := by rw [typeLookup_type, builtinLookup_eq_fast]; kernel_rfl
theorem zip_no_hint : typeLookup (.type "zip") "__length_hint__" = pure none := by rw [typeLookup_type, builtinLookup_eq_fast]; kernel_rfl
/-- pairs at ts, of xs and ys -/
def PairsUp (h : Heap) (xs ys : Array Value) (ts : List Addr) : Prop := ∀ (j : Nat) T, ts[j]? = some T → ∃ x y, xs[j]? = some x ∧ ys[j]? = some y ∧ IsPair h T x y
section
variable {prog : Program} {w : World} {A : Around} {R : Result → Shared → Prop} {z TI TO i1 i2 l1 l2 S : Addr} {xs ys : Array Value} {n : Nat} {h0 : Heap}
/-- where the loop stands behind i turns -/
structure At (h0 h : Heap) (z TI TO i1 i2 l1 l2 S : Addr) (xs ys : Array Value) (i : Nat) (ts : List Addr) (acc : Array Value) (c : Nat) : Prop where
  zip : (IsZip h z TI TO .none ∧ ∃ a b, IsPair h TO a b) ∨ ∃ T f oT, IsZipHeld h z TI TO T f ∧ h.get? T = some oT ∧ T ≠ z ∧ T ≠ i1 ∧ T ≠ i2 ∧ T ≠ S
  ti : IsPair h TI (.ref i1) (.ref i2)
  a1 : h.IsListIter i1 l1 i
  a2 : h.IsListIter i2 l2 i
  b1 : h.IsList l1 xs
  b2 : h.IsList l2 ys
  s : h.get? S = some { cls := .type "list", dict := none, data := .seq acc c, slots := #[] }
  acc : acc.toList = ts.map Value.ref
  len : ts.length = i
  up : ∀ T ∈ ts, h0.objs.size ≤ T ∧ T < h.objs.size ∧ T ≠ S ∧ T ≠ z ∧ T ≠ TO ∧ T ≠ i1 ∧ T ≠ i2
  rise : ts.Pairwise (· < ·)
  pr : PairsUp h xs ys ts
  keep : ∀ b o, b ≠ z → b ≠ TO → b ≠ i1 → b ≠ i2 → b ≠ S → h0.get? b = some o → h.get? b = some o
  big : h0.objs.size ≤ h.objs.size
/-- behind the loop -/
structure Done (h0 h : Heap) (z TO i1 i2 S : Addr) (xs ys : Array Value) (n : Nat) (ts : List Addr) (acc : Array Value) (c : Nat) : Prop where
  s : h.get? S = some { cls := .type "list", dict := none, data := .seq acc c, slots := #[] }
  acc : acc.toList = ts.map Value.ref
  len : ts.length = n
  up : ∀ T ∈ ts, h0.objs.size ≤ T ∧ T ≠ S
  rise : ts.Pairwise (· < ·)
  pr : PairsUp h xs ys ts
  keep : ∀ b o, b ≠ z → b ≠ TO → b ≠ i1 → b ≠ i2 → b ≠ S → h0.get? b = some o → h.get? b = some o
theorem At.done {h h' : Heap} {i : Nat} {ts : List Addr} {acc : Array Value} {c : Nat} (st : At h0 h z TI TO i1 i2 l1 l2 S xs ys i ts acc c) (zS : z ≠ S) (i1S : i1 ≠ S) (i2S : i2 ≠ S) (TOS : TO ≠ S)
    (k : ∀ b o, b ≠ z → b ≠ TO → b ≠ i1 → b ≠ i2 → h.get? b = some o → h'.get? b = some o) : Done h0 h' z TO i1 i2 S xs ys i ts acc c := by
  refine ⟨k _ _ zS.symm TOS.symm i1S.symm i2S.symm st.s, st.acc, st.len, fun T hT => ⟨(st.up T hT).1, (st.up T hT).2.2.1⟩, st.rise, fun j U hU => ?_, fun b o e1 e2 e3 e4 e5 e6 => k b o e1 e2 e3 e4 (st.keep b o e1 e2 e3 e4 e5 e6)⟩
  obtain ⟨x', y', q1, q2, q3⟩ := st.pr j U hU
  obtain ⟨_, _, r1, r2, r3, r4, r5⟩ := st.up U (List.mem_of_getElem? hU)
  exact ⟨x', y', q1, q2, k _ _ r2 r3 r4 r5 q3⟩
theorem At.wrote {h h' : Heap} {i : Nat} {ts : List Addr} {acc acc' : Array Value} {c c' : Nat} {T : Addr} {x y : Value} (D : ZipApart z TI TO i1 i2 l1 l2) (st : At h0 h z TI TO i1 i2 l1 l2 S xs ys i ts acc c) (l1S : l1 ≠ S) (l2S : l2 ≠ S) (zS : z ≠ S) (TIS : TI ≠ S) (i1S : i1 ≠ S) (i2S : i2 ≠ S) (TOS : TO ≠ S)
    (k : ∀ b o, b ≠ z → b ≠ TO → b ≠ i1 → b ≠ i2 → b ≠ S → h.get? b = some o → h'.get? b = some o) (hz : ∃ T f oT, IsZipHeld h' z TI TO T f ∧ h'.get? T = some oT ∧ T ≠ z ∧ T ≠ i1 ∧ T ≠ i2 ∧ T ≠ S) (a1 : h'.IsListIter i1 l1 (i + 1)) (a2 : h'.IsListIter i2 l2 (i + 1))
    (hs : h'.get? S = some { cls := .type "list", dict := none, data := .seq acc' c', slots := #[] }) (ha : acc' = acc.push (.ref T)) (hT : T = h.objs.size) (hp : IsPair h' T x y) (hx : xs[i]? = some x) (hy : ys[i]? = some y) (zl : h.get? z ≠ none) (TOl : ∃ o, h.get? TO = some o) (sz : h'.objs.size = h.objs.size + 1) :
    At h0 h' z TI TO i1 i2 l1 l2 S xs ys (i + 1) (ts ++ [T]) acc' c' := by
  have lt : ∀ {b o}, h.get? b = some o → T ≠ b := fun e => by
    rw [hT]
    exact Nat.ne_of_gt (Heap.lt_size e)
  obtain ⟨oz, ez⟩ := Option.ne_none_iff_exists'.mp zl
  obtain ⟨oTO, eTO⟩ := TOl
  have n1 : T ≠ i1 := let ⟨_, e, _⟩ := st.a1; lt e
  have n2 : T ≠ i2 := let ⟨_, e, _⟩ := st.a2; lt e
  refine ⟨.inr hz, k _ _ D.TIz D.TITO D.TIi1 D.TIi2 TIS st.ti, a1, a2, st.b1.at fun o e => k _ o D.l1z D.l1TO D.l1i1 D.l1i2 l1S e, st.b2.at fun o e => k _ o D.l2z D.l2TO D.l2i1 D.l2i2 l2S e, hs, ?_, ?_, fun U hU => ?_, ?_, fun j U hU => ?_, fun b o e1 e2 e3 e4 e5 e6 => k b o e1 e2 e3 e4 e5 (st.keep b o e1 e2 e3 e4 e5 e6), by rw [sz]; exact Nat.le_succ_of_le st.big⟩
  · rw [ha, Array.toList_push, st.acc, List.map_append]
    rfl
  · rw [List.length_append, st.len]
    rfl
  · rcases List.mem_append.mp hU with h | h
    · obtain ⟨q1, q2, q3⟩ := st.up U h
      exact ⟨q1, by rw [sz]; exact Nat.lt_succ_of_lt q2, q3⟩
    · rw [List.mem_singleton.mp h]
      exact ⟨by rw [hT]; exact st.big, by rw [sz, hT]; exact Nat.lt_succ_self _, lt st.s, lt ez, lt eTO, n1, n2⟩
  · refine List.pairwise_append.mpr ⟨st.rise, List.pairwise_singleton _ _, fun a ha' b hb => ?_⟩
    rw [List.mem_singleton.mp hb, hT]
    exact (st.up a ha').2.1
  · rcases Nat.lt_or_ge j ts.length with h | h
    · rw [List.getElem?_append_left h] at hU
      obtain ⟨x', y', q1, q2, q3⟩ := st.pr j U hU
      obtain ⟨_, _, r1, r2, r3, r4, r5⟩ := st.up U (List.mem_of_getElem? hU)
      exact ⟨x', y', q1, q2, k _ _ r2 r3 r4 r5 r1 q3⟩
    · rw [List.getElem?_append_right h] at hU
      have hj : j - ts.length = 0 := by
        have := (List.getElem?_eq_some_iff.mp hU).1
        rw [List.length_singleton] at this
        omega
      rw [hj] at hU
      have eU : T = U := Option.some.inj hU
      have ej : j = i := by rw [← st.len]; omega
      rw [← eU, ej]
      exact ⟨x, y, hx, hy, hp⟩
theorem loop (hh : A.handled = none) (D : ZipApart z TI TO i1 i2 l1 l2) (l1S : l1 ≠ S) (l2S : l2 ≠ S) (zS : z ≠ S) (TIS : TI ≠ S) (i1S : i1 ≠ S) (i2S : i2 ≠ S) (TOS : TO ≠ S) (hx : xs.size = n) (hy : ys.size = n) (hn : n ≤ 100000) (res : Value) :
    ∀ (k i : Nat) (s : Shared) (ts : List Addr) (acc : Array Value) (c : Nat), n - i = k → i ≤ n → (∃ o, s.heap.get? TO = some o) → At h0 s.heap z TI TO i1 i2 l1 l2 S xs ys i ts acc c →
    (∀ (h' : Heap) (ts' : List Addr) (acc' : Array Value) (c' : Nat), Done h0 h' z TO i1 i2 S xs ys n ts' acc' c' → R (.ok (.ret res)) { s with heap := h' }) →
    codeAny (model prog w) A (.builtin "list.extend.loop" ⟨[.ref S, .ref z, res], []⟩) R s := by
  intro k
  induction k with
  | zero =>
    intro i s ts acc c hk hi TOl st hR
    have hin : i = n := by omega
    subst hin
    refine codeAny_builtin PySem.F.entry_extend_loop ?_
    rw [Around.under_plainId PySem.F.plain_extend_loop _]
    show wpAny _ A.in1 (pyNext (.ref z) >>= _) _ _ s
    have hend : xs[i]? = none ∨ ys[i]? = none := .inl (Array.getElem?_eq_none (by omega))
    rcases st.zip with ⟨hz, a, b, hTO⟩ | ⟨T, f, oT, hz, hT, r1, r2, r3, r4⟩
    · refine wpAny_bind (wpAny_pyNext_zip_end hh D hz st.ti hTO st.a1 st.a2 st.b1 st.b2 hend fun h' hk => ?_)
      exact wpAny_pure (hR h' ts acc c (st.done zS i1S i2S TOS hk))
    · refine wpAny_bind (wpAny_pyNext_zip_end_held hh D hz hT st.ti st.a1 st.a2 st.b1 st.b2 hend fun h' hk => ?_)
      exact wpAny_pure (hR h' ts acc c (st.done zS i1S i2S TOS fun b o e1 _ e3 e4 e => hk b o e1 e3 e4 e))
  | succ k ih =>
    intro i s ts acc c hk hi TOl st hR
    have hlt : i < n := by omega
    refine codeAny_builtin PySem.F.entry_extend_loop ?_
    rw [Around.under_plainId PySem.F.plain_extend_loop _]
    show wpAny _ A.in1 (pyNext (.ref z) >>= _) _ _ s
    have ex : xs[i]? = some xs[i] := Array.getElem?_eq_getElem (by omega)
    have ey : ys[i]? = some ys[i] := Array.getElem?_eq_getElem (by omega)
    obtain ⟨oTO, eTO⟩ := TOl
    have lz : ∃ oz, s.heap.get? z = some oz := by
      rcases st.zip with ⟨hz, _⟩ | ⟨_, _, _, hz, _⟩
      · exact ⟨_, hz⟩
      · exact ⟨_, hz⟩
    obtain ⟨oz, ez⟩ := lz
    have lt : ∀ {b o}, s.heap.get? b = some o → s.heap.objs.size ≠ b := fun e => Nat.ne_of_gt (Heap.lt_size e)
    have m1 : s.heap.objs.size ≠ i1 := let ⟨_, e, _⟩ := st.a1; lt e
    have m2 : s.heap.objs.size ≠ i2 := let ⟨_, e, _⟩ := st.a2; lt e
    have la : acc.size = i := by rw [← Array.length_toList, st.acc, List.length_map, st.len]
    -- the list is written
    have go : ∀ (f : Bool) (U : Addr) (oU : Obj) (h' : Heap), IsZipHeld h' z TI TO U f → h'.get? U = some oU → U ≠ z → U ≠ i1 → U ≠ i2 → U ≠ S → h'.IsListIter i1 l1 (i + 1) → h'.IsListIter i2 l2 (i + 1) → IsPair h' s.heap.objs.size xs[i] ys[i] → h'.objs.size = s.heap.objs.size + 1 → (∃ o, h'.get? TO = some o) →
        (∀ b o, b ≠ z → b ≠ TO → b ≠ i1 → b ≠ i2 → s.heap.get? b = some o → h'.get? b = some o) →
        wpAny (model prog w) A.in1 (updateSeq S (·.push (.ref s.heap.objs.size)) >>= fun _ => again (.builtin "list.extend.loop" ⟨[.ref S, .ref z, res], []⟩))
          (fun fin s' => match fin with | .done f => R (.ok f) s' | .again c' => c'.quiet = true ∧ codeAny (model prog w) A c' R s') (fun e s' => R (.error e) s') { s with heap := h' } := by
      intro f U oU h' q1 q2 q3 q4 q5 qS q6 q7 q8 q9 qT q10
      have hS' := q10 _ _ zS.symm TOS.symm i1S.symm i2S.symm st.s
      refine wpAny_bind (wpAny_updateSeq hS' rfl (wpAny_pure ⟨plainId_quiet PySem.F.plain_extend_loop _, ?_⟩) (by rw [la]; rw [sizeLine_eq]; omega) (by show (acc.push _).size ≤ sizeLine + 1; rw [Array.size_push, la, sizeLine_eq]; omega))
      have oth : ∀ b o, b ≠ S → h'.get? b = some o → (h'.update S (Obj.mapSeq (·.push (.ref s.heap.objs.size)))).get? b = some o := fun b o hb e => (Heap.get?_update_other _ _ (Ne.symm hb)).trans e
      obtain ⟨oTO', eTO'⟩ := qT
      refine ih (i + 1) { s with heap := h'.update S (Obj.mapSeq (·.push (.ref s.heap.objs.size))) } (ts ++ [s.heap.objs.size]) (acc.push (.ref s.heap.objs.size)) _ (by omega) hlt ⟨oTO', oth _ _ TOS eTO'⟩ (st.wrote D l1S l2S zS TIS i1S i2S TOS (fun b o e1 e2 e3 e4 e5 e => oth b o e5 (q10 b o e1 e2 e3 e4 e)) ⟨U, f, oU, oth _ _ zS q1, oth _ _ qS q2, q3, q4, q5, qS⟩ (q6.at fun o e => oth _ o i1S e) (q7.at fun o e => oth _ o i2S e)
        (Heap.get?_update_self _ hS' rfl) rfl rfl (oth _ _ (lt st.s) q8) ex ey (by rw [ez]; exact fun z => nomatch z) ⟨_, eTO⟩ ?_) hR
      show (h'.update S _).objs.size = _
      rw [Heap.size_update]
      exact q9
    rcases st.zip with ⟨hz, a, b, hTO⟩ | ⟨T, f, oT, hz, hT, r1, r2, r3, r4⟩
    · refine wpAny_bind (wpAny_pyNext_zip_item D hz st.ti hTO st.a1 st.a2 st.b1 st.b2 ex ey fun h' a1 a2 a3 a4 a5 a6 hk => ?_)
      exact go false s.heap.objs.size _ h' a1 a5 (lt ez) m1 m2 (lt st.s) a3 a4 a5 a6 ⟨_, a2⟩ hk
    · refine wpAny_bind (wpAny_pyNext_zip_item_held D hz hT st.ti st.a1 st.a2 st.b1 st.b2 ex ey fun h' a1 a3 a4 a5 a6 hk => ?_)
      exact go true T oT h' a1 (hk _ _ r1 r2 r3 hT) r1 r2 r3 r4 a3 a4 a5 a6 ⟨_, hk _ _ D.TOz D.TOi1 D.TOi2 eTO⟩ fun b o e1 _ e3 e4 e => hk b o e1 e3 e4 e
end
section
variable {prog : Program} {w : World} {A : Around} {E : Value → Shared → Prop} {s : Shared} {z TI TO i1 i2 l1 l2 : Addr} {xs ys : Array Value} {n : Nat}
/-- list(z), z a zip of two lists of one length -/
theorem call_list_zip {a b : Value} {Q : Value → Shared → Prop} (hh : A.handled = none) (D : ZipApart z TI TO i1 i2 l1 l2) (hz : IsZip s.heap z TI TO .none) (hTI : IsPair s.heap TI (.ref i1) (.ref i2)) (hTO : IsPair s.heap TO a b) (h1 : s.heap.IsListIter i1 l1 0) (h2 : s.heap.IsListIter i2 l2 0) (hl1 : s.heap.IsList l1 xs) (hl2 : s.heap.IsList l2 ys)
    (hx : xs.size = n) (hy : ys.size = n) (hn : n ≤ 100000) (hQ : ∀ (h' : Heap) (ts : List Addr) (acc : Array Value) (c : Nat), Done (s.heap.push { cls := .type "list", data := .seq #[] }) h' z TO i1 i2 s.heap.objs.size xs ys n ts acc c → Q (.ref s.heap.objs.size) { s with heap := h' }) :
    wpAny (model prog w) A (call (.type "list") [.ref z]) Q E s := by
  have up : ∀ {b o}, s.heap.get? b = some o → (s.heap.push { cls := .type "list", data := .seq #[] }).get? b = some o := fun e => Heap.get?_push_of_some _ e
  have ne : ∀ {b o}, s.heap.get? b = some o → b ≠ s.heap.objs.size := fun e => Nat.ne_of_lt (Heap.lt_size e)
  have nz := ne hz
  have nTI := ne hTI
  have nTO := ne hTO
  have n1 : i1 ≠ s.heap.objs.size := let ⟨_, e, _⟩ := h1; ne e
  have n2 : i2 ≠ s.heap.objs.size := let ⟨_, e, _⟩ := h2; ne e
  have nl1 : l1 ≠ s.heap.objs.size := let ⟨_, e, _⟩ := hl1; ne e
  have nl2 : l2 ≠ s.heap.objs.size := let ⟨_, e, _⟩ := hl2; ne e
  refine callType_codes (Q₁ := fun obj s₁ => obj = .ref s.heap.objs.size ∧ s₁ = { s with heap := s.heap.push { cls := .type "list", data := .seq #[] } }) PySem.F.called_list (PySem.F.typeCall_list_1 _) PySem.F.entry_list_init
    (code_list_new _ ⟨rfl, rfl⟩) fun obj s₁ hobj => ?_
  obtain ⟨rfl, rfl⟩ := hobj
  have hS : (s.heap.push { cls := .type "list", data := .seq #[] }).get? s.heap.objs.size = some { cls := .type "list", data := .seq #[] } := Heap.get?_push_size _ rfl
  have hTy : ∀ {h' : Heap}, IsZip h' z TI TO .none → (({ s with heap := h' } : Shared)).TypeIs (.ref z) "zip" := fun e => ⟨_, e, rfl⟩
  refine ⟨⟨_, hS, rfl⟩, PySem.F.args_list_init_2 _ _, ?_⟩
  show wpAny _ A.in1.in1 (do let old ← Builtin.List.listItems (.ref s.heap.objs.size); Builtin.List.listUpdate (.ref s.heap.objs.size) (fun _ => #[]); letGo old.toList.reverse; Builtin.List.listExtendWith (.ref s.heap.objs.size) (.ref z) .none) _ _ _
  refine wpAny_bind ?_
  unfold Builtin.List.listItems
  refine wpAny_bind (wpAny_seqItems hS rfl (wpAny_pure ?_))
  show wpAny _ A.in1.in1 (updateSeq s.heap.objs.size (fun _ => #[]) >>= fun _ => letGo (#[] : Array Value).toList.reverse >>= fun _ => Builtin.List.listExtendWith (.ref s.heap.objs.size) (.ref z) .none) _ _ _
  refine wpAny_bind (wpAny_updateSeq hS rfl ?_)
  have hS₂ := Heap.get?_update_self (Obj.mapSeq (fun _ => (#[] : Array Value))) hS rfl
  have sz₂ : ((s.heap.push { cls := .type "list", data := .seq #[] }).update s.heap.objs.size (Obj.mapSeq (fun _ => (#[] : Array Value)))).objs.size = s.heap.objs.size + 1 := by
    rw [Heap.size_update, Heap.size_push]
  have oth₂ : ∀ b o, b ≠ s.heap.objs.size → (s.heap.push { cls := .type "list", data := .seq #[] }).get? b = some o → ((s.heap.push { cls := .type "list", data := .seq #[] }).update s.heap.objs.size (Obj.mapSeq (fun _ => (#[] : Array Value)))).get? b = some o := fun b o hb e => (Heap.get?_update_other _ _ (Ne.symm hb)).trans e
  generalize (s.heap.push { cls := .type "list", data := .seq #[] }).update s.heap.objs.size (Obj.mapSeq (fun _ => (#[] : Array Value))) = h₂ at hS₂ sz₂ oth₂ ⊢
  refine wpAny_bind (wpAny_letGo ?_)
  have hz₂ := oth₂ _ _ nz (up hz)
  unfold Builtin.List.listExtendWith
  refine wpAny_bind (wpAny_typeOf (T := "zip") (hTy hz₂) ?_)
  have c1 : Builtin.List.listSameRef (.ref s.heap.objs.size) (.ref z) = false := by simp [Builtin.List.listSameRef, Ne.symm nz]
  have c2 : (Value.type "zip" == Value.type "list") = false := by decide
  have c3 : (Value.type "zip" == Value.type "tuple") = false := by decide
  simp only [c1, c2, c3, Bool.or_false, Bool.false_eq_true, if_false]
  refine wpAny_bind (wpAny_pyIter_zip hz₂ (wpAny_bind (wpAny_holding ?_)))
  unfold Builtin.List.listLengthHint
  refine wpAny_bind (wpAny_specialOf (hTy hz₂) zip_no_len ?_)
  show wpAny _ A.in1.in1 (specialOf (Value.ref z) (Str.ofString "__length_hint__") >>= _) _ _ _
  refine wpAny_bind (wpAny_specialOf (hTy hz₂) zip_no_hint (wpAny_pure ?_))
  show wpAny _ A.in1.in1 (rule "list.extend.makes-room" >>= fun _ => Builtin.List.listTouch (.ref s.heap.objs.size) >>= fun _ => again (.builtin "list.extend.loop" ⟨[.ref s.heap.objs.size, .ref z, .none], []⟩)) _ _ _
  refine wpAny_bind (wpAny_rule (wpAny_bind ?_))
  show wpAny _ A.in1.in1 (updateSeq s.heap.objs.size (·.push .none) >>= fun _ => updateSeq s.heap.objs.size (·.pop)) _ _ _
  refine wpAny_bind (wpAny_updateSeq hS₂ rfl ?_)
  have hS₃ := Heap.get?_update_self (Obj.mapSeq (·.push Value.none)) hS₂ rfl
  refine wpAny_updateSeq (hz := by seq_fits) hS₃ rfl ?_
  have hS₄ := Heap.get?_update_self (Obj.mapSeq (·.pop)) hS₃ rfl
  obtain ⟨c4, hS₅⟩ : ∃ c4, ((h₂.update s.heap.objs.size (Obj.mapSeq (·.push Value.none))).update s.heap.objs.size (Obj.mapSeq (·.pop))).get? s.heap.objs.size = some { cls := .type "list", dict := none, data := .seq #[] c4, slots := #[] } := ⟨_, hS₄⟩
  have oth : ∀ b o, b ≠ s.heap.objs.size → (s.heap.push { cls := .type "list", data := .seq #[] }).get? b = some o → ((h₂.update s.heap.objs.size (Obj.mapSeq (·.push Value.none))).update s.heap.objs.size (Obj.mapSeq (·.pop))).get? b = some o :=
    fun b o hb e => (Heap.get?_update_other _ _ (Ne.symm hb)).trans ((Heap.get?_update_other _ _ (Ne.symm hb)).trans (oth₂ b o hb e))
  have sz₄ : ((h₂.update s.heap.objs.size (Obj.mapSeq (·.push Value.none))).update s.heap.objs.size (Obj.mapSeq (·.pop))).objs.size = s.heap.objs.size + 1 := by
    rw [Heap.size_update, Heap.size_update, sz₂]
  refine wpAny_pure ⟨plainId_quiet PySem.F.plain_extend_loop _, loop (A := A.in1) (n := n) (h0 := s.heap.push { cls := .type "list", data := .seq #[] }) hh D nl1 nl2 nz nTI n1 n2 nTO hx hy hn .none n 0 _ [] #[] c4 rfl (Nat.zero_le _) ⟨_, oth _ _ nTO (up hTO)⟩ ?_ fun h' ts acc c d => ⟨rfl, hQ h' ts acc c d⟩⟩
  refine ⟨.inl ⟨oth _ _ nz (up hz), a, b, oth _ _ nTO (up hTO)⟩, oth _ _ nTI (up hTI), h1.at fun o e => oth _ o n1 (up e), h2.at fun o e => oth _ o n2 (up e), hl1.at fun o e => oth _ o nl1 (up e), hl2.at fun o e => oth _ o nl2 (up e), hS₅, rfl, rfl, (fun T hT => nomatch hT), .nil, (fun j T hj => by simp at hj), fun b o _ _ _ _ e5 e6 => oth b o e5 e6, ?_⟩
  show _ ≤ ((h₂.update s.heap.objs.size (Obj.mapSeq (·.push Value.none))).update s.heap.objs.size (Obj.mapSeq (·.pop))).objs.size
  rw [sz₄, Heap.size_push]
  exact Nat.le_refl _
end
/-- list(zip(a, b)) -/
def tListZip (K : PySem.W.Frag) (ta : TA) : TE := fun σ H Q => ta σ H fun vs H1 => ∃ (a b : Addr) (xs ys : List V), vs = [.ref a, .ref b] ∧ SqL K H1 a xs ∧ SqL K H1 b ys ∧ xs.length = ys.length ∧ xs.length ≤ 100000 ∧
  ∀ (p : Addr) (ts : List Addr) (H' : Hp), H1 p = none → (∀ c o, H1 c = some o → H' c = some o) → H' p = some (.lst (ts.map V.ref)) → ts.length = xs.length → (∀ t ∈ ts, H1 t = none) → ts.Nodup → (∀ (j : Nat) T x y, ts[j]? = some T → xs[j]? = some x → ys[j]? = some y → H' T = some (.tup [x, y])) → Q (.ref p) H'
section
variable {X : Cx} {e e2 : Expr} {ta : TA} {p q pos pos2 : Pos}
theorem zip_laid {pins : List (Addr × Obj)} {σ : L2.St} {H : Hp} {s : Shared} {h' : Heap} {xs ys : List V} {us ws : List Value} {ts : List Addr} {acc : Array Value} {c S n : Nat} (I : Inv X pins σ H s) (hS : s.heap.objs.size ≤ S) (rx : Vals xs us) (ry : Vals ys ws) (lx : xs.length = n) (ly : ys.length = n) (hn : n ≤ 100000)
    (k : ∀ b o, s.heap.get? b = some o → h'.get? b = some o) (eS : h'.get? S = some { cls := .type "list", dict := none, data := .seq acc c, slots := #[] }) (ea : acc.toList = ts.map Value.ref) (lt : ts.length = n) (up : ∀ T ∈ ts, s.heap.objs.size ≤ T ∧ T ≠ S) (nd : ts.Nodup) (pr : PairsUp h' us.toArray ws.toArray ts) :
    ∃ H' : Hp, (∀ b o, H b = some o → H' b = some o) ∧ H S = none ∧ H' S = some (.lst (ts.map V.ref)) ∧ (∀ t ∈ ts, H t = none) ∧ (∀ (j : Nat) T x y, ts[j]? = some T → xs[j]? = some x → ys[j]? = some y → H' T = some (.tup [x, y])) ∧ Inv X pins σ H' { s with heap := h' } := by
  have nS : H S = none := I.hok.fresh hS
  have nT : ∀ t ∈ ts, H t = none := fun t ht => I.hok.fresh (up t ht).1
  have small : n ≤ sizeLine := by rw [sizeLine_eq]; omega
  have I1 : Inv X pins σ (upd H S (.lst (ts.map V.ref))) { s with heap := h' } := by
    refine I.laid (t' := s.toks) k hS ⟨by rw [List.length_map, lt]; exact small, acc.toList, c, ?_, by rw [Array.toArray_toList]; exact eS⟩
    rw [ea]
    exact L2.vals_refs ts
  obtain ⟨H', I2, kp, at_⟩ := takeT (h' := h') (tk := s.toks) (P := fun a vs => ∃ j x y, ts[j]? = some a ∧ xs[j]? = some x ∧ ys[j]? = some y ∧ vs = [x, y]) I ts _ I1 nd fun a ha => by
    refine ⟨(up a ha).1, (upd_ne (up a ha).2).trans (nT a ha), ?_⟩
    obtain ⟨j, hj⟩ := List.mem_iff_getElem?.mp ha
    have hjl := (List.getElem?_eq_some_iff.mp hj).1
    obtain ⟨u, v, hu, hv, hp⟩ := pr j a hj
    have ex : xs[j]? = some xs[j] := List.getElem?_eq_getElem (by omega)
    have ey : ys[j]? = some ys[j] := List.getElem?_eq_getElem (by omega)
    obtain ⟨u', eu, ru⟩ := rx.get ex
    obtain ⟨v', ev, rv⟩ := ry.get ey
    have hu' : us[j]? = some u := by simpa using hu
    have hv' : ws[j]? = some v := by simpa using hv
    rw [hu'] at eu
    rw [hv'] at ev
    cases eu
    cases ev
    exact ⟨[xs[j], ys[j]], ⟨j, _, _, hj, ex, ey, rfl⟩, fun H2 => ⟨by show 2 ≤ sizeLine; decide, [u, v], .cons ru (.cons rv .nil), ⟨_, hp, rfl, _, rfl⟩⟩⟩
  refine ⟨H', fun b o eb => kp b o ((upd_ne fun z => by rw [z, nS] at eb; cases eb).trans eb), nS, kp _ _ upd_same, nT, fun j T x y hj hx hy => ?_, I2⟩
  obtain ⟨vs, ⟨j', x', y', e1, e2, e3, rfl⟩, e4⟩ := at_ T (List.mem_of_getElem? hj)
  obtain ⟨l1, g1⟩ := List.getElem?_eq_some_iff.mp hj
  obtain ⟨l2, g2⟩ := List.getElem?_eq_some_iff.mp e1
  have ej : j = j' := (List.getElem_inj nd).mp (g1.trans g2.symm)
  rw [← ej, hx] at e2
  rw [← ej, hy] at e3
  rw [e4, Option.some.inj e2, Option.some.inj e3]
theorem pe_listZip (hc : X.calm = true) (ha : PA X [e, e2] ta) (hg : Gl X "list") (hm : X.mg "list" = none) (hg2 : Gl X "zip") (hm2 : X.mg "zip" = none)
    (hs : starEach [.Call (.Name "zip" q) [e, e2] [] pos2] X.env = (false, eval (.Call (.Name "zip" q) [e, e2] [] pos2) X.env) :: starEach [] X.env := by rfl)
    (hs2 : starEach [e, e2] X.env = (false, eval e X.env) :: starEach [e2] X.env := by rfl) (hpl : (backTo pos2 (starEach [e2] X.env)).any (·.1) = false := by rfl) :
    PE X (.Call (.Name "list" p) [.Call (.Name "zip" q) [e, e2] [] pos2] [] pos) (tListZip X.K ta) := by
  refine ⟨fun pins s σ H Q I h => ?_⟩
  refine wpAny_Call_Name_kw (ld_blt I hg hm boot_list (PyProof.Rows.callWith_type1 ?_ hs rfl))
  rw [hs]
  show wpAny _ _ (spliced ((false, eval (.Call (.Name "zip" q) [e, e2] [] pos2) X.env) :: backTo pos (starEach [] X.env))) _ _ s
  refine Calls.spliced_cons (Call_ (ld_blt I hg2 hm2 PyProof.Rows.boot_zip (PyProof.Rows.callWith_type1 (thn (ha.run pos2 pins s σ H _ I h) fun us s1 ⟨vs, H1, I1, r1, q1⟩ => ?_) hs2 hpl)))
  obtain ⟨a, b, xs, ys, ex, hqx, hqy, hlen, hn, q⟩ := q1
  subst ex
  cases r1 with
  | cons r rr =>
    cases rr with
    | cons r' rr =>
      cases rr
      cases r
      cases r'
      obtain ⟨its, rv, p1, _⟩ := I1.list hqx
      obtain ⟨its2, rv2, p2, _⟩ := I1.list hqy
      have la : a < s1.heap.objs.size := p1.lt
      have lb : b < s1.heap.objs.size := p2.lt
      refine call_zip_2 p1.isList p2.isList fun h' hz hTI hTO h1 h2 hsz hk => Calls.spliced_nil ?_
      have r1 := rv.length
      have r2 := rv2.length
      refine call_list_zip (s := { s1 with heap := h' }) (n := xs.length) (I1.ok.hd hc) (PySem.W.ktu_apart s1.heap.objs.size a b la lb) hz hTI hTO h1 h2 (p1.isList.at fun o e => hk _ o e) (p2.isList.at fun o e => hk _ o e) (by rw [List.size_toArray, r1]) (by rw [List.size_toArray, ← r2, hlen]) hn fun h2' ts acc c d => ?_
      have kk : ∀ b o, s1.heap.get? b = some o → h2'.get? b = some o := fun b o e => by
        have lt := Heap.lt_size e
        refine d.keep b o (Nat.ne_of_lt (Nat.lt_add_right 4 lt)) (Nat.ne_of_lt (Nat.lt_add_right 3 lt)) (Nat.ne_of_lt lt) (Nat.ne_of_lt (Nat.lt_add_right 1 lt)) (by show b ≠ h'.objs.size; rw [hsz]; exact Nat.ne_of_lt (Nat.lt_add_right 5 lt)) (Heap.get?_push_of_some _ (hk b o e))
      obtain ⟨H', k1, k2, k3, k4, k5, I2⟩ := zip_laid (n := xs.length) I1 (by show s1.heap.objs.size ≤ h'.objs.size; omega) rv rv2 rfl hlen.symm hn kk d.s d.acc d.len (fun T hT => by
        obtain ⟨u1, u2⟩ := d.up T hT
        rw [Heap.size_push] at u1
        have u3 : h'.objs.size + 1 ≤ T := u1
        exact ⟨by omega, u2⟩) (d.rise.imp fun h => Nat.ne_of_lt h) d.pr
      exact ⟨.ref _, H', I2, rfl, q _ ts H' k2 k1 k3 d.len k4 (d.rise.imp fun h => Nat.ne_of_lt h) k5⟩
end
end ZlL
set_option Elab.async false
set_option linter.all false
set_option maxRecDepth 100000
set_option maxHeartbeats 4000000
/-! CB: rows checked; items of a change checked. -/
namespace G
open PySem PySem.Spec PyProof.Rows L2 NdefX StX
abbrev sIsRow : Stmt := topS 26
abbrev sIsRows : Stmt := topS 27
abbrev sNeedRows : Stmt := topS 36
theorem scIsRow : FnScope ["value"] ["value"] (defScope sIsRow) := ⟨rfl, rfl, rfl, by decide +kernel, rfl, by decide +kernel, by decide +kernel⟩
theorem scIsRows : FnScope ["value", "row"] ["value"] (defScope sIsRows) := ⟨rfl, rfl, rfl, by decide +kernel, rfl, by decide +kernel, by decide +kernel⟩
theorem scNeedRows : FnScope ["value"] ["value"] (defScope sNeedRows) := ⟨rfl, rfl, rfl, by decide +kernel, rfl, by decide +kernel, by decide +kernel⟩
theorem ne_ifI {A B : Prop} {x y : V} (e : x = y) (h : B) : if (!decide (x = y)) = true then A else B := by
  rw [decide_eq_true e]
  exact iteF h
def txK (zs : List Str) : List Key := zs.map Sum.inr
theorem txK_V (zs : List Str) : (txK zs).map kV = zs.map V.str := by
  unfold txK
  rw [List.map_map]
  rfl
theorem txK_nd {zs : List Str} (h : zs.Nodup) : (txK zs).Nodup := by
  unfold txK List.Nodup
  exact List.pairwise_map.mpr (h.imp fun a e => a (Sum.inr.inj e))
/-- names that may be the rows of a change -/
structure NmOk (zs : List Str) : Prop where
  few : zs.length ≤ 80
  nd : zs.Nodup
  nm : ∀ z ∈ zs, NameZ z
def spIsIntS : Sp := fun vs H Q _ => ∃ (z : Str) (lo hi : V), vs = [.str z, lo, hi] ∧ Q (.bl false) H
def spIsRows (K : PySem.W.Frag) : Sp := fun vs H Q _ => ∃ (l : Addr) (zs : List Str), vs = [.ref l] ∧ SqL K H l (zs.map V.str) ∧ NmOk zs ∧ ∀ H', Same H H' → Q (.bl true) H'
def spNeedRows (K : PySem.W.Frag) : Sp := fun vs H Q _ => ∃ (l : Addr) (zs : List Str), vs = [.ref l] ∧ SqL K H l (zs.map V.str) ∧ NmOk zs ∧ ∀ H', Same H H' → Q .non H'
section
variable {P : Program} {w : World} {K : PySem.W.Frag} {mg : Str → Option Value} {base : Heap} {f : Addr} {fd : FuncData}
theorem ok_isintS (F : Fun K "is_integer" "is_integer" sIsInt f fd) (mi : mg "isinstance" = none) (mn : mg "int" = none) (mb : mg "bool" = none) : FnOk P w K mg base CX0 1 f fd ["value", "low", "high"] spIsIntS := by
  refine F.ok scIsInt (fun vs H Q E h => ?_) (fun cdv A outer s H vs Q E hr h => ?_)
  · obtain ⟨z, lo, hi, rfl, _⟩ := h
    rfl
  · obtain ⟨z, lo, hi, rfl, q⟩ := h
    refine ⟨_, pss_cons (ps_if (PW.pt (pw_or (pt_not (pt_val (pt_isi "int" (pv 0) (hm := mi) (mn := mn)))) (pw_or1 (pt_val (pt_isi "bool" (pv 0) (hm := mi) (mn := mb)))))) (pss_one (ps_ret pe_bl)) pss_nil)
      (pss_one (ps_ret (pe_chain op_le op_le (pv 1) (pv 0) (pv 2)))), ?_⟩
    have hR : Rp K H (.str z) (.str z) := .str z
    exact ⟨_, rfl, _, _, _, _, _, rfl, .ty _, rp_ty hR, kit_i (.str z), _, rfl, iteT q⟩
theorem ok_isrow {fN : Addr} {fdN : FuncData} (F : Fun K "is_row" "is_row" sIsRow f fd) (GN : FnOk P w K mg base CX0 1 fN fdN ["value"] spIsName) (gN : mg "is_name" = some (.ref fN)) (kN : PySem.W.keepIn K (.ref fN) = true) (bN : Binds K fdN ["value"] []) (mi : mg "isinstance" = none) (mt : mg "tuple" = none) :
    FnOk P w K mg base CX0 2 f fd ["value"] spIsName := by
  refine F.ok scIsRow (fun vs H Q E h => ?_) (fun cdv A outer s H vs Q E hr h => ?_)
  · obtain ⟨z, rfl, _⟩ := h
    rfl
  · obtain ⟨z, rfl, hz, q⟩ := h
    refine ⟨_, pss_cons (ps_if (pt_val (pt_isi "tuple" (pv 0) (hm := mi) (mn := mt))) (pss_one ps_never) pss_nil) (pss_one (ps_ret (pe_call GN hr rfl gN kN bN .nil pass0 (pa_cons (pv 0) pa_nil)))), ?_⟩
    exact ⟨_, rfl, _, _, _, _, _, rfl, .ty _, .base (.str z), kit_t (.str z), _, rfl, iteF ⟨_, rfl, z, rfl, hz, q⟩⟩
theorem ok_isrows {fL fR : Addr} {fdL fdR : FuncData} {t1 : Tok} (F : Fun K "is_rows" "is_rows" sIsRows f fd) (GL : FnOk P w K mg base CX0 1 fL fdL ["value", "most"] (spIsList K)) (gL : mg "is_list" = some (.ref fL)) (kL : PySem.W.keepIn K (.ref fL) = true) (bL : Binds K fdL ["value", "most"] [])
    (GR : FnOk P w K mg base CX0 2 fR fdR ["value"] spIsName) (gR : mg "is_row" = some (.ref fR)) (kR : PySem.W.keepIn K (.ref fR) = true) (bR : Binds K fdR ["value"] []) (gM : mg "MOST_ROWS" = some (.int 80 t1))
    (ml : mg "len" = none) (ma : mg "all" = none) (ms : mg "set" = none) : FnOk P w K mg base CX0 3 f fd ["value"] (spIsRows K) := by
  refine F.ok scIsRows (fun vs H Q E h => ?_) (fun cdv A outer s H vs Q E hr h => ?_)
  · obtain ⟨l, zs, rfl, _⟩ := h
    rfl
  · obtain ⟨l, zs, rfl, hl, ok, q⟩ := h
    have hr1 := hr.mono (show 1 ≤ 2 by decide)
    have few := ok.few
    refine ⟨_, pss_cons (ps_if (pt_not (pt_val (pe_call GL hr1 rfl gL kL bL .nil pass0 (pa_cons (pv 0) (pa_cons (pe_glob (v := .int 80) rfl gM ⟨_, rfl⟩) pa_nil))))) (pss_one ps_never) pss_nil)
      (pss_one (ps_ret (pe_and (pe_callB (cr_all rfl) (by rfl) ma (by decide +kernel) (pa_cons (pe_lc (own := [("row", 1)]) (g := gName 1) (tt := tYes) (by rfl) scIsRows.nd (pi_list (pv 0))
          (blkOk_by (own := [("row", 1)]) (N := ["value", "row"]) (sc := defScope sIsRows) (by decide +kernel)) (fun _ _ _ _ _ => pg_name (i := 1) scIsRows.nd rfl (.inl rfl)) (fun _ _ _ _ _ => pts_nil)
          (fun _ _ _ _ _ => pe_call GR hr rfl gR kR bR .nil pass0 (pa_cons (pv 1) pa_nil))) pa_nil))
        (pe_one (pe_cmpR op_eq (pe_callB GS.cr_lenKs (by rfl) ml PySem.boot_len (pa_cons (pe_callTy (GS.cr_setKs rfl) (by rfl) ms (by decide +kernel) (pa_cons (pv 0) pa_nil)) pa_nil)) (pe_callB call_len_seq (by rfl) ml PySem.boot_len (pa_cons (pv 0) pa_nil)) (nomark _)))))), ?_⟩
    refine ⟨_, rfl, l, 80, _, rfl, .inl hl, by rw [List.length_map]; exact few, fun H1 s1 => ⟨_, rfl, iteF ?_⟩⟩
    have hl1 := sqL_keep s1 hl
    have all1 : ∀ n, (List.replicate n true).all id = true := fun n => List.all_eq_true.mpr fun x hx => by
      rw [(List.mem_replicate.mp hx).2]
      rfl
    refine ⟨_, rfl, l, rfl, ⟨_, hl1⟩, fun D hD => ?_⟩
    refine lc_list (xs := zs.map V.str) (fun i H3 => Same H1 H3 ∧ H3 D = some (.lst ((List.replicate i true).map V.bl))) ?_ ?_ ?_ ?_
    · exact ⟨Same.new hD, upd_same⟩
    · exact fun _ _ _ z => sqL_keep z.1 hl1
    · rintro i x H3 hx ⟨s3, e3⟩
      rw [List.getElem?_map] at hx
      obtain ⟨z, hz, rfl⟩ := Option.map_eq_some_iff.mp hx
      have hi : i < zs.length := (List.getElem?_eq_some_iff.mp hz).1
      refine ⟨rfl, ?_⟩
      unfold tYes
      dsimp only
      rw [if_pos rfl]
      refine ⟨_, rfl, z, rfl, ok.nm z (List.mem_of_getElem? hz), fun H4 s4 => ⟨_, s4 _ _ e3, ?_, fun c o e => (upd_ne (ne_of_none e hD)).trans (s4 _ _ (s3 _ _ e)), ?_⟩⟩
      · rw [List.length_map, List.length_replicate]
        exact small1000 (by omega)
      · rw [upd_same, List.replicate_succ', List.map_append]
        rfl
    · rintro H3 ⟨s3, e3⟩
      refine ⟨D, _, rfl, .of e3, ?_⟩
      rw [all1]
      refine ⟨_, rfl, iteT ?_⟩
      have hl3 := sqL_keep s3 hl1
      have lk : (txK zs).length = zs.length := List.length_map ..
      refine ⟨_, rfl, l, txK zs, rfl, .inl (by rw [txK_V]; exact hl3), txK_nd ok.nd, by omega, fun p hp => ?_⟩
      have s4 := Same.new (o := SetK P w p (GS.inK (txK zs)) (txK zs).length) hp
      refine ⟨p, _, _, rfl, upd_same, by omega, _, rfl, l, _, rfl, .inl (sqL_keep s4 hl3), rfl, ?_⟩
      rw [show decide (V.int ((txK zs).length : Nat) = V.int ((zs.map V.str).length : Nat)) = true from decide_eq_true (by rw [List.length_map, lk])]
      exact q _ (s1.trans (s3.trans s4))
theorem ok_needrows {fR : Addr} {fdR : FuncData} (F : Fun K "need_rows" "need_rows" sNeedRows f fd) (GR : FnOk P w K mg base CX0 3 fR fdR ["value"] (spIsRows K)) (gR : mg "is_rows" = some (.ref fR)) (kR : PySem.W.keepIn K (.ref fR) = true) (bR : Binds K fdR ["value"] []) :
    FnOk P w K mg base CX0 4 f fd ["value"] (spNeedRows K) := by
  refine F.ok scNeedRows (fun vs H Q E h => ?_) (fun cdv A outer s H vs Q E hr h => ?_)
  · obtain ⟨l, zs, rfl, _⟩ := h
    rfl
  · obtain ⟨l, zs, rfl, hl, ok, q⟩ := h
    refine ⟨_, pss_one (ps_if (pt_not (pt_val (pe_call GR hr rfl gR kR bR .nil pass0 (pa_cons (pv 0) pa_nil)))) (pss_one ps_never) pss_nil), ?_⟩
    exact ⟨_, rfl, l, zs, rfl, hl, ok, fun H1 s1 => ⟨_, rfl, iteF (q H1 s1)⟩⟩
end
end G
set_option Elab.async false
set_option linter.all false
set_option maxRecDepth 100000
set_option maxHeartbeats 2000000
/-! LI: the longest ascent, found by ranks: the mathematics. -/
namespace Lis
/-- a number, its rank -/
abbrev NR := Int × Nat
def rankIn (least : List Int) (n : Int) : Nat := (least.filter fun m => decide (m < n)).length
/-- the ranks of what was met, the least number of each rank -/
structure St (P : List NR) (least : List Int) : Prop where
  asc : least.Pairwise (· < ·)
  is : ∀ k m, least[k]? = some m → (m, k) ∈ P ∧ ∀ m', (m', k) ∈ P → m ≤ m'
  lt : ∀ p ∈ P, p.2 < least.length
  up : P.Pairwise fun p q => p.1 < q.1 → p.2 < q.2
  dn : ∀ pre m k post, P = pre ++ (m, k + 1) :: post → ∃ m', (m', k) ∈ pre ∧ m' < m
theorem st_nil : St [] [] := ⟨.nil, (fun k m h => by simp at h), (fun p h => nomatch h), .nil, fun pre m k post h => by simp at h⟩
theorem filter_asc : ∀ {l : List Int} {n : Int}, l.Pairwise (· < ·) → ∃ r, r ≤ l.length ∧ (l.filter fun m => decide (m < n)).length = r ∧ (∀ k m, k < r → l[k]? = some m → m < n) ∧ ∀ k m, r ≤ k → l[k]? = some m → n ≤ m
  | [], n, _ => ⟨0, Nat.le_refl _, rfl, (fun k m h => absurd h (Nat.not_lt_zero _)), fun k m _ h => by simp at h⟩
  | a :: l, n, h => by
    rw [List.pairwise_cons] at h
    obtain ⟨h1, h2⟩ := h
    obtain ⟨r, r1, r2, r3, r4⟩ := filter_asc (n := n) h2
    by_cases c : a < n
    · refine ⟨r + 1, Nat.succ_le_succ r1, ?_, fun k m hk e => ?_, fun k m hk e => ?_⟩
      · rw [List.filter_cons_of_pos (by exact decide_eq_true c), List.length_cons, r2]
      · cases k with
        | zero => cases e; exact c
        | succ k => exact r3 k m (Nat.lt_of_succ_lt_succ hk) e
      · cases k with
        | zero => exact absurd hk (Nat.not_succ_le_zero _)
        | succ k => exact r4 k m (Nat.le_of_succ_le_succ hk) e
    · have none_ : ∀ m ∈ l, ¬ m < n := fun m hm z => by
        have := h1 m hm
        omega
      refine ⟨0, Nat.zero_le _, ?_, fun k m hk => absurd hk (Nat.not_lt_zero _), fun k m _ e => ?_⟩
      · rw [List.filter_cons_of_neg (by simpa using c), List.filter_eq_nil_iff.mpr fun m hm => by simpa using none_ m hm]
        rfl
      · cases k with
        | zero => cases e; omega
        | succ k =>
          have := none_ m (List.mem_of_getElem? e)
          omega
theorem mem_last {P : List NR} {p q : NR} (h : P.Pairwise fun p q => p.1 < q.1 → p.2 < q.2) (hp : p ∈ P) : P.Pairwise fun p q => p.1 < q.1 → p.2 < q.2 := h
/-- the state behind one number more -/
theorem st_step {P : List NR} {least : List Int} {n : Int} (h : St P least) (nw : ∀ p ∈ P, p.1 ≠ n) :
    St (P ++ [(n, rankIn least n)]) (least.take (rankIn least n) ++ n :: least.drop (rankIn least n + 1)) ∧ rankIn least n ≤ least.length := by
  obtain ⟨r, r1, r2, r3, r4⟩ := filter_asc (n := n) h.asc
  have er : rankIn least n = r := r2
  rw [er]
  have r4' : ∀ k m, r ≤ k → least[k]? = some m → n < m := fun k m hk e => by
    have h1 := r4 k m hk e
    have h2 := nw _ (h.is k m e).1
    dsimp only at h2
    omega
  have len' : (least.take r ++ n :: least.drop (r + 1)).length = max least.length (r + 1) := by
    rw [List.length_append, List.length_cons, List.length_take, List.length_drop]
    omega
  have at' : ∀ k m, (least.take r ++ n :: least.drop (r + 1))[k]? = some m → (k = r ∧ m = n) ∨ (k ≠ r ∧ least[k]? = some m) := fun k m e => by
    by_cases c : k < r
    · rw [List.getElem?_append_left (by rw [List.length_take]; omega), List.getElem?_take, if_pos c] at e
      exact .inr ⟨by omega, e⟩
    · rw [List.getElem?_append_right (by rw [List.length_take]; omega), List.length_take, Nat.min_eq_left r1] at e
      by_cases c2 : k = r
      · rw [c2, Nat.sub_self] at e
        cases e
        exact .inl ⟨c2, rfl⟩
      · obtain ⟨j, rfl⟩ : ∃ j, k = r + 1 + j := ⟨k - (r + 1), by omega⟩
        rw [show r + 1 + j - r = j + 1 by omega, List.getElem?_cons_succ, List.getElem?_drop] at e
        exact .inr ⟨c2, e⟩
  refine ⟨⟨?_, ?_, ?_, ?_, ?_⟩, r1⟩
  · rw [List.pairwise_iff_getElem]
    intro i j hi hj hij
    have ei := List.getElem?_eq_getElem hi
    have ej := List.getElem?_eq_getElem hj
    have asc := List.pairwise_iff_getElem.mp h.asc
    rcases at' i _ ei with ⟨a1, a2⟩ | ⟨a1, a2⟩ <;> rcases at' j _ ej with ⟨b1, b2⟩ | ⟨b1, b2⟩
    · omega
    · rw [a2]
      exact r4' j _ (by omega) b2
    · rw [b2]
      exact r3 i _ (by omega) a2
    · obtain ⟨u1, u2⟩ := List.getElem?_eq_some_iff.mp a2
      obtain ⟨v1, v2⟩ := List.getElem?_eq_some_iff.mp b2
      rw [← u2, ← v2]
      exact asc i j u1 v1 hij
  · intro k m e
    rcases at' k m e with ⟨a1, a2⟩ | ⟨a1, a2⟩
    · subst a1 a2
      refine ⟨List.mem_append_right _ List.mem_cons_self, fun m' hm' => ?_⟩
      rcases List.mem_append.mp hm' with hm' | hm'
      · have hk := h.lt _ hm'
        have e2 : least[k]? = some least[k] := List.getElem?_eq_getElem hk
        have h1 := (h.is k _ e2).2 m' hm'
        have h2 := r4' k _ (Nat.le_refl _) e2
        omega
      · have := List.mem_singleton.mp hm'
        injection this with e1 _
        rw [e1]
        exact Int.le_refl _
    · obtain ⟨g1, g2⟩ := h.is k m a2
      refine ⟨List.mem_append_left _ g1, fun m' hm' => ?_⟩
      rcases List.mem_append.mp hm' with hm' | hm'
      · exact g2 m' hm'
      · have := List.mem_singleton.mp hm'
        injection this with _ e2
        exact absurd e2 a1
  · intro p hp
    rw [len']
    rcases List.mem_append.mp hp with hp | hp
    · have := h.lt p hp
      omega
    · rw [List.mem_singleton.mp hp]
      show r < _
      omega
  · refine List.pairwise_append.mpr ⟨h.up, .cons (fun _ z => nomatch z) .nil, fun p hp q hq c => ?_⟩
    rw [List.mem_singleton.mp hq] at c ⊢
    show p.2 < r
    have hk := h.lt p hp
    have e2 : least[p.2]? = some least[p.2] := List.getElem?_eq_getElem hk
    have h1 := (h.is p.2 _ e2).2 p.1 hp
    by_cases z : p.2 < r
    · exact z
    · have h2 := r4' p.2 _ (by omega) e2
      have c' : p.1 < n := c
      omega
  · intro pre m k post e
    rcases List.eq_nil_or_concat post with z | ⟨post', y, z⟩
    · rw [z] at e
      have e' : P ++ [(n, r)] = pre ++ [(m, k + 1)] := e
      obtain ⟨e1, e2⟩ := List.append_inj' e' rfl
      injection e2 with e2 _
      injection e2 with e2 e3
      subst e1 e2
      have hk : k < least.length := by omega
      have e4 : least[k]? = some least[k] := List.getElem?_eq_getElem hk
      exact ⟨_, (h.is k _ e4).1, r3 k _ (by omega) e4⟩
    · rw [z, List.concat_eq_append, ← List.cons_append, ← List.append_assoc] at e
      obtain ⟨e1, _⟩ := List.append_inj' e rfl
      exact h.dn pre m k post' e1
/-! ### what is picked from behind -/
def pick : List NR → Int → List Int
  | [], _ => []
  | p :: t, w => if (p.2 : Int) = w then p.1 :: pick t (w - 1) else pick t w
theorem pick_neg : ∀ {t : List NR} {w : Int}, w < 0 → pick t w = []
  | [], _, _ => rfl
  | p :: t, w, h => by
    unfold pick
    rw [if_neg (by omega), pick_neg h]
structure Pk (P : List NR) (w : Nat) : Prop where
  len : (pick P.reverse (w : Int)).length = w + 1
  desc : (pick P.reverse (w : Int)).Pairwise (· > ·)
  hd : ∃ a t, pick P.reverse (w : Int) = a :: t ∧ ∀ m, (m, w) ∈ P → a ≤ m
theorem pick_ok : ∀ (P : List NR), (P.Pairwise fun p q => p.1 < q.1 → p.2 < q.2) → (∀ pre m k post, P = pre ++ (m, k + 1) :: post → ∃ m', (m', k) ∈ pre ∧ m' < m) → ∀ w : Nat, (∃ m, (m, w) ∈ P) → Pk P w := by
  have gen : ∀ (n : Nat) (P : List NR), P.length = n → (P.Pairwise fun p q => p.1 < q.1 → p.2 < q.2) → (∀ pre m k post, P = pre ++ (m, k + 1) :: post → ∃ m', (m', k) ∈ pre ∧ m' < m) → ∀ w : Nat, (∃ m, (m, w) ∈ P) → Pk P w := by
    intro n
    induction n with
    | zero =>
      intro P hl _ _ w ⟨m, hm⟩
      rw [List.length_eq_zero_iff.mp hl] at hm
      exact nomatch hm
    | succ n ih =>
      intro P hl up dn w ⟨m, hm⟩
      rcases List.eq_nil_or_concat P with z | ⟨P', p, z⟩
      · rw [z] at hl
        cases hl
      rw [List.concat_eq_append] at z
      subst z
      rw [List.length_append, List.length_singleton] at hl
      have up' := (List.pairwise_append.mp up).1
      have upx := (List.pairwise_append.mp up).2.2
      have dn' : ∀ pre m k post, P' = pre ++ (m, k + 1) :: post → ∃ m', (m', k) ∈ pre ∧ m' < m := fun pre m k post e => dn pre m k (post ++ [p]) (by rw [e, List.append_assoc]; rfl)
      have ih' := ih P' (by omega) up' dn'
      have erev : (P' ++ [p]).reverse = p :: P'.reverse := by rw [List.reverse_append]; rfl
      by_cases c : p.2 = w
      · have e1 : pick (P' ++ [p]).reverse (w : Int) = p.1 :: pick P'.reverse ((w : Int) - 1) := by
          rw [erev]
          show (if (p.2 : Int) = w then _ else _) = _
          rw [if_pos (by rw [c])]
        have hd : ∀ m, (m, w) ∈ P' ++ [p] → p.1 ≤ m := fun m hm => by
          rcases List.mem_append.mp hm with hm | hm
          · have := upx _ hm p List.mem_cons_self
            by_cases q : m < p.1
            · have := this q
              dsimp only at this
              omega
            · omega
          · have := List.mem_singleton.mp hm
            rw [← this]
            exact Int.le_refl _
        cases w with
        | zero =>
          have e2 : pick P'.reverse (((0 : Nat) : Int) - 1) = [] := pick_neg (by decide)
          rw [e2] at e1
          exact ⟨by rw [e1]; rfl, by rw [e1]; exact .cons (fun _ h => nomatch h) .nil, p.1, [], e1, hd⟩
        | succ w =>
          have e2 : ((w + 1 : Nat) : Int) - 1 = (w : Int) := by omega
          rw [e2] at e1
          obtain ⟨m', hm', lm⟩ := dn P' p.1 w [] (by rw [← c])
          obtain ⟨k1, k2, a, t, ea, ha⟩ := ih' w ⟨m', hm'⟩
          refine ⟨by rw [e1, List.length_cons, k1], ?_, p.1, _, e1, hd⟩
          rw [e1, List.pairwise_cons]
          refine ⟨fun b hb => ?_, k2⟩
          have h1 := ha m' hm'
          rw [ea] at hb k2
          rcases List.mem_cons.mp hb with rfl | hb
          · omega
          · have := (List.pairwise_cons.mp k2).1 b hb
            omega
      · have e1 : pick (P' ++ [p]).reverse (w : Int) = pick P'.reverse (w : Int) := by
          rw [erev]
          show (if (p.2 : Int) = w then _ else _) = _
          rw [if_neg (by omega)]
        have hm2 : (m, w) ∈ P' := by
          rcases List.mem_append.mp hm with hm | hm
          · exact hm
          · have := List.mem_singleton.mp hm
            exact absurd (by rw [← this]) c
        obtain ⟨k1, k2, a, t, ea, ha⟩ := ih' w ⟨m, hm2⟩
        refine ⟨by rw [e1]; exact k1, by rw [e1]; exact k2, a, t, e1.trans ea, fun m' hm' => ?_⟩
        rcases List.mem_append.mp hm' with hm' | hm'
        · exact ha m' hm'
        · have := List.mem_singleton.mp hm'
          exact absurd (by rw [← this]) c
  exact fun P => gen P.length P rfl
theorem pick_sub : ∀ (t : List NR) (w : Int), (pick t w).Sublist (t.map (·.1))
  | [], _ => .slnil
  | p :: t, w => by
    unfold pick
    split
    · exact .cons₂ _ (pick_sub t _)
    · exact .cons _ (pick_sub t _)
/-- the greatest rank, -1 of none -/
def topR (P : List NR) : Int := (P.map (·.2)).foldl (fun (a : Int) (r : Nat) => if (r : Int) > a then (r : Int) else a) (-1)
theorem top_fold : ∀ (l : List Nat) (a : Int), (∀ r ∈ l, (r : Int) ≤ l.foldl (fun (a : Int) (r : Nat) => if (r : Int) > a then (r : Int) else a) a) ∧ a ≤ l.foldl (fun (a : Int) (r : Nat) => if (r : Int) > a then (r : Int) else a) a ∧
    (l.foldl (fun (a : Int) (r : Nat) => if (r : Int) > a then (r : Int) else a) a = a ∨ ∃ r ∈ l, l.foldl (fun (a : Int) (r : Nat) => if (r : Int) > a then (r : Int) else a) a = (r : Int))
  | [], a => ⟨(fun _ h => nomatch h), Int.le_refl _, .inl rfl⟩
  | r :: l, a => by
    rw [List.foldl_cons]
    obtain ⟨h1, h2, h3⟩ := top_fold l (if (r : Int) > a then (r : Int) else a)
    refine ⟨fun s hs => ?_, ?_, ?_⟩
    · rcases List.mem_cons.mp hs with rfl | hs
      · refine Int.le_trans ?_ h2
        split <;> omega
      · exact h1 s hs
    · refine Int.le_trans ?_ h2
      split <;> omega
    · rcases h3 with h3 | ⟨s, hs, h3⟩
      · by_cases c : (r : Int) > a
        · rw [if_pos c] at h3 ⊢
          exact .inr ⟨r, List.mem_cons_self, h3⟩
        · rw [if_neg c] at h3 ⊢
          exact .inl h3
      · exact .inr ⟨s, List.mem_cons_of_mem _ hs, h3⟩
/-- the longest ascent of numbers with their ranks -/
def asc (P : List NR) : List Int := (pick P.reverse (topR P)).reverse
theorem nats_len : ∀ {l : List Nat} {w : Nat}, l.Pairwise (· < ·) → (∀ r ∈ l, r ≤ w) → l.length ≤ w + 1 := by
  have gen : ∀ (l : List Nat) (a w : Nat), l.Pairwise (· < ·) → (∀ r ∈ l, a ≤ r ∧ r ≤ w) → l.length ≤ w + 1 - a := by
    intro l
    induction l with
    | nil => exact fun _ _ _ _ => Nat.zero_le _
    | cons r l ih =>
      intro a w h hr
      rw [List.pairwise_cons] at h
      have h1 := hr r List.mem_cons_self
      have := ih (r + 1) w h.2 fun s hs => ⟨h.1 s hs, (hr s (List.mem_cons_of_mem _ hs)).2⟩
      rw [List.length_cons]
      omega
  intro l w h hr
  exact gen l 0 w h fun r hr' => ⟨Nat.zero_le _, hr r hr'⟩
structure Best (ns A : List Int) : Prop where
  sub : A.Sublist ns
  asc : A.Pairwise (· < ·)
  top : ∀ B : List Int, B.Sublist ns → B.Pairwise (· < ·) → B.length ≤ A.length
theorem sub_lift : ∀ {P : List NR} {B : List Int}, B.Sublist (P.map (·.1)) → ∃ Q : List NR, Q.Sublist P ∧ Q.map (·.1) = B
  | [], B, h => by
    cases h
    exact ⟨[], .slnil, rfl⟩
  | p :: P, B, h => by
    rw [List.map_cons] at h
    cases h with
    | cons _ h =>
      obtain ⟨Q, h1, h2⟩ := sub_lift h
      exact ⟨Q, .cons _ h1, h2⟩
    | cons_cons _ h =>
      obtain ⟨Q, h1, h2⟩ := sub_lift h
      exact ⟨p :: Q, .cons₂ _ h1, by rw [List.map_cons, h2]⟩
theorem asc_best {P : List NR} {least : List Int} (h : St P least) : Best (P.map (·.1)) (asc P) := by
  obtain ⟨t1, t2, t3⟩ := top_fold (P.map (·.2)) (-1)
  have bnd : ∀ p ∈ P, (p.2 : Int) ≤ topR P := fun p hp => t1 p.2 (List.mem_map_of_mem hp)
  have sub : (asc P).Sublist (P.map (·.1)) := by
    have := (pick_sub P.reverse (topR P)).reverse
    rw [List.map_reverse, List.reverse_reverse] at this
    exact this
  have cnt : ∀ B : List Int, B.Sublist (P.map (·.1)) → B.Pairwise (· < ·) → ∀ w : Nat, topR P = (w : Int) → B.length ≤ w + 1 := fun B hB hp w hw => by
    obtain ⟨Q, q1, q2⟩ := sub_lift hB
    have up := h.up.sublist q1
    rw [← q2, List.pairwise_map] at hp
    have pw : (Q.map (·.2)).Pairwise (· < ·) := by
      rw [List.pairwise_map]
      exact List.Pairwise.imp₂ (fun a b f g => f g) up hp
    have := nats_len (w := w) pw fun r hr => by
      obtain ⟨q, hq, rfl⟩ := List.mem_map.mp hr
      have := bnd q (q1.subset hq)
      omega
    rw [← q2, List.length_map]
    rw [List.length_map] at this
    exact this
  rcases t3 with t3 | ⟨r, hr, t3⟩
  · have e : P = [] := by
      cases P with
      | nil => rfl
      | cons p P =>
        have := bnd p List.mem_cons_self
        have e2 : topR (p :: P) = -1 := t3
        omega
    subst e
    refine ⟨sub, ?_, fun B hB _ => ?_⟩
    · exact .nil
    · cases hB
      exact Nat.le_refl _
  · have e2 : topR P = (r : Int) := t3
    obtain ⟨p, hp, rfl⟩ := List.mem_map.mp hr
    obtain ⟨k1, k2, _⟩ := pick_ok P h.up h.dn p.2 ⟨p.1, hp⟩
    refine ⟨sub, ?_, fun B hB hb => ?_⟩
    · unfold asc
      rw [e2, List.pairwise_reverse]
      exact k2
    · have := cnt B hB hb p.2 e2
      unfold asc
      rw [e2, List.length_reverse, k1]
      exact this
/-! ### how long it is -/
theorem best_all {ns A : List Int} (h : Best ns A) (a : ns.Pairwise (· < ·)) : A.length = ns.length := Nat.le_antisymm h.sub.length_le (h.top ns (.refl _) a)
theorem best_one {ns A B : List Int} (h : Best ns A) (hB : B.Sublist ns) (b : B.Pairwise (· < ·)) (l : B.length + 1 = ns.length) (n : ¬ ns.Pairwise (· < ·)) : A.length + 1 = ns.length := by
  have h1 := h.top B hB b
  have h2 := h.sub.length_le
  by_cases e : A.length = ns.length
  · exact absurd (by rw [← h.sub.eq_of_length e]; exact h.asc) n
  · omega
end Lis
set_option Elab.async false
set_option linter.all false
set_option maxRecDepth 100000
set_option maxHeartbeats 4000000
/-! CC: the longest ascent. -/
namespace G
open PySem PySem.Spec PyProof.Rows L2 NdefX StX PySem.W
abbrev sRanks : Stmt := topS 48
abbrev sAscent : Stmt := topS 49
abbrev nRanks : List Str := ["numbers", "ranks", "least", "number", "rank", "one"]
abbrev nAscent : List Str := ["numbers", "ranks", "ascent", "wanted", "number", "rank"]
theorem scRanks : FnScope nRanks ["numbers"] (defScope sRanks) := ⟨rfl, rfl, rfl, by decide +kernel, rfl, by decide +kernel, by decide +kernel⟩
theorem scAscent : FnScope nAscent ["numbers"] (defScope sAscent) := ⟨rfl, rfl, rfl, by decide +kernel, rfl, by decide +kernel, by decide +kernel⟩
theorem readsI {h : Heap} : ∀ {ns : List Int} {us : List Value}, Vals (ns.map V.int) us → ReadsAll h us (ns.map .int) []
  | [], _, .nil => .nil
  | n :: ns, _, .cons r rr => by
    obtain ⟨t, rfl⟩ := r
    exact ReadsAll.cons (.int n t) (readsI rr)
theorem depthAll_I : ∀ ns : List Int, PyData.depthAll (ns.map .int) = 0
  | [] => by simp [PyData.depthAll]
  | n :: ns => by
    have := depthAll_I ns
    simp only [List.map_cons, PyData.depthAll, PyData.depth]
    omega
def MaxQ (Q : VK) (d : V) (ns : List Int) (H : Hp) : Prop := (ns = [] → Q d H) ∧ ∀ n m, ns = n :: m → Q (.int (m.foldl max n)) H
/-- max(xs, default=d) of a list of ints -/
def tMaxD (K : PySem.W.Frag) (ta : TA) (td : TE) : TE := fun σ H Q => ta σ H fun vs H1 => td σ H1 fun d H2 => ∃ (a : Addr) (ns : List Int), vs = [.ref a] ∧ SqL K H2 a (ns.map V.int) ∧ MaxQ Q d ns H2
theorem pe_maxD {X : Cx} {e e2 : Expr} {ta : TA} {td : TE} {p pos kp : Pos} (hc : X.calm = true) (hu : X.A.units + 8 < cLine) (ha : PA X [e] ta) (hd : PE X e2 td) (hg : Gl X "max") (hm : X.mg "max" = none)
    (he1 : backTo pos (starEach [e] X.env) = (false, eval e X.env) :: backTo pos (starEach [] X.env) := by rfl) (hpl : (backTo pos (starEach [e] X.env)).any (·.1) = false := by rfl) :
    PE X (.Call (.Name "max" p) [e] [⟨some "default", e2, kp⟩] pos) (tMaxD X.K ta td) := by
  refine ⟨fun pins s σ H Q I h => ?_⟩
  refine wpAny_Call_Name_kw (ld_blt I hg hm (u := .builtin "max") (by decide +kernel) ?_)
  refine PyProof.Rows.callWith_kw (thn (ha.run pos pins s σ H _ I h) fun us s1 ⟨vs, H1, I1, r1, q1⟩ => ?_) he1 hpl (by rfl) (by rfl)
  show wpAny _ _ (evalAll [do let v ← eval e2 X.env; standAt pos; pure v]) _ _ s1
  refine wpAny_evalAll_cons (wpAny_bind (thn (hd.run pins s1 σ H1 _ I1 q1) fun u s2 ⟨d, H2, I2, r2, q2⟩ => wpAny_bind (wpAny_standAt (wpAny_pure (wpAny_evalAll_nil ?_)))))
  obtain ⟨a, ns, rfl, hs, q0, q⟩ := q2
  obtain rfl := Vals.ref1 r1
  show wpAny _ _ (call (.builtin "max") [.ref a] [(Str.ofString "default", u)]) _ _ s2
  obtain ⟨its, rv, hl, hz⟩ := I2.list hs
  have rs := readsI (h := s2.heap) rv
  refine max_list_default (as := []) (I2.ok.hd hc) hl.isList (by simpa using rs) ⟨fun d hd d' hd' => ?_, fun d hd => ?_⟩ ?_ (fun e0 h' tk hk => ?_) fun y ys i v h' tk bs e0 hi rd hk => ?_
  · obtain ⟨n, _, rfl⟩ := List.mem_map.mp hd
    obtain ⟨m, _, rfl⟩ := List.mem_map.mp hd'
    rfl
  · obtain ⟨n, _, rfl⟩ := List.mem_map.mp hd
    exact fun z => nomatch z
  · rw [depthAll_I]
    show X.A.units + 1 + 0 < cLine
    omega
  · exact ⟨d, H2, I2.kept hk, r2, q0 (List.map_eq_nil_iff.mp e0)⟩
  · cases ns with
    | nil => cases e0
    | cons n m =>
      rw [List.map_cons] at e0
      injection e0 with e1 e2
      subst e1 e2
      rw [maxD_ints] at rd
      obtain ⟨t, rfl⟩ : ∃ t, v = Value.int (m.foldl max n) t := by
        cases rd
        exact ⟨_, rfl⟩
      exact ⟨.int (m.foldl max n), H2, I2.kept hk, ⟨_, rfl⟩, q n m rfl⟩
end G
set_option Elab.async false
set_option linter.all false
set_option maxRecDepth 100000
set_option maxHeartbeats 8000000
/-! CD: ranks_of. -/
namespace G
open PySem PySem.Spec PyProof.Rows L2 NdefX StX PySem.W
def ixV (rk : List Nat) : List V := rk.map fun r => V.int (r : Nat)
theorem take_snocA {α : Type} {xs : List α} {i : Nat} {x : α} (h : xs[i]? = some x) : xs.take (i + 1) = xs.take i ++ [x] := by
  rw [List.take_add_one, h]
  rfl
theorem filt_snoc {α : Type} {p : α → Bool} {xs : List α} {x : α} : (xs ++ [x]).filter p = if p x = true then xs.filter p ++ [x] else xs.filter p := by
  rw [List.filter_append]
  by_cases h : p x = true
  · rw [if_pos h, List.filter_cons_of_pos h, List.filter_nil]
  · rw [if_neg h, List.filter_cons_of_neg h, List.filter_nil, List.append_nil]
theorem cutV_drop (xs : List V) (k : Nat) : cutV xs (some ((k : Int) + 1)) none = xs.drop (k + 1) := by
  rw [show ((k : Int) + 1) = ((k + 1 : Nat) : Int) by omega]
  unfold cutV
  rw [HT.sIx_none, HT.sIx_nat]
  by_cases h : k + 1 ≤ xs.length
  · rw [Nat.min_eq_left h, List.take_of_length_le (by rw [List.length_drop]; omega)]
  · rw [Nat.min_eq_right (by omega), Nat.sub_self, List.take_zero, List.drop_eq_nil_of_le (by omega)]
def spRanks (K : PySem.W.Frag) : Sp := fun vs H Q _ => ∃ (l : Addr) (ns : List Int), vs = [.ref l] ∧ SqL K H l (ns.map V.int) ∧ ns.Nodup ∧ ns.length ≤ 80 ∧
  ∀ (p : Addr) (rk : List Nat) (least : List Int) (H' : Hp), H p = none → Same H H' → H' p = some (.lst (ixV rk)) → rk.length = ns.length → Lis.St (ns.zip rk) least → Q (.ref p) H'
theorem zip_take {ns : List Int} {rk : List Nat} {i : Nat} {n : Int} {r : Nat} (hi : ns[i]? = some n) (hr : rk.length = i) : (ns.take (i + 1)).zip (rk ++ [r]) = (ns.take i).zip rk ++ [(n, r)] := by
  rw [take_snocA hi, List.zip_append]
  · rfl
  · have := (List.getElem?_eq_some_iff.mp hi).1
    rw [List.length_take, hr]
    omega
section
variable {P : Program} {w : World} {K : PySem.W.Frag} {mg : Str → Option Value} {base : Heap} {f : Addr} {fd : FuncData}
theorem ok_ranks (F : Fun K "ranks_of" "ranks_of" sRanks f fd) (ml : mg "len" = none) : FnOk P w K mg base CX0 1 f fd ["numbers"] (spRanks K) := by
  refine F.ok scRanks (fun vs H Q E h => ?_) (fun cdv A outer s H vs Q E hr h => ?_)
  · obtain ⟨l, ns, rfl, _⟩ := h
    rfl
  · obtain ⟨l, ns, rfl, hl, nd, few, q⟩ := h
    refine ⟨_, pss_cons (ps_set (i := 1) scRanks.nd rfl (.inl rfl) (pe_lst pa_nil))
      (pss_cons (ps_set (i := 2) scRanks.nd rfl (.inl rfl) (pe_lst pa_nil))
      (pss_cons (ps_for PassesOwn.never rfl (pi_list (pv 0)) (pg_name (i := 3) scRanks.nd rfl (.inr rfl))
        (pss_cons (ps_set (i := 4) scRanks.nd rfl (.inl rfl) (pe_callB call_len_seq (by rfl) ml PySem.boot_len (pa_cons (pe_lc (own := [("one", 5)]) (g := gName 5) (by rfl) scRanks.nd (pi_list (pv 2))
            (blkOk_by (own := [("one", 5)]) (N := nRanks) (sc := defScope sRanks) (by decide +kernel)) (fun _ _ _ _ _ => pg_name (i := 5) scRanks.nd rfl (.inl rfl)) (fun _ _ _ _ _ => pts_one (pt_cmpR op_lt (pv 5) (pv 3) (nomark _))) (fun _ _ _ _ _ => pv 5)) pa_nil)))
        (pss_cons (ps_expr (pe_bm PySem.F.plainAttrs_list PySem.F.slot_list_append PySem.F.type_list_append mt_append (pv 1) (pa_cons (pv 4) pa_nil)))
        (pss_one (ps_set (i := 2) scRanks.nd rfl (.inl rfl) (pe_lst (StX.pa_star (pe_slice (r := rSlL K) sl_list (pv 2) po_none (po_some (pv 4))) (pa_cons (pv 3) (StX.pa_star (pe_slice (r := rSlL K) sl_list (pv 2) (po_some (pe_op op_add (pv 4) pe_int)) po_none) pa_nil)))))))))
      (pss_one (ps_ret (pv 1))))), ?_⟩
    refine ⟨(by show 0 ≤ sizeLine; decide), fun R hR => ⟨(by show 0 ≤ sizeLine; decide), fun L0 hL0 => ?_⟩⟩
    have s1 := Same.new (o := .lst []) hR
    have s2 := Same.new (o := .lst []) hL0
    have nRL : R ≠ L0 := fun z => by
      rw [← z, upd_same] at hL0
      cases hL0
    have eR : (upd (upd H R (.lst [])) L0 (.lst [])) R = some (.lst []) := (upd_ne nRL).trans upd_same
    have eL : (upd (upd H R (.lst [])) L0 (.lst [])) L0 = some (.lst []) := upd_same
    have sHH := s1.trans s2
    generalize upd (upd H R (.lst [])) L0 (.lst []) = H1 at eR eL sHH ⊢
    refine ⟨_, rfl, l, rfl, ⟨_, sqL_keep sHH hl⟩, ?_⟩
    have lz : (ns.map V.int).length = ns.length := List.length_map ..
    refine for_list (xs := ns.map V.int) (fun i σ H2 => ∃ (L : Addr) (rk : List Nat) (least : List Int) (x3 x4 : Option V), σ = [some (.ref l), some (.ref R), some (.ref L), x3, x4, none] ∧ Same H H2 ∧ H2 R = some (.lst (ixV rk)) ∧ H2 L = some (.lst (least.map V.int)) ∧ L ≠ R ∧ rk.length = i ∧ least.length ≤ i ∧ Lis.St ((ns.take i).zip rk) least) ?_ ?_ ?_ ?_
    · exact ⟨L0, [], [], none, none, rfl, sHH, eR, eL, nRL.symm, rfl, Nat.le_refl _, Lis.st_nil⟩
    · rintro i σ H2 _ ⟨L, rk, least, x3, x4, rfl, s2, _⟩
      exact sqL_keep s2 hl
    · rintro i x σ H2 hx ⟨L, rk, least, x3, x4, rfl, s2, e2, eL2, nL, lr, ll, st⟩
      rw [List.getElem?_map] at hx
      obtain ⟨n, hn, rfl⟩ := Option.map_eq_some_iff.mp hx
      have hi : i < ns.length := (List.getElem?_eq_some_iff.mp hn).1
      have nw : ∀ p ∈ (ns.take i).zip rk, p.1 ≠ n := fun p hp z => by
        have h1 := (List.of_mem_zip hp).1
        rw [z] at h1
        obtain ⟨j, hj, e⟩ := List.mem_iff_getElem.mp h1
        rw [List.length_take] at hj
        rw [List.getElem_take] at e
        have e2 := (List.getElem?_eq_some_iff.mp hn).2
        have := (List.getElem_inj nd).mp (e.trans e2.symm)
        omega
      obtain ⟨st2, rle⟩ := Lis.st_step st nw
      refine ⟨_, rfl, L, rfl, ⟨_, .of eL2⟩, fun D hD => ?_⟩
      refine lc_list (xs := least.map V.int) (fun j H3 => Same H2 H3 ∧ H3 D = some (.lst (((least.take j).filter fun m => decide (m < n)).map V.int))) ?_ ?_ ?_ ?_
      · exact ⟨Same.new hD, upd_same⟩
      · exact fun _ _ _ z => .of (z.1 _ _ eL2)
      · rintro j y H3 hy ⟨s3, e3⟩
        rw [List.getElem?_map] at hy
        obtain ⟨m, hm, rfl⟩ := Option.map_eq_some_iff.mp hy
        refine ⟨rfl, ?_⟩
        refine ⟨_, rfl, _, rfl, _, _, rfl, rfl, _, rfl, ?_⟩
        rw [take_snocA hm, filt_snoc]
        by_cases c : m < n
        · rw [decide_eq_true c, if_pos rfl]
          refine iteT ⟨_, rfl, _, e3, ?_, fun c o e => (upd_ne (ne_of_none e hD)).trans (s3 _ _ e), ?_⟩
          · have h1 := List.length_filter_le (fun m => decide (m < n)) (least.take j)
            rw [List.length_take] at h1
            rw [List.length_map]
            exact small1000 (by omega)
          · rw [upd_same, List.map_append]
            rfl
        · rw [decide_eq_false c, if_neg (by decide)]
          exact iteF ⟨s3, e3⟩
      · rintro H3 ⟨s3, e3⟩
        rw [List.length_map, List.take_length] at e3
        have eR3 := s3 _ _ e2
        refine ⟨D, _, rfl, .inl (.of e3), ?_⟩
        rw [List.length_map]
        generalize er : (least.filter fun m => decide (m < n)).length = r
        have er' : Lis.rankIn least n = r := er
        rw [er'] at st2 rle
        refine ⟨_, rfl, .inl ⟨rfl, _, .of eR3⟩, _, rfl, R, _, _, rfl, rfl, eR3, ?_, ?_⟩
        · unfold ixV
          rw [List.length_map]
          exact small1000 (by omega)
        have nDR : D ≠ R := fun z => by
          rw [z, e2] at hD
          cases hD
        have kp : ∀ c o, c ≠ R → H3 c = some o → (upd H3 R (.lst (ixV rk ++ [V.int (r : Nat)]))) c = some o := fun c o ne e => (upd_ne ne).trans e
        have eL3 := kp _ _ nL (s3 _ _ eL2)
        have eR4 : (upd H3 R (.lst (ixV rk ++ [V.int (r : Nat)]))) R = some (.lst (ixV rk ++ [V.int (r : Nat)])) := upd_same
        have sH4 : Same H (upd H3 R (.lst (ixV rk ++ [V.int (r : Nat)]))) := fun c o e => kp c o (fun z => by rw [z, hR] at e; cases e) ((s2.trans s3) _ _ e)
        generalize upd H3 R (.lst (ixV rk ++ [V.int (r : Nat)])) = H4 at eL3 eR4 sH4 ⊢
        refine ⟨_, rfl, _, rfl, _, rfl, L, _, rfl, .of eL3, fun m1 h1 => ⟨m1, _, rfl, .inr (.of upd_same), _, rfl, _, rfl, _, rfl, _, _, rfl, rfl, _, rfl, L, _, rfl, .of (Same.new h1 _ _ eL3), fun m2 h2 => ⟨m2, _, rfl, .inr (.of upd_same), ?_⟩⟩⟩
        have lt : (least.map V.int).length = least.length := List.length_map ..
        rw [cutV_take] at h2
        rw [cutV_take, cutV_drop]
        unfold tNil
        dsimp only
        rw [List.append_nil]
        have ee : (least.map V.int).take r ++ V.int n :: (least.map V.int).drop (r + 1) = (least.take r ++ n :: least.drop (r + 1)).map V.int := by
          rw [List.map_append, List.map_cons, List.map_take, List.map_drop]
        rw [ee]
        have ln : (least.take r ++ n :: least.drop (r + 1)).length ≤ i + 1 := by
          rw [List.length_append, List.length_cons, List.length_take, List.length_drop]
          omega
        refine ⟨?_, fun p hp => ?_⟩
        · rw [List.length_map]
          exact Nat.le_of_lt (small1000 (by omega))
        have sn0 := (Same.new (o := .lst ((least.map V.int).take r)) h1).trans (Same.new (o := .lst ((least.map V.int).drop (r + 1))) h2)
        have sn := sn0.trans (Same.new (o := .lst ((least.take r ++ n :: least.drop (r + 1)).map V.int)) hp)
        refine ⟨p, rk ++ [r], _, _, _, rfl, sH4.trans sn, ?_, upd_same, fun z => ?_, ?_, ln, ?_⟩
        · rw [sn _ _ eR4]
          unfold ixV
          rw [List.map_append]
          rfl
        · have := sn0.free hp
          rw [z, eR4] at this
          cases this
        · rw [List.length_append, lr]
          rfl
        · rw [zip_take hn lr]
          exact st2
    · rintro σ H2 ⟨L, rk, least, x3, x4, rfl, s2, e2, eL2, nL, lr, ll, st⟩
      rw [lz] at lr st
      rw [List.take_length] at st
      exact ⟨_, rfl, q R rk least H2 hR s2 e2 lr st⟩
end
end G
set_option Elab.async false
set_option linter.all false
set_option maxRecDepth 100000
set_option maxHeartbeats 8000000
/-! CE: longest_ascent. -/
namespace G
open PySem PySem.Spec PyProof.Rows L2 NdefX StX PySem.W
def spAscent (K : PySem.W.Frag) : Sp := fun vs H Q _ => ∃ (l : Addr) (ns : List Int), vs = [.ref l] ∧ SqL K H l (ns.map V.int) ∧ ns.Nodup ∧ ns.length ≤ 80 ∧
  ∀ (p : Addr) (A : List Int) (H' : Hp), H p = none → Same H H' → H' p = some (.lst (A.map V.int)) → Lis.Best ns A → Q (.ref p) H'
def natI (rk : List Nat) : List Int := rk.map Int.ofNat
def topOf (rk : List Nat) : Int := rk.foldl (fun (a : Int) (r : Nat) => if (r : Int) > a then (r : Int) else a) (-1)
theorem top_max (r : Nat) (rs : List Nat) : topOf (r :: rs) = (natI rs).foldl max (Int.ofNat r) := by
  unfold topOf natI
  rw [List.foldl_cons, List.foldl_map, if_pos (by omega)]
  show List.foldl _ (Int.ofNat r) rs = _
  congr 1
  funext a x
  show (if (x : Int) > a then (x : Int) else a) = max a (x : Int)
  rw [Int.max_def]
  split <;> split <;> omega
theorem ixV_I (rk : List Nat) : ixV rk = (natI rk).map V.int := by
  unfold ixV natI
  rw [List.map_map]
  rfl
theorem maxD_top {Q : VK} {H : Hp} {rk : List Nat} {d : V} (ed : d = .int (-1)) (q : Q (.int (topOf rk)) H) : MaxQ Q d (natI rk) H := by
  subst ed
  refine ⟨fun e => ?_, fun n m e => ?_⟩
  · rw [List.map_eq_nil_iff.mp e] at q
    exact q
  · cases rk with
    | nil => cases e
    | cons r rs =>
      unfold natI at e
      rw [List.map_cons] at e
      injection e with e1 e2
      rw [top_max, e1] at q
      unfold natI at q
      rw [e2] at q
      exact q
theorem rev_drop {α : Type} {P : List α} {i : Nat} {p : α} (h : P[P.length - 1 - i]? = some p) (hi : i < P.length) : P.reverse.drop i = p :: P.reverse.drop (i + 1) := by
  have e : P.reverse[i]? = some p := by rw [List.getElem?_reverse hi]; exact h
  obtain ⟨h1, h2⟩ := List.getElem?_eq_some_iff.mp e
  rw [List.drop_eq_getElem_cons h1, h2]
theorem pick_cons (n : Int) (r : Nat) (t : List Lis.NR) (w : Int) : Lis.pick ((n, r) :: t) w = if (r : Int) = w then n :: Lis.pick t (w - 1) else Lis.pick t w := rfl
section
variable {P : Program} {w : World} {K : PySem.W.Frag} {mg : Str → Option Value} {base : Heap} {f : Addr} {fd : FuncData}
theorem ok_ascent {fR : Addr} {fdR : FuncData} (F : Fun K "longest_ascent" "longest_ascent" sAscent f fd) (GR : FnOk P w K mg base CX0 1 fR fdR ["numbers"] (spRanks K)) (gR : mg "ranks_of" = some (.ref fR)) (kR : PySem.W.keepIn K (.ref fR) = true) (bR : Binds K fdR ["numbers"] [])
    (mx : mg "max" = none) (mrv : mg "reversed" = none) (mL : mg "list" = none) (mz : mg "zip" = none) : FnOk P w K mg base CX0 2 f fd ["numbers"] (spAscent K) := by
  refine F.ok scAscent (fun vs H Q E h => ?_) (fun cdv A outer s H vs Q E hr h => ?_)
  · obtain ⟨l, ns, rfl, _⟩ := h
    rfl
  · obtain ⟨l, ns, rfl, hl, nd, few, q⟩ := h
    have hu8 : (A.deeper (envOfC "longest_ascent" (defScope sAscent) s.heap.objs.size f cdv)).units + 8 < cLine := by have := hr.units; omega
    refine ⟨_, pss_cons (ps_set (i := 1) scAscent.nd rfl (.inl rfl) (pe_call GR hr rfl gR kR bR .nil pass0 (pa_cons (pv 0) pa_nil)))
      (pss_cons (ps_set (i := 2) scAscent.nd rfl (.inl rfl) (pe_lst pa_nil))
      (pss_cons (ps_set (i := 3) scAscent.nd rfl (.inl rfl) (pe_maxD rfl hu8 (pa_cons (pv 1) pa_nil) (pe_un un_neg pe_int) (by rfl) mx))
      (pss_cons (ps_for PassesOwn.never rfl (pi_reversed (by rfl) mrv (pa_cons (ZlL.pe_listZip rfl (pa_cons (pv 0) (pa_cons (pv 1) pa_nil)) (by rfl) mL (by rfl) mz) pa_nil))
        (pg_tup rfl (pgs_cons (pg_name (i := 4) scAscent.nd rfl (.inl rfl)) (pgs_cons (pg_name (i := 5) scAscent.nd rfl (.inl rfl)) pgs_nil)))
        (pss_one (ps_if (pt_cmpR op_eq (pv 5) (pv 3) (nomark _))
          (pss_cons (ps_expr (pe_bm PySem.F.plainAttrs_list PySem.F.slot_list_append PySem.F.type_list_append mt_append (pv 2) (pa_cons (pv 4) pa_nil)))
          (pss_one (ps_set (i := 3) scAscent.nd rfl (.inl rfl) (pe_op op_sub (pv 3) pe_int)))) pss_nil)))
      (pss_one (ps_ret (pe_backL (pv 2) (po_some (pe_un un_neg pe_int)))))))), ?_⟩
    refine ⟨_, rfl, l, ns, rfl, hl, nd, few, fun R rk least H1 hR s1 e1 lr st => ?_⟩
    refine ⟨(by show 0 ≤ sizeLine; decide), fun As hA => ?_⟩
    have s2 := Same.new (o := .lst []) hA
    have eR2 := s2 _ _ e1
    have eA2 : (upd H1 As (.lst [])) As = some (.lst []) := upd_same
    have s12 := s1.trans s2
    have hAn : H As = none := s1.free hA
    generalize upd H1 As (.lst []) = H2 at eR2 eA2 s12 ⊢
    have lz : (ns.zip rk).length = ns.length := by rw [List.length_zip, lr, Nat.min_self]
    have e1' : (ns.zip rk).map (·.1) = ns := List.map_fst_zip (by omega)
    have e2' : (ns.zip rk).map (·.2) = rk := List.map_snd_zip (by omega)
    refine ⟨_, rfl, _, rfl, R, natI rk, rfl, .of (by rw [← ixV_I]; exact eR2), maxD_top rfl ?_⟩
    have etop : Lis.topR (ns.zip rk) = topOf rk := by
      unfold Lis.topR topOf
      rw [e2']
    rw [← etop]
    generalize htp : Lis.topR (ns.zip rk) = tp
    have hb := Lis.asc_best st
    rw [e1'] at hb
    unfold Lis.asc at hb
    rw [htp] at hb
    refine ⟨_, rfl, _, rfl, l, R, _, _, rfl, sqL_keep s12 hl, .of eR2, ?_, ?_, fun zp ts H3 nz s3 ez lts nts ndt az => ?_⟩
    · rw [List.length_map]
      unfold ixV
      rw [List.length_map, lr]
    · rw [List.length_map]
      omega
    rw [List.length_map] at lts
    have s3' : Same H2 H3 := s3
    have eA3 := s3' _ _ eA2
    have nzA : zp ≠ As := fun z => by
      rw [z, eA2] at nz
      cases nz
    refine ⟨zp, _, rfl, .of ez, ?_⟩
    have lt : (ts.map V.ref).length = ns.length := by rw [List.length_map, lts]
    rw [lt]
    have at_ : ∀ i n r, ns[i]? = some n → rk[i]? = some r → ∃ t, ts[i]? = some t ∧ H3 t = some (.tup [.int n, .int (r : Nat)]) := fun i n r h1 h2 => by
      have := (List.getElem?_eq_some_iff.mp h1).1
      have et : ts[i]? = some ts[i] := List.getElem?_eq_getElem (by omega)
      exact ⟨_, et, az i _ _ _ et (by rw [List.getElem?_map, h1] <;> rfl) (by unfold ixV; rw [List.getElem?_map, h2] <;> rfl)⟩
    refine for_it (lt ▸ walk_rev) (fun i σ H4 => ∃ (acc : List Int) (w : Int) (x4 x5 : Option V), σ = [some (.ref l), some (.ref R), some (.ref As), some (.int w), x4, x5] ∧ (∀ c o, c ≠ As → H3 c = some o → H4 c = some o) ∧ H4 As = some (.lst (acc.map V.int)) ∧ acc.length ≤ i ∧ Lis.pick (ns.zip rk).reverse tp = acc ++ Lis.pick ((ns.zip rk).reverse.drop i) w) ?_ ?_ ?_ ?_
    · exact ⟨[], tp, none, none, rfl, fun _ _ _ e => e, eA3, Nat.le_refl _, rfl⟩
    · rintro i σ H4 _ ⟨acc, w, x4, x5, rfl, k4, _⟩
      exact .of (k4 _ _ nzA ez)
    · rintro i x σ H4 H5 hi ⟨acc, w, x4, x5, rfl, k4, e4, la, hp⟩ ⟨rfl, hx⟩
      rw [List.getElem?_map] at hx
      obtain ⟨t, hti, rfl⟩ := Option.map_eq_some_iff.mp hx
      have hil : i < ns.length := hi
      have hj : ns.length - 1 - i < ns.length := by omega
      have h1 : ns[ns.length - 1 - i]? = some ns[ns.length - 1 - i] := List.getElem?_eq_getElem hj
      have h2 : rk[ns.length - 1 - i]? = some rk[ns.length - 1 - i] := List.getElem?_eq_getElem (by omega)
      generalize ns[ns.length - 1 - i] = n at h1
      generalize rk[ns.length - 1 - i] = r at h2
      obtain ⟨t', et', eT⟩ := at_ _ n r h1 h2
      have hti2 : ts[ns.length - 1 - i]? = some t := hti
      obtain rfl : t' = t := Option.some.inj (et'.symm.trans hti2)
      have nt : t' ≠ As := fun z => by
        rw [z, eA3] at eT
        cases eT
      have hz : (ns.zip rk)[(ns.zip rk).length - 1 - i]? = some (n, r) := by
        rw [lz, List.getElem?_zip_eq_some]
        exact ⟨h1, h2⟩
      rw [rev_drop hz (by omega)] at hp
      rw [pick_cons] at hp
      refine ⟨t', _, rfl, .of (k4 _ _ nt eT), rfl, _, _, rfl, _, _, rfl, rfl, ?_⟩
      refine ⟨_, rfl, _, rfl, rfl, _, rfl, ?_⟩
      by_cases c : (r : Int) = w
      · rw [if_pos c] at hp
        refine eq_ifT (congrArg V.int c) ?_
        refine ⟨_, rfl, .inl ⟨rfl, _, .of e4⟩, _, rfl, As, _, _, rfl, rfl, e4, ?_, ?_⟩
        · rw [List.length_map]
          exact small1000 (by omega)
        refine ⟨_, rfl, _, _, rfl, rfl, ?_⟩
        refine ⟨acc ++ [n], w - 1, _, _, rfl, fun c o ne e => (upd_ne ne).trans (k4 _ _ ne e), ?_, ?_, ?_⟩
        · rw [upd_same, List.map_append]
          rfl
        · rw [List.length_append]
          show acc.length + 1 ≤ _
          omega
        · rw [hp, List.append_assoc]
          rfl
      · rw [if_neg c] at hp
        refine eq_ifN (fun z => c (V.int.inj z)) ?_
        exact ⟨acc, w, _, _, rfl, k4, e4, by omega, hp⟩
    · rintro σ H4 ⟨acc, w, x4, x5, rfl, k4, e4, la, hp⟩
      have lrev : (ns.zip rk).reverse.length = ns.length := by rw [List.length_reverse, lz]
      rw [← lrev, List.drop_length] at hp
      have hp2 : Lis.pick (ns.zip rk).reverse tp = acc := by
        rw [hp]
        exact List.append_nil _
      rw [hp2] at hb
      refine ⟨_, rfl, _, rfl, _, rfl, As, _, rfl, .of e4, rfl, fun p hp => ?_⟩
      have s4 : Same H H4 := fun c o e => k4 c o (fun z => by rw [z, hAn] at e; cases e) (s3' _ _ (s12 _ _ e))
      have sp := Same.new (o := .lst (acc.map V.int).reverse) hp
      refine q p acc.reverse _ (s4.free hp) (s4.trans sp) ?_ hb
      rw [upd_same, List.map_reverse]
end
end G
set_option Elab.async false
set_option linter.all false
set_option maxRecDepth 100000
set_option maxHeartbeats 8000000
/-! CF: moves_to. -/
namespace G
open PySem PySem.Spec PyProof.Rows L2 NdefX StX PySem.W
abbrev sMoves : Stmt := topS 50
abbrev nMoves : List Str := ["numbers", "untouched", "now", "moves", "at", "number", "index", "others", "target"]
theorem scMoves : FnScope nMoves ["numbers"] (defScope sMoves) := ⟨rfl, rfl, rfl, by decide +kernel, rfl, by decide +kernel, by decide +kernel⟩
theorem eqV_K (a b : Key) : eqV (kV a) (kV b) = decide (a = b) := by
  cases a with
  | inl a => cases b with
    | inl b =>
      show (a == b) = _
      by_cases h : a = b
      · subst h
        rw [decide_eq_true rfl]
        exact beq_self_eq_true _
      · rw [decide_eq_false fun z => h (Sum.inl.inj z)]
        exact beq_false_of_ne h
    | inr b => rfl
  | inr a => cases b with
    | inl b => rfl
    | inr b =>
      show (a == b) = _
      rw [str_beq]
      by_cases h : a = b
      · subst h
        rw [decide_eq_true rfl, decide_eq_true rfl]
      · rw [decide_eq_false h, decide_eq_false fun z => h (Sum.inr.inj z)]
theorem inV_iff (k : Key) : ∀ ks : List Key, inV (kV k) (ks.map kV) = true ↔ k ∈ ks
  | [] => ⟨(fun h => nomatch h), fun h => nomatch h⟩
  | z :: zs => by
    show (eqV (kV z) (kV k) || inV (kV k) (zs.map kV)) = true ↔ k ∈ z :: zs
    rw [Bool.or_eq_true, inV_iff k zs, eqV_K, List.mem_cons, decide_eq_true_iff]
    exact ⟨fun h => h.imp Eq.symm id, fun h => h.imp Eq.symm id⟩
theorem inV_out {k : Key} {ks : List Key} (h : k ∉ ks) : inV (kV k) (ks.map kV) = false := Bool.eq_false_iff.mpr fun z => h ((inV_iff k ks).mp z)
theorem flat_K (ks : List Key) : (ks.map kV).all flatV = true := List.all_eq_true.mpr fun x hx => by
  obtain ⟨k, _, rfl⟩ := List.mem_map.mp hx
  cases k <;> rfl
theorem mapI_K (ns : List Int) : ns.map V.int = (ns.map Sum.inl : List Key).map kV := by
  rw [List.map_map]
  rfl
theorem inV_I (n : Int) (ns : List Int) : inV (.int n) (ns.map V.int) = decide (n ∈ ns) := by
  rw [mapI_K]
  by_cases c : n ∈ ns
  · rw [decide_eq_true c]
    exact (inV_iff (.inl n) _).mpr (List.mem_map_of_mem c)
  · rw [decide_eq_false c]
    refine inV_out (k := .inl n) fun z => c ?_
    obtain ⟨m, hm, e⟩ := List.mem_map.mp z
    cases e
    exact hm
theorem flat_I (ns : List Int) : (ns.map V.int).all flatV = true := by
  rw [mapI_K]
  exact flat_K _
theorem first_at {α : Type} {n : α} : ∀ {ns : List α}, n ∈ ns → ∃ j : Nat, ns[j]? = some n ∧ ∀ m z, m < j → ns[m]? = some z → z ≠ n
  | a :: ns, h => by
    by_cases c : a = n
    · exact ⟨0, by rw [c] <;> rfl, fun m z hm => absurd hm (Nat.not_lt_zero _)⟩
    · obtain ⟨j, h1, h2⟩ := first_at (ns := ns) ((List.mem_cons.mp h).resolve_left fun e => c e.symm)
      refine ⟨j + 1, h1, fun m z hm e => ?_⟩
      cases m with
      | zero =>
        cases e
        exact c
      | succ m => exact h2 m z (Nat.lt_of_succ_lt_succ hm) e
theorem rIndex_I {K : PySem.W.Frag} {H : Hp} {l : Addr} {ns : List Int} {n : Int} {Q : VK} (hl : SqL K H l (ns.map V.int)) (hn : n ∈ ns) (q : ∀ j : Nat, ns[j]? = some n → Q (.int (j : Nat)) H) : rIndex K (.ref l) [.int n] H Q := by
  obtain ⟨j, h1, h2⟩ := first_at hn
  refine ⟨l, _, _, j, .int n, rfl, rfl, hl, rfl, flat_I _, ?_, beq_self_eq_true _, ?_, q j h1⟩
  · rw [List.getElem?_map, h1]
    rfl
  · intro m z' hm e
    rw [List.getElem?_map] at e
    obtain ⟨y, ey, rfl⟩ := Option.map_eq_some_iff.mp e
    show (y == n) = false
    exact beq_false_of_ne (h2 m y hm ey)
theorem filt_best {ns A : List Int} (nd : ns.Nodup) (h : A.Sublist ns) : (ns.filter fun n => !decide (n ∈ A)).length + A.length = ns.length := by
  have hA : A.Nodup := nd.sublist h
  have e : (ns.filter fun n => decide (n ∈ A)).Perm A := by
    refine (List.perm_ext_iff_of_nodup (nd.sublist (List.filter_sublist)) hA).mpr fun n => ?_
    rw [List.mem_filter]
    exact ⟨fun z => of_decide_eq_true z.2, fun z => ⟨h.subset z, decide_eq_true z⟩⟩
  rw [← e.length_eq]
  have := List.length_eq_countP_add_countP (fun n => decide (n ∈ A)) (l := ns)
  rw [List.countP_eq_length_filter, List.countP_eq_length_filter] at this
  have e2 : (ns.filter fun n => !decide (n ∈ A)) = ns.filter fun a => decide ¬ (decide (a ∈ A) = true) := by
    congr 1
    funext n
    by_cases c : n ∈ A
    · rw [decide_eq_true c]
      rfl
    · rw [decide_eq_false c]
      rfl
  rw [e2]
  omega
def spMoves (K : PySem.W.Frag) : Sp := fun vs H Q _ => ∃ (l : Addr) (ns : List Int), vs = [.ref l] ∧ SqL K H l (ns.map V.int) ∧ ns.Nodup ∧ ns.length ≤ 80 ∧
  ∀ (p : Addr) (A : List Int) (ts : List Addr) (H' : Hp), H p = none → Same H H' → H' p = some (.lst (ts.map V.ref)) → Lis.Best ns A → ts.length + A.length = ns.length → Q (.ref p) H'
section
variable {P : Program} {w : World} {K : PySem.W.Frag} {mg : Str → Option Value} {base : Heap} {f : Addr} {fd : FuncData}
theorem ok_moves {fA fW fO : Addr} {fdA fdW fdO : FuncData} (F : Fun K "moves_to" "moves_to" sMoves f fd) (GA : FnOk P w K mg base CX0 2 fA fdA ["numbers"] (spAscent K)) (gA : mg "longest_ascent" = some (.ref fA)) (kA : PySem.W.keepIn K (.ref fA) = true) (bA : Binds K fdA ["numbers"] [])
    (Wi : WiWo P w K mg base fW fO fdW fdO) (mS : mg "sorted" = none) (me : mg "enumerate" = none) : FnOk P w K mg base CX0 3 f fd ["numbers"] (spMoves K) := by
  refine F.ok scMoves (fun vs H Q E h => ?_) (fun cdv A outer s H vs Q E hr h => ?_)
  · obtain ⟨l, ns, rfl, _⟩ := h
    rfl
  · obtain ⟨l, ns, rfl, hl, nd, few, q⟩ := h
    have hr1 := hr.mono (show 1 ≤ 2 by decide)
    refine ⟨_, pss_cons (ps_set (i := 1) scMoves.nd rfl (.inl rfl) (pe_call GA hr rfl gA kA bA .nil pass0 (pa_cons (pv 0) pa_nil)))
      (pss_cons (ps_set (i := 2) scMoves.nd rfl (.inl rfl) (pe_callB cr_sortedI (by rfl) mS (by decide +kernel) (pa_cons (pv 0) pa_nil)))
      (pss_cons (ps_set (i := 3) scMoves.nd rfl (.inl rfl) (pe_lst pa_nil))
      (pss_cons (ps_for PassesOwn.never rfl (pi_enum (by rfl) me (pa_cons (pv 0) pa_nil)) (pg_tup rfl (pgs_cons (pg_name (i := 4) scMoves.nd rfl (.inl rfl)) (pgs_cons (pg_name (i := 5) scMoves.nd rfl (.inl rfl)) pgs_nil)))
        (pss_one (ps_if (pt_cmpR op_notIn_seq (pv 5) (pv 1) (by rfl))
          (pss_cons (ps_set (i := 6) scMoves.nd rfl (.inl rfl) (pe_bm PySem.F.plainAttrs_list PySem.F.slot_list_index PySem.F.type_list_index mt_index (pv 2) (pa_cons (pv 5) pa_nil)))
          (pss_cons (ps_set (i := 7) scMoves.nd rfl (.inl rfl) (pe_call Wi.GO hr1 rfl Wi.gO Wi.kO Wi.bO .nil pass0 (pa_cons (pv 2) (pa_cons (pv 6) pa_nil))))
          (pss_cons (ps_set (i := 8) scMoves.nd rfl (.inl rfl) (pe_ifExp (pt_cmpR op_gt (pv 4) pe_int (nomark _)) (pe_op op_add (pe_bm PySem.F.plainAttrs_list PySem.F.slot_list_index PySem.F.type_list_index mt_index (pv 7) (pa_cons (pe_ix ix_list (pv 0) (pe_op op_sub (pv 4) pe_int) (fun _ _ => rfl)) pa_nil)) pe_int) pe_int))
          (pss_cons (ps_set (i := 2) scMoves.nd rfl (.inl rfl) (pe_call Wi.GW hr1 rfl Wi.gW Wi.kW Wi.bW .nil pass0 (pa_cons (pv 7) (pa_cons (pv 8) (pa_cons (pv 5) pa_nil)))))
          (pss_one (ps_expr (pe_bm PySem.F.plainAttrs_list PySem.F.slot_list_append PySem.F.type_list_append mt_append (pv 3) (pa_cons (pe_tup (pa_cons pe_str (pa_cons (pv 6) (pa_cons (pv 8) pa_nil)))) pa_nil)))))))) pss_nil)))
      (pss_one (ps_ret (pv 3)))))), ?_⟩
    refine ⟨_, rfl, l, ns, rfl, hl, nd, few, fun U A0 H1 hU s1 eU best => ?_⟩
    refine ⟨_, rfl, l, ns, rfl, sqL_keep s1 hl, fun xs0 N0 pm0 _ hN0 => ?_⟩
    have s2 := Same.new (o := .lst (xs0.map V.int)) hN0
    refine ⟨(by show 0 ≤ sizeLine; decide), fun M hM => ?_⟩
    have s3 := Same.new (o := .lst []) hM
    have eU3 := s3 _ _ (s2 _ _ eU)
    have eN3 := s3 _ _ (upd_same (H := H1) (a := N0) (o := .lst (xs0.map V.int)))
    have eM3 : (upd (upd H1 N0 (.lst (xs0.map V.int))) M (.lst [])) M = some (.lst []) := upd_same
    have nNM : N0 ≠ M := fun z => by
      rw [← z, upd_same] at hM
      cases hM
    have s123 := s1.trans (s2.trans s3)
    have s23 := s2.trans s3
    have hM1 : H1 M = none := s2.free hM
    have hMn : H M = none := s1.free hM1
    generalize upd (upd H1 N0 (.lst (xs0.map V.int))) M (.lst []) = H3 at eU3 eN3 eM3 s123 s23 ⊢
    refine ⟨_, rfl, l, ns.map V.int, rfl, sqL_keep s123 hl, ?_⟩
    have lz : (ns.map V.int).length = ns.length := List.length_map ..
    refine for_it (walk_enum (xs := ns.map V.int)) (fun i σ H4 => ∃ (N : Addr) (xs : List Int) (ts : List Addr) (x4 x5 x6 x7 x8 : Option V), σ = [some (.ref l), some (.ref U), some (.ref N), some (.ref M), x4, x5, x6, x7, x8] ∧ Same H1 H4 ∧ H4 N = some (.lst (xs.map V.int)) ∧ N ≠ M ∧ H4 M = some (.lst (ts.map V.ref)) ∧ xs.Perm ns ∧ ts.length = ((ns.take i).filter fun n => !decide (n ∈ A0)).length) ?_ ?_ ?_ ?_
    · exact ⟨N0, xs0, [], none, none, none, none, none, rfl, s23, eN3, nNM, eM3, pm0, rfl⟩
    · rintro i σ H4 _ ⟨N, xs, ts, x4, x5, x6, x7, x8, rfl, s4, _⟩
      exact sqL_keep (s1.trans s4) hl
    · rintro i x σ H4 H5 hi ⟨N, xs, ts, x4, x5, x6, x7, x8, rfl, s4, eN, nN, eM, pm, lt⟩ ⟨T, x, y, rfl, hT, rfl, hx, hy⟩
      cases hx
      replace hy : (ns.map V.int)[i]? = some y := hy
      rw [List.getElem?_map] at hy
      obtain ⟨n, hn, rfl⟩ := Option.map_eq_some_iff.mp hy
      have mn := List.mem_of_getElem? hn
      have hin : i < ns.length := (List.getElem?_eq_some_iff.mp hn).1
      have tT := Same.new (o := .tup [.int (i : Nat), .int n]) hT
      have eN5 := tT _ _ eN
      have eM5 := tT _ _ eM
      have eT5 : (upd H4 T (.tup [.int (i : Nat), .int n])) T = some (.tup [.int (i : Nat), .int n]) := upd_same
      have s5 := s4.trans tT
      generalize upd H4 T (.tup [.int (i : Nat), .int n]) = H5 at eN5 eM5 eT5 s5 ⊢
      refine ⟨T, _, rfl, .of eT5, rfl, _, _, rfl, _, _, rfl, rfl, ?_⟩
      refine ⟨_, rfl, _, rfl, U, _, rfl, .inl (.of (s5 _ _ eU)), rfl, flat_I _, _, rfl, ?_⟩
      rw [show (if true = true then !inV (V.int n) (A0.map V.int) else inV (V.int n) (A0.map V.int)) = !decide (n ∈ A0) by rw [if_pos rfl, inV_I]]
      rw [take_snocA hn, filt_snoc]
      have lti : ts.length ≤ i := by
        rw [lt]
        refine Nat.le_trans (List.length_filter_le _ _) ?_
        rw [List.length_take]
        omega
      by_cases c : n ∈ A0
      · have cb : (!decide (n ∈ A0)) = false := by rw [decide_eq_true c]; rfl
        rw [cb]
        refine iteF ⟨N, xs, ts, _, _, _, _, _, rfl, s5, eN5, nN, eM5, pm, ?_⟩
        rw [if_neg (by decide)]
        exact lt
      have cb : (!decide (n ∈ A0)) = true := by rw [decide_eq_false c]; rfl
      rw [show (!decide (n ∈ A0)) = true from cb]
      refine iteT ?_
      refine ⟨_, rfl, .inl ⟨rfl, _, .of eN5⟩, _, rfl, ?_⟩
      dsimp only [tNil]
      refine rIndex_I (.of eN5) (pm.symm.subset mn) fun j hj => ?_
      have ljx : j < xs.length := (List.getElem?_eq_some_iff.mp hj).1
      have lx := pm.length_eq
      refine ⟨_, rfl, _, rfl, N, _, j, rfl, eN5, by rw [List.length_map]; exact ljx, by rw [List.length_map]; omega, fun O H6 nO s6 eO => ?_⟩
      rw [← delP_map] at eO
      have ld := delP_len ljx
      refine ⟨_, rfl, _, _, rfl, rfl, _, rfl, ?_⟩
      by_cases ci : i = 0
      · subst ci
        refine iteF ?_
        refine ⟨_, rfl, _, rfl, _, rfl, O, _, 0, .int n, rfl, eO, ?_, ?_, fun N2 H7 nN2 s7 eN2 => ?_⟩
        · rw [List.length_map]
          omega
        · rw [List.length_map]
          omega
        rw [← insP_map] at eN2
        have eM7 := s7 _ _ (s6 _ _ eM5)
        refine ⟨_, rfl, .inl ⟨rfl, _, .of eM7⟩, _, rfl, _, rfl, (by show 3 ≤ sizeLine; decide), fun T2 hT2 => ?_⟩
        have s8 := Same.new (o := .tup [.str "move", .int (j : Nat), .int (0 : Nat)]) hT2
        refine ⟨M, _, _, rfl, rfl, s8 _ _ eM7, ?_, ?_⟩
        · rw [List.length_map]
          exact small1000 (by omega)
        have nN2M : N2 ≠ M := fun z => by
          rw [z, s6 _ _ eM5] at nN2
          cases nN2
        refine ⟨N2, insP (delP xs j) 0 n, ts ++ [T2], _, _, _, _, _, rfl, ?_, ?_, nN2M, ?_, ?_, ?_⟩
        · exact fun c o e => (upd_ne (ne_of_none e hM1)).trans (s8 _ _ (s7 _ _ (s6 _ _ (s5 _ _ e))))
        · exact (upd_ne nN2M).trans (s8 _ _ eN2)
        · rw [upd_same, List.map_append]
          rfl
        · exact ((insP_perm _ _ _).trans (delP_perm hj)).trans pm
        · rw [List.length_append, if_pos rfl, List.length_append, lt]
          rfl
      · rw [show decide ((i : Int) > 0) = true from decide_eq_true (by omega)]
        refine iteT ?_
        have hprev : ns[i - 1]? = some ns[i - 1] := List.getElem?_eq_getElem (by omega)
        have mprev : ns[i - 1] ∈ delP xs j := by
          have h1 : ns[i - 1] ∈ n :: delP xs j := ((delP_perm hj).trans pm).symm.subset (List.mem_of_getElem? hprev)
          refine (List.mem_cons.mp h1).resolve_left fun z => ?_
          have := (List.getElem_inj nd (h₀ := by omega) (h₁ := hin)).mp (z.trans ((List.getElem?_eq_some_iff.mp hn).2).symm)
          omega
        refine ⟨_, rfl, .inl ⟨rfl, _, .of eO⟩, _, rfl, _, rfl, _, _, rfl, rfl, l, _, _, V.int ns[i - 1], rfl, rfl, sqL_keep (s1.trans (s5.trans s6)) hl, ?_, ?_⟩
        · rw [show ((i : Int) - 1) = ((i - 1 : Nat) : Int) by omega]
          exact atI_nat (j := i - 1) (by rw [List.getElem?_map, hprev] <;> rfl)
        dsimp only [tNil]
        refine rIndex_I (.of eO) mprev fun k hk => ?_
        have lk : k < (delP xs j).length := (List.getElem?_eq_some_iff.mp hk).1
        refine ⟨_, _, rfl, rfl, ?_⟩
        refine ⟨_, rfl, _, rfl, _, rfl, O, _, (k + 1), .int n, rfl, eO, ?_, ?_, fun N2 H7 nN2 s7 eN2 => ?_⟩
        · rw [List.length_map]
          omega
        · rw [List.length_map]
          omega
        rw [← insP_map] at eN2
        have eM7 := s7 _ _ (s6 _ _ eM5)
        refine ⟨_, rfl, .inl ⟨rfl, _, .of eM7⟩, _, rfl, _, rfl, (by show 3 ≤ sizeLine; decide), fun T2 hT2 => ?_⟩
        have s8 := Same.new (o := .tup [.str "move", .int (j : Nat), .int ((k + 1) : Nat)]) hT2
        refine ⟨M, _, _, rfl, rfl, s8 _ _ eM7, ?_, ?_⟩
        · rw [List.length_map]
          exact small1000 (by omega)
        have nN2M : N2 ≠ M := fun z => by
          rw [z, s6 _ _ eM5] at nN2
          cases nN2
        refine ⟨N2, insP (delP xs j) (k + 1) n, ts ++ [T2], _, _, _, _, _, rfl, ?_, ?_, nN2M, ?_, ?_, ?_⟩
        · exact fun c o e => (upd_ne (ne_of_none e hM1)).trans (s8 _ _ (s7 _ _ (s6 _ _ (s5 _ _ e))))
        · exact (upd_ne nN2M).trans (s8 _ _ eN2)
        · rw [upd_same, List.map_append]
          rfl
        · exact ((insP_perm _ _ _).trans (delP_perm hj)).trans pm
        · rw [List.length_append, if_pos rfl, List.length_append, lt]
          rfl
    · rintro σ H4 ⟨N, xs, ts, x4, x5, x6, x7, x8, rfl, s4, eN, nN, eM, pm, lt⟩
      rw [lz, List.take_length] at lt
      have hb := filt_best nd best.sub
      exact ⟨_, rfl, q M A0 ts H4 hMn (s1.trans s4) eM best (by rw [lt]; exact hb)⟩
end
end G
set_option Elab.async false
set_option linter.all false
set_option maxRecDepth 100000
set_option maxHeartbeats 8000000
/-! CG: steps_to. -/
namespace G
open PySem PySem.Spec PyProof.Rows L2 NdefX StX PySem.W
abbrev sSteps : Stmt := topS 51
abbrev nSteps : List Str := ["before", "after", "kept", "removals", "insertions", "item", "index", "at"]
theorem scSteps : FnScope nSteps ["before", "after"] (defScope sSteps) := ⟨rfl, rfl, rfl, by decide +kernel, rfl, by decide +kernel, by decide +kernel⟩
def intsK (ks : List Key) : List Int := ks.filterMap Sum.getLeft?
def txsK (ks : List Key) : List Str := ks.filterMap Sum.getRight?
/-- what a change states of n rows -/
structure ChOk (n : Nat) (ks : List Key) : Prop where
  n80 : n ≤ 80
  few : ks.length ≤ 80
  nd : ks.Nodup
  lo : ∀ i : Int, Sum.inl i ∈ ks → 0 ≤ i ∧ i < n
  nm : ∀ z : Str, Sum.inr z ∈ ks → NameZ z
theorem keptV : ∀ ks : List Key, (ks.filter Sum.isLeft).map kV = (intsK ks).map V.int
  | [] => rfl
  | .inl i :: ks => by
    show V.int i :: (ks.filter Sum.isLeft).map kV = V.int i :: (intsK ks).map V.int
    rw [keptV ks]
  | .inr z :: ks => keptV ks
theorem newV : ∀ ks : List Key, (ks.filter Sum.isRight).map kV = (txsK ks).map V.str
  | [] => rfl
  | .inr i :: ks => by
    show V.str i :: (ks.filter Sum.isRight).map kV = V.str i :: (txsK ks).map V.str
    rw [newV ks]
  | .inl z :: ks => newV ks
theorem mem_ints {ks : List Key} {i : Int} : i ∈ intsK ks ↔ Sum.inl i ∈ ks := by
  unfold intsK
  rw [List.mem_filterMap]
  constructor
  · rintro ⟨k, hk, e⟩
    cases k with
    | inl j => cases e; exact hk
    | inr z => cases e
  · exact fun h => ⟨_, h, rfl⟩
theorem mem_txs {ks : List Key} {z : Str} : z ∈ txsK ks ↔ Sum.inr z ∈ ks := by
  unfold txsK
  rw [List.mem_filterMap]
  constructor
  · rintro ⟨k, hk, e⟩
    cases k with
    | inr j => cases e; exact hk
    | inl z => cases e
  · exact fun h => ⟨_, h, rfl⟩
theorem ints_nd {ks : List Key} (h : ks.Nodup) : (intsK ks).Nodup := by
  unfold intsK
  refine List.Pairwise.filterMap _ (fun a a' hne b hb b' hb' e => ?_) h
  cases a with
  | inl i => cases a' with
    | inl j =>
      cases hb
      cases hb'
      exact hne (by rw [e])
    | inr z => cases hb'
  | inr z => cases hb
theorem ints_len (ks : List Key) : (intsK ks).length ≤ ks.length := List.length_filterMap_le _ _
theorem ints_txs : ∀ ks : List Key, (intsK ks).length + (txsK ks).length = ks.length
  | [] => rfl
  | .inl i :: ks => by
    have := ints_txs ks
    show (intsK ks).length + 1 + (txsK ks).length = ks.length + 1
    omega
  | .inr i :: ks => by
    have := ints_txs ks
    show (intsK ks).length + ((txsK ks).length + 1) = ks.length + 1
    omega
theorem filt_two {ns A : List Int} (nd : ns.Nodup) (hA : A.Nodup) (h : A ⊆ ns) : (ns.filter fun n => !decide (n ∈ A)).length + A.length = ns.length := by
  have e : (ns.filter fun n => decide (n ∈ A)).Perm A := by
    refine (List.perm_ext_iff_of_nodup (nd.sublist (List.filter_sublist)) hA).mpr fun n => ?_
    rw [List.mem_filter]
    exact ⟨fun z => of_decide_eq_true z.2, fun z => ⟨h z, decide_eq_true z⟩⟩
  rw [← e.length_eq]
  have := List.length_eq_countP_add_countP (fun n => decide (n ∈ A)) (l := ns)
  rw [List.countP_eq_length_filter, List.countP_eq_length_filter] at this
  have e2 : (ns.filter fun n => !decide (n ∈ A)) = ns.filter fun a => decide ¬ (decide (a ∈ A) = true) := by
    congr 1
    funext n
    by_cases c : n ∈ A
    · rw [decide_eq_true c]
      rfl
    · rw [decide_eq_false c]
      rfl
  rw [e2]
  omega
/-- n - 1 .. 0 -/
def revI (n : Nat) : List Int := (List.range n).reverse.map Int.ofNat
theorem revI_len (n : Nat) : (revI n).length = n := by
  unfold revI
  rw [List.length_map, List.length_reverse, List.length_range]
theorem revI_nd (n : Nat) : (revI n).Nodup := by
  unfold revI List.Nodup
  rw [List.pairwise_map, List.pairwise_reverse]
  exact List.nodup_range.imp fun h e => h (Int.ofNat.inj e).symm
theorem revI_at {n i : Nat} (h : i < n) : (revI n)[i]? = some ((n : Int) - 1 - (i : Nat)) := by
  unfold revI
  rw [List.getElem?_map, List.getElem?_reverse (by rw [List.length_range]; exact h), List.length_range, List.getElem?_range (by omega)]
  show some (Int.ofNat (n - 1 - i)) = _
  congr 1
  show ((n - 1 - i : Nat) : Int) = _
  omega
theorem revI_mem {n : Nat} {i : Int} (h0 : 0 ≤ i) (h1 : i < n) : i ∈ revI n := by
  unfold revI
  refine List.mem_map.mpr ⟨i.toNat, ?_, ?_⟩
  · rw [List.mem_reverse, List.mem_range]
    omega
  · show ((i.toNat : Nat) : Int) = i
    omega
def spSteps (K : PySem.W.Frag) : Sp := fun vs H Q _ => ∃ (n : Nat) (l : Addr) (ks : List Key), vs = [.int (n : Nat), .ref l] ∧ SqL K H l (ks.map kV) ∧ ChOk n ks ∧
  ∀ (p : Addr) (A : List Int) (ts : List Addr) (H' : Hp), H p = none → Same H H' → H' p = some (.lst (ts.map V.ref)) → Lis.Best (intsK ks) A → ts.length + A.length = n + (txsK ks).length → ts.length ≤ 320 → Q (.ref p) H'
section
variable {P : Program} {w : World} {K : PySem.W.Frag} {mg : Str → Option Value} {base : Heap} {f : Addr} {fd : FuncData}
theorem ok_steps {fM : Addr} {fdM : FuncData} (F : Fun K "steps_to" "steps_to" sSteps f fd) (GM : FnOk P w K mg base CX0 3 fM fdM ["numbers"] (spMoves K)) (gM : mg "moves_to" = some (.ref fM)) (kM : PySem.W.keepIn K (.ref fM) = true) (bM : Binds K fdM ["numbers"] [])
    (mi : mg "isinstance" = none) (mn : mg "int" = none) (mrv : mg "reversed" = none) (mr : mg "range" = none) (me : mg "enumerate" = none) : FnOk P w K mg base CX0 4 f fd ["before", "after"] (spSteps K) := by
  refine F.ok scSteps (fun vs H Q E h => ?_) (fun cdv A outer s H vs Q E hr h => ?_)
  · obtain ⟨n, l, ks, rfl, _⟩ := h
    rfl
  · obtain ⟨n, l, ks, rfl, hl, ok, q⟩ := h
    refine ⟨_, pss_cons (ps_set (i := 2) scSteps.nd rfl (.inr rfl) (pe_lc (own := [("item", 5)]) (g := gName 5) (tt := tB (tCB (rIsi K) (tCons (tVar 5) (tCons (tC (.ty "int")) tNil)))) (by rfl) scSteps.nd (pi_list (pv 1))
        (blkOk_by (own := [("item", 5)]) (N := nSteps) (sc := defScope sSteps) (by decide +kernel)) (fun _ _ _ _ _ => pg_name (i := 5) scSteps.nd rfl (.inl rfl)) (fun _ _ _ _ _ => pts_one (by exact pt_val (pt_isi "int" (pv 5) (hm := mi) (mn := mn)))) (fun _ _ _ _ _ => pv 5)))
      (pss_cons (ps_setLc (i := 3) (own := [("index", 6)]) (g := gName 6) (by rfl) scSteps.nd rfl rfl (sw_true rfl rfl rfl (by decide +kernel)) (pi_revR (by rfl) mrv (prg_1 (by rfl) mr (pv 0)))
        (blkOk_by (own := [("index", 6)]) (N := nSteps) (sc := defScope sSteps) (by decide +kernel)) (fun _ _ _ _ _ => pg_name (i := 6) scSteps.nd rfl (.inl rfl)) (fun _ _ _ _ _ => pts_one (pt_cmpR (r := rIn K true) op_notIn_seq (pv 6) (pv 2) (by rfl))) (fun _ _ _ _ _ => pe_tup (pa_cons pe_str (pa_cons (pv 6) pa_nil))))
      (pss_cons (ps_setLc (i := 4) (own := [("at", 7), ("item", 5)]) (g := gTup K 2 (gCons (gName 7) (gCons (gName 5) gNil))) (tt := tNot (tB (tCB (rIsi K) (tCons (tVar 5) (tCons (tC (.ty "int")) tNil))))) (by rfl) scSteps.nd rfl rfl (sw_true rfl rfl rfl (by decide +kernel)) (pi_enum (by rfl) me (pa_cons (pv 1) pa_nil))
        (blkOk_by (own := [("at", 7), ("item", 5)]) (N := nSteps) (sc := defScope sSteps) (by decide +kernel)) (fun _ _ _ _ _ => pg_tup (by rfl) (pgs_cons (pg_name (i := 7) scSteps.nd rfl (.inl rfl)) (pgs_cons (pg_name (i := 5) scSteps.nd rfl (.inl rfl)) pgs_nil)))
        (fun _ _ _ _ _ => pts_one (by exact pt_not (pt_val (pt_isi "int" (pv 5) (hm := mi) (mn := mn))))) (fun _ _ _ _ _ => pe_tup (pa_cons pe_str (pa_cons (pv 7) (pa_cons (pv 5) pa_nil)))))
      (pss_one (ps_ret (pe_op op_cat (pe_op op_cat (pv 3) (pe_call GM hr rfl gM kM bM .nil pass0 (pa_cons (pv 2) pa_nil))) (pv 4)))))), ?_⟩
    have few := ok.few
    have n80 := ok.n80
    have lz : (ks.map kV).length = ks.length := List.length_map ..
    refine ⟨_, rfl, l, rfl, ⟨_, hl⟩, fun D hD => ?_⟩
    refine lc_list (xs := ks.map kV) (fun i H3 => Same H H3 ∧ H3 D = some (.lst (((ks.take i).filter Sum.isLeft).map kV))) ?_ ?_ ?_ ?_
    · exact ⟨Same.new hD, upd_same⟩
    · exact fun _ _ _ z => sqL_keep z.1 hl
    · rintro i x H3 hx ⟨s3, e3⟩
      rw [List.getElem?_map] at hx
      obtain ⟨k, hk, rfl⟩ := Option.map_eq_some_iff.mp hx
      refine ⟨rfl, ?_⟩
      rw [take_snocA hk, filt_snoc]
      have small : (((ks.take i).filter Sum.isLeft).map kV).length < sizeLine := by
        have h1 := List.length_filter_le Sum.isLeft (ks.take i)
        rw [List.length_take] at h1
        rw [List.length_map]
        exact small1000 (by omega)
      cases k with
      | inl j =>
        have hR : Rp K H3 (.int j) (.int j) := .int j
        refine ⟨_, rfl, _, _, _, _, _, rfl, .ty _, rp_ty hR, kit_i (.int j), _, rfl, iteT ⟨_, rfl, _, e3, small, fun c o e => (upd_ne (ne_of_none e hD)).trans (s3 _ _ e), ?_⟩⟩
        rw [upd_same, if_pos (show (Sum.inl j : Key).isLeft = true from rfl), List.map_append]
        rfl
      | inr z =>
        have hR : Rp K H3 (.str z) (.str z) := .str z
        exact ⟨_, rfl, _, _, _, _, _, rfl, .ty _, rp_ty hR, kit_i (.str z), _, rfl, iteF ⟨s3, e3⟩⟩
    rintro H1 ⟨s1, e1⟩
    rw [lz, List.take_length, keptV] at e1
    have nI := ints_nd ok.nd
    have lI := ints_len ks
    refine ⟨_, rfl, _, rfl, by decide, by decide, by omega, by omega, fun R hR => ?_⟩
    have hR0 : H R = none := s1.free hR
    rw [show ((n : Int) - 0).toNat = n by omega]
    refine lc_it (walk_rangeC (n := n)) (fun i H3 => Same H1 H3 ∧ ∃ ts : List Addr, H3 R = some (.lst (ts.map V.ref)) ∧ ts.length = (((revI n).take i).filter fun m => !decide (m ∈ intsK ks)).length) ?_ ?_ ?_ ?_
    · exact ⟨Same.new hR, [], upd_same, rfl⟩
    · exact fun _ _ _ _ => trivial
    · rintro i x H3 H4 hi ⟨s3, ts, e3, lt⟩ ⟨rfl, ex⟩
      replace ex : x = V.int (0 + (n : Int) - 1 + (i : Nat) * -1) := ex
      rw [show (0 + (n : Int) - 1 + (i : Nat) * -1) = (n : Int) - 1 - (i : Nat) by omega] at ex
      subst ex
      have hx := revI_at hi
      have lti : ts.length ≤ i := by
        rw [lt]
        refine Nat.le_trans (List.length_filter_le _ _) ?_
        rw [List.length_take]
        omega
      refine ⟨rfl, ?_⟩
      generalize (n : Int) - 1 - (i : Nat) = m at hx
      rw [take_snocA hx, filt_snoc]
      refine ⟨_, rfl, _, rfl, D, _, rfl, .inl (.of (s3 _ _ e1)), rfl, flat_I _, _, rfl, ?_⟩
      rw [show (if true = true then !inV (V.int m) ((intsK ks).map V.int) else inV (V.int m) ((intsK ks).map V.int)) = !decide (m ∈ intsK ks) by rw [if_pos rfl, inV_I]]
      by_cases c : m ∈ intsK ks
      · rw [show (!decide (m ∈ intsK ks)) = false by rw [decide_eq_true c]; rfl]
        refine iteF ⟨s3, ts, e3, ?_⟩
        rw [if_neg (by decide)]
        exact lt
      · rw [show (!decide (m ∈ intsK ks)) = true by rw [decide_eq_false c]; rfl]
        refine iteT ⟨_, rfl, (by show 2 ≤ sizeLine; decide), fun T hT => ⟨_, Same.new hT _ _ e3, ?_, ?_, ts ++ [T], ?_, ?_⟩⟩
        · rw [List.length_map]
          exact small1000 (by omega)
        · exact fun c o e => (upd_ne (ne_of_none e hR)).trans (Same.new hT _ _ (s3 _ _ e))
        · rw [upd_same, List.map_append]
          rfl
        · rw [if_pos rfl, List.length_append, List.length_append, lt]
          rfl
    rintro H2 ⟨s2, tsR, eR, lR⟩
    rw [List.take_of_length_le (by rw [revI_len]; exact Nat.le_refl _)] at lR
    have lRn := filt_two (revI_nd n) nI fun i hi => let ⟨h1, h2⟩ := ok.lo i (mem_ints.mp hi); revI_mem h1 h2
    rw [← lR, revI_len] at lRn
    have eD2 := s2 _ _ e1
    have s12 := s1.trans s2
    refine ⟨_, rfl, l, _, rfl, sqL_keep s12 hl, fun I hI => ?_⟩
    have hI0 : H I = none := s12.free hI
    refine lc_it (walk_enum (xs := ks.map kV)) (fun i H3 => Same H2 H3 ∧ ∃ ts : List Addr, H3 I = some (.lst (ts.map V.ref)) ∧ ts.length = (txsK (ks.take i)).length) ?_ ?_ ?_ ?_
    · exact ⟨Same.new hI, [], upd_same, rfl⟩
    · exact fun _ _ _ z => sqL_keep (s12.trans z.1) hl
    · rintro i x H3 H4 hi ⟨s3, ts, e3, lt⟩ ⟨T, x, y, rfl, hT, rfl, hx, hy⟩
      cases hx
      replace hy : (ks.map kV)[i]? = some y := hy
      rw [List.getElem?_map] at hy
      obtain ⟨k, hk, rfl⟩ := Option.map_eq_some_iff.mp hy
      have lti : ts.length ≤ i := by
        rw [lt]
        have h1 := ints_txs (ks.take i)
        rw [List.length_take] at h1
        omega
      have sT := Same.new (o := .tup [.int (i : Nat), kV k]) hT
      have e4 := sT _ _ e3
      have eT : (upd H3 T (.tup [.int (i : Nat), kV k])) T = some (.tup [.int (i : Nat), kV k]) := upd_same
      have s4 := s3.trans sT
      generalize upd H3 T (.tup [.int (i : Nat), kV k]) = H4 at e4 eT s4 ⊢
      refine ⟨T, _, rfl, .of eT, rfl, _, _, rfl, _, _, rfl, rfl, rfl, ?_⟩
      have tx : txsK (ks.take (i + 1)) = txsK (ks.take i) ++ txsK [k] := by
        unfold txsK
        rw [take_snocA hk, List.filterMap_append]
      rw [tx]
      cases k with
      | inl j =>
        have hR : Rp K H4 (.int j) (.int j) := .int j
        refine ⟨_, rfl, _, _, _, _, _, rfl, .ty _, rp_ty hR, kit_i (.int j), _, rfl, iteF ⟨s4, ts, e4, ?_⟩⟩
        rw [lt, List.length_append]
        rfl
      | inr z =>
        have hR : Rp K H4 (.str z) (.str z) := .str z
        refine ⟨_, rfl, _, _, _, _, _, rfl, .ty _, rp_ty hR, kit_i (.str z), _, rfl, iteT ?_⟩
        refine ⟨_, rfl, _, rfl, (by show 3 ≤ sizeLine; decide), fun T2 hT2 => ⟨_, Same.new hT2 _ _ e4, ?_, ?_, ts ++ [T2], ?_, ?_⟩⟩
        · rw [List.length_map]
          exact small1000 (by omega)
        · exact fun c o e => (upd_ne (ne_of_none e hI)).trans (Same.new hT2 _ _ (s4 _ _ e))
        · rw [upd_same, List.map_append]
          rfl
        · rw [List.length_append, List.length_append, lt]
          rfl
    rintro H3 ⟨s3, tsI, eI, lI2⟩
    rw [lz, List.take_length] at lI2
    refine ⟨_, rfl, _, rfl, D, intsK ks, rfl, .of (s3 _ _ eD2), nI, by omega, fun M A0 tsM H4 nM s4 eM best lM => ?_⟩
    have h1 := ints_txs ks
    refine ⟨R, M, _, _, rfl, rfl, s4 _ _ (s3 _ _ eR), eM, ?_, fun c1 hc1 => ?_⟩
    · rw [List.length_map, List.length_map]
      exact Nat.le_of_lt (small1000 (by omega))
    have sc1 := Same.new (o := .lst (tsR.map V.ref ++ tsM.map V.ref)) hc1
    refine ⟨_, rfl, c1, I, _, _, rfl, rfl, upd_same, sc1 _ _ (s4 _ _ eI), ?_, fun c2 hc2 => ?_⟩
    · rw [List.length_append, List.length_map, List.length_map, List.length_map]
      exact Nat.le_of_lt (small1000 (by omega))
    have sAll := (s12.trans s3).trans (Same.trans (show Same H3 H4 from s4) sc1)
    refine q c2 A0 ((tsR ++ tsM) ++ tsI) _ (sAll.free hc2) (sAll.trans (Same.new hc2)) ?_ best ?_ ?_
    · rw [upd_same, List.map_append, List.map_append]
    · rw [List.length_append, List.length_append]
      omega
    · rw [List.length_append, List.length_append]
      omega
end
end G
set_option Elab.async false
set_option linter.all false
set_option maxRecDepth 100000
set_option maxHeartbeats 8000000
/-! CH: a change's items checked; a change at rest. -/
namespace G
open PySem PySem.Spec PyProof.Rows L2 NdefX StX PySem.W
abbrev sNeedAft : Stmt := topS 55
abbrev nNeedAft : List Str := ["before", "after", "at", "item", "is_possible"]
theorem scNeedAft : FnScope nNeedAft ["before", "after"] (defScope sNeedAft) := ⟨rfl, rfl, rfl, by decide +kernel, rfl, by decide +kernel, by decide +kernel⟩
abbrev sCh (j : Nat) : Stmt := inClass (topS 53) j
/-- either promise -/
def spOr (a b : Sp) : Sp := fun vs H Q E => a vs H Q E ∨ b vs H Q E
theorem fnok_or {P : Program} {w : World} {K : PySem.W.Frag} {mg : Str → Option Value} {base : Heap} {CX : CXT} {k : Nat} {f : Addr} {fd : FuncData} {ps : List Str} {a b : Sp} (F : FnOk P w K mg base CX k f fd ps a) (G : FnOk P w K mg base CX k f fd ps b) :
    FnOk P w K mg base CX k f fd ps (spOr a b) :=
  ⟨fun vs H Q E h => h.elim (F.len vs H Q E) (G.len vs H Q E), fun A outer s H args us vs Q E hr he hb hv hs => hs.elim (F.run A outer s H args us vs Q E hr he hb hv) (G.run A outer s H args us vs Q E hr he hb hv)⟩
def spNeedAft (K : PySem.W.Frag) : Sp := fun vs H Q _ => ∃ (n : Nat) (l : Addr) (ks : List Key), vs = [.int (n : Nat), .ref l] ∧ SqL K H l (ks.map kV) ∧ ChOk n ks ∧ ∀ H', Same H H' → Q .non H'
theorem cutK_take (ks : List Key) (i : Nat) : cutV (ks.map kV) none (some (i : Int)) = (ks.take i).map kV := by
  rw [cutV_take, List.map_take]
theorem nd_take {α : Type} {ks : List α} (nd : ks.Nodup) {i : Nat} {k : α} (h : ks[i]? = some k) : k ∉ ks.take i := fun z => by
  obtain ⟨j, hj, e⟩ := List.mem_iff_getElem.mp z
  rw [List.length_take] at hj
  rw [List.getElem_take] at e
  have := (List.getElem_inj nd).mp (e.trans (List.getElem?_eq_some_iff.mp h).2.symm)
  omega
section
variable {P : Program} {w : World} {K : PySem.W.Frag} {mg : Str → Option Value} {base : Heap} {f : Addr} {fd : FuncData}
theorem ok_needaft {fL fI fR : Addr} {fdL fdI fdR : FuncData} {t1 : Tok} (F : Fun K "need_after" "need_after" sNeedAft f fd) (GL : FnOk P w K mg base CX0 1 fL fdL ["value", "most"] (spIsList K)) (gL : mg "is_list" = some (.ref fL)) (kL : PySem.W.keepIn K (.ref fL) = true) (bL : Binds K fdL ["value", "most"] [])
    (GI : FnOk P w K mg base CX0 1 fI fdI ["value", "low", "high"] (spOr spIsInt spIsIntS)) (gI : mg "is_integer" = some (.ref fI)) (kI : PySem.W.keepIn K (.ref fI) = true) (bI : Binds K fdI ["value", "low", "high"] [])
    (GR : FnOk P w K mg base CX0 2 fR fdR ["value"] spIsName) (gR : mg "is_row" = some (.ref fR)) (kR : PySem.W.keepIn K (.ref fR) = true) (bR : Binds K fdR ["value"] []) (gM : mg "MOST_ROWS" = some (.int 80 t1)) (me : mg "enumerate" = none) :
    FnOk P w K mg base CX0 3 f fd ["before", "after"] (spNeedAft K) := by
  refine F.ok scNeedAft (fun vs H Q E h => ?_) (fun cdv A outer s H vs Q E hr h => ?_)
  · obtain ⟨n, l, ks, rfl, _⟩ := h
    rfl
  · obtain ⟨n, l, ks, rfl, hl, ok, q⟩ := h
    have hr1 := hr.mono (show 1 ≤ 2 by decide)
    refine ⟨_, pss_cons (ps_if (pt_not (pt_val (pe_call GL hr1 rfl gL kL bL .nil pass0 (pa_cons (pv 1) (pa_cons (pe_glob (v := .int 80) rfl gM ⟨_, rfl⟩) pa_nil))))) (pss_one ps_never) pss_nil)
      (pss_one (ps_for PassesOwn.never rfl (pi_enum (by rfl) me (pa_cons (pv 1) pa_nil)) (pg_tup rfl (pgs_cons (pg_name (i := 2) scNeedAft.nd rfl (.inl rfl)) (pgs_cons (pg_name (i := 3) scNeedAft.nd rfl (.inl rfl)) pgs_nil)))
        (pss_cons (ps_set (i := 4) scNeedAft.nd rfl (.inl rfl) (pe_or (pe_call GI hr1 rfl gI kI bI .nil pass0 (pa_cons (pv 3) (pa_cons pe_int (pa_cons (pe_op op_sub (pv 0) pe_int) pa_nil)))) (pe_one (pe_call GR hr rfl gR kR bR .nil pass0 (pa_cons (pv 3) pa_nil)))))
        (pss_one (ps_if (PW.pt (pw_or (pt_not (pt_val (pv 4))) (pw_or1 (pt_cmpR op_in_seq (pv 3) (pe_slice (r := rSlL K) sl_list (pv 1) po_none (po_some (pv 2))) (by rfl))))) (pss_one ps_never) pss_nil))))), ?_⟩
    have few := ok.few
    have n80 := ok.n80
    have lz : (ks.map kV).length = ks.length := List.length_map ..
    refine ⟨_, rfl, l, 80, _, rfl, .inl hl, by rw [lz]; exact few, fun H1 s1 => ⟨_, rfl, iteF ?_⟩⟩
    refine ⟨_, rfl, l, _, rfl, sqL_keep s1 hl, ?_⟩
    refine for_it (walk_enum (xs := ks.map kV)) (fun i σ H2 => Same H H2 ∧ ∃ x2 x3 x4 : Option V, σ = [some (.int (n : Nat)), some (.ref l), x2, x3, x4]) ?_ ?_ ?_ ?_
    · exact ⟨s1, none, none, none, rfl⟩
    · rintro i σ H2 _ ⟨s2, _⟩
      exact sqL_keep s2 hl
    · rintro i x σ H2 H3 hi ⟨s2, x2, x3, x4, rfl⟩ ⟨T, x, y, rfl, hT, rfl, hx, hy⟩
      cases hx
      replace hy : (ks.map kV)[i]? = some y := hy
      rw [List.getElem?_map] at hy
      obtain ⟨k, hk, rfl⟩ := Option.map_eq_some_iff.mp hy
      have mk := List.mem_of_getElem? hk
      have sT := s2.trans (Same.new (o := .tup [.int (i : Nat), kV k]) hT)
      have eT : (upd H2 T (.tup [.int (i : Nat), kV k])) T = some (.tup [.int (i : Nat), kV k]) := upd_same
      generalize upd H2 T (.tup [.int (i : Nat), kV k]) = H3 at eT sT ⊢
      refine ⟨T, _, rfl, .of eT, rfl, _, _, rfl, _, _, rfl, rfl, ?_⟩
      have no := inV_out (nd_take ok.nd hk)
      cases k with
      | inl j =>
        obtain ⟨h0, h1⟩ := ok.lo j mk
        refine ⟨_, rfl, _, rfl, _, _, rfl, rfl, .inl ⟨j, 0, _, rfl, _, rfl, ?_⟩⟩
        rw [show (decide (0 ≤ j) && decide (j ≤ (n : Int) - 1)) = true by rw [decide_eq_true h0, decide_eq_true (by omega)]; rfl]
        refine iteT ?_
        refine ⟨_, rfl, _, rfl, iteF ?_⟩
        refine ⟨_, rfl, _, rfl, _, rfl, _, rfl, l, _, rfl, sqL_keep sT hl, fun p hp => ?_⟩
        rw [cutK_take]
        refine ⟨p, _, rfl, .inl (.of upd_same), rfl, flat_K _, _, rfl, ?_⟩
        rw [show (if false = true then !inV (kV (.inl j)) ((ks.take i).map kV) else inV (kV (.inl j)) ((ks.take i).map kV)) = false from no]
        exact iteF ⟨sT.trans (Same.new hp), _, _, _, rfl⟩
      | inr z =>
        refine ⟨_, rfl, _, rfl, _, _, rfl, rfl, .inr ⟨z, _, _, rfl, _, rfl, iteF ?_⟩⟩
        refine ⟨_, rfl, z, rfl, ok.nm z mk, fun H4 s4 => ?_⟩
        have s5 := sT.trans s4
        refine ⟨_, rfl, _, rfl, iteF ?_⟩
        refine ⟨_, rfl, _, rfl, _, rfl, _, rfl, l, _, rfl, sqL_keep s5 hl, fun p hp => ?_⟩
        rw [cutK_take]
        refine ⟨p, _, rfl, .inl (.of upd_same), rfl, flat_K _, _, rfl, ?_⟩
        rw [show (if false = true then !inV (kV (.inr z)) ((ks.take i).map kV) else inV (kV (.inr z)) ((ks.take i).map kV)) = false from no]
        exact iteF ⟨s5.trans (Same.new hp), _, _, _, rfl⟩
    · rintro σ H2 ⟨s2, x2, x3, x4, rfl⟩
      exact q H2 s2
end
end G
set_option Elab.async false
set_option linter.all false
set_option maxRecDepth 100000
set_option maxHeartbeats 8000000
/-! CI: a change made. -/
namespace G
open PySem PySem.Spec PyProof.Rows L2 NdefX StX PySem.W
abbrev nChI : List Str := ["self", "before", "after", "item"]
theorem scChI : FnScope nChI ["self", "before", "after"] (defScope (sCh 0)) := ⟨rfl, rfl, rfl, by decide +kernel, rfl, by decide +kernel, by decide +kernel⟩
/-- the class -/
structure ChC (K : PySem.W.Frag) (C : Addr) : Prop where
  cl : Cls K C
  n1 : NoAttr K C "old_count"
  n2 : NoAttr K C "new_items"
  n3 : NoAttr K C "kept_indices"
  n4 : NoAttr K C "new_rows"
  n5 : NoAttr K C "fewest_steps"
/-- at a stands Change(n, ks), whose steps are k -/
def ChAt (K : PySem.W.Frag) (C : Addr) (H : Hp) (a : Addr) (n : Nat) (ks : List Key) (k : Nat) : Prop := ∃ (dx T l r st : Addr) (ts : List Addr), H a = some (.ins C dx [("old_count", .int (n : Nat)), ("new_items", .ref T), ("kept_indices", .ref l), ("new_rows", .ref r), ("fewest_steps", .ref st)]) ∧
  H T = some (.tup (ks.map kV)) ∧ H l = some (.lst ((intsK ks).map V.int)) ∧ H r = some (.lst ((txsK ks).map V.str)) ∧ H st = some (.lst (ts.map V.ref)) ∧ ts.length = k ∧ k ≤ 320
theorem ChAt.same {K : PySem.W.Frag} {C : Addr} {H H' : Hp} {a : Addr} {n : Nat} {ks : List Key} {k : Nat} (h : ChAt K C H a n ks k) (s : Same H H') : ChAt K C H' a n ks k :=
  let ⟨dx, T, l, r, st, ts, e1, e2, e3, e4, e5, e6, e7⟩ := h
  ⟨dx, T, l, r, st, ts, s _ _ e1, s _ _ e2, s _ _ e3, s _ _ e4, s _ _ e5, e6, e7⟩
/-- its parts stand at such addresses -/
def ChN (K : PySem.W.Frag) (C : Addr) (N : Addr → Prop) (H : Hp) (a : Addr) (n : Nat) (ks : List Key) (k : Nat) : Prop := ∃ (dx T l r st : Addr) (ts : List Addr), H a = some (.ins C dx [("old_count", .int (n : Nat)), ("new_items", .ref T), ("kept_indices", .ref l), ("new_rows", .ref r), ("fewest_steps", .ref st)]) ∧
  H T = some (.tup (ks.map kV)) ∧ H l = some (.lst ((intsK ks).map V.int)) ∧ H r = some (.lst ((txsK ks).map V.str)) ∧ H st = some (.lst (ts.map V.ref)) ∧ ts.length = k ∧ k ≤ 320 ∧ N T ∧ N l ∧ N r ∧ N st
theorem ChN.at {K : PySem.W.Frag} {C : Addr} {N : Addr → Prop} {H : Hp} {a : Addr} {n : Nat} {ks : List Key} {k : Nat} (h : ChN K C N H a n ks k) : ChAt K C H a n ks k :=
  let ⟨dx, T, l, r, st, ts, e1, e2, e3, e4, e5, e6, e7, _⟩ := h
  ⟨dx, T, l, r, st, ts, e1, e2, e3, e4, e5, e6, e7⟩
theorem ChN.imp {K : PySem.W.Frag} {C : Addr} {N N' : Addr → Prop} {H : Hp} {a : Addr} {n : Nat} {ks : List Key} {k : Nat} (h : ChN K C N H a n ks k) (f : ∀ x, N x → N' x) : ChN K C N' H a n ks k :=
  let ⟨dx, T, l, r, st, ts, e1, e2, e3, e4, e5, e6, e7, n1, n2, n3, n4⟩ := h
  ⟨dx, T, l, r, st, ts, e1, e2, e3, e4, e5, e6, e7, f _ n1, f _ n2, f _ n3, f _ n4⟩
theorem ChN.same {K : PySem.W.Frag} {C : Addr} {N : Addr → Prop} {H H' : Hp} {a : Addr} {n : Nat} {ks : List Key} {k : Nat} (h : ChN K C N H a n ks k) (s : Same H H') : ChN K C N H' a n ks k :=
  let ⟨dx, T, l, r, st, ts, e1, e2, e3, e4, e5, e6, e7, n_⟩ := h
  ⟨dx, T, l, r, st, ts, s _ _ e1, s _ _ e2, s _ _ e3, s _ _ e4, s _ _ e5, e6, e7, n_⟩
theorem ChN.but {K : PySem.W.Frag} {C b : Addr} {H H' : Hp} {a : Addr} {n m : Nat} {ks : List Key} {k : Nat} (h : ChN K C (fun x => x ≠ b) H a n ks k) (B : BoxAt H b m) (s : But b H H') : ChN K C (fun x => x ≠ b) H' a n ks k := by
  obtain ⟨dx, T, l, r, st, ts, e1, e2, e3, e4, e5, e6, e7, n1, n2, n3, n4⟩ := h
  obtain ⟨_, _, _, eb, _⟩ := B
  exact ⟨dx, T, l, r, st, ts, s _ _ (fun z => by rw [z, eb] at e1; cases e1) e1, s _ _ n1 e2, s _ _ n2 e3, s _ _ n3 e4, s _ _ n4 e5, e6, e7, n1, n2, n3, n4⟩
def spChI (K : PySem.W.Frag) (C : Addr) : Sp := fun vs H Q _ => ∃ (a dx l : Addr) (n : Nat) (ks : List Key), vs = [.ref a, .int (n : Nat), .ref l] ∧ H a = some (.ins C dx []) ∧ H l = some (.lst (ks.map kV)) ∧ ChOk n ks ∧
  ∀ (H' : Hp) (A : List Int) (k : Nat), But a H H' → ChN K C (fun x => H x = none) H' a n ks k → Lis.Best (intsK ks) A → k + A.length = n + (txsK ks).length → Q .non H'
section
variable {P : Program} {w : World} {K : PySem.W.Frag} {mg : Str → Option Value} {base : Heap} {f C : Addr} {fd : FuncData}
theorem ok_chinit {fN fA fS : Addr} {fdN fdA fdS : FuncData} {t1 : Tok} (F : Fun K "__init__" "Change.__init__" (sCh 0) f fd) (c : ChC K C) (GN : FnOk P w K mg base CX0 2 fN fdN ["value", "low", "high"] spNeedInt) (gN : mg "need_integer" = some (.ref fN)) (kN : PySem.W.keepIn K (.ref fN) = true) (bN : Binds K fdN ["value", "low", "high"] [])
    (GA : FnOk P w K mg base CX0 3 fA fdA ["before", "after"] (spNeedAft K)) (gA : mg "need_after" = some (.ref fA)) (kA : PySem.W.keepIn K (.ref fA) = true) (bA : Binds K fdA ["before", "after"] [])
    (GS : FnOk P w K mg base CX0 4 fS fdS ["before", "after"] (spSteps K)) (gS : mg "steps_to" = some (.ref fS)) (kS : PySem.W.keepIn K (.ref fS) = true) (bS : Binds K fdS ["before", "after"] []) (gM : mg "MOST_ROWS" = some (.int 80 t1))
    (mt : mg "tuple" = none) (mi : mg "isinstance" = none) (mn : mg "int" = none) : FnOk P w K mg base CX0 5 f fd ["self", "before", "after"] (spChI K C) := by
  refine F.ok scChI (fun vs H Q E h => ?_) (fun cdv A outer s H vs Q E hr h => ?_)
  · obtain ⟨a, dx, l, n, ks, rfl, _⟩ := h
    rfl
  · obtain ⟨a, dx, l, n, ks, rfl, ha, hl, ok, q⟩ := h
    have hr2 := hr.mono (show 2 ≤ 4 by decide)
    have hr3 := hr.mono (show 3 ≤ 4 by decide)
    refine ⟨_, pss_cons (ps_expr (pe_call GN hr2 rfl gN kN bN .nil pass0 (pa_cons (pv 1) (pa_cons pe_int (pa_cons (pe_glob (v := .int 80) rfl gM ⟨_, rfl⟩) pa_nil)))))
      (pss_cons (ps_expr (pe_call GA hr3 rfl gA kA bA .nil pass0 (pa_cons (pv 1) (pa_cons (pv 2) pa_nil))))
      (pss_cons (ps_fld (pv 0) (pv 1) rfl)
      (pss_cons (ps_fld (pv 0) (pe_callTy call_tuple_of (by rfl) mt (by decide +kernel) (pa_cons (pv 2) pa_nil)) rfl)
      (pss_cons (ps_fld (pv 0) (pe_lc (own := [("item", 3)]) (g := gName 3) (tt := tB (tCB (rIsi K) (tCons (tVar 3) (tCons (tC (.ty "int")) tNil)))) (by rfl) scChI.nd (pi_list (pv 2))
        (blkOk_by (own := [("item", 3)]) (N := nChI) (sc := defScope (sCh 0)) (by decide +kernel)) (fun _ _ _ _ _ => pg_name (i := 3) scChI.nd rfl (.inl rfl)) (fun _ _ _ _ _ => pts_one (by exact pt_val (pt_isi "int" (pv 3) (hm := mi) (mn := mn)))) (fun _ _ _ _ _ => pv 3)) rfl)
      (pss_cons (ps_fld (pv 0) (pe_lc (own := [("item", 3)]) (g := gName 3) (tt := tNot (tB (tCB (rIsi K) (tCons (tVar 3) (tCons (tC (.ty "int")) tNil))))) (by rfl) scChI.nd (pi_list (pv 2))
        (blkOk_by (own := [("item", 3)]) (N := nChI) (sc := defScope (sCh 0)) (by decide +kernel)) (fun _ _ _ _ _ => pg_name (i := 3) scChI.nd rfl (.inl rfl)) (fun _ _ _ _ _ => pts_one (by exact pt_not (pt_val (pt_isi "int" (pv 3) (hm := mi) (mn := mn))))) (fun _ _ _ _ _ => pv 3)) rfl)
      (pss_one (ps_fld (pv 0) (pe_call GS hr rfl gS kS bS .nil pass0 (pa_cons (pv 1) (pa_cons (pv 2) pa_nil))) rfl))))))), ?_⟩
    have few := ok.few
    have n80 := ok.n80
    have lz : (ks.map kV).length = ks.length := List.length_map ..
    have nla : l ≠ a := ne_of hl ha (fun z => nomatch z)
    refine ⟨_, rfl, (n : Int), 0, 80, rfl, by omega, by omega, ?_⟩
    refine ⟨_, rfl, _, rfl, n, l, ks, rfl, .of hl, ok, fun H1 s1 => ?_⟩
    have ea1 := s1 _ _ ha
    have el1 := s1 _ _ hl
    refine ⟨_, rfl, _, rfl, a, C, dx, _, rfl, ea1, c.cl, c.n1, (by show 0 < 1000; decide), ?_⟩
    have ea2 : (upd H1 a (.ins C dx [("old_count", .int (n : Nat))])) a = some (.ins C dx [("old_count", .int (n : Nat))]) := upd_same
    have el2 : (upd H1 a (.ins C dx [("old_count", .int (n : Nat))])) l = some (.lst (ks.map kV)) := (upd_ne nla).trans el1
    have kk2 : But a H (upd H1 a (.ins C dx [("old_count", .int (n : Nat))])) := (But.same s1).trans But.upd
    rw [show putF (Str.ofString "old_count") (V.int (n : Nat)) [] = ([(Str.ofString "old_count", V.int (n : Nat))] : List (Str × V)) from rfl]
    generalize upd H1 a (.ins C dx [("old_count", .int (n : Nat))]) = H2 at ea2 el2 kk2 ⊢
    refine ⟨_, rfl, l, _, rfl, .inl ⟨.of el2, fun T hT => ?_⟩⟩
    have sT := Same.new (o := .tup (ks.map kV)) hT
    have nTa : T ≠ a := (ne_of_none ea2 hT).symm
    have fT0 : H T = none := free_but kk2 nTa hT
    refine ⟨_, rfl, a, C, dx, _, rfl, sT _ _ ea2, c.cl, c.n2, (by show 1 < 1000; decide), ?_⟩
    rw [show putF (Str.ofString "new_items") (V.ref T) [(Str.ofString "old_count", V.int (n : Nat))] = ([(Str.ofString "old_count", V.int (n : Nat)), (Str.ofString "new_items", V.ref T)] : List (Str × V)) from rfl]
    have ea4 : (upd (upd H2 T (.tup (ks.map kV))) a (.ins C dx [("old_count", .int (n : Nat)), ("new_items", .ref T)])) a = some (.ins C dx [("old_count", .int (n : Nat)), ("new_items", .ref T)]) := upd_same
    have el4 : (upd (upd H2 T (.tup (ks.map kV))) a (.ins C dx [("old_count", .int (n : Nat)), ("new_items", .ref T)])) l = some (.lst (ks.map kV)) := (upd_ne nla).trans (sT _ _ el2)
    have eT4 : (upd (upd H2 T (.tup (ks.map kV))) a (.ins C dx [("old_count", .int (n : Nat)), ("new_items", .ref T)])) T = some (.tup (ks.map kV)) := (upd_ne nTa).trans upd_same
    have kk4 : But a H (upd (upd H2 T (.tup (ks.map kV))) a (.ins C dx [("old_count", .int (n : Nat)), ("new_items", .ref T)])) := (kk2.trans (.same sT)).trans But.upd
    generalize upd (upd H2 T (.tup (ks.map kV))) a (.ins C dx [("old_count", .int (n : Nat)), ("new_items", .ref T)]) = H4 at ea4 el4 eT4 kk4 ⊢
    refine ⟨_, rfl, l, rfl, ⟨_, .of el4⟩, fun D1 hD1 => ?_⟩
    have nD1 : D1 ≠ a := (ne_of_none ea4 hD1).symm
    refine lc_list (xs := ks.map kV) (fun i H' => Same H4 H' ∧ H' D1 = some (.lst (((ks.take i).filter Sum.isLeft).map kV))) ?_ ?_ ?_ ?_
    · exact ⟨Same.new hD1, upd_same⟩
    · exact fun _ _ _ z => .of (z.1 _ _ el4)
    · rintro i x H' hx ⟨s3, e3⟩
      rw [List.getElem?_map] at hx
      obtain ⟨k, hk, rfl⟩ := Option.map_eq_some_iff.mp hx
      refine ⟨rfl, ?_⟩
      rw [take_snocA hk, filt_snoc]
      have small : (((ks.take i).filter Sum.isLeft).map kV).length < sizeLine := by
        have h1 := List.length_filter_le Sum.isLeft (ks.take i)
        rw [List.length_take] at h1
        rw [List.length_map]
        exact small1000 (by omega)
      cases k with
      | inl j =>
        have hR : Rp K H' (.int j) (.int j) := .int j
        refine ⟨_, rfl, _, _, _, _, _, rfl, .ty _, rp_ty hR, kit_i (.int j), _, rfl, iteT ⟨_, rfl, _, e3, small, fun c o e => (upd_ne (ne_of_none e hD1)).trans (s3 _ _ e), ?_⟩⟩
        rw [upd_same, if_pos (show (Sum.inl j : Key).isLeft = true from rfl), List.map_append]
        rfl
      | inr z =>
        have hR : Rp K H' (.str z) (.str z) := .str z
        exact ⟨_, rfl, _, _, _, _, _, rfl, .ty _, rp_ty hR, kit_i (.str z), _, rfl, iteF ⟨s3, e3⟩⟩
    rintro H5 ⟨s5, e5⟩
    rw [lz, List.take_length, keptV] at e5
    refine ⟨_, rfl, a, C, dx, _, rfl, s5 _ _ ea4, c.cl, c.n3, (by show 2 < 1000; decide), ?_⟩
    rw [show putF (Str.ofString "kept_indices") (V.ref D1) [(Str.ofString "old_count", V.int (n : Nat)), (Str.ofString "new_items", V.ref T)] = ([(Str.ofString "old_count", V.int (n : Nat)), (Str.ofString "new_items", V.ref T), (Str.ofString "kept_indices", V.ref D1)] : List (Str × V)) from rfl]
    have ea6 : (upd H5 a (.ins C dx [("old_count", .int (n : Nat)), ("new_items", .ref T), ("kept_indices", .ref D1)])) a = some (.ins C dx [("old_count", .int (n : Nat)), ("new_items", .ref T), ("kept_indices", .ref D1)]) := upd_same
    have old6 : ∀ p o, p ≠ a → H5 p = some o → (upd H5 a (.ins C dx [("old_count", .int (n : Nat)), ("new_items", .ref T), ("kept_indices", .ref D1)])) p = some o := fun p o ne e => (upd_ne ne).trans e
    have kk6 : But a H (upd H5 a (.ins C dx [("old_count", .int (n : Nat)), ("new_items", .ref T), ("kept_indices", .ref D1)])) := (kk4.trans (.same s5)).trans But.upd
    generalize upd H5 a (.ins C dx [("old_count", .int (n : Nat)), ("new_items", .ref T), ("kept_indices", .ref D1)]) = H6 at ea6 old6 kk6 ⊢
    have el6 := old6 _ _ nla (s5 _ _ el4)
    have eT6 := old6 _ _ nTa (s5 _ _ eT4)
    have eD6 := old6 _ _ nD1 e5
    refine ⟨_, rfl, l, rfl, ⟨_, .of el6⟩, fun D2 hD2 => ?_⟩
    have nD2 : D2 ≠ a := (ne_of_none ea6 hD2).symm
    refine lc_list (xs := ks.map kV) (fun i H' => Same H6 H' ∧ H' D2 = some (.lst (((ks.take i).filter Sum.isRight).map kV))) ?_ ?_ ?_ ?_
    · exact ⟨Same.new hD2, upd_same⟩
    · exact fun _ _ _ z => .of (z.1 _ _ el6)
    · rintro i x H' hx ⟨s3, e3⟩
      rw [List.getElem?_map] at hx
      obtain ⟨k, hk, rfl⟩ := Option.map_eq_some_iff.mp hx
      refine ⟨rfl, ?_⟩
      rw [take_snocA hk, filt_snoc]
      have small : (((ks.take i).filter Sum.isRight).map kV).length < sizeLine := by
        have h1 := List.length_filter_le Sum.isRight (ks.take i)
        rw [List.length_take] at h1
        rw [List.length_map]
        exact small1000 (by omega)
      cases k with
      | inl j =>
        have hR : Rp K H' (.int j) (.int j) := .int j
        exact ⟨_, rfl, _, _, _, _, _, rfl, .ty _, rp_ty hR, kit_i (.int j), _, rfl, iteF ⟨s3, e3⟩⟩
      | inr z =>
        have hR : Rp K H' (.str z) (.str z) := .str z
        refine ⟨_, rfl, _, _, _, _, _, rfl, .ty _, rp_ty hR, kit_i (.str z), _, rfl, iteT ⟨_, rfl, _, e3, small, fun c o e => (upd_ne (ne_of_none e hD2)).trans (s3 _ _ e), ?_⟩⟩
        rw [upd_same, if_pos (show (Sum.inr z : Key).isRight = true from rfl), List.map_append]
        rfl
    rintro H7 ⟨s7, e7⟩
    rw [lz, List.take_length, newV] at e7
    refine ⟨_, rfl, a, C, dx, _, rfl, s7 _ _ ea6, c.cl, c.n4, (by show 3 < 1000; decide), ?_⟩
    rw [show putF (Str.ofString "new_rows") (V.ref D2) [(Str.ofString "old_count", V.int (n : Nat)), (Str.ofString "new_items", V.ref T), (Str.ofString "kept_indices", V.ref D1)] = ([(Str.ofString "old_count", V.int (n : Nat)), (Str.ofString "new_items", V.ref T), (Str.ofString "kept_indices", V.ref D1), (Str.ofString "new_rows", V.ref D2)] : List (Str × V)) from rfl]
    have ea8 : (upd H7 a (.ins C dx [("old_count", .int (n : Nat)), ("new_items", .ref T), ("kept_indices", .ref D1), ("new_rows", .ref D2)])) a = some (.ins C dx [("old_count", .int (n : Nat)), ("new_items", .ref T), ("kept_indices", .ref D1), ("new_rows", .ref D2)]) := upd_same
    have old8 : ∀ p o, p ≠ a → H7 p = some o → (upd H7 a (.ins C dx [("old_count", .int (n : Nat)), ("new_items", .ref T), ("kept_indices", .ref D1), ("new_rows", .ref D2)])) p = some o := fun p o ne e => (upd_ne ne).trans e
    have kk8 : But a H (upd H7 a (.ins C dx [("old_count", .int (n : Nat)), ("new_items", .ref T), ("kept_indices", .ref D1), ("new_rows", .ref D2)])) := (kk6.trans (.same s7)).trans But.upd
    generalize upd H7 a (.ins C dx [("old_count", .int (n : Nat)), ("new_items", .ref T), ("kept_indices", .ref D1), ("new_rows", .ref D2)]) = H8 at ea8 old8 kk8 ⊢
    have el8 := old8 _ _ nla (s7 _ _ el6)
    have eT8 := old8 _ _ nTa (s7 _ _ eT6)
    have eD8 := old8 _ _ nD1 (s7 _ _ eD6)
    have eE8 := old8 _ _ nD2 e7
    refine ⟨_, rfl, _, rfl, n, l, ks, rfl, .of el8, ok, fun S A0 ts H9 hS s9 eS best lS few2 => ?_⟩
    have s9' : Same H8 H9 := s9
    have nSa : S ≠ a := (ne_of_none ea8 hS).symm
    refine ⟨_, rfl, a, C, dx, _, rfl, s9 _ _ ea8, c.cl, c.n5, (by show 4 < 1000; decide), ?_⟩
    refine q _ A0 ts.length ((kk8.trans (.same s9')).trans But.upd) ?_ best lS
    exact ⟨dx, T, D1, D2, S, ts, upd_same, (upd_ne nTa).trans (s9 _ _ eT8), (upd_ne nD1).trans (s9 _ _ eD8), (upd_ne nD2).trans (s9 _ _ eE8), (upd_ne nSa).trans eS, rfl, few2, fT0, free_but kk4 nD1 hD1, free_but kk6 nD2 hD2, free_but kk8 nSa hS⟩
end
end G
set_option Elab.async false
set_option linter.all false
set_option maxRecDepth 100000
set_option maxHeartbeats 8000000
/-! CJ: taken_over. -/
namespace G
open PySem PySem.Spec PyProof.Rows L2 NdefX StX PySem.W
abbrev sTaken : Stmt := topS 56
abbrev nTaken : List Str := ["items", "change", "staying", "row", "index", "item"]
theorem scTaken : FnScope nTaken ["items", "change"] (defScope sTaken) := ⟨rfl, rfl, rfl, by decide +kernel, rfl, by decide +kernel, by decide +kernel⟩
/-- what becomes of an item -/
def via (xs : List Key) : Key → Key
  | .inl i => xs.getD i.toNat (.inl 0)
  | .inr z => .inr z
def appl (xs ks : List Key) : List Key := ks.map (via xs)
def stK (xs ks : List Key) : List Key := (intsK ks).map fun i => via xs (.inl i)
theorem via_at {xs : List Key} {i : Int} (h0 : 0 ≤ i) (h1 : i < xs.length) : xs[i.toNat]? = some (via xs (.inl i)) := by
  show xs[i.toNat]? = some (xs.getD i.toNat (.inl 0))
  rw [List.getD_eq_getElem?_getD, List.getElem?_eq_getElem (by omega)]
  rfl
def spTaken (K : PySem.W.Frag) (C : Addr) : Sp := fun vs H Q _ => ∃ (it c : Addr) (xs ks : List Key) (n k : Nat), vs = [.ref it, .ref c] ∧ SqLT K H it (xs.map kV) ∧ ChAt K C H c n ks k ∧ ChOk n ks ∧ xs.length = n ∧ (∀ z : Str, Sum.inr z ∈ ks → Sum.inr z ∉ stK xs ks) ∧
  ∀ (p : Addr) (H' : Hp), H p = none → Same H H' → H' p = some (.lst ((appl xs ks).map kV)) → Q (.ref p) H'
theorem ix_at {K : PySem.W.Frag} {H : Hp} {it : Addr} {xs : List Key} {i : Int} {Q : VK} (h : SqLT K H it (xs.map kV)) (h0 : 0 ≤ i) (h1 : i < xs.length) (q : Q (kV (via xs (.inl i))) H) : rIx K (.ref it) (.int i) H Q := by
  have e : (xs.map kV)[i.toNat]? = some (kV (via xs (.inl i))) := by
    rw [List.getElem?_map, via_at h0 h1]
    rfl
  have ea := atI_nat (j := i.toNat) e
  rw [show ((i.toNat : Nat) : Int) = i by omega] at ea
  rcases h with h | h
  · exact .inl ⟨it, _, _, _, rfl, rfl, h, ea, q⟩
  · exact .inr (.inl ⟨it, _, _, _, rfl, rfl, h, ea, q⟩)
theorem stK_out {xs ks : List Key} : ∀ i, i ∈ intsK ks → via xs (.inl i) ∈ stK xs ks := fun i h => List.mem_map_of_mem h
section
variable {P : Program} {w : World} {K : PySem.W.Frag} {mg : Str → Option Value} {base : Heap} {f C : Addr} {fd : FuncData}
theorem ok_taken (F : Fun K "taken_over" "taken_over" sTaken f fd) (c : ChC K C) (mi : mg "isinstance" = none) (mn : mg "int" = none) : FnOk P w K mg base CX0 1 f fd ["items", "change"] (spTaken K C) := by
  refine F.ok scTaken (fun vs H Q E h => ?_) (fun cdv A outer s H vs Q E hr h => ?_)
  · obtain ⟨it, c, xs, ks, n, k, rfl, _⟩ := h
    rfl
  · obtain ⟨it, a, xs, ks, n, k, rfl, hit, hc, ok, lx, no, q⟩ := h
    obtain ⟨dx, T, l, r, st, tst, ea, eT, el, er, _⟩ := id hc
    have few := ok.few
    have n80 := ok.n80
    refine ⟨_, pss_cons (ps_setLc (i := 2) (own := [("index", 4)]) (g := gName 4) (tt := tYes) (by rfl) scTaken.nd rfl rfl (sw_true rfl rfl rfl (by decide +kernel)) (pi_list (pe_fld (pv 1) rfl))
        (blkOk_by (own := [("index", 4)]) (N := nTaken) (sc := defScope sTaken) (by decide +kernel)) (fun _ _ _ _ _ => pg_name (i := 4) scTaken.nd rfl (.inl rfl)) (fun _ _ _ _ _ => pts_nil) (fun _ _ _ _ _ => pe_ix (r := rIx K) ix_seq (pv 0) (pv 4) (fun _ _ => rfl)))
      (pss_cons (ps_for PassesOwn.never rfl (pi_list (pe_fld (pv 1) rfl)) (pg_name (i := 3) scTaken.nd rfl (.inl rfl))
        (pss_one (ps_if (pt_cmpR op_in_seq (pv 3) (pv 2) (by rfl)) (pss_one ps_never) pss_nil)))
      (pss_one (ps_ret (pe_lc (own := [("item", 5)]) (g := gName 5) (tt := tYes) (te := tIf (tB (tCB (rIsi K) (tCons (tVar 5) (tCons (tC (.ty "int")) tNil)))) (tOp (rIx K) (tVar 0) (tVar 5)) (tVar 5)) (by rfl) scTaken.nd (pi_tup (pe_fld (pv 1) rfl))
        (blkOk_by (own := [("item", 5)]) (N := nTaken) (sc := defScope sTaken) (by decide +kernel)) (fun _ _ _ _ _ => pg_name (i := 5) scTaken.nd rfl (.inl rfl)) (fun _ _ _ _ _ => pts_nil)
        (fun _ _ _ _ _ => by exact pe_ifExp (pt_val (pt_isi "int" (pv 5) (hm := mi) (mn := mn))) (pe_ix ix_seq (pv 0) (pv 5) (fun _ _ => rfl)) (pv 5)))))), ?_⟩
    refine ⟨_, rfl, a, C, dx, _, _, rfl, ea, c.cl, c.n3, rfl, l, rfl, ⟨_, .of el⟩, fun D hD => ?_⟩
    refine lc_list (xs := (intsK ks).map V.int) (fun i H3 => Same H H3 ∧ H3 D = some (.lst ((((intsK ks).take i).map fun j => via xs (.inl j)).map kV))) ?_ ?_ ?_ ?_
    · exact ⟨Same.new hD, upd_same⟩
    · exact fun _ _ _ z => .of (z.1 _ _ el)
    · rintro i x H3 hx ⟨s3, e3⟩
      rw [List.getElem?_map] at hx
      obtain ⟨j, hj, rfl⟩ := Option.map_eq_some_iff.mp hx
      obtain ⟨h0, h1⟩ := ok.lo j (mem_ints.mp (List.mem_of_getElem? hj))
      refine ⟨rfl, ?_⟩
      unfold tYes
      dsimp only
      rw [if_pos rfl]
      refine ⟨_, rfl, _, rfl, ix_at (hit.keep s3) h0 (by omega) ⟨_, e3, ?_, ?_, ?_⟩⟩
      · have := ints_len ks
        rw [List.length_map, List.length_map, List.length_take]
        exact small1000 (by omega)
      · exact fun c o e => (upd_ne (ne_of_none e hD)).trans (s3 _ _ e)
      · rw [upd_same, take_snocA hj, List.map_append, List.map_append]
        rfl
    rintro H1 ⟨s1, e1⟩
    rw [List.length_map, List.take_length] at e1
    replace e1 : H1 D = some (.lst ((stK xs ks).map kV)) := e1
    refine ⟨_, rfl, a, C, dx, _, _, rfl, s1 _ _ ea, c.cl, c.n4, rfl, r, rfl, ⟨_, .of (s1 _ _ er)⟩, ?_⟩
    refine for_list (xs := (txsK ks).map V.str) (fun i σ H2 => H2 = H1 ∧ ∃ x3 : Option V, σ = [some (.ref it), some (.ref a), some (.ref D), x3, none, none]) ?_ ?_ ?_ ?_
    · exact ⟨rfl, none, rfl⟩
    · rintro i σ H2 _ ⟨rfl, _⟩
      exact .of (s1 _ _ er)
    · rintro i x σ H2 hx ⟨rfl, x3, rfl⟩
      rw [List.getElem?_map] at hx
      obtain ⟨z, hz, rfl⟩ := Option.map_eq_some_iff.mp hx
      refine ⟨_, rfl, _, rfl, D, _, rfl, .inl (.of e1), rfl, flat_K _, _, rfl, ?_⟩
      have out := inV_out (no z (mem_txs.mp (List.mem_of_getElem? hz)))
      rw [show (if false = true then !inV (V.str z) ((stK xs ks).map kV) else inV (V.str z) ((stK xs ks).map kV)) = false from out]
      exact iteF ⟨rfl, _, rfl⟩
    rintro σ H2 ⟨rfl, x3, rfl⟩
    refine ⟨_, rfl, a, C, dx, _, _, rfl, s1 _ _ ea, c.cl, c.n2, rfl, T, rfl, ⟨_, .of (s1 _ _ eT)⟩, fun B hB => ?_⟩
    refine lc_it (walk_tup (xs := ks.map kV)) (fun i H3 => Same H2 H3 ∧ H3 B = some (.lst ((appl xs (ks.take i)).map kV))) ?_ ?_ ?_ ?_
    · exact ⟨Same.new hB, upd_same⟩
    · exact fun _ _ _ z => .of (z.1 _ _ (s1 _ _ eT))
    · rintro i x H3 H4 hi ⟨s3, e3⟩ ⟨rfl, hx⟩
      rw [List.getElem?_map] at hx
      obtain ⟨y, hy, rfl⟩ := Option.map_eq_some_iff.mp hx
      have my := List.mem_of_getElem? hy
      have ap : appl xs (ks.take (i + 1)) = appl xs (ks.take i) ++ [via xs y] := by
        unfold appl
        rw [take_snocA hy, List.map_append]
        rfl
      rw [ap]
      have small : ((appl xs (ks.take i)).map kV).length < sizeLine := by
        unfold appl
        rw [List.length_map, List.length_map, List.length_take]
        exact small1000 (by omega)
      have fin : ∃ acc, H4 B = some (.lst acc) ∧ acc.length < sizeLine ∧ (Same H2 (upd H4 B (.lst (acc ++ [kV (via xs y)]))) ∧ (upd H4 B (.lst (acc ++ [kV (via xs y)]))) B = some (.lst ((appl xs (ks.take i) ++ [via xs y]).map kV))) :=
        ⟨_, e3, small, fun c o e => (upd_ne (ne_of_none e hB)).trans (s3 _ _ e), by rw [upd_same, List.map_append] <;> rfl⟩
      refine ⟨rfl, ?_⟩
      unfold tYes
      dsimp only
      rw [if_pos rfl]
      cases y with
      | inl j =>
        obtain ⟨h0, h1⟩ := ok.lo j my
        have hR : Rp K H4 (.int j) (.int j) := .int j
        refine ⟨_, rfl, _, _, _, _, _, rfl, .ty _, rp_ty hR, kit_i (.int j), _, rfl, iteT ?_⟩
        exact ⟨_, rfl, _, rfl, ix_at (hit.keep (s1.trans s3)) h0 (by omega) fin⟩
      | inr z =>
        have hR : Rp K H4 (.str z) (.str z) := .str z
        refine ⟨_, rfl, _, _, _, _, _, rfl, .ty _, rp_ty hR, kit_i (.str z), _, rfl, iteF ?_⟩
        exact ⟨_, rfl, fin⟩
    · rintro H3 ⟨s3, e3⟩
      rw [List.length_map, List.take_length] at e3
      exact q B H3 (s1.free hB) (s1.trans s3) e3
end
end G
set_option Elab.async false
set_option linter.all false
set_option maxRecDepth 100000
set_option maxHeartbeats 4000000
/-! BO: bool(o) by an own __bool__. -/
namespace G
open PySem PySem.Spec PyProof.Rows L2
section
variable {prog : Program} {w : World}
theorem new_boolX (x : Value) : MeetsIn prog w (Builtin.«bool.__new__» ⟨[.type "bool", x], []⟩)
    (fun A R s => wpAny (model prog w) A.in1 (truthy x) (fun b s1 => R (.ok (.ret (.bool b))) s1) (fun e s1 => R (.error e) s1) s) :=
  .of_wp fun A R s h => by
    obtain ⟨hp, g, d, tk, os⟩ := s
    have f1 := F.conv_sub_bool
    repeat (any_goals (first | assumption | (with_reducible refine wpAny_mono h (fun b s1 hb => ?_) (fun _ _ z => z)) | wp_step))
    all_goals first | exact ⟨_, rfl, hb⟩ | skip
end
section
variable {X : Cx} {C g : Addr} {fd : FuncData} {ps : List Str} {n : Nat} {sp : Sp}
def rBoolO (C : Addr) (sp : Sp) : List V → Hp → VK → Prop := fun xs H Q => ∃ a dx fs, xs = [V.ref a] ∧ H a = some (.ins C dx fs) ∧ sp [.ref a] H (fun z H' => ∃ b : Bool, z = .bl b ∧ Q z H') E0
theorem call_boolO (m : OwnM X.K C "__bool__" g) (hb : Binds X.K fd ps []) (Fn : FnOk X.prog X.w X.K X.mg X.base CX0 n g fd ps sp) (hr : Room (n + 2) X.A) : CallR X (.type "bool") (rBoolO C sp) := by
  intro pins s σ H xs us Q I r h
  obtain ⟨a, dx, fs, rfl, ha, q⟩ := h
  obtain ⟨u, rfl, ru⟩ := r.one
  cases (show u = Value.ref a from ru)
  obtain ⟨ox, od, J⟩ := insX_at I ha
  obtain ⟨mm, hF⟩ := I.fr
  have hr2 : Room n X.A.in1.in1 := hr.in1.in1
  refine callType_newIn F.called_bool F.newNe_bool (F.typeCall_bool_1 _) (F.newCall_bool_1 _) (fun obj => F.args_object_init_2 obj _) F.entry_bool_new (new_boolX (.ref a)) ?_
  show wpAny (model X.prog X.w) X.A.in1.in1 (truthy (.ref a)) _ _ s
  refine PySem.W.truthy_K hF I.ok.mod.kin J m.at_ m.fn ?_
  have hl : ([Value.ref a] ++ []).length = ps.length := by
    have := Fn.len _ _ _ _ q
    exact this
  refine wpAny_call (codeAny_mono (Fn.run X.A.in1.in1 X.stack s H ⟨[Value.ref a], []⟩ ([Value.ref a] ++ []) [V.ref a] _ E0 hr2 I.env0.in1.in1 (hb s [Value.ref a] I.kIn hl) (show Vals [V.ref a] [Value.ref a] from .cons rfl .nil) q) fun r s' hq => ?_)
  cases r with
  | error e => exact False.elim hq
  | ok fl =>
    cases fl with
    | ret u =>
      obtain ⟨v, H', I2, rv, b, rfl, q⟩ := I.after hq
      obtain rfl : u = Value.bool b := rv
      show _ ∧ _
      exact ⟨rfl, .bl b, H', I2, rfl, q⟩
    | next => exact False.elim hq
    | brk => exact False.elim hq
    | cont => exact False.elim hq
end
end G
set_option Elab.async false
set_option linter.all false
set_option maxRecDepth 100000
set_option maxHeartbeats 8000000
/-! CK: a change called, joined, asked. -/
namespace G
open PySem PySem.Spec PyProof.Rows L2 NdefX StX PySem.W
abbrev sNeedCh : Stmt := topS 54
theorem scNeedCh : FnScope ["value"] ["value"] (defScope sNeedCh) := ⟨rfl, rfl, rfl, by decide +kernel, rfl, by decide +kernel, by decide +kernel⟩
theorem scChB : FnScope ["self"] ["self"] (defScope (sCh 1)) := ⟨rfl, rfl, rfl, by decide +kernel, rfl, by decide +kernel, by decide +kernel⟩
theorem scChC : FnScope ["self", "rows"] ["self", "rows"] (defScope (sCh 8)) := ⟨rfl, rfl, rfl, by decide +kernel, rfl, by decide +kernel, by decide +kernel⟩
theorem scChR : FnScope ["self", "rows"] ["self", "rows"] (defScope (sCh 9)) := ⟨rfl, rfl, rfl, by decide +kernel, rfl, by decide +kernel, by decide +kernel⟩
theorem scChA : FnScope ["self", "other"] ["self", "other"] (defScope (sCh 10)) := ⟨rfl, rfl, rfl, by decide +kernel, rfl, by decide +kernel, by decide +kernel⟩
theorem scChO : FnScope ["self"] ["self"] (defScope (sCh 12)) := ⟨rfl, rfl, rfl, by decide +kernel, rfl, by decide +kernel, by decide +kernel⟩
theorem scChN : FnScope ["self"] ["self"] (defScope (sCh 13)) := ⟨rfl, rfl, rfl, by decide +kernel, rfl, by decide +kernel, by decide +kernel⟩
def IsRec (C : Addr) (H : Hp) (v : V) : Prop := ∃ a dx fs, v = .ref a ∧ H a = some (.ins C dx fs)
def spNeedRecs (C : Addr) : Sp := fun vs H Q _ => ∃ v, vs = [v] ∧ IsRec C H v ∧ Q .non H
def spChB (K : PySem.W.Frag) (C : Addr) : Sp := fun vs H Q _ => ∃ (a : Addr) (n : Nat) (ks : List Key) (k : Nat), vs = [.ref a] ∧ ChAt K C H a n ks k ∧ Q (.int (n : Nat)) H
def spChO (K : PySem.W.Frag) (C : Addr) : Sp := fun vs H Q _ => ∃ (a : Addr) (n : Nat) (ks : List Key) (k : Nat), vs = [.ref a] ∧ ChAt K C H a n ks k ∧ Q (.bl (decide (0 < k))) H
def spChN (K : PySem.W.Frag) (C : Addr) : Sp := fun vs H Q _ => ∃ (a : Addr) (n : Nat) (ks : List Key) (k : Nat), vs = [.ref a] ∧ ChAt K C H a n ks k ∧ Q (.int (k : Nat)) H
def spChR (K : PySem.W.Frag) (C : Addr) : Sp := fun vs H Q _ => ∃ (a l : Addr) (zs : List Str) (ks : List Key) (k : Nat), vs = [.ref a, .ref l] ∧ SqL K H l (zs.map V.str) ∧ NmOk zs ∧ ChAt K C H a zs.length ks k ∧ ChOk zs.length ks ∧ (∀ z : Str, Sum.inr z ∈ ks → Sum.inr z ∉ stK (txK zs) ks) ∧
  ∀ (p : Addr) (H' : Hp), H p = none → Same H H' → H' p = some (.lst ((appl (txK zs) ks).map kV)) → Q (.ref p) H'
def spChA (K : PySem.W.Frag) (C : Addr) : Sp := fun vs H Q _ => ∃ (a b : Addr) (n : Nat) (xs ks : List Key) (j k : Nat), vs = [.ref a, .ref b] ∧ ChAt K C H a n xs j ∧ ChAt K C H b xs.length ks k ∧ ChOk xs.length ks ∧ (∀ z : Str, Sum.inr z ∈ ks → Sum.inr z ∉ stK xs ks) ∧ ChOk n (appl xs ks) ∧
  ∀ (p : Addr) (H' : Hp) (i : Nat), H p = none → Same H H' → ChN K C (fun x => H x = none) H' p n (appl xs ks) i → Q (.ref p) H'
/-- where changes are made -/
structure MkC (P : Program) (w : World) (K : PySem.W.Frag) (mg : Str → Option Value) (base : Heap) (C fI : Addr) (fdI : FuncData) : Prop where
  M : Mk K C fI
  b : Binds K fdI ["self", "before", "after"] []
  G : FnOk P w K mg base CX0 5 fI fdI ["self", "before", "after"] (spChI K C)
  g : mg "Change" = some (.ref C)
theorem ch_made {K : PySem.W.Frag} {C : Addr} {H1 : Hp} {R : Addr → Hp → Prop} {E : XK} {l : Addr} {n : Nat} {ks : List Key} (hl : H1 l = some (.lst (ks.map kV))) (ok : ChOk n ks) (q : ∀ (a : Addr) (H' : Hp) (A : List Int) (k : Nat), H1 a = none → Same H1 H' → ChN K C (fun x => H1 x = none) H' a n ks k → Lis.Best (intsK ks) A → k + A.length = n + (txsK ks).length → R a H') :
    ∀ x dx, H1 x = Option.none → H1 dx = Option.none → dx ≠ x → spChI K C [.ref x, .int (n : Nat), .ref l] (upd (upd H1 dx (.own x)) x (.ins C dx [])) (fun v H2 => v = .non ∧ R x H2) E := by
  intro x dx hx hdx hne
  have s1 : Same H1 (upd (upd H1 dx (.own x)) x (.ins C dx [])) := fun c o e => (upd_ne (ne_of_none e hx)).trans ((upd_ne (ne_of_none e hdx)).trans e)
  exact ⟨x, dx, l, n, ks, rfl, upd_same, s1 _ _ hl, ok, fun H' A k kk ca best e => ⟨rfl, q x H' A k hx (fun c o e => kk c o (ne_of_none e hx) (s1 _ _ e)) (ca.imp fun x hx => s1.free hx) best e⟩⟩
section
variable {P : Program} {w : World} {K : PySem.W.Frag} {mg : Str → Option Value} {base : Heap} {f C : Addr} {fd : FuncData}
theorem ok_needch (F : Fun K "need_change" "need_change" sNeedCh f fd) (cl : Cls K C) (k : RcK K C) (gC : mg "Change" = some (.ref C)) (mi : mg "isinstance" = none) : FnOk P w K mg base CX0 1 f fd ["value"] (spNeedRecs C) := by
  refine F.ok scNeedCh (fun vs H Q E h => ?_) (fun cdv A outer s H vs Q E hr h => ?_)
  · obtain ⟨v, rfl, _⟩ := h
    rfl
  · obtain ⟨v, rfl, ⟨a, dx, fs, rfl, ha⟩, q⟩ := h
    refine ⟨_, pss_one (ps_if (pt_not (pt_val (pe_callB call_isi (by rfl) mi (by decide +kernel) (pa_cons (pv 0) (pa_cons (pe_glob (v := .ref C) rfl gC rfl) pa_nil))))) (pss_one ps_never) pss_nil), ?_⟩
    exact ⟨_, rfl, _, _, _, _, _, rfl, .own C, .base (.ins ha cl k.ha k.hn k.htk k.hm), k.kit, _, rfl, iteF q⟩
theorem ok_chb (F : Fun K "before" "Change.before" (sCh 1) f fd) (c : ChC K C) : FnOk P w K mg base CX0 1 f fd ["self"] (spChB K C) := by
  refine F.ok scChB (fun vs H Q E h => ?_) (fun cdv A outer s H vs Q E hr h => ?_)
  · obtain ⟨a, n, ks, k, rfl, _⟩ := h
    rfl
  · obtain ⟨a, n, ks, k, rfl, ⟨dx, T, l, r, st, tst, ea, eT, el, er, es, ls, l3⟩, q⟩ := h
    refine ⟨_, pss_one (ps_ret (pe_fld (pv 0) rfl)), ?_⟩
    exact ⟨_, rfl, a, C, dx, _, _, rfl, ea, c.cl, c.n1, rfl, q⟩
theorem ok_chn (F : Fun K "__len__" "Change.__len__" (sCh 13) f fd) (c : ChC K C) (ml : mg "len" = none) : FnOk P w K mg base CX0 1 f fd ["self"] (spChN K C) := by
  refine F.ok scChN (fun vs H Q E h => ?_) (fun cdv A outer s H vs Q E hr h => ?_)
  · obtain ⟨a, n, ks, k, rfl, _⟩ := h
    rfl
  · obtain ⟨a, n, ks, k, rfl, ⟨dx, T, l, r, st, tst, ea, eT, el, er, es, ls, l3⟩, q⟩ := h
    refine ⟨_, pss_one (ps_ret (pe_callB call_len_seq (by rfl) ml PySem.boot_len (pa_cons (pe_fld (pv 0) rfl) pa_nil))), ?_⟩
    refine ⟨_, rfl, a, C, dx, _, _, rfl, ea, c.cl, c.n5, rfl, st, _, rfl, .inl (.of es), ?_⟩
    rw [List.length_map, ls]
    exact q
theorem ok_cho (F : Fun K "__bool__" "Change.__bool__" (sCh 12) f fd) (c : ChC K C) (mb : mg "bool" = none) : FnOk P w K mg base CX0 1 f fd ["self"] (spChO K C) := by
  refine F.ok scChO (fun vs H Q E h => ?_) (fun cdv A outer s H vs Q E hr h => ?_)
  · obtain ⟨a, n, ks, k, rfl, _⟩ := h
    rfl
  · obtain ⟨a, n, ks, k, rfl, ⟨dx, T, l, r, st, tst, ea, eT, el, er, es, ls, l3⟩, q⟩ := h
    refine ⟨_, pss_one (ps_ret (pe_callTy call_boolL (by rfl) mb (by decide +kernel) (pa_cons (pe_fld (pv 0) rfl) pa_nil))), ?_⟩
    refine ⟨_, rfl, a, C, dx, _, _, rfl, ea, c.cl, c.n5, rfl, st, _, rfl, .of es, ?_⟩
    rw [show (!(tst.map V.ref).isEmpty) = decide (0 < k) by rw [← ls]; cases tst <;> rfl]
    exact q
theorem ok_chr {fN fT : Addr} {fdN fdT : FuncData} (F : Fun K "rows_after" "Change.rows_after" (sCh 9) f fd) (c : ChC K C) (GN : FnOk P w K mg base CX0 4 fN fdN ["value"] (spNeedRows K)) (gN : mg "need_rows" = some (.ref fN)) (kN : PySem.W.keepIn K (.ref fN) = true) (bN : Binds K fdN ["value"] [])
    (GT : FnOk P w K mg base CX0 1 fT fdT ["items", "change"] (spTaken K C)) (gT : mg "taken_over" = some (.ref fT)) (kT : PySem.W.keepIn K (.ref fT) = true) (bT : Binds K fdT ["items", "change"] []) (ml : mg "len" = none) : FnOk P w K mg base CX0 5 f fd ["self", "rows"] (spChR K C) := by
  refine F.ok scChR (fun vs H Q E h => ?_) (fun cdv A outer s H vs Q E hr h => ?_)
  · obtain ⟨a, l, zs, ks, k, rfl, _⟩ := h
    rfl
  · obtain ⟨a, l, zs, ks, k, rfl, hl, nm, hc, ok, no, q⟩ := h
    have hr1 := hr.mono (show 1 ≤ 4 by decide)
    refine ⟨_, pss_cons (ps_expr (pe_call GN hr rfl gN kN bN .nil pass0 (pa_cons (pv 1) pa_nil)))
      (pss_cons (ps_if (pt_cmpR op_ne (pe_callB call_len_seq (by rfl) ml PySem.boot_len (pa_cons (pv 1) pa_nil)) (pe_fld (pv 0) rfl) (nomark _)) (pss_one ps_never) pss_nil)
      (pss_one (ps_ret (pe_call GT hr1 rfl gT kT bT .nil pass0 (pa_cons (pv 1) (pa_cons (pv 0) pa_nil)))))), ?_⟩
    refine ⟨_, rfl, l, zs, rfl, hl, nm, fun H1 s1 => ?_⟩
    have hc1 := hc.same s1
    obtain ⟨dx, T, l2, r, st, tst, ea, _⟩ := id hc1
    have hl1 := sqL_keep s1 hl
    refine ⟨_, rfl, l, _, rfl, .inl hl1, _, rfl, a, C, dx, _, _, rfl, ea, c.cl, c.n1, rfl, rfl, _, rfl, ?_⟩
    refine ne_ifI (by rw [List.length_map]) ?_
    refine ⟨_, rfl, _, rfl, l, a, txK zs, ks, zs.length, k, rfl, .inl (by rw [txK_V]; exact hl1), hc1, ok, by unfold txK; rw [List.length_map], no, fun p H' hp s2 e2 => ?_⟩
    exact q p H' (s1.free hp) (s1.trans s2) e2
theorem ok_chc {fR : Addr} {fdR : FuncData} (F : Fun K "__call__" "Change.__call__" (sCh 8) f fd) (c : ChC K C) (mR : Meth K C "rows_after" fR) (bR : Binds K fdR ["self", "rows"] []) (GR : FnOk P w K mg base CX0 5 fR fdR ["self", "rows"] (spChR K C)) : FnOk P w K mg base CX0 6 f fd ["self", "rows"] (spChR K C) := by
  refine F.ok scChC (fun vs H Q E h => ?_) (fun cdv A outer s H vs Q E hr h => ?_)
  · obtain ⟨a, l, zs, ks, k, rfl, _⟩ := h
    rfl
  · obtain ⟨a, l, zs, ks, k, rfl, hl, nm, hc, ok, no, q⟩ := h
    obtain ⟨dx, T, l2, r, st, tst, ea, _⟩ := id hc
    refine ⟨_, pss_one (ps_ret (pe_meth (pv 0) c.cl mR GR hr bR .nil pass0 (pa_cons (pv 1) pa_nil))), ?_⟩
    exact ⟨_, rfl, a, dx, _, rfl, ea, rfl, _, rfl, a, l, zs, ks, k, rfl, hl, nm, hc, ok, no, q⟩
theorem ok_cha {fN fT fI : Addr} {fdN fdT fdI : FuncData} (F : Fun K "__add__" "Change.__add__" (sCh 10) f fd) (c : ChC K C) (R : MkC P w K mg base C fI fdI) (GN : FnOk P w K mg base CX0 1 fN fdN ["value"] (spNeedRecs C)) (gN : mg "need_change" = some (.ref fN)) (kN : PySem.W.keepIn K (.ref fN) = true) (bN : Binds K fdN ["value"] [])
    (GT : FnOk P w K mg base CX0 1 fT fdT ["items", "change"] (spTaken K C)) (gT : mg "taken_over" = some (.ref fT)) (kT : PySem.W.keepIn K (.ref fT) = true) (bT : Binds K fdT ["items", "change"] []) (ml : mg "len" = none) : FnOk P w K mg base CX0 7 f fd ["self", "other"] (spChA K C) := by
  refine F.ok scChA (fun vs H Q E h => ?_) (fun cdv A outer s H vs Q E hr h => ?_)
  · obtain ⟨a, b, n, xs, ks, j, k, rfl, _⟩ := h
    rfl
  · obtain ⟨a, b, n, xs, ks, j, k, rfl, ha, hb, ok, no, ok2, q⟩ := h
    have hr1 := hr.mono (show 1 ≤ 6 by decide)
    have hr6 := hr.mono (show 5 + 1 ≤ 6 by decide)
    obtain ⟨dx, T, l2, r, st, tst, ea, eT, _⟩ := id ha
    obtain ⟨dy, T2, l3, r2, st2, tst2, eb, _⟩ := id hb
    refine ⟨_, pss_cons (ps_expr (pe_call GN hr1 rfl gN kN bN .nil pass0 (pa_cons (pv 1) pa_nil)))
      (pss_cons (ps_if (pt_cmpR op_ne (pe_fld (pv 1) rfl) (pe_callB call_len_seq (by rfl) ml PySem.boot_len (pa_cons (pe_fld (pv 0) rfl) pa_nil)) (nomark _)) (pss_one ps_never) pss_nil)
      (pss_one (ps_ret (pe_make R.M R.G hr6 rfl R.g R.b .nil pass0 (pa_cons (pe_fld (pv 0) rfl) (pa_cons (pe_call GT hr1 rfl gT kT bT .nil pass0 (pa_cons (pe_fld (pv 0) rfl) (pa_cons (pv 1) pa_nil))) pa_nil)))))), ?_⟩
    refine ⟨_, rfl, _, rfl, ⟨b, dy, _, rfl, eb⟩, ?_⟩
    refine ⟨_, rfl, b, C, dy, _, _, rfl, eb, c.cl, c.n1, rfl, _, rfl, a, C, dx, _, _, rfl, ea, c.cl, c.n2, rfl, T, _, rfl, .inr (.of eT), rfl, _, rfl, ?_⟩
    refine ne_ifI (by rw [List.length_map]) ?_
    refine ⟨_, rfl, a, C, dx, _, _, rfl, ea, c.cl, c.n1, rfl, _, rfl, a, C, dx, _, _, rfl, ea, c.cl, c.n2, rfl, _, rfl, T, b, xs, ks, xs.length, k, rfl, .inr (.of eT), hb, ok, rfl, no, fun p H1 hp s1 e1 => ?_⟩
    exact ch_made (R := fun x H' => Q (.ref x) H') e1 ok2 fun x H2 A i hx s2 cx _ _ => q x H2 i (s1.free hx) (s1.trans s2) (cx.imp fun x hx => s1.free hx)
end
end G
set_option Elab.async false
set_option linter.all false
set_option maxRecDepth 100000
set_option maxHeartbeats 8000000
/-! CL: Change.same, Change.between. -/
namespace G
open PySem PySem.Spec PyProof.Rows L2 NdefX StX PySem.W
theorem scChS : FnScope ["count"] ["count"] (defScope (sCh 16)) := ⟨rfl, rfl, rfl, by decide +kernel, rfl, by decide +kernel, by decide +kernel⟩
abbrev nChW : List Str := ["old", "new", "places", "row", "at"]
theorem scChW : FnScope nChW ["old", "new"] (defScope (sCh 17)) := ⟨rfl, rfl, rfl, by decide +kernel, rfl, by decide +kernel, by decide +kernel⟩
def idK (n : Nat) : List Key := (List.range n).map fun i : Nat => (Sum.inl (Int.ofNat i) : Key)
def idxN (old : List Str) (z : Str) : Nat := old.findIdx fun y => decide (y = z)
def keyOf (old : List Str) (z : Str) : Key := if z ∈ old then .inl (idxN old z : Nat) else .inr z
def btw (old new : List Str) : List Key := new.map (keyOf old)
theorem idxN_at {old : List Str} {z : Str} (h : z ∈ old) : old[idxN old z]? = some z := by
  have hx : idxN old z < old.length := List.findIdx_lt_length_of_exists ⟨z, h, decide_eq_true rfl⟩
  have := List.findIdx_getElem (w := hx)
  rw [List.getElem?_eq_getElem hx]
  exact congrArg some (of_decide_eq_true this)
theorem idxN_of {old : List Str} (nd : old.Nodup) {i : Nat} {z : Str} (h : old[i]? = some z) : idxN old z = i := by
  obtain ⟨h1, h2⟩ := List.getElem?_eq_some_iff.mp h
  obtain ⟨h3, h4⟩ := List.getElem?_eq_some_iff.mp (idxN_at (List.mem_of_getElem? h))
  exact (List.getElem_inj nd).mp (h4.trans h2.symm)
theorem keyOf_in {old : List Str} {z : Str} (h : z ∈ old) : keyOf old z = .inl (idxN old z : Nat) := if_pos h
theorem keyOf_out {old : List Str} {z : Str} (h : z ∉ old) : keyOf old z = .inr z := if_neg h
theorem keyOf_inj {old : List Str} {y z : Str} (h : keyOf old y = keyOf old z) : y = z := by
  by_cases hy : y ∈ old
  · by_cases hz : z ∈ old
    · rw [keyOf_in hy, keyOf_in hz] at h
      have h1 : idxN old y = idxN old z := Int.ofNat.inj (Sum.inl.inj h)
      have h2 := idxN_at hy
      rw [h1, idxN_at hz] at h2
      exact (Option.some.inj h2).symm
    · rw [keyOf_in hy, keyOf_out hz] at h
      cases h
  · by_cases hz : z ∈ old
    · rw [keyOf_out hy, keyOf_in hz] at h
      cases h
    · rw [keyOf_out hy, keyOf_out hz] at h
      exact Sum.inr.inj h
theorem btw_ok {old new : List Str} (ho : NmOk old) (hn : NmOk new) : ChOk old.length (btw old new) where
  n80 := ho.few
  few := by
    unfold btw
    rw [List.length_map]
    exact hn.few
  nd := by
    unfold btw List.Nodup
    rw [List.pairwise_map]
    exact hn.nd.imp fun h e => h (keyOf_inj e)
  lo := fun i h => by
    obtain ⟨z, hz, e⟩ := List.mem_map.mp h
    by_cases c : z ∈ old
    · rw [keyOf_in c] at e
      obtain rfl := Sum.inl.inj e
      have := (List.getElem?_eq_some_iff.mp (idxN_at c)).1
      omega
    · rw [keyOf_out c] at e
      cases e
  nm := fun y h => by
    obtain ⟨z, hz, e⟩ := List.mem_map.mp h
    by_cases c : z ∈ old
    · rw [keyOf_in c] at e
      cases e
    · rw [keyOf_out c] at e
      obtain rfl := Sum.inr.inj e
      exact hn.nm _ hz
theorem idK_at {n i : Nat} (h : i < n) : (idK n)[i]? = some (.inl (i : Int)) := by
  unfold idK
  rw [List.getElem?_map, List.getElem?_range h]
  rfl
theorem idK_len (n : Nat) : (idK n).length = n := by
  unfold idK
  rw [List.length_map, List.length_range]
theorem idK_ok {n : Nat} (h : n ≤ 80) : ChOk n (idK n) where
  n80 := h
  few := by rw [idK_len]; exact h
  nd := by
    unfold idK List.Nodup
    rw [List.pairwise_map]
    exact List.nodup_range.imp fun h e => h (Int.ofNat.inj (Sum.inl.inj e))
  lo := fun i h => by
    obtain ⟨j, hj, e⟩ := List.mem_map.mp h
    obtain rfl := Sum.inl.inj e
    have := List.mem_range.mp hj
    show 0 ≤ ((j : Nat) : Int) ∧ ((j : Nat) : Int) < (n : Int)
    omega
  nm := fun z h => by
    obtain ⟨j, hj, e⟩ := List.mem_map.mp h
    cases e
theorem idK_rg (n : Nat) : rgV 0 (n : Nat) = (idK n).map kV := by
  unfold rgV idK
  rw [List.map_map, show ((n : Int) - 0).toNat = n by omega]
  refine List.map_congr_left fun i _ => ?_
  show V.int (0 + (i : Int)) = V.int (i : Int)
  rw [Int.zero_add]
def spSame (K : PySem.W.Frag) (C : Addr) : Sp := fun vs H Q _ => ∃ n : Nat, vs = [.int (n : Nat)] ∧ n ≤ 80 ∧ ∀ (p : Addr) (H' : Hp) (k : Nat), H p = none → Same H H' → ChN K C (fun x => H x = none) H' p n (idK n) k → Q (.ref p) H'
def spBtw (K : PySem.W.Frag) (C : Addr) : Sp := fun vs H Q _ => ∃ (lo ln : Addr) (old new : List Str), vs = [.ref lo, .ref ln] ∧ SqL K H lo (old.map V.str) ∧ SqL K H ln (new.map V.str) ∧ NmOk old ∧ NmOk new ∧
  ∀ (p : Addr) (H' : Hp) (A : List Int) (k : Nat), H p = none → Same H H' → ChAt K C H' p old.length (btw old new) k → Lis.Best (intsK (btw old new)) A → k + A.length = old.length + (txsK (btw old new)).length → Q (.ref p) H'
theorem dc_it {J : It} {n : Nat} {G : Hp → Prop} {Y : Nat → Hp → V → Hp → Prop} (w : Walk J n G Y) {g : TG} {tt : TT} {tk tv : TE} {vs : List Nat} {σ : L2.St} {H1 : Hp} {D : Addr} {Qd : Hp → Prop} (Pv : Nat → Hp → Prop) (h0 : Pv 0 (upd H1 D (.dK []))) (hG : ∀ i H, i ≤ n → Pv i H → G H)
    (hs : ∀ i x H H', i < n → Pv i H → Y i H x H' → g x (wipe σ vs) H' fun σ2 H2 => wipe σ2 vs = wipe σ vs ∧ tt σ2 H2 fun b H3 =>
      if b = true then tk σ2 H3 fun y H4 => tv σ2 H4 fun z H5 => ∃ kvs k, y = kV k ∧ H5 D = some (.dK kvs) ∧ kvs.length < sizeLine ∧ Pv (i + 1) (upd H5 D (.dK (putK kvs k z))) else Pv (i + 1) H3) (hd : ∀ H, Pv n H → Qd H) :
    ∃ W : Nat → Nat → Hp → Prop, (∃ m, W 0 m (upd H1 D (.dK []))) ∧ ∀ i m H, W i m H →
      (J.stop i H ∧ Qd H) ∨ (J.go i H ∧ ∃ Nx : Hp → Prop, (∀ H', Nx H' → ∃ m', m' < m ∧ W (i + 1) m' H') ∧ ∀ x H', J.yld i H x H' → g x (wipe σ vs) H' fun σ2 H2 => wipe σ2 vs = wipe σ vs ∧ tt σ2 H2 fun b H3 =>
        if b = true then tk σ2 H3 fun y H4 => tv σ2 H4 fun z H5 => ∃ kvs k, y = kV k ∧ H5 D = some (.dK kvs) ∧ kvs.length < sizeLine ∧ Nx (upd H5 D (.dK (putK kvs k z))) else Nx H3) := by
  refine ⟨fun i m H => m = n - i ∧ i ≤ n ∧ Pv i H, ⟨n, by simp, Nat.zero_le _, h0⟩, ?_⟩
  rintro i m H ⟨rfl, hi, p⟩
  have q := hG i H hi p
  by_cases hlt : i < n
  · exact .inr ⟨w.goes i H hlt q, Pv (i + 1), fun H' p' => ⟨n - (i + 1), by omega, rfl, hlt, p'⟩, fun x H' y => hs i x H H' hlt p (w.yields i H x H' hlt q y)⟩
  · have e : i = n := by omega
    subst e
    exact .inl ⟨w.stops H q, hd H p⟩
section
variable {P : Program} {w : World} {K : PySem.W.Frag} {mg : Str → Option Value} {base : Heap} {f C : Addr} {fd : FuncData}
theorem ok_same {fN fI : Addr} {fdN fdI : FuncData} {t1 : Tok} (F : Fun K "same" "Change.same" (sCh 16) f fd) (R : MkC P w K mg base C fI fdI) (GN : FnOk P w K mg base CX0 2 fN fdN ["value", "low", "high"] spNeedInt) (gN : mg "need_integer" = some (.ref fN)) (kN : PySem.W.keepIn K (.ref fN) = true) (bN : Binds K fdN ["value", "low", "high"] [])
    (gM : mg "MOST_ROWS" = some (.int 80 t1)) (mL : mg "list" = none) (mr : mg "range" = none) : FnOk P w K mg base CX0 7 f fd ["count"] (spSame K C) := by
  refine F.ok scChS (fun vs H Q E h => ?_) (fun cdv A outer s H vs Q E hr h => ?_)
  · obtain ⟨n, rfl, _⟩ := h
    rfl
  · obtain ⟨n, rfl, h80, q⟩ := h
    have hr2 := hr.mono (show 2 ≤ 6 by decide)
    refine ⟨_, pss_cons (ps_expr (pe_call GN hr2 rfl gN kN bN .nil pass0 (pa_cons (pv 0) (pa_cons pe_int (pa_cons (pe_glob (v := .int 80) rfl gM ⟨_, rfl⟩) pa_nil)))))
      (pss_one (ps_ret (pe_make R.M R.G hr rfl R.g R.b .nil pass0 (pa_cons (pv 0) (pa_cons (pe_listRg rfl (by rfl) mL (prg_1 (by rfl) mr (pv 0))) pa_nil))))), ?_⟩
    refine ⟨_, rfl, (n : Int), 0, 80, rfl, by omega, by omega, ?_⟩
    refine ⟨_, rfl, _, rfl, _, rfl, RgOk.of_le (by decide) (by omega) (by decide) (by omega), fun p hp => ?_⟩
    rw [idK_rg]
    have s1 := Same.new (o := .lst ((idK n).map kV)) hp
    refine ch_made (R := fun x H' => Q (.ref x) H') upd_same (idK_ok h80) fun x H2 A i hx s2 cx _ _ => ?_
    exact q x H2 i (s1.free hx) (s1.trans s2) (cx.imp fun x hx => s1.free hx)
theorem ok_btw {fN fI : Addr} {fdN fdI : FuncData} (F : Fun K "between" "Change.between" (sCh 17) f fd) (R : MkC P w K mg base C fI fdI) (GN : FnOk P w K mg base CX0 4 fN fdN ["value"] (spNeedRows K)) (gN : mg "need_rows" = some (.ref fN)) (kN : PySem.W.keepIn K (.ref fN) = true) (bN : Binds K fdN ["value"] [])
    (ml : mg "len" = none) (me : mg "enumerate" = none) : FnOk P w K mg base CX0 7 f fd ["old", "new"] (spBtw K C) := by
  refine F.ok scChW (fun vs H Q E h => ?_) (fun cdv A outer s H vs Q E hr h => ?_)
  · obtain ⟨lo, ln, old, new, rfl, _⟩ := h
    rfl
  · obtain ⟨lo, ln, old, new, rfl, hlo, hln, oko, okn, q⟩ := h
    have hr4 := hr.mono (show 4 ≤ 6 by decide)
    have hu := hu_of hr
    refine ⟨_, pss_cons (ps_expr (pe_call GN hr4 rfl gN kN bN .nil pass0 (pa_cons (pv 0) pa_nil)))
      (pss_cons (ps_expr (pe_call GN hr4 rfl gN kN bN .nil pass0 (pa_cons (pv 1) pa_nil)))
      (pss_cons (ps_set (i := 2) scChW.nd rfl (.inr rfl) (by exact pe_dc (own := [("row", 3), ("at", 4)]) (g := gTup K 2 (gCons (gName 4) (gCons (gName 3) gNil))) (tt := tYes) (by rfl) scChW.nd (pi_enum (by rfl) me (pa_cons (pv 0) pa_nil)) (blkOk_by (own := [("row", 3), ("at", 4)]) (N := nChW) (sc := defScope (sCh 17)) (by decide +kernel)) (fun _ _ _ _ _ => pg_tup (by rfl) (pgs_cons (pg_name (i := 4) scChW.nd rfl (.inl rfl)) (pgs_cons (pg_name (i := 3) scChW.nd rfl (.inl rfl)) pgs_nil))) (fun _ _ _ _ _ => pts_nil) (fun _ _ _ _ _ => pv 3) (fun _ _ _ _ _ => pv 4)))
      (pss_one (ps_ret (pe_make R.M R.G hr rfl R.g R.b .nil pass0 (pa_cons (pe_callB call_len_seq (by rfl) ml PySem.boot_len (pa_cons (pv 0) pa_nil)) (pa_cons (pe_lc (own := [("row", 3)]) (g := gName 3) (tt := tYes) (te := tDGet2 (tVar 2) (tVar 3) (tVar 3)) (by rfl) scChW.nd (pi_list (pv 1))
        (blkOk_by (own := [("row", 3)]) (N := nChW) (sc := defScope (sCh 17)) (by decide +kernel)) (fun _ _ _ _ _ => pg_name (i := 3) scChW.nd rfl (.inl rfl)) (fun _ _ _ _ _ => pts_nil) (fun _ _ _ _ _ => by exact pe_dget2 hu (pv 2) (pv 3) (pv 3) ⟨rfl, rfl, rfl, rfl⟩)) pa_nil))))))), ?_⟩
    have f1 := oko.few
    have f2 := okn.few
    refine ⟨_, rfl, lo, old, rfl, hlo, oko, fun H1 s1 => ?_⟩
    refine ⟨_, rfl, ln, new, rfl, sqL_keep s1 hln, okn, fun H2 s2 => ?_⟩
    have s12 := s1.trans s2
    refine ⟨_, rfl, lo, _, rfl, sqL_keep s12 hlo, fun D hD => ?_⟩
    refine dc_it (walk_enum (xs := old.map V.str)) (fun i H3 => Same H2 H3 ∧ ∃ fk : List (Key × V), fk.length ≤ i ∧ H3 D = some (.dK fk) ∧ ∀ z : Str, valV fk (Sum.inr z) = if z ∈ old.take i then some (V.int (idxN old z : Nat)) else none) ?_ ?_ ?_ ?_
    · exact ⟨Same.new hD, [], Nat.le_refl _, upd_same, fun z => by rw [List.take_zero, if_neg (fun h => nomatch h)] <;> rfl⟩
    · exact fun _ _ _ z => sqL_keep (s12.trans z.1) hlo
    · rintro i x H3 H4 hi ⟨s3, fk, lf, eD, va⟩ ⟨T, x, y, rfl, hT, rfl, hx, hy⟩
      cases hx
      replace hy : (old.map V.str)[i]? = some y := hy
      rw [List.getElem?_map] at hy
      obtain ⟨z, hz, rfl⟩ := Option.map_eq_some_iff.mp hy
      have hil := (List.getElem?_eq_some_iff.mp hz).1
      have sT := Same.new (o := .tup [.int (i : Nat), .str z]) hT
      have eT : (upd H3 T (.tup [.int (i : Nat), .str z])) T = some (.tup [.int (i : Nat), .str z]) := upd_same
      have eD4 := sT _ _ eD
      have s4 := s3.trans sT
      generalize upd H3 T (.tup [.int (i : Nat), .str z]) = H4 at eT eD4 s4 ⊢
      refine ⟨T, _, rfl, .of eT, rfl, _, _, rfl, _, _, rfl, rfl, rfl, ?_⟩
      unfold tYes
      dsimp only
      rw [if_pos rfl]
      refine ⟨_, rfl, _, rfl, fk, Sum.inr z, rfl, eD4, small1000 (by omega), fun c o e => (upd_ne (ne_of_none e hD)).trans (s4 _ _ e), _, Nat.le_trans (length_putK _ _ _) (Nat.succ_le_succ lf), upd_same, fun y => ?_⟩
      rw [valV_put, take_snocA hz]
      by_cases c : y = z
      · subst c
        rw [if_pos rfl, if_pos (List.mem_append_right _ List.mem_cons_self), idxN_of oko.nd hz]
      · rw [if_neg fun e => c (Sum.inr.inj e), va]
        by_cases c2 : y ∈ old.take i
        · rw [if_pos c2, if_pos (List.mem_append_left _ c2)]
        · rw [if_neg c2, if_neg fun h => (List.mem_append.mp h).elim c2 fun h => c (List.mem_singleton.mp h)]
    rintro H3 ⟨s3, fk, lf, eD, va⟩
    rw [List.length_map, List.take_length] at va
    have s123 := s12.trans s3
    refine ⟨_, rfl, lo, _, rfl, .inl (sqL_keep s123 hlo), ?_⟩
    rw [List.length_map]
    refine ⟨_, rfl, ln, rfl, ⟨_, sqL_keep s123 hln⟩, fun B hB => ?_⟩
    refine lc_list (xs := new.map V.str) (fun i H4 => Same H3 H4 ∧ H4 B = some (.lst ((btw old (new.take i)).map kV))) ?_ ?_ ?_ ?_
    · exact ⟨Same.new hB, upd_same⟩
    · exact fun _ _ _ z => sqL_keep (s123.trans z.1) hln
    · rintro i x H4 hx ⟨s4, e4⟩
      rw [List.getElem?_map] at hx
      obtain ⟨z, hz, rfl⟩ := Option.map_eq_some_iff.mp hx
      have hil := (List.getElem?_eq_some_iff.mp hz).1
      refine ⟨rfl, ?_⟩
      unfold tYes
      dsimp only
      rw [if_pos rfl]
      have eD4 := s4 _ _ eD
      refine ⟨_, rfl, D, rfl, .inl ⟨_, .inl eD4⟩, _, rfl, _, rfl, _, DGet.k (k := Sum.inr z) eD4, _, e4, ?_, fun c o e => (upd_ne (ne_of_none e hB)).trans (s4 _ _ e), ?_⟩
      · unfold btw
        rw [List.length_map, List.length_map, List.length_take]
        exact small1000 (by omega)
      · have ev : ((valV fk (Sum.inr z)).getD (V.str z)) = kV (keyOf old z) := by
          rw [va]
          by_cases c : z ∈ old
          · rw [if_pos c, keyOf_in c]
            rfl
          · rw [if_neg c, keyOf_out c]
            rfl
        rw [upd_same, ev]
        unfold btw
        rw [take_snocA hz, List.map_append, List.map_append]
        rfl
    rintro H4 ⟨s4, e4⟩
    rw [List.length_map, List.take_length] at e4
    have sAll := s123.trans s4
    refine ch_made (R := fun x H' => Q (.ref x) H') e4 (btw_ok oko okn) fun x H5 A i hx s5 cx best e => ?_
    exact q x H5 A i (sAll.free hx) (sAll.trans s5) cx.at best e
end
end G
set_option Elab.async false
set_option linter.all false
set_option maxRecDepth 100000
set_option maxHeartbeats 4000000
/-! RC6: differing. -/
namespace G
open PySem PySem.Spec PyProof.Rows L2 NdefX
abbrev sNeedRecs : Stmt := topS 45
abbrev sDiffer : Stmt := topS 46
abbrev nDiffer : List Str := ["one", "other", "key"]
theorem scNeedRecs : FnScope ["value"] ["value"] (defScope sNeedRecs) := ⟨rfl, rfl, rfl, by decide +kernel, rfl, by decide +kernel, by decide +kernel⟩
theorem scDiffer : FnScope nDiffer ["one", "other"] (defScope sDiffer) := ⟨rfl, rfl, rfl, by decide +kernel, rfl, by decide +kernel, by decide +kernel⟩
/-- is this record in the others, with another value -/
def dk (ps : List Pr) (q : Pr) : Bool := match ps.find? (fun p => decide (p.1 = q.1)) with
  | some p => !dEq p.2 q.2
  | none => false
def dfs (ps qs : List Pr) : List Str := (qs.filter (dk ps)).map (·.1)
theorem dfs_add (ps qs : List Pr) (q : Pr) : dfs ps (qs ++ [q]) = if dk ps q = true then dfs ps qs ++ [q.1] else dfs ps qs := by
  unfold dfs
  rw [List.filter_append]
  by_cases h : dk ps q = true
  · rw [if_pos h, List.filter_cons_of_pos h, List.filter_nil, List.map_append]
    rfl
  · rw [if_neg h, List.filter_cons_of_neg h, List.filter_nil, List.append_nil]
theorem dfs_len (ps qs : List Pr) : (dfs ps qs).length ≤ qs.length := by
  unfold dfs
  rw [List.length_map]
  exact List.length_filter_le _ _
theorem PsOk.ints {ps : List Pr} (ok : PsOk ps) {p : Pr} (h : p ∈ ps) : AllInt p.2 := fun x hx => by
  obtain ⟨zs, hv⟩ := ok.val p h
  obtain ⟨z, i, e, _⟩ := hv.is x hx
  exact ⟨i, by rw [e]⟩
theorem find_in {ps : List Pr} {q : Pr} {p : Pr} (h : ps.find? (fun p => decide (p.1 = q.1)) = some p) : p ∈ ps ∧ p.1 = q.1 := ⟨List.mem_of_find?_eq_some h, by simpa using List.find?_some h⟩
theorem find_no {ps : List Pr} {q : Pr} (h : ps.find? (fun p => decide (p.1 = q.1)) = none) : q.1 ∉ nmsOf ps := fun hm => by
  obtain ⟨p, hp, e⟩ := List.mem_map.mp hm
  have := List.find?_eq_none.mp h p hp
  exact this (decide_eq_true e)
def spDiffer (C : Addr) : Sp := fun vs H Q _ => ∃ (a b : Addr) (ps qs : List Pr), vs = [.ref a, .ref b] ∧ RecAt C H a ps ∧ PsOk ps ∧ RecAt C H b qs ∧ PsOk qs ∧
  ∀ (p : Addr) (H' : Hp), H p = none → Same H H' → H' p = some (.lst ((dfs ps qs).map V.str)) → Q (.ref p) H'
section
variable {P : Program} {w : World} {K : PySem.W.Frag} {mg : Str → Option Value} {base : Heap} {f C : Addr} {fd : FuncData}
theorem ok_rcget {fL : Addr} {fdL : FuncData} (F : Fun K "__getitem__" "Records.__getitem__" (sRc 4) f fd) (c : RcC K C) (mL : Meth K C "place" fL) (bL : Binds K fdL ["self", "key"] []) (GL : FnOk P w K mg base CX0 1 fL fdL ["self", "key"] (spRcL C)) (md : mg "dict" = none) :
    FnOk P w K mg base CX0 2 f fd ["self", "key"] (spRcG C) := by
  refine F.ok scRcG (fun vs H Q E h => ?_) (fun cdv A outer s H vs Q E hr h => ?_)
  · obtain ⟨a, ps, i, p, rfl, _⟩ := h
    rfl
  · obtain ⟨a, ps, i, p, rfl, hR, ok, hi, q⟩ := h
    have hR' := hR
    obtain ⟨dx, l, n, ts, ha, hl, al, hn⟩ := hR'
    refine ⟨_, pss_cons (ps_set (i := 2) scRcG.nd rfl (.inl rfl) (pe_meth (pv 0) c.cl mL GL hr bL .nil pass0 (pa_cons (pv 1) pa_nil)))
      (pss_one (ps_ret (pe_callTy call_dictD (by rfl) md (by decide +kernel) (pa_cons (pe_ix ix_tup (pe_ix ix_list (pe_fld (pv 0) rfl) (pv 2) (fun _ _ => rfl)) pe_int (fun _ _ => rfl)) pa_nil)))), ?_⟩
    refine ⟨_, rfl, a, dx, _, rfl, ha, rfl, _, rfl, a, ps, i, p, rfl, hR, ok, hi, ?_⟩
    obtain ⟨t, hti, d, et, ed⟩ := al.at hi
    refine ⟨_, rfl, a, C, dx, _, _, rfl, ha, c.cl, c.n1, rfl, _, rfl, l, _, _, _, rfl, rfl, .of hl, atI_nat (j := i) (by rw [List.getElem?_map, hti] <;> rfl), t, _, 1, _, rfl, rfl, .of et, rfl, d, p.2, rfl, .inl ed, fun dn hdn => q dn hdn⟩
theorem ok_rciter (F : Fun K "__iter__" "Records.__iter__" (sRc 7) f fd) (c : RcC K C) (mi : mg "iter" = none) : FnS P w K mg base 1 f fd ["self"] (spIter K C "own_names") := by
  refine FnS.of_body F scRcT (fun n vs H Q E h => ?_) (fun cdv A outer s H vs Q E hr h => ?_)
  · obtain ⟨a, dx, l, fs, xs, rfl, _⟩ := h
    rfl
  · obtain ⟨a, dx, l, fs, xs, rfl, ha, lk, sq, q⟩ := h
    refine ⟨_, pss_one (ps_ret (pe_callB ItX.call_iterN (by rfl) mi (by decide +kernel) (pa_cons (pe_fld (pv 0) rfl) pa_nil))), ?_⟩
    exact ⟨_, rfl, a, C, dx, _, _, rfl, ha, c.cl, c.n2, lk, l, xs, rfl, sq, fun it hn hs => q it hn hs⟩
theorem ok_needrecs (F : Fun K "need_records" "need_records" sNeedRecs f fd) (c : RcC K C) (k : RcK K C) (gC : mg "Records" = some (.ref C)) (mi : mg "isinstance" = none) : FnOk P w K mg base CX0 1 f fd ["value"] (spNeedRecs C) := by
  refine F.ok scNeedRecs (fun vs H Q E h => ?_) (fun cdv A outer s H vs Q E hr h => ?_)
  · obtain ⟨v, rfl, _⟩ := h
    rfl
  · obtain ⟨v, rfl, ⟨a, dx, fs, rfl, ha⟩, q⟩ := h
    refine ⟨_, pss_one (ps_if (pt_not (pt_val (pe_callB call_isi (by rfl) mi (by decide +kernel) (pa_cons (pv 0) (pa_cons (pe_glob (v := .ref C) rfl gC rfl) pa_nil))))) (pss_one ps_never) pss_nil), ?_⟩
    exact ⟨_, rfl, _, _, _, _, _, rfl, .own C, .base (.ins ha c.cl k.ha k.hn k.htk k.hm), k.kit, _, rfl, iteF q⟩
theorem ok_differ {fN fG fC fT : Addr} {fdN fdG fdC fdT : FuncData} (F : Fun K "differing" "differing" sDiffer f fd) (gN : mg "need_records" = some (.ref fN)) (kN : PySem.W.keepIn K (.ref fN) = true) (bN : Binds K fdN ["value"] [])
    (GN : FnOk P w K mg base CX0 1 fN fdN ["value"] (spNeedRecs C)) (mG : OwnM K C "__getitem__" fG) (iG : PySem.W.fnIn K fG = true) (bG : Binds K fdG ["self", "key"] []) (GG : FnOk P w K mg base CX0 2 fG fdG ["self", "key"] (spRcG C))
    (mC : OwnM K C "__contains__" fC) (bC : Binds K fdC ["self", "item"] []) (GC : FnOk P w K mg base CX0 1 fC fdC ["self", "item"] (spRcC C)) (mT : OwnM K C "__iter__" fT) (bT : Binds K fdT ["self"] []) (GT : FnS P w K mg base 1 fT fdT ["self"] (spIter K C "own_names")) :
    FnOk P w K mg base CX0 4 f fd ["one", "other"] (spDiffer C) := by
  refine F.ok scDiffer (fun vs H Q E h => ?_) (fun cdv A outer s H vs Q E hr h => ?_)
  · obtain ⟨a, b, ps, qs, rfl, _⟩ := h
    rfl
  · obtain ⟨a, b, ps, qs, rfl, ha, okp, hb, okq, q⟩ := h
    have hr1 := hr.mono (show 1 ≤ 3 by decide)
    have hu := Nat.lt_of_succ_lt (hu_of hr)
    refine ⟨_, pss_cons (ps_expr (pe_call GN hr1 rfl gN kN bN .nil pass0 (pa_cons (pv 0) pa_nil)))
      (pss_cons (ps_expr (pe_call GN hr1 rfl gN kN bN .nil pass0 (pa_cons (pv 1) pa_nil)))
      (pss_one (ps_ret (pe_lc (own := [("key", 2)]) (g := gName 2) (by rfl) scDiffer.nd (pi_own (pv 1) mT bT GT hr1)
        (blkOk_by (own := [("key", 2)]) (N := nDiffer) (sc := defScope sDiffer) (by decide +kernel)) (fun _ _ _ _ _ => pg_name (i := 2) scDiffer.nd rfl (.inl rfl))
        (fun _ _ _ _ _ => pts_one (PW.pt (pw_and (pt_cmpR (op_inO (E := E0) mC bC GC hr1 pass0) (pv 2) (pv 0) (by rfl)) (pw_and1 (pt_cmpR (op_neDI hu) (pe_getO mG iG bG GG hr (pv 0) (pv 2)) (pe_getO mG iG bG GG hr (pv 1) (pv 2)) (nomark _)))))) (fun _ _ _ _ _ => pv 2))))), ?_⟩
    obtain ⟨dx, l, n, ts, ea, el, al, en⟩ := id ha
    obtain ⟨dy, l2, n2, ts2, eb, el2, al2, en2⟩ := id hb
    refine ⟨_, rfl, _, rfl, ⟨a, dx, _, rfl, ea⟩, _, rfl, _, rfl, ⟨b, dy, _, rfl, eb⟩, ?_⟩
    refine ⟨_, rfl, b, dy, n2, _, _, rfl, eb, rfl, .of en2, fun D hD => ?_⟩
    have l40 := okq.few
    refine lc_list (xs := (nmsOf qs).map V.str) (fun i H3 => Same H H3 ∧ H3 D = some (.lst ((dfs ps (qs.take i)).map V.str))) ?_ ?_ ?_ ?_
    · exact ⟨Same.new hD, upd_same⟩
    · exact fun _ _ _ h => .of (h.1 _ _ en2)
    · rintro i x H3 hx ⟨s3, e3⟩
      rw [List.getElem?_map, List.getElem?_map] at hx
      obtain ⟨y, ey, rfl⟩ := Option.map_eq_some_iff.mp hx
      obtain ⟨r, hri, rfl⟩ := Option.map_eq_some_iff.mp ey
      have hrm := List.mem_of_getElem? hri
      have e9 : qs.take (i + 1) = qs.take i ++ [r] := by
        rw [List.take_add_one, hri]
        rfl
      have hdk : dk ps r = (match ps.find? (fun p => decide (p.1 = r.1)) with
        | some p => !dEq p.2 r.2
        | none => false) := rfl
      refine ⟨rfl, ?_⟩
      refine ⟨_, rfl, _, rfl, a, dx, _, rfl, s3 _ _ ea, a, ps, r.1, rfl, ha.same s3, _, rfl, _, rfl, ?_⟩
      cases hf : ps.find? (fun p => decide (p.1 = r.1)) with
      | none =>
        rw [hf] at hdk
        refine ifN (decide_eq_false (find_no hf)) ?_
        dsimp only
        refine iteF ⟨s3, ?_⟩
        rw [e9, dfs_add, hdk]
        exact e3
      | some p =>
        rw [hf] at hdk
        dsimp only at hdk
        obtain ⟨hp, ep⟩ := find_in hf
        obtain ⟨j, hj⟩ := List.mem_iff_getElem?.mp hp
        refine ifY (decide_eq_true (List.mem_map.mpr ⟨p, hp, ep⟩)) ?_
        refine ⟨_, rfl, _, rfl, a, dx, _, rfl, s3 _ _ ea, a, ps, j, p, by rw [ep], ha.same s3, okp, hj, fun d1 hd1 => ?_⟩
        have s4 := s3.trans (Same.new (o := .dK p.2) hd1)
        refine ⟨_, rfl, _, rfl, b, dy, _, rfl, s4 _ _ eb, b, qs, i, r, rfl, hb.same s4, okq, hri, fun d2 hd2 => ?_⟩
        have n12 : d1 ≠ d2 := fun z => by
          rw [← z, upd_same] at hd2
          cases hd2
        have s5 := s4.trans (Same.new (o := .dK r.2) hd2)
        have e5 := (Same.new (o := .dK r.2) hd2) _ _ ((Same.new (o := .dK p.2) hd1) _ _ e3)
        refine ⟨d1, d2, p.2, r.2, rfl, rfl, (upd_ne n12).trans upd_same, upd_same, okp.ints hp, okq.ints hrm, _, rfl, ?_⟩
        cases hd : dEq p.2 r.2 with
        | true =>
          rw [hd] at hdk
          refine iteF ⟨s5, ?_⟩
          rw [e9, dfs_add, hdk]
          exact e5
        | false =>
          rw [hd] at hdk
          refine iteT ⟨_, rfl, _, e5, ?_, fun c o ec => (upd_ne (ne_of_none ec hD)).trans (s5 _ _ ec), ?_⟩
          · have := dfs_len ps (qs.take i)
            rw [List.length_take] at this
            rw [List.length_map]
            exact small1000 (by omega)
          · rw [upd_same, e9, dfs_add, hdk, if_pos (show (!false) = true from rfl), List.map_append]
            rfl
    · rintro H3 ⟨s3, e3⟩
      rw [List.length_map, List.length_map, List.take_length] at e3
      exact q D H3 hD s3 e3
end
end G
set_option Elab.async false
set_option linter.all false
set_option maxRecDepth 100000
set_option maxHeartbeats 4000000
/-! LM: how many steps are due; changes joined. -/
namespace G
open PySem PySem.Spec PyProof.Rows L2 NdefX StX PySem.W
def idI (n : Nat) : List Int := (List.range n).map Int.ofNat
theorem idI_len (n : Nat) : (idI n).length = n := by
  unfold idI
  rw [List.length_map, List.length_range]
theorem idI_asc (n : Nat) : (idI n).Pairwise (· < ·) := by
  unfold idI
  rw [List.pairwise_map]
  exact List.pairwise_lt_range.imp fun h => Int.ofNat_lt.mpr h
theorem idI_at {n i : Nat} (h : i < n) : (idI n)[i]? = some (i : Int) := by
  unfold idI
  rw [List.getElem?_map, List.getElem?_range h]
  rfl
theorem intsK_app (xs ys : List Key) : intsK (xs ++ ys) = intsK xs ++ intsK ys := List.filterMap_append
theorem txsK_app (xs ys : List Key) : txsK (xs ++ ys) = txsK xs ++ txsK ys := List.filterMap_append
theorem intsK_inl (ns : List Int) : intsK (ns.map Sum.inl) = ns := by
  induction ns with
  | nil => rfl
  | cons n ns ih =>
    show n :: intsK (ns.map Sum.inl) = n :: ns
    rw [ih]
theorem txsK_inl (ns : List Int) : txsK (ns.map Sum.inl) = [] := by
  induction ns with
  | nil => rfl
  | cons n ns ih => exact ih
theorem intsK_inr (zs : List Str) : intsK (zs.map Sum.inr) = [] := by
  induction zs with
  | nil => rfl
  | cons n ns ih => exact ih
theorem txsK_inr (zs : List Str) : txsK (zs.map Sum.inr) = zs := by
  induction zs with
  | nil => rfl
  | cons n ns ih =>
    show n :: txsK (ns.map Sum.inr) = n :: ns
    rw [ih]
theorem idK_I (n : Nat) : idK n = (idI n).map Sum.inl := by
  unfold idK idI
  rw [List.map_map]
  rfl
/-- among its own names -/
theorem btw_self {old : List Str} (nd : old.Nodup) : btw old old = idK old.length := by
  refine List.ext_getElem? fun i => ?_
  unfold btw
  rw [List.getElem?_map]
  by_cases h : i < old.length
  · rw [idK_at h, List.getElem?_eq_getElem h]
    show some (keyOf old old[i]) = _
    rw [keyOf_in (List.getElem_mem h), idxN_of nd (List.getElem?_eq_getElem h)]
  · rw [List.getElem?_eq_none (by omega), List.getElem?_eq_none (by rw [idK_len]; omega)]
    rfl
/-- the steps of a change -/
def StepsDue (old new : List Str) (d : Nat) : Prop := ∀ (A : List Int) (k : Nat), Lis.Best (intsK (btw old new)) A → k + A.length = old.length + (txsK (btw old new)).length → k = d
theorem due_asc {old new : List Str} {d : Nat} (a : (intsK (btw old new)).Pairwise (· < ·)) (e : d + (intsK (btw old new)).length = old.length + (txsK (btw old new)).length) : StepsDue old new d := fun A k best h => by
  have := Lis.best_all best a
  omega
theorem due_same {old : List Str} (nd : old.Nodup) : StepsDue old old 0 := by
  refine due_asc ?_ ?_ <;> rw [btw_self nd, idK_I, intsK_inl]
  · exact idI_asc _
  · rw [txsK_inl, idI_len]
    show 0 + old.length = old.length + 0
    omega
theorem due_ext {old fs : List Str} (nd : old.Nodup) (out : ∀ z ∈ fs, z ∉ old) : StepsDue old (old ++ fs) fs.length := by
  have e : btw old (old ++ fs) = (idI old.length).map Sum.inl ++ fs.map Sum.inr := by
    have h1 := btw_self nd
    rw [idK_I] at h1
    unfold btw at h1 ⊢
    rw [List.map_append, h1]
    congr 1
    exact List.map_congr_left fun z hz => keyOf_out (out z hz)
  refine due_asc ?_ ?_ <;> rw [e, intsK_app, intsK_inl, intsK_inr, List.append_nil]
  · exact idI_asc _
  · rw [txsK_app, txsK_inl, txsK_inr, idI_len]
    show fs.length + old.length = old.length + fs.length
    omega
theorem due_ins {old : List Str} {i : Nat} {y : Str} (nd : old.Nodup) (out : y ∉ old) : StepsDue old (insP old i y) 1 := by
  have e : btw old (insP old i y) = insP ((idI old.length).map Sum.inl) i (.inr y) := by
    have h1 := btw_self nd
    rw [idK_I] at h1
    unfold btw at h1 ⊢
    rw [insP_map, h1, keyOf_out out]
  have e1 : intsK (insP ((idI old.length).map Sum.inl) i (.inr y)) = idI old.length := by
    unfold insP
    rw [intsK_app]
    show _ ++ intsK (((idI old.length).map Sum.inl).drop i) = _
    rw [← intsK_app, List.take_append_drop, intsK_inl]
  have e2 : txsK (insP ((idI old.length).map Sum.inl) i (.inr y)) = [y] := by
    unfold insP
    rw [txsK_app]
    show _ ++ (y :: txsK (((idI old.length).map Sum.inl).drop i)) = _
    rw [← List.map_take, ← List.map_drop, txsK_inl, txsK_inl]
    rfl
  refine due_asc ?_ ?_ <;> rw [e, e1]
  · exact idI_asc _
  · rw [e2, idI_len]
    show 1 + old.length = old.length + 1
    omega
theorem due_del {old : List Str} {i : Nat} (nd : old.Nodup) (hi : i < old.length) : StepsDue old (delP old i) 1 := by
  have e : btw old (delP old i) = (delP (idI old.length) i).map Sum.inl := by
    have h1 := btw_self nd
    rw [idK_I] at h1
    unfold btw at h1 ⊢
    rw [delP_map, h1, ← delP_map]
  refine due_asc ?_ ?_ <;> rw [e, intsK_inl]
  · exact (idI_asc _).sublist (delP_sub _ _)
  · rw [txsK_inl, delP_len (by rw [idI_len]; exact hi), idI_len]
    show 1 + (old.length - 1) = old.length
    omega
theorem insP_at {α : Type} {ps : List α} {j : Nat} {p : α} (h : j ≤ ps.length) : (insP ps j p)[j]? = some p := by
  unfold insP
  rw [List.getElem?_append_right (by rw [List.length_take]; omega), List.length_take, Nat.min_eq_left h, Nat.sub_self]
  rfl
theorem ins_del {α : Type} {ps : List α} {i : Nat} {p : α} (h : ps[i]? = some p) : insP (delP ps i) i p = ps := by
  obtain ⟨h1, h2⟩ := List.getElem?_eq_some_iff.mp h
  unfold insP delP
  rw [List.take_left' (by rw [List.length_take]; omega), List.drop_left' (by rw [List.length_take]; omega), ← h2, List.getElem_cons_drop, List.take_append_drop]
theorem due_mov {old : List Str} {i j : Nat} {y : Str} (nd : old.Nodup) (hi : old[i]? = some y) (hj : j < old.length) : StepsDue old (insP (delP old i) j y) (if i = j then 0 else 1) := by
  by_cases c : i = j
  · subst c
    rw [if_pos rfl, ins_del hi]
    exact due_same nd
  · rw [if_neg c]
    obtain ⟨li, _⟩ := List.getElem?_eq_some_iff.mp hi
    have e : btw old (insP (delP old i) j y) = (insP (delP (idI old.length) i) j (i : Int)).map Sum.inl := by
      have h1 := btw_self nd
      rw [idK_I] at h1
      unfold btw at h1 ⊢
      rw [insP_map, delP_map, h1, keyOf_in (List.mem_of_getElem? hi), idxN_of nd hi, insP_map, delP_map]
    have ld : (delP (idI old.length) i).length = old.length - 1 := by
      rw [delP_len (by rw [idI_len]; exact li), idI_len]
    have lp : (insP (delP (idI old.length) i) j (i : Int)).length = old.length := by
      rw [insP_len, ld]
      omega
    have pm : (insP (delP (idI old.length) i) j (i : Int)).Perm (idI old.length) := (insP_perm _ _ _).trans (delP_perm (idI_at li))
    intro A k best h
    rw [e, intsK_inl] at best
    rw [e, txsK_inl] at h
    have sub : (delP (idI old.length) i).Sublist (insP (delP (idI old.length) i) j (i : Int)) := by
      have h1 : (delP (idI old.length) i).Sublist ((delP (idI old.length) i).take j ++ (i : Int) :: (delP (idI old.length) i).drop j) := by
        have h2 : ((delP (idI old.length) i).take j ++ (delP (idI old.length) i).drop j).Sublist ((delP (idI old.length) i).take j ++ (i : Int) :: (delP (idI old.length) i).drop j) := (List.Sublist.refl _).append (List.sublist_cons_self _ _)
        rw [List.take_append_drop] at h2
        exact h2
      exact h1
    have one := Lis.best_one best sub ((idI_asc _).sublist (delP_sub _ _)) (by omega) fun asc => by
      have eq : insP (delP (idI old.length) i) j (i : Int) = idI old.length := pm.eq_of_pairwise (le := (· < ·)) (fun a b _ _ h1 h2 => by omega) asc (idI_asc _)
      have h1 := insP_at (ps := delP (idI old.length) i) (j := j) (p := (i : Int)) (by omega)
      rw [eq, idI_at hj] at h1
      have := Option.some.inj h1
      omega
    rw [lp] at one
    have h' : k + A.length = old.length + 0 := h
    omega
/-! ### joined -/
theorem btw_inr {old new : List Str} {z : Str} (h : Sum.inr z ∈ btw old new) : z ∉ old ∧ z ∈ new := by
  obtain ⟨y, hy, e⟩ := List.mem_map.mp h
  by_cases c : y ∈ old
  · rw [keyOf_in c] at e
    cases e
  · rw [keyOf_out c] at e
    obtain rfl := Sum.inr.inj e
    exact ⟨c, hy⟩
theorem txK_len (zs : List Str) : (txK zs).length = zs.length := List.length_map ..
theorem txK_mem {zs : List Str} {z : Str} : (Sum.inr z : Key) ∈ txK zs ↔ z ∈ zs := by
  constructor
  · intro h
    obtain ⟨y, hy, e⟩ := List.mem_map.mp h
    obtain rfl := Sum.inr.inj e
    exact hy
  · exact fun h => List.mem_map_of_mem h
theorem txK_inj {ys zs : List Str} (h : txK ys = txK zs) : ys = zs := List.map_inj_right (fun a b e => Sum.inr.inj e) |>.mp h
theorem via_get {xs : List Key} {i : Int} {x : Key} (h : xs[i.toNat]? = some x) : via xs (.inl i) = x := by
  show xs.getD i.toNat (.inl 0) = x
  rw [List.getD_eq_getElem?_getD, h]
  rfl
theorem appl_btw {old new : List Str} : appl (txK old) (btw old new) = txK new := by
  unfold appl btw
  rw [List.map_map]
  unfold txK
  refine List.map_congr_left fun z hz => ?_
  show via (txK old) (keyOf old z) = .inr z
  by_cases c : z ∈ old
  · rw [keyOf_in c]
    refine via_get ?_
    show (txK old)[(Int.ofNat (idxN old z)).toNat]? = _
    unfold txK
    rw [show (Int.ofNat (idxN old z)).toNat = idxN old z from rfl, List.getElem?_map, idxN_at c]
    rfl
  · rw [keyOf_out c]
    rfl
theorem stK_mem {xs ks : List Key} {x : Key} (h : x ∈ stK xs ks) : ∃ i : Int, Sum.inl i ∈ ks ∧ via xs (.inl i) = x := by
  obtain ⟨i, hi, e⟩ := List.mem_map.mp h
  exact ⟨i, mem_ints.mp hi, e⟩
/-- a change that leads from the first names to these -/
structure Whole (first : List Str) (wk : List Key) (cur : List Str) : Prop where
  ok : ChOk first.length wk
  eq : appl (txK first) wk = txK cur
theorem Whole.len {first cur : List Str} {wk : List Key} (h : Whole first wk cur) : wk.length = cur.length := by
  have := congrArg List.length h.eq
  unfold appl at this
  rw [List.length_map, txK_len] at this
  exact this
theorem pair_inj {α β : Type} {f : α → β} : ∀ {l : List α}, (l.map f).Nodup → ∀ a ∈ l, ∀ b ∈ l, f a = f b → a = b
  | [], _, a, ha, _, _, _ => nomatch ha
  | x :: l, h, a, ha, b, hb, e => by
    rw [List.map_cons, List.nodup_cons] at h
    rcases List.mem_cons.mp ha with rfl | ha'
    · rcases List.mem_cons.mp hb with rfl | hb'
      · rfl
      · exact absurd (by rw [e]; exact List.mem_map_of_mem hb') h.1
    · rcases List.mem_cons.mp hb with rfl | hb'
      · exact absurd (by rw [← e]; exact List.mem_map_of_mem ha') h.1
      · exact pair_inj h.2 a ha' b hb' e
theorem nd_of_map {α β : Type} {f : α → β} {l : List α} (h : (l.map f).Nodup) : l.Nodup := by
  unfold List.Nodup at h ⊢
  rw [List.pairwise_map] at h
  exact h.imp fun h e => h (by rw [e])
theorem whole_id {first : List Str} (h : NmOk first) : Whole first (idK first.length) first := ⟨idK_ok h.few, by rw [← btw_self h.nd]; exact appl_btw⟩
theorem whole_at {first cur : List Str} {wk : List Key} (h : Whole first wk cur) {i : Int} (h0 : 0 ≤ i) (h1 : i < cur.length) : ∃ x, wk[i.toNat]? = some x ∧ via wk (.inl i) = x ∧ via (txK first) x = via (txK cur) (.inl i) := by
  have hl : i < wk.length := by rw [h.len]; exact h1
  have e := via_at h0 hl
  refine ⟨_, e, rfl, ?_⟩
  refine (via_get ?_).symm
  rw [← h.eq]
  unfold appl
  rw [List.getElem?_map, e]
  rfl
theorem whole_no {first cur new : List Str} {wk : List Key} (h : Whole first wk cur) (hc : NmOk cur) (hn : NmOk new) : ∀ z : Str, Sum.inr z ∈ btw cur new → Sum.inr z ∉ stK wk (btw cur new) := fun z hz hs => by
  obtain ⟨i, hi, e⟩ := stK_mem hs
  obtain ⟨h0, h1⟩ := (btw_ok hc hn).lo i hi
  obtain ⟨x, e1, e2, e3⟩ := whole_at h h0 h1
  rw [e2] at e
  subst e
  refine (btw_inr hz).1 (txK_mem.mp ?_)
  rw [← h.eq]
  exact List.mem_map_of_mem (f := via (txK first)) (List.mem_of_getElem? e1)
theorem whole_step {first cur new : List Str} {wk : List Key} (h : Whole first wk cur) (hc : NmOk cur) (hn : NmOk new) : Whole first (appl wk (btw cur new)) new := by
  have bo := btw_ok hc hn
  have eq : appl (txK first) (appl wk (btw cur new)) = txK new := by
    rw [← appl_btw (old := cur) (new := new)]
    unfold appl
    rw [List.map_map]
    refine List.map_congr_left fun k hk => ?_
    cases k with
    | inr z => rfl
    | inl i =>
      obtain ⟨h0, h1⟩ := bo.lo i hk
      obtain ⟨x, e1, e2, e3⟩ := whole_at h h0 h1
      show via (txK first) (via wk (.inl i)) = _
      rw [e2, e3]
  have nd : ((appl wk (btw cur new)).map (via (txK first))).Nodup := by
    show (appl (txK first) (appl wk (btw cur new))).Nodup
    rw [eq]
    exact txK_nd hn.nd
  refine ⟨⟨h.ok.n80, ?_, nd_of_map nd, fun i hi => ?_, fun z hz => ?_⟩, eq⟩
  · have := congrArg List.length eq
    unfold appl at this
    rw [List.length_map, txK_len] at this
    have h2 := hn.few
    unfold appl
    omega
  · obtain ⟨k, hk, e⟩ := List.mem_map.mp hi
    cases k with
    | inr z => cases e
    | inl j =>
      obtain ⟨h0, h1⟩ := bo.lo j hk
      obtain ⟨x, e1, e2, e3⟩ := whole_at h h0 h1
      rw [e2] at e
      subst e
      exact h.ok.lo i (List.mem_of_getElem? e1)
  · refine hn.nm z (txK_mem.mp ?_)
    rw [← eq]
    exact List.mem_map_of_mem (f := via (txK first)) hz
theorem whole_out {first cur : List Str} {wk : List Key} (h : Whole first wk cur) (hc : NmOk cur) : ∀ z : Str, Sum.inr z ∈ wk → Sum.inr z ∉ stK (txK first) wk := fun z hz hs => by
  obtain ⟨i, hi, e⟩ := stK_mem hs
  have nd : (wk.map (via (txK first))).Nodup := by
    show (appl (txK first) wk).Nodup
    rw [h.eq]
    exact txK_nd hc.nd
  have := pair_inj nd _ hi _ hz e
  cases this
end G
set_option Elab.async false
set_option linter.all false
set_option maxRecDepth 100000
set_option maxHeartbeats 8000000
/-! LS: a step; another value. -/
namespace G
open PySem PySem.Spec PyProof.Rows L2 NdefX StX PySem.W
theorem le_of_sub {α : Type} [DecidableEq α] : ∀ {xs ys : List α}, xs.Nodup → (∀ x ∈ xs, x ∈ ys) → xs.length ≤ ys.length
  | [], ys, _, _ => Nat.zero_le _
  | x :: xs, ys, nd, h => by
    rw [List.nodup_cons] at nd
    have hx := h x List.mem_cons_self
    have l := List.length_erase_of_mem hx
    have p := List.length_pos_of_mem hx
    have := le_of_sub (xs := xs) (ys := ys.erase x) nd.2 fun y hy => (List.mem_erase_of_ne (fun z => nd.1 (by rw [← z]; exact hy))).mpr (h y (List.mem_cons_of_mem _ hy))
    rw [List.length_cons]
    omega
theorem sub_back {α : Type} [DecidableEq α] {xs ys : List α} (nd : xs.Nodup) (h : ∀ x ∈ xs, x ∈ ys) (l : ys.length ≤ xs.length) : ∀ y ∈ ys, y ∈ xs := fun y hy => by
  by_cases hx : y ∈ xs
  · exact hx
  · have a := List.length_erase_of_mem hy
    have p := List.length_pos_of_mem hy
    have := le_of_sub (xs := xs) (ys := ys.erase y) nd fun x hm => (List.mem_erase_of_ne (fun z => hx (by rw [← z]; exact hm))).mpr (h x hm)
    omega
theorem valV_key {kvs : List (Key × V)} {k : Key} {v : V} (e : valV kvs k = some v) : (k, v) ∈ kvs := by
  have h2 : Option.map (fun p : Key × V => p.2) (kvs.find? fun kv => decide (kv.1 = k)) = some v := e
  obtain ⟨p, hp, e2⟩ := Option.map_eq_some_iff.mp h2
  have e1 := List.find?_some hp
  have hm := List.mem_of_find?_eq_some hp
  obtain ⟨a, b⟩ := p
  have e1' : a = k := by simpa using e1
  have e2' : b = v := e2
  rw [← e1', ← e2']
  exact hm
theorem dEq_imp {ks ls : List (Key × V)} (nk : (ks.map (·.1)).Nodup) (nl : (ls.map (·.1)).Nodup) (h : dEq ks ls = true) : dEq ls ks = true := by
  unfold dEq at h ⊢
  rw [Bool.and_eq_true] at h ⊢
  obtain ⟨h1, h2⟩ := h
  have el : ks.length = ls.length := beq_iff_eq.mp h1
  refine ⟨beq_iff_eq.mpr el.symm, List.all_eq_true.mpr fun p hp => decide_eq_true ?_⟩
  have all : ∀ q ∈ ks, valV ls q.1 = some q.2 := fun q hq => of_decide_eq_true (List.all_eq_true.mp h2 q hq)
  have back := sub_back (ys := ls.map (·.1)) nk (fun x hx => by
    obtain ⟨q, hq, rfl⟩ := List.mem_map.mp hx
    exact List.mem_map.mpr ⟨_, valV_key (all q hq), rfl⟩) (by rw [List.length_map, List.length_map, el]; exact Nat.le_refl _)
  obtain ⟨q, hq, eq⟩ := List.mem_map.mp (back p.1 (List.mem_map.mpr ⟨p, hp, rfl⟩))
  have e1 := all q hq
  have e2 := valV_mem nl hp
  rw [eq, e2] at e1
  have e3 := valV_mem nk hq
  rw [eq] at e3
  rw [e3, ← Option.some.inj e1]
theorem dEq_sym {ks ls : List (Key × V)} (nk : (ks.map (·.1)).Nodup) (nl : (ls.map (·.1)).Nodup) : dEq ks ls = dEq ls ks := by
  cases e : dEq ks ls with
  | true => exact (dEq_imp nk nl e).symm
  | false =>
    cases e2 : dEq ls ks with
    | false => rfl
    | true =>
      rw [dEq_imp nl nk e2] at e
      cases e
/-- what stands for a turn -/
structure EnvL (H : Hp) (b nl fl : Addr) (ys zs : List Str) : Prop where
  en : H nl = some (.lst (ys.map V.str))
  y44 : ys.length = 44
  ynd : ys.Nodup
  ynm : ∀ z ∈ ys, NameZ z
  nnb : nl ≠ b
  ef : H fl = some (.lst (zs.map V.str))
  fnm : ∀ z ∈ zs, NameZ z
  f1 : 1 ≤ zs.length
  f100 : zs.length ≤ 100
  nfb : fl ≠ b
theorem EnvL.but {H H' : Hp} {b nl fl : Addr} {ys zs : List Str} (h : EnvL H b nl fl ys zs) (k : But b H H') : EnvL H' b nl fl ys zs :=
  ⟨k _ _ h.nnb h.en, h.y44, h.ynd, h.ynm, h.nnb, k _ _ h.nfb h.ef, h.fnm, h.f1, h.f100, h.nfb⟩
theorem refs_ne_box {H : Hp} {b l : Addr} {n : Nat} {ts : List Addr} (B : BoxAt H b n) (e : H l = some (.lst (ts.map V.ref))) : l ≠ b := fun z => by
  obtain ⟨x, y, t, eb, _⟩ := B
  rw [z, eb] at e
  cases ts <;> cases e
theorem free_in {H H' : Hp} {b p : Addr} {n : Nat} (B : BoxAt H' b n) (k : But b H H') (h : H' p = none) : H p = none := free_but k (box_ne B h) h
/-- what the class's methods want, said once -/
structure RcM (P : Program) (w : World) (K : PySem.W.Frag) (mg : Str → Option Value) (base : Heap) (C : Addr) where
  c : RcC K C
  fA : Addr
  fdA : FuncData
  mA : Meth K C "inserted" fA
  dA : List Value
  vA : Vals [V.non] dA
  bA : Binds K fdA ["self", "key", "value", "index"] dA
  kA : KBn K fdA ["self", "key", "value", "index"] 3 ["index"] (fun us ws => us ++ ws) (fun vs zs => vs ++ zs)
  GA : FnOk P w K mg base CX0 8 fA fdA ["self", "key", "value", "index"] (spRcA C)
  fR : Addr
  fdR : FuncData
  mR : Meth K C "removed" fR
  bR : Binds K fdR ["self", "key"] []
  GR : FnOk P w K mg base CX0 8 fR fdR ["self", "key"] (spRcR C)
  fM : Addr
  fdM : FuncData
  mM : Meth K C "moved" fM
  bM : Binds K fdM ["self", "key", "index"] []
  GM : FnOk P w K mg base CX0 8 fM fdM ["self", "key", "index"] (spRcM C)
  fV : Addr
  fdV : FuncData
  mV : Meth K C "replaced" fV
  bV : Binds K fdV ["self", "key", "value"] []
  GV : FnOk P w K mg base CX0 8 fV fdV ["self", "key", "value"] (spRcV C)
  fX : Addr
  fdX : FuncData
  mX : Meth K C "extended" fX
  bX : Binds K fdX ["self", "pairs"] []
  GX : FnOk P w K mg base CX0 8 fX fdX ["self", "pairs"] (spRcX K C)
def freshOf (ys : List Str) (ps : List Pr) : List Str := ys.filter fun y => !decide (y ∈ nmsOf ps)
theorem fresh_add (zs : List Str) (y : Str) (ps : List Pr) : freshOf (zs ++ [y]) ps = if (!decide (y ∈ nmsOf ps)) = true then freshOf zs ps ++ [y] else freshOf zs ps := by
  unfold freshOf
  rw [List.filter_append, List.filter_cons, List.filter_nil]
  split
  · rfl
  · rw [List.append_nil]
theorem small200 {k : Int} (h : k ≤ 1000) : k < 2 ^ 200 := by
  have : (2 : Int) ^ 200 > 1000 := by decide
  omega
theorem fresh_len (ys : List Str) (ps : List Pr) : (freshOf ys ps).length ≤ ys.length := List.length_filter_le _ _
theorem fresh_in {ys : List Str} {ps : List Pr} {y : Str} (h : y ∈ freshOf ys ps) : y ∈ ys ∧ y ∉ nmsOf ps := by
  obtain ⟨h1, h2⟩ := List.mem_filter.mp h
  refine ⟨h1, fun z => ?_⟩
  rw [decide_eq_true z] at h2
  cases h2

/-! ### what differs -/
theorem find_mem {ps : List Pr} (nd : (nmsOf ps).Nodup) {q : Pr} (h : q ∈ ps) : ps.find? (fun p => decide (p.1 = q.1)) = some q := by
  induction ps with
  | nil => cases h
  | cons p ps ih =>
    rw [show nmsOf (p :: ps) = p.1 :: nmsOf ps from rfl, List.nodup_cons] at nd
    rcases List.mem_cons.mp h with rfl | h'
    · rw [List.find?_cons_of_pos (by exact decide_eq_true rfl)]
    · have ne : p.1 ≠ q.1 := fun z => nd.1 (by rw [z]; exact List.mem_map_of_mem h')
      rw [List.find?_cons_of_neg (by rw [decide_eq_true_eq]; exact ne)]
      exact ih nd.2 h'
theorem find_fst {ps : List Pr} (nd : (nmsOf ps).Nodup) {p : Pr} (h : p ∈ ps) {q : Pr} (e : p.1 = q.1) : ps.find? (fun r => decide (r.1 = q.1)) = some p := by
  rw [← e]
  exact find_mem nd h
theorem dk_in {ps : List Pr} (ok : PsOk ps) {q : Pr} (h : q ∈ ps) : dk ps q = false := by
  unfold dk
  rw [find_mem ok.nd h]
  show (!dEq q.2 q.2) = false
  rw [dEq_refl (ok.kd q h)]
  rfl
theorem dk_new {ps : List Pr} {q : Pr} (h : q.1 ∉ nmsOf ps) : dk ps q = false := by
  unfold dk
  cases e : ps.find? (fun p => decide (p.1 = q.1)) with
  | none => rfl
  | some p =>
    obtain ⟨h1, h2⟩ := find_in e
    exact absurd (by rw [← h2]; exact List.mem_map_of_mem h1) h
theorem dfs_nil {ps qs : List Pr} (h : ∀ q ∈ qs, dk ps q = false) : dfs ps qs = [] := by
  unfold dfs
  rw [List.filter_eq_nil_iff.mpr fun q hq => by rw [h q hq]; decide]
  rfl
theorem dfs_rep {ps : List Pr} {i : Nat} {p : Pr} {kv : List (Key × V)} (ok : PsOk ps) (hi : ps[i]? = some p) : dfs ps (insP (delP ps i) i (p.1, kv)) = if dEq p.2 kv = true then [] else [p.1] := by
  have all : ∀ q ∈ delP ps i, dk ps q = false := fun q hq => dk_in ok ((delP_sub ps i).subset hq)
  have e : dk ps (p.1, kv) = !dEq p.2 kv := by
    unfold dk
    rw [find_fst ok.nd (List.mem_of_getElem? hi) rfl]
  unfold dfs insP
  rw [List.filter_append, List.filter_eq_nil_iff.mpr fun q hq => by rw [all q (List.mem_of_mem_take hq)]; decide, List.nil_append]
  by_cases c : dEq p.2 kv = true
  · rw [if_pos c, List.filter_cons_of_neg (by rw [e, c]; decide), List.filter_eq_nil_iff.mpr fun q hq => by rw [all q (List.mem_of_mem_drop hq)]; decide]
    rfl
  · rw [if_neg c, List.filter_cons_of_pos (by rw [e, Bool.eq_false_iff.mpr c]; rfl), List.filter_eq_nil_iff.mpr fun q hq => by rw [all q (List.mem_of_mem_drop hq)]; decide]
    rfl
theorem nms_ins (ps : List Pr) (i : Nat) (p : Pr) : nmsOf (insP ps i p) = insP (nmsOf ps) i p.1 := insP_map _ _ _ _
theorem nms_del (ps : List Pr) (i : Nat) : nmsOf (delP ps i) = delP (nmsOf ps) i := delP_map _ _ _
theorem nms_at {ps : List Pr} {i : Nat} {p : Pr} (h : ps[i]? = some p) : (nmsOf ps)[i]? = some p.1 := by
  unfold nmsOf
  rw [List.getElem?_map, h]
  rfl
/-! ### a step -/
abbrev sStep : Stmt := topS 66
abbrev nStep : List Str := ["_law_box_here", "_law_records", "_law_names_here", "_law_fields", "_law_known", "_law_way", "_law_name", "_law_fresh", "_law_at", "_law_some", "_law_worth", "_law_one"]
abbrev pStep : List Str := ["_law_box_here", "_law_records", "_law_names_here", "_law_fields"]
theorem scStep : FnScope nStep pStep (defScope sStep) := ⟨rfl, rfl, rfl, by decide +kernel, rfl, by decide +kernel, by decide +kernel⟩
structure SIn (C : Addr) (H : Hp) (b a nl fl kn : Addr) (m : Nat) (ps : List Pr) (ys zs : List Str) : Prop where
  B : BoxAt H b m
  m7 : m ≤ 71000
  R : RecAt C H a ps
  ok : PsOk ps
  env : EnvL H b nl fl ys zs
  ek : H kn = some (.lst ((nmsOf ps).map V.str))
  knb : kn ≠ b
  sub : ∀ z ∈ nmsOf ps, z ∈ ys
theorem SIn.but {C b a nl fl kn : Addr} {H H' : Hp} {m m' : Nat} {ps : List Pr} {ys zs : List Str} (h : SIn C H b a nl fl kn m ps ys zs) (k : But b H H') (B' : BoxAt H' b m') (l : m' ≤ 71000) : SIn C H' b a nl fl kn m' ps ys zs :=
  ⟨B', l, h.R.box h.B k, h.ok, h.env.but k, k _ _ h.knb h.ek, h.knb, h.sub⟩
/-- what a step hands back -/
def EndS (C : Addr) (H : Hp) (b : Addr) (m : Nat) (ps : List Pr) (ys : List Str) (Q : VK) : Prop := ∀ (T a' R : Addr) (d : Nat) (qs : List Pr) (H' : Hp), H T = none → H' T = some (.tup [.ref a', .int (d : Nat), .ref R]) → RecAt C H' a' qs → PsOk qs → (∀ z ∈ nmsOf qs, z ∈ ys) → H' R = some (.lst ((dfs ps qs).map V.str)) → StepsDue (nmsOf ps) (nmsOf qs) d → BoxAt H' b m → But b H H' → Q (.ref T) H'
theorem EndS.mono {C b : Addr} {H H0 : Hp} {m m0 : Nat} {ps : List Pr} {ys : List Str} {Q : VK} (q : EndS C H b m ps ys Q) (B0 : BoxAt H0 b m0) (k : But b H H0) : EndS C H0 b m ps ys Q :=
  fun T a' R d qs H' hT eT r ok sub eR due B' k' => q T a' R d qs H' (free_in B0 k hT) eT r ok sub eR due B' (k.trans k')
theorem end_fin {C b a' R T : Addr} {H H9 : Hp} {m m9 d : Nat} {ps qs : List Pr} {ys : List Str} {Q : VK} (q : EndS C H b m ps ys Q) (B9 : BoxAt H9 b m9) (l : m9 ≤ m) (k : But b H H9) (r : RecAt C H9 a' qs) (ok : PsOk qs) (sub : ∀ z ∈ nmsOf qs, z ∈ ys) (eR : H9 R = some (.lst ((dfs ps qs).map V.str))) (due : StepsDue (nmsOf ps) (nmsOf qs) d) (hT : H9 T = none) :
    Q (.ref T) (upd H9 T (.tup [.ref a', .int (d : Nat), .ref R])) := by
  have tT := Same.new (o := .tup [.ref a', .int (d : Nat), .ref R]) hT
  exact q T a' R d qs _ (free_in B9 k hT) upd_same (r.same tT) ok sub (tT _ _ eR) due ((B9.keep fun o e => tT _ _ e).mono l) (k.trans (.same tT))
end G
set_option Elab.async false
set_option linter.all false
set_option maxRecDepth 100000
set_option maxHeartbeats 8000000
/-! LT: a step's last ways. -/
namespace G
open PySem PySem.Spec PyProof.Rows L2 NdefX StX PySem.W
/-- o[k] of the records -/
structure GetM (P : Program) (w : World) (K : PySem.W.Frag) (mg : Str → Option Value) (base : Heap) (C fG : Addr) (fdG : FuncData) : Prop where
  m : OwnM K C "__getitem__" fG
  i : PySem.W.fnIn K fG = true
  b : Binds K fdG ["self", "key"] []
  G : FnOk P w K mg base CX0 2 fG fdG ["self", "key"] (spRcG C)
theorem valOk_int {zs : List Str} {kvs : List (Key × V)} (h : ValOk zs kvs) : AllInt kvs := fun x hx => by
  obtain ⟨z, i, e, _⟩ := h.is x hx
  exact ⟨i, by rw [e]⟩
section
variable {P : Program} {w : World} {K : PySem.W.Frag} {mg : Str → Option Value} {base : Heap}
theorem step8 {C fG : Addr} {fdG : FuncData} {cdv : Value} {A : Around} {outer : List Env} {s : Shared} {H : Hp} {E : XK} {f : Addr} (R : RcM P w K mg base C) (g : GetM P w K mg base C fG fdG) (mI : mg "int" = none)
    (hr : Room 8 (A.deeper (envOfC "_law_step" (defScope sStep) s.heap.objs.size f cdv))) :
    ∃ t, PSs (cxOf CX0 P w K mg base nStep "_law_step" (defScope sStep) f cdv A outer s H E).nox ((defBody sStep).drop 8) t ∧
      ∀ (Q : VK) (De : Ends) (x5 x7 x8 x9 x11 : Option V) (b a nl fl kn v : Addr) (m M i : Nat) (p : Pr) (ps : List Pr) (ys zs zv : List Str) (kv : List (Key × V)) (H0 : Hp), De.rt = Q → SIn C H0 b a nl fl kn m ps ys zs → m ≤ M → ps[i]? = some p → H0 v = some (.dK kv) → ValOk zv kv → (kv.map (·.1)).Nodup → EndS C H0 b M ps ys Q →
        t De [some (.ref b), some (.ref a), some (.ref nl), some (.ref fl), some (.ref kn), x5, some (.str p.1), x7, x8, x9, some (.ref v), x11] H0 := by
  have hr2 := hr.mono (show 2 + 1 ≤ 8 by decide)
  have hu := Nat.lt_of_succ_lt (hu_of hr)
  refine ⟨_, pss_one (ps_ret (pe_tup (pa_cons (pe_meth (pv 1) R.c.cl R.mV R.GV hr R.bV .nil pass0 (pa_cons (pv 6) (pa_cons (pv 10) pa_nil))) (pa_cons pe_int (pa_cons (pe_op op_rep (pe_lst (pa_cons (pv 6) pa_nil))
    (pe_callTy call_int1 (by rfl) mI (by decide +kernel) (pa_cons (pe_cmpR (op_neDI hu) (pv 10) (pe_getO g.m g.i g.b g.G hr2 (pv 1) (pv 6)) (nomark _)) pa_nil))) pa_nil))))), ?_⟩
  intro Q De x5 x7 x8 x9 x11 b a nl fl kn v m M i p ps ys zs zv kv H0 eQ S lm hi ev hv kd q
  subst eQ
  obtain ⟨dx, _, _, _, ea, _⟩ := id S.R
  have mp := List.mem_of_getElem? hi
  refine ⟨_, rfl, a, dx, _, rfl, ea, rfl, _, rfl, _, rfl, a, v, ps, i, p, zv, kv, rfl, S.R, S.ok, hi, ev, hv, kd, fun a' H1 na s1 ra => ?_⟩
  refine ⟨_, rfl, (by show 1 ≤ sizeLine; decide), fun L hL => ?_⟩
  have s2 := s1.trans (Same.new (o := .lst [.str p.1]) hL)
  have eL : (upd H1 L (.lst [.str p.1])) L = some (.lst [.str p.1]) := upd_same
  have ra2 := (ra.same Nw.sub).same (Same.new (o := .lst [.str p.1]) hL)
  generalize upd H1 L (.lst [.str p.1]) = H2 at s2 eL ra2 ⊢
  refine ⟨_, rfl, _, rfl, _, rfl, a, dx, _, rfl, s2 _ _ ea, a, ps, i, p, rfl, S.R.same s2, S.ok, hi, fun d hd => ?_⟩
  have s3 := s2.trans (Same.new (o := .dK p.2) hd)
  refine ⟨v, d, kv, p.2, rfl, rfl, s3 _ _ ev, upd_same, valOk_int hv, (S.ok.ints mp), .inr ⟨_, rfl, ?_⟩⟩
  have eLL := Same.new (o := .dK p.2) hd _ _ eL
  have ra3 := ra2.same (Same.new (o := .dK p.2) hd)
  generalize upd H2 d (.dK p.2) = H3 at s3 eLL ra3 ⊢
  refine ⟨L, _, _, rfl, rfl, eLL, by split <;> decide, by split <;> decide, ?_, fun Ra hRa => ⟨(by show 3 ≤ sizeLine; decide), fun T hT => ?_⟩⟩
  · rw [sizeLine_eq]
    show 1 * Int.toNat _ ≤ 16777216
    split <;> decide
  have s4 := s3.trans (Same.new (o := .lst (List.replicate (if (!dEq kv p.2) = true then (1 : Int) else 0).toNat [V.str p.1]).flatten) hRa)
  refine end_fin (m9 := m) (d := 0) (qs := insP (delP ps i) i (p.1, kv)) q (S.B.keep fun o e => s4 _ _ e) lm (.same s4) (ra3.same (Same.new hRa)) ?_ ?_ ?_ ?_ hT
  · have out : p.1 ∉ nmsOf (delP ps i) := S.ok.out hi
    have hd := S.ok.del i
    have ll := delP_len (List.getElem?_eq_some_iff.mp hi).1
    have h40 := S.ok.few
    have hpos := (List.getElem?_eq_some_iff.mp hi).1
    exact hd.ins (p := (p.1, kv)) i (by omega) out (S.ok.nm p mp) hv kd
  · intro z hz
    rw [nms_ins, nms_del, ins_del (nms_at hi)] at hz
    exact S.sub z hz
  · rw [upd_same, dfs_rep S.ok hi, dEq_sym kd (S.ok.kd p mp)]
    by_cases c : dEq p.2 kv = true
    · rw [if_pos c, c]
      rfl
    · rw [if_neg c, Bool.eq_false_iff.mpr c]
      rfl
  · rw [nms_ins, nms_del, ins_del (nms_at hi)]
    exact due_same S.ok.nd
/-- the value drawn or read -/
theorem step7 {C fG fT fL : Addr} {fdG fdT fdL : FuncData} {cdv : Value} {A : Around} {outer : List Env} {s : Shared} {H : Hp} {E : XK} {f : Addr} (R : RcM P w K mg base C) (g : GetM P w K mg base C fG fdG) (mI : mg "int" = none)
    (T : Fun K "_law_take" "_law_take" sTake fT fdT) (bT : Binds K fdT ["_law_box_here", "_law_many"] []) (gT : mg "_law_take" = some (.ref fT))
    (GL : FnOk P w K mg base CX0 3 fL fdL ["_law_box_here", "_law_fields"] (spValue K)) (gL : mg "_law_value" = some (.ref fL)) (kL : PySem.W.keepIn K (.ref fL) = true) (bL : Binds K fdL ["_law_box_here", "_law_fields"] [])
    (hr : Room 8 (A.deeper (envOfC "_law_step" (defScope sStep) s.heap.objs.size f cdv))) :
    ∃ t, PSs (cxOf CX0 P w K mg base nStep "_law_step" (defScope sStep) f cdv A outer s H E).nox ((defBody sStep).drop 7) t ∧
      ∀ (Q : VK) (De : Ends) (x5 x7 x8 x9 x10 x11 : Option V) (b a nl fl kn : Addr) (m M i : Nat) (p : Pr) (ps : List Pr) (ys zs : List Str) (H0 : Hp), De.rt = Q → SIn C H0 b a nl fl kn m ps ys zs → m + 300 ≤ M → M ≤ 71000 → ps[i]? = some p → EndS C H0 b M ps ys Q →
        t De [some (.ref b), some (.ref a), some (.ref nl), some (.ref fl), some (.ref kn), x5, some (.str p.1), x7, x8, x9, x10, x11] H0 := by
  have GT : FnOk P w K mg base CX0 1 fT fdT ["_law_box_here", "_law_many"] spTake := ok_take T
  have hr1 := hr.mono (show 1 ≤ 8 by decide)
  have hr2 := hr.mono (show 2 + 1 ≤ 8 by decide)
  have hr3 := hr.mono (show 3 ≤ 8 by decide)
  obtain ⟨tz, pz, qz⟩ := step8 (P := P) (w := w) (K := K) (mg := mg) (base := base) (cdv := cdv) (A := A) (outer := outer) (s := s) (H := H) (E := E) (f := f) R g mI hr
  refine ⟨_, pss_cons (ps_set (i := 10) scStep.nd rfl (.inl rfl) (pe_ix ix_list (pe_lst (pa_cons (pe_call GL hr3 rfl gL kL bL .nil pass0 (pa_cons (pv 0) (pa_cons (pv 3) pa_nil))) (pa_cons (pe_getO g.m g.i g.b g.G hr2 (pv 1) (pv 6)) pa_nil)))
    (pe_call GT hr1 rfl gT T.kp bT .nil pass0 (pa_cons (pv 0) (pa_cons pe_int pa_nil))) (fun _ _ => rfl))) pz, ?_⟩
  intro Q De x5 x7 x8 x9 x10 x11 b a nl fl kn m M i p ps ys zs H0 eQ S lm lM hi q
  have mp := List.mem_of_getElem? hi
  have env := S.env
  refine ⟨_, rfl, _, rfl, b, fl, m, zs, rfl, S.B, by omega, env.ef, env.fnm, env.f1, env.f100, env.nfb, fun w1 H2 kvs nw ew kd vn p1 p6 pz' B2 k2 => ?_⟩
  have nwb := box_ne S.B nw
  have S2 := S.but k2 B2 (by omega)
  obtain ⟨dx, _, _, _, ea, _⟩ := id S2.R
  refine ⟨_, rfl, _, rfl, a, dx, _, rfl, ea, a, ps, i, p, rfl, S2.R, S.ok, hi, fun d hd => ⟨(by show 2 ≤ sizeLine; decide), fun L hL => ?_⟩⟩
  have nLb := box_ne (B2.keep fun o e => Same.new (o := .dK p.2) hd _ _ e) hL
  have ndb := box_ne B2 hd
  have t1 := (Same.new (o := .dK p.2) hd).trans (Same.new (o := .lst [.ref w1, .ref d]) hL)
  have ed : (upd (upd H2 d (.dK p.2)) L (.lst [.ref w1, .ref d])) d = some (.dK p.2) := Same.new (o := .lst [.ref w1, .ref d]) hL _ _ upd_same
  have eL : (upd (upd H2 d (.dK p.2)) L (.lst [.ref w1, .ref d])) L = some (.lst [.ref w1, .ref d]) := upd_same
  have ew3 := t1 _ _ ew
  have B3 := B2.keep fun o e => t1 _ _ e
  have k3 := k2.trans (.same t1)
  generalize upd (upd H2 d (.dK p.2)) L (.lst [.ref w1, .ref d]) = H3 at ed eL ew3 B3 k3 ⊢
  refine ⟨_, rfl, b, 2, _, rfl, B3, by omega, by decide, by decide, fun r H5 r0 r1 B5 k5 => ?_⟩
  have S5 := S.but (k3.trans k5) B5 (by omega)
  have q5 := q.mono B5 (k3.trans k5)
  obtain ⟨j, rfl, hj⟩ := draw_at (n := 2) r0 r1 rfl
  obtain ⟨zv, hv⟩ := S.ok.val p mp
  have hj' : j = 0 ∨ j = 1 := by omega
  rcases hj' with rfl | rfl
  · refine ⟨L, _, _, .ref w1, rfl, rfl, .of (k5 _ _ nLb eL), atI_nat (j := 0) rfl, ?_⟩
    exact qz Q De x5 x7 x8 x9 x11 b a nl fl kn w1 _ M i p ps ys zs zs kvs H5 eQ S5 (by omega) hi (k5 _ _ nwb ew3) ⟨env.fnm, vn, p1, p6⟩ kd q5
  · refine ⟨L, _, _, .ref d, rfl, rfl, .of (k5 _ _ nLb eL), atI_nat (j := 1) rfl, ?_⟩
    exact qz Q De x5 x7 x8 x9 x11 b a nl fl kn d _ M i p ps ys zs zv p.2 H5 eQ S5 (by omega) hi (k5 _ _ ndb ed) hv (S.ok.kd p mp) q5
end
end G
set_option Elab.async false
set_option linter.all false
set_option maxRecDepth 100000
set_option maxHeartbeats 8000000
/-! LU: a step: several more. -/
namespace G
open PySem PySem.Spec PyProof.Rows L2 NdefX StX PySem.W
section
variable {P : Program} {w : World} {K : PySem.W.Frag} {mg : Str → Option Value} {base : Heap}
theorem step6 {C fG fT fL : Addr} {fdG fdT fdL : FuncData} {cdv : Value} {A : Around} {outer : List Env} {s : Shared} {H : Hp} {E : XK} {f : Addr} (R : RcM P w K mg base C) (g : GetM P w K mg base C fG fdG) (mI : mg "int" = none) (ml : mg "len" = none) (mmn : mg "min" = none)
    (T : Fun K "_law_take" "_law_take" sTake fT fdT) (bT : Binds K fdT ["_law_box_here", "_law_many"] []) (gT : mg "_law_take" = some (.ref fT))
    (GL : FnOk P w K mg base CX0 3 fL fdL ["_law_box_here", "_law_fields"] (spValue K)) (gL : mg "_law_value" = some (.ref fL)) (kL : PySem.W.keepIn K (.ref fL) = true) (bL : Binds K fdL ["_law_box_here", "_law_fields"] [])
    (hr : Room 8 (A.deeper (envOfC "_law_step" (defScope sStep) s.heap.objs.size f cdv))) :
    ∃ t, PSs (cxOf CX0 P w K mg base nStep "_law_step" (defScope sStep) f cdv A outer s H E).nox ((defBody sStep).drop 6) t ∧
      ∀ (Q : VK) (De : Ends) (way : Int) (x8 x9 x10 : Option V) (b a nl fl kn D : Addr) (m M i : Nat) (p : Pr) (ps : List Pr) (ys zs : List Str) (H0 : Hp), De.rt = Q → SIn C H0 b a nl fl kn m ps ys zs → m + 1300 ≤ M → M ≤ 71000 → ps[i]? = some p → H0 D = some (.lst ((freshOf ys ps).map V.str)) → D ≠ b → EndS C H0 b M ps ys Q →
        t De [some (.ref b), some (.ref a), some (.ref nl), some (.ref fl), some (.ref kn), some (.int way), some (.str p.1), some (.ref D), x8, x9, x10, none] H0 := by
  have GT : FnOk P w K mg base CX0 1 fT fdT ["_law_box_here", "_law_many"] spTake := ok_take T
  have hr1 := hr.mono (show 1 ≤ 8 by decide)
  have hr3 := hr.mono (show 3 ≤ 8 by decide)
  obtain ⟨tz, pz, qz⟩ := step7 (P := P) (w := w) (K := K) (mg := mg) (base := base) (cdv := cdv) (A := A) (outer := outer) (s := s) (H := H) (E := E) (f := f) R g mI T bT gT GL gL kL bL hr
  refine ⟨_, pss_cons (ps_if (pt_cmpR op_eq (pv 5) pe_int (nomark _))
    (pss_cons (ps_setLc (i := 9) (own := [("_law_one", 11)]) (g := gName 11) (tt := tYes) (by rfl) scStep.nd rfl rfl (sw_true rfl rfl rfl (by decide +kernel)) (pi_list (pe_slice (r := rSlL K) sl_list (pv 7) po_none (po_some
        (pe_callB (call_min2 rfl) (by rfl) mmn (by decide +kernel) (pa_cons (pe_call GT hr1 rfl gT T.kp bT .nil pass0 (pa_cons (pv 0) (pa_cons pe_int pa_nil))) (pa_cons (pe_op op_sub pe_int (pe_callB call_len_seq (by rfl) ml PySem.boot_len (pa_cons (pv 4) pa_nil))) pa_nil))))))
      (blkOk_by (own := [("_law_one", 11)]) (N := nStep) (sc := defScope sStep) (by decide +kernel)) (fun _ _ _ _ _ => pg_name (i := 11) scStep.nd rfl (.inl rfl)) (fun _ _ _ _ _ => pts_nil)
      (fun _ _ _ _ _ => pe_tup (pa_cons (pv 11) (pa_cons (pe_call GL hr3 rfl gL kL bL .nil pass0 (pa_cons (pv 0) (pa_cons (pv 3) pa_nil))) pa_nil))))
    (pss_one (ps_ret (pe_tup (pa_cons (pe_meth (pv 1) R.c.cl R.mX R.GX hr R.bX .nil pass0 (pa_cons (pv 9) pa_nil)) (pa_cons (pe_callB call_len_seq (by rfl) ml PySem.boot_len (pa_cons (pv 9) pa_nil)) (pa_cons (pe_lst pa_nil) pa_nil))))))) pss_nil) pz, ?_⟩
  intro Q De way x8 x9 x10 b a nl fl kn D m M i p ps ys zs H0 eQ S lm lM hi eD nDb q
  have env := S.env
  have h40 := S.ok.few
  refine ⟨_, rfl, rfl, _, rfl, ite2 (fun _ => ?_) (fun _ => ?_)⟩
  · refine ⟨_, rfl, _, rfl, b, 4, _, rfl, S.B, by omega, by decide, by decide, fun r H1 r0 r1 B1 k1 => ?_⟩
    have S1 := S.but k1 B1 (by omega)
    have lkn : ((nmsOf ps).map V.str).length = ps.length := by rw [List.length_map, List.length_map]
    refine ⟨_, rfl, kn, _, rfl, .inl (.of S1.ek), _, _, rfl, rfl, _, _, rfl, ?_⟩
    rw [lkn]
    have eD1 := k1 _ _ nDb eD
    obtain ⟨j, ej, hj3, hj40⟩ : ∃ j : Nat, (if (40 : Int) - (ps.length : Nat) < r then (40 : Int) - (ps.length : Nat) else r) = (j : Int) ∧ j ≤ 3 ∧ j + ps.length ≤ 40 := by
      refine ⟨(if (40 : Int) - (ps.length : Nat) < r then (40 : Int) - (ps.length : Nat) else r).toNat, ?_, ?_, ?_⟩ <;> split <;> omega
    rw [ej]
    refine ⟨_, rfl, D, _, rfl, .of eD1, fun m1 hm1 => ?_⟩
    rw [cutV_take, ← List.map_take]
    have t1 := Same.new (o := .lst (((freshOf ys ps).take j).map V.str)) hm1
    have hgl : ((freshOf ys ps).take j).length ≤ j := by
      rw [List.length_take]
      omega
    have em1 : (upd H1 m1 (.lst (((freshOf ys ps).take j).map V.str))) m1 = some (.lst (((freshOf ys ps).take j).map V.str)) := upd_same
    have B6 := B1.keep (fun o e => t1 _ _ e)
    have k6 := k1.trans (.same t1)
    have nm1b := box_ne B1 hm1
    generalize upd H1 m1 (.lst (((freshOf ys ps).take j).map V.str)) = G6 at em1 B6 k6 ⊢
    have sub9 : ((freshOf ys ps).take j).Sublist ys := (List.take_sublist _ _).trans List.filter_sublist
    have out9 : ∀ z ∈ (freshOf ys ps).take j, z ∉ nmsOf ps := fun z hz => (fresh_in (List.mem_of_mem_take hz)).2
    generalize (freshOf ys ps).take j = gs at em1 hgl sub9 out9 ⊢
    refine ⟨m1, rfl, ⟨_, .of em1⟩, fun D9 hD9 => ?_⟩
    have nD9b := box_ne B6 hD9
    refine lc_list (xs := gs.map V.str) (fun i H3 => ∃ (us : List Addr) (qs : List Pr), H3 D9 = some (.lst (us.map V.ref)) ∧ AllPr H3 us qs ∧ nmsOf qs = gs.take i ∧ (∀ q ∈ qs, VOk zs q.2) ∧ BoxAt H3 b (m + 300 + 300 * i) ∧ But b G6 H3) ?_ ?_ ?_ ?_
    · exact ⟨[], [], upd_same, trivial, rfl, (fun _ h => nomatch h), (box_new B6 hD9).mono (by omega), But.new hD9⟩
    · rintro i H3 _ ⟨us, qs, _, _, _, _, _, k⟩
      exact .of (k _ _ nm1b em1)
    · rintro i9 x H3 hx ⟨us, qs, e3, al3, nm3, ok3, B3, k3⟩
      have hi9 : i9 < gs.length := by
        have := (List.getElem?_eq_some_iff.mp hx).1
        rwa [List.length_map] at this
      rw [List.getElem?_map] at hx
      obtain ⟨z, hz, rfl⟩ := Option.map_eq_some_iff.mp hx
      refine ⟨rfl, ?_⟩
      unfold tYes
      dsimp only
      rw [if_pos rfl]
      refine ⟨_, rfl, _, rfl, _, rfl, b, fl, _, zs, rfl, B3, by omega, k3 _ _ env.nfb (env.but k6).ef, env.fnm, env.f1, env.f100, env.nfb, fun d H4 kvs nd e4 ndk vn p1 p6 pz' B4 k4 => ?_⟩
      refine ⟨(by show 2 ≤ sizeLine; decide), fun t ht => ?_⟩
      have e5 := Same.new (o := .tup [.str z, .ref d]) ht _ _ (k4 _ _ nD9b e3)
      have k5' : But b H3 (upd H4 t (.tup [.str z, .ref d])) := k4.trans (But.new ht)
      have al5' := al3.sf (.of_but B3 k5')
      have one : AllPr (upd H4 t (.tup [.str z, .ref d])) [t] [(z, kvs)] := ⟨⟨d, upd_same, Same.new ht _ _ e4⟩, trivial⟩
      have B5' := (box_new (o := .tup [.str z, .ref d]) B4 ht)
      refine ⟨_, e5, ?_, us ++ [t], qs ++ [(z, kvs)], ?_, pr_at_up e5 (al5'.app one), ?_, ?_, (box_upd B5' nD9b).mono (by omega), but_upd (k3.trans k5') hD9⟩
      · have := congrArg List.length nm3
        rw [List.length_map, List.length_take] at this
        rw [List.length_map, al3.len]
        exact small1000 (by omega)
      · rw [upd_same, List.map_append]
        rfl
      · rw [show nmsOf (qs ++ [(z, kvs)]) = nmsOf qs ++ [z] from List.map_append, nm3, List.take_add_one, hz]
        rfl
      · intro r hr'
        rcases List.mem_append.mp hr' with hr' | hr'
        · exact ok3 r hr'
        · rw [List.mem_singleton.mp hr']
          exact ⟨⟨env.fnm, vn, p1, p6⟩, ndk⟩
    rintro H7 ⟨us9, qs, e9, al9, nm9, ok9, B7, k67⟩
    rw [List.length_map] at nm9 B7
    rw [List.take_length] at nm9
    have k07 := k6.trans k67
    have lqg : qs.length = gs.length := by
      have := congrArg List.length nm9
      rwa [List.length_map] at this
    have okj : PsOk (ps ++ qs) := by
      refine ⟨?_, ?_, fun p hp => ?_, fun p hp => ?_, fun p hp => ?_⟩
      · rw [List.length_append]
        omega
      · rw [List.map_append, List.nodup_append]
        refine ⟨S.ok.nd, ?_, fun x h1 z h2 e => ?_⟩
        · rw [show qs.map (·.1) = gs from nm9]
          exact sub9.nodup env.ynd
        · rw [show qs.map (·.1) = gs from nm9] at h2
          exact out9 z h2 (e ▸ h1)
      · rcases List.mem_append.mp hp with hp | hp
        · exact S.ok.nm p hp
        · exact env.ynm _ (sub9.subset (nm9 ▸ List.mem_map.mpr ⟨p, hp, rfl⟩))
      · rcases List.mem_append.mp hp with hp | hp
        · exact S.ok.val p hp
        · exact ⟨zs, (ok9 p hp).ok⟩
      · rcases List.mem_append.mp hp with hp | hp
        · exact S.ok.kd p hp
        · exact (ok9 p hp).nd
    have S7 := S.but k07 B7 (by omega)
    obtain ⟨dx, _, _, _, ea, _⟩ := id S7.R
    refine ⟨_, rfl, a, dx, _, rfl, ea, rfl, _, rfl, a, D9, ps, qs, us9, rfl, S7.R, S.ok, .inl (.of e9), al9, okj, fun a' HY na sY ra => ?_⟩
    refine ⟨_, rfl, D9, _, rfl, .inl (.of (sY _ _ e9)), ⟨(by show 0 ≤ sizeLine; decide), fun E0 hE => ⟨(by show 3 ≤ sizeLine; decide), fun T hT => ?_⟩⟩⟩
    have tE := Same.new (o := .lst []) hE
    have s8 := Same.trans (show Same H7 HY from sY) tE
    have q7 := q.mono B7 k07
    subst eQ
    have lus : (us9.map V.ref).length = gs.length := by rw [List.length_map, al9.len, lqg]
    rw [lus]
    refine end_fin (m9 := m + 300 + 300 * gs.length) (d := gs.length) (qs := ps ++ qs) q7 (B7.keep fun o e => s8 _ _ e) (by omega) (.same s8) ((ra.same Nw.sub).same tE) okj ?_ ?_ ?_ hT
    · intro z hz
      rw [show nmsOf (ps ++ qs) = nmsOf ps ++ nmsOf qs from List.map_append, nm9] at hz
      rcases List.mem_append.mp hz with hz | hz
      · exact S.sub z hz
      · exact sub9.subset hz
    · rw [dfs_nil fun q hq => ?_]
      · exact upd_same
      · rcases List.mem_append.mp hq with hq | hq
        · exact dk_in S.ok hq
        · exact dk_new (out9 _ (nm9 ▸ List.mem_map_of_mem hq))
    · rw [show nmsOf (ps ++ qs) = nmsOf ps ++ nmsOf qs from List.map_append, nm9]
      exact due_ext S.ok.nd out9
  · subst eQ
    exact qz De.rt De (some (.int way)) (some (.ref D)) x8 x9 x10 none b a nl fl kn m M i p ps ys zs H0 rfl S (by omega) lM hi q
end
end G
set_option Elab.async false
set_option linter.all false
set_option maxRecDepth 100000
set_option maxHeartbeats 8000000
/-! LV: a step: one moved, one fewer. -/
namespace G
open PySem PySem.Spec PyProof.Rows L2 NdefX StX PySem.W
theorem rIndex_S {K : PySem.W.Frag} {H : Hp} {l : Addr} {rs : List Str} {z : Str} {Q : VK} {i : Nat} (hl : SqL K H l (rs.map V.str)) (nd : rs.Nodup) (hi : rs[i]? = some z) (q : Q (.int (i : Nat)) H) : rIndex K (.ref l) [.str z] H Q := by
  refine ⟨l, _, _, i, .str z, rfl, rfl, hl, rfl, flat_strs _, ?_, beq_self_eq_true _, ?_, q⟩
  · rw [List.getElem?_map, hi]
    rfl
  · intro m z' hm e
    rw [List.getElem?_map] at e
    obtain ⟨y, ey, rfl⟩ := Option.map_eq_some_iff.mp e
    show (y == z) = false
    rw [str_beq]
    refine decide_eq_false fun z2 => ?_
    subst z2
    obtain ⟨h1, e1⟩ := List.getElem?_eq_some_iff.mp ey
    obtain ⟨h2, e2⟩ := List.getElem?_eq_some_iff.mp hi
    have := (List.getElem_inj nd).mp (e1.trans e2.symm)
    omega
section
variable {P : Program} {w : World} {K : PySem.W.Frag} {mg : Str → Option Value} {base : Heap}
theorem step5 {C fG fT fL : Addr} {fdG fdT fdL : FuncData} {cdv : Value} {A : Around} {outer : List Env} {s : Shared} {H : Hp} {E : XK} {f : Addr} (R : RcM P w K mg base C) (g : GetM P w K mg base C fG fdG) (mI : mg "int" = none) (ml : mg "len" = none) (mmn : mg "min" = none)
    (T : Fun K "_law_take" "_law_take" sTake fT fdT) (bT : Binds K fdT ["_law_box_here", "_law_many"] []) (gT : mg "_law_take" = some (.ref fT))
    (GL : FnOk P w K mg base CX0 3 fL fdL ["_law_box_here", "_law_fields"] (spValue K)) (gL : mg "_law_value" = some (.ref fL)) (kL : PySem.W.keepIn K (.ref fL) = true) (bL : Binds K fdL ["_law_box_here", "_law_fields"] [])
    (hr : Room 8 (A.deeper (envOfC "_law_step" (defScope sStep) s.heap.objs.size f cdv))) :
    ∃ t, PSs (cxOf CX0 P w K mg base nStep "_law_step" (defScope sStep) f cdv A outer s H E).nox ((defBody sStep).drop 4) t ∧
      ∀ (Q : VK) (De : Ends) (way : Int) (x9 x10 : Option V) (b a nl fl kn D : Addr) (m M i j : Nat) (p : Pr) (ps : List Pr) (ys zs : List Str) (H0 : Hp), De.rt = Q → SIn C H0 b a nl fl kn m ps ys zs → m + 1300 ≤ M → M ≤ 71000 → ps[i]? = some p → j < ps.length → H0 D = some (.lst ((freshOf ys ps).map V.str)) → D ≠ b → EndS C H0 b M ps ys Q →
        t De [some (.ref b), some (.ref a), some (.ref nl), some (.ref fl), some (.ref kn), some (.int way), some (.str p.1), some (.ref D), some (.int (j : Nat)), x9, x10, none] H0 := by
  obtain ⟨tz, pz, qz⟩ := step6 (P := P) (w := w) (K := K) (mg := mg) (base := base) (cdv := cdv) (A := A) (outer := outer) (s := s) (H := H) (E := E) (f := f) R g mI ml mmn T bT gT GL gL kL bL hr
  refine ⟨_, pss_cons (ps_if (pt_cmpR op_lt (pv 5) pe_int (nomark _))
      (pss_one (ps_ret (pe_tup (pa_cons (pe_meth (pv 1) R.c.cl R.mR R.GR hr R.bR .nil pass0 (pa_cons (pv 6) pa_nil)) (pa_cons pe_int (pa_cons (pe_lst pa_nil) pa_nil)))))) pss_nil)
    (pss_cons (ps_if (pt_cmpR op_eq (pv 5) pe_int (nomark _))
      (pss_one (ps_ret (pe_tup (pa_cons (pe_meth (pv 1) R.c.cl R.mM R.GM hr R.bM .nil pass0 (pa_cons (pv 6) (pa_cons (pv 8) pa_nil))) (pa_cons (pe_callTy call_int1 (by rfl) mI (by decide +kernel) (pa_cons (pe_cmpR op_ne
        (pe_bm PySem.F.plainAttrs_list PySem.F.slot_list_index PySem.F.type_list_index mt_index (pv 4) (pa_cons (pv 6) pa_nil)) (pv 8) (nomark _)) pa_nil)) (pa_cons (pe_lst pa_nil) pa_nil)))))) pss_nil) pz), ?_⟩
  intro Q De way x9 x10 b a nl fl kn D m M i j p ps ys zs H0 eQ S lm lM hi hj eD nDb q
  subst eQ
  obtain ⟨dx, _, _, _, ea, _⟩ := id S.R
  have li := (List.getElem?_eq_some_iff.mp hi).1
  refine ⟨_, rfl, _, _, rfl, rfl, _, rfl, ite2 (fun _ => ?_) (fun _ => ?_)⟩
  · refine ⟨_, rfl, a, dx, _, rfl, ea, rfl, _, rfl, a, ps, i, p, rfl, S.R, S.ok, hi, fun a' H1 na s1 ra => ⟨(by show 0 ≤ sizeLine; decide), fun E0 hE => ⟨(by show 3 ≤ sizeLine; decide), fun T hT => ?_⟩⟩⟩
    have tE := Same.new (o := .lst []) hE
    have s2 := s1.trans tE
    refine end_fin (m9 := m) (d := 1) (qs := delP ps i) q (S.B.keep fun o e => s2 _ _ e) (by omega) (.same s2) ((ra.same Nw.sub).same tE) (S.ok.del i) ?_ ?_ ?_ hT
    · intro z hz
      rw [nms_del] at hz
      exact S.sub z ((delP_sub _ _).subset hz)
    · rw [dfs_nil fun q hq => dk_in S.ok ((delP_sub _ _).subset hq)]
      exact upd_same
    · rw [nms_del]
      exact due_del S.ok.nd (by rw [List.length_map]; exact li)
  refine ⟨_, rfl, rfl, _, rfl, ite2 (fun _ => ?_) (fun _ => ?_)⟩
  · refine ⟨_, rfl, a, dx, _, rfl, ea, rfl, _, rfl, _, rfl, a, ps, i, j, p, rfl, S.R, S.ok, hi, hj, fun a' H1 na s1 ra => ?_⟩
    refine ⟨_, rfl, .inl ⟨rfl, _, .of (s1 _ _ S.ek)⟩, _, rfl, ?_⟩
    dsimp only [tNil]
    refine rIndex_S (i := i) (.of (s1 _ _ S.ek)) S.ok.nd (nms_at hi) ?_
    refine ⟨_, rfl, rfl, .inr ⟨_, rfl, ⟨(by show 0 ≤ sizeLine; decide), fun E0 hE => ⟨(by show 3 ≤ sizeLine; decide), fun T hT => ?_⟩⟩⟩⟩
    have tE := Same.new (o := .lst []) hE
    have s2 := s1.trans tE
    have ev : (V.int (if (!decide (V.int (i : Nat) = V.int (j : Nat))) = true then 1 else 0)) = V.int (((if i = j then 0 else 1 : Nat)) : Nat) := by
      by_cases c : i = j
      · subst c
        rw [if_pos rfl, decide_eq_true rfl]
        rfl
      · rw [if_neg c, decide_eq_false (show ¬ (V.int (i : Nat) = V.int (j : Nat)) from fun z => c (Int.ofNat.inj (V.int.inj z)))]
        rfl
    rw [ev]
    have out : p.1 ∉ nmsOf (delP ps i) := S.ok.out hi
    have ll := delP_len li
    have h40 := S.ok.few
    have mp := List.mem_of_getElem? hi
    obtain ⟨zv, hv⟩ := S.ok.val p mp
    have nm2 : nmsOf (insP (delP ps i) j p) = insP (delP (nmsOf ps) i) j p.1 := by rw [nms_ins, nms_del]
    refine end_fin (m9 := m) (d := if i = j then 0 else 1) (qs := insP (delP ps i) j p) q (S.B.keep fun o e => s2 _ _ e) (by omega) (.same s2) ((ra.same Nw.sub).same tE) ?_ ?_ ?_ ?_ hT
    · exact (S.ok.del i).ins (p := p) j (by omega) out (S.ok.nm p mp) hv (S.ok.kd p mp)
    · intro z hz
      rw [nm2] at hz
      rcases List.mem_cons.mp ((insP_perm _ _ _).subset hz) with rfl | hz
      · exact S.sub _ (List.mem_map_of_mem mp)
      · exact S.sub z ((delP_sub _ _).subset hz)
    · rw [dfs_nil fun q hq => ?_]
      · exact upd_same
      · rcases List.mem_cons.mp ((insP_perm _ _ _).subset hq) with rfl | hq
        · exact dk_in S.ok mp
        · exact dk_in S.ok ((delP_sub _ _).subset hq)
    · rw [nm2]
      exact due_mov S.ok.nd (nms_at hi) (by rw [List.length_map]; exact hj)
  · exact qz De.rt De way (some (.int (j : Nat))) x9 x10 b a nl fl kn D m M i p ps ys zs H0 rfl S lm lM hi eD nDb q
end
end G
set_option Elab.async false
set_option linter.all false
set_option maxRecDepth 100000
set_option maxHeartbeats 8000000
/-! LW: a step. -/
namespace G
open PySem PySem.Spec PyProof.Rows L2 NdefX StX PySem.W
theorem scRcNm : FnScope ["self"] ["self"] (defScope (sRc 1)) := ⟨rfl, rfl, rfl, by decide +kernel, rfl, by decide +kernel, by decide +kernel⟩
def spRcNm (C : Addr) : Sp := fun vs H Q _ => ∃ (a : Addr) (ps : List Pr), vs = [.ref a] ∧ RecAt C H a ps ∧ ∀ p, H p = none → Q (.ref p) (upd H p (.lst ((nmsOf ps).map V.str)))
/-- o.names() -/
structure NmM (P : Program) (w : World) (K : PySem.W.Frag) (mg : Str → Option Value) (base : Heap) (C fN : Addr) (fdN : FuncData) : Prop where
  m : Meth K C "names" fN
  b : Binds K fdN ["self"] []
  G : FnOk P w K mg base CX0 1 fN fdN ["self"] (spRcNm C)
def spStep (C : Addr) : Sp := fun vs H Q _ => ∃ (b a nl fl : Addr) (n : Nat) (ps : List Pr) (ys zs : List Str), vs = [.ref b, .ref a, .ref nl, .ref fl] ∧ BoxAt H b n ∧ n ≤ 69000 ∧ RecAt C H a ps ∧ PsOk ps ∧ EnvL H b nl fl ys zs ∧ (∀ z ∈ nmsOf ps, z ∈ ys) ∧ EndS C H b (n + 1500) ps ys Q
section
variable {P : Program} {w : World} {K : PySem.W.Frag} {mg : Str → Option Value} {base : Heap}
theorem ok_rcnames {f C : Addr} {fd : FuncData} (F : Fun K "names" "Records.names" (sRc 1) f fd) (c : RcC K C) (mL : mg "list" = none) : FnOk P w K mg base CX0 1 f fd ["self"] (spRcNm C) := by
  refine F.ok scRcNm (fun vs H Q E h => ?_) (fun cdv A outer s H vs Q E hr h => ?_)
  · obtain ⟨a, ps, rfl, _⟩ := h
    rfl
  · obtain ⟨a, ps, rfl, ⟨dx, l, n, ts, ha, hl, al, hn⟩, q⟩ := h
    refine ⟨_, pss_one (ps_ret (pe_callTy call_list_of (by rfl) mL (by decide +kernel) (pa_cons (pe_fld (pv 0) rfl) pa_nil))), ?_⟩
    exact ⟨_, rfl, a, C, dx, _, _, rfl, ha, c.cl, c.n2, rfl, n, _, rfl, .inl (.of hn), fun p hp => q p hp⟩
/-- one record more -/
def insBlk : List Stmt := match (defBody sStep).drop 2 with
  | .If _ b _ _ :: _ => b
  | _ => []
theorem step2 {C fT fL : Addr} {fdT fdL : FuncData} {cdv : Value} {A : Around} {outer : List Env} {s : Shared} {H : Hp} {E : XK} {f : Addr} (R : RcM P w K mg base C) (ml : mg "len" = none)
    (T : Fun K "_law_take" "_law_take" sTake fT fdT) (bT : Binds K fdT ["_law_box_here", "_law_many"] []) (gT : mg "_law_take" = some (.ref fT))
    (GL : FnOk P w K mg base CX0 3 fL fdL ["_law_box_here", "_law_fields"] (spValue K)) (gL : mg "_law_value" = some (.ref fL)) (kL : PySem.W.keepIn K (.ref fL) = true) (bL : Binds K fdL ["_law_box_here", "_law_fields"] [])
    (hr : Room 8 (A.deeper (envOfC "_law_step" (defScope sStep) s.heap.objs.size f cdv))) :
    ∃ t, PSs (cxOf CX0 P w K mg base nStep "_law_step" (defScope sStep) f cdv A outer s H E).nox insBlk t ∧
      ∀ (Q : VK) (De : Ends) (x5 x6 x8 x9 x10 x11 : Option V) (b a nl fl kn D : Addr) (m M : Nat) (ps : List Pr) (ys zs : List Str) (H0 : Hp), De.rt = Q → SIn C H0 b a nl fl kn m ps ys zs → m + 400 ≤ M → M ≤ 71000 → ps.length < 40 → H0 D = some (.lst ((freshOf ys ps).map V.str)) → D ≠ b → EndS C H0 b M ps ys Q →
        t De [some (.ref b), some (.ref a), some (.ref nl), some (.ref fl), some (.ref kn), x5, x6, some (.ref D), x8, x9, x10, x11] H0 := by
  have GT : FnOk P w K mg base CX0 1 fT fdT ["_law_box_here", "_law_many"] spTake := ok_take T
  have hr1 := hr.mono (show 1 ≤ 8 by decide)
  have hr3 := hr.mono (show 3 ≤ 8 by decide)
  refine ⟨_, pss_cons (ps_set (i := 8) scStep.nd rfl (.inl rfl) (pe_call GT hr1 rfl gT T.kp bT .nil pass0 (pa_cons (pv 0) (pa_cons (pe_op op_add (pe_callB call_len_seq (by rfl) ml PySem.boot_len (pa_cons (pv 4) pa_nil)) pe_int) pa_nil))))
        (pss_one (ps_ret (pe_tup (pa_cons (pe_methK (n := 2) (pv 1) R.c.cl R.mA R.GA hr R.kA pass0 (pa_cons (pe_ix (r := rIxL K) ix_list (pv 7) pe_int (fun _ _ => rfl)) (pa_cons (pe_call GL hr3 rfl gL kL bL .nil pass0 (pa_cons (pv 0) (pa_cons (pv 3) pa_nil))) pa_nil)) (pk_cons (pv 8) pk_nil))
          (pa_cons pe_int (pa_cons (pe_lst pa_nil) pa_nil)))))), ?_⟩
  intro Q De x5 x6 x8 x9 x10 x11 b a nl fl kn D m M ps ys zs H0 eQ S lm lM lt eD nDb q
  subst eQ
  have lkn : ((nmsOf ps).map V.str).length = ps.length := by rw [List.length_map, List.length_map]
  refine ⟨_, rfl, _, rfl, kn, _, rfl, .inl (.of S.ek), _, _, rfl, rfl, b, _, m, rfl, S.B, by omega, by omega, small200 (by rw [lkn]; omega), fun r H1 r0 r1 B1 k1 => ?_⟩
  obtain ⟨i, rfl, hi⟩ := draw_at (n := ps.length + 1) r0 r1 (by rw [lkn]; omega)
  have S1 := S.but k1 B1 (by omega)
  obtain ⟨dx, _, _, _, ea, _⟩ := id S1.R
  have eD1 := k1 _ _ nDb eD
  have env := S.env
  cases hfr : freshOf ys ps with
  | nil =>
    exfalso
    have all : ∀ y ∈ ys, y ∈ nmsOf ps := fun y hy => by
      by_cases c : y ∈ nmsOf ps
      · exact c
      · have : y ∈ freshOf ys ps := List.mem_filter.mpr ⟨hy, by rw [decide_eq_false c]; rfl⟩
        rw [hfr] at this
        cases this
    have h1 := le_of_sub env.ynd all
    have h2 := env.y44
    rw [List.length_map] at h1
    omega
  | cons y fs =>
  rw [hfr] at eD1
  obtain ⟨hy1, hy2⟩ := fresh_in (ys := ys) (ps := ps) (y := y) (by rw [hfr]; exact List.mem_cons_self)
  refine ⟨_, rfl, a, dx, _, rfl, ea, rfl, _, rfl, D, _, ((0 : Nat) : Int), .str y, rfl, rfl, .of eD1, atI_nat (j := 0) rfl, ?_⟩
  refine ⟨_, rfl, _, rfl, b, fl, _, zs, rfl, B1, by omega, S1.env.ef, env.fnm, env.f1, env.f100, env.nfb, fun w1 H2 kvs nw ew kd vn p1 p6 pz' B2 k2 => ?_⟩
  have S2 := S1.but k2 B2 (by omega)
  refine ⟨_, rfl, rfl, rfl, a, w1, ps, y, zs, kvs, i, .int (i : Nat), rfl, .inr ⟨rfl, by omega⟩, S2.R, S.ok, lt, hy2, env.ynm _ hy1, ew, ⟨env.fnm, vn, p1, p6⟩, kd, fun a' H8 na s8 ra => ⟨(by show 0 ≤ sizeLine; decide), fun E0 hE => ⟨(by show 3 ≤ sizeLine; decide), fun T hT => ?_⟩⟩⟩
  have tE := Same.new (o := .lst []) hE
  have s9 := s8.trans tE
  have q2 := q.mono B2 (k1.trans k2)
  refine end_fin (m9 := _) (d := 1) (qs := insP ps i (y, kvs)) q2 (B2.keep fun o e => s9 _ _ e) (by omega) (.same s9) ((ra.same Nw.sub).same tE) (S.ok.ins (p := (y, kvs)) i lt hy2 (env.ynm _ hy1) ⟨env.fnm, vn, p1, p6⟩ kd) ?_ ?_ ?_ hT
  · intro z hz
    rw [nms_ins] at hz
    rcases List.mem_cons.mp ((insP_perm _ _ _).subset hz) with rfl | hz
    · exact hy1
    · exact S.sub z hz
  · rw [dfs_nil fun q hq => ?_]
    · exact upd_same
    · rcases List.mem_cons.mp ((insP_perm _ _ _).subset hq) with rfl | hq
      · exact dk_new hy2
      · exact dk_in S.ok hq
  · rw [nms_ins]
    exact due_ins S.ok.nd hy2
theorem step3 {C fG fT fL : Addr} {fdG fdT fdL : FuncData} {cdv : Value} {A : Around} {outer : List Env} {s : Shared} {H : Hp} {E : XK} {f : Addr} (R : RcM P w K mg base C) (g : GetM P w K mg base C fG fdG) (mI : mg "int" = none) (ml : mg "len" = none) (mmn : mg "min" = none)
    (T : Fun K "_law_take" "_law_take" sTake fT fdT) (bT : Binds K fdT ["_law_box_here", "_law_many"] []) (gT : mg "_law_take" = some (.ref fT))
    (GL : FnOk P w K mg base CX0 3 fL fdL ["_law_box_here", "_law_fields"] (spValue K)) (gL : mg "_law_value" = some (.ref fL)) (kL : PySem.W.keepIn K (.ref fL) = true) (bL : Binds K fdL ["_law_box_here", "_law_fields"] [])
    (hr : Room 8 (A.deeper (envOfC "_law_step" (defScope sStep) s.heap.objs.size f cdv))) :
    ∃ t, PSs (cxOf CX0 P w K mg base nStep "_law_step" (defScope sStep) f cdv A outer s H E).nox ((defBody sStep).drop 3) t ∧
      ∀ (Q : VK) (De : Ends) (way : Int) (x6 x8 x9 x10 : Option V) (b a nl fl kn D : Addr) (m M : Nat) (ps : List Pr) (ys zs : List Str) (H0 : Hp), De.rt = Q → SIn C H0 b a nl fl kn m ps ys zs → m + 1310 ≤ M → M ≤ 71000 → 1 ≤ ps.length → H0 D = some (.lst ((freshOf ys ps).map V.str)) → D ≠ b → EndS C H0 b M ps ys Q →
        t De [some (.ref b), some (.ref a), some (.ref nl), some (.ref fl), some (.ref kn), some (.int way), x6, some (.ref D), x8, x9, x10, none] H0 := by
  have GT : FnOk P w K mg base CX0 1 fT fdT ["_law_box_here", "_law_many"] spTake := ok_take T
  have hr1 := hr.mono (show 1 ≤ 8 by decide)
  obtain ⟨tz, pz, qz⟩ := step5 (P := P) (w := w) (K := K) (mg := mg) (base := base) (cdv := cdv) (A := A) (outer := outer) (s := s) (H := H) (E := E) (f := f) R g mI ml mmn T bT gT GL gL kL bL hr
  refine ⟨_, pss_cons (ps_par (i := 6) (j := 8) (by rfl) scStep.nd rfl rfl (by decide) rfl rfl (pa_cons (pe_ix (r := rIxL K) ix_list (pv 4) (pe_call GT hr1 rfl gT T.kp bT .nil pass0 (pa_cons (pv 0) (pa_cons (pe_callB call_len_seq (by rfl) ml PySem.boot_len (pa_cons (pv 4) pa_nil)) pa_nil))) (fun _ _ => rfl))
        (pa_cons (pe_call GT hr1 rfl gT T.kp bT .nil pass0 (pa_cons (pv 0) (pa_cons (pe_callB call_len_seq (by rfl) ml PySem.boot_len (pa_cons (pv 4) pa_nil)) pa_nil))) pa_nil)) (by rfl)) pz, ?_⟩
  intro Q De way x6 x8 x9 x10 b a nl fl kn D m M ps ys zs H0 eQ S lm lM pos eD nDb q
  have h40 := S.ok.few
  have lkn : ((nmsOf ps).map V.str).length = ps.length := by rw [List.length_map, List.length_map]
  refine ⟨_, rfl, _, rfl, _, rfl, kn, _, rfl, .inl (.of S.ek), b, _, m, rfl, S.B, by omega, by rw [lkn]; omega, small200 (by rw [lkn]; omega), fun r H1 r0 r1 B1 k1 => ?_⟩
  obtain ⟨i, rfl, hi⟩ := draw_at (n := ps.length) r0 r1 (by rw [lkn])
  have S1 := S.but k1 B1 (by omega)
  have hp : ps[i]? = some ps[i] := List.getElem?_eq_getElem hi
  generalize ps[i] = p at hp
  refine ⟨kn, _, _, .str p.1, rfl, rfl, .of S1.ek, atI_nat (j := i) (by rw [List.getElem?_map, nms_at hp] <;> rfl), ?_⟩
  refine ⟨_, rfl, _, rfl, kn, _, rfl, .inl (.of S1.ek), b, _, _, rfl, B1, by omega, by rw [lkn]; omega, small200 (by rw [lkn]; omega), fun r2 H2 r0 r1 B2 k2 => ⟨_, _, rfl, ?_⟩⟩
  obtain ⟨j, rfl, hj⟩ := draw_at (n := ps.length) r0 r1 (by rw [lkn])
  have S2 := S1.but k2 B2 (by omega)
  exact qz Q De way x9 x10 b a nl fl kn D _ M i j p ps ys zs H2 eQ S2 (by omega) lM hp hj (k2 _ _ nDb (k1 _ _ nDb eD)) nDb (q.mono B2 (k1.trans k2))
theorem ok_step {C f fG fT fL fN : Addr} {fd fdG fdT fdL fdN : FuncData} (F : Fun K "_law_step" "_law_step" sStep f fd) (R : RcM P w K mg base C) (g : GetM P w K mg base C fG fdG) (n_ : NmM P w K mg base C fN fdN) (mI : mg "int" = none) (ml : mg "len" = none) (mmn : mg "min" = none)
    (T : Fun K "_law_take" "_law_take" sTake fT fdT) (bT : Binds K fdT ["_law_box_here", "_law_many"] []) (gT : mg "_law_take" = some (.ref fT))
    (GL : FnOk P w K mg base CX0 3 fL fdL ["_law_box_here", "_law_fields"] (spValue K)) (gL : mg "_law_value" = some (.ref fL)) (kL : PySem.W.keepIn K (.ref fL) = true) (bL : Binds K fdL ["_law_box_here", "_law_fields"] []) :
    FnOk P w K mg base CX0 9 f fd pStep (spStep C) := by
  have GT : FnOk P w K mg base CX0 1 fT fdT ["_law_box_here", "_law_many"] spTake := ok_take T
  refine F.ok scStep (fun vs H Q E h => ?_) (fun cdv A outer s H vs Q E hr h => ?_)
  · obtain ⟨b, a, nl, fl, n, ps, ys, zs, rfl, _⟩ := h
    rfl
  · obtain ⟨b, a, nl, fl, n, ps, ys, zs, rfl, B, hn, hR, ok, env, sub, q⟩ := h
    have hr1 := hr.mono (show 1 ≤ 8 by decide)
    have hr3 := hr.mono (show 3 ≤ 8 by decide)
    have hu := Nat.lt_of_succ_lt (hu_of hr)
    obtain ⟨tz, pz, qz⟩ := step3 (P := P) (w := w) (K := K) (mg := mg) (base := base) (cdv := cdv) (A := A) (outer := outer) (s := s) (H := H) (E := E) (f := f) R g mI ml mmn T bT gT GL gL kL bL hr
    obtain ⟨tI, pI, qI⟩ := step2 (P := P) (w := w) (K := K) (mg := mg) (base := base) (cdv := cdv) (A := A) (outer := outer) (s := s) (H := H) (E := E) (f := f) R ml T bT gT GL gL kL bL hr
    refine ⟨_, pss_cons (ps_asg (pe_tup (pa_cons (pe_meth0 (pv 1) R.c.cl n_.m n_.G hr1 n_.b .nil pass0) (pa_cons (pe_call GT hr1 rfl gT T.kp bT .nil pass0 (pa_cons (pv 0) (pa_cons pe_int pa_nil))) pa_nil)))
        (pg_tup (by rfl) (pgs_cons (pg_name (i := 4) scStep.nd rfl (.inr rfl)) (pgs_cons (pg_name (i := 5) scStep.nd rfl (.inl rfl)) pgs_nil))))
      (pss_cons (ps_setLc (i := 7) (own := [("_law_name", 6)]) (g := gName 6) (by rfl) scStep.nd rfl rfl (sw_true rfl rfl rfl (by decide +kernel)) (pi_list (pv 2))
        (blkOk_by (own := [("_law_name", 6)]) (N := nStep) (sc := defScope sStep) (by decide +kernel)) (fun _ _ _ _ _ => pg_name (i := 6) scStep.nd rfl (.inl rfl))
        (fun _ _ _ _ _ => pts_one (pt_cmpR (r := rIn K true) op_notIn_seq (pv 6) (pv 4) (by rfl))) (fun _ _ _ _ _ => pv 6))
      (pss_cons (ps_if (PW.pt (pw_or (pt_cmpR (op_eqNil hu) (pv 4) (pe_lst pa_nil) (nomark _)) (pw_or1 (PW.pt (pw_and (pt_cmpR op_eq (pv 5) pe_int (nomark _)) (pw_and1 (pt_cmpR op_lt (pe_callB call_len_seq (by rfl) ml PySem.boot_len (pa_cons (pv 4) pa_nil)) pe_int (nomark _))))))))
        pI pss_nil)
      pz)), ?_⟩
    have h40 := ok.few
    obtain ⟨dx, _, _, _, ea, _⟩ := id hR
    have lkn : ((nmsOf ps).map V.str).length = ps.length := by rw [List.length_map, List.length_map]
    refine ⟨_, rfl, a, dx, _, rfl, ea, rfl, a, ps, rfl, hR, fun kn hkn => ?_⟩
    have tk := Same.new (o := .lst ((nmsOf ps).map V.str)) hkn
    have knb := box_ne B hkn
    have ek : (upd H kn (.lst ((nmsOf ps).map V.str))) kn = some (.lst ((nmsOf ps).map V.str)) := upd_same
    have B1 := B.keep fun o e => tk _ _ e
    have k1 : But b H (upd H kn (.lst ((nmsOf ps).map V.str))) := .same tk
    generalize upd H kn (.lst ((nmsOf ps).map V.str)) = H1 at ek B1 k1 ⊢
    refine ⟨_, rfl, b, 5, _, rfl, B1, by omega, by decide, by decide, fun way H2 w0 w1 B2 k2 => ⟨(by show 2 ≤ sizeLine; decide), fun T0 hT0 => ?_⟩⟩
    have tT := Same.new (o := .tup [.ref kn, .int way]) hT0
    have eT : (upd H2 T0 (.tup [.ref kn, .int way])) T0 = some (.tup [.ref kn, .int way]) := upd_same
    have k3 := (k1.trans k2).trans (.same tT)
    have B3 := B2.keep fun o e => tT _ _ e
    have ek3 := tT _ _ (k2 _ _ knb ek)
    generalize upd H2 T0 (.tup [.ref kn, .int way]) = H3 at eT k3 B3 ek3 ⊢
    refine ⟨T0, _, rfl, .of eT, rfl, _, _, rfl, _, _, rfl, rfl, ?_⟩
    have S3 : SIn C H3 b a nl fl kn (n + 1) ps ys zs := ⟨B3.mono (by omega), by omega, hR.box B k3, ok, env.but k3, ek3, knb, sub⟩
    have q3 := q.mono B3 k3
    have env3 := S3.env
    refine ⟨_, rfl, nl, rfl, ⟨_, .of env3.en⟩, fun D hD => ?_⟩
    have nDb := box_ne B3 hD
    refine lc_list (xs := ys.map V.str) (fun i H4 => Same H3 H4 ∧ H4 D = some (.lst ((freshOf (ys.take i) ps).map V.str))) ?_ ?_ ?_ ?_
    · exact ⟨Same.new hD, upd_same⟩
    · exact fun _ _ _ h => .of (h.1 _ _ env3.en)
    · rintro i x H4 hx ⟨s4, e4⟩
      rw [List.getElem?_map] at hx
      obtain ⟨y, hy, rfl⟩ := Option.map_eq_some_iff.mp hx
      refine ⟨rfl, ?_⟩
      refine ⟨_, rfl, _, rfl, kn, _, rfl, .inl (.of (s4 _ _ ek3)), rfl, flat_strs _, _, rfl, ?_⟩
      rw [show (if true = true then !inV (V.str y) ((nmsOf ps).map V.str) else inV (V.str y) ((nmsOf ps).map V.str)) = !decide (y ∈ nmsOf ps) from by rw [if_pos rfl, inV_str]]
      rw [take_snocA hy, fresh_add]
      have y44 := env.y44
      have hiy := (List.getElem?_eq_some_iff.mp hy).1
      by_cases c : (!decide (y ∈ nmsOf ps)) = true
      · rw [if_pos c]
        refine ifY c ⟨_, rfl, _, e4, ?_, fun c o e => (upd_ne (ne_of_none e hD)).trans (s4 _ _ e), ?_⟩
        · have := fresh_len (ys.take i) ps
          rw [List.length_take] at this
          rw [List.length_map]
          exact small1000 (by omega)
        · rw [upd_same, List.map_append]
          rfl
      · rw [if_neg c]
        exact ifN (Bool.eq_false_iff.mpr c) ⟨s4, e4⟩
    rintro H4 ⟨s4, eD⟩
    rw [List.length_map, List.take_length] at eD
    have B4 := B3.keep fun o e => s4 _ _ e
    have S4 := S3.but (.same s4) (B4.mono (Nat.le_refl _)) (by omega)
    have k4 := k3.trans (.same s4)
    refine ⟨_, rfl, (by show 0 ≤ sizeLine; decide), fun m0 hm0 => ?_⟩
    have t0 := Same.new (o := .lst []) hm0
    have S5 := S4.but (.same t0) (S4.B.keep fun o e => t0 _ _ e) (by omega)
    have k5 := k4.trans (.same t0)
    have eD5 := t0 _ _ eD
    refine ⟨kn, m0, _, rfl, rfl, .of S5.ek, .of upd_same, _, rfl, ?_⟩
    generalize upd H4 m0 (.lst []) = H5 at S5 k5 eD5 ⊢
    have q5 := q.mono S5.B k5
    refine ite2 (fun c => ?_) (fun c => ?_)
    · have : ps.length = 0 := by
        have := List.isEmpty_iff.mp c
        rw [← lkn, this]
        rfl
      exact qI _ _ _ _ _ _ _ _ b a nl fl kn D (n + 1) (n + 1500) ps ys zs H5 rfl S5 (by omega) (by omega) (by omega) eD5 nDb q5
    have pos : 1 ≤ ps.length := by
      cases hps : ps with
      | nil =>
        rw [hps] at c
        exact absurd rfl c
      | cons p ps => exact Nat.succ_le_succ (Nat.zero_le _)
    have rest : ∀ (De : Ends) (x : Option V), De.rt = Q → True := fun _ _ _ => trivial
    refine ⟨_, rfl, rfl, _, rfl, ite2 (fun c1 => ?_) (fun c1 => ?_)⟩
    · refine ⟨_, rfl, kn, _, rfl, .inl (.of S5.ek), _, _, rfl, rfl, _, rfl, ite2 (fun c2 => ?_) (fun c2 => ?_)⟩
      · have h2 := of_decide_eq_true c2
        rw [lkn] at h2
        exact qI _ _ _ _ _ _ _ _ b a nl fl kn D (n + 1) (n + 1500) ps ys zs H5 rfl S5 (by omega) (by omega) (by omega) eD5 nDb q5
      · exact qz _ _ way _ _ _ _ b a nl fl kn D (n + 1) (n + 1500) ps ys zs H5 rfl S5 (by omega) (by omega) pos eD5 nDb q5
    · exact qz _ _ way _ _ _ _ b a nl fl kn D (n + 1) (n + 1500) ps ys zs H5 rfl S5 (by omega) (by omega) pos eD5 nDb q5
end
end G
set_option Elab.async false
set_option linter.all false
set_option maxRecDepth 100000
set_option maxHeartbeats 4000000
/-! RX: static methods; own classes whose __init__ raises; own exceptions, context none. -/
namespace G
open PySem PySem.Spec PyProof.Rows L2 StX
/-- m of the class at C is a staticmethod (its record at p, its def at g) -/
structure SMet (K : PySem.W.Frag) (C : Addr) (m : Str) (p g : Addr) : Prop where
  cr : ClX.CRead K C (.type "type")
  here : PySem.W.findCls K (.ref C) (.type "type") m = some (.get (.builtin "staticmethod.__get__") (.ref p) .none (.ref C))
  inner : ∃ more, PySem.W.recIn K p "staticmethod" = some (.ref g :: more)
  kp : PySem.W.keepIn K (.ref g) = true
def tSMeth (C : Addr) (sp : Sp) (E : L2.St → XK) (ta : TE) (t : TA) : TE := fun σ H Q => ta σ H fun x H1 => x = .ref C ∧ t σ H1 fun vs H2 => sp vs H2 Q (E σ)
section
variable {X : Cx} {CX : CXT} {k : Nat} {f C p g : Addr} {fd : FuncData} {ps : List Str} {sp : Sp} {x m : Str} {o e : Expr} {es : List Expr} {pos apos q : Pos} {te ta : TE} {t : TA}
theorem pe_smeth {E : L2.St → XK} {pl : Sem Bool} (he : PE X o ta) (c : SMet X.K C m p g) (F : FnOk X.prog X.w X.K X.mg X.base CX k g fd ps sp) (hr : Room k X.A) (hb : Binds X.K fd ps []) (hx : ∀ σ, PassesAt CX X σ (E σ)) (ha : PA X (e :: es) t)
    (s1 : starEach (e :: es) X.env = (false, eval e X.env) :: starEach es X.env := by rfl) (s2 : (backTo pos (starEach es X.env)).any (·.1) = false := by rfl)
    (s3 : eval (.Call (.Attribute o m apos) (e :: es) [] pos) X.env = (do
      let thing ← eval o X.env
      standAt apos.atName
      let (fn, ahead) ← holding [thing] (getMethod thing m pl)
      callWith pos fn ahead (backTo pos (starEach (e :: es) X.env)) (backToKw pos (keywordEach [] X.env))) := by rfl) :
    PE X (.Call (.Attribute o m apos) (e :: es) [] pos) (tSMeth C sp E ta t) := by
  constructor
  intro pins s σ H Q I h
  obtain ⟨more, hrec⟩ := c.inner
  refine PySem.W.methodCall_KW (pl := pl) (thn (he.run pins s σ H _ I h) ?_) s3
  rintro u s' ⟨y, H1, I1, ry, rfl, h2⟩
  obtain rfl : u = Value.ref C := ry
  refine PySem.W.method_cls I1.kIn c.cr.ga (PySem.W.cls_bind I1.kIn c.cr.rd c.here (wpAny_call (PySem.W.sm_get (s := { s' with toks := s'.toks + 1 }) I1.kIn hrec (PySem.W.handed_on rfl ?_))))
  refine PySem.W.callWith_K (first := []) (h₀ := X.base) I.ok.mod.kin c.kp (thn (ha.run pos pins _ σ H1 _ (I1.tok _) h2) ?_) s1 s2
  rintro us s'' ⟨vs, H2, I2, r, h3⟩
  exact ⟨I2.kIn, run_fnS F hr hb (hx σ) I2 r h3⟩
/-! ### an instance made, its __init__ may raise -/
def outOf (C : Addr) (H : Hp) (vs : List V) (sp : Sp) (Q : VK) (E : XK) : Prop := ∀ a d, H a = none → H d = none → d ≠ a → sp (V.ref a :: vs) (upd (upd H d (.own a)) a (.ins C d [])) (fun v H2 => v = .non ∧ Q (.ref a) H2) E
theorem made_at {E : XK} {pins : List (Addr × Obj)} {σ : L2.St} {H : Hp} {s : Shared} {Q : VK} {us : List Value} {vs : List V} (M : Mk X.K C f) (F : FnR X.prog X.w X.K X.mg X.base CX k f sp) (hr : Room (k + 1) X.A) (hx : PassesAt CX X σ E)
    (I : Inv X pins σ H s) (r : Vals vs us) (h : outOf C H vs sp Q E) : wpAny (model X.prog X.w) X.A (call (.ref C) us) (EP X pins σ Q) X.xe s := by
  let a : Addr := s.heap.objs.size + 1
  have J := Inv.made (C := C) I
  have now := h a s.heap.objs.size (I.hok.fresh (Nat.le_succ _)) (I.hok.fresh (Nat.le_refl _)) (Nat.ne_of_lt (Nat.lt_succ_self _))
  have vv : Vals (V.ref a :: vs) (Value.ref a :: us) := .cons rfl r
  have ran := F _ X.stack _ _ (Value.ref a :: us) _ _ E (hr.make C us []) (J.env0.make C us []) vv now
  refine wpAny_call (make_map (f := f) I.kIn M.makes M.init (beq_iff_eq.mp M.fn) (codeAny_mono ran ?_))
  intro r s' hq
  match r, hq with
  | .error e, hq => exact hx pins _ _ e s' J hq
  | .ok (.ret u), hq =>
    obtain ⟨v, H', J3, rv, ev, done⟩ := J.after hq
    subst ev
    exact ⟨rv, V.ref a, H', J3, rfl, done⟩
  | .ok .next, hq => exact hq.elim
  | .ok .brk, hq => exact hq.elim
  | .ok .cont, hq => exact hq.elim
/-- C(e, ..) -/
theorem pe_makeX {E : L2.St → XK} (M : Mk X.K C f) (F : FnR X.prog X.w X.K X.mg X.base CX k f sp) (hr : Room (k + 1) X.A) (hg : Gl X x) (hm : X.mg x = some (.ref C)) (hx : ∀ σ, PassesAt CX X σ (E σ)) (ha : PA X (e :: es) t)
    (nd : (x == ("__debug__" : Str)) = false := by decide) (s1 : starEach (e :: es) X.env = (false, eval e X.env) :: starEach es X.env := by rfl) (s2 : (backTo pos (starEach es X.env)).any (·.1) = false := by rfl) :
    PE X (.Call (.Name x q) (e :: es) [] pos) (fun σ H Q => t σ H fun vs H1 => outOf C H1 vs sp Q (E σ)) := by
  constructor
  intro pins s σ H Q I h
  refine wpAny_Call_Name_kw (ld_glob I hg hm ?_ nd)
  refine PySem.W.callWith_K (h₀ := X.base) I.ok.mod.kin M.kp (thn (ha.run pos pins s σ H _ I h) ?_) s1 s2
  rintro us s' ⟨vs, H1, I1, r, h2⟩
  exact ⟨I1.kIn, made_at M F hr (hx σ) I1 r h2⟩
/-- C(*y) -/
theorem pe_makeSX {E : L2.St → XK} {sp_ : Pos} (M : Mk X.K C f) (F : FnR X.prog X.w X.K X.mg X.base CX k f sp) (hr : Room (k + 1) X.A) (hg : Gl X x) (hm : X.mg x = some (.ref C)) (hx : ∀ σ, PassesAt CX X σ (E σ)) (he : PE X e te)
    (nd : (x == ("__debug__" : Str)) = false := by decide) (s1 : starEach [.Starred e sp_] X.env = [(true, eval e X.env)] := by rfl) :
    PE X (.Call (.Name x q) [.Starred e sp_] [] pos) (fun σ H Q => te σ H fun y H1 => ∃ a xs, y = V.ref a ∧ (SqT X.K H1 a xs ∨ SqL X.K H1 a xs) ∧ outOf C H1 xs sp Q (E σ)) := by
  constructor
  intro pins s σ H Q I h
  refine wpAny_Call_Name_kw (ld_glob I hg hm ?_ nd)
  refine PySem.W.callWith_S (h₀ := X.base) I.ok.mod.kin M.kp (thn (he.run pins s σ H _ I h) ?_) s1
  rintro v s' ⟨y, H1, I1, ry, a, xs, rfl, hxs, h2⟩
  obtain rfl : v = Value.ref a := ry
  exact star_any I1 hxs fun us s2 I2 rv => ⟨I2.kIn, made_at M F hr (hx σ) I2 rv h2⟩
/-- a def of so many parameters, by position -/
theorem fnR_ok (F : FnOk X.prog X.w X.K X.mg X.base CX k f fd ps sp) (hb : Binds X.K fd ps []) : FnR X.prog X.w X.K X.mg X.base CX k f sp := by
  intro A outer s H us vs Q E hr e0 r h
  have hl : (us ++ []).length = ps.length := by
    rw [List.append_nil, ← r.length]
    exact F.len _ _ _ _ h
  have b := hb s us (e0.mod.kin.keeps fun b o e => (e0.bs b o e).1) hl
  rw [List.append_nil] at b
  exact F.run A outer s H ⟨us, []⟩ us vs Q E hr e0 b r h
/-- an own exception made where nothing is handled: its context is none -/
theorem pmkN_oex (T : OexC X.K C) (iC : PySem.W.findIn X.K (.ref C) "__init__" = some (some (.ref f))) (tI : PySem.W.typeIn X.K (.ref f) = some (.type "function"))
    (F : FnOk X.prog X.w X.K X.mg X.base CX k f fd ps sp) (hr : Room (k + 1) X.A) (hb : Binds X.K fd ps []) (hx : Passes CX X (fun _ _ _ => False)) (hg : Gl X x) (hm : X.mg x = some (.ref C)) (ha : PA X (e :: es) t)
    (nd : (x == ("__debug__" : Str)) = false := by decide) (s1 : starEach (e :: es) X.env = (false, eval e X.env) :: starEach es X.env := by rfl) (s2 : (backTo pos (starEach es X.env)).any (·.1) = false := by rfl) :
    L2N.PMk X (.Call (.Name x q) (e :: es) [] pos) (tMkO C sp [] t) := by
  intro pins s σ H Q I h
  obtain ⟨nm, qq, N, bs, bm, sn, sub, ab, col, dd, k0, k1, k2, k3, k5, hC, hbm⟩ := T.cls
  refine wpAny_Call_Name_kw (ld_glob I hg hm ?_ nd)
  refine PySem.W.callWith_K (h₀ := X.base) I.ok.mod.kin T.kC (thn (ha.run pos pins s σ H _ I h) ?_) s1 s2
  rintro us sA ⟨vs, H1, I1, r1, hz, q1⟩
  refine ⟨I1.kIn, ?_⟩
  show wpAny _ _ (call (.ref C) us) _ _ _
  obtain ⟨hp, gg, dr, tk, os⟩ := sA
  let a : Addr := hp.objs.size + 1
  let hq : Heap := (hp.push (PySem.W.kdv_tup us)).push (PySem.HandSPX.excO C hp.objs.size)
  have up1 : hp.objs.size ≤ a := Nat.le_succ _
  have hn : H1 a = none := I1.hok.fresh up1
  have now := q1 a hn
  rw [List.append_nil] at now
  have kk : ∀ b o, hp.get? b = some o → hq.get? b = some o := fun b o e => Heap.get?_push_of_some _ (Heap.get?_push_of_some _ e)
  have got : hq.get? a = some (PySem.HandSPX.excO C hp.objs.size) := by
    show ((hp.push (PySem.W.kdv_tup us)).push (PySem.HandSPX.excO C hp.objs.size)).get? (hp.objs.size + 1) = _
    heap_get
  have J : Inv X pins σ (upd H1 a (exo a C none)) ⟨hq, gg, dr, tk, os⟩ := I1.laid (t' := tk) (a := a) (o := exo a C none) (h' := hq) kk up1 (exo_ok got)
  have vv : Vals (V.ref a :: vs) (Value.ref a :: us) := .cons rfl r1
  have len : (Value.ref a :: us ++ []).length = ps.length := by
    rw [List.append_nil, ← vv.length]
    exact F.len _ _ _ _ now
  have few : us.length ≤ sizeLine := by
    rw [sizeLine_eq, ← Paired.length r1]
    omega
  have bb := hb _ (Value.ref a :: us) J.kIn len
  rw [List.append_nil] at bb
  have ran := F.run _ X.stack _ _ ⟨Value.ref a :: us, []⟩ (Value.ref a :: us) _ _ (fun _ _ _ => False) (hr.make C us []) (J.env0.make C us []) bb vv now
  refine wpAny_call (PySem.HandSPX.call_own PySem.F.excBase_ValueError (fun Y => PySem.HandSPX.refsVE_contains Y bm hbm) (I1.kIn _ _ hC) (PySem.W.looks_findIn I1.kIn iC) (fun self => PySem.W.bind_fn I1.kIn self tI) few (codeAny_mono ran ?_))
  intro r s' hq'
  match r, hq' with
  | .error er, hq' => exact hx pins σ _ _ er s' J hq'
  | .ok (.ret u), hq' =>
    obtain ⟨v, H2, os2, bare2, un2, hok2, rv, ev, d, fs, ea, ed, hd1, q2⟩ := hq'
    subst ev
    obtain ⟨h2, g2, d2, t2, os'⟩ := s'
    obtain ⟨t0, B, J2, kB, ge, hoe, na⟩ := mk_end0 (d2 := d2) (t2 := t2) I1 up1 kk un2 hok2 os2 bare2 ea ed hd1
    refine ⟨rv, a, _, _, ⟨B, g2, d2, t2, os'⟩, _, .ref C, some d, rfl, J2, kB, ge, hoe, ⟨rfl, rfl, ?_⟩, rfl, rfl, na, rfl, bare2, raises_own T.exC T.tyC, q2⟩
    intro ws hw
    cases hw
    rfl
  | .ok .next, hq' => exact hq'.elim
  | .ok .brk, hq' => exact hq'.elim
  | .ok .cont, hq' => exact hq'.elim
end
end G
set_option Elab.async false
set_option linter.all false
set_option maxRecDepth 100000
set_option maxHeartbeats 8000000
/-! LX: a turn of the law. -/
namespace G
open PySem PySem.Spec PyProof.Rows L2 NdefX StX PySem.W
abbrev sLaw : Stmt := topS 67
abbrev nLaw : List Str := ["_law_script", "_law_k", "_law_box_here", "_law_names_here", "_law_fields", "_law_pairs_here", "_law_records", "_law_first", "_law_whole", "_law_turn", "_law_more", "_law_steps", "_law_rows", "_law_change"]
theorem scLaw : FnScope nLaw ["_law_script"] (defScope sLaw) := ⟨rfl, rfl, rfl, by decide +kernel, rfl, by decide +kernel, by decide +kernel⟩
def forBody : Stmt → List Stmt
  | .For _ _ b _ _ => b
  | _ => []
abbrev loopK : List Stmt := forBody ((defBody sLaw).getD 0 (.Pass ⟨0, 0, 0, 0⟩))
abbrev loopT : List Stmt := forBody (loopK.getD 5 (.Pass ⟨0, 0, 0, 0⟩))
def spLaw (K : PySem.W.Frag) : Sp := fun vs H Q _ => ∃ (a : Addr) (ns : List Int), vs = [.ref a] ∧ SqL K H a (ns.map V.int) ∧ ns.length ≤ 63 ∧ ∀ H', Q (.bl true) H'
theorem sqL_same {K : PySem.W.Frag} {H H' : Hp} {a : Addr} {xs : List V} (h : SqL K H a xs) (s : Same H H') : SqL K H' a xs := sqL_keep s h
theorem same_but {b : Addr} {H H1 H2 : Hp} (s : Same H H1) (n : H b = none) (k : But b H1 H2) : Same H H2 := fun c o e => k c o (ne_of_none e n) (s c o e)
theorem passA0 {X : Cx} (σ : L2.St) : PassesAt CX0 X σ E0 := fun pins H s e s' I c => pass0 pins σ H s e s' I c
/-- what the changes' methods want, said once -/
structure ChM (P : Program) (w : World) (K : PySem.W.Frag) (mg : Str → Option Value) (base : Heap) (C : Addr) where
  c : ChC K C
  g : mg "Change" = some (.ref C)
  pW : Addr
  fW : Addr
  fdW : FuncData
  mW : SMet K C "between" pW fW
  bW : Binds K fdW ["old", "new"] []
  GW : FnOk P w K mg base CX0 7 fW fdW ["old", "new"] (spBtw K C)
  pS : Addr
  fS : Addr
  fdS : FuncData
  mS : SMet K C "same" pS fS
  bS : Binds K fdS ["count"] []
  GS : FnOk P w K mg base CX0 7 fS fdS ["count"] (spSame K C)
  fN : Addr
  fdN : FuncData
  mN : OwnM K C "__len__" fN
  bN : Binds K fdN ["self"] []
  GN : FnOk P w K mg base CX0 1 fN fdN ["self"] (spChN K C)
  fO : Addr
  fdO : FuncData
  mO : OwnM K C "__bool__" fO
  bO : Binds K fdO ["self"] []
  GO : FnOk P w K mg base CX0 1 fO fdO ["self"] (spChO K C)
  fC : Addr
  fdC : FuncData
  mC : CallO K C fC
  bC : Binds K fdC ["self", "rows"] []
  GC : FnOk P w K mg base CX0 6 fC fdC ["self", "rows"] (spChR K C)
  pB : Addr
  fB : Addr
  fdB : FuncData
  mB : PropOf K C "before" pB fB
  bB : Binds K fdB ["self"] []
  GB : FnOk P w K mg base CX0 1 fB fdB ["self"] (spChB K C)
  A : PolyO P w K mg base 7 C C .Add (spChA K C)
def texts (zs : List Str) : List V := zs.map V.str
theorem same_strs (zs : List Str) : ∀ v ∈ zs.map V.str, sameB v = true := fun v hv => by
  obtain ⟨z, _, rfl⟩ := List.mem_map.mp hv
  rfl
theorem nmok {ps : List Pr} (ok : PsOk ps) : NmOk (nmsOf ps) where
  few := by
    have := ok.few
    rw [List.length_map]
    omega
  nd := ok.nd
  nm := fun z hz => by
    obtain ⟨p, hp, rfl⟩ := List.mem_map.mp hz
    exact ok.nm p hp
/-- before a turn -/
structure TIn (K : PySem.W.Frag) (C D : Addr) (H : Hp) (b a nl fl wa : Addr) (m : Nat) (ps : List Pr) (ys zs first : List Str) : Prop where
  B : BoxAt H b m
  R : RecAt C H a ps
  ok : PsOk ps
  env : EnvL H b nl fl ys zs
  sub : ∀ z ∈ nmsOf ps, z ∈ ys
  W : ∃ (wk : List Key) (k : Nat), ChN K D (fun x => x ≠ b) H wa first.length wk k ∧ Whole first wk (nmsOf ps)
section
variable {P : Program} {w : World} {K : PySem.W.Frag} {mg : Str → Option Value} {base : Heap}
theorem turn42 {C D fZ fN fDf : Addr} {fdZ fdN fdDf : FuncData} {cdv : Value} {A : Around} {outer : List Env} {s : Shared} {H : Hp} {E : XK} {f : Addr} (M : ChM P w K mg base D) (n_ : NmM P w K mg base C fN fdN) (c : RcC K C)
    (GZ : FnOk P w K mg base CX0 9 fZ fdZ pStep (spStep C)) (gZ : mg "_law_step" = some (.ref fZ)) (kZ : PySem.W.keepIn K (.ref fZ) = true) (bZ : Binds K fdZ pStep [])
    (GD : FnOk P w K mg base CX0 4 fDf fdDf ["one", "other"] (spDiffer C)) (gD : mg "differing" = some (.ref fDf)) (kD : PySem.W.keepIn K (.ref fDf) = true) (bD : Binds K fdDf ["one", "other"] [])
    (ml : mg "len" = none) (mb : mg "bool" = none) (hr : Room 10 (A.deeper (envOfC "law" (defScope sLaw) s.heap.objs.size f cdv))) :
    ∃ t, PSs (cxOf CX0 P w K mg base nLaw "law" (defScope sLaw) f cdv A outer s H E).nox loopT t ∧
      ∀ (De : Ends) (x0 x1 x5 x7 x9 x10 x11 x12 x13 : Option V) (b a nl fl wa : Addr) (m : Nat) (ps : List Pr) (ys zs first : List Str) (H0 : Hp), TIn K C D H0 b a nl fl wa m ps ys zs first →
        m ≤ 67000 → (∀ (y10 y11 y12 y13 : Option V) (a' wa' : Addr) (qs : List Pr) (H' : Hp), TIn K C D H' b a' nl fl wa' (m + 1500) qs ys zs first → But b H0 H' → De.nx [x0, x1, some (.ref b), some (.ref nl), some (.ref fl), x5, some (.ref a'), x7, some (.ref wa'), x9, y10, y11, y12, y13] H') →
        t De [x0, x1, some (.ref b), some (.ref nl), some (.ref fl), x5, some (.ref a), x7, some (.ref wa), x9, x10, x11, x12, x13] H0 := by
  have hr1 := hr.mono (show 1 ≤ 10 by decide)
  have hr2 := hr.mono (show 1 + 1 ≤ 10 by decide)
  have hr3 := hr.mono (show 1 + 2 ≤ 10 by decide)
  have hr4 := hr.mono (show 4 ≤ 10 by decide)
  have hr6 := hr.mono (show 6 ≤ 10 by decide)
  have hr7 := hr.mono (show 7 ≤ 10 by decide)
  have hr9 := hr.mono (show 9 ≤ 10 by decide)
  have hu := Nat.lt_of_succ_lt (hu_of hr)
  refine ⟨_, pss_cons (ps_asg (pe_call GZ hr9 rfl gZ kZ bZ .nil pass0 (pa_cons (pv 2) (pa_cons (pv 6) (pa_cons (pv 3) (pa_cons (pv 4) pa_nil)))))
      (pg_tup (by rfl) (pgs_cons (pg_name (i := 10) scLaw.nd rfl (.inl rfl)) (pgs_cons (pg_name (i := 11) scLaw.nd rfl (.inl rfl)) (pgs_cons (pg_name (i := 12) scLaw.nd rfl (.inl rfl)) pgs_nil)))))
    (pss_cons (ps_set (i := 13) scLaw.nd rfl (.inl rfl) (pe_smeth (E := fun _ => E0) (pe_glob (v := .ref D) rfl M.g rfl) M.mW M.GW hr7 M.bW (fun σ => passA0 σ) (pa_cons (pe_meth0 (pv 6) c.cl n_.m n_.G hr1 n_.b .nil pass0) (pa_cons (pe_meth0 (pv 10) c.cl n_.m n_.G hr1 n_.b .nil pass0) pa_nil))))
    (pss_cons (ps_if (PW.pt (pw_or (pt_cmpR op_ne (pe_callB (call_lenO M.mN M.bN M.GN hr2) (by rfl) ml PySem.boot_len (pa_cons (pv 13) pa_nil)) (pv 11) (nomark _))
        (pw_or (pt_cmpR op_ne (pe_callTy (call_boolO M.mO M.bO M.GO hr3) (by rfl) mb (by decide +kernel) (pa_cons (pv 13) pa_nil)) (pe_cmpR op_gt (pv 11) pe_int (nomark _)) (nomark _))
        (pw_or1 (pt_cmpR (op_neS hu) (pe_call GD hr4 rfl gD kD bD .nil pass0 (pa_cons (pv 6) (pa_cons (pv 10) pa_nil))) (pv 12) (nomark _)))))) (pss_one ps_never) pss_nil)
    (pss_cons (ps_if (pt_cmpR (op_neS hu) (pe_callO (pv 13) M.mC (M.GC.raw M.bC .nil) hr6 pass0 (pa_cons (pe_meth0 (pv 6) c.cl n_.m n_.G hr1 n_.b .nil pass0) pa_nil)) (pe_meth0 (pv 10) c.cl n_.m n_.G hr1 n_.b .nil pass0) (nomark _)) (pss_one ps_never) pss_nil)
    (pss_one (ps_par (i := 8) (j := 6) (by rfl) scLaw.nd rfl rfl (by decide) rfl rfl (pa_cons (pe_op (op_own (sp := spChA K D) (E := E0) .Add hr7 pass0) (pv 8) (pv 13)) (pa_cons (pv 10) pa_nil)) (by rfl)))))), ?_⟩
  intro De x0 x1 x5 x7 x9 x10 x11 x12 x13 b a nl fl wa m ps ys zs first H0 I m7 q
  obtain ⟨wk, wj, wat, who⟩ := I.W
  refine ⟨_, rfl, _, rfl, _, rfl, _, rfl, b, a, nl, fl, m, ps, ys, zs, rfl, I.B, by omega, I.R, I.ok, I.env, I.sub, fun T a' R d qs H1 hT eT r1 ok1 sub1 eR due B1 k1 => ?_⟩
  refine ⟨T, _, rfl, .of eT, rfl, _, _, rfl, _, _, rfl, _, _, rfl, rfl, ?_⟩
  have R1 := I.R.box I.B k1
  obtain ⟨dx, _, _, _, ea, _⟩ := id R1
  obtain ⟨dy, _, _, _, eb, _⟩ := id r1
  have nps := nmok I.ok
  have nqs := nmok ok1
  have wat1 := (wat.but I.B k1).at
  -- the change
  refine ⟨rfl, _, rfl, a, dx, _, rfl, ea, rfl, a, ps, rfl, R1, fun p1 hp1 => ?_⟩
  have t1 := Same.new (o := .lst ((nmsOf ps).map V.str)) hp1
  have e1 : (upd H1 p1 (.lst ((nmsOf ps).map V.str))) p1 = some (.lst ((nmsOf ps).map V.str)) := upd_same
  generalize upd H1 p1 (.lst ((nmsOf ps).map V.str)) = H2 at t1 e1 ⊢
  refine ⟨_, rfl, a', dy, _, rfl, t1 _ _ eb, rfl, a', qs, rfl, r1.same t1, fun p2 hp2 => ?_⟩
  have t2 := Same.new (o := .lst ((nmsOf qs).map V.str)) hp2
  have e2 : (upd H2 p2 (.lst ((nmsOf qs).map V.str))) p2 = some (.lst ((nmsOf qs).map V.str)) := upd_same
  have t12 := t1.trans t2
  have e12 := t2 _ _ e1
  generalize upd H2 p2 (.lst ((nmsOf qs).map V.str)) = H3 at t12 e2 e12 ⊢
  refine ⟨p1, p2, nmsOf ps, nmsOf qs, rfl, .of e12, .of e2, nps, nqs, fun ca H4 A0 k hca s4 cat best ek => ?_⟩
  have s4' : Same H3 H4 := s4
  have s14 := t12.trans s4'
  have kd : k = d := due A0 k best ek
  subst kd
  obtain ⟨dc, _, _, _, _, _, ec, _, _, _, _, _, l320⟩ := id cat
  -- what is asked
  refine ⟨_, rfl, ca, dc, _, rfl, ec, ca, _, _, k, rfl, cat, (k : Int), rfl, by omega, by omega, _, rfl, rfl, _, rfl, ne_ifI rfl ?_⟩
  refine ⟨_, rfl, ca, dc, _, rfl, ec, ca, _, _, k, rfl, cat, _, rfl, _, rfl, _, _, rfl, rfl, rfl, _, rfl, ne_ifI ?_ ?_⟩
  · congr 1
    by_cases c : 0 < k
    · rw [decide_eq_true c, decide_eq_true (by omega)]
    · rw [decide_eq_false c, decide_eq_false (by omega)]
  refine ⟨_, rfl, _, rfl, a, a', ps, qs, rfl, R1.same s14, I.ok, r1.same s14, ok1, fun p5 H5 np5 s5 e5 => ?_⟩
  have s15 := s14.trans (show Same H4 H5 from s5)
  refine ⟨_, rfl, p5, R, _, rfl, rfl, .of e5, .of (s15 _ _ eR), same_strs _, _, rfl, iteF ?_⟩
  refine ⟨_, rfl, ca, rfl, _, rfl, a, dx, _, rfl, s15 _ _ ea, rfl, a, ps, rfl, R1.same s15, fun p6 hp6 => ?_⟩
  have t6 := Same.new (o := .lst ((nmsOf ps).map V.str)) hp6
  have e6 : (upd H5 p6 (.lst ((nmsOf ps).map V.str))) p6 = some (.lst ((nmsOf ps).map V.str)) := upd_same
  generalize upd H5 p6 (.lst ((nmsOf ps).map V.str)) = H6 at t6 e6 ⊢
  have s46 := Same.trans (show Same H4 H5 from s5) t6
  have cat6 := cat.same s46
  have bo := btw_ok nps nqs
  refine ⟨.inr ⟨dc, _, s46 _ _ ec⟩, ca, p6, nmsOf ps, btw (nmsOf ps) (nmsOf qs), k, rfl, .of e6, nps, cat6, bo, ?_, fun p7 H7 np7 s7 e7 => ?_⟩
  · intro z hz hs
    obtain ⟨i, hi, e⟩ := stK_mem hs
    obtain ⟨h0, h1⟩ := bo.lo i hi
    have hv := via_at (xs := txK (nmsOf ps)) h0 (by rw [txK_len]; exact h1)
    rw [e] at hv
    exact (btw_inr hz).1 (txK_mem.mp (List.mem_of_getElem? hv))
  rw [appl_btw, txK_V] at e7
  have s47 := s46.trans (show Same H6 H7 from s7)
  have s17 := s14.trans s47
  refine ⟨_, rfl, a', dy, _, rfl, s17 _ _ eb, rfl, a', qs, rfl, r1.same s17, fun p8 hp8 => ?_⟩
  have t8 := Same.new (o := .lst ((nmsOf qs).map V.str)) hp8
  refine ⟨p7, p8, _, rfl, rfl, .of (t8 _ _ e7), .of upd_same, same_strs _, _, rfl, iteF ?_⟩
  have s48 := s47.trans t8
  have s18 := s14.trans s48
  generalize upd H7 p8 (.lst ((nmsOf qs).map V.str)) = H8 at s48 s18 ⊢
  -- joined
  have wat8 := wat1.same s18
  have cat8 := cat.same s48
  rw [← who.len] at cat8 bo
  obtain ⟨dw, _, _, _, _, _, ew, _⟩ := id wat8
  have stp := whole_step who nps nqs
  refine ⟨_, rfl, _, rfl, wa, ca, D, D, _, _, _, _, rfl, rfl, ew, s48 _ _ ec, M.A, wa, ca, first.length, wk, btw (nmsOf ps) (nmsOf qs), wj, k, rfl, wat8, cat8, bo, whole_no who nps nqs, stp.ok, fun p9 H9 i hp9 s9 c9 => ⟨⟨p9, rfl⟩, _, rfl, _, _, rfl, ?_⟩⟩
  have s19 := s18.trans (show Same H8 H9 from s9)
  have k09 : But b H0 H9 := k1.trans (.same s19)
  exact q _ _ _ _ a' p9 qs H9 ⟨B1.keep (fun o e => s19 _ _ e), r1.same s19, ok1, I.env.but k09, sub1, _, i, c9.imp (fun x hx z => by
    obtain ⟨_, _, _, eb1, _⟩ := id B1
    rw [z, s18 _ _ eb1] at hx
    cases hx), stp⟩ k09
end
end G
set_option Elab.async false
set_option linter.all false
set_option maxRecDepth 100000
set_option maxHeartbeats 8000000
/-! LY: the law. -/
namespace G
open PySem PySem.Spec PyProof.Rows L2 NdefX StX PySem.W
section
variable {P : Program} {w : World} {K : PySem.W.Frag} {mg : Str → Option Value} {base : Heap}
theorem ok_law {f fc fb fT fn fS fZ fN fDf fI C D : Addr} {fd fdc fdb fdT fdn fdS fdZ fdN fdDf fdI : FuncData} (F : Fun K "law" "law" sLaw f fd) (Ri : MkR P w K mg base C fI fdI) (M : ChM P w K mg base D) (n_ : NmM P w K mg base C fN fdN) (c : RcC K C)
    (Fc : Fun K "_law_cell" "_law_cell" sCell fc fdc) (bc : Binds K fdc ["_law_script", "_law_k"] []) (gc : mg "_law_cell" = some (.ref fc))
    (Fb : Fun K "_law_box" "_law_box" sBox fb fdb) (bb : Binds K fdb ["_law_cell_here"] []) (gb : mg "_law_box" = some (.ref fb))
    (T : Fun K "_law_take" "_law_take" sTake fT fdT) (bT : Binds K fdT ["_law_box_here", "_law_many"] []) (gT : mg "_law_take" = some (.ref fT))
    (kn : PySem.W.keepIn K (.ref fn) = true) (bn : Binds K fdn ["_law_box_here", "_law_many"] []) (gn : mg "_law_names" = some (.ref fn)) (Gn : FnOk P w K mg base CX0 3 fn fdn ["_law_box_here", "_law_many"] spNamesD)
    (GS : FnOk P w K mg base CX0 4 fS fdS ["_law_box_here", "_law_names_here", "_law_fields"] spPairs) (gS : mg "_law_pairs" = some (.ref fS)) (kS : PySem.W.keepIn K (.ref fS) = true) (bS : Binds K fdS ["_law_box_here", "_law_names_here", "_law_fields"] [])
    (GZ : FnOk P w K mg base CX0 9 fZ fdZ pStep (spStep C)) (gZ : mg "_law_step" = some (.ref fZ)) (kZ : PySem.W.keepIn K (.ref fZ) = true) (bZ : Binds K fdZ pStep [])
    (GD : FnOk P w K mg base CX0 4 fDf fdDf ["one", "other"] (spDiffer C)) (gD : mg "differing" = some (.ref fDf)) (kD : PySem.W.keepIn K (.ref fDf) = true) (bD : Binds K fdDf ["one", "other"] [])
    (mr : mg "range" = none) (mmx : mg "max" = none) (mmn : mg "min" = none) (ml : mg "len" = none) (mb : mg "bool" = none) : FnG P w K mg base CX0 11 f fd ["_law_script"] (spLaw K) := by
  have Gc : FnOk P w K mg base CX0 1 fc fdc ["_law_script", "_law_k"] (spCell' K) := ok_cell Fc ml
  have Gb : FnOk P w K mg base CX0 1 fb fdb ["_law_cell_here"] spBox := ok_box Fb mmx
  have GT : FnOk P w K mg base CX0 1 fT fdT ["_law_box_here", "_law_many"] spTake := ok_take T
  refine FnG.of_body F scLaw (fun vs H Q E h => ?_) (fun cdv A outer s H vs Q E hg hr h => ?_)
  · obtain ⟨a, ns, rfl, _⟩ := h
    rfl
  · obtain ⟨a, ns, rfl, hS, hl, q⟩ := h
    have hr1 := hr.mono (show 1 ≤ 10 by decide)
    have hr2 := hr.mono (show 1 + 1 ≤ 10 by decide)
    have hr3 := hr.mono (show 3 ≤ 10 by decide)
    have hr4 := hr.mono (show 4 ≤ 10 by decide)
    have hr6 := hr.mono (show 6 ≤ 10 by decide)
    have hr7 := hr.mono (show 6 + 1 ≤ 10 by decide)
    have hu := Nat.lt_of_succ_lt (hu_of hr)
    obtain ⟨tz, pz, qz⟩ := turn42 (P := P) (w := w) (K := K) (mg := mg) (base := base) (outer := outer) (H := H) (E := E) (cdv := cdv) (A := A) (s := s) (f := f) M n_ c GZ gZ kZ bZ GD gD kD bD ml mb hr
    refine ⟨_, pss_cons (ps_for PassesOwn.never rfl (pi_range1 rfl mr (pa_cons (pe_callB (call_max2 rfl) (by rfl) mmx (by decide +kernel) (pa_cons pe_int (pa_cons (pe_callB (call_min2 rfl) (by rfl) mmn (by decide +kernel)
          (pa_cons (pe_callB call_len_seq (by rfl) ml PySem.boot_len (pa_cons (pv 0) pa_nil)) (pa_cons pe_int pa_nil))) pa_nil))) pa_nil)) (pg_name (i := 1) scLaw.nd rfl (.inl rfl))
        (pss_cons (ps_set (i := 2) scLaw.nd rfl (.inl rfl) (pe_call Gb hr1 rfl gb Fb.kp bb .nil pass0 (pa_cons (pe_call Gc hr1 rfl gc Fc.kp bc .nil pass0 (pa_cons (pv 0) (pa_cons (pv 1) pa_nil))) pa_nil)))
        (pss_cons (ps_par (i := 3) (j := 4) (by rfl) scLaw.nd rfl rfl (by decide) rfl rfl (pa_cons (pe_call Gn hr3 rfl gn kn bn .nil pass0 (pa_cons (pv 2) (pa_cons pe_int pa_nil))) (pa_cons (pe_call Gn hr3 rfl gn kn bn .nil pass0 (pa_cons (pv 2) (pa_cons pe_int pa_nil))) pa_nil)) (by rfl))
        (pss_cons (ps_set (i := 5) scLaw.nd rfl (.inl rfl) (pe_call GS hr4 rfl gS kS bS .nil pass0 (pa_cons (pv 2) (pa_cons (pe_slice (r := rSlL K) sl_list (pv 3) po_none (po_some (pe_ix (r := rIxL K) ix_list (pe_lst (pa_cons (pe_call GT hr1 rfl gT T.kp bT .nil pass0 (pa_cons (pv 2) (pa_cons pe_int pa_nil)))
            (pa_cons (pe_op op_add pe_int (pe_call GT hr1 rfl gT T.kp bT .nil pass0 (pa_cons (pv 2) (pa_cons pe_int pa_nil)))) pa_nil))) (pe_call GT hr1 rfl gT T.kp bT .nil pass0 (pa_cons (pv 2) (pa_cons pe_int pa_nil))) (fun _ _ => rfl)))) (pa_cons (pv 4) pa_nil)))))
        (pss_cons (ps_set (i := 6) scLaw.nd rfl (.inl rfl) (pe_make Ri.M Ri.G hr7 rfl Ri.g Ri.b .nil pass0 (pa_cons (pv 5) pa_nil)))
        (pss_cons (ps_par (i := 7) (j := 8) (by rfl) scLaw.nd rfl rfl (by decide) rfl rfl (pa_cons (pe_meth0 (pv 6) c.cl n_.m n_.G hr1 n_.b .nil pass0) (pa_cons (pe_smeth (E := fun _ => E0) (pe_glob (v := .ref D) rfl M.g rfl) M.mS M.GS hr7 M.bS (fun σ => passA0 σ)
            (pa_cons (pe_callB call_len_seq (by rfl) ml PySem.boot_len (pa_cons (pv 5) pa_nil)) pa_nil)) pa_nil)) (by rfl))
        (pss_cons (ps_for PassesOwn.never rfl (pi_range1 rfl mr (pa_cons pe_int pa_nil)) (pg_name (i := 9) scLaw.nd rfl (.inl rfl)) pz)
        (pss_one (ps_if (PW.pt (pw_or (pt_cmpR (op_neS hu) (pe_callO (pv 8) M.mC (M.GC.raw M.bC .nil) hr6 pass0 (pa_cons (pv 7) pa_nil)) (pe_meth0 (pv 6) c.cl n_.m n_.G hr1 n_.b .nil pass0) (nomark _))
          (pw_or1 (pt_cmpR op_ne (pe_prop (pv 8) M.c.cl M.mB M.GB hr2 M.bB .nil pass0 rfl) (pe_callB call_len_seq (by rfl) ml PySem.boot_len (pa_cons (pv 7) pa_nil)) (nomark _))))) (pss_one ps_never) pss_nil)))))))))
      (pss_one (ps_ret pe_bl)), ?_⟩
    refine ⟨_, rfl, a, _, rfl, .inl hS, _, _, rfl, _, _, rfl, ?_⟩
    generalize hm : (if (if (5 : Int) < ((ns.map V.int).length : Int) then (5 : Int) else ((ns.map V.int).length : Int)) > 2 then (if (5 : Int) < ((ns.map V.int).length : Int) then (5 : Int) else ((ns.map V.int).length : Int)) else 2) = m
    have hm8 : 0 ≤ m ∧ m ≤ 5 := by
      rw [← hm]
      split <;> split at * <;> omega
    refine ⟨m, rfl, by omega, by omega, ?_⟩
    refine for_range (lo := 0) (n := m.toNat) (fun i σ H' => Same H H' ∧ ∃ x1 x2 x3 x4 x5 x6 x7 x8 x9 x10 x11 x12 x13 : Option V, σ = [some (.ref a), x1, x2, x3, x4, x5, x6, x7, x8, x9, x10, x11, x12, x13]) ?_ ?_ ?_
    · exact ⟨Same.refl H, none, none, none, none, none, none, none, none, none, none, none, none, none, rfl⟩
    · rintro i σ H1 hi ⟨s1, x1, x2, x3, x4, x5, x6, x7, x8, x9, x10, x11, x12, x13, rfl⟩
      refine ⟨_, rfl, _, rfl, a, ns, 0 + i, rfl, sqL_same hS s1, by omega, by omega, fun cell => ⟨cell, rfl, fun b H2 nb s2 B2 => ?_⟩⟩
      have nbH : H b = none := s1.free nb
      have s12 : Same H H2 := s1.trans s2
      -- names and fields
      refine ⟨_, rfl, b, 44, 0, rfl, B2, by decide, by decide, fun nl H3 ys ly yn ynd np3 e3 B3 k3 => ?_⟩
      have nnb := box_ne B2 np3
      refine ⟨_, rfl, b, 3, _, rfl, B3, by decide, by decide, fun fl H4 zs lz fn' fnd np4 e4 B4 k4 => ⟨_, _, rfl, ?_⟩⟩
      have nfb := box_ne B3 np4
      have env4 : EnvL H4 b nl fl ys zs := ⟨k4 _ _ nnb e3, ly, ynd, yn, nnb, e4, fn', by omega, by omega, nfb⟩
      have k24 := k3.trans k4
      -- how many
      refine ⟨_, rfl, _, rfl, _, rfl, b, 9, _, rfl, B4, by decide, by decide, by decide, fun r1 H5 r10 r11 B5 k5 => ?_⟩
      refine ⟨_, rfl, b, 5, _, rfl, B5, by decide, by decide, by decide, fun r2 H6 r20 r21 B6 k6 => ⟨_, _, rfl, rfl, ?_⟩⟩
      refine ⟨(by show 2 ≤ sizeLine; decide), fun m0 hm0 => ?_⟩
      have t0 := Same.new (o := .lst [.int r1, .int (36 + r2)]) hm0
      have nm0 := box_ne B6 hm0
      refine ⟨_, rfl, b, 2, _, rfl, B6.keep (fun o e => t0 _ _ e), by decide, by decide, by decide, fun r4 H8 r40 r41 B8 k8 => ?_⟩
      obtain ⟨j4, rfl, hj4⟩ := draw_at (n := 2) r40 r41 rfl
      have em0 := k8 _ _ nm0 (upd_same (H := H6) (a := m0) (o := .lst [.int r1, .int (36 + r2)]))
      obtain ⟨j, hj, hj40⟩ : ∃ j : Nat, ([.int r1, .int (36 + r2)] : List V)[j4]? = some (.int (j : Nat)) ∧ j ≤ 40 := by
        match j4, hj4 with
        | 0, _ => exact ⟨r1.toNat, by show some (V.int r1) = _; rw [Int.toNat_of_nonneg r10], by omega⟩
        | 1, _ => exact ⟨(36 + r2).toNat, by show some (V.int (36 + r2)) = _; rw [Int.toNat_of_nonneg (by omega)], by omega⟩
      refine ⟨m0, _, _, .int (j : Nat), rfl, rfl, .of em0, atI_nat hj, ?_⟩
      have k28 : But b H2 H8 := ((k24.trans (k5.trans k6)).trans (.same t0)).trans k8
      have env8 := (((env4.but (k5.trans k6)).but (.same t0)).but k8)
      refine ⟨_, rfl, nl, _, rfl, .of env8.en, fun ms hms => ?_⟩
      rw [cutV_take, ← List.map_take]
      have t1 := Same.new (o := .lst ((ys.take j).map V.str)) hms
      have env9 := env8.but (.same t1)
      have luj : (ys.take j).length ≤ j := by
        rw [List.length_take]
        omega
      refine ⟨_, rfl, b, ms, fl, _, ys.take j, zs, rfl, B8.keep (fun o e => t1 _ _ e), by omega, upd_same, by omega, env9.ef, env9.fnm, env9.f1, env9.f100, box_ne B8 hms, env9.nfb, fun pl HA ts ps npA eA alA nmA okA BA kA => ?_⟩
      have okp : PsOk ps := by
        have lps : ps.length ≤ 40 := by
          have := congrArg List.length nmA
          rw [List.length_map] at this
          omega
        refine psok_of (fs := zs) lps ?_ ?_ okA
        · rw [nmA]
          exact (List.take_sublist _ _).nodup ynd
        · rw [nmA]
          exact fun z hz => yn z (List.mem_of_mem_take hz)
      have subA : ∀ z ∈ nmsOf ps, z ∈ ys := by
        rw [nmA]
        exact fun z hz => List.mem_of_mem_take hz
      have k2A := (k28.trans (.same t1)).trans kA
      have envA := env9.but kA
      have BA2 : BoxAt HA b 12200 := BA.mono (by omega)
      -- the records
      refine ⟨_, rfl, rc_made2 (R := fun x H' => _) (.inl (.of eA)) alA okp fun a1 HB na ra sB => ?_⟩
      have rB := ra.same Nw.sub
      obtain ⟨dx, _, _, _, ea1, _⟩ := id rB
      have BB := BA2.keep fun o e => sB _ _ e
      refine ⟨_, rfl, a1, dx, _, rfl, ea1, rfl, a1, ps, rfl, rB, fun p1 hp1 => ?_⟩
      have np1 := box_ne BB hp1
      have tp := Same.new (o := .lst ((nmsOf ps).map V.str)) hp1
      have ep : (upd HB p1 (.lst ((nmsOf ps).map V.str))) p1 = some (.lst ((nmsOf ps).map V.str)) := upd_same
      generalize upd HB p1 (.lst ((nmsOf ps).map V.str)) = HC at tp ep ⊢
      have sAC := sB.trans tp
      have BC := BA2.keep fun o e => sAC _ _ e
      have lps : (ts.map V.ref).length = (nmsOf ps).length := by rw [List.length_map, List.length_map, alA.len]
      have nps := nmok okp
      refine ⟨rfl, _, rfl, pl, _, rfl, .inl (.of (sAC _ _ eA)), (ts.map V.ref).length, rfl, by rw [lps]; exact nps.few, fun wa HD wn nwa sW cw => ⟨_, _, rfl, ?_⟩⟩
      rw [lps] at cw
      have sAD := sAC.trans (show Same HC HD from sW)
      have k2D := k2A.trans (.same sAD)
      have tin0 : TIn K C D HD b a1 nl fl wa (12200 + 1500 * 0) ps ys zs (nmsOf ps) :=
        ⟨BA2.keep fun o e => sAD _ _ e, (rB.same tp).same sW, okp, envA.but (.same sAD), subA, _, wn, cw.imp (fun x hx z => by
          obtain ⟨_, _, _, eb1, _⟩ := id BC
          rw [z, eb1] at hx
          cases hx), whole_id nps⟩
      have epD : HD p1 = some (.lst ((nmsOf ps).map V.str)) := sW _ _ ep
      refine ⟨12, rfl, by decide, by decide, ?_⟩
      refine for_range (lo := 0) (n := 12) (fun j2 σ H' => ∃ (y9 y10 y11 y12 y13 : Option V) (a' wa' : Addr) (qs : List Pr), σ = [some (.ref a), some (.int (0 + (i : Nat))), some (.ref b), some (.ref nl), some (.ref fl), some (.ref pl), some (.ref a'), some (.ref p1), some (.ref wa'), y9, y10, y11, y12, y13] ∧ TIn K C D H' b a' nl fl wa' (12200 + 1500 * j2) qs ys zs (nmsOf ps) ∧ But b H2 H' ∧ H' p1 = some (.lst ((nmsOf ps).map V.str))) ?_ ?_ ?_
      · exact ⟨_, _, _, _, _, a1, wa, ps, rfl, tin0, k2D, epD⟩
      · rintro j2 σ H' hj2 ⟨y9, y10, y11, y12, y13, a', wa', qs, rfl, tin, k', ep'⟩
        refine qz _ _ _ _ _ _ _ _ _ _ b a' nl fl wa' (12200 + 1500 * j2) qs ys zs (nmsOf ps) H' tin (by omega) fun z10 z11 z12 z13 a2 wa2 qs2 H'' tin2 kk => ?_
        exact ⟨_, _, _, _, _, a2, wa2, qs2, rfl, ⟨tin2.B.mono (by omega), tin2.R, tin2.ok, tin2.env, tin2.sub, tin2.W⟩, k'.trans kk, kk _ _ np1 ep'⟩
      · rintro σ H' ⟨y9, y10, y11, y12, y13, a', wa', qs, rfl, tin, k', ep'⟩
        obtain ⟨wk, wj, cw', who⟩ := tin.W
        have wat := cw'.at
        obtain ⟨dw, _, _, _, _, _, ew, _⟩ := id wat
        obtain ⟨dy, _, _, _, ey, _⟩ := id tin.R
        refine ⟨_, rfl, wa', rfl, _, rfl, .inr ⟨dw, _, ew⟩, wa', p1, nmsOf ps, wk, wj, rfl, .of ep', nps, wat, who.ok, whole_out who (nmok tin.ok), fun p8 H8 np8 s8 e8 => ?_⟩
        rw [who.eq, txK_V] at e8
        refine ⟨_, rfl, a', dy, _, rfl, s8 _ _ ey, rfl, a', qs, rfl, tin.R.same s8, fun p9 hp9 => ?_⟩
        have t9 := Same.new (o := .lst ((nmsOf qs).map V.str)) hp9
        refine ⟨p8, p9, _, rfl, rfl, .of (t9 _ _ e8), .of upd_same, same_strs _, _, rfl, iteF ?_⟩
        have s89 := Same.trans (show Same H' H8 from s8) t9
        generalize upd H8 p9 (.lst ((nmsOf qs).map V.str)) = H9 at s89 ⊢
        refine ⟨_, rfl, wa', dw, _, rfl, s89 _ _ ew, wa', _, _, _, rfl, wat.same s89, _, rfl, p1, _, rfl, .inl (.of (s89 _ _ ep')), rfl, _, rfl, ne_ifI (by rw [show ((nmsOf ps).map V.str).length = (nmsOf ps).length from List.length_map ..]) ?_⟩
        exact ⟨same_but s12 nbH (k'.trans (.same s89)), _, _, _, _, _, _, _, _, _, _, _, _, _, rfl⟩
    · rintro σ H1 ⟨s1, x1, x2, x3, x4, x5, x6, x7, x8, x9, x10, x11, x12, x13, rfl⟩
      exact q H1
end
end G
set_option Elab.async false
set_option linter.all false
set_option maxRecDepth 100000
set_option maxHeartbeats 2000000
/-! HK: the head's facts by a Hook of our own: methods that capture __class__, properties, instances that are called; the law's end over it. -/
namespace G
open PySem PySem.Spec PyProof.Rows L2 NdefX StX He

/-! ### defs by where they stand -/
/-- a def of the text: where it stands, its names, its statement, the names that it captures -/
structure Dp where
  at_ : PySem.W.Frag → Addr
  name : Str
  qual : Str
  st : Stmt
  clo : List Str
abbrev FnY : Type := Option (Str × Str × Arguments × FuncBody × Scope × Addr × List Str × Addr)
def fnY (K : PySem.W.Frag) (a : Addr) : FnY := match K.lookup a with
  | some ⟨_, _, .func fd, _⟩ => some (fd.name, fd.qualname, fd.params, fd.body, fd.scope, fd.globals, fd.closure.map (·.1), fd.builtins)
  | _ => none
def Dp.val (d : Dp) : FnY := some (d.name, d.qual, defArgs d.st, .stmts (defBody d.st), defScope d.st, mainGlobals, d.clo, builtinsNs)
def noneB : Value → Bool
  | .none => true
  | _ => false
/-- the def's code, no positional defaults -/
def codB (K : PySem.W.Frag) (a : Addr) (q : Str) : Bool := match K.lookup a with
  | some ⟨_, _, .func fd, _⟩ => PySem.W.codeIn K fd.code q && noneB fd.defaults
  | _ => false
def plainB (K : PySem.W.Frag) (a : Addr) (q : Str) : Bool := PySem.W.keepIn K (.ref a) && codB K a q
theorem fun_of {K : PySem.W.Frag} {a : Addr} {d : Dp} (e : fnY K a = d.val) (hc : d.clo = []) (c : plainB K a d.qual = true) : ∃ fd, Fun K d.name d.qual d.st a fd := by
  obtain ⟨kp, c2⟩ := ba c
  unfold fnY Dp.val at e
  rw [hc] at e
  unfold codB at c2
  cases q : K.lookup a with
  | none =>
    rw [q] at c2
    cases c2
  | some o =>
    obtain ⟨oc, od, dt, osl⟩ := o
    rw [q] at c2 e
    cases dt with
    | func fd =>
      obtain ⟨n1, n2, n3, n4, n5, n6, n7, n8, n9, n10, n11, n12, n13, n14, n15⟩ := fd
      have e2 : (some (n1, n2, n3, n4, n5, n6, n7.map (·.1), n15) : FnY) = some (d.name, d.qual, defArgs d.st, .stmts (defBody d.st), defScope d.st, mainGlobals, [], builtinsNs) := e
      simp only [Option.some.injEq, Prod.mk.injEq] at e2
      obtain ⟨h1, h2, h3, h4, h5, h6, h7, h8⟩ := e2
      have h7' : n7 = [] := List.map_eq_nil_iff.mp h7
      subst h1 h2 h3 h4 h5 h6 h7' h8
      have c3 : (PySem.W.codeIn K n13 d.qual && noneB n8) = true := c2
      obtain ⟨k1, k2⟩ := ba c3
      cases n8 with
      | none => exact ⟨_, ⟨oc, od, n9, n10, n11, n12, n13, n14, osl, rfl, q, k1⟩, kp⟩
      | _ => cases k2
    | _ => cases c2
/-- a def with one positional default, a thing in the heap -/
def dflD (K : PySem.W.Frag) (v : Value) : Bool := match v with
  | .ref T => (match K.lookup T with
    | some ⟨_, _, .seq its _, _⟩ => (match its.toList with
      | [.ref _] => true
      | _ => false)
    | _ => false)
  | _ => false
theorem dflD_ok {K : PySem.W.Frag} {v : Value} (h : dflD K v = true) : ∃ E : Addr, DflV K v [.ref E] := by
  unfold dflD at h
  split at h
  · rename_i T
    split at h
    · rename_i x1 x2 its n x3 ho
      split at h
      · rename_i E hE
        refine ⟨E, .inr ⟨(fun z => nomatch z), T, _, [.ref E], n, rfl, ho, ?_, .cons rfl .nil⟩⟩
        show Data.seq its n = _
        rw [← hE]
      · cases h
    · cases h
  · cases h
def codD (K : PySem.W.Frag) (a : Addr) (q : Str) : Bool := match K.lookup a with
  | some ⟨_, _, .func fd, _⟩ => PySem.W.codeIn K fd.code q && dflD K fd.defaults
  | _ => false
theorem fund_of {K : PySem.W.Frag} {a : Addr} {d : Dp} (e : fnY K a = d.val) (hc : d.clo = []) (c : (PySem.W.keepIn K (.ref a) && codD K a d.qual) = true) :
    ∃ (E : Addr) (fd : FuncData), FunD K d.name d.qual (defArgs d.st) (defBody d.st) (defScope d.st) [.ref E] [] a fd := by
  obtain ⟨kp, c2⟩ := ba c
  unfold fnY Dp.val at e
  rw [hc] at e
  unfold codD at c2
  cases q : K.lookup a with
  | none =>
    rw [q] at c2
    cases c2
  | some o =>
    obtain ⟨oc, od, dt, osl⟩ := o
    rw [q] at c2 e
    cases dt with
    | func fd =>
      obtain ⟨n1, n2, n3, n4, n5, n6, n7, n8, n9, n10, n11, n12, n13, n14, n15⟩ := fd
      have e2 : (some (n1, n2, n3, n4, n5, n6, n7.map (·.1), n15) : FnY) = some (d.name, d.qual, defArgs d.st, .stmts (defBody d.st), defScope d.st, mainGlobals, [], builtinsNs) := e
      simp only [Option.some.injEq, Prod.mk.injEq] at e2
      obtain ⟨h1, h2, h3, h4, h5, h6, h7, h8⟩ := e2
      have h7' : n7 = [] := List.map_eq_nil_iff.mp h7
      subst h1 h2 h3 h4 h5 h6 h7' h8
      have c3 : (PySem.W.codeIn K n13 d.qual && dflD K n8) = true := c2
      obtain ⟨k1, k2⟩ := ba c3
      obtain ⟨E, hE⟩ := dflD_ok k2
      exact ⟨E, _, ⟨oc, od, n8, n9, n10, n11, n12, n13, n14, osl, rfl, q, k1, hE, .inl rfl⟩, kp⟩
    | _ => cases c2
/-- a def with one keyword-only default, None -/
def kwN (K : PySem.W.Frag) (v : Value) (x : Str) : Bool := match v with
  | .ref D => eqO (PySem.W.nsIn K D x) (some (some .none))
  | _ => false
def codK (K : PySem.W.Frag) (a : Addr) (q x : Str) : Bool := match K.lookup a with
  | some ⟨_, _, .func fd, _⟩ => PySem.W.codeIn K fd.code q && (noneB fd.defaults && kwN K fd.kwdefaults x)
  | _ => false
theorem funk_of {K : PySem.W.Frag} {a : Addr} {d : Dp} {x : Str} (e : fnY K a = d.val) (hc : d.clo = []) (c : (PySem.W.keepIn K (.ref a) && codK K a d.qual x) = true) :
    ∃ fd : FuncData, FunD K d.name d.qual (defArgs d.st) (defBody d.st) (defScope d.st) [] [(x, .non)] a fd := by
  obtain ⟨kp, c2⟩ := ba c
  unfold fnY Dp.val at e
  rw [hc] at e
  unfold codK at c2
  cases q : K.lookup a with
  | none =>
    rw [q] at c2
    cases c2
  | some o =>
    obtain ⟨oc, od, dt, osl⟩ := o
    rw [q] at c2 e
    cases dt with
    | func fd =>
      obtain ⟨n1, n2, n3, n4, n5, n6, n7, n8, n9, n10, n11, n12, n13, n14, n15⟩ := fd
      have e2 : (some (n1, n2, n3, n4, n5, n6, n7.map (·.1), n15) : FnY) = some (d.name, d.qual, defArgs d.st, .stmts (defBody d.st), defScope d.st, mainGlobals, [], builtinsNs) := e
      simp only [Option.some.injEq, Prod.mk.injEq] at e2
      obtain ⟨h1, h2, h3, h4, h5, h6, h7, h8⟩ := e2
      have h7' : n7 = [] := List.map_eq_nil_iff.mp h7
      subst h1 h2 h3 h4 h5 h6 h7' h8
      have c3 : (PySem.W.codeIn K n13 d.qual && (noneB n8 && kwN K n9 x)) = true := c2
      obtain ⟨k1, k2⟩ := ba c3
      obtain ⟨k2, k3⟩ := ba k2
      cases n8 with
      | none =>
        cases n9 with
        | ref D =>
          refine ⟨_, ⟨oc, od, .none, .ref D, n10, n11, n12, n13, n14, osl, rfl, q, k1, .inl ⟨rfl, rfl⟩, .inr ⟨D, rfl, fun p hp => ?_⟩⟩, kp⟩
          rw [List.mem_singleton.mp hp]
          exact ⟨.none, eqO_ok k3, rfl⟩
        | _ => cases k3
      | _ => cases k2
    | _ => cases c2
/-- a method that captures __class__ -/
def celC (K : PySem.W.Frag) (cc C : Addr) : Bool := match K.lookup cc with
  | some ⟨_, _, .cell (some (.ref D)), _⟩ => decide (D = C)
  | _ => false
def cloB (K : PySem.W.Frag) (a C : Addr) : Bool := match K.lookup a with
  | some ⟨_, _, .func fd, _⟩ => (match fd.closure with
    | [(_, cc)] => celC K cc C
    | _ => false)
  | _ => false
/-- .. its code object's file -/
def filC (K : PySem.W.Frag) (c : Addr) (file : Str) : Bool := match K.lookup c with
  | some ⟨_, _, .fields vs, _⟩ => (match vs.toList[2]? with
    | some (Value.str fl _) => file == fl
    | _ => false)
  | _ => false
def filV (K : PySem.W.Frag) (v : Value) (file : Str) : Bool := match v with
  | .ref c => filC K c file
  | _ => false
def filB (K : PySem.W.Frag) (a : Addr) (file : Str) : Bool := match K.lookup a with
  | some ⟨_, _, .func fd, _⟩ => filV K fd.code file
  | _ => false
def kwV (K : PySem.W.Frag) (a : Addr) : Value := match K.lookup a with
  | some ⟨_, _, .func fd, _⟩ => fd.kwdefaults
  | _ => .none
/-- what FunX and SupOf want of the def at a, of the class at C -/
structure ClsDef (P : Program) (K : PySem.W.Frag) (d : Dp) (a C : Addr) : Prop where
  ex : ∃ (oc : Value) (od : Option Addr) (doc pm ct : Value) (an : Option Addr) (osl : Array (Option Value)) (cda cc : Addr) (oc3 : Value) (od3 : Option Addr) (sl3 : Array (Option Value)) (oc2 : Value) (od2 : Option Addr) (vs : Array Value) (sl2 : Array (Option Value)) (fl : Str) (tf : Tok),
    K.lookup a = some ⟨oc, od, .func (PySem.W.ksFn d.name d.qual (defArgs d.st) (defBody d.st) (defScope d.st) .none (kwV K a) doc pm an (.ref cda) ct cc), osl⟩ ∧ PySem.W.codeIn K (.ref cda) d.qual = true ∧
    K.lookup cc = some ⟨oc3, od3, .cell (some (.ref C)), sl3⟩ ∧ K.lookup cda = some ⟨oc2, od2, .fields vs, sl2⟩ ∧ vs.toList[2]? = some (Value.str fl tf) ∧ ((P.main.file : Str) == fl) = true
theorem clsdef_of {P : Program} {K : PySem.W.Frag} {a C : Addr} {d : Dp} (e : fnY K a = d.val) (hc : d.clo = [("__class__" : Str)]) (c : (codB K a d.qual && (cloB K a C && filB K a P.main.file)) = true) : ClsDef P K d a C := by
  obtain ⟨c1, c23⟩ := ba c
  obtain ⟨c2, c3⟩ := ba c23
  unfold fnY Dp.val at e
  rw [hc] at e
  unfold codB at c1
  unfold cloB at c2
  unfold filB at c3
  cases q : K.lookup a with
  | none =>
    rw [q] at c1
    cases c1
  | some o =>
    obtain ⟨oc, od, dt, osl⟩ := o
    rw [q] at c1 c2 c3 e
    cases dt with
    | func fd =>
      have ekw : kwV K a = fd.kwdefaults := by
        unfold kwV
        rw [q]
      obtain ⟨n1, n2, n3, n4, n5, n6, n7, n8, n9, n10, n11, n12, n13, n14, n15⟩ := fd
      have e2 : (some (n1, n2, n3, n4, n5, n6, n7.map (·.1), n15) : FnY) = some (d.name, d.qual, defArgs d.st, .stmts (defBody d.st), defScope d.st, mainGlobals, [("__class__" : Str)], builtinsNs) := e
      simp only [Option.some.injEq, Prod.mk.injEq] at e2
      obtain ⟨h1, h2, h3, h4, h5, h6, h7, h8⟩ := e2
      obtain ⟨cc, rfl⟩ : ∃ cc, n7 = [(("__class__" : Str), cc)] := by
        match n7, h7 with
        | [(y, cc)], h7 =>
          have : y = ("__class__" : Str) := by
            have h9 : [y] = [("__class__" : Str)] := h7
            exact List.head_eq_of_cons_eq h9
          exact ⟨cc, by rw [this]⟩
      subst h1 h2 h3 h4 h5 h6 h8
      have c4 : (PySem.W.codeIn K n13 d.qual && noneB n8) = true := c1
      obtain ⟨k1, k2⟩ := ba c4
      have c5 : celC K cc C = true := c2
      unfold celC at c5
      have c6 : filV K n13 P.main.file = true := c3
      obtain ⟨oc3, od3, sl3, hcell⟩ : ∃ oc3 od3 sl3, K.lookup cc = some ⟨oc3, od3, .cell (some (.ref C)), sl3⟩ := by
        split at c5
        · rename_i x1 x2 D x3 ho
          rw [of_decide_eq_true c5] at ho
          exact ⟨_, _, _, ho⟩
        · cases c5
      cases n13 with
      | ref cda =>
        have c7 : filC K cda P.main.file = true := c6
        unfold filC at c7
        obtain ⟨oc2, od2, vs, sl2, fl, tf, w1, w2, w3⟩ : ∃ oc2 od2 vs sl2 fl tf, K.lookup cda = some ⟨oc2, od2, .fields vs, sl2⟩ ∧ vs.toList[2]? = some (Value.str fl tf) ∧ ((P.main.file : Str) == fl) = true := by
          split at c7
          · rename_i x1 x2 vs x3 ho
            split at c7
            · rename_i fl tf hv
              exact ⟨_, _, vs, _, fl, tf, ho, hv, c7⟩
            · cases c7
          · cases c7
        cases n8 with
        | none =>
          refine ⟨oc, od, n10, n11, n14, n12, osl, cda, cc, oc3, od3, sl3, oc2, od2, vs, sl2, fl, tf, ?_, k1, hcell, w1, w2, w3⟩
          rw [ekw]
          exact q
        | _ => cases k2
      | _ => cases c6
    | _ => cases c1
/-- what super() rests on besides -/
def supB (K : PySem.W.Frag) (C f2 : Addr) : Bool := PySem.W.isClsIn K C && (decide (PySem.W.mroIn K C (.ref C) = some true) && (eqO (PySem.W.nsIn K cStatics "thirdparty.any") (some none) && (eqO (PySem.W.ks_superIn K C C "__init__") (some (some (.ref f2))) &&
  (decide (PySem.W.typeIn K (.ref f2) = some (.type "function")) && PySem.W.fnIn K f2))))
/-! ### properties, calls -/
def getr (K : PySem.W.Frag) (p : Addr) : Addr := match PySem.W.recIn K p "property" with
  | some (.ref g :: _) => g
  | _ => 0
def proB (K : PySem.W.Frag) (C : Addr) (f : Str) : Bool := eqO (PySem.W.findIn K (.ref C) f) (some (some (.ref (ma K C f)))) && (eqO (PySem.W.specialIn K (.ref (ma K C f)) "__get__") (some (some (.builtin "property.__get__"))) &&
  (decide (PySem.W.takesIn K (.ref (ma K C f)) = some true) && (match PySem.W.recIn K (ma K C f) "property" with
    | some (.ref _ :: _) => true
    | _ => false)))
theorem pro_ok {K : PySem.W.Frag} {C : Addr} {f : Str} (h : proB K C f = true) : PropOf K C f (ma K C f) (getr K (ma K C f)) := by
  obtain ⟨c1, c⟩ := ba h
  obtain ⟨c2, c⟩ := ba c
  obtain ⟨c3, c4⟩ := ba c
  refine ⟨eqO_ok c1, eqO_ok c2, of_decide_eq_true c3, ?_⟩
  unfold getr
  split at c4
  · rename_i g rest e
    rw [e]
    exact ⟨rest, rfl⟩
  · cases c4
def calB (K : PySem.W.Frag) (C : Addr) : Bool := eqO (PySem.W.findIn K (.ref C) "__call__") (some (some (.ref (ma K C "__call__")))) && (PySem.W.isFn K (.ref (ma K C "__call__")) && PySem.W.fnIn K (ma K C "__call__"))
theorem cal_ok {K : PySem.W.Frag} {C : Addr} (h : calB K C = true) : CallO K C (ma K C "__call__") := by
  obtain ⟨c1, c⟩ := ba h
  obtain ⟨c2, c3⟩ := ba c
  exact ⟨eqO_ok c1, c2, c3⟩
/-! ### the Hook -/
/-- what an object names, as far as the facts ask -/
def refsQ (o : Obj) : List Addr := match o.data with
  | .dict es _ => es.toList.flatMap fun e => refV e.val
  | .func fd => refV fd.code ++ (refV fd.defaults ++ (refV fd.kwdefaults ++ fd.closure.map (·.2)))
  | .cls cd => [cd.ns]
  | .fields vs => (match o.cls with
    | .type n => (match (decide (n = "property") || decide (n = "staticmethod")) with
      | true => vs.toList.flatMap refV
      | false => [])
    | _ => [])
  | _ => []
def frL {α : Type} : List Addr → (List Addr → α) → α
  | [], k => k []
  | a :: r, k => HandSHeadRun.frNat a fun a => frL r fun r => k (a :: r)
theorem frL_eq {α : Type} : ∀ (l : List Addr) (k : List Addr → α), frL l k = k l
  | [], _ => rfl
  | a :: r, k => by
    show (HandSHeadRun.frNat a fun a => frL r fun r => k (a :: r)) = _
    rw [HandSHeadRun.frNat_eq, frL_eq r]
def lvl (g : Addr → Option Obj) (as : List Addr) : List Addr := as.flatMap fun a => match g a with
  | some o => refsQ o
  | none => []
def asQ {α : Type} (g : Addr → Option Obj) : Nat → List Addr → List Addr → (List Addr → α) → α
  | 0, fr, acc, k => k (acc ++ fr)
  | n + 1, fr, acc, k => frL (lvl g fr) fun f2 => asQ g n f2 (acc ++ fr) k
theorem asQ_ex {g : Addr → Option Obj} : ∀ (n : Nat) (fr acc : List Addr), ∃ as : List Addr, ∀ (α : Type) (k : List Addr → α), asQ g n fr acc k = k as
  | 0, fr, acc => ⟨acc ++ fr, fun _ _ => rfl⟩
  | n + 1, fr, acc => by
    obtain ⟨as, h⟩ := asQ_ex (g := g) n (lvl g fr) (acc ++ fr)
    refine ⟨as, fun α k => ?_⟩
    show (frL (lvl g fr) fun f2 => asQ g n f2 (acc ++ fr) k) = _
    rw [frL_eq]
    exact h α k
def frK {α : Type} (g : Addr → Option Obj) : List Addr → (PySem.W.Frag → α) → α
  | [], k => k []
  | a :: r, k => match g a with
    | some o => frK g r fun K => k ((a, o) :: K)
    | none => frK g r k
theorem frK_eq {α : Type} {g : Addr → Option Obj} : ∀ (as : List Addr) (k : PySem.W.Frag → α), frK g as k = k (frG g as)
  | [], _ => rfl
  | a :: r, k => by
    unfold frK frG
    rw [List.filterMap_cons]
    cases g a with
    | some o =>
      show (frK g r fun K => k ((a, o) :: K)) = _
      rw [frK_eq r]
      rfl
    | none =>
      show frK g r k = _
      rw [frK_eq r]
      rfl
abbrev AlP : Type := Bool × List FnY
abbrev Ck : Type := PySem.W.Frag → Bool
def obsP (cs : List Ck) (fn : List Dp) (K : PySem.W.Frag) : AlP := (cs.all fun c => c K, fn.map fun d => fnY K (d.at_ K))
def valP (fn : List Dp) : AlP := (true, fn.map Dp.val)
def SaysP (cs : List Ck) (fn : List Dp) (K : PySem.W.Frag) : Prop := obsP cs fn K = valP fn
def obsPG (n : Nat) (cs : List Ck) (fn : List Dp) (g : Addr → Option Obj) : AlP := asQ g n [mainGlobals, cStatics] [] fun as => frK g as fun K => obsP cs fn K
theorem obsPG_ex (n : Nat) (cs : List Ck) (fn : List Dp) (g : Addr → Option Obj) : ∃ as, obsPG n cs fn g = obsP cs fn (frG g as) := by
  obtain ⟨as, h⟩ := asQ_ex (g := g) n [mainGlobals, cStatics] []
  refine ⟨as, ?_⟩
  unfold obsPG
  rw [h, frK_eq]
def hookP (n : Nat) (cs : List Ck) (fn : List Dp) : PySem.W.Hook where
  α := AlP
  obs := fun s => obsPG n cs fn s.heap.get?
  val := fun _ => valP fn
  says := fun _ h => ∃ K : PySem.W.Frag, K.In h ∧ SaysP cs fn K
  of := fun _ s e => by
    obtain ⟨as, h⟩ := obsPG_ex n cs fn s.heap.get?
    rw [h] at e
    exact ⟨_, frG_in, e⟩
  keeps := fun _ _ _ ⟨K, hK, c⟩ k => ⟨K, PySem.W.Frag.In.keeps hK k, c⟩
theorem obsPG_eq {n : Nat} {cs : List Ck} {fn : List Dp} {g : Addr → Option Obj} {s : Shared} (h : ∀ a, g a = s.heap.get? a) : obsPG n cs fn g = (hookP n cs fn).obs s := by
  have e : g = s.heap.get? := funext h
  rw [e] <;> rfl
section
variable {cs : List Ck} {fn : List Dp} {K : PySem.W.Frag}
theorem SaysP.ck (c : SaysP cs fn K) (i : Nat) {f : Ck} (h : cs[i]? = some f := by rfl) : f K = true :=
  List.all_eq_true.mp (show (cs.all fun c => c K) = true from congrArg (fun z : AlP => z.1) c) f (List.mem_of_getElem? h)
theorem SaysP.at_ (c : SaysP cs fn K) (i : Nat) {d : Dp} (h : fn[i]? = some d := by rfl) : fnY K (d.at_ K) = d.val := by
  have e : fn.map (fun d => fnY K (d.at_ K)) = fn.map Dp.val := congrArg (fun z : AlP => z.2) c
  have e2 : (fn.map fun d => fnY K (d.at_ K))[i]? = (fn.map Dp.val)[i]? := by rw [e]
  rw [List.getElem?_map, List.getElem?_map, h] at e2
  exact Option.some.inj e2
end
/-! ### the law's end -/
theorem walk_goE {l : PySem.W.OpenLaw} {n k : Nat} {q : Program} {loose : List Str} {XP : (Str → Option Value) → Heap → Prop} {YP : World → Heap → Prop} {d : DefRec} {x : Str}
    (most : l.most = some n) (few : n ≤ sizeLine) (nodf : d.params.defaults = []) (hr : Room k callerA)
    (F : ∀ (w : World) (mg : Str → Option Value) (fa : Addr) (h : Heap), YP w h → h.Ns mainGlobals mg → mg d.name = some (.ref fa) →
      ∃ (K : PySem.W.Frag) (fd : FuncData) (sp : Sp), K.In h ∧ (∀ (s : Shared) (u : Value), BindsTo s fd ⟨[u], []⟩ [(x, u)]) ∧
        (∀ (H : Hp) (a : Addr) (ns : List Int), ns.length ≤ n → Only H → SqL K H a (ns.map V.int) → sp [.ref a] H (fun v _ => v = .bl true) fun _ _ _ => False) ∧
        ∀ base : Heap, K.In base → base.Ns mainGlobals mg → FnG l.prog w K mg base CX0 k fa fd [x] sp) :
    PySem.W.WalkO q loose XP YP l.row.toRowW d [] (fun f vs => PySem.call f vs) := by
  refine Att.attach_call most nodf
    fun w _ s₁ mg mb fa _ _ _ _ a vs ns top Y _ _ _ atF obj allInt len noG => ?_
  obtain ⟨K, fd, sp, inK, binds, hsp, keeps⟩ := F w mg fa _ Y top.T.g atF
  exact law_go inK top.T.g top.T.b top.T.builtins top.T.nolimit noG obj allInt (Nat.le_trans len few) hr keeps binds
    fun H hO hS => hsp H a ns len hO hS
end G
set_option Elab.async false
set_option linter.all false
set_option maxRecDepth 100000
set_option maxHeartbeats 8000000
/-! XA: what the top has written. -/
namespace G
open PySem PySem.Spec PyProof.Rows L2 NdefX StX
open He in
def ownB (K : PySem.W.Frag) (C : Addr) (m : Str) (f : Addr) : Bool := eqO (PySem.W.findIn K (.ref C) m) (some (some (.ref f))) && (PySem.W.isFn K (.ref f) && PySem.W.fnIn K f)
open He in
theorem own_ok {K : PySem.W.Frag} {C f : Addr} {m : Str} (h : ownB K C m f = true) : OwnM K C m f ∧ PySem.W.fnIn K f = true := by
  obtain ⟨c1, h⟩ := ba h
  obtain ⟨c2, c3⟩ := ba h
  exact ⟨⟨eqO_ok c1, c2⟩, c3⟩
open He in
def rckB (K : PySem.W.Frag) (C : Addr) : Bool := eqO (PySem.W.findIn K (.ref C) "__class__") (some (some (.builtin "object.__class__"))) && (eqO (PySem.W.specialIn K (.builtin "object.__class__") "__get__") (some (some (.builtin "getset_descriptor.__get__"))) &&
  (decide (PySem.W.takesIn K (.builtin "object.__class__") = some true) && (decide (PySem.W.mroIn K C (.type "object") = some true) && (decide (PySem.W.kitOne K (.ref C) (.ref C) = some true) && (decide (PySem.W.kitOne K (.type "NoneType") (.ref C) = some false) &&
  (decide (PySem.W.kitOne K (.type "int") (.ref C) = some false) && (decide (PySem.W.kitOne K (.type "str") (.ref C) = some false) && (decide (PySem.W.kitOne K (.type "list") (.ref C) = some false) && (decide (PySem.W.kitOne K (.type "bool") (.ref C) = some false) && decide (PySem.W.kitOne K (.type "dict") (.ref C) = some false))))))))))
open He in
theorem rck_ok {K : PySem.W.Frag} {C : Addr} (h : rckB K C = true) : RcK K C := by
  obtain ⟨c1, h⟩ := ba h
  obtain ⟨c2, h⟩ := ba h
  obtain ⟨c3, h⟩ := ba h
  obtain ⟨c4, h⟩ := ba h
  obtain ⟨c5, h⟩ := ba h
  obtain ⟨c6, h⟩ := ba h
  obtain ⟨c7, h⟩ := ba h
  obtain ⟨c8, h⟩ := ba h
  obtain ⟨c9, h⟩ := ba h
  obtain ⟨c10, c11⟩ := ba h
  exact ⟨eqO_ok c1, eqO_ok c2, of_decide_eq_true c3, of_decide_eq_true c4, of_decide_eq_true c5, of_decide_eq_true c6, of_decide_eq_true c7, of_decide_eq_true c8, of_decide_eq_true c9, of_decide_eq_true c10, of_decide_eq_true c11⟩
open He in
def eqoB (K : PySem.W.Frag) (C f : Addr) : Bool := eqO (PySem.W.findIn K (.ref C) "__eq__") (some (some (.ref f))) && (PySem.W.isFn K (.ref f) && (eqO (PySem.W.findIn K (.ref C) "__ne__") (some (some (.builtin "object.__ne__"))) && decide (PySem.W.mroIn K C (.type "object") = some true)))
open He in
theorem eqo_ok {K : PySem.W.Frag} {C f : Addr} (h : eqoB K C f = true) : EqO K C f := by
  obtain ⟨c1, h⟩ := ba h
  obtain ⟨c2, h⟩ := ba h
  obtain ⟨c3, c4⟩ := ba h
  exact ⟨eqO_ok c1, c2, eqO_ok c3, of_decide_eq_true c4⟩
/-- a static method's def -/
def stf (K : PySem.W.Frag) (p : Addr) : Addr := match PySem.W.recIn K p "staticmethod" with
  | some (.ref g :: _) => g
  | _ => 0
def smF (K : PySem.W.Frag) (C : Addr) (m : Str) : Bool := match PySem.W.findCls K (.ref C) (.type "type") m with
  | some (.get (.builtin b) (.ref p) .none (.ref D)) => decide (b = "staticmethod.__get__") && (decide (p = He.ma K C m) && decide (D = C))
  | _ => false
def smR (K : PySem.W.Frag) (p : Addr) : Bool := match PySem.W.recIn K p "staticmethod" with
  | some (.ref _ :: _) => true
  | _ => false
open He in
def smB (K : PySem.W.Frag) (C : Addr) (m : Str) : Bool := smF K C m && (smR K (He.ma K C m) && (PySem.W.keepIn K (.ref (stf K (He.ma K C m))) && (PySem.W.readsIn K C (.type "type") && eqO (PySem.W.specialIn K (.ref C) "__getattribute__") (some (some (.builtin "type.__getattribute__"))))))
open He in
theorem sm_ok {K : PySem.W.Frag} {C : Addr} {m : Str} (h : smB K C m = true) : SMet K C m (He.ma K C m) (stf K (He.ma K C m)) := by
  obtain ⟨c1, h⟩ := ba h
  obtain ⟨c2, h⟩ := ba h
  obtain ⟨c3, h⟩ := ba h
  obtain ⟨c4, c5⟩ := ba h
  refine ⟨⟨c4, eqO_ok c5⟩, ?_, ?_, c3⟩
  · unfold smF at c1
    split at c1
    · rename_i b p D0 e0
      obtain ⟨d1, d⟩ := ba c1
      obtain ⟨d2, d3⟩ := ba d
      rw [e0, of_decide_eq_true d1, of_decide_eq_true d2, of_decide_eq_true d3]
    · cases c1
  · unfold smR at c2
    unfold stf
    split at c2
    · rename_i g more e0
      exact ⟨more, by rw [e0]⟩
    · cases c2

open He in
def opB (K : PySem.W.Frag) (C : Addr) (op : Operator) (f : Addr) : Bool := PySem.W.selfFirst K C && (eqO (PySem.W.findIn K (.ref C) (PySem.dunder op.info.2)) (some (some (.ref f))) && (PySem.W.isFn K (.ref f) && eqO (PySem.W.findIn K (.ref C) (dunderR op.info.2)) (some none)))
open He in
theorem op_ok {K : PySem.W.Frag} {C f : Addr} {op : Operator} (h : opB K C op f = true) : OpO K C op f := by
  obtain ⟨c1, h⟩ := ba h
  obtain ⟨c2, h⟩ := ba h
  obtain ⟨c3, c4⟩ := ba h
  exact ⟨c1, eqO_ok c2, c3, eqO_ok c4⟩

abbrev PX : Program := PySem.W.OpenLaw.prog PySem.Challenge.rw_listviews_k42_whole_steps_of_operations
def cks0 : List Ck := [
  fun K => He.Fa.ok K (.free "isinstance"),
  fun K => He.Fa.ok K (.free "int"),
  fun K => He.Fa.ok K (.free "bool"),
  fun K => He.Fa.ok K (.free "str"),
  fun K => He.Fa.ok K (.free "dict"),
  fun K => He.Fa.ok K (.free "len"),
  fun K => He.Fa.ok K (.free "all"),
  fun K => He.Fa.ok K (.free "list"),
  fun K => He.Fa.ok K (.free "range"),
  fun K => He.Fa.ok K (.free "min"),
  fun K => He.Fa.ok K (.free "max"),
  fun K => He.Fa.ok K (.free "tuple"),
  fun K => He.Fa.ok K (.free "set"),
  fun K => He.Fa.ok K (.free "sorted"),
  fun K => He.Fa.ok K (.free "enumerate"),
  fun K => He.Fa.ok K (.free "reversed"),
  fun K => He.Fa.ok K (.free "zip"),
  fun K => He.Fa.ok K (.free "iter"),
  fun K => He.Fa.ok K (.str "LETTERS" "abcdefghijklmnopqrstuvwxyz"),
  fun K => He.Fa.ok K (.int "MOST_LETTERS" 8),
  fun K => He.Fa.ok K (.int "MOST_FIELDS" 6),
  fun K => He.Fa.ok K (.int "GREATEST" 999),
  fun K => He.Fa.ok K (.int "MOST_RECORDS" 40),
  fun K => He.Fa.ok K (.int "MOST_ROWS" 80),
  fun K => plainB K (He.ga K "is_integer") "is_integer",
  fun K => He.Fa.ok K (.glo "is_integer"),
  fun K => plainB K (He.ga K "is_name") "is_name",
  fun K => He.Fa.ok K (.glo "is_name"),
  fun K => plainB K (He.ga K "is_value") "is_value",
  fun K => He.Fa.ok K (.glo "is_value")]
def cks1 : List Ck := [
  fun K => plainB K (He.ga K "is_list") "is_list",
  fun K => He.Fa.ok K (.glo "is_list"),
  fun K => plainB K (He.ga K "need_name") "need_name",
  fun K => He.Fa.ok K (.glo "need_name"),
  fun K => plainB K (He.ga K "need_value") "need_value",
  fun K => He.Fa.ok K (.glo "need_value"),
  fun K => plainB K (He.ga K "need_record") "need_record",
  fun K => He.Fa.ok K (.glo "need_record"),
  fun K => plainB K (He.ga K "checked_pairs") "checked_pairs",
  fun K => He.Fa.ok K (.glo "checked_pairs"),
  fun K => plainB K (He.ga K "need_integer") "need_integer",
  fun K => He.Fa.ok K (.glo "need_integer"),
  fun K => plainB K (He.ga K "with_item") "with_item",
  fun K => He.Fa.ok K (.glo "with_item"),
  fun K => plainB K (He.ga K "without_index") "without_index",
  fun K => He.Fa.ok K (.glo "without_index"),
  fun K => plainB K (He.ga K "need_room") "need_room",
  fun K => He.Fa.ok K (.glo "need_room"),
  fun K => plainB K (He.ga K "is_row") "is_row",
  fun K => He.Fa.ok K (.glo "is_row"),
  fun K => plainB K (He.ga K "is_rows") "is_rows",
  fun K => He.Fa.ok K (.glo "is_rows"),
  fun K => plainB K (He.ga K "need_rows") "need_rows",
  fun K => He.Fa.ok K (.glo "need_rows"),
  fun K => plainB K (He.ga K "need_records") "need_records",
  fun K => He.Fa.ok K (.glo "need_records"),
  fun K => plainB K (He.ga K "differing") "differing",
  fun K => He.Fa.ok K (.glo "differing"),
  fun K => plainB K (He.ga K "ranks_of") "ranks_of",
  fun K => He.Fa.ok K (.glo "ranks_of")]
def cks2 : List Ck := [
  fun K => plainB K (He.ga K "longest_ascent") "longest_ascent",
  fun K => He.Fa.ok K (.glo "longest_ascent"),
  fun K => plainB K (He.ga K "moves_to") "moves_to",
  fun K => He.Fa.ok K (.glo "moves_to"),
  fun K => plainB K (He.ga K "steps_to") "steps_to",
  fun K => He.Fa.ok K (.glo "steps_to"),
  fun K => plainB K (He.ga K "need_change") "need_change",
  fun K => He.Fa.ok K (.glo "need_change"),
  fun K => plainB K (He.ga K "need_after") "need_after",
  fun K => He.Fa.ok K (.glo "need_after"),
  fun K => plainB K (He.ga K "taken_over") "taken_over",
  fun K => He.Fa.ok K (.glo "taken_over"),
  fun K => plainB K (He.ga K "_law_cell") "_law_cell",
  fun K => He.Fa.ok K (.glo "_law_cell"),
  fun K => plainB K (He.ga K "_law_box") "_law_box",
  fun K => He.Fa.ok K (.glo "_law_box"),
  fun K => plainB K (He.ga K "_law_take") "_law_take",
  fun K => He.Fa.ok K (.glo "_law_take"),
  fun K => plainB K (He.ga K "_law_mixed") "_law_mixed",
  fun K => He.Fa.ok K (.glo "_law_mixed"),
  fun K => plainB K (He.ga K "_law_names") "_law_names",
  fun K => He.Fa.ok K (.glo "_law_names"),
  fun K => plainB K (He.ga K "_law_number") "_law_number",
  fun K => He.Fa.ok K (.glo "_law_number"),
  fun K => plainB K (He.ga K "_law_value") "_law_value",
  fun K => He.Fa.ok K (.glo "_law_value"),
  fun K => plainB K (He.ga K "_law_pairs") "_law_pairs",
  fun K => He.Fa.ok K (.glo "_law_pairs"),
  fun K => plainB K (He.ga K "_law_step") "_law_step",
  fun K => He.Fa.ok K (.glo "_law_step")]
def cks3 : List Ck := [
  fun K => plainB K (He.ga K "law") "law",
  fun K => He.Fa.ok K (.glo "law"),
  fun K => He.Fa.ok K (.glo "Records"),
  fun K => He.Fa.ok K (.cls "Records"),
  fun K => He.Fa.ok K (.noat "Records" "own_pairs"),
  fun K => He.Fa.ok K (.noat "Records" "own_names"),
  fun K => He.Fa.ok K (.mkr "Records"),
  fun K => (PySem.W.keepIn K (.ref (He.ma K (He.ga K "Records") "__init__")) && codD K (He.ma K (He.ga K "Records") "__init__") "Records.__init__"),
  fun K => plainB K (He.ma K (He.ga K "Records") "names") "Records.names",
  fun K => He.Fa.ok K (.meth "Records" "names"),
  fun K => plainB K (He.ma K (He.ga K "Records") "place") "Records.place",
  fun K => He.Fa.ok K (.meth "Records" "place"),
  fun K => plainB K (He.ma K (He.ga K "Records") "removed") "Records.removed",
  fun K => He.Fa.ok K (.meth "Records" "removed"),
  fun K => plainB K (He.ma K (He.ga K "Records") "moved") "Records.moved",
  fun K => He.Fa.ok K (.meth "Records" "moved"),
  fun K => plainB K (He.ma K (He.ga K "Records") "replaced") "Records.replaced",
  fun K => He.Fa.ok K (.meth "Records" "replaced"),
  fun K => plainB K (He.ma K (He.ga K "Records") "extended") "Records.extended",
  fun K => He.Fa.ok K (.meth "Records" "extended"),
  fun K => plainB K (He.ma K (He.ga K "Records") "__getitem__") "Records.__getitem__",
  fun K => ownB K (He.ga K "Records") "__getitem__" (He.ma K (He.ga K "Records") "__getitem__"),
  fun K => plainB K (He.ma K (He.ga K "Records") "__contains__") "Records.__contains__",
  fun K => ownB K (He.ga K "Records") "__contains__" (He.ma K (He.ga K "Records") "__contains__"),
  fun K => plainB K (He.ma K (He.ga K "Records") "__iter__") "Records.__iter__",
  fun K => ownB K (He.ga K "Records") "__iter__" (He.ma K (He.ga K "Records") "__iter__"),
  fun K => rckB K (He.ga K "Records"),
  fun K => (PySem.W.keepIn K (.ref (He.ma K (He.ga K "Records") "inserted")) && codK K (He.ma K (He.ga K "Records") "inserted") "Records.inserted" "index"),
  fun K => He.Fa.ok K (.meth "Records" "inserted"),
  fun K => He.Fa.ok K (.glo "Change")]
def cks4 : List Ck := [
  fun K => He.Fa.ok K (.cls "Change"),
  fun K => He.Fa.ok K (.noat "Change" "old_count"),
  fun K => He.Fa.ok K (.noat "Change" "new_items"),
  fun K => He.Fa.ok K (.noat "Change" "kept_indices"),
  fun K => He.Fa.ok K (.noat "Change" "new_rows"),
  fun K => He.Fa.ok K (.noat "Change" "fewest_steps"),
  fun K => He.Fa.ok K (.mkr "Change"),
  fun K => plainB K (He.ma K (He.ga K "Change") "__init__") "Change.__init__",
  fun K => plainB K (getr K (He.ma K (He.ga K "Change") "before")) "Change.before",
  fun K => proB K (He.ga K "Change") "before",
  fun K => plainB K (He.ma K (He.ga K "Change") "__call__") "Change.__call__",
  fun K => calB K (He.ga K "Change"),
  fun K => plainB K (He.ma K (He.ga K "Change") "rows_after") "Change.rows_after",
  fun K => He.Fa.ok K (.meth "Change" "rows_after"),
  fun K => plainB K (He.ma K (He.ga K "Change") "__add__") "Change.__add__",
  fun K => opB K (He.ga K "Change") .Add (He.ma K (He.ga K "Change") "__add__"),
  fun K => plainB K (He.ma K (He.ga K "Change") "__bool__") "Change.__bool__",
  fun K => ownB K (He.ga K "Change") "__bool__" (He.ma K (He.ga K "Change") "__bool__"),
  fun K => plainB K (He.ma K (He.ga K "Change") "__len__") "Change.__len__",
  fun K => ownB K (He.ga K "Change") "__len__" (He.ma K (He.ga K "Change") "__len__"),
  fun K => plainB K (stf K (He.ma K (He.ga K "Change") "same")) "Change.same",
  fun K => smB K (He.ga K "Change") "same",
  fun K => plainB K (stf K (He.ma K (He.ga K "Change") "between")) "Change.between",
  fun K => smB K (He.ga K "Change") "between",
  fun K => rckB K (He.ga K "Change")]
abbrev cks : List Ck := cks0 ++ cks1 ++ cks2 ++ cks3 ++ cks4
def fns0 : List Dp := [
  ⟨fun K => He.ga K "is_integer", "is_integer", "is_integer", sIsInt, []⟩,
  ⟨fun K => He.ga K "is_name", "is_name", "is_name", sIsName, []⟩,
  ⟨fun K => He.ga K "is_value", "is_value", "is_value", sIsValue, []⟩,
  ⟨fun K => He.ga K "is_list", "is_list", "is_list", sIsList, []⟩,
  ⟨fun K => He.ga K "need_name", "need_name", "need_name", sNeedName, []⟩,
  ⟨fun K => He.ga K "need_value", "need_value", "need_value", sNeedValue, []⟩,
  ⟨fun K => He.ga K "need_record", "need_record", "need_record", sNeedRecord, []⟩,
  ⟨fun K => He.ga K "checked_pairs", "checked_pairs", "checked_pairs", sChk, []⟩,
  ⟨fun K => He.ga K "need_integer", "need_integer", "need_integer", sNeedInt, []⟩,
  ⟨fun K => He.ga K "with_item", "with_item", "with_item", sWith, []⟩,
  ⟨fun K => He.ga K "without_index", "without_index", "without_index", sWout, []⟩,
  ⟨fun K => He.ga K "need_room", "need_room", "need_room", sRoom, []⟩,
  ⟨fun K => He.ga K "is_row", "is_row", "is_row", sIsRow, []⟩,
  ⟨fun K => He.ga K "is_rows", "is_rows", "is_rows", sIsRows, []⟩,
  ⟨fun K => He.ga K "need_rows", "need_rows", "need_rows", sNeedRows, []⟩,
  ⟨fun K => He.ga K "need_records", "need_records", "need_records", sNeedRecs, []⟩,
  ⟨fun K => He.ga K "differing", "differing", "differing", sDiffer, []⟩,
  ⟨fun K => He.ga K "ranks_of", "ranks_of", "ranks_of", sRanks, []⟩,
  ⟨fun K => He.ga K "longest_ascent", "longest_ascent", "longest_ascent", sAscent, []⟩,
  ⟨fun K => He.ga K "moves_to", "moves_to", "moves_to", sMoves, []⟩]
def fns1 : List Dp := [
  ⟨fun K => He.ga K "steps_to", "steps_to", "steps_to", sSteps, []⟩,
  ⟨fun K => He.ga K "need_change", "need_change", "need_change", sNeedCh, []⟩,
  ⟨fun K => He.ga K "need_after", "need_after", "need_after", sNeedAft, []⟩,
  ⟨fun K => He.ga K "taken_over", "taken_over", "taken_over", sTaken, []⟩,
  ⟨fun K => He.ga K "_law_cell", "_law_cell", "_law_cell", sCell, []⟩,
  ⟨fun K => He.ga K "_law_box", "_law_box", "_law_box", sBox, []⟩,
  ⟨fun K => He.ga K "_law_take", "_law_take", "_law_take", sTake, []⟩,
  ⟨fun K => He.ga K "_law_mixed", "_law_mixed", "_law_mixed", sMixed, []⟩,
  ⟨fun K => He.ga K "_law_names", "_law_names", "_law_names", sNames, []⟩,
  ⟨fun K => He.ga K "_law_number", "_law_number", "_law_number", sNumber, []⟩,
  ⟨fun K => He.ga K "_law_value", "_law_value", "_law_value", sValue, []⟩,
  ⟨fun K => He.ga K "_law_pairs", "_law_pairs", "_law_pairs", sPairs, []⟩,
  ⟨fun K => He.ga K "_law_step", "_law_step", "_law_step", sStep, []⟩,
  ⟨fun K => He.ga K "law", "law", "law", sLaw, []⟩,
  ⟨fun K => He.ma K (He.ga K "Records") "__init__", "__init__", "Records.__init__", (sRc 0), []⟩,
  ⟨fun K => He.ma K (He.ga K "Records") "names", "names", "Records.names", (sRc 1), []⟩,
  ⟨fun K => He.ma K (He.ga K "Records") "place", "place", "Records.place", (sRc 3), []⟩,
  ⟨fun K => He.ma K (He.ga K "Records") "removed", "removed", "Records.removed", (sRc 10), []⟩,
  ⟨fun K => He.ma K (He.ga K "Records") "moved", "moved", "Records.moved", (sRc 11), []⟩,
  ⟨fun K => He.ma K (He.ga K "Records") "replaced", "replaced", "Records.replaced", (sRc 12), []⟩]
def fns2 : List Dp := [
  ⟨fun K => He.ma K (He.ga K "Records") "extended", "extended", "Records.extended", (sRc 13), []⟩,
  ⟨fun K => He.ma K (He.ga K "Records") "__getitem__", "__getitem__", "Records.__getitem__", (sRc 4), []⟩,
  ⟨fun K => He.ma K (He.ga K "Records") "__contains__", "__contains__", "Records.__contains__", (sRc 6), []⟩,
  ⟨fun K => He.ma K (He.ga K "Records") "__iter__", "__iter__", "Records.__iter__", (sRc 7), []⟩,
  ⟨fun K => He.ma K (He.ga K "Records") "inserted", "inserted", "Records.inserted", (sRc 9), []⟩,
  ⟨fun K => He.ma K (He.ga K "Change") "__init__", "__init__", "Change.__init__", (sCh 0), []⟩,
  ⟨fun K => getr K (He.ma K (He.ga K "Change") "before"), "before", "Change.before", (sCh 1), []⟩,
  ⟨fun K => He.ma K (He.ga K "Change") "__call__", "__call__", "Change.__call__", (sCh 8), []⟩,
  ⟨fun K => He.ma K (He.ga K "Change") "rows_after", "rows_after", "Change.rows_after", (sCh 9), []⟩,
  ⟨fun K => He.ma K (He.ga K "Change") "__add__", "__add__", "Change.__add__", (sCh 10), []⟩,
  ⟨fun K => He.ma K (He.ga K "Change") "__bool__", "__bool__", "Change.__bool__", (sCh 12), []⟩,
  ⟨fun K => He.ma K (He.ga K "Change") "__len__", "__len__", "Change.__len__", (sCh 13), []⟩,
  ⟨fun K => stf K (He.ma K (He.ga K "Change") "same"), "same", "Change.same", (sCh 16), []⟩,
  ⟨fun K => stf K (He.ma K (He.ga K "Change") "between"), "between", "Change.between", (sCh 17), []⟩]
abbrev fns : List Dp := fns0 ++ fns1 ++ fns2
theorem facts {w : World} {K : PySem.W.Frag} {h : Heap} {mg : Str → Option Value} {fa : Addr} (X : K.In h) (G : h.Ns mainGlobals mg) (hfa : mg "law" = some (.ref fa)) (c : SaysP cks fns K) :
    ∃ fd : FuncData, (∀ (s : Shared) (u : Value), BindsTo s fd ⟨[u], []⟩ [("_law_script", u)]) ∧ ∀ base : Heap, K.In base → base.Ns mainGlobals mg → FnG PX w K mg base CX0 11 fa fd ["_law_script"] (spLaw K) := by
  have m_isinstance : mg "isinstance" = none := He.free_ok X G (c.ck 0 rfl)
  have m_int : mg "int" = none := He.free_ok X G (c.ck 1 rfl)
  have m_bool : mg "bool" = none := He.free_ok X G (c.ck 2 rfl)
  have m_str : mg "str" = none := He.free_ok X G (c.ck 3 rfl)
  have m_dict : mg "dict" = none := He.free_ok X G (c.ck 4 rfl)
  have m_len : mg "len" = none := He.free_ok X G (c.ck 5 rfl)
  have m_all : mg "all" = none := He.free_ok X G (c.ck 6 rfl)
  have m_list : mg "list" = none := He.free_ok X G (c.ck 7 rfl)
  have m_range : mg "range" = none := He.free_ok X G (c.ck 8 rfl)
  have m_min : mg "min" = none := He.free_ok X G (c.ck 9 rfl)
  have m_max : mg "max" = none := He.free_ok X G (c.ck 10 rfl)
  have m_tuple : mg "tuple" = none := He.free_ok X G (c.ck 11 rfl)
  have m_set : mg "set" = none := He.free_ok X G (c.ck 12 rfl)
  have m_sorted : mg "sorted" = none := He.free_ok X G (c.ck 13 rfl)
  have m_enumerate : mg "enumerate" = none := He.free_ok X G (c.ck 14 rfl)
  have m_reversed : mg "reversed" = none := He.free_ok X G (c.ck 15 rfl)
  have m_zip : mg "zip" = none := He.free_ok X G (c.ck 16 rfl)
  have m_iter : mg "iter" = none := He.free_ok X G (c.ck 17 rfl)
  obtain ⟨tcLet, gcLet⟩ := He.str_ok X G (x := "LETTERS") (c.ck 18 rfl)
  obtain ⟨tcML, gcML⟩ := He.int_ok X G (x := "MOST_LETTERS") (c.ck 19 rfl)
  obtain ⟨tcMF, gcMF⟩ := He.int_ok X G (x := "MOST_FIELDS") (c.ck 20 rfl)
  obtain ⟨tcG, gcG⟩ := He.int_ok X G (x := "GREATEST") (c.ck 21 rfl)
  obtain ⟨tcMR, gcMR⟩ := He.int_ok X G (x := "MOST_RECORDS") (c.ck 22 rfl)
  obtain ⟨tcM8, gcM8⟩ := He.int_ok X G (x := "MOST_ROWS") (c.ck 23 rfl)
  obtain ⟨fd1, F1⟩ : ∃ fd, Fun K "is_integer" "is_integer" sIsInt (He.ga K "is_integer") fd := fun_of (c.at_ 0 rfl) rfl (c.ck 24 rfl)
  have b1 := F1.binds (ps := ["value", "low", "high"]) fun _ _ _ _ _ _ us hl => match us, hl with | [_, _, _], _ => rfl
  have g1 : mg "is_integer" = some (.ref (He.ga K "is_integer")) := He.glo_ok X G (c.ck 25 rfl)
  have k1 := F1.kp
  obtain ⟨fd2, F2⟩ : ∃ fd, Fun K "is_name" "is_name" sIsName (He.ga K "is_name") fd := fun_of (c.at_ 1 rfl) rfl (c.ck 26 rfl)
  have b2 := F2.binds (ps := ["value"]) fun _ _ _ _ _ _ us hl => match us, hl with | [_], _ => rfl
  have g2 : mg "is_name" = some (.ref (He.ga K "is_name")) := He.glo_ok X G (c.ck 27 rfl)
  have k2 := F2.kp
  obtain ⟨fd3, F3⟩ : ∃ fd, Fun K "is_value" "is_value" sIsValue (He.ga K "is_value") fd := fun_of (c.at_ 2 rfl) rfl (c.ck 28 rfl)
  have b3 := F3.binds (ps := ["value"]) fun _ _ _ _ _ _ us hl => match us, hl with | [_], _ => rfl
  have g3 : mg "is_value" = some (.ref (He.ga K "is_value")) := He.glo_ok X G (c.ck 29 rfl)
  have k3 := F3.kp
  obtain ⟨fd4, F4⟩ : ∃ fd, Fun K "is_list" "is_list" sIsList (He.ga K "is_list") fd := fun_of (c.at_ 3 rfl) rfl (c.ck 30 rfl)
  have b4 := F4.binds (ps := ["value", "most"]) fun _ _ _ _ _ _ us hl => match us, hl with | [_, _], _ => rfl
  have g4 : mg "is_list" = some (.ref (He.ga K "is_list")) := He.glo_ok X G (c.ck 31 rfl)
  have k4 := F4.kp
  obtain ⟨fd5, F5⟩ : ∃ fd, Fun K "need_name" "need_name" sNeedName (He.ga K "need_name") fd := fun_of (c.at_ 4 rfl) rfl (c.ck 32 rfl)
  have b5 := F5.binds (ps := ["value"]) fun _ _ _ _ _ _ us hl => match us, hl with | [_], _ => rfl
  have g5 : mg "need_name" = some (.ref (He.ga K "need_name")) := He.glo_ok X G (c.ck 33 rfl)
  have k5 := F5.kp
  obtain ⟨fd6, F6⟩ : ∃ fd, Fun K "need_value" "need_value" sNeedValue (He.ga K "need_value") fd := fun_of (c.at_ 5 rfl) rfl (c.ck 34 rfl)
  have b6 := F6.binds (ps := ["value"]) fun _ _ _ _ _ _ us hl => match us, hl with | [_], _ => rfl
  have g6 : mg "need_value" = some (.ref (He.ga K "need_value")) := He.glo_ok X G (c.ck 35 rfl)
  have k6 := F6.kp
  obtain ⟨fd7, F7⟩ : ∃ fd, Fun K "need_record" "need_record" sNeedRecord (He.ga K "need_record") fd := fun_of (c.at_ 6 rfl) rfl (c.ck 36 rfl)
  have b7 := F7.binds (ps := ["key", "value"]) fun _ _ _ _ _ _ us hl => match us, hl with | [_, _], _ => rfl
  have g7 : mg "need_record" = some (.ref (He.ga K "need_record")) := He.glo_ok X G (c.ck 37 rfl)
  have k7 := F7.kp
  obtain ⟨fdck, Fck⟩ : ∃ fd, Fun K "checked_pairs" "checked_pairs" sChk (He.ga K "checked_pairs") fd := fun_of (c.at_ 7 rfl) rfl (c.ck 38 rfl)
  have bck := Fck.binds (ps := ["pairs", "taken"]) fun _ _ _ _ _ _ us hl => match us, hl with | [_, _], _ => rfl
  have gck : mg "checked_pairs" = some (.ref (He.ga K "checked_pairs")) := He.glo_ok X G (c.ck 39 rfl)
  have kck := Fck.kp
  obtain ⟨fdni, Fni⟩ : ∃ fd, Fun K "need_integer" "need_integer" sNeedInt (He.ga K "need_integer") fd := fun_of (c.at_ 8 rfl) rfl (c.ck 40 rfl)
  have bni := Fni.binds (ps := ["value", "low", "high"]) fun _ _ _ _ _ _ us hl => match us, hl with | [_, _, _], _ => rfl
  have gni : mg "need_integer" = some (.ref (He.ga K "need_integer")) := He.glo_ok X G (c.ck 41 rfl)
  have kni := Fni.kp
  obtain ⟨fdwi, Fwi⟩ : ∃ fd, Fun K "with_item" "with_item" sWith (He.ga K "with_item") fd := fun_of (c.at_ 9 rfl) rfl (c.ck 42 rfl)
  have bwi := Fwi.binds (ps := ["items", "index", "item"]) fun _ _ _ _ _ _ us hl => match us, hl with | [_, _, _], _ => rfl
  have gwi : mg "with_item" = some (.ref (He.ga K "with_item")) := He.glo_ok X G (c.ck 43 rfl)
  have kwi := Fwi.kp
  obtain ⟨fdwo, Fwo⟩ : ∃ fd, Fun K "without_index" "without_index" sWout (He.ga K "without_index") fd := fun_of (c.at_ 10 rfl) rfl (c.ck 44 rfl)
  have bwo := Fwo.binds (ps := ["items", "index"]) fun _ _ _ _ _ _ us hl => match us, hl with | [_, _], _ => rfl
  have gwo : mg "without_index" = some (.ref (He.ga K "without_index")) := He.glo_ok X G (c.ck 45 rfl)
  have kwo := Fwo.kp
  obtain ⟨fdrm, Frm⟩ : ∃ fd, Fun K "need_room" "need_room" sRoom (He.ga K "need_room") fd := fun_of (c.at_ 11 rfl) rfl (c.ck 46 rfl)
  have brm := Frm.binds (ps := ["count"]) fun _ _ _ _ _ _ us hl => match us, hl with | [_], _ => rfl
  have grm : mg "need_room" = some (.ref (He.ga K "need_room")) := He.glo_ok X G (c.ck 47 rfl)
  have krm := Frm.kp
  obtain ⟨fdir, Fir⟩ : ∃ fd, Fun K "is_row" "is_row" sIsRow (He.ga K "is_row") fd := fun_of (c.at_ 12 rfl) rfl (c.ck 48 rfl)
  have bir := Fir.binds (ps := ["value"]) fun _ _ _ _ _ _ us hl => match us, hl with | [_], _ => rfl
  have gir : mg "is_row" = some (.ref (He.ga K "is_row")) := He.glo_ok X G (c.ck 49 rfl)
  have kir := Fir.kp
  obtain ⟨fdis, Fis⟩ : ∃ fd, Fun K "is_rows" "is_rows" sIsRows (He.ga K "is_rows") fd := fun_of (c.at_ 13 rfl) rfl (c.ck 50 rfl)
  have bis := Fis.binds (ps := ["value"]) fun _ _ _ _ _ _ us hl => match us, hl with | [_], _ => rfl
  have gis : mg "is_rows" = some (.ref (He.ga K "is_rows")) := He.glo_ok X G (c.ck 51 rfl)
  have kis := Fis.kp
  obtain ⟨fdnr, Fnr⟩ : ∃ fd, Fun K "need_rows" "need_rows" sNeedRows (He.ga K "need_rows") fd := fun_of (c.at_ 14 rfl) rfl (c.ck 52 rfl)
  have bnr := Fnr.binds (ps := ["value"]) fun _ _ _ _ _ _ us hl => match us, hl with | [_], _ => rfl
  have gnr : mg "need_rows" = some (.ref (He.ga K "need_rows")) := He.glo_ok X G (c.ck 53 rfl)
  have knr := Fnr.kp
  obtain ⟨fdnc, Fnc⟩ : ∃ fd, Fun K "need_records" "need_records" sNeedRecs (He.ga K "need_records") fd := fun_of (c.at_ 15 rfl) rfl (c.ck 54 rfl)
  have bnc := Fnc.binds (ps := ["value"]) fun _ _ _ _ _ _ us hl => match us, hl with | [_], _ => rfl
  have gnc : mg "need_records" = some (.ref (He.ga K "need_records")) := He.glo_ok X G (c.ck 55 rfl)
  have knc := Fnc.kp
  obtain ⟨fddf, Fdf⟩ : ∃ fd, Fun K "differing" "differing" sDiffer (He.ga K "differing") fd := fun_of (c.at_ 16 rfl) rfl (c.ck 56 rfl)
  have bdf := Fdf.binds (ps := ["one", "other"]) fun _ _ _ _ _ _ us hl => match us, hl with | [_, _], _ => rfl
  have gdf : mg "differing" = some (.ref (He.ga K "differing")) := He.glo_ok X G (c.ck 57 rfl)
  have kdf := Fdf.kp
  obtain ⟨fdrk, Frk⟩ : ∃ fd, Fun K "ranks_of" "ranks_of" sRanks (He.ga K "ranks_of") fd := fun_of (c.at_ 17 rfl) rfl (c.ck 58 rfl)
  have brk := Frk.binds (ps := ["numbers"]) fun _ _ _ _ _ _ us hl => match us, hl with | [_], _ => rfl
  have grk : mg "ranks_of" = some (.ref (He.ga K "ranks_of")) := He.glo_ok X G (c.ck 59 rfl)
  have krk := Frk.kp
  obtain ⟨fdla, Fla⟩ : ∃ fd, Fun K "longest_ascent" "longest_ascent" sAscent (He.ga K "longest_ascent") fd := fun_of (c.at_ 18 rfl) rfl (c.ck 60 rfl)
  have bla := Fla.binds (ps := ["numbers"]) fun _ _ _ _ _ _ us hl => match us, hl with | [_], _ => rfl
  have gla : mg "longest_ascent" = some (.ref (He.ga K "longest_ascent")) := He.glo_ok X G (c.ck 61 rfl)
  have kla := Fla.kp
  obtain ⟨fdmv, Fmv⟩ : ∃ fd, Fun K "moves_to" "moves_to" sMoves (He.ga K "moves_to") fd := fun_of (c.at_ 19 rfl) rfl (c.ck 62 rfl)
  have bmv := Fmv.binds (ps := ["numbers"]) fun _ _ _ _ _ _ us hl => match us, hl with | [_], _ => rfl
  have gmv : mg "moves_to" = some (.ref (He.ga K "moves_to")) := He.glo_ok X G (c.ck 63 rfl)
  have kmv := Fmv.kp
  obtain ⟨fdsp, Fsp⟩ : ∃ fd, Fun K "steps_to" "steps_to" sSteps (He.ga K "steps_to") fd := fun_of (c.at_ 20 rfl) rfl (c.ck 64 rfl)
  have bsp := Fsp.binds (ps := ["before", "after"]) fun _ _ _ _ _ _ us hl => match us, hl with | [_, _], _ => rfl
  have gsp : mg "steps_to" = some (.ref (He.ga K "steps_to")) := He.glo_ok X G (c.ck 65 rfl)
  have ksp := Fsp.kp
  obtain ⟨fdnh, Fnh⟩ : ∃ fd, Fun K "need_change" "need_change" sNeedCh (He.ga K "need_change") fd := fun_of (c.at_ 21 rfl) rfl (c.ck 66 rfl)
  have bnh := Fnh.binds (ps := ["value"]) fun _ _ _ _ _ _ us hl => match us, hl with | [_], _ => rfl
  have gnh : mg "need_change" = some (.ref (He.ga K "need_change")) := He.glo_ok X G (c.ck 67 rfl)
  have knh := Fnh.kp
  obtain ⟨fdna, Fna⟩ : ∃ fd, Fun K "need_after" "need_after" sNeedAft (He.ga K "need_after") fd := fun_of (c.at_ 22 rfl) rfl (c.ck 68 rfl)
  have bna := Fna.binds (ps := ["before", "after"]) fun _ _ _ _ _ _ us hl => match us, hl with | [_, _], _ => rfl
  have gna : mg "need_after" = some (.ref (He.ga K "need_after")) := He.glo_ok X G (c.ck 69 rfl)
  have kna := Fna.kp
  obtain ⟨fdtk, Ftk⟩ : ∃ fd, Fun K "taken_over" "taken_over" sTaken (He.ga K "taken_over") fd := fun_of (c.at_ 23 rfl) rfl (c.ck 70 rfl)
  have btk := Ftk.binds (ps := ["items", "change"]) fun _ _ _ _ _ _ us hl => match us, hl with | [_, _], _ => rfl
  have gtk : mg "taken_over" = some (.ref (He.ga K "taken_over")) := He.glo_ok X G (c.ck 71 rfl)
  have ktk := Ftk.kp
  obtain ⟨fd8, F8⟩ : ∃ fd, Fun K "_law_cell" "_law_cell" sCell (He.ga K "_law_cell") fd := fun_of (c.at_ 24 rfl) rfl (c.ck 72 rfl)
  have b8 := F8.binds (ps := ["_law_script", "_law_k"]) fun _ _ _ _ _ _ us hl => match us, hl with | [_, _], _ => rfl
  have g8 : mg "_law_cell" = some (.ref (He.ga K "_law_cell")) := He.glo_ok X G (c.ck 73 rfl)
  have k8 := F8.kp
  obtain ⟨fd9, F9⟩ : ∃ fd, Fun K "_law_box" "_law_box" sBox (He.ga K "_law_box") fd := fun_of (c.at_ 25 rfl) rfl (c.ck 74 rfl)
  have b9 := F9.binds (ps := ["_law_cell_here"]) fun _ _ _ _ _ _ us hl => match us, hl with | [_], _ => rfl
  have g9 : mg "_law_box" = some (.ref (He.ga K "_law_box")) := He.glo_ok X G (c.ck 75 rfl)
  have k9 := F9.kp
  obtain ⟨fdA, FA⟩ : ∃ fd, Fun K "_law_take" "_law_take" sTake (He.ga K "_law_take") fd := fun_of (c.at_ 26 rfl) rfl (c.ck 76 rfl)
  have bA := FA.binds (ps := ["_law_box_here", "_law_many"]) fun _ _ _ _ _ _ us hl => match us, hl with | [_, _], _ => rfl
  have gA : mg "_law_take" = some (.ref (He.ga K "_law_take")) := He.glo_ok X G (c.ck 77 rfl)
  have kA := FA.kp
  obtain ⟨fdB, FB⟩ : ∃ fd, Fun K "_law_mixed" "_law_mixed" sMixed (He.ga K "_law_mixed") fd := fun_of (c.at_ 27 rfl) rfl (c.ck 78 rfl)
  have bB := FB.binds (ps := ["_law_box_here", "_law_some"]) fun _ _ _ _ _ _ us hl => match us, hl with | [_, _], _ => rfl
  have gB : mg "_law_mixed" = some (.ref (He.ga K "_law_mixed")) := He.glo_ok X G (c.ck 79 rfl)
  have kB := FB.kp
  obtain ⟨fdC, FC⟩ : ∃ fd, Fun K "_law_names" "_law_names" sNames (He.ga K "_law_names") fd := fun_of (c.at_ 28 rfl) rfl (c.ck 80 rfl)
  have bC := FC.binds (ps := ["_law_box_here", "_law_many"]) fun _ _ _ _ _ _ us hl => match us, hl with | [_, _], _ => rfl
  have gC : mg "_law_names" = some (.ref (He.ga K "_law_names")) := He.glo_ok X G (c.ck 81 rfl)
  have kC := FC.kp
  obtain ⟨fdD, FD⟩ : ∃ fd, Fun K "_law_number" "_law_number" sNumber (He.ga K "_law_number") fd := fun_of (c.at_ 29 rfl) rfl (c.ck 82 rfl)
  have bD := FD.binds (ps := ["_law_box_here"]) fun _ _ _ _ _ _ us hl => match us, hl with | [_], _ => rfl
  have gD : mg "_law_number" = some (.ref (He.ga K "_law_number")) := He.glo_ok X G (c.ck 83 rfl)
  have kD := FD.kp
  obtain ⟨fdE, FE⟩ : ∃ fd, Fun K "_law_value" "_law_value" sValue (He.ga K "_law_value") fd := fun_of (c.at_ 30 rfl) rfl (c.ck 84 rfl)
  have bE := FE.binds (ps := ["_law_box_here", "_law_fields"]) fun _ _ _ _ _ _ us hl => match us, hl with | [_, _], _ => rfl
  have gE : mg "_law_value" = some (.ref (He.ga K "_law_value")) := He.glo_ok X G (c.ck 85 rfl)
  have kE := FE.kp
  obtain ⟨fdps, Fps⟩ : ∃ fd, Fun K "_law_pairs" "_law_pairs" sPairs (He.ga K "_law_pairs") fd := fun_of (c.at_ 31 rfl) rfl (c.ck 86 rfl)
  have bps := Fps.binds (ps := ["_law_box_here", "_law_names_here", "_law_fields"]) fun _ _ _ _ _ _ us hl => match us, hl with | [_, _, _], _ => rfl
  have gps : mg "_law_pairs" = some (.ref (He.ga K "_law_pairs")) := He.glo_ok X G (c.ck 87 rfl)
  have kps := Fps.kp
  obtain ⟨fdst, Fst⟩ : ∃ fd, Fun K "_law_step" "_law_step" sStep (He.ga K "_law_step") fd := fun_of (c.at_ 32 rfl) rfl (c.ck 88 rfl)
  have bst := Fst.binds (ps := ["_law_box_here", "_law_records", "_law_names_here", "_law_fields"]) fun _ _ _ _ _ _ us hl => match us, hl with | [_, _, _, _], _ => rfl
  have gst : mg "_law_step" = some (.ref (He.ga K "_law_step")) := He.glo_ok X G (c.ck 89 rfl)
  have kst := Fst.kp
  obtain ⟨fdL, FL⟩ : ∃ fd, Fun K "law" "law" sLaw (He.ga K "law") fd := fun_of (c.at_ 33 rfl) rfl (c.ck 90 rfl)
  have bL := FL.binds (ps := ["_law_script"]) fun _ _ _ _ _ _ us hl => match us, hl with | [_], _ => rfl
  have gL : mg "law" = some (.ref (He.ga K "law")) := He.glo_ok X G (c.ck 91 rfl)
  have kL := FL.kp
  have gRc : mg "Records" = some (.ref (He.ga K "Records")) := He.glo_ok X G (c.ck 92 rfl)
  have cRc : Cls K (He.ga K "Records") := He.cls_ok (c.ck 93 rfl)
  have nRc_own_pairs : NoAttr K (He.ga K "Records") "own_pairs" := He.noat_ok (c.ck 94 rfl)
  have nRc_own_names : NoAttr K (He.ga K "Records") "own_names" := He.noat_ok (c.ck 95 rfl)
  have MRc : Mk K (He.ga K "Records") (He.ma K (He.ga K "Records") "__init__") := He.mkr_ok (c.ck 96 rfl)
  obtain ⟨Ein, fdin, Fin⟩ : ∃ E fd, FunD K "__init__" "Records.__init__" (defArgs (sRc 0)) (defBody (sRc 0)) (defScope (sRc 0)) [.ref E] [] (He.ma K (He.ga K "Records") "__init__") fd := fund_of (c.at_ 34 rfl) rfl (c.ck 97 rfl)
  have bin := rcinit_binds Fin
  obtain ⟨fdnm, Fnm⟩ : ∃ fd, Fun K "names" "Records.names" (sRc 1) (He.ma K (He.ga K "Records") "names") fd := fun_of (c.at_ 35 rfl) rfl (c.ck 98 rfl)
  have bnm := Fnm.binds (ps := ["self"]) fun _ _ _ _ _ _ us hl => match us, hl with | [_], _ => rfl
  have Mnm : Meth K (He.ga K "Records") "names" (He.ma K (He.ga K "Records") "names") := He.meth_ok (c.ck 99 rfl)
  obtain ⟨fdpl, Fpl⟩ : ∃ fd, Fun K "place" "Records.place" (sRc 3) (He.ma K (He.ga K "Records") "place") fd := fun_of (c.at_ 36 rfl) rfl (c.ck 100 rfl)
  have bpl := Fpl.binds (ps := ["self", "key"]) fun _ _ _ _ _ _ us hl => match us, hl with | [_, _], _ => rfl
  have Mpl : Meth K (He.ga K "Records") "place" (He.ma K (He.ga K "Records") "place") := He.meth_ok (c.ck 101 rfl)
  obtain ⟨fdre, Fre⟩ : ∃ fd, Fun K "removed" "Records.removed" (sRc 10) (He.ma K (He.ga K "Records") "removed") fd := fun_of (c.at_ 37 rfl) rfl (c.ck 102 rfl)
  have bre := Fre.binds (ps := ["self", "key"]) fun _ _ _ _ _ _ us hl => match us, hl with | [_, _], _ => rfl
  have Mre : Meth K (He.ga K "Records") "removed" (He.ma K (He.ga K "Records") "removed") := He.meth_ok (c.ck 103 rfl)
  obtain ⟨fdmo, Fmo⟩ : ∃ fd, Fun K "moved" "Records.moved" (sRc 11) (He.ma K (He.ga K "Records") "moved") fd := fun_of (c.at_ 38 rfl) rfl (c.ck 104 rfl)
  have bmo := Fmo.binds (ps := ["self", "key", "index"]) fun _ _ _ _ _ _ us hl => match us, hl with | [_, _, _], _ => rfl
  have Mmo : Meth K (He.ga K "Records") "moved" (He.ma K (He.ga K "Records") "moved") := He.meth_ok (c.ck 105 rfl)
  obtain ⟨fdrp, Frp⟩ : ∃ fd, Fun K "replaced" "Records.replaced" (sRc 12) (He.ma K (He.ga K "Records") "replaced") fd := fun_of (c.at_ 39 rfl) rfl (c.ck 106 rfl)
  have brp := Frp.binds (ps := ["self", "key", "value"]) fun _ _ _ _ _ _ us hl => match us, hl with | [_, _, _], _ => rfl
  have Mrp : Meth K (He.ga K "Records") "replaced" (He.ma K (He.ga K "Records") "replaced") := He.meth_ok (c.ck 107 rfl)
  obtain ⟨fdex, Fex⟩ : ∃ fd, Fun K "extended" "Records.extended" (sRc 13) (He.ma K (He.ga K "Records") "extended") fd := fun_of (c.at_ 40 rfl) rfl (c.ck 108 rfl)
  have bex := Fex.binds (ps := ["self", "pairs"]) fun _ _ _ _ _ _ us hl => match us, hl with | [_, _], _ => rfl
  have Mex : Meth K (He.ga K "Records") "extended" (He.ma K (He.ga K "Records") "extended") := He.meth_ok (c.ck 109 rfl)
  obtain ⟨fdge, Fge⟩ : ∃ fd, Fun K "__getitem__" "Records.__getitem__" (sRc 4) (He.ma K (He.ga K "Records") "__getitem__") fd := fun_of (c.at_ 41 rfl) rfl (c.ck 110 rfl)
  have bge := Fge.binds (ps := ["self", "key"]) fun _ _ _ _ _ _ us hl => match us, hl with | [_, _], _ => rfl
  obtain ⟨OOge, ige⟩ := own_ok (c.ck 111 rfl : ownB K (He.ga K "Records") "__getitem__" (He.ma K (He.ga K "Records") "__getitem__") = true)
  obtain ⟨fdco, Fco⟩ : ∃ fd, Fun K "__contains__" "Records.__contains__" (sRc 6) (He.ma K (He.ga K "Records") "__contains__") fd := fun_of (c.at_ 42 rfl) rfl (c.ck 112 rfl)
  have bco := Fco.binds (ps := ["self", "item"]) fun _ _ _ _ _ _ us hl => match us, hl with | [_, _], _ => rfl
  obtain ⟨OOco, ico⟩ := own_ok (c.ck 113 rfl : ownB K (He.ga K "Records") "__contains__" (He.ma K (He.ga K "Records") "__contains__") = true)
  obtain ⟨fdit, Fit⟩ : ∃ fd, Fun K "__iter__" "Records.__iter__" (sRc 7) (He.ma K (He.ga K "Records") "__iter__") fd := fun_of (c.at_ 43 rfl) rfl (c.ck 114 rfl)
  have bit := Fit.binds (ps := ["self"]) fun _ _ _ _ _ _ us hl => match us, hl with | [_], _ => rfl
  obtain ⟨OOit, iit⟩ := own_ok (c.ck 115 rfl : ownB K (He.ga K "Records") "__iter__" (He.ma K (He.ga K "Records") "__iter__") = true)
  have kk : RcK K (He.ga K "Records") := rck_ok (c.ck 116 rfl)
  obtain ⟨fdia, Fia⟩ : ∃ fd, FunD K "inserted" "Records.inserted" (defArgs (sRc 9)) (defBody (sRc 9)) (defScope (sRc 9)) [] [("index", .non)] (He.ma K (He.ga K "Records") "inserted") fd := funk_of (c.at_ 44 rfl) rfl (c.ck 117 rfl)
  obtain ⟨dia, via, bia⟩ := ins_binds Fia
  have kia := ins_kbinds Fia
  have Mia : Meth K (He.ga K "Records") "inserted" (He.ma K (He.ga K "Records") "inserted") := He.meth_ok (c.ck 118 rfl)
  have gCh : mg "Change" = some (.ref (He.ga K "Change")) := He.glo_ok X G (c.ck 119 rfl)
  have cCh : Cls K (He.ga K "Change") := He.cls_ok (c.ck 120 rfl)
  have nCh_old_count : NoAttr K (He.ga K "Change") "old_count" := He.noat_ok (c.ck 121 rfl)
  have nCh_new_items : NoAttr K (He.ga K "Change") "new_items" := He.noat_ok (c.ck 122 rfl)
  have nCh_kept_indices : NoAttr K (He.ga K "Change") "kept_indices" := He.noat_ok (c.ck 123 rfl)
  have nCh_new_rows : NoAttr K (He.ga K "Change") "new_rows" := He.noat_ok (c.ck 124 rfl)
  have nCh_fewest_steps : NoAttr K (He.ga K "Change") "fewest_steps" := He.noat_ok (c.ck 125 rfl)
  have MCh : Mk K (He.ga K "Change") (He.ma K (He.ga K "Change") "__init__") := He.mkr_ok (c.ck 126 rfl)
  obtain ⟨fdhi, Fhi⟩ : ∃ fd, Fun K "__init__" "Change.__init__" (sCh 0) (He.ma K (He.ga K "Change") "__init__") fd := fun_of (c.at_ 45 rfl) rfl (c.ck 127 rfl)
  have bhi := Fhi.binds (ps := ["self", "before", "after"]) fun _ _ _ _ _ _ us hl => match us, hl with | [_, _, _], _ => rfl
  obtain ⟨fdhb, Fhb⟩ : ∃ fd, Fun K "before" "Change.before" (sCh 1) (getr K (He.ma K (He.ga K "Change") "before")) fd := fun_of (c.at_ 46 rfl) rfl (c.ck 128 rfl)
  have bhb := Fhb.binds (ps := ["self"]) fun _ _ _ _ _ _ us hl => match us, hl with | [_], _ => rfl
  have Phb : PropOf K (He.ga K "Change") "before" (He.ma K (He.ga K "Change") "before") (getr K (He.ma K (He.ga K "Change") "before")) := pro_ok (c.ck 129 rfl)
  obtain ⟨fdhc, Fhc⟩ : ∃ fd, Fun K "__call__" "Change.__call__" (sCh 8) (He.ma K (He.ga K "Change") "__call__") fd := fun_of (c.at_ 47 rfl) rfl (c.ck 130 rfl)
  have bhc := Fhc.binds (ps := ["self", "rows"]) fun _ _ _ _ _ _ us hl => match us, hl with | [_, _], _ => rfl
  have Mhc : CallO K (He.ga K "Change") (He.ma K (He.ga K "Change") "__call__") := cal_ok (c.ck 131 rfl)
  obtain ⟨fdhr, Fhr⟩ : ∃ fd, Fun K "rows_after" "Change.rows_after" (sCh 9) (He.ma K (He.ga K "Change") "rows_after") fd := fun_of (c.at_ 48 rfl) rfl (c.ck 132 rfl)
  have bhr := Fhr.binds (ps := ["self", "rows"]) fun _ _ _ _ _ _ us hl => match us, hl with | [_, _], _ => rfl
  have Mhr : Meth K (He.ga K "Change") "rows_after" (He.ma K (He.ga K "Change") "rows_after") := He.meth_ok (c.ck 133 rfl)
  obtain ⟨fdha, Fha⟩ : ∃ fd, Fun K "__add__" "Change.__add__" (sCh 10) (He.ma K (He.ga K "Change") "__add__") fd := fun_of (c.at_ 49 rfl) rfl (c.ck 134 rfl)
  have bha := Fha.binds (ps := ["self", "other"]) fun _ _ _ _ _ _ us hl => match us, hl with | [_, _], _ => rfl
  have OA : OpO K (He.ga K "Change") .Add (He.ma K (He.ga K "Change") "__add__") := op_ok (c.ck 135 rfl)
  obtain ⟨fdho, Fho⟩ : ∃ fd, Fun K "__bool__" "Change.__bool__" (sCh 12) (He.ma K (He.ga K "Change") "__bool__") fd := fun_of (c.at_ 50 rfl) rfl (c.ck 136 rfl)
  have bho := Fho.binds (ps := ["self"]) fun _ _ _ _ _ _ us hl => match us, hl with | [_], _ => rfl
  obtain ⟨OOho, iho⟩ := own_ok (c.ck 137 rfl : ownB K (He.ga K "Change") "__bool__" (He.ma K (He.ga K "Change") "__bool__") = true)
  obtain ⟨fdhn, Fhn⟩ : ∃ fd, Fun K "__len__" "Change.__len__" (sCh 13) (He.ma K (He.ga K "Change") "__len__") fd := fun_of (c.at_ 51 rfl) rfl (c.ck 138 rfl)
  have bhn := Fhn.binds (ps := ["self"]) fun _ _ _ _ _ _ us hl => match us, hl with | [_], _ => rfl
  obtain ⟨OOhn, ihn⟩ := own_ok (c.ck 139 rfl : ownB K (He.ga K "Change") "__len__" (He.ma K (He.ga K "Change") "__len__") = true)
  obtain ⟨fdhs, Fhs⟩ : ∃ fd, Fun K "same" "Change.same" (sCh 16) (stf K (He.ma K (He.ga K "Change") "same")) fd := fun_of (c.at_ 52 rfl) rfl (c.ck 140 rfl)
  have bhs := Fhs.binds (ps := ["count"]) fun _ _ _ _ _ _ us hl => match us, hl with | [_], _ => rfl
  have smhs : SMet K (He.ga K "Change") "same" (He.ma K (He.ga K "Change") "same") (stf K (He.ma K (He.ga K "Change") "same")) := sm_ok (c.ck 141 rfl)
  obtain ⟨fdhw, Fhw⟩ : ∃ fd, Fun K "between" "Change.between" (sCh 17) (stf K (He.ma K (He.ga K "Change") "between")) fd := fun_of (c.at_ 53 rfl) rfl (c.ck 142 rfl)
  have bhw := Fhw.binds (ps := ["old", "new"]) fun _ _ _ _ _ _ us hl => match us, hl with | [_, _], _ => rfl
  have smhw : SMet K (He.ga K "Change") "between" (He.ma K (He.ga K "Change") "between") (stf K (He.ma K (He.ga K "Change") "between")) := sm_ok (c.ck 143 rfl)
  have kh : RcK K (He.ga K "Change") := rck_ok (c.ck 144 rfl)
  have e := hfa.symm.trans gL
  cases e
  obtain ⟨_, _, _, _, _, _, _, _, _, hfd, _, _⟩ := FL.ex
  refine ⟨fdL, fun s u => by rw [hfd]; exact .of_eq rfl, fun base _ _ => ?_⟩
  have O1 : FnOk PX w K mg base CX0 1 _ _ ["value", "low", "high"] spIsInt := ok_isint F1 m_isinstance m_int m_bool
  have O2 : FnOk PX w K mg base CX0 1 _ _ ["value"] spIsName := ok_isname F2 gcML gcLet m_isinstance m_str m_len m_all
  have O5 : FnOk PX w K mg base CX0 2 _ _ ["value"] spNeedName := ok_needname F5 F2 b2 g2 O2
  have O3 : FnOk PX w K mg base CX0 2 _ _ ["value"] spIsValue := ok_isvalue F3 F2 b2 g2 O2 F1 b1 g1 O1 gcMF gcG m_isinstance m_dict m_len m_all
  have O6 : FnOk PX w K mg base CX0 3 _ _ ["value"] spNeedValue := ok_needvalue F6 F3 b3 g3 O3
  have O7 : FnOk PX w K mg base CX0 4 _ _ ["key", "value"] spNeedRecord := ok_needrecord F7 k5 b5 g5 O5 k6 b6 g6 O6
  have O4 : FnOk PX w K mg base CX0 1 _ _ ["value", "most"] (spIsList K) := ok_islist F4 m_isinstance m_len m_list m_tuple
  have Ock : FnOk PX w K mg base CX0 5 _ _ ["pairs", "taken"] (spChk K) := ok_chk Fck O4 g4 k4 b4 O7 g7 k7 b7 gcMR m_isinstance m_len m_list m_tuple m_dict
  have cc : RcC K (He.ga K "Records") := ⟨cRc, nRc_own_pairs, nRc_own_names⟩
  have Oin : FnOk PX w K mg base CX0 6 _ _ ["self", "pairs"] (spRcI K (He.ga K "Records")) := ok_rcinit Fin cc Ock gck kck bck
  have Ri : MkR PX w K mg base (He.ga K "Records") _ _ := ⟨MRc, bin, Oin, gRc⟩
  have O1S : FnOk PX w K mg base CX0 1 _ _ ["value", "low", "high"] spIsIntS := ok_isintS F1 m_isinstance m_int m_bool
  have Onm : FnOk PX w K mg base CX0 1 _ _ ["self"] (spRcNm (He.ga K "Records")) := ok_rcnames Fnm cc m_list
  have Opl : FnOk PX w K mg base CX0 1 _ _ ["self", "key"] (spRcL (He.ga K "Records")) := ok_rcplace Fpl cc
  have Oge : FnOk PX w K mg base CX0 2 _ _ ["self", "key"] (spRcG (He.ga K "Records")) := ok_rcget Fge cc Mpl bpl Opl m_dict
  have Oco : FnOk PX w K mg base CX0 1 _ _ ["self", "item"] (spRcC (He.ga K "Records")) := ok_rchas Fco cc
  have Oit : FnS PX w K mg base 1 _ _ ["self"] (spIter K (He.ga K "Records") "own_names") := ok_rciter Fit cc m_iter
  have Oni : FnOk PX w K mg base CX0 2 _ _ ["value", "low", "high"] spNeedInt := ok_needint Fni g1 k1 b1 O1
  have Orm : FnOk PX w K mg base CX0 1 _ _ ["count"] spRoom := ok_room Frm gcMR
  have Owi : FnOk PX w K mg base CX0 1 _ _ ["items", "index", "item"] spWith := ok_with Fwi
  have Owo : FnOk PX w K mg base CX0 1 _ _ ["items", "index"] spWout := ok_wout Fwo
  have Wi : WiWo PX w K mg base _ _ _ _ := ⟨gwi, kwi, bwi, Owi, gwo, kwo, bwo, Owo⟩
  have Oia : FnOk PX w K mg base CX0 8 _ _ ["self", "key", "value", "index"] (spRcA (He.ga K "Records")) := ok_rcins Fia cc Ri Wi g7 k7 b7 O7 gni kni bni Oni grm krm brm Orm m_len
  have Ore : FnOk PX w K mg base CX0 8 _ _ ["self", "key"] (spRcR (He.ga K "Records")) := ok_rcrem Fre cc Ri Wi Mpl bpl Opl
  have Omo : FnOk PX w K mg base CX0 8 _ _ ["self", "key", "index"] (spRcM (He.ga K "Records")) := ok_rcmov Fmo cc Ri Wi Mpl bpl Opl gni kni bni Oni m_len
  have Orp : FnOk PX w K mg base CX0 8 _ _ ["self", "key", "value"] (spRcV (He.ga K "Records")) := ok_rcrep Frp cc Ri Wi Mpl bpl Opl g6 k6 b6 O6
  have Oex : FnOk PX w K mg base CX0 8 _ _ ["self", "pairs"] (spRcX K (He.ga K "Records")) := ok_rcext Fex cc Ri Ock gck kck bck grm krm brm Orm m_len
  have RM : RcM PX w K mg base (He.ga K "Records") := { c := cc, fA := _, fdA := _, mA := Mia, dA := _, vA := via, bA := bia, kA := kia, GA := Oia, fR := _, fdR := _, mR := Mre, bR := bre, GR := Ore, fM := _, fdM := _, mM := Mmo, bM := bmo, GM := Omo, fV := _, fdV := _, mV := Mrp, bV := brp, GV := Orp, fX := _, fdX := _, mX := Mex, bX := bex, GX := Oex }
  have Onc : FnOk PX w K mg base CX0 1 _ _ ["value"] (spNeedRecs (He.ga K "Records")) := ok_needrecs Fnc cc kk gRc m_isinstance
  have Odf : FnOk PX w K mg base CX0 4 _ _ ["one", "other"] (spDiffer (He.ga K "Records")) := ok_differ Fdf gnc knc bnc Onc OOge ige bge Oge OOco bco Oco OOit bit Oit
  have Oir : FnOk PX w K mg base CX0 2 _ _ ["value"] spIsName := ok_isrow Fir O2 g2 k2 b2 m_isinstance m_tuple
  have Ois : FnOk PX w K mg base CX0 3 _ _ ["value"] (spIsRows K) := ok_isrows Fis O4 g4 k4 b4 Oir gir kir bir gcM8 m_len m_all m_set
  have Onr : FnOk PX w K mg base CX0 4 _ _ ["value"] (spNeedRows K) := ok_needrows Fnr Ois gis kis bis
  have Ork : FnOk PX w K mg base CX0 1 _ _ ["numbers"] (spRanks K) := ok_ranks Frk m_len
  have Ola : FnOk PX w K mg base CX0 2 _ _ ["numbers"] (spAscent K) := ok_ascent Fla Ork grk krk brk m_max m_reversed m_list m_zip
  have Omv : FnOk PX w K mg base CX0 3 _ _ ["numbers"] (spMoves K) := ok_moves Fmv Ola gla kla bla Wi m_sorted m_enumerate
  have Osp : FnOk PX w K mg base CX0 4 _ _ ["before", "after"] (spSteps K) := ok_steps Fsp Omv gmv kmv bmv m_isinstance m_int m_reversed m_range m_enumerate
  have Ona : FnOk PX w K mg base CX0 3 _ _ ["before", "after"] (spNeedAft K) := ok_needaft Fna O4 g4 k4 b4 (fnok_or O1 O1S) g1 k1 b1 Oir gir kir bir gcM8 m_enumerate
  have hh : ChC K (He.ga K "Change") := ⟨cCh, nCh_old_count, nCh_new_items, nCh_kept_indices, nCh_new_rows, nCh_fewest_steps⟩
  have Ohi : FnOk PX w K mg base CX0 5 _ _ ["self", "before", "after"] (spChI K (He.ga K "Change")) := ok_chinit Fhi hh Oni gni kni bni Ona gna kna bna Osp gsp ksp bsp gcM8 m_tuple m_isinstance m_int
  have Rh : MkC PX w K mg base (He.ga K "Change") _ _ := ⟨MCh, bhi, Ohi, gCh⟩
  have Otk : FnOk PX w K mg base CX0 1 _ _ ["items", "change"] (spTaken K (He.ga K "Change")) := ok_taken Ftk hh m_isinstance m_int
  have Onh : FnOk PX w K mg base CX0 1 _ _ ["value"] (spNeedRecs (He.ga K "Change")) := ok_needch Fnh cCh kh gCh m_isinstance
  have Ohb : FnOk PX w K mg base CX0 1 _ _ ["self"] (spChB K (He.ga K "Change")) := ok_chb Fhb hh
  have Ohn : FnOk PX w K mg base CX0 1 _ _ ["self"] (spChN K (He.ga K "Change")) := ok_chn Fhn hh m_len
  have Oho : FnOk PX w K mg base CX0 1 _ _ ["self"] (spChO K (He.ga K "Change")) := ok_cho Fho hh m_bool
  have Ohr : FnOk PX w K mg base CX0 5 _ _ ["self", "rows"] (spChR K (He.ga K "Change")) := ok_chr Fhr hh Onr gnr knr bnr Otk gtk ktk btk m_len
  have Ohc : FnOk PX w K mg base CX0 6 _ _ ["self", "rows"] (spChR K (He.ga K "Change")) := ok_chc Fhc hh Mhr bhr Ohr
  have Oha : FnOk PX w K mg base CX0 7 _ _ ["self", "other"] (spChA K (He.ga K "Change")) := ok_cha Fha hh Rh Onh gnh knh bnh Otk gtk ktk btk m_len
  have Ohs : FnOk PX w K mg base CX0 7 _ _ ["count"] (spSame K (He.ga K "Change")) := ok_same Fhs Rh Oni gni kni bni gcM8 m_list m_range
  have Ohw : FnOk PX w K mg base CX0 7 _ _ ["old", "new"] (spBtw K (He.ga K "Change")) := ok_btw Fhw Rh Onr gnr knr bnr m_len m_enumerate
  have HM : ChM PX w K mg base (He.ga K "Change") := { c := hh, g := gCh, pW := _, fW := _, fdW := _, mW := smhw, bW := bhw, GW := Ohw, pS := _, fS := _, fdS := _, mS := smhs, bS := bhs, GS := Ohs, fN := _, fdN := _, mN := OOhn, bN := bhn, GN := Ohn, fO := _, fdO := _, mO := OOho, bO := bho, GO := Oho, fC := _, fdC := _, mC := Mhc, bC := bhc, GC := Ohc, pB := _, fB := _, fdB := _, mB := Phb, bB := bhb, GB := Ohb, A := ⟨⟨_, _, _, _, OA, OA, .inl rfl, bha, Oha⟩⟩ }
  have gg : GetM PX w K mg base (He.ga K "Records") _ _ := ⟨OOge, ige, bge, Oge⟩
  have nn : NmM PX w K mg base (He.ga K "Records") _ _ := ⟨Mnm, bnm, Onm⟩
  have Nn : FnOk PX w K mg base CX0 3 _ _ ["_law_box_here", "_law_many"] spNamesD := ok_namesD FC FA bA gA FB bB gB m_len m_list m_range
  have Nv : FnOk PX w K mg base CX0 3 _ _ ["_law_box_here", "_law_fields"] (spValue K) := ok_value FE FA bA gA FB bB gB FD bD gD m_len m_list m_min
  have Np : FnOk PX w K mg base CX0 4 _ _ ["_law_box_here", "_law_names_here", "_law_fields"] spPairs := ok_pairs Fps Nv gE kE bE
  have Nz : FnOk PX w K mg base CX0 9 _ _ ["_law_box_here", "_law_records", "_law_names_here", "_law_fields"] (spStep (He.ga K "Records")) := ok_step Fst RM gg nn m_int m_len m_min FA bA gA Nv gE kE bE
  exact ok_law FL Ri HM nn cc F8 b8 g8 F9 b9 g9 FA bA gA kC bC gC Nn Np gps kps bps Nz gst kst bst Odf gdf kdf bdf m_range m_max m_min m_len m_bool
end G
set_option Elab.async false
set_option linter.all false
set_option maxRecDepth 100000
set_option maxHeartbeats 8000000
/-! XB: the top's run. -/
namespace G
open PySem PySem.Spec PyProof.Rows L2 NdefX StX
abbrev hk : PySem.W.Hook := hookP 5 cks fns
def ob (s : PySem.W.SharedT) : AlP := obsPG 5 cks fns (HandSHeadRun.getT s)
theorem ob_eq (s : PySem.W.SharedT) : ob s = hk.obs s.abs := obsPG_eq (HandSHeadRun.getT_eq s)
def loose0 : List Str := ["_wall", "BoardError", "MissingError", "StateError", "InvalidInteger", "InvalidName", "InvalidValue", "InvalidChange", "InvalidRows", "InvalidRecords", "TooMany", "Mismatch", "UnknownKey", "KeyTaken", "LETTERS", "MOST_LETTERS", "MOST_FIELDS", "MOST_ROWS", "MOST_IN_ANSWER", "GREATEST", "GREATEST_IN_ANSWER", "is_integer", "is_name", "is_value", "is_row", "is_rows", "is_list", "is_full_answer", "is_answer_item", "need_integer"]
def loose1 : List Str := ["need_name", "need_value", "need_record", "need_rows", "with_item", "without_index", "MOST_RECORDS", "Records", "checked_pairs", "need_room", "need_records", "differing", "ranks_of", "longest_ascent", "moves_to", "steps_to", "Change", "need_change", "need_after", "taken_over", "_law_cell", "_law_box", "_law_take", "_law_mixed", "_law_names", "_law_number", "_law_value", "_law_pairs", "_law_step"]
abbrev looseX : List Str := loose0 ++ loose1
theorem run (w : World) : HandSHeadRun.RunEq (PySem.W.OpenLaw.row PySem.Challenge.rw_listviews_k42_whole_steps_of_operations) (PySem.W.view PX [67]) hk ob 20000 looseX w := by
  intro os
  kernel_rfl
end G
set_option Elab.async false
set_option linter.all false
set_option maxRecDepth 100000
set_option maxHeartbeats 8000000
/-! XC: the end. -/
open PySem PySem.W PySem.Calls PyProof.Rows
set_option maxRecDepth 100000 in
set_option maxHeartbeats 0 in
theorem PySem.Challenge.cw_listviews_k42_whole_steps_of_operations_holds : PySem.Challenge.rw_listviews_k42_whole_steps_of_operations.Holds := by
  w_on; o_law
  refine HandSHeadRun.head_any (r := OpenLaw.row PySem.Challenge.rw_listviews_k42_whole_steps_of_operations) (q := view (OpenLaw.row PySem.Challenge.rw_listviews_k42_whole_steps_of_operations).prog [67]) (H := G.hk) (ob := G.ob) (M := 20000) (loose := G.looseX) (d := HandSHeadRun.topDef (OpenLaw.row PySem.Challenge.rw_listviews_k42_whole_steps_of_operations).prog 67) (kwd := []) G.ob_eq
    (by kernel_rfl) (fun s => by kernel_rfl) G.run (by kernel_rfl) (by kernel_rfl) (by kernel_rfl) (by rfl) (by first | assumption | decide +kernel) (by decide +kernel) ⟨rfl, rfl, rfl, rfl, rfl, by decide +kernel⟩ ?hw ?hc
  case hw => w_witness2
  case hc =>
    refine G.walk_goE (l := PySem.Challenge.rw_listviews_k42_whole_steps_of_operations) (n := 63) (k := 11) (x := "_law_script") rfl (by decide) (by kernel_rfl) ⟨rfl, by decide, by decide⟩ ?F
    intro w mg fa h Y GX hmg0
    obtain ⟨K, KX, c⟩ := Y
    have hmg : mg ("law" : PySem.Str) = some (.ref fa) := by
      have e : (HandSHeadRun.topDef (OpenLaw.row PySem.Challenge.rw_listviews_k42_whole_steps_of_operations).prog 67).name = ("law" : PySem.Str) := by kernel_rfl
      rw [← e]
      exact hmg0
    obtain ⟨fd, hb, hF⟩ := G.facts (w := w) KX GX hmg c
    exact ⟨K, fd, G.spLaw K, KX, hb, fun H a ns hl _ hS => ⟨a, ns, rfl, hS, hl, fun _ => rfl⟩, hF⟩
